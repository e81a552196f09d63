import Derived.BigQuiet
import Derived.Lib.Mul64
import Derived.Deep.Cut
import Derived.Deep.RegionHeld
import Derived.Shelf.Abstract
import Derived.BigRegion
import Derived.Test.YtkeepngaaleakaaGreatDoorM04
namespace Go.Proofs.YtkeepngaaleakaaGreatDoor
open Go.ChangeShapes Go.WideShapes Go.ChangeAt Go.RowKit
abbrev boxV (A:Option Addr) (n c:Nat) (A':Option Addr) (n' c':Nat):Value:=.agg #[.slice A n c,.slice A' n' c']
def BoxAt (w:World) (b:Nat) (A:Option Addr) (n c:Nat) (A':Option Addr) (n' c':Nat):Prop :=
  w.cell? ⟨b,0,none⟩ = some (.slice A n c)∧w.cell? ⟨b,1,none⟩ = some (.slice A' n' c')
theorem boxAt_new (w:World) (A:Option Addr) (n c:Nat) (A':Option Addr) (n' c':Nat):BoxAt (w.alloc (.cells #[.slice A n c,.slice A' n' c'] 25)) w.heap.size A n c A' n' c' :=
  ⟨by rw [World.cell?_alloc_new];rfl,by rw [World.cell?_alloc_new];rfl⟩
theorem BoxAt.below {w w':World} {b C:Nat} {A:Option Addr} {n c:Nat} {A':Option Addr} {n' c':Nat} (h:BoxAt w b A n c A' n' c') (hb:Below C w w') (hC:b < C):BoxAt w' b A n c A' n' c' :=
  ⟨(hb.cell (p:=⟨b,0,none⟩) hC).trans h.1,(hb.cell (p:=⟨b,1,none⟩) hC).trans h.2⟩
/-! ### alike -/
theorem balike_c (A A':Option Addr) (n c n' c':Nat) (w:World) (hn:n≤maxLen) :
    Calls Tryz.prog 216 #[.slice A n c,.slice A' n' c'] w fun e w' => e = .returned (.bool (decide ((1≤n∧n≤16)∧n = n')))∧w = w':=by
  by_cases h:1≤n∧n≤16
  · obtain ⟨h1,h2⟩:=h
    unfold maxLen at hn
    go_enter Tryz.func216,Tryz.ntmps216
    go_wp2_with (go_at_call 150;refine (right_yes _ _ _ _ h1 h2).mono ?_;rintro e w' ⟨rfl,rfl⟩)
    all_goals go_ret
    all_goals refine ⟨ret_bool ?_,rfl⟩
    all_goals rw [Bool.eq_iff_iff]
    all_goals simp
    all_goals omega
  · have Hn:=Lib.hid hn
    have H:=Lib.hid h
    clear h
    unfold maxLen at hn
    go_enter Tryz.func216,Tryz.ntmps216
    go_wp2_with (go_at_call 150;refine (right_no _ _ _ _ Hn.out H.out).mono ?_;rintro e w' ⟨rfl,rfl⟩)
    all_goals go_ret
    all_goals refine ⟨ret_bool ?_,rfl⟩
    have:=H.out
    rw [Bool.eq_iff_iff]
    simp
    omega
theorem balike_yes (A A':Option Addr) (n c n' c':Nat) (w:World) (h1:1≤n) (h16:n≤16) (h:n = n') :
    Calls Tryz.prog 216 #[.slice A n c,.slice A' n' c'] w fun e w' => e = .returned (.bool true)∧w = w' :=
  (balike_c A A' n c n' c' w (by unfold maxLen;omega)).mono fun _ _ ⟨he,hw⟩ => ⟨by rw [he,decide_eq_true ⟨⟨h1,h16⟩,h⟩],hw⟩
theorem balike_no (A A':Option Addr) (n c n' c':Nat) (w:World) (hn:n≤maxLen) (h:¬ ((1≤n∧n≤16)∧n = n')) :
    Calls Tryz.prog 216 #[.slice A n c,.slice A' n' c'] w fun e w' => e = .returned (.bool false)∧w = w' :=
  (balike_c A A' n c n' c' w hn).mono fun _ _ ⟨he,hw⟩ => ⟨by rw [he,decide_eq_false h],hw⟩
/-! ### Right -/
theorem bright_yes (A A':Option Addr) (n c n' c':Nat) (w:World) (h1:1≤n) (h16:n≤16) (h:n = n') :
    Calls Tryz.prog 161 #[boxV A n c A' n' c'] w fun e w' => e = .returned (.bool true)∧w' = w.alloc (.cells #[.slice A n c,.slice A' n' c'] 25):=by
  have H:=Lib.hid h
  clear h
  go_enter Tryz.func161,Tryz.ntmps161
  go_wp2_with (go_at_call 216;refine (balike_yes _ _ _ _ _ _ _ h1 h16 H.out).mono ?_;rintro e w' ⟨rfl,rfl⟩)
  go_ret
  exact ⟨rfl,rfl⟩
theorem bright_no (A A':Option Addr) (n c n' c':Nat) (w:World) (hn:n≤maxLen) (h:¬ ((1≤n∧n≤16)∧n = n')) :
    Calls Tryz.prog 161 #[boxV A n c A' n' c'] w fun e w' => e = .returned (.bool false)∧w' = w.alloc (.cells #[.slice A n c,.slice A' n' c'] 25):=by
  have H:=Lib.hid h
  have Hn:=Lib.hid hn
  clear h hn
  go_enter Tryz.func161,Tryz.ntmps161
  go_wp2_with (go_at_call 216;refine (balike_no _ _ _ _ _ _ _ Hn.out H.out).mono ?_;rintro e w' ⟨rfl,rfl⟩)
  go_ret
  exact ⟨rfl,rfl⟩
/-! ### sum,product,difference -/
abbrev maskV (k lo hi:Int):Value:=.agg #[.int .i64 k,.int .i64 lo,.int .i64 hi]
def MaskAt (w:World) (b:Nat) (k lo hi:Int):Prop :=
  w.cell? ⟨b,0,none⟩ = some (.int .i64 k)∧w.cell? ⟨b,1,none⟩ = some (.int .i64 lo)∧w.cell? ⟨b,2,none⟩ = some (.int .i64 hi)
theorem maskAt_new (w:World) (k lo hi:Int):MaskAt (w.alloc (.cells #[.int .i64 k,.int .i64 lo,.int .i64 hi] 222)) w.heap.size k lo hi :=
  ⟨by rw [World.cell?_alloc_new];rfl,by rw [World.cell?_alloc_new];rfl,by rw [World.cell?_alloc_new];rfl⟩
theorem MaskAt.below {w w':World} {b C:Nat} {k lo hi:Int} (h:MaskAt w b k lo hi) (hb:Below C w w') (hC:b < C):MaskAt w' b k lo hi :=
  ⟨(hb.cell (p:=⟨b,0,none⟩) hC).trans h.1,(hb.cell (p:=⟨b,1,none⟩) hC).trans h.2.1,(hb.cell (p:=⟨b,2,none⟩) hC).trans h.2.2⟩
theorem MaskAt.drew {w:World} {b:Nat} {k lo hi:Int} (h:MaskAt w b k lo hi):MaskAt w.drew b k lo hi:=h
def MRight (k lo hi:Int):Prop:=(1≤k∧k≤16)∧(0≤lo∧lo < ((2 ^ k.toNat:Nat):Int))∧(0≤hi∧hi < ((2 ^ k.toNat:Nat):Int))
instance mright_dec (k lo hi:Int):Decidable (MRight k lo hi):=by unfold MRight;infer_instance
def I64 (x:Int):Prop:=-9223372036854775808≤x∧x≤9223372036854775807
theorem i64_nat {a:Nat} (h:a < 65536):I64 (a:Int):=⟨by omega,by omega⟩
theorem pow16 {k:Nat} (h:k≤16):2 ^ k≤65536:=Nat.pow_le_pow_right (n:=2) (by omega) h
theorem i64_pow {a k:Nat} (h:k≤16) (ha:a < 2 ^ k):I64 (a:Int):=i64_nat (by have:=pow16 h;omega)
theorem mright_nat {k lo hi:Nat} (h1:1≤k) (h2:k≤16) (h3:lo < 2 ^ k) (h4:hi < 2 ^ k):MRight (k:Int) (lo:Int) (hi:Int) :=
  ⟨⟨by omega,by omega⟩,⟨by omega,by simpa using Int.ofNat_lt.2 h3⟩,⟨by omega,by simpa using Int.ofNat_lt.2 h4⟩⟩
set_option maxRecDepth 100000 in
theorem mright_c (k lo hi:Int) (w:World) (r:Bool) (hr:decide (MRight k lo hi) = r) (bk:I64 k) (bl:I64 lo) (bh:I64 hi) :
    Calls Tryz.prog 256 #[maskV k lo hi] w fun e w' => e = .returned (.bool r)∧Below w.heap.size w w':=by
  have hbel:=below_alloc w (.cells #[.int .i64 k,.int .i64 lo,.int .i64 hi] 222)
  obtain ⟨q0,q1,q2⟩:=maskAt_new w k lo hi
  by_cases hk:1≤k∧k≤16
  · obtain ⟨n,rfl⟩:∃ n:Nat,k = (n:Int):=⟨k.toNat,by omega⟩
    have hn:n≤16:=by omega
    have hp:=pow16 hn
    have hp0:=Nat.two_pow_pos n
    have hb:=Mk.right_bits hn bl.1 bl.2 bh.1 bh.2
    have Hb:Hid ((bits .andNot .i64 (bits .or .i64 lo hi) (wrap64 (wrap64 (2 ^ n) - 1)) == 0) = r):=Lib.hid (by
      have e1:wrap64 (2 ^ n) = ((2 ^ n:Nat):Int):=by
        rw [show (2:Int) ^ n = ((2 ^ n:Nat):Int) by simp];exact IntWalk.wrap64_in _ (by omega)
      have e2:wrap64 (((2 ^ n:Nat):Int) - 1) = ((2 ^ n - 1:Nat):Int):=by
        rw [IntWalk.wrap64_in _ (by omega)];omega
      rw [e1,e2,← hr,Bool.eq_iff_iff,beq_iff_eq,decide_eq_true_eq,hb]
      exact ⟨fun h => ⟨hk,h⟩,fun h => And.right h⟩)
    clear hr hb bk bl bh
    go_enter Tryz.func256,Tryz.ntmps256
    go_wp2
    go_ret
    exact ⟨by rw [← Hb.out];rfl,hbel⟩
  · have Hr:Hid (r = false):=Lib.hid (by rw [← hr];exact decide_eq_false fun h => hk (And.left h))
    clear hr
    by_cases c:k < 1
    · have d1:decide (k < 1) = true:=decide_eq_true c
      clear hk c
      go_enter Tryz.func256,Tryz.ntmps256
      go_wp2
      go_ret
      exact ⟨by rw [Hr.out];rfl,hbel⟩
    · have d1:decide (k < 1) = false:=decide_eq_false c
      have d2:decide (16 < k) = true:=decide_eq_true (by omega)
      clear hk c
      go_enter Tryz.func256,Tryz.ntmps256
      go_wp2
      go_ret
      exact ⟨by rw [Hr.out];rfl,hbel⟩
/-! ### Has -/
theorem mhas_no (k lo hi a:Int) (w:World) (h:¬ MRight k lo hi) (bk:I64 k) (bl:I64 lo) (bh:I64 hi) :
    Calls Tryz.prog 220 #[maskV k lo hi,.int .i64 a] w fun e w' => e = .returned (.bool false)∧Below w.heap.size w w':=by
  have hbel:=below_alloc w (.cells #[.int .i64 k,.int .i64 lo,.int .i64 hi] 222)
  obtain ⟨q0,q1,q2⟩:=maskAt_new w k lo hi
  have Hb:=Lib.hid (And.intro bk (And.intro bl bh))
  have Hr:Hid (decide (MRight k lo hi) = false):=Lib.hid (decide_eq_false h)
  clear bk bl bh h
  go_enter Tryz.func220,Tryz.ntmps220
  go_wp2_with fail
  refine (mright_c k lo hi _ false Hr.out Hb.out.1 Hb.out.2.1 Hb.out.2.2).mono ?_
  rintro e w1 ⟨rfl,hb1⟩
  go_wp2_with fail
  go_ret
  exact ⟨rfl,Below.andThen hbel hb1⟩
theorem mhas_yes (k lo hi:Nat) (a:Int) (w:World) (r:Bool) (hr:Mk.hasI k lo hi a = r) (h1:1≤k) (h2:k≤16) (h3:lo < 2 ^ k) (h4:hi < 2 ^ k) (ba:I64 a) :
    Calls Tryz.prog 220 #[maskV (k:Int) (lo:Int) (hi:Int),.int .i64 a] w fun e w' => e = .returned (.bool r)∧Below w.heap.size w w':=by
  have hbel:=below_alloc w (.cells #[.int .i64 (k:Int),.int .i64 (lo:Int),.int .i64 (hi:Int)] 222)
  have hq:=maskAt_new w (k:Int) (lo:Int) (hi:Int)
  have Hb:=Lib.hid (And.intro (i64_nat (show k < 65536 by omega)) (And.intro (i64_pow h2 h3) (i64_pow h2 h4)))
  have Hr:Hid (decide (MRight (k:Int) (lo:Int) (hi:Int)) = true):=Lib.hid (decide_eq_true (mright_nat h1 h2 h3 h4))
  have hx:=Mk.has_bits h2 h3 h4 ba.1 ba.2
  rw [hr] at hx
  obtain ⟨x1,hx1⟩:∃ x,(bits .andNot .i64 (lo:Int) a == 0) = x:=⟨_,rfl⟩
  obtain ⟨x2,hx2⟩:∃ x,(bits .andNot .i64 a (hi:Int) == 0) = x:=⟨_,rfl⟩
  have Hx:Hid ((x1 && x2) = r):=Lib.hid (by
    rw [← hx,← hx1,← hx2]
    congr 1)
  clear hx hr ba h1 h2 h3 h4
  go_enter Tryz.func220,Tryz.ntmps220
  go_wp2_with fail
  refine (mright_c k lo hi _ true Hr.out Hb.out.1 Hb.out.2.1 Hb.out.2.2).mono ?_
  rintro e w1 ⟨rfl,hb1⟩
  obtain ⟨q0,q1,q2⟩:=hq.below hb1 (by simp)
  cases x1
  · go_wp2_with fail
    go_ret
    exact ⟨by rw [← Hx.out];rfl,Below.andThen hbel hb1⟩
  · go_wp2_with fail
    go_ret
    exact ⟨by rw [← Hx.out,← hx2];rfl,Below.andThen hbel hb1⟩
/-! ### None,First -/
theorem mnone_no (k lo hi:Int) (w:World) (h:¬ MRight k lo hi) (bk:I64 k) (bl:I64 lo) (bh:I64 hi) :
    Calls Tryz.prog 265 #[maskV k lo hi] w fun e w' => e = .returned (.bool true)∧Below w.heap.size w w':=by
  have hbel:=below_alloc w (.cells #[.int .i64 k,.int .i64 lo,.int .i64 hi] 222)
  obtain ⟨q0,q1,q2⟩:=maskAt_new w k lo hi
  have Hb:=Lib.hid (And.intro h (And.intro bk (And.intro bl bh)))
  clear bk bl bh h
  go_enter Tryz.func265,Tryz.ntmps265
  go_wp2_with fail
  refine (mhas_no k lo hi lo _ Hb.out.1 Hb.out.2.1 Hb.out.2.2.1 Hb.out.2.2.2).mono ?_
  rintro e w1 ⟨rfl,hb1⟩
  go_wp2_with fail
  go_ret
  exact ⟨rfl,Below.andThen hbel hb1⟩
theorem mnone_yes (k lo hi:Nat) (w:World) (r:Bool) (hr:Mk.nothing lo hi = r) (h1:1≤k) (h2:k≤16) (h3:lo < 2 ^ k) (h4:hi < 2 ^ k) :
    Calls Tryz.prog 265 #[maskV (k:Int) (lo:Int) (hi:Int)] w fun e w' => e = .returned (.bool r)∧Below w.heap.size w w':=by
  have hbel:=below_alloc w (.cells #[.int .i64 (k:Int),.int .i64 (lo:Int),.int .i64 (hi:Int)] 222)
  obtain ⟨q0,q1,q2⟩:=maskAt_new w (k:Int) (lo:Int) (hi:Int)
  have Hb:=Lib.hid (And.intro h1 (And.intro h2 (And.intro h3 h4)))
  have Hr:Hid (Mk.hasI k lo hi (lo:Int) = !r):=Lib.hid (by rw [Mk.hasI_nat,Mk.has_low h3,hr])
  clear h1 h2 h3 h4 hr
  go_enter Tryz.func265,Tryz.ntmps265
  go_wp2_with fail
  refine (mhas_yes k lo hi lo _ _ Hr.out Hb.out.1 Hb.out.2.1 Hb.out.2.2.1 Hb.out.2.2.2 (i64_pow Hb.out.2.1 Hb.out.2.2.1)).mono ?_
  rintro e w1 ⟨rfl,hb1⟩
  go_wp2_with fail
  go_ret
  exact ⟨ret_bool (by simp),Below.andThen hbel hb1⟩
theorem mfirst_no (k lo hi:Int) (w:World) (h:¬ MRight k lo hi) (bk:I64 k) (bl:I64 lo) (bh:I64 hi) :
    Calls Tryz.prog 255 #[maskV k lo hi] w fun e w' => e = .returned (.tuple #[.int .i64 0,.bool false])∧Below w.heap.size w w':=by
  have hbel:=below_alloc w (.cells #[.int .i64 k,.int .i64 lo,.int .i64 hi] 222)
  obtain ⟨q0,q1,q2⟩:=maskAt_new w k lo hi
  have Hb:=Lib.hid (And.intro h (And.intro bk (And.intro bl bh)))
  clear bk bl bh h
  go_enter Tryz.func255,Tryz.ntmps255
  go_wp2_with fail
  refine (mnone_no k lo hi _ Hb.out.1 Hb.out.2.1 Hb.out.2.2.1 Hb.out.2.2.2).mono ?_
  rintro e w1 ⟨rfl,hb1⟩
  go_wp2_with fail
  go_ret2
  exact ⟨rfl,Below.andThen hbel hb1⟩
theorem mfirst_yes (k lo hi:Nat) (w:World) (r:Bool) (x:Nat) (hr:Mk.nothing lo hi = r) (hx:(if r = true then 0 else lo) = x) (h1:1≤k) (h2:k≤16) (h3:lo < 2 ^ k) (h4:hi < 2 ^ k) :
    Calls Tryz.prog 255 #[maskV (k:Int) (lo:Int) (hi:Int)] w fun e w' => e = .returned (.tuple #[.int .i64 (x:Int),.bool (!r)])∧Below w.heap.size w w':=by
  have hbel:=below_alloc w (.cells #[.int .i64 (k:Int),.int .i64 (lo:Int),.int .i64 (hi:Int)] 222)
  have hq:=maskAt_new w (k:Int) (lo:Int) (hi:Int)
  obtain ⟨q0,q1,q2⟩:=maskAt_new w (k:Int) (lo:Int) (hi:Int)
  have Hb:=Lib.hid (And.intro h1 (And.intro h2 (And.intro h3 h4)))
  have Hr:=Lib.hid hr
  clear h1 h2 h3 h4 hr
  go_enter Tryz.func255,Tryz.ntmps255
  go_wp2_with fail
  refine (mnone_yes k lo hi _ r Hr.out Hb.out.1 Hb.out.2.1 Hb.out.2.2.1 Hb.out.2.2.2).mono ?_
  rintro e w1 ⟨rfl,hb1⟩
  clear q0 q1 q2
  obtain ⟨q0,q1,q2⟩:=hq.below hb1 (by simp)
  cases r
  · have hx:lo = x:=by simpa using hx
    subst hx
    go_wp2_with fail
    go_ret2
    exact ⟨rfl,Below.andThen hbel hb1⟩
  · have hx:0 = x:=by simpa using hx
    subst hx
    go_wp2_with fail
    go_ret2
    exact ⟨rfl,Below.andThen hbel hb1⟩
theorem Pts.at {w:World} {B:Nat} {A:Option Addr} {us:List Nat} (h:Pts w B A us) (h1:1≤us.length) :
    ∃ b off,A = some ⟨b,off,none⟩∧b < B∧∀ i,i < us.length→w.cell? ⟨b,off + i,none⟩ = some (.int .u64 (Bx.g us i:Int)):=by
  obtain ⟨b,off,hA,hb,hc⟩:=h.open_ (by rintro rfl;simp at h1)
  exact ⟨b,off,hA,hb,fun i hi => hc i _ (Bx.g_get hi)⟩
/-! ### the same,said of what is left of the world -/
theorem bright_y (A A':Option Addr) (n c n' c':Nat) (w:World) (h1:1≤n) (h16:n≤16) (h:n = n') :
    Calls Tryz.prog 161 #[boxV A n c A' n' c'] w fun e w' => e = .returned (.bool true)∧Below w.heap.size w w' :=
  (bright_yes A A' n c n' c' w h1 h16 h).mono fun _ _ ⟨he,hw⟩ => ⟨he,by rw [hw];exact below_alloc _ _⟩
theorem bright_n (A A':Option Addr) (n c n' c':Nat) (w:World) (hn:n≤maxLen) (h:¬ ((1≤n∧n≤16)∧n = n')) :
    Calls Tryz.prog 161 #[boxV A n c A' n' c'] w fun e w' => e = .returned (.bool false)∧Below w.heap.size w w' :=
  (bright_no A A' n c n' c' w hn h).mono fun _ _ ⟨he,hw⟩ => ⟨he,by rw [hw];exact below_alloc _ _⟩
/-! ### Empty -/
/-! ### Volume -/
def Bx0 (w:World) (b:Nat) (x y:Value):Prop:=w.cell? ⟨b,0,none⟩ = some x∧w.cell? ⟨b,1,none⟩ = some y∧w.frozen? ⟨b,0,none⟩ = false∧w.frozen? ⟨b,1,none⟩ = false
theorem bx0_at {w:World} {b:Nat} {x y:Value} {e:TypeId} (h:w.heap[b]? = some (.cells #[x,y] e (0,0))):Bx0 w b x y :=
  ⟨by rw [cell_of_row w b _ _ e (0,0) h];rfl,by rw [cell_of_row w b _ _ e (0,0) h];rfl,frozen_of_row w b _ _ e h,frozen_of_row w b _ _ e h⟩
theorem bx0_block {w w':World} {b:Nat} {x y:Value} (h:Bx0 w b x y) (hb:w'.heap[b]? = w.heap[b]?):Bx0 w' b x y :=
  ⟨(World.cell?_of_block (w:=w) (a:=⟨b,0,none⟩) hb).trans h.1,(World.cell?_of_block (w:=w) (a:=⟨b,1,none⟩) hb).trans h.2.1,(World.frozen?_of_block (w:=w) (a:=⟨b,0,none⟩) hb).trans h.2.2.1,(World.frozen?_of_block (w:=w) (a:=⟨b,1,none⟩) hb).trans h.2.2.2⟩
theorem bx0_two {w:World} {b:Nat} {u v:Value} (h:Bx0 w b u v) (x y:Value) :
    ((w.setCell ⟨b,0,none⟩ x).setCell ⟨b,1,none⟩ y).cell? ⟨b,0,none⟩ = some x∧((w.setCell ⟨b,0,none⟩ x).setCell ⟨b,1,none⟩ y).cell? ⟨b,1,none⟩ = some y:=by
  have h1:(w.setCell ⟨b,0,none⟩ x).cell? ⟨b,1,none⟩ = some v:=by rw [World.cell?_setCell_other _ _ _ _ (by simp)];exact h.2.1
  refine ⟨?_,World.cell?_setCell_same _ _ _ h1⟩
  rw [World.cell?_setCell_other _ _ _ _ (by simp)]
  exact World.cell?_setCell_same _ _ _ h.1
theorem not_keep (k:Nat) (hk:k≤64):bits .xor .u64 18446744073709551615 (IntKind.u64.wrap (18446744073709551615 * 2 ^ k)) = ((2 ^ k - 1:Nat):Int):=by
  have hp:=Nat.two_pow_pos k
  have hp2:=Bx.pow_le_64 hk
  rw [keep_nat k hk]
  have h:=bits_xor_u64_nat 18446744073709551615 (18446744073709551616 - 2 ^ k) (by omega) (by omega)
  have e:(18446744073709551615:Nat) ^^^ (18446744073709551616 - 2 ^ k) = 2 ^ k - 1:=by
    apply Nat.eq_of_testBit_eq
    intro m
    rw [Nat.testBit_xor,show (18446744073709551615:Nat) = 2 ^ 64 - 1 from rfl,Nat.testBit_two_pow_sub_one,show (18446744073709551616:Nat) = 2 ^ 64 from rfl,show 2 ^ 64 - 2 ^ k = 2 ^ 64 - (2 ^ k - 1 + 1) by omega,
      Nat.testBit_two_pow_sub_succ (by omega),Nat.testBit_two_pow_sub_one]
    by_cases h1:m < k
    · simp [h1,show m < 64 by omega]
    · by_cases h2:m < 64 <;> simp [h1,h2]
  rw [e] at h
  exact h
/-! ### Around -/
/-! ### Cell -/
/-! ### alike -/
theorem malike_yes (A C C':Option Addr) (n c m d m' d':Nat) (w:World) (h1:1≤n) (h16:n≤16) (e1:m = n) (e2:m' = n) :
    Calls Tryz.prog 252 #[.slice A n c,boxV C m d C' m' d'] w fun e w' => e = .returned (.bool true)∧Below w.heap.size w w':=by
  subst e1 e2
  have hbel:=below_alloc w (.cells #[.slice C m' d,.slice C' m' d'] 25)
  obtain ⟨k0,k1⟩:=boxAt_new w C m' d C' m' d'
  go_enter Tryz.func252,Tryz.ntmps252
  go_wp2_with fail
  refine (right_yes _ _ _ _ h1 h16).mono ?_
  rintro e w' ⟨rfl,rfl⟩
  go_wp2_with fail
  go_ret
  exact ⟨ret_bool (by simp),hbel⟩
theorem malike_no (A C C':Option Addr) (n c m d m' d':Nat) (w:World) (hn:n≤maxLen) (h:¬ ((1≤n∧n≤16)∧m = n∧m' = n)) :
    Calls Tryz.prog 252 #[.slice A n c,boxV C m d C' m' d'] w fun e w' => e = .returned (.bool false)∧Below w.heap.size w w':=by
  have hbel:=below_alloc w (.cells #[.slice C m d,.slice C' m' d'] 25)
  obtain ⟨k0,k1⟩:=boxAt_new w C m d C' m' d'
  by_cases c1:1≤n∧n≤16
  · by_cases c2:m = n
    · have d1:((m:Int) == (n:Int)) = true:=by rw [beq_iff_eq];omega
      have d2:((m':Int) == (n:Int)) = false:=by rw [beq_eq_false_iff_ne];omega
      have H:=Lib.hid c1
      clear c1 c2 h hn
      go_enter Tryz.func252,Tryz.ntmps252
      go_wp2_with fail
      refine (right_yes _ _ _ _ H.out.1 H.out.2).mono ?_
      rintro e w' ⟨rfl,rfl⟩
      go_wp2_with fail
      go_ret
      exact ⟨ret_bool (by first | rfl | assumption),hbel⟩
    · have d1:((m:Int) == (n:Int)) = false:=by rw [beq_eq_false_iff_ne];omega
      have H:=Lib.hid c1
      clear c1 c2 h hn
      go_enter Tryz.func252,Tryz.ntmps252
      go_wp2_with fail
      refine (right_yes _ _ _ _ H.out.1 H.out.2).mono ?_
      rintro e w' ⟨rfl,rfl⟩
      go_wp2_with fail
      go_ret
      exact ⟨rfl,hbel⟩
  · have Hn:=Lib.hid hn
    have H:=Lib.hid c1
    clear c1 h hn
    go_enter Tryz.func252,Tryz.ntmps252
    go_wp2_with fail
    refine (right_no _ _ _ _ Hn.out H.out).mono ?_
    rintro e w' ⟨rfl,rfl⟩
    go_wp2_with fail
    go_ret
    exact ⟨rfl,hbel⟩
/-! ### halves -/
abbrev halvesV (a b c d:Nat):Value:=.agg #[.int .u64 (a:Int),.int .u64 (b:Int),.int .u64 (c:Int),.int .u64 (d:Int)]
theorem halves_bits (u l:Nat) (hu:u < 18446744073709551616) (hl:l≤63) :
    bits .andNot .u64 (u:Int) (bits .or .u64 (IntKind.u64.wrap (2 ^ l)) (IntKind.u64.wrap (IntKind.u64.wrap (2 ^ l) - 1))) = ((Mk.halfAt u l 0:Nat):Int) ∧
    bits .or .u64 ((Mk.halfAt u l 0:Nat):Int) (IntKind.u64.wrap (IntKind.u64.wrap (2 ^ l) - 1)) = ((Mk.halfAt u l 0 + (2 ^ l - 1):Nat):Int) ∧
    bits .or .u64 ((Mk.halfAt u l 0:Nat):Int) (IntKind.u64.wrap (2 ^ l)) = ((Mk.halfAt u l 1:Nat):Int) ∧
    bits .or .u64 ((Mk.halfAt u l 1:Nat):Int) (IntKind.u64.wrap (IntKind.u64.wrap (2 ^ l) - 1)) = ((Mk.halfAt u l 1 + (2 ^ l - 1):Nat):Int):=by
  have hp:=Nat.two_pow_pos l
  have h64:=Bx.pow_le_64 (show l + 1≤64 by omega)
  have b0:=Mk.half_lt (h:=0) hu (show l < 64 by omega) (by omega)
  have b1:=Mk.half_lt (h:=1) hu (show l < 64 by omega) (by omega)
  have e1:IntKind.u64.wrap (2 ^ l) = ((2 ^ l:Nat):Int):=by
    rw [Nat.pow_succ] at h64
    rw [show (2:Int) ^ l = ((2 ^ l:Nat):Int) by simp,IntKind.wrap_u64];omega
  have e2:IntKind.u64.wrap (((2 ^ l:Nat):Int) - 1) = ((2 ^ l - 1:Nat):Int):=by
    rw [Nat.pow_succ] at h64
    rw [IntKind.wrap_u64];omega
  rw [e1,e2]
  have h64':=h64
  rw [Nat.pow_succ] at h64'
  refine ⟨?_,?_,?_,?_⟩
  · rw [bits_or_u64_nat _ _ (by omega) (by omega),Mk.pow_or,Mk.andNot_u64 _ _ hu (by omega),Mk.less_cut,Mk.half_zero]
  · rw [bits_or_u64_nat _ _ (by omega) (by omega),Mk.half_or]
  · rw [bits_or_u64_nat _ _ (by omega) (by omega),Mk.half_zero,Mk.cut_or,Mk.half_one]
  · rw [bits_or_u64_nat _ _ (by omega) (by omega),Mk.half_or]
theorem mhalves_c (u l:Nat) (w:World) (hu:u < 18446744073709551616) (hl:l≤63) :
    Calls Tryz.prog 254 #[.int .u64 (u:Int),.int .i64 (l:Int)] w fun e w' =>
      e = .returned (halvesV (Mk.halfAt u l 0) (Mk.halfAt u l 0 + (2 ^ l - 1)) (Mk.halfAt u l 1) (Mk.halfAt u l 1 + (2 ^ l - 1)))∧Below w.heap.size w w':=by
  have E:=Lib.hid (halves_bits u l hu hl)
  go_enter Tryz.func254,Tryz.ntmps254
  go_wp2
  rw [E.out.1,E.out.2.1,E.out.2.2.1,E.out.2.2.2]
  refine bodyPost_ret (v:=halvesV (Mk.halfAt u l 0) (Mk.halfAt u l 0 + (2 ^ l - 1)) (Mk.halfAt u l 1) (Mk.halfAt u l 1 + (2 ^ l - 1))) ?_ rfl ⟨rfl,below_alloc _ _⟩
  simp [results,Tryz.results254,go_sem]
/-! ### leaves -/
theorem mleaves_c (a b c d lo hi:Nat) (w:World) :
    Calls Tryz.prog 253 #[halvesV a b c d,.agg #[.int .u64 (lo:Int),.int .u64 (hi:Int)]] w fun e w' =>
      e = .returned (.agg #[.bool (decide (max a lo≤min b hi)),.bool (decide (max c lo≤min d hi))])∧Below w.heap.size w w':=by
  have i0:∀ w:World,(Instr.index 323 (halvesV a b c d) (.int .i64 0)).run Tryz.prog w = .ok (.agg #[.int .u64 (a:Int),.int .u64 (b:Int)]) w:=fun _ => by kernel_rfl
  have i1:∀ w:World,(Instr.index 323 (halvesV a b c d) (.int .i64 1)).run Tryz.prog w = .ok (.agg #[.int .u64 (c:Int),.int .u64 (d:Int)]) w:=fun _ => by kernel_rfl
  go_enter Tryz.func253,Tryz.ntmps253
  go_wp2
  refine wp_loop_rounds 3 ?_
  rw [rounds_succ]
  go_wp2
  rw [rounds_succ]
  go_wp2
  rw [rounds_succ]
  go_wp2
  have e1:(max (a:Int) (lo:Int)≤min (b:Int) (hi:Int)) = (max a lo≤min b hi):=propext (by omega)
  have e2:(max (c:Int) (lo:Int)≤min (d:Int) (hi:Int)) = (max c lo≤min d hi):=propext (by omega)
  simp only [e1,e2]
  refine bodyPost_ret (v:=.agg #[.bool (decide (max a lo≤min b hi)),.bool (decide (max c lo≤min d hi))]) (by simp [results,Tryz.results253,go_sem]) rfl ⟨rfl,?_⟩
  exact (((((below_alloc _ _).alloc (by simp) _).alloc (by simp;omega) _).alloc (by simp;omega) _).alloc (by simp;omega) _).alloc (by simp;omega) _
theorem mleaves_at (u l lo hi:Nat) (w:World) (b0 b1:Bool) (hb0:Mk.leaves u l 0 lo hi = b0) (hb1:Mk.leaves u l 1 lo hi = b1) :
    Calls Tryz.prog 253 #[halvesV (Mk.halfAt u l 0) (Mk.halfAt u l 0 + (2 ^ l - 1)) (Mk.halfAt u l 1) (Mk.halfAt u l 1 + (2 ^ l - 1)),.agg #[.int .u64 (lo:Int),.int .u64 (hi:Int)]] w fun e w' =>
      e = .returned (.agg #[.bool b0,.bool b1])∧Below w.heap.size w w':=by
  rw [Mk.leaves_max] at hb0 hb1
  subst hb0 hb1
  exact mleaves_c _ _ _ _ lo hi w
def M0 (w:World) (b:Nat) (x y z:Int):Prop:=MaskAt w b x y z∧w.frozen? ⟨b,0,none⟩ = false∧w.frozen? ⟨b,1,none⟩ = false∧w.frozen? ⟨b,2,none⟩ = false
theorem m0_at {w:World} {b:Nat} {x y z:Int} (h:w.heap[b]? = some (.cells #[.int .i64 x,.int .i64 y,.int .i64 z] 222 (0,0))):M0 w b x y z :=
  ⟨⟨by rw [cell_of_row w b _ _ 222 (0,0) h];rfl,by rw [cell_of_row w b _ _ 222 (0,0) h];rfl,by rw [cell_of_row w b _ _ 222 (0,0) h];rfl⟩,frozen_of_row w b _ _ 222 h,frozen_of_row w b _ _ 222 h,frozen_of_row w b _ _ 222 h⟩
theorem m0_block {w w':World} {b:Nat} {x y z:Int} (h:M0 w b x y z) (hb:w'.heap[b]? = w.heap[b]?):M0 w' b x y z :=
  ⟨⟨(World.cell?_of_block (w:=w) (a:=⟨b,0,none⟩) hb).trans h.1.1,(World.cell?_of_block (w:=w) (a:=⟨b,1,none⟩) hb).trans h.1.2.1,(World.cell?_of_block (w:=w) (a:=⟨b,2,none⟩) hb).trans h.1.2.2⟩,
    (World.frozen?_of_block (w:=w) (a:=⟨b,0,none⟩) hb).trans h.2.1,(World.frozen?_of_block (w:=w) (a:=⟨b,1,none⟩) hb).trans h.2.2.1,(World.frozen?_of_block (w:=w) (a:=⟨b,2,none⟩) hb).trans h.2.2.2⟩
theorem m0_set1 {w:World} {b:Nat} {x y z:Int} (h:M0 w b x y z) (v:Int):M0 (w.setCell ⟨b,1,none⟩ (.int .i64 v)) b x v z:=by
  refine ⟨⟨?_,World.cell?_setCell_same _ _ _ h.1.2.1,?_⟩,?_,?_,?_⟩
  · rw [World.cell?_setCell_other _ _ _ _ (by simp)];exact h.1.1
  · rw [World.cell?_setCell_other _ _ _ _ (by simp)];exact h.1.2.2
  · rw [World.frozen?_setCell];exact h.2.1
  · rw [World.frozen?_setCell];exact h.2.2.1
  · rw [World.frozen?_setCell];exact h.2.2.2
theorem m0_set2 {w:World} {b:Nat} {x y z:Int} (h:M0 w b x y z) (v:Int):M0 (w.setCell ⟨b,2,none⟩ (.int .i64 v)) b x y v:=by
  refine ⟨⟨?_,?_,World.cell?_setCell_same _ _ _ h.1.2.2⟩,?_,?_,?_⟩
  · rw [World.cell?_setCell_other _ _ _ _ (by simp)];exact h.1.1
  · rw [World.cell?_setCell_other _ _ _ _ (by simp)];exact h.1.2.1
  · rw [World.frozen?_setCell];exact h.2.1
  · rw [World.frozen?_setCell];exact h.2.2.1
  · rw [World.frozen?_setCell];exact h.2.2.2
def OSt (w wr:World) (mb:Nat) (A:Option Addr) (n c:Nat) (A':Option Addr) (n' c':Nat) (x y z:Int):Prop :=
  Below w.heap.size w wr∧BoxAt wr w.heap.size A n c A' n' c'∧M0 wr (w.heap.size + 1) 0 0 0∧M0 wr mb x y z∧w.heap.size + 1 < mb∧mb < wr.heap.size
theorem OSt.step {w wr wx:World} {mb:Nat} {A:Option Addr} {n c:Nat} {A':Option Addr} {n' c':Nat} {x y z:Int} (h:OSt w wr mb A n c A' n' c' x y z) (hb:Below wr.heap.size wr wx):OSt w wx mb A n c A' n' c' x y z:=by
  obtain ⟨h1,h2,h3,h4,h5,h6⟩:=h
  exact ⟨Below.andThen h1 hb,h2.below hb (by omega),m0_block h3 (hb.block _ (by omega)),m0_block h4 (hb.block _ h6),h5,Nat.lt_of_lt_of_le h6 hb.size⟩
theorem OSt.drew {w wr:World} {mb:Nat} {A:Option Addr} {n c:Nat} {A':Option Addr} {n' c':Nat} {x y z:Int} (h:OSt w wr mb A n c A' n' c' x y z):OSt w wr.drew mb A n c A' n' c' x y z :=
  ⟨h.1.drew,h.2.1,h.2.2.1,h.2.2.2.1,h.2.2.2.2⟩
theorem OSt.set1 {w wr:World} {mb:Nat} {A:Option Addr} {n c:Nat} {A':Option Addr} {n' c':Nat} {x y z:Int} (h:OSt w wr mb A n c A' n' c' x y z) (v:Int):OSt w (wr.setCell ⟨mb,1,none⟩ (.int .i64 v)) mb A n c A' n' c' x v z:=by
  obtain ⟨h1,h2,h3,h4,h5,h6⟩:=h
  have e:∀ b,b≠mb→(wr.setCell ⟨mb,1,none⟩ (.int .i64 v)).heap[b]? = wr.heap[b]?:=fun b hb => Below.heap_setCell _ _ _ _ hb
  exact ⟨h1.setCell (p:=⟨mb,1,none⟩) (by show w.heap.size≤mb;omega) _,⟨(World.cell?_of_block (w:=wr) (a:=⟨w.heap.size,0,none⟩) (e _ (by show w.heap.size≠mb;omega))).trans h2.1,(World.cell?_of_block (w:=wr) (a:=⟨w.heap.size,1,none⟩) (e _ (by show w.heap.size≠mb;omega))).trans h2.2⟩,m0_block h3 (e _ (by omega)),m0_set1 h4 v,h5,by simpa using h6⟩
theorem OSt.set2 {w wr:World} {mb:Nat} {A:Option Addr} {n c:Nat} {A':Option Addr} {n' c':Nat} {x y z:Int} (h:OSt w wr mb A n c A' n' c' x y z) (v:Int):OSt w (wr.setCell ⟨mb,2,none⟩ (.int .i64 v)) mb A n c A' n' c' x y v:=by
  obtain ⟨h1,h2,h3,h4,h5,h6⟩:=h
  have e:∀ b,b≠mb→(wr.setCell ⟨mb,2,none⟩ (.int .i64 v)).heap[b]? = wr.heap[b]?:=fun b hb => Below.heap_setCell _ _ _ _ hb
  exact ⟨h1.setCell (p:=⟨mb,2,none⟩) (by show w.heap.size≤mb;omega) _,⟨(World.cell?_of_block (w:=wr) (a:=⟨w.heap.size,0,none⟩) (e _ (by show w.heap.size≠mb;omega))).trans h2.1,(World.cell?_of_block (w:=wr) (a:=⟨w.heap.size,1,none⟩) (e _ (by show w.heap.size≠mb;omega))).trans h2.2⟩,m0_block h3 (e _ (by omega)),m0_set2 h4 v,h5,by simpa using h6⟩
def OSt0 (w wr:World) (A:Option Addr) (n c:Nat) (A':Option Addr) (n' c':Nat):Prop :=
  Below w.heap.size w wr∧BoxAt wr w.heap.size A n c A' n' c'∧M0 wr (w.heap.size + 1) 0 0 0∧w.heap.size + 2≤wr.heap.size
theorem OSt0.new (w:World) (A:Option Addr) (n c:Nat) (A':Option Addr) (n' c':Nat):OSt0 w ((w.alloc (.cells #[.slice A n c,.slice A' n' c'] 25)).alloc (.cells #[.int .i64 0,.int .i64 0,.int .i64 0] 222)) A n c A' n' c' :=
  ⟨(below_alloc _ _).alloc (by simp) _,(boxAt_new w A n c A' n' c').below (below_alloc _ _) (by simp),m0_at (heap_at _ _ _ (by simp)),by simp⟩
theorem OSt0.step {w wr wx:World} {A:Option Addr} {n c:Nat} {A':Option Addr} {n' c':Nat} (h:OSt0 w wr A n c A' n' c') (hb:Below wr.heap.size wr wx):OSt0 w wx A n c A' n' c':=by
  obtain ⟨h1,h2,h3,h4⟩:=h
  exact ⟨Below.andThen h1 hb,h2.below hb (by omega),m0_block h3 (hb.block _ (by omega)),Nat.le_trans h4 hb.size⟩
theorem OSt0.mask {w wr:World} {A:Option Addr} {n c:Nat} {A':Option Addr} {n' c':Nat} (h:OSt0 w wr A n c A' n' c') (x y z:Int):OSt w (wr.alloc (.cells #[.int .i64 x,.int .i64 y,.int .i64 z] 222)) wr.heap.size A n c A' n' c' x y z:=by
  obtain ⟨h1,h2,h3,h4⟩:=h.step (below_alloc wr (.cells #[.int .i64 x,.int .i64 y,.int .i64 z] 222))
  exact ⟨h1,h2,h3,m0_at (heap_at _ _ _ rfl),by have:=h.2.2.2;omega,by simp⟩
theorem m0_out {w wr:World} {b:Nat} {a1 a2 a3:Int} (h:M0 wr b a1 a2 a3) (hb:Below w.heap.size w wr) (hle:w.heap.size≤b) (x y z:Int) :
    let v:=((wr.setCell ⟨b,0,none⟩ (.int .i64 x)).setCell ⟨b,1,none⟩ (.int .i64 y)).setCell ⟨b,2,none⟩ (.int .i64 z)
    MaskAt v b x y z∧Below w.heap.size w v:=by
  intro v
  have h0:M0 (wr.setCell ⟨b,0,none⟩ (.int .i64 x)) b x a2 a3:=by
    refine ⟨⟨World.cell?_setCell_same _ _ _ h.1.1,?_,?_⟩,?_,?_,?_⟩
    · rw [World.cell?_setCell_other _ _ _ _ (by simp)];exact h.1.2.1
    · rw [World.cell?_setCell_other _ _ _ _ (by simp)];exact h.1.2.2
    · rw [World.frozen?_setCell];exact h.2.1
    · rw [World.frozen?_setCell];exact h.2.2.1
    · rw [World.frozen?_setCell];exact h.2.2.2
  exact ⟨(m0_set2 (m0_set1 h0 y) z).1,((hb.setCell (p:=⟨b,0,none⟩) hle _).setCell (p:=⟨b,1,none⟩) hle _).setCell (p:=⟨b,2,none⟩) hle _⟩
/-! ### Of -/
set_option maxRecDepth 100000 in
theorem mof_dim (A C C':Option Addr) (n c m d m' d':Nat) (l:Int) (w:World) (hn:n≤maxLen) (h:¬ ((1≤n∧n≤16)∧m = n∧m' = n)) :
    Calls Tryz.prog 218 #[.slice A n c,.int .i64 l,boxV C m d C' m' d'] w fun e w' => e = .returned (.tuple #[maskV 0 0 0,.int .i64 2])∧Below w.heap.size w w':=by
  have H:=Lib.hid h
  have Hn:=Lib.hid hn
  clear h hn
  have s0:=OSt0.new w C m d C' m' d'
  have s0':=s0
  obtain ⟨-,⟨k0,k1⟩,-,-⟩:=s0'
  go_enter Tryz.func218,Tryz.ntmps218
  go_wp2_with fail
  refine (malike_no A C C' n c m d m' d' _ Hn.out H.out).mono ?_
  rintro e w1 ⟨rfl,hb1⟩
  have s1:=s0.step hb1
  have s1':=s1
  obtain ⟨-,-,⟨⟨r0,r1,r2⟩,f0,f1,f2⟩,-⟩:=s1'
  clear k0 k1
  go_wp2_with fail
  obtain ⟨⟨t0,t1,t2⟩,hbel⟩:=m0_out s1.2.2.1 s1.1 (by omega) 0 0 0
  refine bodyPost_ret (v:=.tuple #[maskV 0 0 0,.int .i64 2]) (by simp [results,Tryz.results218,go_sem,t0,t1,t2]) rfl ?_
  exact ⟨rfl,hbel⟩
set_option maxRecDepth 100000 in
theorem mof_arg (A C C':Option Addr) (n c m d m' d':Nat) (l:Int) (w:World) (h1:1≤n) (h16:n≤16) (e1:m = n) (e2:m' = n) (hl:l < 0∨63 < l) :
    Calls Tryz.prog 218 #[.slice A n c,.int .i64 l,boxV C m d C' m' d'] w fun e w' => e = .returned (.tuple #[maskV 0 0 0,.int .i64 3])∧Below w.heap.size w w':=by
  have E1:=Lib.hid e1
  have E2:=Lib.hid e2
  clear e1 e2
  have s0:=OSt0.new w C m d C' m' d'
  have s0':=s0
  obtain ⟨-,⟨k0,k1⟩,-,-⟩:=s0'
  go_enter Tryz.func218,Tryz.ntmps218
  go_wp2_with fail
  refine (malike_yes A C C' n c m d m' d' _ h1 h16 E1.out E2.out).mono ?_
  rintro e w1 ⟨rfl,hb1⟩
  have s1:=s0.step hb1
  have s1':=s1
  obtain ⟨-,-,⟨⟨r0,r1,r2⟩,f0,f1,f2⟩,-⟩:=s1'
  clear k0 k1
  obtain ⟨⟨t0,t1,t2⟩,hbel⟩:=m0_out s1.2.2.1 s1.1 (by omega) 0 0 0
  by_cases c:l < 0
  · have d1:decide (l < 0) = true:=decide_eq_true c
    go_wp2_with fail
    refine bodyPost_ret (v:=.tuple #[maskV 0 0 0,.int .i64 3]) (by simp [results,Tryz.results218,go_sem,t0,t1,t2]) rfl ?_
    exact ⟨rfl,hbel⟩
  · have d1:decide (l < 0) = false:=decide_eq_false c
    have d2:decide (63 < l) = true:=decide_eq_true (by omega)
    go_wp2_with fail
    refine bodyPost_ret (v:=.tuple #[maskV 0 0 0,.int .i64 3]) (by simp [results,Tryz.results218,go_sem,t0,t1,t2]) rfl ?_
    exact ⟨rfl,hbel⟩
theorem four_below {w w':World} {C b b1 o1 b2 o2:Nat} {x y u v:Value} (h:w.cell? ⟨b,0,none⟩ = some x∧w.cell? ⟨b,1,none⟩ = some y∧w.cell? ⟨b1,o1,none⟩ = some u∧w.cell? ⟨b2,o2,none⟩ = some v) (hb:Below C w w') (h0:b < C) (h1:b1 < C) (h2:b2 < C) :
    w'.cell? ⟨b,0,none⟩ = some x∧w'.cell? ⟨b,1,none⟩ = some y∧w'.cell? ⟨b1,o1,none⟩ = some u∧w'.cell? ⟨b2,o2,none⟩ = some v :=
  ⟨(hb.cell (p:=⟨b,0,none⟩) h0).trans h.1,(hb.cell (p:=⟨b,1,none⟩) h0).trans h.2.1,(hb.cell (p:=⟨b1,o1,none⟩) h1).trans h.2.2.1,(hb.cell (p:=⟨b2,o2,none⟩) h2).trans h.2.2.2⟩
theorem num_bits {f:Nat→Bool} {j k:Nat} (hk:k≤16) (h:j < k) (hf:f j = true):bits .or .i64 ((Mk.num f j:Int) * 2 ^ (k - j)) (wrap64 (2 ^ (k - 1 - j))) = ((Mk.num f (j + 1) * 2 ^ (k - (j + 1)):Nat):Int):=by
  have h1:=Mk.num_shift_lt f (Nat.le_of_lt h)
  have h2:=pow16 hk
  have h3:2 ^ (k - 1 - j)≤2 ^ 15:=Nat.pow_le_pow_right (by omega) (by omega)
  have h4:=Nat.two_pow_pos (k - 1 - j)
  rw [show (Mk.num f j:Int) * 2 ^ (k - j) = ((Mk.num f j * 2 ^ (k - j):Nat):Int) by simp,show (2:Int) ^ (k - 1 - j) = ((2 ^ (k - 1 - j):Nat):Int) by simp,
    IntWalk.wrap64_in _ (by omega),or_i64 _ _ (by omega) (by omega),Mk.num_or h hf]
theorem below_plain {wr w2:World} (hb:Below wr.drew.heap.size wr.drew w2):Below wr.heap.size wr w2∧True:=⟨Below.andThen (Below.refl wr.heap.size wr).drew hb,trivial⟩
def Two (wr w2:World) (gb:Nat):Prop:=Bx0 w2 gb (.bool false) (.bool false)∧wr.heap.size≤gb
theorem below_made {wr w2:World} (hb:Below (wr.drew.alloc (.cells #[.bool false,.bool false] 236)).heap.size (wr.drew.alloc (.cells #[.bool false,.bool false] 236)) w2) :
    Below wr.heap.size wr w2∧Two wr w2 wr.heap.size :=
  ⟨Below.andThen ((Below.refl wr.heap.size wr).drew.alloc (Nat.le_refl _) _) hb,bx0_block (bx0_at (heap_at wr.drew _ wr.heap.size rfl)) (hb.block _ (by rw [World.size_alloc];exact Nat.lt_succ_self _)),Nat.le_refl _⟩
theorem after_plain {wr w2 w3:World} (h:Below wr.heap.size wr w2∧True) (hb:Below w2.heap.size w2 w3):Below wr.heap.size wr w3∧True:=⟨Below.andThen h.1 hb,trivial⟩
theorem after_new {wr w2 w3:World} (h:Below wr.heap.size wr w2∧True) (hb:Below (w2.alloc (.cells #[.bool false,.bool false] 236)).heap.size (w2.alloc (.cells #[.bool false,.bool false] 236)) w3) :
    Below wr.heap.size wr w3∧Two wr w3 w2.heap.size :=
  ⟨Below.andThen (h.1.alloc h.1.size _) hb,bx0_block (bx0_at (heap_at w2 _ w2.heap.size rfl)) (hb.block _ (by rw [World.size_alloc];exact Nat.lt_succ_self _)),h.1.size⟩
theorem after_made {wr w2 w3:World} {gb:Nat} (h:Below wr.heap.size wr w2∧Two wr w2 gb) (hb:Below w2.heap.size w2 w3):Below wr.heap.size wr w3∧Two wr w3 gb :=
  ⟨Below.andThen h.1 hb,bx0_block h.2.1 (hb.block _ (World.block_lt_of_cell? w2 ⟨gb,0,none⟩ h.2.1.1)),h.2.2⟩
theorem two_ne {wr w3:World} {gb c0 c1 c2:Nat} (h:Two wr w3 gb) (hl:c0 < wr.heap.size∧c1 < wr.heap.size∧c2 < wr.heap.size):gb≠c0∧gb≠c1∧gb≠c2:=by
  have:=h.2
  omega
def OEnd (w wz:World) (gb mb:Nat) (A:Option Addr) (n c:Nat) (A':Option Addr) (n' c':Nat) (x y z:Int) (b0 b1:Bool):Prop :=
  OSt w wz mb A n c A' n' c' x y z∧(wz.cell? ⟨gb,0,none⟩ = some (.bool b0)∧wz.cell? ⟨gb,1,none⟩ = some (.bool b1))∧gb≠mb
theorem oend_plain {w wr w3:World} {mb:Nat} {A:Option Addr} {n c:Nat} {A':Option Addr} {n' c':Nat} {x y z:Int} {b0 b1:Bool} (h:OSt w wr mb A n c A' n' c' x y z) (hB:Below wr.heap.size wr w3∧True) :
    OEnd w (w3.alloc (.cells #[.bool b0,.bool b1] 236)) w3.heap.size mb A n c A' n' c' x y z b0 b1:=by
  have hs:=hB.1.size
  refine ⟨(h.step hB.1).step (below_alloc _ _),?_,?_⟩
  · have:=bx0_at (heap_at w3 (.cells #[.bool b0,.bool b1] 236) w3.heap.size rfl)
    exact ⟨this.1,this.2.1⟩
  · have:=h.2.2.2.2.2
    omega
theorem oend_two {w wr w3:World} {gb mb:Nat} {A:Option Addr} {n c:Nat} {A':Option Addr} {n' c':Nat} {x y z:Int} {b0 b1:Bool} (h:OSt w wr mb A n c A' n' c' x y z) (hB:Below wr.heap.size wr w3∧Two wr w3 gb) :
    OEnd w ((w3.setCell ⟨gb,0,none⟩ (.bool b0)).setCell ⟨gb,1,none⟩ (.bool b1)) gb mb A n c A' n' c' x y z b0 b1:=by
  have hg:=hB.2.2
  refine ⟨h.step ((hB.1.setCell (p:=⟨gb,0,none⟩) hg _).setCell (p:=⟨gb,1,none⟩) hg _),bx0_two hB.2.1 _ _,?_⟩
  have:=h.2.2.2.2.2
  omega
theorem ost_eq {w wr:World} {mb:Nat} {A:Option Addr} {n c:Nat} {A':Option Addr} {n' c':Nat} {x y z y' z':Int} (h:OSt w wr mb A n c A' n' c' x y z) (hy:y = y') (hz:z = z'):OSt w wr mb A n c A' n' c' x y' z':=by
  subst hy hz;exact h
set_option maxRecDepth 100000 in
set_option maxHeartbeats 3200000 in
theorem mof_yes (A C C':Option Addr) (c d d':Nat) (us lo hi:List Nat) (l B:Nat) (w:World) (pu:Pts w B A us) (pl:Pts w B C lo) (ph:Pts w B C' hi) (hB:B≤w.heap.size)
    (h1:1≤us.length) (h16:us.length≤16) (e1:lo.length = us.length) (e2:hi.length = us.length) (hl:l≤63) :
    Calls Tryz.prog 218 #[.slice A us.length c,.int .i64 (l:Int),boxV C lo.length d C' hi.length d'] w fun e w' =>
      e = .returned (.tuple #[maskV (us.length:Int) (Mk.lowM us l lo hi:Int) (Mk.highM us l lo hi:Int),.int .i64 0])∧Below w.heap.size w w':=by
  obtain ⟨b,off,hA,hb,hc⟩:=pu.at h1
  obtain ⟨b1,off1,hA1,hb1',hc1⟩:=pl.at (by omega)
  obtain ⟨b2,off2,hA2,hb2',hc2⟩:=ph.at (by omega)
  subst hA hA1 hA2
  have hug:=fun i => Bx.g_lt pu.ok i
  have hlg:=fun i => Bx.g_lt pl.ok i
  have hhg:=fun i => Bx.g_lt ph.ok i
  have E1:=Lib.hid e1
  have E2:=Lib.hid e2
  have g1:1≤lo.length:=by omega
  have g16:lo.length≤16:=by omega
  have k1:1≤hi.length:=by omega
  have k16:hi.length≤16:=by omega
  clear e1 e2 pu pl ph
  have s0:=OSt0.new w (some ⟨b1,off1,none⟩) lo.length d (some ⟨b2,off2,none⟩) hi.length d'
  have s0':=s0
  obtain ⟨-,⟨q0,q1⟩,-,-⟩:=s0'
  go_enter Tryz.func218,Tryz.ntmps218
  go_wp2_with fail
  refine (malike_yes _ _ _ us.length c lo.length d hi.length d' _ h1 h16 E1.out E2.out).mono ?_
  rintro e w1 ⟨rfl,hb1⟩
  have s1:=(s0.step hb1).mask (us.length:Int) 0 0
  clear q0 q1
  generalize hmb:w1.heap.size = mb at *
  go_wp2_with fail
  have hW:OSt w (w1.alloc (.cells #[.int .i64 (us.length:Int),.int .i64 0,.int .i64 0] 222)) mb (some ⟨b1,off1,none⟩) lo.length d (some ⟨b2,off2,none⟩) hi.length d' (us.length:Int)
      ((Mk.num (Mk.lowF us l lo hi) 0 * 2 ^ (us.length - 0):Nat):Int) ((Mk.num (Mk.highF us l lo hi) 0 * 2 ^ (us.length - 0):Nat):Int):=by simpa [Mk.num] using s1
  clear s0 hb1 s1 hmb
  go_loopw [9,10,11,12,30] (fun _ _ _ _ i wr => ∃ j:Nat,j≤us.length∧i = .int .i64 j∧OSt w wr mb (some ⟨b1,off1,none⟩) lo.length d (some ⟨b2,off2,none⟩) hi.length d' (us.length:Int)
      ((Mk.num (Mk.lowF us l lo hi) j * 2 ^ (us.length - j):Nat):Int) ((Mk.num (Mk.highF us l lo hi) j * 2 ^ (us.length - j):Nat):Int)) (fun _ _ _ _ i _ => us.length - (intOf i).toNat)
  case atStart => exact ⟨0,Nat.zero_le _,rfl,hW⟩
  case round =>
    obtain ⟨j,hj,rfl,hs⟩:=hrel
    clear hW
    have hs0:=hs
    have hbw:=hs.1
    have hsz:=hbw.size
    by_cases hlt:j < us.length
    · clear hs0
      have j1:j < lo.length:=by have:=E1.out;omega
      have j2:j < hi.length:=by have:=E2.out;omega
      have hcell:=(hbw.cell (p:=⟨b,off + j,none⟩) (by show b < _;omega)).trans (hc j hlt)
      have hcell1:=(hbw.cell (p:=⟨b1,off1 + j,none⟩) (by show b1 < _;omega)).trans (hc1 j j1)
      have hcell2:=(hbw.cell (p:=⟨b2,off2 + j,none⟩) (by show b2 < _;omega)).trans (hc2 j j2)
      have hu:=hug j
      obtain ⟨b0v,hb0⟩:∃ x,Mk.leaves (Bx.g us j) l 0 (Bx.g lo j) (Bx.g hi j) = x:=⟨_,rfl⟩
      obtain ⟨b1v,hb1⟩:∃ x,Mk.leaves (Bx.g us j) l 1 (Bx.g lo j) (Bx.g hi j) = x:=⟨_,rfl⟩
      have Hb:=Lib.hid (And.intro hb0 hb1)
      have hlF:Mk.lowF us l lo hi j = !b0v:=by rw [← hb0];rfl
      have hhF:Mk.highF us l lo hi j = b1v:=hb1
      have HF:Hid (((b0v = false→bits .or .i64 ((Mk.num (Mk.lowF us l lo hi) j:Int) * 2 ^ (us.length - j)) (wrap64 (2 ^ (us.length - 1 - j))) = ((Mk.num (Mk.lowF us l lo hi) (j + 1) * 2 ^ (us.length - (j + 1)):Nat):Int)) ∧
          (b0v = true→((Mk.num (Mk.lowF us l lo hi) j * 2 ^ (us.length - j):Nat):Int) = ((Mk.num (Mk.lowF us l lo hi) (j + 1) * 2 ^ (us.length - (j + 1)):Nat):Int))) ∧
        ((b1v = true→bits .or .i64 ((Mk.num (Mk.highF us l lo hi) j:Int) * 2 ^ (us.length - j)) (wrap64 (2 ^ (us.length - 1 - j))) = ((Mk.num (Mk.highF us l lo hi) (j + 1) * 2 ^ (us.length - (j + 1)):Nat):Int)) ∧
          (b1v = false→((Mk.num (Mk.highF us l lo hi) j * 2 ^ (us.length - j):Nat):Int) = ((Mk.num (Mk.highF us l lo hi) (j + 1) * 2 ^ (us.length - (j + 1)):Nat):Int)))) :=
        Lib.hid ⟨⟨fun h => num_bits h16 hlt (by rw [hlF,h];rfl),fun h => by rw [Mk.num_same hlt (by rw [hlF,h];rfl)]⟩,fun h => num_bits h16 hlt (by rw [hhF,h]),fun h => by rw [Mk.num_same hlt (by rw [hhF,h])]⟩
      clear hb0 hb1 hlF hhF hc hc1 hc2 hug hlg hhg
      have hX:=hs.2.1
      obtain ⟨q0,q1⟩:=hX
      have Hs:=Lib.hid hs
      have Hq:Hid (wr.cell? ⟨w.heap.size,0,none⟩ = some (.slice (some ⟨b1,off1,none⟩) lo.length d)∧wr.cell? ⟨w.heap.size,1,none⟩ = some (.slice (some ⟨b2,off2,none⟩) hi.length d')∧wr.cell? ⟨b1,off1 + j,none⟩ = some (.int .u64 (Bx.g lo j:Int))∧wr.cell? ⟨b2,off2 + j,none⟩ = some (.int .u64 (Bx.g hi j:Int))):=Lib.hid ⟨q0,q1,hcell1,hcell2⟩
      have Hlt:Hid (w.heap.size < wr.heap.size∧b1 < wr.heap.size∧b2 < wr.heap.size):=Lib.hid ⟨by have:=hs.2.2.2.2.1;have:=hs.2.2.2.2.2;omega,by omega,by omega⟩
      clear hs hbw hsz
      generalize Bx.g us j = u at *
      generalize Bx.g lo j = x at *
      generalize Bx.g hi j = y at *
      go_wp2_with fail
      go_region_held (fun w' => w'.cell? ⟨w.heap.size,0,none⟩ = some (.slice (some ⟨b1,off1,none⟩) lo.length d)∧w'.cell? ⟨w.heap.size,1,none⟩ = some (.slice (some ⟨b2,off2,none⟩) hi.length d')∧w'.cell? ⟨b1,off1 + j,none⟩ = some (.int .u64 (x:Int))∧w'.cell? ⟨b2,off2 + j,none⟩ = some (.int .u64 (y:Int))) (go_keep)
        (first
          | (go_at_call 254;refine (mhalves_c u l _ hu hl).mono ?_;rintro e w2 ⟨rfl,hb2⟩;(first | (have hB2:=below_made hb2;obtain ⟨z4,z5,z6,z7⟩:=hB2.2.1) | have hB2:=below_plain hb2);obtain ⟨z0,z1,z2,z3⟩:=four_below Hq.out hB2.1 Hlt.out.1 Hlt.out.2.1 Hlt.out.2.2)
          | (go_at_call 253;refine (mleaves_at u l x y _ b0v b1v Hb.out.1 Hb.out.2).mono ?_;rintro e w3 ⟨rfl,hb3⟩;(first | (have hB3:=after_made hB2 hb3;obtain ⟨y4,y5,y6,y7⟩:=hB3.2.1;obtain ⟨n0,n1,n2⟩:=two_ne hB3.2 Hlt.out) | (have hB3:=after_new hB2 hb3;obtain ⟨y4,y5,y6,y7⟩:=hB3.2.1;obtain ⟨n0,n1,n2⟩:=two_ne hB3.2 Hlt.out) | have hB3:=after_plain hB2 hb3);obtain ⟨y0,y1,y2,y3⟩:=four_below Hq.out hB3.1 Hlt.out.1 Hlt.out.2.1 Hlt.out.2.2))
      all_goals (first
        | (generalize hwz:World.setCell (World.setCell w3 _ _) _ _ = wz at *;have hz:=oend_two (b0:=b0v) (b1:=b1v) Hs.out hB3;rw [hwz] at hz)
        | (have hz:=oend_plain (b0:=b0v) (b1:=b1v) Hs.out hB3;generalize hwz:World.alloc w3 _ = wz at *))
      all_goals (
        obtain ⟨hO,⟨c0,c1⟩,hne⟩:=hz
        have hO':=hO
        obtain ⟨-,-,-,⟨⟨m0,m1,m2⟩,f0,f1,f2⟩,-,-⟩:=hO'
        have HO:=Lib.hid hO
        have Hne:=Lib.hid hne
        have hne2:=Ne.symm hne
        clear hO hwz hB2 hB3)
      all_goals clear Hs
      all_goals (
        cases b0v
        · have hL:=HF.out.1.1 rfl
          cases b1v
          · have hH:=HF.out.2.2 rfl
            have HLH:=Lib.hid (And.intro hL hH)
            clear hL hH HF
            go_wp2_with fail
            go_roundw
            case rel => exact ⟨j + 1,by omega,by go_num,ost_eq (HO.out.set1 _) HLH.out.1 HLH.out.2⟩
            case measure => simp [intOf];omega
          · have hH:=HF.out.2.1 rfl
            have HLH:=Lib.hid (And.intro hL hH)
            clear hL hH HF
            go_wp2_with fail
            go_roundw
            case rel => exact ⟨j + 1,by omega,by go_num,ost_eq ((HO.out.set1 _).set2 _) HLH.out.1 HLH.out.2⟩
            case measure => simp [intOf];omega
        · have hL:=HF.out.1.2 rfl
          cases b1v
          · have hH:=HF.out.2.2 rfl
            have HLH:=Lib.hid (And.intro hL hH)
            clear hL hH HF
            go_wp2_with fail
            go_roundw
            case rel => exact ⟨j + 1,by omega,by go_num,ost_eq HO.out HLH.out.1 HLH.out.2⟩
            case measure => simp [intOf];omega
          · have hH:=HF.out.2.1 rfl
            have HLH:=Lib.hid (And.intro hL hH)
            clear hL hH HF
            go_wp2_with fail
            go_roundw
            case rel => exact ⟨j + 1,by omega,by go_num,ost_eq (HO.out.set2 _) HLH.out.1 HLH.out.2⟩
            case measure => simp [intOf];omega)
    · obtain ⟨-,-,⟨⟨r0,r1,r2⟩,f0,f1,f2⟩,⟨⟨m0,m1,m2⟩,-⟩,-⟩:=hs
      have hjk:j = us.length:=by omega
      have hlo:((Mk.num (Mk.lowF us l lo hi) j * 2 ^ (us.length - j):Nat):Int) = (Mk.lowM us l lo hi:Int):=by subst hjk;simp [Mk.lowM]
      have hhi:((Mk.num (Mk.highF us l lo hi) j * 2 ^ (us.length - j):Nat):Int) = (Mk.highM us l lo hi:Int):=by subst hjk;simp [Mk.highM]
      rw [hlo] at m1
      rw [hhi] at m2
      have Hs:=Lib.hid hs0
      clear hs0 hlo hhi hjk hc hc1 hc2 hug hlg hhg hbw hsz
      go_wp2_with fail
      obtain ⟨⟨t0,t1,t2⟩,hbel⟩:=m0_out Hs.out.2.2.1 Hs.out.1 (by omega) (us.length:Int) (Mk.lowM us l lo hi:Int) (Mk.highM us l lo hi:Int)
      refine bodyPost_ret (v:=.tuple #[maskV (us.length:Int) (Mk.lowM us l lo hi:Int) (Mk.highM us l lo hi:Int),.int .i64 0]) (by simp [results,Tryz.results218,go_sem,t0,t1,t2]) rfl ?_
      exact ⟨rfl,hbel⟩
/-! ### Whole -/
set_option maxRecDepth 100000 in
theorem mwhole_dim (A C C':Option Addr) (n c m d m' d':Nat) (l:Int) (w:World) (hn:n≤maxLen) (h:¬ ((1≤n∧n≤16)∧m = n∧m' = n)) :
    Calls Tryz.prog 217 #[.slice A n c,.int .i64 l,boxV C m d C' m' d'] w fun e w' => e = .returned (.tuple #[.bool false,.int .i64 2])∧Below w.heap.size w w':=by
  have H:=Lib.hid h
  have Hn:=Lib.hid hn
  clear h hn
  have hbel:=below_alloc w (.cells #[.slice C m d,.slice C' m' d'] 25)
  obtain ⟨k0,k1⟩:=boxAt_new w C m d C' m' d'
  go_enter Tryz.func217,Tryz.ntmps217
  go_wp2_with fail
  refine (malike_no A C C' n c m d m' d' _ Hn.out H.out).mono ?_
  rintro e w1 ⟨rfl,hb1⟩
  go_wp2_with fail
  go_ret2
  exact ⟨rfl,Below.andThen hbel hb1⟩
set_option maxRecDepth 100000 in
set_option maxHeartbeats 1600000 in
theorem mwhole_yes (A C C':Option Addr) (c d d':Nat) (us lo hi:List Nat) (l:Int) (K B:Nat) (w:World) (r:Bool) (hr:Mk.whole us K lo hi us.length = r) (pu:Pts w B A us) (pl:Pts w B C lo) (ph:Pts w B C' hi) (hB:B≤w.heap.size)
    (h1:1≤us.length) (h16:us.length≤16) (e1:lo.length = us.length) (e2:hi.length = us.length) (hl:l = (K:Int) - 1) (hK:K≤64) :
    Calls Tryz.prog 217 #[.slice A us.length c,.int .i64 l,boxV C lo.length d C' hi.length d'] w fun e w' =>
      e = .returned (.tuple #[.bool r,.int .i64 0])∧Below w.heap.size w w':=by
  obtain ⟨b,off,hA,hb,hc⟩:=pu.at h1
  obtain ⟨b1,off1,hA1,hb1',hc1⟩:=pl.at (by omega)
  obtain ⟨b2,off2,hA2,hb2',hc2⟩:=ph.at (by omega)
  subst hA hA1 hA2
  have hug:=fun i => Bx.g_lt pu.ok i
  have hlg:=fun i => Bx.g_lt pl.ok i
  have hhg:=fun i => Bx.g_lt ph.ok i
  have E1:=Lib.hid e1
  have E2:=Lib.hid e2
  have HR:=Lib.hid hr
  have g1:1≤lo.length:=by omega
  have g16:lo.length≤16:=by omega
  have k1:1≤hi.length:=by omega
  have k16:hi.length≤16:=by omega
  clear e1 e2 pu pl ph hr
  have hbel:=below_alloc w (.cells #[.slice (some ⟨b1,off1,none⟩) lo.length d,.slice (some ⟨b2,off2,none⟩) hi.length d'] 25)
  have hbx:=boxAt_new w (some ⟨b1,off1,none⟩) lo.length d (some ⟨b2,off2,none⟩) hi.length d'
  have hbx':=hbx
  obtain ⟨q0,q1⟩:=hbx'
  have hl0:-1≤l:=by omega
  have hl1:l≤63:=by omega
  have hl2:l + 1 = (K:Int):=by omega
  clear hl
  go_enter Tryz.func217,Tryz.ntmps217
  go_wp2_with fail
  refine (malike_yes _ _ _ us.length c lo.length d hi.length d' _ h1 h16 E1.out E2.out).mono ?_
  rintro e w1 ⟨rfl,hb1⟩
  have hx1:=hbx.below hb1 (by simp)
  have hB1:=Below.andThen hbel hb1
  clear q0 q1 hbel hbx hb1
  go_wp2_with fail
  rw [show IntKind.u64.max = 18446744073709551615 from rfl,not_keep K hK]
  obtain ⟨q0,q1⟩:=hx1
  have hac:=fun u (hu:u < 18446744073709551616) => Mk.andNot_u64 u (2 ^ K - 1) hu (by have:=Bx.pow_le_64 hK;omega)
  have hoc:=fun u (hu:u < 18446744073709551616) => bits_or_u64_nat u (2 ^ K - 1) hu (by have:=Bx.pow_le_64 hK;omega)
  have hcl:=fun u (hu:u < 18446744073709551616) => Bx.cell_lt (u:=u) hu hK
  have HF:Hid ((∀ u:Nat,u < 18446744073709551616→bits .andNot .u64 (u:Int) ((2 ^ K - 1:Nat):Int) = (Z.cutN u K:Int))∧(∀ u:Nat,u < 18446744073709551616→bits .or .u64 (u:Int) ((2 ^ K - 1:Nat):Int) = ((Z.cutN u K + (2 ^ K - 1):Nat):Int))∧(∀ u:Nat,u < 18446744073709551616→Z.cutN u K + (2 ^ K - 1) < 18446744073709551616)) :=
    Lib.hid ⟨fun u hu => by rw [hac u hu,Mk.less_cut],fun u hu => by rw [hoc u hu,Mk.or_low],hcl⟩
  clear hac hoc hcl
  have HW:Hid (∀ j,Mk.whole us K lo hi (j + 1) = (Mk.whole us K lo hi j && (decide (Bx.g lo j≤Z.cutN (Bx.g us j) K) && decide (Z.cutN (Bx.g us j) K + (2 ^ K - 1)≤Bx.g hi j)))):=Lib.hid (fun _ => rfl)
  generalize 2 ^ K - 1 = F at *
  go_loop [9,10,27] (fun _ _ i => ∃ j:Nat,j≤us.length∧i = .int .i64 j∧Mk.whole us K lo hi j = true) (fun _ _ i => us.length - (intOf i).toNat)
  case atStart => exact ⟨0,Nat.zero_le _,rfl,rfl⟩
  case round =>
    obtain ⟨j,hj,rfl,hwh⟩:=hrel
    have Hwh:=Lib.hid hwh
    clear hwh
    by_cases hlt:j < us.length
    · have j1:j < lo.length:=by have:=E1.out;omega
      have j2:j < hi.length:=by have:=E2.out;omega
      have hBs:=hB1.size
      have hcell:=(hB1.cell (p:=⟨b,off + j,none⟩) (by show b < _;omega)).trans (hc j hlt)
      have hcell1:=(hB1.cell (p:=⟨b1,off1 + j,none⟩) (by show b1 < _;omega)).trans (hc1 j j1)
      have hcell2:=(hB1.cell (p:=⟨b2,off2 + j,none⟩) (by show b2 < _;omega)).trans (hc2 j j2)
      have hu:=hug j
      have hlu:=hlg j
      have hhu:=hhg j
      have ha:=HF.out.1 _ hu
      have ho:=HF.out.2.1 _ hu
      have hpl:=HF.out.2.2 _ hu
      have hnext:=HW.out j
      rw [Hwh.out,Bool.true_and] at hnext
      clear hc hc1 hc2 hug hlg hhg
      generalize Z.cutN (Bx.g us j) K = p at *
      generalize Bx.g us j = u at *
      generalize Bx.g lo j = x at *
      generalize Bx.g hi j = y at *
      generalize p + F = q at *
      by_cases ca:p < x
      · have d1:decide ((p:Int) < (x:Int)) = true:=decide_eq_true (by omega)
        have d3:decide (p < x) = true:=decide_eq_true (by omega)
        have hfin:Hid (r = false):=Lib.hid (by
          rw [← HR.out]
          refine Mk.whole_at (j:=j + 1) ?_ (by omega)
          rw [hnext,decide_eq_false (by omega)];rfl)
        clear hnext ca
        go_wp2
        go_ret2
        exact ⟨by rw [hfin.out];rfl,hB1⟩
      · have d1:decide ((p:Int) < (x:Int)) = false:=decide_eq_false (by omega)
        have d3:decide (p < x) = false:=decide_eq_false (by omega)
        by_cases cb:y < q
        · have d2:decide ((y:Int) < (q:Int)) = true:=decide_eq_true (by omega)
          have d4:decide (y < q) = true:=decide_eq_true (by omega)
          have hfin:Hid (r = false):=Lib.hid (by
            rw [← HR.out]
            refine Mk.whole_at (j:=j + 1) ?_ (by omega)
            rw [hnext,decide_eq_false (show ¬ q≤y by omega),Bool.and_false])
          clear hnext ca cb
          go_wp2
          go_ret2
          exact ⟨by rw [hfin.out];rfl,hB1⟩
        · have d2:decide ((y:Int) < (q:Int)) = false:=decide_eq_false (by omega)
          have d4:decide (y < q) = false:=decide_eq_false (by omega)
          have hst:Hid (Mk.whole us K lo hi (j + 1) = true):=Lib.hid (by rw [hnext,decide_eq_true (by omega),decide_eq_true (by omega)];rfl)
          clear hnext ca cb
          go_wp2
          go_round
          case rel => exact ⟨j + 1,by omega,by go_num,hst.out⟩
          case measure => simp [intOf];omega
    · have hfin:Hid (r = true):=Lib.hid (by rw [← HR.out,show us.length = j by omega];exact Hwh.out)
      clear hc hc1 hc2 hug hlg hhg
      go_wp2
      go_ret2
      exact ⟨by rw [hfin.out];rfl,hB1⟩
/-! ### OnesCount -/
/-! ### Count -/
/-! ### Next -/
def nextI (k lo hi:Nat) (a:Int):Option Nat:=(Mk.left k lo hi).find? (fun x => decide (a < (x:Int)))
theorem nextI_nat (k lo hi n:Nat):nextI k lo hi (n:Int) = Mk.next k lo hi n:=by
  unfold nextI Mk.next
  congr 1
  funext x
  congr 1
  exact propext Int.ofNat_lt
theorem nextI_neg (k lo hi:Nat) (a:Int) (h:a < 0) (h3:lo < 2 ^ k):nextI k lo hi a = if Mk.nothing lo hi = true then none else some lo:=by
  unfold nextI
  have e:∀ L:List Nat,L.find? (fun (x:Nat) => decide (a < (x:Int))) = L[0]?:=fun L => by
    cases L with
    | nil => rfl
    | cons x xs => rw [List.find?_cons,decide_eq_true (by omega)];rfl
  rw [e]
  rcases hn:Mk.nothing lo hi with _ | _
  · rw [Mk.left_head h3 hn];rfl
  · rw [(Mk.left_nil_iff h3).2 hn];rfl
theorem and_pow (n p:Nat):n &&& 2 ^ p = 0↔n.testBit p = false:=by
  constructor
  · intro h
    have:=congrArg (fun x => Nat.testBit x p) h
    simp only [Nat.testBit_and,Nat.testBit_two_pow,Nat.zero_testBit,decide_true,Bool.and_true] at this
    exact this
  · intro h
    apply Nat.eq_of_testBit_eq
    intro i
    rw [Nat.testBit_and,Nat.testBit_two_pow,Nat.zero_testBit]
    by_cases e:p = i
    · subst e;rw [h];rfl
    · rw [decide_eq_false e,Bool.and_false]
theorem next_bits {lo n p:Nat} (hn:n < 9223372036854775808) (hl:lo < 65536) (hp:p < 16) :
    bits .or .i64 (bits .or .i64 (bits .andNot .i64 (n:Int) (wrap64 (wrap64 (2 ^ p) - 1))) (wrap64 (2 ^ p))) (bits .and .i64 (lo:Int) (wrap64 (wrap64 (2 ^ p) - 1))) = ((Mk.cand lo n p:Nat):Int) ∧
    (bits .and .i64 (n:Int) (wrap64 (2 ^ p)) == 0) = !n.testBit p:=by
  have hP:2 ^ p≤32768:=Nat.pow_le_pow_right (n:=2) (by omega) (show p≤15 by omega)
  have hP0:=Nat.two_pow_pos p
  have e1:wrap64 (2 ^ p) = ((2 ^ p:Nat):Int):=by
    rw [show (2:Int) ^ p = ((2 ^ p:Nat):Int) by simp];exact IntWalk.wrap64_in _ (by omega)
  have e2:wrap64 (((2 ^ p:Nat):Int) - 1) = ((2 ^ p - 1:Nat):Int):=by
    rw [IntWalk.wrap64_in _ (by omega)];omega
  have h1:=Mk.less_le n (2 ^ p - 1)
  have h2:Mk.less n (2 ^ p - 1) ||| 2 ^ p < 2 ^ 63:=Mk.or_lt (by omega) (by omega)
  have h3:lo &&& (2 ^ p - 1)≤lo:=Nat.and_le_left
  rw [e1,e2]
  refine ⟨?_,?_⟩
  · rw [Mk.andNot_i64 n _ hn (by omega),or_i64 _ _ (by omega) (by omega),Mk.and_i64 lo _ (by omega) (by omega),or_i64 _ _ (by omega) (by omega)]
    rfl
  · rw [Mk.and_i64 n _ hn (by omega),Bool.eq_iff_iff,beq_iff_eq]
    have:=and_pow n p
    simp only [Bool.not_eq_true']
    rw [← this]
    omega
theorem mnext_no (k lo hi a:Int) (w:World) (h:¬ MRight k lo hi) (bk:I64 k) (bl:I64 lo) (bh:I64 hi) :
    Calls Tryz.prog 219 #[maskV k lo hi,.int .i64 a] w fun e w' => e = .returned (.tuple #[.int .i64 0,.bool false])∧Below w.heap.size w w':=by
  have hbel:=below_alloc w (.cells #[.int .i64 k,.int .i64 lo,.int .i64 hi] 222)
  obtain ⟨q0,q1,q2⟩:=maskAt_new w k lo hi
  have Hb:=Lib.hid (And.intro h (And.intro bk (And.intro bl bh)))
  have Hr:Hid (decide (MRight k lo hi) = false):=Lib.hid (decide_eq_false h)
  clear bk bl bh h
  by_cases c:a < 0
  · go_enter Tryz.func219,Tryz.ntmps219
    go_wp2_with fail
    refine (mfirst_no k lo hi _ Hb.out.1 Hb.out.2.1 Hb.out.2.2.1 Hb.out.2.2.2).mono ?_
    rintro e w1 ⟨rfl,hb1⟩
    go_wp2_with fail
    go_ret2
    exact ⟨rfl,Below.andThen hbel hb1⟩
  · go_enter Tryz.func219,Tryz.ntmps219
    go_wp2_with fail
    refine (mright_c k lo hi _ false Hr.out Hb.out.2.1 Hb.out.2.2.1 Hb.out.2.2.2).mono ?_
    rintro e w1 ⟨rfl,hb1⟩
    go_wp2_with fail
    go_ret2
    exact ⟨rfl,Below.andThen hbel hb1⟩
theorem mnext_neg (k lo hi:Nat) (a:Int) (w:World) (o:Option Nat) (ho:nextI k lo hi a = o) (ha:a < 0) (h1:1≤k) (h2:k≤16) (h3:lo < 2 ^ k) (h4:hi < 2 ^ k) :
    Calls Tryz.prog 219 #[maskV (k:Int) (lo:Int) (hi:Int),.int .i64 a] w fun e w' => e = .returned (.tuple #[.int .i64 ((o.getD 0:Nat):Int),.bool o.isSome])∧Below w.heap.size w w':=by
  have hbel:=below_alloc w (.cells #[.int .i64 (k:Int),.int .i64 (lo:Int),.int .i64 (hi:Int)] 222)
  obtain ⟨q0,q1,q2⟩:=maskAt_new w (k:Int) (lo:Int) (hi:Int)
  rw [nextI_neg k lo hi a ha h3] at ho
  obtain ⟨r,hr⟩:∃ r,Mk.nothing lo hi = r:=⟨_,rfl⟩
  rw [hr] at ho
  have Ho:Hid (o.isSome = !r):=Lib.hid (by subst ho;cases r <;> rfl)
  have Ho2:Hid ((if r = true then 0 else lo) = o.getD 0):=Lib.hid (by subst ho;cases r <;> rfl)
  have Hb:=Lib.hid (And.intro h1 (And.intro h2 (And.intro h3 h4)))
  have Hr:=Lib.hid hr
  clear h1 h2 h3 h4 hr ho
  generalize o.getD 0 = x at *
  go_enter Tryz.func219,Tryz.ntmps219
  go_wp2_with fail
  refine (mfirst_yes k lo hi _ r x Hr.out Ho2.out Hb.out.1 Hb.out.2.1 Hb.out.2.2.1 Hb.out.2.2.2).mono ?_
  rintro e w1 ⟨rfl,hb1⟩
  go_wp2_with fail
  go_ret2
  exact ⟨by rw [Ho.out];rfl,Below.andThen hbel hb1⟩
set_option maxRecDepth 100000 in
theorem mnext_nat (k lo hi n:Nat) (w:World) (o:Option Nat) (ho:Mk.next k lo hi n = o) (hn:n < 9223372036854775808) (h1:1≤k) (h2:k≤16) (h3:lo < 2 ^ k) (h4:hi < 2 ^ k) :
    Calls Tryz.prog 219 #[maskV (k:Int) (lo:Int) (hi:Int),.int .i64 (n:Int)] w fun e w' => e = .returned (.tuple #[.int .i64 ((o.getD 0:Nat):Int),.bool o.isSome])∧Below w.heap.size w w':=by
  have hbel:=below_alloc w (.cells #[.int .i64 (k:Int),.int .i64 (lo:Int),.int .i64 (hi:Int)] 222)
  have hq:=maskAt_new w (k:Int) (lo:Int) (hi:Int)
  obtain ⟨q0,q1,q2⟩:=maskAt_new w (k:Int) (lo:Int) (hi:Int)
  have hpw:=pow16 h2
  have Hb:=Lib.hid (And.intro h1 (And.intro h2 (And.intro h3 (And.intro h4 (And.intro (show lo < 65536 by omega) (And.intro (i64_nat (show k < 65536 by omega)) (And.intro (i64_pow h2 h3) (i64_pow h2 h4))))))))
  have Hr:Hid (decide (MRight (k:Int) (lo:Int) (hi:Int)) = true):=Lib.hid (decide_eq_true (mright_nat h1 h2 h3 h4))
  have Ho:=Lib.hid ho
  clear h1 h3 h4 ho hpw
  go_enter Tryz.func219,Tryz.ntmps219
  go_wp2_with fail
  refine (mright_c k lo hi _ true Hr.out Hb.out.2.2.2.2.2.1 Hb.out.2.2.2.2.2.2.1 Hb.out.2.2.2.2.2.2.2).mono ?_
  rintro e w1 ⟨rfl,hb1⟩
  have hq1:=hq.below hb1 (by simp)
  have hbel1:=Below.andThen hbel hb1
  have hsz:w.heap.size < w1.heap.size:=by have:=hb1.size;simp at this;omega
  clear q0 q1 q2
  obtain ⟨q0,q1,q2⟩:=hq1
  go_wp2_with fail
  clear q0 q1 q2
  have hq1:=hq.below hb1 (by simp)
  go_loopw [6,7,8,9,21] (fun _ _ _ _ i wr => ∃ p:Nat,p≤k∧i = .int .i64 p∧(∀ q,q < p→n.testBit q = false→Mk.has k lo hi (Mk.cand lo n q) = false)∧Below w1.heap.size w1 wr) (fun _ _ _ _ i _ => k - (intOf i).toNat)
  case atStart => exact ⟨0,Nat.zero_le _,rfl,fun q hq => absurd hq (by omega),Below.refl _ _⟩
  case round =>
    obtain ⟨p,hp,rfl,hno,hbw⟩:=hrel
    have Hno:=Lib.hid hno
    clear hno
    have hq2:=hq1.below hbw hsz
    by_cases hlt:p < k
    · have hp16:p < 16:=by omega
      obtain ⟨e1,e2⟩:=next_bits hn Hb.out.2.2.2.2.1 hp16
      have E1:=Lib.hid e1
      obtain ⟨q0,q1,q2⟩:=hq2
      obtain ⟨t,ht⟩:∃ t,n.testBit p = t:=⟨_,rfl⟩
      rw [ht] at e2
      have Ht:=Lib.hid ht
      have hcl:=Mk.cand_lt hn Hb.out.2.2.2.2.1 hp16
      have Hcl:Hid (I64 ((Mk.cand lo n p:Nat):Int)):=Lib.hid ⟨by omega,by omega⟩
      clear e1 ht hcl
      cases t
      · obtain ⟨r,hr⟩:∃ r,Mk.has k lo hi (Mk.cand lo n p) = r:=⟨_,rfl⟩
        have Hr2:=Lib.hid hr
        clear hr
        have e3:(bits .and .i64 (n:Int) (wrap64 (2 ^ p)) == 0) = true:=e2
        clear e2
        go_wp2_with fail
        rw [E1.out]
        refine (mhas_yes k lo hi _ _ r (by rw [Mk.hasI_nat];exact Hr2.out) Hb.out.1 Hb.out.2.1 Hb.out.2.2.1 Hb.out.2.2.2.1 Hcl.out).mono ?_
        rintro e w2 ⟨rfl,hb2⟩
        cases r
        · go_wp2_with fail
          go_roundw
          case rel =>
            refine ⟨p + 1,by omega,by go_num,fun q hq hqt => ?_,Below.andThen hbw hb2⟩
            rcases Nat.lt_succ_iff_lt_or_eq.1 hq with c | rfl
            · exact Hno.out q c hqt
            · exact Hr2.out
          case measure => simp [intOf];omega
        · have hfin:Hid (o = some (Mk.cand lo n p)):=Lib.hid (by rw [← Ho.out];exact Mk.next_found Hb.out.2.1 Ht.out Hr2.out Hno.out)
          go_wp2_with fail
          go_ret2
          exact ⟨by rw [hfin.out];rfl,Below.andThen hbel1 (Below.andThen hbw hb2)⟩
      · have e3:(bits .and .i64 (n:Int) (wrap64 (2 ^ p)) == 0) = false:=e2
        clear e2
        go_wp2_with fail
        go_roundw
        case rel =>
          refine ⟨p + 1,by omega,by go_num,fun q hq hqt => ?_,hbw⟩
          rcases Nat.lt_succ_iff_lt_or_eq.1 hq with c | rfl
          · exact Hno.out q c hqt
          · have:=Ht.out
            rw [hqt] at this
            simp at this
        case measure => simp [intOf];omega
    · have hfin:Hid (o = none):=Lib.hid (by rw [← Ho.out];exact Mk.next_not Hb.out.2.1 (fun q hq hqt => Hno.out q (by omega) hqt))
      clear hq2
      go_wp2_with fail
      go_ret2
      exact ⟨by rw [hfin.out];rfl,Below.andThen hbel1 hbw⟩
theorem mnext_yes (k lo hi:Nat) (a:Int) (w:World) (o:Option Nat) (ho:nextI k lo hi a = o) (ba:I64 a) (h1:1≤k) (h2:k≤16) (h3:lo < 2 ^ k) (h4:hi < 2 ^ k) :
    Calls Tryz.prog 219 #[maskV (k:Int) (lo:Int) (hi:Int),.int .i64 a] w fun e w' => e = .returned (.tuple #[.int .i64 ((o.getD 0:Nat):Int),.bool o.isSome])∧Below w.heap.size w w':=by
  by_cases c:a < 0
  · exact mnext_neg k lo hi a w o ho c h1 h2 h3 h4
  · obtain ⟨n,rfl⟩:∃ n:Nat,a = (n:Int):=⟨a.toNat,by omega⟩
    rw [nextI_nat] at ho
    exact mnext_nat k lo hi n w o ho (by have:=ba.2;omega) h1 h2 h3 h4
/-! ### Right -/
theorem r3right_y (A A':Option Addr) (n c n' c':Nat) (w:World) (h1:1≤n) (h16:n≤16) (h:n = n') :
    Calls Tryz.prog 19 #[boxV A n c A' n' c'] w fun e w' => e = .returned (.bool true)∧Below w.heap.size w w':=by
  have H:=Lib.hid h
  clear h
  go_enter Tryz.func19,Tryz.ntmps19
  go_wp2_with (go_at_call 55;refine (ralike_yes _ _ _ _ _ _ _ h1 h16 H.out).mono ?_;rintro e w' ⟨rfl,rfl⟩)
  go_ret
  exact ⟨rfl,below_alloc _ _⟩
theorem r3right_n (A A':Option Addr) (n c n' c':Nat) (w:World) (hn:n≤maxLen) (h:¬ ((1≤n∧n≤16)∧n = n')) :
    Calls Tryz.prog 19 #[boxV A n c A' n' c'] w fun e w' => e = .returned (.bool false)∧Below w.heap.size w w':=by
  have H:=Lib.hid h
  have Hn:=Lib.hid hn
  clear h hn
  go_enter Tryz.func19,Tryz.ntmps19
  go_wp2_with (go_at_call 55;refine (ralike_no _ _ _ _ _ _ _ Hn.out H.out).mono ?_;rintro e w' ⟨rfl,rfl⟩)
  go_ret
  exact ⟨rfl,below_alloc _ _⟩
/-! ### Empty -/
/-! ### In -/
set_option maxRecDepth 100000 in
theorem r3in_c (A A' C:Option Addr) (c c' d:Nat) (lo hi us:List Nat) (B:Nat) (w:World) (r:Bool) (hr:Bx.isin lo hi us lo.length = r) (hp:Pts w B A lo) (hq:Pts w B A' hi) (hu:Pts w B C us) (hB:B≤w.heap.size) (h1:1≤lo.length) (h16:lo.length≤16) (hlen:lo.length = hi.length) (hlen2:lo.length = us.length) :
    Calls Tryz.prog 56 #[boxV A lo.length c A' hi.length c',.slice C us.length d] w fun e w' => e = .returned (.bool r)∧Below w.heap.size w w':=by
  have Hl:=Lib.hid hlen
  have Hl2:=Lib.hid hlen2
  have Hr:=Lib.hid hr
  have hbel:=below_alloc w (.cells #[.slice A lo.length c,.slice A' hi.length c'] 25)
  have hbx:=boxAt_new w A lo.length c A' hi.length c'
  have hp0:=hp.below' hbel hB
  have hq0:=hq.below' hbel hB
  have hu0:=hu.below' hbel hB
  have h2:1≤hi.length:=by omega
  have h26:hi.length≤16:=by omega
  have h3:1≤us.length:=by omega
  have h36:us.length≤16:=by omega
  have hlg:=fun i => Bx.g_lt hp.ok i
  have hhg:=fun i => Bx.g_lt hq.ok i
  have hug:=fun i => Bx.g_lt hu.ok i
  obtain ⟨k0,k1⟩:=hbx
  obtain ⟨b,off,hA,hb,hc⟩:=hp0.at h1
  obtain ⟨b',off',hA',hb',hc'⟩:=hq0.at h2
  obtain ⟨b2,off2,hA2,hb2,hc2⟩:=hu0.at h3
  subst hA hA' hA2
  clear hlen hlen2 hr hp hq hu hp0 hq0 hu0
  go_enter Tryz.func56,Tryz.ntmps56
  go_wp2
  generalize hW:w.alloc _ = W at *
  go_loopw [5] (fun i wr => ∃ k:Nat,k≤us.length∧i = .int .i64 k∧Bx.isin lo hi us k = true∧∃ nd,wr = W.drewN nd) (fun i _ => us.length - (intOf i).toNat)
  case atStart => exact ⟨0,Nat.zero_le _,rfl,rfl,0,rfl⟩
  case round =>
    obtain ⟨k,hk,rfl,hin,nd,rfl⟩:=hrel
    have Hin:=Lib.hid hin
    clear hin
    by_cases hlt:k < us.length
    · have hl1:k < lo.length:=by have:=Hl2.out;omega
      have hl2:k < hi.length:=by have:=Hl2.out;have:=Hl.out;omega
      have hcell:=hc k hl1
      have hcell':=hc' k hl2
      have hcell2:=hc2 k hlt
      have b1:=hlg k
      have b2:=hhg k
      have b3:=hug k
      clear hc hc' hc2 hlg hhg hug
      by_cases hok:Bx.g lo k≤Bx.g us k∧Bx.g us k≤Bx.g hi k
      · have hst:Hid (Bx.isin lo hi us (k + 1) = true):=Lib.hid (by simp [Bx.isin,Hin.out,hok.1,hok.2])
        generalize Bx.g lo k = x at *
        generalize Bx.g hi k = y at *
        generalize Bx.g us k = z at *
        obtain ⟨o1,o2⟩:=hok
        have d1:decide ((z:Int) < (x:Int)) = false:=decide_eq_false (by omega)
        have d2:decide ((y:Int) < (z:Int)) = false:=decide_eq_false (by omega)
        have d3:decide (z < x) = false:=decide_eq_false (by omega)
        have d4:decide (y < z) = false:=decide_eq_false (by omega)
        go_wp2
        go_quiet (fail)
        go_wp2
        go_roundw
        case rel => exact ⟨k + 1,by omega,by go_num,hst.out,_,rfl⟩
        case measure => simp [intOf];omega
      · have hfin:Hid (r = false):=Lib.hid (by
          rw [← Hr.out]
          refine Bx.isin_at (j:=k + 1) ?_ (by omega)
          rw [Bool.eq_false_iff]
          intro h
          have:=Bx.isin_true.1 h k (by omega)
          exact hok this)
        by_cases hlow:Bx.g us k < Bx.g lo k
        · generalize Bx.g lo k = x at *
          generalize Bx.g hi k = y at *
          generalize Bx.g us k = z at *
          clear hok
          have d1:decide ((z:Int) < (x:Int)) = true:=decide_eq_true (by omega)
          have d3:decide (z < x) = true:=decide_eq_true (by omega)
          go_wp2
          go_quiet (fail)
          go_wp2
          go_ret
          exact ⟨by rw [hfin.out];rfl,by first | exact below_drewN _ hbel | exact below_drewN _ (below_drewN _ hbel)⟩
        · have hhigh:Bx.g hi k < Bx.g us k:=by omega
          generalize Bx.g lo k = x at *
          generalize Bx.g hi k = y at *
          generalize Bx.g us k = z at *
          clear hok
          have d1:decide ((z:Int) < (x:Int)) = false:=decide_eq_false (by omega)
          have d2:decide ((y:Int) < (z:Int)) = true:=decide_eq_true (by omega)
          have d3:decide (z < x) = false:=decide_eq_false (by omega)
          have d4:decide (y < z) = true:=decide_eq_true (by omega)
          go_wp2
          go_quiet (fail)
          go_wp2
          go_ret
          exact ⟨by rw [hfin.out];rfl,by first | exact below_drewN _ hbel | exact below_drewN _ (below_drewN _ hbel)⟩
    · have hfin:Hid (r = true):=Lib.hid (by rw [← Hr.out,show lo.length = k by have:=Hl2.out;omega];exact Hin.out)
      clear hc hc' hc2 hlg hhg hug
      go_wp2
      go_ret
      exact ⟨by rw [hfin.out];rfl,by first | exact below_drewN _ hbel | exact below_drewN _ (below_drewN _ hbel)⟩
/-! ### Far -/
end Go.Proofs.YtkeepngaaleakaaGreatDoor
