import Derived.Test.YtkeepngaaleakaaGreatDoorMY6
namespace Go.Proofs.YtkeepngaaleakaaGreatDoor
open Go.ChangeShapes Go.WideShapes Go.ChangeAt Go.RowKit
open Tr (T S4 Ent)
set_option maxRecDepth 100000 in
theorem wbig_c (A:Option Addr) (n c:Nat) (A':Option Addr) (n' c':Nat) (w:World) (r:Bool) (hr:decide (40 < n∨40 < n') = r) :
    Calls Tryz.prog 15 #[boxV A n c A' n' c'] w fun e w' => e = .returned (.bool r)∧Below w.heap.size w w':=by
  by_cases h1:40 < n
  · have d1:decide ((40:Int) < (n:Int)) = true:=decide_eq_true (by omega)
    have d1':decide (40 < n) = true:=decide_eq_true h1
    have hr:r = true:=by rw [← hr];exact decide_eq_true (.inl h1)
    subst hr
    go_enter Tryz.func15,Tryz.ntmps15
    go_wp2_with fail
    go_ret
    exact ⟨rfl,below_alloc _ _⟩
  · have d1:decide ((40:Int) < (n:Int)) = false:=decide_eq_false (by omega)
    have d1':decide (40 < n) = false:=decide_eq_false h1
    have d2:decide ((40:Int) < (n':Int)) = r:=by rw [← hr];simp only [decide_eq_decide];omega
    have d2':decide (40 < n') = r:=by rw [← hr];simp only [decide_eq_decide];omega
    clear hr h1
    go_enter Tryz.func15,Tryz.ntmps15
    go_wp2_with fail
    go_ret
    exact ⟨by first | rfl | rw [d2'] | rw [d2],below_alloc _ _⟩
theorem windowParts_skip {w:World} {A:Option Addr} {c:Nat} {l:List ActT} (k:Int) (hT:Tz w) (hA:ActsT w w.heap.size A l) (hl:l.length≤maxLen) (hh:heavyA 50 l = true) (A2:Option Addr) (n2 c2:Nat) (A3:Option Addr) (n3 c3:Nat) :
    Calls Tryz.prog 3 #[.int .i64 k,.slice A l.length c,boxV A2 n2 c2 A3 n3 c3] w fun e w' => e = .returned (.bool true)∧Below w.heap.size w w':=by
  have HX:=Lib.hid (And.intro hA (And.intro hl (And.intro hh hT)))
  clear hA hl hh hT
  obtain ⟨W,hW⟩:∃ W,W = w.alloc (.cells #[.slice A2 n2 c2,.slice A3 n3 c3] 25):=⟨_,rfl⟩
  have hbw:Below w.heap.size w W:=by rw [hW];exact below_alloc _ _
  have HC:Hid (∀ w1,Below W.heap.size W w1→w1.heap[w.heap.size]? = some (.cells #[.slice A2 n2 c2,.slice A3 n3 c3] 25 (0,0))):=Lib.hid fun w1 hb => (hb.block w.heap.size (by rw [hW];simp)).trans (by rw [hW];exact heap_at w _ _ rfl)
  have HW:=Lib.hid (And.intro hW hbw)
  clear hW hbw
  go_enter Tryz.func3,Tryz.ntmps3
  go_upto_region 1 with fail
  rw [← HW.out.1]
  go_wp2_with fail
  refine (awake9_c W (HX.out.2.2.2.on HW.out.2)).mono ?_
  rintro e w1 ⟨rfl,hb1⟩
  have HB:=Lib.hid (Below.andThen HW.out.2 hb1)
  have hbx:=HC.out w1 hb1
  obtain ⟨c0,c1,-,-⟩:=box_cells hbx
  clear hb1 hbx
  have HH:=Lib.hid (rheavy7_c (c:=c) (HX.out.1.below HB.out (Nat.le_refl _) (Nat.le_refl _)) HX.out.2.1 50 true HX.out.2.2.1)
  go_wp2_with (first
    | (go_at_call 14;refine HH.out.mono ?_;rintro e w' ⟨rfl,rfl⟩))
  go_ret
  exact ⟨rfl,HB.out⟩
theorem windowParts_low {w:World} {A:Option Addr} {c:Nat} {l:List ActT} (k:Int) (hT:Tz w) (hA:ActsT w w.heap.size A l) (hl:l.length≤maxLen) (hh:heavyA 50 l = false) (hk:k < 1) (A2:Option Addr) (n2 c2:Nat) (A3:Option Addr) (n3 c3:Nat) :
    Calls Tryz.prog 3 #[.int .i64 k,.slice A l.length c,boxV A2 n2 c2 A3 n3 c3] w fun e w' => e = .returned (.bool true)∧Below w.heap.size w w':=by
  have d1:decide (k < 1) = true:=decide_eq_true hk
  clear hk
  have HX:=Lib.hid (And.intro hA (And.intro hl (And.intro hh hT)))
  clear hA hl hh hT
  obtain ⟨W,hW⟩:∃ W,W = w.alloc (.cells #[.slice A2 n2 c2,.slice A3 n3 c3] 25):=⟨_,rfl⟩
  have hbw:Below w.heap.size w W:=by rw [hW];exact below_alloc _ _
  have HC:Hid (∀ w1,Below W.heap.size W w1→w1.heap[w.heap.size]? = some (.cells #[.slice A2 n2 c2,.slice A3 n3 c3] 25 (0,0))):=Lib.hid fun w1 hb => (hb.block w.heap.size (by rw [hW];simp)).trans (by rw [hW];exact heap_at w _ _ rfl)
  have HW:=Lib.hid (And.intro hW hbw)
  clear hW hbw
  go_enter Tryz.func3,Tryz.ntmps3
  go_upto_region 1 with fail
  rw [← HW.out.1]
  go_wp2_with fail
  refine (awake9_c W (HX.out.2.2.2.on HW.out.2)).mono ?_
  rintro e w1 ⟨rfl,hb1⟩
  have HB:=Lib.hid (Below.andThen HW.out.2 hb1)
  have hbx:=HC.out w1 hb1
  obtain ⟨c0,c1,-,-⟩:=box_cells hbx
  clear hb1 hbx
  have HH:=Lib.hid (rheavy7_c (c:=c) (HX.out.1.below HB.out (Nat.le_refl _) (Nat.le_refl _)) HX.out.2.1 50 false HX.out.2.2.1)
  go_wp2_with (first
    | (go_at_call 14;refine HH.out.mono ?_;rintro e w' ⟨rfl,rfl⟩))
  go_ret
  exact ⟨rfl,HB.out⟩
theorem windowParts_high {w:World} {A:Option Addr} {c:Nat} {l:List ActT} (k:Int) (hT:Tz w) (hA:ActsT w w.heap.size A l) (hl:l.length≤maxLen) (hh:heavyA 50 l = false) (hk:16 < k) (A2:Option Addr) (n2 c2:Nat) (A3:Option Addr) (n3 c3:Nat) :
    Calls Tryz.prog 3 #[.int .i64 k,.slice A l.length c,boxV A2 n2 c2 A3 n3 c3] w fun e w' => e = .returned (.bool true)∧Below w.heap.size w w':=by
  have d1:decide (k < 1) = false:=decide_eq_false (by omega)
  have d2:decide (16 < k) = true:=decide_eq_true hk
  clear hk
  have HX:=Lib.hid (And.intro hA (And.intro hl (And.intro hh hT)))
  clear hA hl hh hT
  obtain ⟨W,hW⟩:∃ W,W = w.alloc (.cells #[.slice A2 n2 c2,.slice A3 n3 c3] 25):=⟨_,rfl⟩
  have hbw:Below w.heap.size w W:=by rw [hW];exact below_alloc _ _
  have HC:Hid (∀ w1,Below W.heap.size W w1→w1.heap[w.heap.size]? = some (.cells #[.slice A2 n2 c2,.slice A3 n3 c3] 25 (0,0))):=Lib.hid fun w1 hb => (hb.block w.heap.size (by rw [hW];simp)).trans (by rw [hW];exact heap_at w _ _ rfl)
  have HW:=Lib.hid (And.intro hW hbw)
  clear hW hbw
  go_enter Tryz.func3,Tryz.ntmps3
  go_upto_region 1 with fail
  rw [← HW.out.1]
  go_wp2_with fail
  refine (awake9_c W (HX.out.2.2.2.on HW.out.2)).mono ?_
  rintro e w1 ⟨rfl,hb1⟩
  have HB:=Lib.hid (Below.andThen HW.out.2 hb1)
  have hbx:=HC.out w1 hb1
  obtain ⟨c0,c1,-,-⟩:=box_cells hbx
  clear hb1 hbx
  have HH:=Lib.hid (rheavy7_c (c:=c) (HX.out.1.below HB.out (Nat.le_refl _) (Nat.le_refl _)) HX.out.2.1 50 false HX.out.2.2.1)
  go_wp2_with (first
    | (go_at_call 14;refine HH.out.mono ?_;rintro e w' ⟨rfl,rfl⟩))
  go_ret
  exact ⟨rfl,HB.out⟩
theorem windowParts_big {w:World} {A:Option Addr} {c:Nat} {l:List ActT} (k:Int) (hT:Tz w) (hA:ActsT w w.heap.size A l) (hl:l.length≤maxLen) (hh:heavyA 50 l = false) (hk:1≤k∧k≤16) (A2:Option Addr) (n2 c2:Nat) (A3:Option Addr) (n3 c3:Nat) (hbig:40 < n2∨40 < n3) :
    Calls Tryz.prog 3 #[.int .i64 k,.slice A l.length c,boxV A2 n2 c2 A3 n3 c3] w fun e w' => e = .returned (.bool true)∧Below w.heap.size w w':=by
  have d1:decide (k < 1) = false:=decide_eq_false (by omega)
  have d2:decide (16 < k) = false:=decide_eq_false (by omega)
  clear hk
  have HX:=Lib.hid (And.intro hA (And.intro hl (And.intro hh hT)))
  clear hA hl hh hT
  obtain ⟨W,hW⟩:∃ W,W = w.alloc (.cells #[.slice A2 n2 c2,.slice A3 n3 c3] 25):=⟨_,rfl⟩
  have hbw:Below w.heap.size w W:=by rw [hW];exact below_alloc _ _
  have HC:Hid (∀ w1,Below W.heap.size W w1→w1.heap[w.heap.size]? = some (.cells #[.slice A2 n2 c2,.slice A3 n3 c3] 25 (0,0))):=Lib.hid fun w1 hb => (hb.block w.heap.size (by rw [hW];simp)).trans (by rw [hW];exact heap_at w _ _ rfl)
  have HW:=Lib.hid (And.intro hW hbw)
  clear hW hbw
  go_enter Tryz.func3,Tryz.ntmps3
  go_upto_region 1 with fail
  rw [← HW.out.1]
  go_wp2_with fail
  refine (awake9_c W (HX.out.2.2.2.on HW.out.2)).mono ?_
  rintro e w1 ⟨rfl,hb1⟩
  have HB:=Lib.hid (Below.andThen HW.out.2 hb1)
  have hbx:=HC.out w1 hb1
  obtain ⟨c0,c1,-,-⟩:=box_cells hbx
  clear hb1 hbx
  have HH:=Lib.hid (rheavy7_c (c:=c) (HX.out.1.below HB.out (Nat.le_refl _) (Nat.le_refl _)) HX.out.2.1 50 false HX.out.2.2.1)
  go_wp2_with (first
    | (go_at_call 14;refine HH.out.mono ?_;rintro e w' ⟨rfl,rfl⟩)
    | (go_at_call 15;refine (wbig_c A2 n2 c2 A3 n3 c3 _ true (decide_eq_true hbig)).mono ?_;rintro e w2 ⟨rfl,hb2⟩))
  go_ret
  exact ⟨rfl,Below.andThen HB.out hb2⟩
set_option maxRecDepth 1000000 in
set_option maxHeartbeats 4000000 in
theorem windowPartsD_go {w:World} {A:Option Addr} {c:Nat} {l:List ActT} (k:Nat) (hT:Tz w) (hA:ActsT w w.heap.size A l) (hl:l.length≤maxLen) (hh:heavyA 50 l = false) (h1:1≤k) (h16:k≤16) (A2:Option Addr) (n2 c2:Nat) (A3:Option Addr) (n3 c3:Nat) (hbig:¬ (40 < n2∨40 < n3)) (hr:¬ ((1≤n2∧n2≤16)∧n2 = n3)∨(((1≤n2∧n2≤16)∧n2 = n3)∧n2≠k)) :
    Calls Tryz.prog 3 #[.int .i64 (k:Int),.slice A l.length c,boxV A2 n2 c2 A3 n3 c3] w fun e w' => e = .returned (.bool true)∧Below w.heap.size w w':=by
  have hfew:=heavyA_few hh
  have d1:decide ((k:Int) < 1) = false:=decide_eq_false (by omega)
  have d2:decide ((16:Int) < (k:Int)) = false:=decide_eq_false (by omega)
  have HX:=Lib.hid (And.intro hA (And.intro hl (And.intro hh hT)))
  have HK:=Lib.hid (And.intro h1 (And.intro h16 (And.intro hfew (And.intro hbig hr))))
  clear hA hl hh hT h1 h16 hfew hbig hr
  obtain ⟨W,hW⟩:∃ W,W = w.alloc (.cells #[.slice A2 n2 c2,.slice A3 n3 c3] 25):=⟨_,rfl⟩
  have hbw:Below w.heap.size w W:=by rw [hW];exact below_alloc _ _
  have HC:Hid (∀ w1,Below W.heap.size W w1→w1.heap[w.heap.size]? = some (.cells #[.slice A2 n2 c2,.slice A3 n3 c3] 25 (0,0))):=Lib.hid fun w1 hb => (hb.block w.heap.size (by rw [hW];simp)).trans (by rw [hW];exact heap_at w _ _ rfl)
  have HW:=Lib.hid (And.intro hW hbw)
  clear hW hbw
  go_enter Tryz.func3,Tryz.ntmps3
  go_upto_region 1 with fail
  rw [← HW.out.1]
  go_wp2_with fail
  refine (awake9_c W (HX.out.2.2.2.on HW.out.2)).mono ?_
  rintro e w0 ⟨rfl,hb0⟩
  obtain ⟨c0,c1,-,-⟩:=box_cells (HC.out w0 hb0)
  have HB0:=Lib.hid hb0
  have hbw0:=Below.andThen HW.out.2 hb0
  clear hb0
  have HH:=Lib.hid (rheavy7_c (c:=c) (HX.out.1.below hbw0 (Nat.le_refl _) (Nat.le_refl _)) HX.out.2.1 50 false HX.out.2.2.1)
  have HG:=Lib.hid fun w1 (hb:Below w0.heap.size w0 w1) => grown_c (c:=c) HK.out.1 HK.out.2.1 (HX.out.1.below (Below.andThen hbw0 hb) (Nat.le_refl _) (Nat.le_refl _)) (Below.andThen hbw0 hb).size (by have:=HK.out.2.2.1;omega)
  clear hbw0
  go_upto_region 8 with (first
    | (go_at_call 14;refine HH.out.mono ?_;rintro e w' ⟨rfl,rfl⟩)
    | (go_at_call 15;refine (wbig_c A2 n2 c2 A3 n3 c3 _ false (decide_eq_false HK.out.2.2.2.1)).mono ?_;rintro e w1 ⟨rfl,hb1⟩;have hB1:=HB0.out.trans (hb1.mono HB0.out.size);have HB1:=Lib.hid hB1;clear hB1)
    | (go_at_call 16;refine (HG.out _ hb1).mono ?_;rintro e w2 ⟨tb,o,D2,d2c,rfl,hd2,-,hb2⟩;have hB2:=HB1.out.trans (hb2.mono HB1.out.size);have HD:=Lib.hid hd2;have HB2:=Lib.hid hB2;clear hd2 hb2 hB2 hb1 c0 c1 HG HH HB1 HB0))
  have hRef:Refd w2 (some ⟨tb,0,none⟩) A2 n2 c2 A3 n3 c3 2:=by
    rcases HK.out.2.2.2.2 with h | h
    · exact refd_right w2 tb A2 n2 c2 A3 n3 c3 (by have:=HK.out.2.2.2.1;unfold maxLen;omega) h
    · exact refd_k HD.out.tree.1.2.2.2.1 HD.out.tree.1.1 A2 n2 c2 A3 n3 c3 h.1.1.1 h.1.1.2 h.1.2 h.2
  have HRf:=Lib.hid hRef
  obtain ⟨c0,c1,-,-⟩:=box_cells (HC.out w2 HB2.out)
  have hB:=Below.refl w2.heap.size w2
  have HC2:Hid (∀ w1,Below w2.heap.size w2 w1→w1.heap[w.heap.size]? = some (.cells #[.slice A2 n2 c2,.slice A3 n3 c3] 25 (0,0))):=Lib.hid fun w1 hb => HC.out w1 (HB2.out.trans (hb.mono HB2.out.size))
  clear hRef HC
  go_upto_region 10 with (first
    | (go_at_call 17;refine (wclear_no (HRf.out.on hB) (by decide)).mono ?_;rintro e w3 ⟨rfl,hb3⟩;have hB3:=hB.trans (hb3.mono hB.size);clear hB c0 c1 hb3;obtain ⟨c0,c1,-,-⟩:=box_cells (HC2.out _ hB3))
    | (go_at_call 18;refine (wkeep_no (HRf.out.on hB3) (by decide)).mono ?_;rintro e w4 ⟨rfl,hb4⟩;have h6:=hB3.trans (hb4.mono hB3.size);clear hB3 c0 c1 hb4;obtain ⟨c0,c1,-,-⟩:=box_cells (HC2.out _ h6)))
  have hmx:n2≤maxLen:=by have:=HK.out.2.2.2.1;unfold maxLen;omega
  rcases HK.out.2.2.2.2 with hr | hr
  · have HRn:=Lib.hid fun w1 => r3right_n A2 A3 n2 c2 n3 c3 w1 hmx hr
    clear hmx hr
    go_wp2_with (go_at_call 19;refine (HRn.out _).mono ?_;rintro e w7 ⟨rfl,hb7⟩)
    go_ret
    exact ⟨rfl,Below.andThen HW.out.2 (Below.andThen HB2.out (Below.andThen h6 hb7))⟩
  · have d5:((n2:Int) != (k:Int)) = true:=by rw [bne_iff_ne];have:=hr.2;omega
    have HRn:=Lib.hid fun w1 => r3right_y A2 A3 n2 c2 n3 c3 w1 hr.1.1.1 hr.1.1.2 hr.1.2
    clear hmx hr
    go_wp2_with (go_at_call 19;refine (HRn.out _).mono ?_;rintro e w7 ⟨rfl,hb7⟩;have c0':w7.cell? ⟨w.heap.size,0,none⟩ = some (.slice A2 n2 c2):=(box_cells (HC2.out _ (h6.trans (hb7.mono h6.size)))).1)
    go_ret
    exact ⟨rfl,Below.andThen HW.out.2 (Below.andThen HB2.out (Below.andThen h6 hb7))⟩
set_option maxRecDepth 1000000 in
set_option maxHeartbeats 8000000 in
theorem windowPartsE_go {w:World} {A:Option Addr} {c:Nat} {l:List ActT} (k:Nat) (hT:Tz w) (hA:ActsT w w.heap.size A l) (hl:l.length≤maxLen) (hh:heavyA 50 l = false) (h1:1≤k) (h16:k≤16) {A2:Option Addr} {c2:Nat} {A3:Option Addr} {c3:Nat} {lo hi:List Nat} (hp:Pts w w.heap.size A2 lo) (hq:Pts w w.heap.size A3 hi) (hlo:lo.length = k) (hhi:hi.length = k) :
    Calls Tryz.prog 3 #[.int .i64 (k:Int),.slice A l.length c,boxV A2 lo.length c2 A3 hi.length c3] w fun e w' => e = .returned (.bool true)∧Below w.heap.size w w':=by
  have hfew:=heavyA_few hh
  have d1:decide ((k:Int) < 1) = false:=decide_eq_false (by omega)
  have d2:decide ((16:Int) < (k:Int)) = false:=decide_eq_false (by omega)
  have d5:((lo.length:Int) != (k:Int)) = false:=by rw [hlo];simp
  have hbig:¬ (40 < lo.length∨40 < hi.length):=by omega
  have HX:=Lib.hid (And.intro hA (And.intro hl (And.intro hh hT)))
  have HK:=Lib.hid (And.intro h1 (And.intro h16 (And.intro hfew hbig)))
  have HP:=Lib.hid (And.intro hp (And.intro hq (And.intro hlo hhi)))
  clear hA hl hh hT h1 h16 hfew hbig hp hq hlo hhi
  obtain ⟨W,hW⟩:∃ W,W = w.alloc (.cells #[.slice A2 lo.length c2,.slice A3 hi.length c3] 25):=⟨_,rfl⟩
  have hbw:Below w.heap.size w W:=by rw [hW];exact below_alloc _ _
  have HC:Hid (∀ w1,Below W.heap.size W w1→w1.heap[w.heap.size]? = some (.cells #[.slice A2 lo.length c2,.slice A3 hi.length c3] 25 (0,0))):=Lib.hid fun w1 hb => (hb.block w.heap.size (by rw [hW];simp)).trans (by rw [hW];exact heap_at w _ _ rfl)
  have HW:=Lib.hid (And.intro hW hbw)
  clear hW hbw
  go_enter Tryz.func3,Tryz.ntmps3
  go_upto_region 1 with fail
  rw [← HW.out.1]
  go_wp2_with fail
  refine (awake9_c W (HX.out.2.2.2.on HW.out.2)).mono ?_
  rintro e w0 ⟨rfl,hb0⟩
  obtain ⟨c0,c1,-,-⟩:=box_cells (HC.out w0 hb0)
  have HB0:=Lib.hid hb0
  have hbw0:=Below.andThen HW.out.2 hb0
  clear hb0
  have HH:=Lib.hid (rheavy7_c (c:=c) (HX.out.1.below hbw0 (Nat.le_refl _) (Nat.le_refl _)) HX.out.2.1 50 false HX.out.2.2.1)
  have HG:=Lib.hid fun w1 (hb:Below w0.heap.size w0 w1) => grown_c (c:=c) HK.out.1 HK.out.2.1 (HX.out.1.below (Below.andThen hbw0 hb) (Nat.le_refl _) (Nat.le_refl _)) (Below.andThen hbw0 hb).size (by have:=HK.out.2.2.1;omega)
  clear hbw0
  go_upto_region 8 with (first
    | (go_at_call 14;refine HH.out.mono ?_;rintro e w' ⟨rfl,rfl⟩)
    | (go_at_call 15;refine (wbig_c A2 lo.length c2 A3 hi.length c3 _ false (decide_eq_false HK.out.2.2.2)).mono ?_;rintro e w1 ⟨rfl,hb1⟩;have hB1:=HB0.out.trans (hb1.mono HB0.out.size);have HB1:=Lib.hid hB1;clear hB1)
    | (go_at_call 16;refine (HG.out _ hb1).mono ?_;rintro e w2 ⟨tb,o,D2,d2c,rfl,hd2,-,hb2⟩;have hB2:=HB1.out.trans (hb2.mono HB1.out.size);have HD:=Lib.hid hd2;have HB2:=Lib.hid hB2;clear hd2 hb2 hB2 hb1 c0 c1 HG HH HB1 HB0))
  have hlenE:(Tr.entsO o).length≤50:=by have:=HD.out.few;have:=HK.out.2.2.1;omega
  have hbw2:Below w.heap.size w w2:=Below.andThen HW.out.2 HB2.out
  have hT2:∀ w',Below w2.heap.size w2 w'→Tz w':=fun w' hb => (HX.out.2.2.2.on hbw2).on hb
  have hX2:BoxP w2 w2.heap.size k A2 lo A3 hi:=⟨(HP.out.1.below' hbw2 (Nat.le_refl _)).keep hbw2.size (fun _ _ => rfl),(HP.out.2.1.below' hbw2 (Nat.le_refl _)).keep hbw2.size (fun _ _ => rfl),HK.out.1,HK.out.2.1,HP.out.2.2.1,HP.out.2.2.2⟩
  have hdim:∀ e∈Tr.entsO o,e.1.length = k:=by
    cases o with
    | none => intro e he;cases he
    | some t => intro e he;exact ((HD.out.wf t rfl).each e he).1
  obtain ⟨n,hn⟩:∃ n,(Tr.entsO o).length = n:=⟨_,rfl⟩
  obtain ⟨R,hR⟩:∃ R,(Tr.entsO o).filter (fun e => Tr.inB lo hi e == true) = R:=⟨_,rfl⟩
  obtain ⟨R2,hR2⟩:∃ R,(Tr.entsO o).filter (fun e => Tr.inB lo hi e == false) = R:=⟨_,rfl⟩
  have hRl:R.length≤n:=by rw [← hR,← hn];exact List.length_filter_le _ _
  have hR2l:R2.length≤n:=by rw [← hR2,← hn];exact List.length_filter_le _ _
  have hRt:(Tr.entsO o).filter (kpE true lo hi) = R2:=by rw [← hR2];exact List.filter_congr fun x _ => by unfold kpE;cases Tr.inB lo hi x <;> rfl
  have hRf:(Tr.entsO o).filter (kpE false lo hi) = R:=by rw [← hR];exact List.filter_congr fun x _ => by unfold kpE;cases Tr.inB lo hi x <;> rfl
  have hsum:R.length + R2.length = n:=by
    rw [← hR,← hR2,← hn]
    have h2:∀ L:List Ent,(L.filter fun e => Tr.inB lo hi e == true).length + (L.filter fun e => Tr.inB lo hi e == false).length = L.length:=by
      intro L
      induction L with
      | nil => rfl
      | cons a L ih =>
        rw [List.filter_cons,List.filter_cons,List.length_cons]
        cases Tr.inB lo hi a
        · simp only [show (false == true) = false from rfl,show (false == false) = true from rfl,if_true,Bool.false_eq_true,if_false,List.length_cons];omega
        · simp only [show (true == true) = true from rfl,show (true == false) = false from rfl,if_true,Bool.false_eq_true,if_false,List.length_cons];omega
    exact h2 _
  have HCl:Hid (∀ w1,Below w2.heap.size w2 w1→Calls Tryz.prog 17 #[.pointer (some ⟨tb,0,none⟩),boxV A2 lo.length c2 A3 hi.length c3] w1 fun e w' => ∃ (r:Nat) (N:Option T),e = .returned (.tuple #[.pointer (some ⟨r,0,none⟩),.int .i64 0])∧RestE true lo hi tb k o w1 r N w'):=Lib.hid fun w1 hb =>
    wclear_c (HD.out.tree.below hb (Nat.le_refl _)) (fun w' h => hT2 w' (Below.andThen hb h)) (hX2.below hb (Nat.le_refl _) hb.size) (by omega)
  have HKe:Hid (∀ w1,Below w2.heap.size w2 w1→Calls Tryz.prog 18 #[.pointer (some ⟨tb,0,none⟩),boxV A2 lo.length c2 A3 hi.length c3] w1 fun e w' => ∃ (r:Nat) (N:Option T),e = .returned (.tuple #[.pointer (some ⟨r,0,none⟩),.int .i64 0])∧RestE false lo hi tb k o w1 r N w'):=Lib.hid fun w1 hb =>
    wkeep_c (HD.out.tree.below hb (Nat.le_refl _)) (fun w' h => hT2 w' (Below.andThen hb h)) (hX2.below hb (Nat.le_refl _) hb.size) (by omega)
  have HQ:Hid (∀ (yes:Bool) (w1:World),Below w2.heap.size w2 w1→Calls Tryz.prog 20 #[.slice D2 n d2c,boxV A2 lo.length c2 A3 hi.length c3,.bool yes] w1 fun e w' => ∃ A' c',e = .returned (.slice A' (if yes = true then R else R2).length c')∧OwnE w' w1.heap.size w1.heap.size (.slice A' (if yes = true then R else R2).length c') (if yes = true then R else R2)∧Below w1.heap.size w1 w'):=Lib.hid fun yes w1 hb => by
    rw [← hn]
    exact r9find_c (HD.out.ents hb) (Nat.le_refl _) (hX2.below hb (Nat.le_refl _) hb.size) hdim (by omega) yes (by cases yes <;> first | exact hR2 | exact hR)
  have HRn:=Lib.hid fun w1 => r3right_y A2 A3 lo.length c2 hi.length c3 w1 (by rw [HP.out.2.2.1];exact HK.out.1) (by rw [HP.out.2.2.1];exact HK.out.2.1) (by rw [HP.out.2.2.1,HP.out.2.2.2])
  have HN:=Lib.hid (And.intro hn (And.intro hRl (And.intro hR2l (And.intro hRt (And.intro hRf (And.intro hsum (And.intro hlenE (And.intro hbw2 hT2))))))))
  obtain ⟨c0,c1,-,-⟩:=box_cells (HC.out w2 HB2.out)
  have hB:=Below.refl w2.heap.size w2
  have HC2:Hid (∀ w1,Below w2.heap.size w2 w1→w1.heap[w.heap.size]? = some (.cells #[.slice A2 lo.length c2,.slice A3 hi.length c3] 25 (0,0))):=Lib.hid fun w1 hb => HC.out w1 (HB2.out.trans (hb.mono HB2.out.size))
  rw [hn]
  clear hlenE hbw2 hT2 hX2 hdim hn hR hR2 hRl hR2l hRt hRf hsum HC
  go_upto_region 10 with (first
    | (go_at_call 17;refine (HCl.out _ hB).mono ?_;rintro e w3 ⟨x,Nx,rfl,hx3⟩;have hB3:=hB.trans (hx3.2.2.2.2.mono hB.size);have HE3:=Lib.hid hx3;clear hB c0 c1 hx3;obtain ⟨c0,c1,-,-⟩:=box_cells (HC2.out _ hB3))
    | (go_at_call 18;refine (HKe.out _ hB3).mono ?_;rintro e w4 ⟨y,Ny,rfl,hy4⟩;have h6:=hB3.trans (hy4.2.2.2.2.mono hB3.size);have HE4:=Lib.hid hy4;clear hB3 c0 c1 hy4;obtain ⟨c0,c1,-,-⟩:=box_cells (HC2.out _ h6)))
  go_upto_region 13 with (first
    | (go_at_call 19;refine (HRn.out _).mono ?_;rintro e w7 ⟨rfl,hb7⟩;have h7:=h6.trans (hb7.mono h6.size);have HB7:=Lib.hid hb7;clear hb7 c0 c1;obtain ⟨c0,c1,-,-⟩:=box_cells (HC2.out _ h7))
    | (go_at_call 20;refine (HQ.out true _ h7).mono ?_;rintro e w8 ⟨A8,c8,rfl,ho8,hb8⟩;have h8:=h7.trans (hb8.mono h7.size);have HO8:=Lib.hid (And.intro ho8 hb8);clear hb8 c0 c1 ho8))
  obtain ⟨hn,hRl,hR2l,hRt,hRf,hsum,hlenE,hbw2,hT2⟩:=HN.out
  have hx8:TreeX w8 x k Nx:=by
    have h1:=HE4.out.2.2.2.2
    exact ((HE3.out.1.below h1 (Nat.le_refl _)).below HB7.out (Nat.le_refl _)).below HO8.out.2 (Nat.le_refl _)
  have hy8:TreeX w8 y k Ny:=(HE4.out.1.below HB7.out (Nat.le_refl _)).below HO8.out.2 (Nat.le_refl _)
  have ht8:TreeX w8 tb k o:=HD.out.tree.below h8 (Nat.le_refl _)
  have hxe:Tr.entsO Nx = R2:=HE3.out.2.1.trans hRt
  have hye:Tr.entsO Ny = R:=HE4.out.2.1.trans hRf
  have hxi:x = tb↔R.length = 0:=by
    rw [HE3.out.2.2.1,hxe]
    constructor
    · intro h;rw [h,hn] at hsum;omega
    · intro h
      have h1:((Tr.entsO o).filter (kpE true lo hi)).length = (Tr.entsO o).length:=by rw [hRt,hn];omega
      rw [← hRt]
      exact List.filter_eq_self.2 (List.length_filter_eq_length_iff.1 h1)
  have hyi:y = tb↔R.length = n:=by
    rw [HE4.out.2.2.1,hye]
    constructor
    · intro h;rw [h,hn]
    · intro h
      have h1:((Tr.entsO o).filter (kpE false lo hi)).length = (Tr.entsO o).length:=by rw [hRf,hn,h]
      rw [← hRf]
      exact List.filter_eq_self.2 (List.length_filter_eq_length_iff.1 h1)
  obtain ⟨rx,hrx⟩:∃ r,decide (x = tb) = r:=⟨_,rfl⟩
  obtain ⟨ry,hry⟩:∃ r,decide (y = tb) = r:=⟨_,rfl⟩
  have tt:∀ (u:Nat) (Nu:Option T) (r:Bool),TreeX w8 u k Nu→decide (u = tb) = r→(binOp .eql 29 (.pointer (some ⟨u,0,none⟩)) (.pointer (some ⟨tb,0,none⟩))).run Tryz.prog w8 = .ok (.bool r) w8:=fun u Nu r hu hr => by
    by_cases h:u = tb
    · subst h
      rw [← hr,decide_eq_true rfl]
      exact tptr_eq _ _
    · rw [← hr,decide_eq_false h]
      exact tptr_ne hu.2 ht8.2 h
  have X1:=tt x Nx rx hx8 hrx
  have Y1:=tt y Ny ry hy8 hry
  have dx:((R.length:Int) == 0) = rx:=by
    rw [← hrx,Bool.eq_iff_iff,beq_iff_eq,decide_eq_true_iff,hxi];omega
  have dy:((R.length:Int) == (n:Int)) = ry:=by
    rw [← hry,Bool.eq_iff_iff,beq_iff_eq,decide_eq_true_iff,hyi];omega
  obtain ⟨A9,c9,hv9,hc9,hl9⟩:=HO8.out.1.entL
  simp only [if_true,Value.slice.injEq] at hv9 hl9 hc9
  obtain ⟨rfl,-,rfl⟩:=hv9
  have hE9:Ents w8 w8.heap.size A8 R:=hl9.ents HO8.out.2.size (Nat.le_refl _)
  have hT8:∀ w',Below w8.heap.size w8 w'→Tz w':=fun w' h => hT2 w' (Below.andThen h8 h)
  have HIx:Hid (∀ (w1:World) (A':Option Addr) (c':Nat),Below w8.heap.size w8 w1→Ents w1 w1.heap.size A' R2→R2.length≤c'→Calls Tryz.prog 21 #[.pointer (some ⟨x,0,none⟩),.int .i64 (k:Int),.slice A' R2.length c'] w1 fun e w' => e = .returned (.bool true)∧Below w1.heap.size w1 w'):=Lib.hid fun w1 A' c' hb hE hc =>
    is7_n (hx8.below hb (Nat.le_refl _)) (fun w' h => hT8 w' (Below.andThen hb h)) hE hxe rfl hc (by omega)
  have HIy:Hid (∀ w1:World,Below w8.heap.size w8 w1→Calls Tryz.prog 21 #[.pointer (some ⟨y,0,none⟩),.int .i64 (k:Int),.slice A8 R.length c8] w1 fun e w' => e = .returned (.bool true)∧Below w1.heap.size w1 w'):=Lib.hid fun w1 hb =>
    is7_n (hy8.below hb (Nat.le_refl _)) (fun w' h => hT8 w' (Below.andThen hb h)) (hE9.below hb (Nat.le_refl _) hb.size) hye rfl hc9 (by omega)
  have HIt:Hid (∀ w1:World,Below w8.heap.size w8 w1→Calls Tryz.prog 21 #[.pointer (some ⟨tb,0,none⟩),.int .i64 (k:Int),.slice D2 n d2c] w1 fun e w' => e = .returned (.bool true)∧Below w1.heap.size w1 w'):=Lib.hid fun w1 hb =>
    is7_n (ht8.below hb (Nat.le_refl _)) (fun w' h => hT8 w' (Below.andThen hb h)) (HD.out.ents (Below.andThen h8 hb)) rfl hn (by have:=HD.out.cap;omega) (by omega)
  have HQ2:Hid (∀ w1:World,Below w8.heap.size w8 w1→Calls Tryz.prog 20 #[.slice D2 n d2c,boxV A2 lo.length c2 A3 hi.length c3,.bool false] w1 fun e w' => ∃ A' c',e = .returned (.slice A' R2.length c')∧Ents w' w'.heap.size A' R2∧R2.length≤c'∧Below w1.heap.size w1 w'):=Lib.hid fun w1 hb => by
    refine (HQ.out false w1 (Below.andThen h8 hb)).mono ?_
    rintro e w' ⟨A',c',rfl,ho,hb'⟩
    obtain ⟨A9,c9,hv9,hc9,hl9⟩:=ho.entL
    simp only [Bool.false_eq_true,if_false,Value.slice.injEq] at hv9 hl9 hc9
    obtain ⟨rfl,-,rfl⟩:=hv9
    exact ⟨A',c',rfl,hl9.ents hb'.size (Nat.le_refl _),hc9,hb'⟩
  have HZ:=Lib.hid (Below.andThen hbw2 h8)
  obtain ⟨c0,c1,-,-⟩:=box_cells (HC2.out _ h8)
  have a0:∀ w',Below w8.heap.size w8 w'→w'.cell? ⟨w.heap.size,0,none⟩ = some (.slice A2 lo.length c2):=fun w' h => (box_cells (HC2.out _ (Below.andThen h8 h))).1
  have a1:∀ w',Below w8.heap.size w8 w'→w'.cell? ⟨w.heap.size,1,none⟩ = some (.slice A3 hi.length c3):=fun w' h => (box_cells (HC2.out _ (Below.andThen h8 h))).2.1
  have hb0:Below w8.heap.size w8 w8:=Below.refl _ _
  clear hn hRl hR2l hRt hRf hsum hlenE hbw2 hT2 hx8 hy8 ht8 hxe hye hxi hyi hrx hry tt hl9 hc9 hE9 hT8 HQ HC2 HO8 h8 h7
  cases rx
  all_goals cases ry
  all_goals (
    go_upto_region 15 with fail
    clear X1 Y1 dx dy
    go_wp2_with (first
       | (go_at_call 20;with_reducible refine (HQ2.out _ (show Below w8.heap.size w8 _ by ((repeat first | refine bD ?_ | with_reducible refine bN ?_ | refine bA ?_ | refine bS ?_);first | exact bR | assumption | exact bN bR | exact bN (bN bR)))).mono ?_;rintro e v0 ⟨A9,c9,rfl,hE9,hc9,hb9⟩;have hbC:=Below.trans (show Below w8.heap.size w8 _ by ((repeat first | refine bD ?_ | with_reducible refine bN ?_ | refine bA ?_ | refine bS ?_);first | exact bR | assumption | exact bN bR | exact bN (bN bR))) (hb9.mono (Below.size (show Below w8.heap.size w8 _ by ((repeat first | refine bD ?_ | with_reducible refine bN ?_ | refine bA ?_ | refine bS ?_);first | exact bR | assumption | exact bN bR | exact bN (bN bR)))));have H9:=Lib.hid (And.intro hE9 hc9);clear hb9 hb0 hE9 hc9)
       | (go_at_call 21;with_reducible refine (HIx.out _ _ _ (show Below w8.heap.size w8 _ by ((repeat first | refine bD ?_ | with_reducible refine bN ?_ | refine bA ?_ | refine bS ?_);first | exact bR | assumption | exact bN bR | exact bN (bN bR))) H9.out.1 H9.out.2).mono ?_;rintro e v1 ⟨rfl,hb9⟩;have hbD:=Below.trans (show Below w8.heap.size w8 _ by ((repeat first | refine bD ?_ | with_reducible refine bN ?_ | refine bA ?_ | refine bS ?_);first | exact bR | assumption | exact bN bR | exact bN (bN bR))) (hb9.mono (Below.size (show Below w8.heap.size w8 _ by ((repeat first | refine bD ?_ | with_reducible refine bN ?_ | refine bA ?_ | refine bS ?_);first | exact bR | assumption | exact bN bR | exact bN (bN bR)))));clear hb9)
       | (go_at_call 21;with_reducible refine (HIy.out _ (show Below w8.heap.size w8 _ by ((repeat first | refine bD ?_ | with_reducible refine bN ?_ | refine bA ?_ | refine bS ?_);first | exact bR | assumption | exact bN bR | exact bN (bN bR)))).mono ?_;rintro e v2 ⟨rfl,hb9⟩;have hbE:=Below.trans (show Below w8.heap.size w8 _ by ((repeat first | refine bD ?_ | with_reducible refine bN ?_ | refine bA ?_ | refine bS ?_);first | exact bR | assumption | exact bN bR | exact bN (bN bR))) (hb9.mono (Below.size (show Below w8.heap.size w8 _ by ((repeat first | refine bD ?_ | with_reducible refine bN ?_ | refine bA ?_ | refine bS ?_);first | exact bR | assumption | exact bN bR | exact bN (bN bR)))));clear hb9)
       | (go_at_call 21;with_reducible refine (HIt.out _ (show Below w8.heap.size w8 _ by ((repeat first | refine bD ?_ | with_reducible refine bN ?_ | refine bA ?_ | refine bS ?_);first | exact bR | assumption | exact bN bR | exact bN (bN bR)))).mono ?_;rintro e v3 ⟨rfl,hb9⟩;have hbF:=Below.trans (show Below w8.heap.size w8 _ by ((repeat first | refine bD ?_ | with_reducible refine bN ?_ | refine bA ?_ | refine bS ?_);first | exact bR | assumption | exact bN bR | exact bN (bN bR))) (hb9.mono (Below.size (show Below w8.heap.size w8 _ by ((repeat first | refine bD ?_ | with_reducible refine bN ?_ | refine bA ?_ | refine bS ?_);first | exact bR | assumption | exact bN bR | exact bN (bN bR)))));clear hb9))
    go_ret
    exact ⟨rfl,Below.andThen HZ.out hbF⟩)
theorem windowParts_c {w:World} {A:Option Addr} {c:Nat} {l:List ActT} (k:Int) (hT:Tz w) (hA:ActsT w w.heap.size A l) (hl:l.length≤maxLen) {A2:Option Addr} {c2:Nat} {A3:Option Addr} {c3:Nat} {lo hi:List Nat} (hp:Pts w w.heap.size A2 lo) (hq:Pts w w.heap.size A3 hi) :
    Calls Tryz.prog 3 #[.int .i64 k,.slice A l.length c,boxV A2 lo.length c2 A3 hi.length c3] w fun e w' => e = .returned (.bool true)∧Below w.heap.size w w':=by
  rcases hh:heavyA 50 l with _ | _
  · by_cases hk1:k < 1
    · exact windowParts_low k hT hA hl hh hk1 A2 lo.length c2 A3 hi.length c3
    · by_cases hk2:16 < k
      · exact windowParts_high k hT hA hl hh hk2 A2 lo.length c2 A3 hi.length c3
      · by_cases hbig:40 < lo.length∨40 < hi.length
        · exact windowParts_big k hT hA hl hh ⟨by omega,by omega⟩ A2 lo.length c2 A3 hi.length c3 hbig
        · obtain ⟨n,rfl⟩:∃ n:Nat,k = (n:Int):=⟨k.toNat,by omega⟩
          by_cases hr:(1≤lo.length∧lo.length≤16)∧lo.length = hi.length
          · by_cases hn:lo.length = n
            · exact windowPartsE_go n hT hA hl hh (by omega) (by omega) hp hq hn (by rw [← hr.2,hn])
            · exact windowPartsD_go n hT hA hl hh (by omega) (by omega) A2 lo.length c2 A3 hi.length c3 hbig (.inr ⟨hr,hn⟩)
          · exact windowPartsD_go n hT hA hl hh (by omega) (by omega) A2 lo.length c2 A3 hi.length c3 hbig (.inl hr)
  · exact windowParts_skip k hT hA hl hh A2 lo.length c2 A3 hi.length c3
end Go.Proofs.YtkeepngaaleakaaGreatDoor
namespace Go.Proofs.YtkeepngaaleakaaGreatDoor
open Go.ChangeShapes Go.WideShapes Go.ChangeAt Go.RowKit
theorem cells_box:Tryz.prog.cellsOf 25 = 2:=by kernel_rfl
set_option maxRecDepth 1000000 in
theorem open_box {H:Type} {enc:TypeId × Value→H} {W:World} {v:Value} {d:DataW H} {ps:List MemPlace} (hv:Value.okWide Tryz.prog W .any 0 25 v) (h:DataW.Trod enc Tryz.prog W 0 (fun _ => true) true 25 v d ps) :
    ∃ (A:Option Addr) (c:Nat) (A':Option Addr) (c':Nat) (lo hi:List Nat),v = boxV A lo.length c A' hi.length c'∧lo.length≤maxLen∧hi.length≤maxLen∧Pts W W.heap.size A lo∧Pts W W.heap.size A' hi:=by
  obtain ⟨cs,rfl,hs⟩:=okWide_struct Tryz.underlying25 hv
  rw [cells_box] at hs
  obtain ⟨l⟩:=cs
  match l,hs with
  | [v0,v1],_ =>
    obtain ⟨fuel,hf⟩:=h
    obtain ⟨xs,n,_,_,_,hxl,hfs⟩:=DataW.trod_struct Tryz.underlying25 hf
    match xs,hxl with
    | [y0,y1],_ =>
      have g0:=hfs 0 _ rfl
      have g1:=hfs 1 _ rfl
      simp [Value.cells,cells_u64s] at g0 g1
      obtain ⟨A,c,lo,e0,m0,p0⟩:=open_u64s g0
      obtain ⟨A',c',hi,e1,m1,p1⟩:=open_u64s g1
      simp at e0 e1
      subst e0 e1
      exact ⟨A,c,A',c',lo,hi,rfl,m0,m1,p0,p1⟩
end Go.Proofs.YtkeepngaaleakaaGreatDoor
