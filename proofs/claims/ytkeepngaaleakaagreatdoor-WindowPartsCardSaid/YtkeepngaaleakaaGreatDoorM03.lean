import Derived.ScopeJumps
import Derived.WalkMore
import Derived.Deep.Cut
import Derived.BigQuiet
import Derived.Test.YtkeepngaaleakaaGreatDoorM02
namespace Go.Proofs.YtkeepngaaleakaaGreatDoor.Sn
open Go.ChangeShapes Go.WideShapes Go.ChangeAt Go.RowKit
abbrev Al:=List (Nat × Option Addr)
def elV (xs:List (Option Addr)):List Value:=xs.map fun x => (Value.pointer (x))
def u16V (ks:List Nat):List Value:=ks.map fun (k:Nat) => Value.int .u16 (k:Int)
theorem elV_length (xs:List (Option Addr)):(elV xs).length = xs.length:=by simp [elV]
theorem u16V_length (ks:List Nat):(u16V ks).length = ks.length:=by simp [u16V]
theorem elV_get {xs:List (Option Addr)} {i:Nat} {x:Option Addr} (h:xs[i]? = some x):(elV xs)[i]? = some (Value.pointer (x)):=by simp [elV,h]
theorem u16V_get {ks:List Nat} {i k:Nat} (h:ks[i]? = some k):(u16V ks)[i]? = some (.int .u16 (k:Int)):=by simp [u16V,h]
theorem elV_one (xs:List (Option Addr)):∀ u∈elV xs,u.oneCell' = true:=by
  intro u hu
  simp only [elV,List.mem_map] at hu
  obtain ⟨n,_,rfl⟩:=hu
  rfl
theorem u16V_one (ks:List Nat):∀ u∈u16V ks,u.oneCell' = true:=by
  intro u hu
  simp only [u16V,List.mem_map] at hu
  obtain ⟨n,_,rfl⟩:=hu
  rfl
def Sp (w:World) (B b k:Nat) (L:Al):Prop :=
  b < B∧∃ A c C c',w.cell? ⟨b,0,none⟩ = some (.int .i64 (k:Int))∧w.cell? ⟨b,1,none⟩ = some (.int .u64 0) ∧
    w.cell? ⟨b,2,none⟩ = some (.slice A L.length c)∧w.cell? ⟨b,3,none⟩ = some (.slice C L.length c')∧L.length≤c∧L.length≤c' ∧
    RdV w B A (u16V (Sl.keys L))∧RdE 81 w B C (elV (Sl.things L))
def De (w:World) (B b k:Nat) (L:Al):Prop :=
  b < B∧k≤6∧L≠[]∧∃ P C c',w.cell? ⟨b,0,none⟩ = some (.int .i64 (k:Int))∧w.cell? ⟨b,1,none⟩ = some (.int .u64 (Sl.mask L:Int)) ∧
    w.cell? ⟨b,2,none⟩ = some P∧w.cell? ⟨b,3,none⟩ = some (.slice C (2 ^ k) c')∧2 ^ k≤c'∧(∃ A n c,P = .slice A n c)∧RdE 81 w B C (elV (Sl.row none (2 ^ k) L))
def Rp (w:World) (B b k:Nat) (L:Al):Bool→Prop
  | false => Sp w B b k L
  | true => De w B b k L
def At (w:World) (B b k:Nat) (L:Al):Prop:=Sl.Wf k L∧Rp w B b k L (Sl.dense k L)
theorem Sp.below {w w':World} {B B' C b k:Nat} {L:Al} (h:Sp w B b k L) (hb:Below C w w') (hC:B≤C) (hB:B≤B'):Sp w' B' b k L:=by
  obtain ⟨h0,A,c,D,c',h1,h2,h3,h4,h5,h6,h7,h8⟩:=h
  exact ⟨by omega,A,c,D,c',(hb.cell (p:=⟨b,0,none⟩) (by show b < C;omega)).trans h1,(hb.cell (p:=⟨b,1,none⟩) (by show b < C;omega)).trans h2,(hb.cell (p:=⟨b,2,none⟩) (by show b < C;omega)).trans h3,(hb.cell (p:=⟨b,3,none⟩) (by show b < C;omega)).trans h4,h5,h6,h7.below hb hC hB,h8.below hb hC hB⟩
theorem De.below {w w':World} {B B' C b k:Nat} {L:Al} (h:De w B b k L) (hb:Below C w w') (hC:B≤C) (hB:B≤B'):De w' B' b k L:=by
  obtain ⟨h0,hk,hL,P,D,c',h1,h2,h3,h4,h5,h6,h7⟩:=h
  exact ⟨by omega,hk,hL,P,D,c',(hb.cell (p:=⟨b,0,none⟩) (by show b < C;omega)).trans h1,(hb.cell (p:=⟨b,1,none⟩) (by show b < C;omega)).trans h2,(hb.cell (p:=⟨b,2,none⟩) (by show b < C;omega)).trans h3,(hb.cell (p:=⟨b,3,none⟩) (by show b < C;omega)).trans h4,h5,h6,h7.below hb hC hB⟩
theorem Rp.below {w w':World} {B B' C b k:Nat} {L:Al} {d:Bool} (h:Rp w B b k L d) (hb:Below C w w') (hC:B≤C) (hB:B≤B'):Rp w' B' b k L d:=by
  cases d
  · exact Sp.below h hb hC hB
  · exact De.below h hb hC hB
theorem At.below {w w':World} {B B' C b k:Nat} {L:Al} (h:At w B b k L) (hb:Below C w w') (hC:B≤C) (hB:B≤B'):At w' B' b k L:=⟨h.1,h.2.below hb hC hB⟩
theorem Sp.drew {w:World} {B b k:Nat} {L:Al} (h:Sp w B b k L):Sp w.drew B b k L:=h
theorem De.drew {w:World} {B b k:Nat} {L:Al} (h:De w B b k L):De w.drew B b k L:=h
/-! ### K,Dense -/
theorem rp_k {w:World} {B b k:Nat} {L:Al} {d:Bool} (h:Rp w B b k L d):w.cell? ⟨b,0,none⟩ = some (.int .i64 (k:Int)):=by
  cases d
  · obtain ⟨_,_,_,_,_,h1,_⟩:=h;exact h1
  · obtain ⟨_,_,_,_,_,_,h1,_⟩:=h;exact h1
theorem rp_lt {w:World} {B b k:Nat} {L:Al} {d:Bool} (h:Rp w B b k L d):b < B:=by
  cases d
  · exact h.1
  · exact h.1
theorem sDense_nil (w:World):Calls Tryz.prog 148 #[.pointer none] w fun e w' => e = .returned (.bool false)∧w = w':=by
  go_enter Tryz.func148,Tryz.ntmps148
  go_wp2
  go_ret
  exact ⟨rfl,rfl⟩
theorem sDense_c {w:World} {B b k:Nat} {L:Al} {d:Bool} (h:Rp w B b k L d) :
    Calls Tryz.prog 148 #[.pointer (some ⟨b,0,none⟩)] w fun e w' => e = .returned (.bool d)∧w = w':=by
  cases d
  · obtain ⟨_,_,_,_,_,_,h1,_⟩:=h
    go_enter Tryz.func148,Tryz.ntmps148
    go_wp2
    go_ret
    exact ⟨rfl,rfl⟩
  · obtain ⟨_,_,hL,_,_,_,_,h1,_⟩:=h
    have hne:=Sl.mask_pos hL
    have hn:((Sl.mask L:Int) != 0) = true:=by rw [bne_iff_ne];omega
    clear hne
    go_enter Tryz.func148,Tryz.ntmps148
    go_wp2
    go_ret
    exact ⟨rfl,rfl⟩
theorem sLen_nil (w:World):Calls Tryz.prog 200 #[.pointer none] w fun e w' => e = .returned (.int .i64 0)∧w = w':=by
  go_enter Tryz.func200,Tryz.ntmps200
  go_wp2
  go_ret
  exact ⟨rfl,rfl⟩
theorem sLen_c {w:World} {B b k:Nat} {L:Al} {d:Bool} (wf:Sl.Wf k L) (h:Rp w B b k L d) :
    Calls Tryz.prog 200 #[.pointer (some ⟨b,0,none⟩)] w fun e w' => e = .returned (.int .i64 (L.length:Int))∧w = w':=by
  have h0:=sDense_c h
  cases d
  · obtain ⟨_,_,_,_,_,_,h1,h2,_⟩:=h
    have hl:=wf.len16
    have H0:=Lib.hid h0
    clear h0 wf
    go_enter Tryz.func200,Tryz.ntmps200
    go_wp2_with (go_at_call 148;refine H0.out.mono ?_;rintro e w' ⟨rfl,rfl⟩)
    go_ret
    exact ⟨rfl,rfl⟩
  · obtain ⟨_,hk,_,_,_,_,_,h1,_⟩:=h
    have hm:=Sl.mask_lt (wf.lt64 hk)
    have hones:Hid (Pc.ones 64 (Sl.mask L) = L.length):=Lib.hid (Sl.ones_len wf.srt (wf.lt64 hk))
    have H0:=Lib.hid h0
    clear h0 wf hk
    go_enter Tryz.func200,Tryz.ntmps200
    go_wp2_with (first
      | (go_at_call 148;refine H0.out.mono ?_;rintro e w' ⟨rfl,rfl⟩)
      | (go_at_call 242;refine (ones64_any (Sl.mask L) _ (by omega)).mono ?_;rintro e w' ⟨rfl,rfl⟩))
    go_ret
    exact ⟨by rw [hones.out];rfl,rfl⟩
/-! ### isAddr -/
def isA (k:Nat) (a:Int):Bool:=decide (0≤a) && decide (a < ((2 ^ k:Nat):Int))
theorem isA_true {k:Nat} {a:Int} (h:isA k a = true):∃ n:Nat,a = (n:Int)∧n < 2 ^ k:=by
  simp only [isA,Bool.and_eq_true,decide_eq_true_eq] at h
  exact ⟨a.toNat,by omega,by omega⟩
theorem isA_nat {k n:Nat} (h:n < 2 ^ k):isA k (n:Int) = true:=by
  simp only [isA,Bool.and_eq_true,decide_eq_true_eq]
  omega
set_option maxRecDepth 100000 in
theorem sIsAddr_c {w:World} {B b k:Nat} {L:Al} {d:Bool} (k1:1≤k) (k16:k≤16) (h:Rp w B b k L d) (a:Int) (r:Bool) (hr:isA k a = r) :
    Calls Tryz.prog 221 #[.pointer (some ⟨b,0,none⟩),.int .i64 a] w fun e w' => e = .returned (.bool r)∧w = w':=by
  have h1:=rp_k h
  have hp:2 ^ k≤65536:=Nat.pow_le_pow_right (n:=2) (by omega) k16
  have hp0:=Nat.two_pow_pos k
  have hw:wrap64 (2 ^ k) = ((2 ^ k:Nat):Int):=by
    rw [show (2:Int) ^ k = ((2 ^ k:Nat):Int) by simp];exact IntWalk.wrap64_in _ (by omega)
  obtain ⟨P,hP⟩:∃ P,2 ^ k = P:=⟨_,rfl⟩
  unfold isA at hr
  rw [hP] at hw hr hp hp0
  clear h hP
  by_cases c:0≤a
  · have d1:decide (0≤a) = true:=decide_eq_true c
    rw [d1,Bool.true_and] at hr
    have Hr:=Lib.hid hr
    clear hr c
    go_enter Tryz.func221,Tryz.ntmps221
    go_wp2
    all_goals go_ret
    all_goals exact ⟨by rw [← Hr.out];rfl,rfl⟩
  · have d1:decide (0≤a) = false:=decide_eq_false c
    rw [d1,Bool.false_and] at hr
    subst hr
    clear c
    go_enter Tryz.func221,Tryz.ntmps221
    go_wp2
    all_goals go_ret
    all_goals exact ⟨rfl,rfl⟩
/-! ### New -/
theorem cells4 (w:World) (x y z u:Value) (t:TypeId):(w.alloc (.cells #[x,y,z,u] t)).cell? ⟨w.heap.size,0,none⟩ = some x∧(w.alloc (.cells #[x,y,z,u] t)).cell? ⟨w.heap.size,1,none⟩ = some y∧(w.alloc (.cells #[x,y,z,u] t)).cell? ⟨w.heap.size,2,none⟩ = some z∧(w.alloc (.cells #[x,y,z,u] t)).cell? ⟨w.heap.size,3,none⟩ = some u :=
  ⟨by rw [World.cell?_alloc_new];rfl,by rw [World.cell?_alloc_new];rfl,by rw [World.cell?_alloc_new];rfl,by rw [World.cell?_alloc_new];rfl⟩
theorem sp_new (w:World) (k:Nat):Sp (w.alloc (.cells #[.int .i64 (k:Int),.int .u64 0,.slice none 0 0,.slice none 0 0] 277)) (w.heap.size + 1) w.heap.size k []:=by
  obtain ⟨h0,h1,h2,h3⟩:=cells4 w (.int .i64 (k:Int)) (.int .u64 0) (.slice none 0 0) (.slice none 0 0) 277
  exact ⟨by omega,none,0,none,0,h0,h1,h2,h3,Nat.le_refl _,Nat.le_refl _,RdV.nil _ _ _,RdE.nil _ _ _ _⟩
theorem sNew_yes (k:Nat) (w:World) (h1:1≤k) (h2:k≤16) :
    Calls Tryz.prog 154 #[.int .i64 (k:Int)] w fun e w' => ∃ b,e = .returned (.tuple #[.pointer (some ⟨b,0,none⟩),.int .i64 0])∧At w' w'.heap.size b k []∧Below w.heap.size w w':=by
  have d1:decide ((k:Int) < 1) = false:=decide_eq_false (by omega)
  have d2:decide ((16:Int) < (k:Int)) = false:=decide_eq_false (by omega)
  have Hs:=Lib.hid (sp_new w k)
  have hb:=below_alloc w (.cells #[.int .i64 (k:Int),.int .u64 0,.slice none 0 0,.slice none 0 0] 277)
  have Hw:Hid (Sl.Wf k ([]:Al)):=Lib.hid (Sl.Wf.nil h1 h2)
  clear h1 h2
  go_enter Tryz.func154,Tryz.ntmps154
  go_wp2
  go_ret2
  refine ⟨w.heap.size,rfl,⟨Hw.out,?_⟩,hb⟩
  have:Sl.dense k ([]:Al) = false:=by simp [Sl.dense]
  rw [this,World.size_alloc]
  exact Hs.out
end Go.Proofs.YtkeepngaaleakaaGreatDoor.Sn
namespace Go.Proofs.YtkeepngaaleakaaGreatDoor
theorem wp_scope_back1 {P:Program} {a:Act} {w:World} {Q:Exit→Act→World→Prop} {c rest:Code} (l:Nat) (J:Act→World→Prop) (μ:Act→World→Nat) (hf:findLabel c l = some (.seq .skip rest))
    (pass:∀ a w,J a w→rest.wp P (Exit.jump l (fun a' w' => J a' w'∧μ a' w' < μ a w) Q) a w)
    (first:(∀ a w,J a w→rest.wp P (Exit.jump l J Q) a w)→c.wp P (Exit.jump l J Q) a w):(Code.scope c).wp P Q a w:=by
  refine wp_scope_jumps l J μ hf (first fun a w h => ?_) fun a w h => ?_
  · refine Code.wp_mono (fun e a w h => ?_) (pass a w h)
    cases e <;> first | exact h | exact ⟨h.1,h.2.1⟩
  · refine wp_seq ?_
    refine wp_skip ?_
    exact pass a w h
end Go.Proofs.YtkeepngaaleakaaGreatDoor
namespace Go.Proofs.YtkeepngaaleakaaGreatDoor.Sn
open Go.ChangeShapes Go.WideShapes Go.ChangeAt Go.RowKit
theorem sSearch_nil (a:Int) (w:World):Calls Tryz.prog 245 #[.pointer none,.int .i64 a] w fun e w' => e = .returned (.tuple #[.int .i64 0,.bool false])∧w = w':=by
  go_enter Tryz.func245,Tryz.ntmps245
  go_wp2
  go_step3
  go_wp2
  rw [Exit.noGoto_ret]
  go_ret2
  exact ⟨rfl,rfl⟩
theorem idx_cut {k:Nat} {L:Al} (wf:Sl.Wf k L) {a:Int} {m:Nat} {p:Nat × Option Addr} (hp:L[m]? = some p):(p.1:Int) < a↔m < Sl.idx L a:=by
  constructor
  · intro h
    rcases Nat.lt_or_ge m (Sl.idx L a) with c | c
    · exact c
    · have:=Sl.idx_above wf.srt a c hp
      omega
  · intro h
    exact Sl.idx_below L a m p h hp
set_option maxRecDepth 100000 in
set_option maxHeartbeats 1000000 in
theorem sSearch_c {w:World} {B b k:Nat} {L:Al} (wf:Sl.Wf k L) (h:Sp w B b k L) (a:Int) :
    Calls Tryz.prog 245 #[.pointer (some ⟨b,0,none⟩),.int .i64 a] w fun e w' => e = .returned (.tuple #[.int .i64 (Sl.idx L a:Int),.bool (Sl.has L a)])∧∃ n,w' = w.drewN n:=by
  obtain ⟨hbB,A,c,C,c',h0,h1,h2,h3,h4,h5,hA,-⟩:=h
  have hlen:=wf.len16
  have hle:=Sl.idx_le L a
  go_enter Tryz.func245,Tryz.ntmps245
  go_wp2
  refine wp_scope_back1 0 (fun a' w' => ∃ (low high:Nat),(low≤Sl.idx L a∧Sl.idx L a≤high∧high≤L.length∧∃ n,w' = w.drewN n)∧(∃ z8 z9 z10 z11 z12 z13 z14 z15 z16 z17 z18 z19 z20 z21 z22 z23 z24 z25 z26 z27 z28 z29 z30 z31 z32 z33 z34 z35 z36 z37 z38 z39 z40 z41 z42 z43 z44 z45 z46 z47 z48 z49 z50 z51 z52 z53 z54 z55 z56 z57:Value,a' = { tmps:=#[.pointer (some ⟨b,0,none⟩),.int .i64 a,undef,undef,.int .i64 0,.bool false,.int .i64 (low:Int),.int .i64 (high:Int),z8,z9,z10,z11,z12,z13,z14,z15,z16,z17,z18,z19,z20,z21,z22,z23,z24,z25,z26,z27,z28,z29,z30,z31,z32,z33,z34,z35,z36,z37,z38,z39,z40,z41,z42,z43,z44,z45,z46,z47,z48,z49,z50,z51,z52,z53,z54,z55,z56,z57],defers:=[] })) (fun a' _ => (intOf (a'.tmps.getD 7 undef) - intOf (a'.tmps.getD 6 undef)).toNat) rfl ?_ ?_
  · rintro a' w' ⟨low,high,⟨i1,i2,i3,n,rfl⟩,⟨z8,z9,z10,z11,z12,z13,z14,z15,z16,z17,z18,z19,z20,z21,z22,z23,z24,z25,z26,z27,z28,z29,z30,z31,z32,z33,z34,z35,z36,z37,z38,z39,z40,z41,z42,z43,z44,z45,z46,z47,z48,z49,z50,z51,z52,z53,z54,z55,z56,z57,rfl⟩⟩
    rcases Nat.lt_or_eq_of_le (Nat.le_trans i1 i2) with hlt | heq
    · obtain ⟨m,hm⟩:∃ m,low + (high - low) / 2 = m:=⟨_,rfl⟩
      have hm1:low≤m:=by omega
      have hm2:m < high:=by omega
      have hmI:(low:Int) + ((high:Int) - (low:Int)) / 2 = (m:Int):=by omega
      obtain ⟨p,hp⟩:=get_lt (us:=L) (k:=m) (by omega)
      have hic:=idx_cut wf (a:=a) hp
      have hp16:=wf.lt16 p (List.mem_of_getElem? hp)
      obtain ⟨pb,po,hAA,hpb,hcell⟩:=hA.at (u16V_get (Sl.keys_get hp))
      subst hAA
      have d0:((low:Int) == (high:Int)) = false:=by rw [beq_eq_false_iff_ne];omega
      have hmL:m < L.length:=by omega
      have Hm:=Lib.hid (And.intro hic (And.intro i1 (And.intro i2 (And.intro i3 (And.intro hm1 hm2)))))
      clear hm hA hle hic
      by_cases c1:(p.1:Int) < a
      · have d2:decide ((p.1:Int) < a) = true:=decide_eq_true c1
        have hj:=Hm.out.1.1 c1
        have Hj:=Lib.hid hj
        clear c1 hj
        go_wp2
        go_step3
        refine ⟨rfl,⟨m + 1,high,⟨by have:=Hj.out;omega,i2,i3,n,rfl⟩,?_⟩,?_⟩
        · (repeat apply Exists.intro);rfl
        · simp [intOf];omega
      · have d2:decide ((p.1:Int) < a) = false:=decide_eq_false c1
        have hj:Sl.idx L a≤m:=by
          rcases Nat.lt_or_ge m (Sl.idx L a) with d | d
          · exact absurd (Hm.out.1.2 d) c1
          · exact d
        have Hj:=Lib.hid hj
        clear c1 hj
        go_wp2
        go_step3
        refine ⟨rfl,⟨low,m,⟨i1,Hj.out,by omega,n,rfl⟩,?_⟩,?_⟩
        · (repeat apply Exists.intro);rfl
        · simp [intOf];omega
    · subst heq
      obtain ⟨r,hr⟩:∃ r,Sl.has L a = r:=⟨_,rfl⟩
      have hidx:Sl.idx L a = low:=by omega
      have d0:((low:Int) == (low:Int)) = true:=by rw [beq_iff_eq]
      have HX:=Lib.hid (And.intro hr hidx)
      by_cases c1:low < L.length
      · obtain ⟨p,hp⟩:=get_lt c1
        have hp16:=wf.lt16 p (List.mem_of_getElem? hp)
        have hh:=Sl.has_idx wf.srt (a:=a) (p:=p) (by rw [hidx];exact hp)
        rw [hr] at hh
        obtain ⟨pb,po,hAA,hpb,hcell⟩:=hA.at (u16V_get (Sl.keys_get hp))
        subst hAA
        have e1:decide (low < L.length) = true:=decide_eq_true c1
        have e2:decide ((low:Int) < (L.length:Int)) = true:=decide_eq_true (by omega)
        have e3:((p.1:Int) == a) = r:=by rw [hh,Bool.eq_iff_iff,beq_iff_eq,decide_eq_true_eq]
        have E3:=Lib.hid e3
        have k1:(0:Int)≤(low:Int):=by omega
        have k2:(low:Int) < (L.length:Int):=by omega
        clear hr hh hidx hA hle i1 i2 i3 e3
        go_wp2
        go_quiet (fail)
        go_wp2
        simp only [Exit.jump]
        go_ret2
        exact ⟨by rw [HX.out.1,HX.out.2,← E3.out];rfl,_,rfl⟩
      · have hh:=Sl.has_end wf.srt (a:=a) (by omega)
        rw [hr] at hh
        subst hh
        have e1:decide (low < L.length) = false:=decide_eq_false c1
        have e2:decide ((low:Int) < (L.length:Int)) = false:=decide_eq_false (by omega)
        clear hr hidx hA hle i1 i2 i3
        go_wp2
        go_quiet (fail)
        go_wp2
        simp only [Exit.jump]
        go_ret2
        exact ⟨by rw [HX.out.1,HX.out.2];rfl,_,rfl⟩
  · intro H
    have HH:=Lib.hid H
    clear H
    go_wp2
    go_quiet (fail)
    go_wp2
    go_step3
    rename_i hK
    refine hK _ _ (HH.out _ _ ⟨0,L.length,⟨Nat.zero_le _,hle,Nat.le_refl _,_,rfl⟩,?_⟩)
    (repeat apply Exists.intro);rfl
theorem sSearch_hid {w:World} {B b k:Nat} {L:Al} (wf:Sl.Wf k L) (h:Sp w B b k L) (a:Int) (i:Nat) (r:Bool) (hi:Sl.idx L a = i) (hr:Sl.has L a = r) :
    Calls Tryz.prog 245 #[.pointer (some ⟨b,0,none⟩),.int .i64 a] w fun e w' => e = .returned (.tuple #[.int .i64 (i:Int),.bool r])∧∃ n,w' = w.drewN n:=by
  subst hi hr;exact sSearch_c wf h a
/-! ### find -/
theorem bit_and_one (m n:Nat) (hm:m < 18446744073709551616):(bits .and .u64 ((m / 2 ^ n:Nat):Int) 1 == 1) = m.testBit n:=by
  have hd:m / 2 ^ n < 18446744073709551616:=Nat.lt_of_le_of_lt (Nat.div_le_self _ _) hm
  have e:=bits_and_u64_nat (m / 2 ^ n) 1 hd (by omega)
  rw [show ((1:Nat):Int) = 1 from rfl] at e
  rw [e,Nat.and_one_is_mod,Bool.eq_iff_iff,beq_iff_eq,Nat.testBit_eq_decide_div_mod_eq,decide_eq_true_eq]
  omega
theorem sFind_sp {w:World} {B b k:Nat} {L:Al} (wf:Sl.Wf k L) (h:Sp w B b k L) (a:Int) (i:Nat) (r:Bool) (hi:Sl.idx L a = i) (hr:Sl.has L a = r) :
    Calls Tryz.prog 222 #[.pointer (some ⟨b,0,none⟩),.int .i64 a] w fun e w' => e = .returned (.tuple #[.int .i64 (i:Int),.bool r])∧∃ n,w' = w.drewN n:=by
  have h0:=sDense_c (d:=false) h
  have hs:=sSearch_hid wf h a i r hi hr
  have H:=Lib.hid (And.intro h0 hs)
  clear h0 hs wf h hi hr
  go_enter Tryz.func222,Tryz.ntmps222
  go_wp2_with (first
    | (go_at_call 148;refine H.out.1.mono ?_;rintro e w' ⟨rfl,rfl⟩)
    | (go_at_call 245;refine H.out.2.mono ?_;rintro e w' ⟨rfl,n,rfl⟩))
  go_ret2
  exact ⟨rfl,_,rfl⟩
theorem sFind_no {w:World} {B b k:Nat} {L:Al} (wf:Sl.Wf k L) (h:De w B b k L) (a:Int) (ha:isA k a = false) :
    Calls Tryz.prog 222 #[.pointer (some ⟨b,0,none⟩),.int .i64 a] w fun e w' => e = .returned (.tuple #[.int .i64 a,.bool false])∧∃ n,w' = w.drewN n:=by
  have h0:=sDense_c (d:=true) h
  have hs:=fun n => sIsAddr_c (w:=w.drewN n) (d:=true) wf.k1 wf.k16 h a false ha
  have H:=Lib.hid (And.intro h0 hs)
  clear h0 hs wf ha h
  go_enter Tryz.func222,Tryz.ntmps222
  go_wp2_with (go_at_call 148;refine H.out.1.mono ?_;rintro e w' ⟨rfl,rfl⟩)
  go_quiet ((go_at_call 221;exact Calls.quiet_of_same ((H.out.2 _).mono fun e w' h => ⟨h.1,h.2.symm⟩)))
  go_wp2
  go_ret2
  exact ⟨rfl,_,rfl⟩
theorem sFind_de {w:World} {B b k:Nat} {L:Al} (wf:Sl.Wf k L) (h:De w B b k L) (a:Nat) (ha:a < 2 ^ k) (r:Bool) (hr:Sl.has L (a:Int) = r) :
    Calls Tryz.prog 222 #[.pointer (some ⟨b,0,none⟩),.int .i64 (a:Int)] w fun e w' => e = .returned (.tuple #[.int .i64 (a:Int),.bool r])∧∃ n,w' = w.drewN n:=by
  have h0:=sDense_c (d:=true) h
  have hs:=fun n => sIsAddr_c (w:=w.drewN n) (d:=true) wf.k1 wf.k16 h (a:Int) true (isA_nat ha)
  have H:=Lib.hid (And.intro h0 hs)
  obtain ⟨_,hk,hL,P,C,c',_,h1,_⟩:=h
  have hm:=Sl.mask_lt (wf.lt64 hk)
  have h64:a < 64:=Nat.lt_of_lt_of_le ha (Nat.pow_le_pow_right (n:=2) (by omega) hk)
  have hb:=bit_and_one (Sl.mask L) a (by omega)
  rw [Sl.mask_testBit,hr] at hb
  have Hb:=Lib.hid hb
  clear h0 hs wf ha hr hm hk hL hb
  go_enter Tryz.func222,Tryz.ntmps222
  go_wp2_with (go_at_call 148;refine H.out.1.mono ?_;rintro e w' ⟨rfl,rfl⟩)
  go_quiet ((go_at_call 221;exact Calls.quiet_of_same ((H.out.2 _).mono fun e w' h => ⟨h.1,h.2.symm⟩)))
  go_wp2
  go_ret2
  exact ⟨by rw [← Hb.out];simp,_,rfl⟩
/-! ### at -/
abbrev none3:Value:=.tuple #[.int .i64 0,(Value.pointer none),.bool false]
theorem sAt_nil (i:Int) (w:World):Calls Tryz.prog 243 #[.pointer none,.int .i64 i] w fun e w' => e = .returned none3∧w = w':=by
  go_enter Tryz.func243,Tryz.ntmps243
  go_wp2
  go_ret3
  exact ⟨rfl,rfl⟩
theorem sAt_high {w:World} {b m c:Nat} {C:Option Addr} (h:w.cell? ⟨b,3,none⟩ = some (.slice C m c)) (i:Nat) (hi:m≤i) :
    Calls Tryz.prog 243 #[.pointer (some ⟨b,0,none⟩),.int .i64 (i:Int)] w fun e w' => e = .returned none3∧w = w':=by
  have d1:decide ((i:Int) < 0) = false:=decide_eq_false (by omega)
  have d2:decide (m≤i) = true:=decide_eq_true hi
  have d3:decide ((m:Int)≤(i:Int)) = true:=decide_eq_true (by omega)
  go_enter Tryz.func243,Tryz.ntmps243
  go_wp2
  go_ret3
  exact ⟨rfl,rfl⟩
theorem sAt_sp {w:World} {B b k:Nat} {L:Al} (wf:Sl.Wf k L) (h:Sp w B b k L) (i:Nat) (p:Nat × Option Addr) (hp:L[i]? = some p) :
    Calls Tryz.prog 243 #[.pointer (some ⟨b,0,none⟩),.int .i64 (i:Int)] w fun e w' => e = .returned (.tuple #[.int .i64 (p.1:Int),(Value.pointer (p.2)),.bool true])∧∃ n,w' = w.drewN n:=by
  have H:=Lib.hid (sDense_c (d:=false) h)
  obtain ⟨hbB,A,c,C,c',h0,h1,h2,h3,h4,h5,hA,hC⟩:=h
  have hlen:=wf.len16
  have hi:=lt_get hp
  have hp16:=wf.lt16 p (List.mem_of_getElem? hp)
  obtain ⟨pb,po,hAA,hpb,hcell⟩:=hA.at (u16V_get (Sl.keys_get hp))
  obtain ⟨qb,qo,hCC,hqb,hcell'⟩:=hC.at (elV_get (Sl.things_get hp))
  subst hAA hCC
  have d1:decide ((i:Int) < 0) = false:=decide_eq_false (by omega)
  have d2:decide (L.length≤i) = false:=decide_eq_false (by omega)
  have d3:decide ((L.length:Int)≤(i:Int)) = false:=decide_eq_false (by omega)
  have k1:(0:Int)≤(i:Int):=by omega
  have k2:(i:Int) < (L.length:Int):=by omega
  clear wf hA hC hp
  go_enter Tryz.func243,Tryz.ntmps243
  go_wp2_with (go_at_call 148;refine H.out.mono ?_;rintro e w' ⟨rfl,rfl⟩)
  go_quiet (fail)
  go_wp2
  go_ret3
  exact ⟨rfl,_,rfl⟩
theorem sAt_de {w:World} {B b k:Nat} {L:Al} (h:De w B b k L) (i:Nat) (x:Option Addr) (hx:(Sl.row none (2 ^ k) L)[i]? = some x) :
    Calls Tryz.prog 243 #[.pointer (some ⟨b,0,none⟩),.int .i64 (i:Int)] w fun e w' => e = .returned (.tuple #[.int .i64 (i:Int),(Value.pointer (x)),.bool true])∧∃ n,w' = w.drewN n:=by
  have H:=Lib.hid (sDense_c (d:=true) h)
  obtain ⟨hbB,hk,hL,P,C,c',h0,h1,h2,h3,h4,h5,hC⟩:=h
  have hi:=lt_get hx
  rw [Sl.row_length] at hi
  have hp:2 ^ k≤2 ^ 6:=Nat.pow_le_pow_right (n:=2) (by omega) hk
  obtain ⟨qb,qo,hCC,hqb,hcell'⟩:=hC.at (elV_get hx)
  subst hCC
  obtain ⟨m,hm⟩:∃ m,2 ^ k = m:=⟨_,rfl⟩
  rw [hm] at h3 hi hp
  have d1:decide ((i:Int) < 0) = false:=decide_eq_false (by omega)
  have d2:decide (m≤i) = false:=decide_eq_false (by omega)
  have d3:decide ((m:Int)≤(i:Int)) = false:=decide_eq_false (by omega)
  have k1:(0:Int)≤(i:Int):=by omega
  have k2:(i:Int) < (m:Int):=by omega
  clear hC hx hm h4 h5
  go_enter Tryz.func243,Tryz.ntmps243
  go_wp2_with (go_at_call 148;refine H.out.mono ?_;rintro e w' ⟨rfl,rfl⟩)
  go_quiet (fail)
  go_wp2
  go_ret3
  exact ⟨rfl,_,rfl⟩
/-! ### Get -/
abbrev none2:Value:=.tuple #[(Value.pointer none),.bool false]
theorem sGet_nil (a:Int) (w:World):Calls Tryz.prog 172 #[.pointer none,.int .i64 a] w fun e w' => e = .returned none2∧w = w':=by
  go_enter Tryz.func172,Tryz.ntmps172
  go_wp2
  go_ret2
  exact ⟨rfl,rfl⟩
theorem sGet_no {w:World} {b:Nat} (a j:Int) (h:Calls Tryz.prog 222 #[.pointer (some ⟨b,0,none⟩),.int .i64 a] w fun e w' => e = .returned (.tuple #[.int .i64 j,.bool false])∧∃ n,w' = w.drewN n) :
    Calls Tryz.prog 172 #[.pointer (some ⟨b,0,none⟩),.int .i64 a] w fun e w' => e = .returned none2∧∃ n,w' = w.drewN n:=by
  have H:=Lib.hid h
  clear h
  go_enter Tryz.func172,Tryz.ntmps172
  go_wp2_with (go_at_call 222;refine H.out.mono ?_;rintro e w' ⟨rfl,n,rfl⟩)
  go_ret2
  exact ⟨rfl,_,rfl⟩
theorem sGet_yes {w:World} {b m c:Nat} {B:Nat} {C:Option Addr} (a:Int) (j:Nat) (x:Option Addr) (xs:List (Option Addr)) (h:Calls Tryz.prog 222 #[.pointer (some ⟨b,0,none⟩),.int .i64 a] w fun e w' => e = .returned (.tuple #[.int .i64 (j:Int),.bool true])∧∃ n,w' = w.drewN n)
    (h3:w.cell? ⟨b,3,none⟩ = some (.slice C m c)) (hC:RdV w B C (elV xs)) (hx:xs[j]? = some x) (hj:j < m) :
    Calls Tryz.prog 172 #[.pointer (some ⟨b,0,none⟩),.int .i64 a] w fun e w' => e = .returned (.tuple #[(Value.pointer (x)),.bool true])∧∃ n,w' = w.drewN n:=by
  have H:=Lib.hid h
  obtain ⟨qb,qo,hCC,hqb,hcell'⟩:=hC.at (elV_get hx)
  subst hCC
  clear h hC hx
  go_enter Tryz.func172,Tryz.ntmps172
  go_wp2_with (go_at_call 222;refine H.out.mono ?_;rintro e w' ⟨rfl,n,rfl⟩)
  go_ret2
  exact ⟨rfl,_,rfl⟩
theorem sGet_c {w:World} {B b k:Nat} {L:Al} {d:Bool} (wf:Sl.Wf k L) (h:Rp w B b k L d) (a:Int) (x:Option Addr) (r:Bool) (hx:(Sl.get L a).getD none = x) (hr:Sl.has L a = r) :
    Calls Tryz.prog 172 #[.pointer (some ⟨b,0,none⟩),.int .i64 a] w fun e w' => e = .returned (.tuple #[(Value.pointer (x)),.bool r])∧∃ n,w' = w.drewN n:=by
  cases hg:Sl.get L a with
  | none =>
    have e1:r = false:=by rw [← hr];simp [Sl.has,hg]
    have e2:x = none:=by rw [← hx,hg];rfl
    subst e1 e2
    cases d
    · exact sGet_no a _ (sFind_sp wf h a _ false rfl hr)
    · rcases hi:isA k a with _ | _
      · exact sGet_no a _ (sFind_no wf h a hi)
      · obtain ⟨n,rfl,hn⟩:=isA_true hi
        exact sGet_no (n:Int) _ (sFind_de wf h n hn false hr)
  | some v =>
    have e1:r = true:=by rw [← hr];simp [Sl.has,hg]
    have e2:x = v:=by rw [← hx,hg];rfl
    subst e1 e2
    obtain ⟨n,rfl,hn⟩:=Sl.get_at wf.srt hg
    cases d
    · obtain ⟨_,A,c,C,c',_,_,_,h3,_,_,_,hC⟩:=id h
      exact sGet_yes (n:Int) _ x (Sl.things L) (sFind_sp wf h (n:Int) _ true rfl hr) h3 hC.rd (Sl.things_get hn) (lt_get hn)
    · obtain ⟨_,_,_,P,C,c',_,_,_,h3,_,_,hC⟩:=id h
      have hlt:=wf.lt _ (List.mem_of_getElem? hn)
      exact sGet_yes (n:Int) n x (Sl.row none (2 ^ k) L) (sFind_de wf h n hlt true hr) h3 hC.rd (Sl.row_some hlt hg) hlt
end Go.Proofs.YtkeepngaaleakaaGreatDoor.Sn
