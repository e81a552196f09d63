import Derived.Test.YtkeepngaaleakaaGreatDoorM15
import Derived.Test.YtkeepngaaleakaaGreatDoorM14
import Derived.Test.YtkeepngaaleakaaGreatDoorM06
namespace Go.Proofs.YtkeepngaaleakaaGreatDoor
open Go.ChangeShapes Go.WideShapes Go.ChangeAt Go.RowKit
open Tr (T S4 Ent)
def EntQ (w:World) (B:Nat) (f:Nat→Option Value) (e:Ent):Prop :=
  ∃ A c,f 0 = some (.slice A e.1.length c)∧f 1 = some (.int .u64 (e.2:Int))∧Pts w B A e.1∧e.1.length≤maxLen∧e.2 < 18446744073709551616
def Ents (w:World) (B:Nat) (A:Option Addr) (L:List Ent):Prop:=Lst 2 (EntQ w B) w B A L
theorem Ents.nil (w:World) (B:Nat) (A:Option Addr):Ents w B A []:=fun h => absurd rfl h
theorem Ents.keep {w w':World} {B B':Nat} {A:Option Addr} {L:List Ent} (h:Ents w B A L) (hB:B≤B') (hw:∀ p:Addr,p.block < B→w'.cell? p = w.cell? p):Ents w' B' A L:=by
  intro hn
  obtain ⟨b,off,hA,hb,hq⟩:=h hn
  refine ⟨b,off,hA,by omega,fun i e he => ?_⟩
  obtain ⟨A',c',h0,h1,hp,hl,hv⟩:=hq i e he
  exact ⟨A',c',(hw _ hb).trans h0,(hw _ hb).trans h1,hp.keep hB hw,hl,hv⟩
theorem Ents.below {w w':World} {B B' C:Nat} {A:Option Addr} {L:List Ent} (h:Ents w B A L) (hb:Below C w w') (hC:B≤C) (hB:B≤B'):Ents w' B' A L:=h.keep hB fun _ hp => hb.cell (Nat.lt_of_lt_of_le hp hC)
theorem Ents.drew {w:World} {B:Nat} {A:Option Addr} {L:List Ent} (h:Ents w B A L):Ents w.drew B A L:=h
theorem Ents.at {w:World} {B:Nat} {A:Option Addr} {L:List Ent} (h:Ents w B A L) {i:Nat} {e:Ent} (he:L[i]? = some e) :
    ∃ b off A' c',A = some ⟨b,off,none⟩∧b < B∧w.cell? ⟨b,off + i * 2,none⟩ = some (.slice A' e.1.length c')∧w.cell? ⟨b,off + i * 2 + 1,none⟩ = some (.int .u64 (e.2:Int))∧Pts w B A' e.1∧e.1.length≤maxLen∧e.2 < 18446744073709551616:=by
  obtain ⟨b,off,hA,hb,hq⟩:=h (by rintro rfl;simp at he)
  obtain ⟨A',c',h0,h1,hp,hl,hv⟩:=hq i e he
  exact ⟨b,off,A',c',hA,hb,h0,h1,hp,hl,hv⟩
theorem Ents.part {w:World} {B b off:Nat} {L:List Ent} (h:Ents w B (some ⟨b,off,none⟩) L) (i n:Nat) (hi:i + n≤L.length):Ents w B (some ⟨b,off + i * 2,none⟩) ((L.drop i).take n):=by
  intro hn
  have hL:L≠[]:=by rintro rfl;simp at hn
  obtain ⟨b',off',hA,hb,hq⟩:=h hL
  simp only [Option.some.injEq,Addr.mk.injEq,and_true] at hA
  obtain ⟨rfl,rfl⟩:=hA
  refine ⟨b,off + i * 2,rfl,hb,fun j e he => ?_⟩
  rw [List.getElem?_take] at he
  split at he
  · rw [List.getElem?_drop] at he
    have:=hq (i + j) e he
    obtain ⟨A',c',h0,h1,hp,hl,hv⟩:=this
    refine ⟨A',c',?_,?_,hp,hl,hv⟩
    · rw [← h0];show w.cell? ⟨b,off + i * 2 + j * 2 + 0,none⟩ = w.cell? ⟨b,off + (i + j) * 2 + 0,none⟩;rw [show off + i * 2 + j * 2 = off + (i + j) * 2 by omega]
    · rw [← h1];show w.cell? ⟨b,off + i * 2 + j * 2 + 1,none⟩ = w.cell? ⟨b,off + (i + j) * 2 + 1,none⟩;rw [show off + i * 2 + j * 2 = off + (i + j) * 2 by omega]
  · cases he
theorem rsame_self (A A':Option Addr) (c c':Nat) (us:List Nat) (B:Nat) (w:World) (hp:Pts w B A us) (hq:Pts w B A' us) (hB:B≤w.heap.size) (hm:us.length≤maxLen) :
    Calls Tryz.prog 105 #[.slice A us.length c,.slice A' us.length c'] w fun e w' => e = .returned (.bool true)∧Below w.heap.size w w' :=
  (rsame_c A A' c c' us us B w hp hq hB hm).mono fun _ _ ⟨he,hw⟩ => ⟨by rw [he,decide_eq_true rfl],hw⟩
set_option maxRecDepth 100000 in
set_option maxHeartbeats 1000000 in
theorem rsameShape_c {w:World} {B:Nat} (lev:Int) (A:Option Addr) (c:Nat) (A':Option Addr) (c':Nat) (C:Option Addr) (d:Nat) (C':Option Addr) (d':Nat) (pre ks:List Nat) (dn:Bool) (v:Nat)
    (hA:Pts w B A pre) (hC:Pts w B C pre) (hA':RdV w B A' (Sn.intV ks)) (hC':RdV w B C' (Sn.intV ks)) (hB:B≤w.heap.size) (hp:pre.length≤65536) (hk:ks.length≤65536) :
    Calls Tryz.prog 94 #[shapeV lev A pre.length c A' ks.length c' dn v,shapeV lev C pre.length d C' ks.length d' dn v] w fun e w' => e = .returned (.bool true)∧Below w.heap.size w w':=by
  have HP:=Lib.hid (And.intro hA (And.intro hC (And.intro hA' (And.intro hC' (And.intro hB (And.intro hp hk))))))
  have n1:(lev != lev) = false:=by simp
  have n2:((v:Int) != (v:Int)) = false:=by simp
  have n3:((ks.length:Int) != (ks.length:Int)) = false:=by simp
  have n5:(dn != dn) = false:=by simp
  have b1:=below_alloc w (.cells #[.int .i64 lev,.slice A pre.length c,.slice A' ks.length c',.bool dn,.int .u64 (v:Int)] 138)
  have b2:=below_alloc (w.alloc (.cells #[.int .i64 lev,.slice A pre.length c,.slice A' ks.length c',.bool dn,.int .u64 (v:Int)] 138)) (.cells #[.int .i64 lev,.slice C pre.length d,.slice C' ks.length d',.bool dn,.int .u64 (v:Int)] 138)
  have q1:Q5 ((w.alloc (.cells #[.int .i64 lev,.slice A pre.length c,.slice A' ks.length c',.bool dn,.int .u64 (v:Int)] 138)).alloc (.cells #[.int .i64 lev,.slice C pre.length d,.slice C' ks.length d',.bool dn,.int .u64 (v:Int)] 138)) w.heap.size (.int .i64 lev) (.slice A pre.length c) (.slice A' ks.length c') (.bool dn) (.int .u64 (v:Int)):=q5_at (t:=138) (by (first | (refine heap_at _ _ _ ?_;simp;done) | (refine heap_past _ (heap_at _ _ _ ?_);simp;done) | (refine heap_past _ (heap_past _ (heap_at _ _ _ ?_));simp;done) | (refine heap_past _ (heap_past _ (heap_past _ (heap_at _ _ _ ?_)));simp;done)))
  have q2:Q5 ((w.alloc (.cells #[.int .i64 lev,.slice A pre.length c,.slice A' ks.length c',.bool dn,.int .u64 (v:Int)] 138)).alloc (.cells #[.int .i64 lev,.slice C pre.length d,.slice C' ks.length d',.bool dn,.int .u64 (v:Int)] 138)) (w.heap.size + 1) (.int .i64 lev) (.slice C pre.length d) (.slice C' ks.length d') (.bool dn) (.int .u64 (v:Int)):=q5_at (t:=138) (by (first | (refine heap_at _ _ _ ?_;simp;done) | (refine heap_past _ (heap_at _ _ _ ?_);simp;done) | (refine heap_past _ (heap_past _ (heap_at _ _ _ ?_));simp;done) | (refine heap_past _ (heap_past _ (heap_past _ (heap_at _ _ _ ?_)));simp;done)))
  have hs:((w.alloc (.cells #[.int .i64 lev,.slice A pre.length c,.slice A' ks.length c',.bool dn,.int .u64 (v:Int)] 138)).alloc (.cells #[.int .i64 lev,.slice C pre.length d,.slice C' ks.length d',.bool dn,.int .u64 (v:Int)] 138)).heap.size = w.heap.size + 2:=by simp
  have HQ:=Lib.hid (And.intro q1 (And.intro q2 (And.intro hs (b1.trans (b2.mono b1.size)))))
  clear hA hC hA' hC' hB hp hk b1 b2 q1 q2 hs
  go_enter Tryz.func94,Tryz.ntmps94
  go_upto_region 1 with fail
  obtain ⟨⟨k0,k1,k2,k3,k4⟩,-⟩:=HQ.out.1
  obtain ⟨⟨l0,l1,l2,l3,l4⟩,-⟩:=HQ.out.2.1
  generalize (w.alloc _).alloc _ = W at *
  go_wp2_with fail
  refine (rsame_self A C c d pre B W (HP.out.1.below' HQ.out.2.2.2 HP.out.2.2.2.2.1) (HP.out.2.1.below' HQ.out.2.2.2 HP.out.2.2.2.2.1) (Nat.le_trans HP.out.2.2.2.2.1 HQ.out.2.2.2.size) (by have:=HP.out.2.2.2.2.2.1;unfold maxLen;omega)).mono ?_
  rintro e w2 ⟨rfl,hb2⟩
  have hs:=HQ.out.2.2.1
  have hq1:=HQ.out.1.below hb2 (by omega)
  have hq2:=HQ.out.2.1.below hb2 (by omega)
  have HB2:=Lib.hid (HQ.out.2.2.2.trans (hb2.mono HQ.out.2.2.2.size))
  clear k0 k1 k2 k3 k4 l0 l1 l2 l3 l4 hs hb2
  obtain ⟨⟨k0,k1,k2,k3,k4⟩,-⟩:=hq1
  obtain ⟨⟨l0,l1,l2,l3,l4⟩,-⟩:=hq2
  go_wp2_with fail
  go_loopw [5] (fun i wr => ∃ j n:Nat,j≤ks.length∧i = .int .i64 j∧wr = w2.drewN n) (fun i _ => ks.length - (intOf i).toNat)
  case atStart => exact ⟨0,0,Nat.zero_le _,rfl,rfl⟩
  case round =>
    obtain ⟨j,n,hj,rfl,rfl⟩:=hrel
    have hkl:ks.length≤65536:=HP.out.2.2.2.2.2.2
    by_cases hlt:j < ks.length
    · obtain ⟨u,hu⟩:=get_lt hlt
      have hrA:=(HP.out.2.2.1.below HB2.out HP.out.2.2.2.2.1 (Nat.le_refl _)).at (i:=j) (v:=.int .i64 (u:Int)) (by simp [Sn.intV,hu])
      have hrC:=(HP.out.2.2.2.1.below HB2.out HP.out.2.2.2.2.1 (Nat.le_refl _)).at (i:=j) (v:=.int .i64 (u:Int)) (by simp [Sn.intV,hu])
      obtain ⟨pb,po,hAA,_,hcell⟩:=hrA
      obtain ⟨qb,qo,hCC,_,hcell'⟩:=hrC
      subst hAA hCC
      have m1:(0:Int)≤(j:Int):=by omega
      have m2:(j:Int) < (ks.length:Int):=by omega
      have e1:((u:Int) != (u:Int)) = false:=by simp
      clear hu
      go_wp2_with fail
      go_quiet (fail)
      go_wp2_with fail
      go_roundw
      case rel => exact ⟨j + 1,_,by omega,by go_num,rfl⟩
      case measure => simp [intOf];omega
    · go_wp2_with fail
      go_ret
      exact ⟨rfl,below_drewN _ HB2.out⟩
theorem entQ_ok (w:World) (B:Nat):QOk 2 (EntQ w B) where
  ext:=by
    rintro f g a h ⟨A,c,h0,h1,r⟩
    exact ⟨A,c,by rw [← h 0 (by omega)];exact h0,by rw [← h 1 (by omega)];exact h1,r⟩
  has:=by
    rintro f a ⟨A,c,h0,h1,r⟩ j hj
    match j,hj with
    | 0,_ => exact ⟨_,h0,rfl⟩
    | 1,_ => exact ⟨_,h1,rfl⟩
def EntL (w:World) (B R:Nat) (A:Option Addr) (L:List Ent):Prop:=Lst 2 (EntQ w B) w R A L
theorem EntL.ents {w:World} {B R:Nat} {A:Option Addr} {L:List Ent} (h:EntL w B R A L) {C:Nat} (hB:B≤C) (hR:R≤C):Ents w C A L:=by
  intro hn
  obtain ⟨b,off,hA,hb,hq⟩:=h hn
  refine ⟨b,off,hA,by omega,fun i e he => ?_⟩
  obtain ⟨A',c',h0,h1,hp,r⟩:=hq i e he
  exact ⟨A',c',h0,h1,hp.keep hB (fun _ _ => rfl),r⟩
theorem Ents.entL {w:World} {B:Nat} {A:Option Addr} {L:List Ent} (h:Ents w B A L):EntL w B B A L:=h
theorem EntL.keep {w w':World} {B R R':Nat} {A:Option Addr} {L:List Ent} (h:EntL w B R A L) (hR:R≤R') (hw:∀ p:Addr,p.block < B∨p.block < R→w'.cell? p = w.cell? p):EntL w' B R' A L:=by
  intro hn
  obtain ⟨b,off,hA,hb,hq⟩:=h hn
  refine ⟨b,off,hA,by omega,fun i e he => ?_⟩
  obtain ⟨A',c',h0,h1,hp,hl,hv⟩:=hq i e he
  exact ⟨A',c',(hw _ (.inr hb)).trans h0,(hw _ (.inr hb)).trans h1,hp.keep (Nat.le_refl _) (fun p hp => hw p (.inl hp)),hl,hv⟩
theorem EntL.below {w w':World} {B R R' C:Nat} {A:Option Addr} {L:List Ent} (h:EntL w B R A L) (hb:Below C w w') (hB:B≤C) (hC:R≤C) (hR:R≤R'):EntL w' B R' A L :=
  h.keep hR fun _ hp => hb.cell (by rcases hp with hp | hp <;> omega)
theorem EntL.nil (w:World) (B R:Nat) (A:Option Addr):EntL w B R A []:=fun h => absurd rfl h
theorem EntL.at {w:World} {B R:Nat} {A:Option Addr} {L:List Ent} (h:EntL w B R A L) {i:Nat} {e:Ent} (he:L[i]? = some e) :
    ∃ b off A' c',A = some ⟨b,off,none⟩∧b < R∧w.cell? ⟨b,off + i * 2,none⟩ = some (.slice A' e.1.length c')∧w.cell? ⟨b,off + i * 2 + 1,none⟩ = some (.int .u64 (e.2:Int))∧Pts w B A' e.1∧e.1.length≤maxLen∧e.2 < 18446744073709551616:=by
  obtain ⟨b,off,hA,hb,hq⟩:=h (by rintro rfl;simp at he)
  obtain ⟨A',c',h0,h1,hp,hl,hv⟩:=hq i e he
  exact ⟨b,off,A',c',hA,hb,h0,h1,hp,hl,hv⟩
def OwnE (w:World) (B base:Nat) (v:Value) (L:List Ent):Prop:=OwnL 57 2 (EntQ w B) w base v L
theorem OwnE.entL {w:World} {B base:Nat} {v:Value} {L:List Ent} (h:OwnE w B base v L):∃ A c,v = .slice A L.length c∧L.length≤c∧EntL w B w.heap.size A L:=OwnL.rd (entQ_ok w B) h
theorem entQ_mono {w w':World} {B:Nat} (hw:∀ p:Addr,p.block < B→w'.cell? p = w.cell? p):∀ f a,EntQ w B f a→EntQ w' B f a:=by
  rintro f a ⟨A,c,h0,h1,hp,r⟩
  exact ⟨A,c,h0,h1,hp.keep (Nat.le_refl _) hw,r⟩
theorem OwnE.below {w w':World} {B base C:Nat} {v:Value} {L:List Ent} (h:OwnE w B base v L) (hb:Below C w w') (hC:w.heap.size≤C) (hB:B≤C):OwnE w' B base v L :=
  (OwnL.below h hb hC).imp (entQ_mono fun _ hp => hb.cell (Nat.lt_of_lt_of_le hp hB))
/-! ### Place -/
theorem place_at {L:List Ent} {k:Nat} (hd:Tr.Dim k L) {p:List Nat} (hp:p.length = k) (ho:Z.Ok p) {i:Nat} (hi:i≤L.length) (h1:∀ j e,j < i→L[j]? = some e→Z.cmp e.1 p < 0) (h2:∀ e,L[i]? = some e→0≤Z.cmp e.1 p):Tr.placeE L p = i:=by
  refine Sl.idx_uniq (Tr.K L) (Tr.key p:Int) i (by rw [Tr.K_length];exact hi) (fun j x hj hx => ?_) (fun x hx => ?_)
  · obtain ⟨hx1,hx2⟩:=Tr.K_at hx
    have hm:=hd _ (List.mem_of_getElem? hx1)
    have:=(Tr.key_lt (by rw [hm.1,hp]) hm.2.1 ho).2 (h1 j x.2 hj hx1)
    omega
  · obtain ⟨hx1,hx2⟩:=Tr.K_at hx
    have hm:=hd _ (List.mem_of_getElem? hx1)
    have h3:=h2 x.2 hx1
    have:=mt (Tr.key_lt (by rw [hm.1,hp]) hm.2.1 ho).1 (by omega)
    omega
theorem get_place {L:List Ent} {k:Nat} (hz:Tr.ZS L) (hd:Tr.Dim k L) {p:List Nat} (hp:p.length = k) (ho:Z.Ok p) {e:Ent} (he:L[Tr.placeE L p]? = some e):Tr.getE L p = if e.1 = p then some e.2 else none:=by
  have hm:=hd _ (List.mem_of_getElem? he)
  unfold Tr.getE
  rw [Sl.get_idx hz.srt (Tr.K_get he)]
  have h1:=Tr.key_inj (p:=e.1) (q:=p) (by rw [hm.1,hp]) hm.2.1 ho
  by_cases c:e.1 = p
  · rw [if_pos c,if_pos (by rw [c])];rfl
  · rw [if_neg c,if_neg (by show ¬ ((Tr.key e.1:Int) = _);intro e2;exact c (h1.1 (by omega)))];rfl
theorem get_past {L:List Ent} (hz:Tr.ZS L) {p:List Nat} (h:L.length≤Tr.placeE L p):Tr.getE L p = none:=by
  unfold Tr.getE
  rw [Sl.get_end hz.srt (by rw [Tr.K_length];exact h)]
  rfl
theorem place_le (L:List Ent) (p:List Nat):Tr.placeE L p≤L.length:=by
  have:=Sl.idx_le (Tr.K L) (Tr.key p:Int)
  rw [Tr.K_length] at this
  exact this
set_option maxRecDepth 100000 in
theorem rplace6_c {w:World} {B B' R k:Nat} {A A':Option Addr} {c c':Nat} {L:List Ent} {p:List Nat} (hz:Tr.ZS L) (hd:Tr.Dim k L) (h:EntL w B R A L) (hp:Pts w B' A' p) (hpl:p.length = k) (h1:1≤k) (h16:k≤16) (hl:L.length≤1000000) :
    Calls Tryz.prog 84 #[.slice A L.length c,.slice A' p.length c'] w fun e w' => e = .returned (.tuple #[.int .i64 (Tr.placeE L p:Int),.bool (Tr.getE L p).isSome])∧w = w':=by
  have HX:=Lib.hid (And.intro hz (And.intro hd (And.intro h (And.intro hp (And.intro hpl (And.intro h1 h16))))))
  clear hz hd h hp hpl h1 h16
  go_enter Tryz.func84,Tryz.ntmps84
  go_wp2
  go_loopw [6] (fun i wr => ∃ j:Nat,j≤L.length∧i = .int .i64 j∧wr = w∧∀ m e,m < j→L[m]? = some e→Z.cmp e.1 p < 0) (fun i _ => L.length - (intOf i).toNat)
  case atStart => exact ⟨0,Nat.zero_le _,(by first | rfl | trivial),(by first | rfl | trivial),fun m e hm => by omega⟩
  case round =>
    obtain ⟨j,hj,rfl,rfl,hbe⟩:=hrel
    obtain ⟨hz,hd,h,hp,hpl,h1,h16⟩:=HX.out
    by_cases hlt:j < L.length
    · obtain ⟨e,he⟩:=get_lt hlt
      obtain ⟨b,off,A1,c1,hA,-,x0,-,p1,-,-⟩:=h.at he
      subst hA
      have hm:=hd _ (List.mem_of_getElem? he)
      have HC:=Lib.hid (rcmp_c A1 A' c1 c' e.1 p (max B B') wr (p1.keep (Nat.le_max_left _ _) (fun _ _ => rfl)) (hp.keep (Nat.le_max_right _ _) (fun _ _ => rfl)) (by rw [hm.1];exact h1) (by rw [hm.1];exact h16) (by rw [hm.1,hpl]))
      have m1:(0:Int)≤(j:Int):=by omega
      have m2:(j:Int) < (L.length:Int):=by omega
      have HY:=Lib.hid (And.intro he (And.intro hbe hm))
      by_cases hc:Z.cmp e.1 p < 0
      · have d1:decide (0≤Z.cmp e.1 p) = false:=decide_eq_false (by omega)
        have HD:=Lib.hid hc
        clear hz hd h hp hpl h1 h16 he hbe hm p1 hc
        go_wp2_with (go_at_call 138;refine HC.out.mono ?_;rintro e w2 ⟨rfl,rfl⟩)
        go_roundw
        case rel =>
          refine ⟨j + 1,by omega,by go_num,(by first | rfl | trivial),fun m e' hm he' => ?_⟩
          by_cases c:m < j
          · exact HY.out.2.1 m e' c he'
          · have:m = j:=by omega
            subst this
            rw [HY.out.1] at he'
            cases he'
            exact HD.out
        case measure => simp [intOf];omega
      · have d1:decide (0≤Z.cmp e.1 p) = true:=decide_eq_true (by omega)
        have hpa:Tr.placeE L p = j:=place_at hd hpl hp.1 hj hbe (fun e' he' => by rw [he] at he';cases he';omega)
        have hge:=get_place hz hd hpl hp.1 (by rw [hpa];exact he)
        have hgs:(Tr.getE L p).isSome = (Z.cmp e.1 p == 0):=by
          rw [hge]
          have h0:=Z.cmp_zero (us:=e.1) (vs:=p) (by rw [hm.1,hpl]) hm.2.1 hp.1
          by_cases c:e.1 = p
          · rw [if_pos c,h0.2 c];rfl
          · rw [if_neg c]
            have:Z.cmp e.1 p≠0:=fun x => c (h0.1 x)
            simp [this]
        have HG:=Lib.hid (And.intro hpa hgs)
        clear hz hd h hp hpl h1 h16 he hbe hm p1 hc hpa hge hgs
        go_wp2_with (go_at_call 138;refine HC.out.mono ?_;rintro e w2 ⟨rfl,rfl⟩)
        go_ret2
        exact ⟨by rw [HG.out.1,HG.out.2];rfl,rfl⟩
    · have hjl:j = L.length:=by omega
      have hpa:Tr.placeE L p = j:=place_at hd hpl hp.1 hj hbe (fun e' he' => by have:=lt_get he';omega)
      have hge:=get_past hz (p:=p) (by omega)
      have HG:=Lib.hid (And.intro hpa (And.intro hge hjl))
      clear hz hd h hp hpl h1 h16 hbe hpa hge hjl
      go_wp2_with fail
      go_ret2
      exact ⟨by rw [HG.out.1,HG.out.2.1,HG.out.2.2];rfl,rfl⟩
set_option maxRecDepth 100000 in
theorem rget6_c {w:World} {B B' R k:Nat} {A A':Option Addr} {c c':Nat} {L:List Ent} {p:List Nat} (hz:Tr.ZS L) (hd:Tr.Dim k L) (h:EntL w B R A L) (hp:Pts w B' A' p) (hpl:p.length = k) (h1:1≤k) (h16:k≤16) (hl:L.length≤1000000) (g:Option Nat) (hg:Tr.getE L p = g) :
    Calls Tryz.prog 72 #[.slice A L.length c,.slice A' p.length c'] w fun e w' => e = .returned (.tuple #[.int .u64 ((g.getD 0:Nat):Int),.bool g.isSome])∧w = w':=by
  have HP:=rplace6_c (c:=c) (c':=c') hz hd h hp hpl h1 h16 hl
  rw [hg] at HP
  have HP:=Lib.hid HP
  cases g with
  | none =>
    clear hz hd h hp hpl h1 h16 hg
    go_enter Tryz.func72,Tryz.ntmps72
    go_wp2_with (go_at_call 84;refine HP.out.mono ?_;rintro e w2 ⟨rfl,rfl⟩)
    go_ret2
    exact ⟨rfl,rfl⟩
  | some v =>
    have hlt:Tr.placeE L p < L.length:=by
      have:=place_le L p
      rcases Nat.lt_or_ge (Tr.placeE L p) L.length with c | c
      · exact c
      · rw [get_past hz c] at hg;cases hg
    obtain ⟨e,he⟩:=get_lt hlt
    have hge:=get_place hz hd hpl hp.1 he
    have hev:e.2 = v:=by
      rw [hg] at hge
      split at hge
      · cases hge;rfl
      · cases hge
    obtain ⟨b,off,A1,c1,hA,-,-,x1,-,-,-⟩:=h.at he
    subst hA
    rw [hev] at x1
    obtain ⟨I,hI⟩:∃ I,Tr.placeE L p = I:=⟨_,rfl⟩
    rw [hI] at x1 hlt HP
    have m1:(0:Int)≤(I:Int):=by omega
    have m2:(I:Int) < (L.length:Int):=by omega
    clear hz hd h hp hpl h1 h16 hg he hge hev hI
    go_enter Tryz.func72,Tryz.ntmps72
    go_wp2_with (go_at_call 84;refine HP.out.mono ?_;rintro e w2 ⟨rfl,rfl⟩)
    go_ret2
    exact ⟨rfl,rfl⟩
theorem infoE2:(Tryz.prog.info? 57).map (fun i => (i.zero,i.size,i.bytes)) = some (some (.agg #[.slice none 0 0,.int .u64 0]),2,32):=by kernel_rfl
theorem lst_lo {α:Type} {n:Nat} {Q:(Nat→Option Value)→α→Prop} (t e:TypeId) {z:Value} {by':Nat} (ht:Tryz.prog.underlying t = some (.slice e)) (hi:(Tryz.prog.info? e).map (fun i => (i.zero,i.size,i.bytes)) = some (some z,n,by')) (A:Option Addr) (m c i:Nat) (hin:i≤m) (hnc:m≤c) :
    ∃ A',(∀ w,(Instr.sliceAt t (.slice A m c) (some (.int .i64 (i:Int))) none none).run Tryz.prog w = .ok (.slice A' (m - i) (c - i)) w)∧∀ w R (L:List α),L.length = m→Lst n Q w R A L→Lst n Q w R A' (L.drop i):=by
  obtain ⟨i0,hi0,hz0,hz1,hz2⟩:=info_parts hi
  have hel:Tryz.prog.elem t = e:=by simp [Program.elem,ht]
  refine ⟨if c = i then A else A.map (·.add (i * n)),fun w => ?_,fun w R L hx h hne => ?_⟩
  · have hs:Tryz.prog.underlying t = some (.slice (Tryz.prog.elem t)):=by rw [hel];exact ht
    rw [run_sliceAt_slice w t _ _ _ _ hs,run_slice_l w t A m c hs .i64 (i:Int) (by omega) (by omega),hel]
    simp [sizeOf,typeInfo,hi0,hz1,sliced,Result.andThen]
  · have hlt:i < L.length:=by
      rcases Nat.lt_or_ge i L.length with d | d
      · exact d
      · exact absurd (List.drop_of_length_le d) hne
    obtain ⟨b,off,rfl,hb,hc⟩:=h (by rintro rfl;simp at hlt)
    rw [if_neg (by omega)]
    refine ⟨b,off + i * n,by simp [Go.WideShapes.add_plain],hb,fun j v hj => ?_⟩
    rw [List.getElem?_drop] at hj
    have:=hc (i + j) v hj
    rw [Nat.add_mul,← Nat.add_assoc] at this
    exact this
theorem lst_hi {α:Type} {n:Nat} {Q:(Nat→Option Value)→α→Prop} (t e:TypeId) {z:Value} {by':Nat} (ht:Tryz.prog.underlying t = some (.slice e)) (hi:(Tryz.prog.info? e).map (fun i => (i.zero,i.size,i.bytes)) = some (some z,n,by')) (A:Option Addr) (m c i:Nat) (hin:i≤m) (hnc:m≤c) :
    ∃ A',(∀ w,(Instr.sliceAt t (.slice A m c) none (some (.int .i64 (i:Int))) none).run Tryz.prog w = .ok (.slice A' i c) w)∧∀ w R (L:List α),L.length = m→Lst n Q w R A L→Lst n Q w R A' (L.take i):=by
  obtain ⟨i0,hi0,hz0,hz1,hz2⟩:=info_parts hi
  have hel:Tryz.prog.elem t = e:=by simp [Program.elem,ht]
  refine ⟨if c = 0 then A else A.map (·.add (0 * n)),fun w => ?_,fun w R L hx h hne => ?_⟩
  · have hs:Tryz.prog.underlying t = some (.slice (Tryz.prog.elem t)):=by rw [hel];exact ht
    rw [run_sliceAt_slice w t _ _ _ _ hs,run_slice_h w t A m c hs .i64 (i:Int) (by omega) (by omega),hel]
    simp [sizeOf,typeInfo,hi0,hz1,sliced,Result.andThen]
  · have hlt:0 < L.length:=by
      rcases Nat.eq_zero_or_pos L.length with d | d
      · rw [List.eq_nil_of_length_eq_zero d] at hne;simp at hne
      · exact d
    obtain ⟨b,off,rfl,hb,hc⟩:=h (by rintro rfl;simp at hlt)
    rw [if_neg (by omega)]
    refine ⟨b,off,by simp [Go.WideShapes.add_plain],hb,fun j v hj => ?_⟩
    rw [List.getElem?_take] at hj
    split at hj
    · exact hc j v hj
    · cases hj
theorem K_map (L:List Ent):(Tr.K L).map (·.2) = L:=by
  unfold Tr.K
  rw [List.map_map]
  conv => rhs;rw [← List.map_id L]
  rfl
theorem delE_some {L:List Ent} (hz:Tr.ZS L) {p:List Nat} {v:Nat} (hg:Tr.getE L p = some v):Tr.delE p L = L.take (Tr.placeE L p) ++ L.drop (Tr.placeE L p + 1)∧Tr.placeE L p < L.length:=by
  have hg0:=hg
  unfold Tr.getE at hg
  obtain ⟨e,he,-⟩:=Option.map_eq_some_iff.1 hg
  unfold Tr.delE Tr.placeE
  rw [Sl.del_some hz.srt he,List.map_append,List.map_take,List.map_drop,K_map]
  refine ⟨rfl,?_⟩
  have:=place_le L p
  rcases Nat.lt_or_ge (Tr.placeE L p) L.length with c | c
  · exact c
  · rw [get_past hz c] at hg0;cases hg0
theorem delE_none {L:List Ent} {p:List Nat} (hg:Tr.getE L p = none):Tr.delE p L = L:=by
  unfold Tr.getE at hg
  unfold Tr.delE
  rw [Sl.del_none (Option.map_eq_none_iff.1 hg),K_map]
theorem putE_eq {L:List Ent} (hz:Tr.ZS L) (p:List Nat) (v:Nat):Tr.putE p v L = (Tr.delE p L).take (Tr.placeE (Tr.delE p L) p) ++ (p,v) :: (Tr.delE p L).drop (Tr.placeE (Tr.delE p L) p):=by
  have h1:Tr.placeE (Tr.delE p L) p = Sl.idx (Tr.K L) (Tr.key p:Int):=by
    unfold Tr.placeE
    rw [Tr.K_del,Sl.idx_del hz.srt]
  rw [h1]
  unfold Tr.putE
  rw [Sl.put_del hz.srt,List.map_append,List.map_cons,List.map_take,List.map_drop]
  rfl
theorem EntL.lst {w W:World} {B R C:Nat} {A:Option Addr} {L:List Ent} (h:EntL w B R A L) (hb:Below C w W) (hC:R≤C):Lst 2 (EntQ w B) W R A L:=by
  intro hn
  obtain ⟨b,off,hA,hbR,hq⟩:=h hn
  refine ⟨b,off,hA,hbR,fun i e he => (entQ_ok w B).ext _ _ _ (fun j _ => ?_) (hq i e he)⟩
  exact (hb.cell (p:=⟨b,off + i * 2 + j,none⟩) (Nat.lt_of_lt_of_le hbR hC)).symm
theorem ownE_at {w w2:World} {B base C m d:Nat} {D:Option Addr} {L:List Ent} (h:OwnL 57 2 (EntQ w B) w2 base (.slice D m d) L) (hb:Below C w w2) (hC:B≤C):m = L.length∧L.length≤d∧EntL w2 B w2.heap.size D L:=by
  obtain ⟨A,c,hv,hc,hl⟩:=OwnE.entL (OwnL.imp h (entQ_mono (w':=w2) fun _ hp => hb.cell (Nat.lt_of_lt_of_le hp hC)))
  simp only [Value.slice.injEq] at hv
  obtain ⟨rfl,rfl,rfl⟩:=hv
  exact ⟨rfl,hc,hl⟩
set_option maxRecDepth 100000 in
set_option maxHeartbeats 1000000 in
theorem rdel6_c {w:World} {B B' R k:Nat} {A A':Option Addr} {c c':Nat} {L:List Ent} {p:List Nat} (hz:Tr.ZS L) (hd:Tr.Dim k L) (h:EntL w B R A L) (hp:Pts w B' A' p) (hpl:p.length = k) (h1:1≤k) (h16:k≤16) (hl:L.length≤1000000) (hR:R≤w.heap.size) (hB:B≤w.heap.size) (hc:L.length≤c) :
    Calls Tryz.prog 39 #[.slice A L.length c,.slice A' p.length c'] w fun e w' => ∃ D d,e = .returned (.slice D (Tr.delE p L).length d)∧EntL w' B w'.heap.size D (Tr.delE p L)∧(Tr.delE p L).length≤d∧Below w.heap.size w w':=by
  have HP:=rplace6_c (c:=c) (c':=c') hz hd h hp hpl h1 h16 hl
  rcases hg:Tr.getE L p with _ | v
  · rw [hg] at HP
    have hE:=delE_none hg
    rw [hE]
    have HP:=Lib.hid HP
    have HX:=Lib.hid (And.intro h (And.intro hR (And.intro hc hB)))
    clear hz hd h hp hpl h1 h16 hg hE hc
    go_enter Tryz.func39,Tryz.ntmps39
    go_wp2_with (go_at_call 84;refine HP.out.mono ?_;rintro e w2 ⟨rfl,rfl⟩)
    go_ret
    exact ⟨A,c,rfl,HX.out.1.keep HX.out.2.1 (fun _ _ => rfl),HX.out.2.2.1,Below.refl _ _⟩
  · rw [hg] at HP
    obtain ⟨hE,hlt⟩:=delE_some hz hg
    obtain ⟨I,hI⟩:∃ I,Tr.placeE L p = I:=⟨_,rfl⟩
    rw [hI] at hE hlt HP
    obtain ⟨Ah,hcuth,hlh⟩:=lst_hi (Q:=EntQ w B) 30 57 Tryz.underlying30 infoE2 A L.length c I (by omega) hc
    obtain ⟨J,hJ⟩:∃ J,I + 1 = J:=⟨_,rfl⟩
    have hwJ:IntKind.i64.wrap ((I:Int) + 1) = (J:Int):=by rw [IntKind.wrap_i64];omega
    rw [hJ] at hE
    obtain ⟨Al,hcutl,hll⟩:=lst_lo (Q:=EntQ w B) 30 57 Tryz.underlying30 infoE2 A L.length c J (by omega) hc
    have hlist:∀ W,Below w.heap.size w W→Lst 2 (EntQ w B) W R Ah (L.take I)∧Lst 2 (EntQ w B) W R Al (L.drop J):=fun W hb => ⟨hlh W R L rfl (h.lst hb hR),hll W R L rfl (h.lst hb hR)⟩
    have HP:=Lib.hid HP
    have HX:=Lib.hid (And.intro hlist (And.intro hE (And.intro hB (And.intro hlt (And.intro hl hJ)))))
    have m1:(0:Int)≤(I:Int):=by omega
    have m2:(I:Int) + 1≤1000000:=by omega
    clear hz hd h hp hpl h1 h16 hg hE hc hI hlist hlh hll hJ
    go_enter Tryz.func39,Tryz.ntmps39
    go_wp2_with (go_at_call 84;refine HP.out.mono ?_;rintro e w2 ⟨rfl,rfl⟩)
    go_upto_region 4 with fail
    have hal:=below_alloc w (.cells #[] 57)
    have hlen1:(L.take I).length = I:=by simp;omega
    have hlen2:(L.drop J).length = L.length - J:=by simp
    have hle:I + (L.length - J)≤1000000:=by have:=HX.out.2.2.2.2;omega
    have HLL:=Lib.hid (And.intro hlen1 (And.intro hlen2 hle))
    clear hlen1 hlen2 hle
    go_region_law ((first
      | (refine step_append_list (Q:=EntQ w B) 30 57 (.agg #[.slice none 0 0,.int .u64 0]) 32 Tryz.underlying30 infoE2 (by rfl) (by omega) (by omega) (entQ_ok w B) (by rfl) _ _ (by rfl) w.heap.size (.slice (some ⟨w.heap.size,0,none⟩) 0 0) [] (L.take I) I (by rw [HLL.out.1];simp) (by rfl) (by exact ownL_nil _ w) R Ah I c HLL.out.1 (by rfl) (by exact (HX.out.1 _ hal).1) (by omega) (by first | (simp;done) | (simp;omega)) ?_;intro D1 d1 w1 hown1 hgrow1 hat1;have hg1:=(by first | exact Below.grown hal hgrow1 (by simp) (fun q hq => by simp [Value.ownBlock] at hq;omega) | exact Below.grown hal.drew hgrow1 (by simp) (fun q hq => by simp [Value.ownBlock] at hq;omega):Below w.heap.size w w1);clear hgrow1 hat1;rw [List.nil_append] at hown1)
      | (refine step_append_list (Q:=EntQ w B) 30 57 (.agg #[.slice none 0 0,.int .u64 0]) 32 Tryz.underlying30 infoE2 (by rfl) (by omega) (by omega) (entQ_ok w B) (by rfl) _ _ (by rfl) w.heap.size (.slice D1 I d1) (L.take I) (L.drop J) (I + (L.length - J)) (by rw [HLL.out.1,HLL.out.2.1]) (by rfl) hown1 R Al (L.length - J) (c - J) HLL.out.2.1 (by rfl) (by exact (HX.out.1 _ hg1).2) (by have:=HLL.out.2.2;omega) hg1.size ?_;intro D2 d2 w2 hown2 hgrow2 hat2;have hg2:=Below.grown hg1 hgrow2 hg1.size (fun q hq => (hown1.lt q hq).1);clear hgrow2 hat2)))
    all_goals go_wp2_with fail
    all_goals (
      go_ret
      obtain ⟨e1,e2,e3⟩:=ownE_at hown2 hg2 HX.out.2.2.1
      rw [← HX.out.2.1] at e1 e2 e3
      exact ⟨D2,d2,by rw [← e1];rfl,e3,e2,hg2⟩)
theorem lst_one {w W:World} {B:Nat} {A':Option Addr} {c':Nat} {p:List Nat} {v:Nat} (hp:Pts w B A' p) (hm:p.length≤maxLen) (hv:v < 18446744073709551616) :
    Lst 2 (EntQ w B) (W.alloc (.cells #[.slice A' p.length c',.int .u64 (v:Int)] 57)) (W.heap.size + 1) (some ⟨W.heap.size,0,none⟩) [(p,v)]:=by
  intro _
  obtain ⟨c0,c1,-,-⟩:=cells2 W (.slice A' p.length c') (.int .u64 (v:Int)) 57
  refine ⟨W.heap.size,0,rfl,by omega,fun i e he => ?_⟩
  match i with
  | 0 =>
    simp at he
    subst he
    exact ⟨A',c',c0,c1,hp,hm,hv⟩
  | i + 1 => simp at he
set_option maxRecDepth 100000 in
set_option maxHeartbeats 2000000 in
theorem rput6_c {w:World} {B R k:Nat} {A A':Option Addr} {c c':Nat} {L:List Ent} {p:List Nat} (hz:Tr.ZS L) (hd:Tr.Dim k L) (h:EntL w B R A L) (hp:Pts w B A' p) (hpl:p.length = k) (h1:1≤k) (h16:k≤16) (hl:L.length≤1000000) (hR:R≤w.heap.size) (hB:B≤w.heap.size) (hc:L.length≤c) (v:Nat) (hv:v < 18446744073709551616) :
    Calls Tryz.prog 36 #[.slice A L.length c,.slice A' p.length c',.int .u64 (v:Int)] w fun e w' => ∃ D d,e = .returned (.slice D (Tr.putE p v L).length d)∧EntL w' B w'.heap.size D (Tr.putE p v L)∧(Tr.putE p v L).length≤d∧Below w.heap.size w w':=by
  have HD:=Lib.hid (rdel6_c (c:=c) (c':=c') hz hd h hp hpl h1 h16 hl hR hB hc)
  have hE:=putE_eq hz p v
  have hzM:=hz.del p
  have hdM:=Tr.Dim.del hz hd p
  have hlM:=Tr.length_delE p L
  have hpm:p.length≤maxLen:=by unfold maxLen;omega
  generalize Tr.delE p L = M at *
  obtain ⟨I,hI⟩:∃ I,Tr.placeE M p = I:=⟨_,rfl⟩
  have hIM:=place_le M p
  rw [hI] at hE hIM
  have HX:=Lib.hid (And.intro hE (And.intro hzM (And.intro hdM (And.intro hlM (And.intro hp (And.intro hpl (And.intro h1 (And.intro h16 (And.intro hl (And.intro hB (And.intro hI (And.intro hIM (And.intro hpm hv)))))))))))))
  have hIb:I≤1000000:=by omega
  clear hz hd h hp hpl h1 h16 hl hR hB hc hE hzM hdM hlM hI hIM hpm hv
  go_enter Tryz.func36,Tryz.ntmps36
  go_wp2_with (go_at_call 39;refine HD.out.mono ?_;rintro e w1 ⟨D,d,rfl,hlD,hcD,hb1⟩)
  obtain ⟨hE,hzM,hdM,hlM,hp,hpl,h1,h16,hl,hB,hI,hIM,hpm,hv⟩:=HX.out
  have HP:=rplace6_c (c:=d) (c':=c') hzM hdM hlD (hp.below' hb1 hB) hpl h1 h16 (by omega)
  rw [hI] at HP
  obtain ⟨Ah,hcuth,hlh⟩:=lst_hi (Q:=EntQ w1 B) 30 57 Tryz.underlying30 infoE2 D M.length d I (by omega) hcD
  obtain ⟨Al,hcutl,hll⟩:=lst_lo (Q:=EntQ w1 B) 30 57 Tryz.underlying30 infoE2 D M.length d I (by omega) hcD
  have hB1:B≤w1.heap.size:=Nat.le_trans hB hb1.size
  have hlist:∀ W,Below w1.heap.size w1 W→Lst 2 (EntQ w1 B) W w1.heap.size Ah (M.take I)∧Lst 2 (EntQ w1 B) W w1.heap.size Al (M.drop I):=fun W hb => ⟨hlh W _ M rfl (hlD.lst hb (Nat.le_refl _)),hll W _ M rfl (hlD.lst hb (Nat.le_refl _))⟩
  have hp1:=hp.below' hb1 hB
  have HY:=Lib.hid (And.intro hlist (And.intro hp1 (And.intro hb1 hB1)))
  have hlen1:(M.take I).length = I:=by simp;omega
  have hlen2:(M.drop I).length = M.length - I:=by simp
  have hle:I + 1 + (M.length - I)≤1000002:=by omega
  have HLL:=Lib.hid (And.intro hlen1 (And.intro hlen2 (And.intro hle hIM)))
  have hal:=below_alloc w1 (.cells #[] 57)
  have m1:(0:Int)≤(I:Int):=by omega
  refine HP.mono ?_
  clear HP hE hzM hdM hlM hp hpl h1 h16 hl hB hI hIM hpm hv hlh hll hlist hp1 hlen1 hlen2 hle hlD hcD hb1 hB1
  rintro e w' ⟨rfl,rfl⟩
  go_wp2_with (first
    | (at_builtin;refine wpList_append_list (Q:=EntQ w1 B) 30 57 (.agg #[.slice none 0 0,.int .u64 0]) 32 Tryz.underlying30 infoE2 (by rfl) (by omega) (by omega) (entQ_ok w1 B) (by rfl) _ _ (by rfl) w1.heap.size (.slice (some ⟨w1.heap.size,0,none⟩) 0 0) [] (M.take I) I (by rw [HLL.out.1];simp) (by rfl) (by exact ownL_nil _ w1) w1.heap.size Ah I d HLL.out.1 (by rfl) (by exact (HY.out.1 _ hal).1) (by omega) (by first | (simp;done) | (simp;omega)) ?_;intro D1 d1 w2 hown1 hgrow1 hat1;have hg1:=Below.grown hal hgrow1 (by simp) (fun q hq => by simp [Value.ownBlock] at hq;omega);have hal2:=hg1.trans ((below_alloc w2 (.cells #[.slice A' p.length c',.int .u64 (v:Int)] 57)).mono hg1.size);clear hgrow1 hat1;rw [List.nil_append] at hown1)
    | (at_builtin;refine wpList_append_list (Q:=EntQ w1 B) 30 57 (.agg #[.slice none 0 0,.int .u64 0]) 32 Tryz.underlying30 infoE2 (by rfl) (by omega) (by omega) (entQ_ok w1 B) (by rfl) _ _ (by rfl) w1.heap.size (.slice D1 I d1) (M.take I) [(p,v)] (I + 1) (by rw [HLL.out.1];rfl) (by rfl) (by exact hown1.below (below_alloc w2 _) (Nat.le_refl _)) (w2.heap.size + 1) (some ⟨w2.heap.size,0,none⟩) 1 1 (by rfl) (by rfl) (by exact lst_one HY.out.2.1 HX.out.2.2.2.2.2.2.2.2.2.2.2.2.1 HX.out.2.2.2.2.2.2.2.2.2.2.2.2.2) (by omega) (by have:=hg1.size;simp;omega) ?_;intro D2 d2 w3 hown2 hgrow2 hat2;have hg2:=Below.grown hal2 hgrow2 (by have:=hg1.size;simp;omega) (fun q hq => (hown1.lt q hq).1);clear hgrow2 hat2)
    | (at_builtin;refine wpList_append_list (Q:=EntQ w1 B) 30 57 (.agg #[.slice none 0 0,.int .u64 0]) 32 Tryz.underlying30 infoE2 (by rfl) (by omega) (by omega) (entQ_ok w1 B) (by rfl) _ _ (by rfl) w1.heap.size (.slice D2 (I + 1) d2) (M.take I ++ [(p,v)]) (M.drop I) (I + 1 + (M.length - I)) (by rw [List.length_append,HLL.out.1,HLL.out.2.1];rfl) (by rfl) (by exact hown2) w1.heap.size Al (M.length - I) (d - I) HLL.out.2.1 (by rfl) (by exact (HY.out.1 _ hg2).2) (by have:=HLL.out.2.2.1;omega) hg2.size ?_;intro D3 d3 w4 hown3 hgrow3 hat3;have hg3:=Below.grown hg2 hgrow3 hg2.size (fun q hq => (hown2.lt q hq).1);clear hgrow3 hat3))
  go_ret
  obtain ⟨e1,e2,e3⟩:=ownE_at hown3 hg3 HY.out.2.2.2
  rw [List.append_assoc,List.singleton_append,← HX.out.1] at e1 e2 e3
  exact ⟨D3,d3,by rw [← e1];rfl,e3,e2,Below.andThen HY.out.2.2.1 hg3⟩
end Go.Proofs.YtkeepngaaleakaaGreatDoor
