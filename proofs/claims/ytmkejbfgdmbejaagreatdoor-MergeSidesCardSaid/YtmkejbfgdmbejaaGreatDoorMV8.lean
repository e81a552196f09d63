import Derived.Test.YtmkejbfgdmbejaaGreatDoorMV7
namespace Go.Proofs.YtmkejbfgdmbejaaGreatDoor
open Go.ChangeShapes Go.WideShapes Go.ChangeAt Go.RowKit
open Tr (T S4 Ent Tri KL)
abbrev Cls:=List Nat × Tr.Cl
def clLt (c:Tr.Cl):Prop:=c.1.getD 0 < 18446744073709551616∧c.2.1.getD 0 < 18446744073709551616∧c.2.2.getD 0 < 18446744073709551616
def ClG (w:World) (G:Nat→Prop) (f:Nat→Option Value) (c:Cls):Prop :=
  ∃ A n,(f 0 = some (.slice A c.1.length n)∧f 1 = some (.bool c.2.1.isSome)∧f 2 = some (.bool c.2.2.1.isSome)∧f 3 = some (.bool c.2.2.2.isSome))∧(f 4 = some (.int .u64 ((c.2.1.getD 0:Nat):Int))∧f 5 = some (.int .u64 ((c.2.2.1.getD 0:Nat):Int))∧f 6 = some (.int .u64 ((c.2.2.2.getD 0:Nat):Int))) ∧
    PtsG w G A c.1∧c.1.length≤maxLen∧clLt c.2
theorem clG_ok (w:World) (G:Nat→Prop):QOk 7 (ClG w G) where
  ext:=by
    rintro f g a h ⟨A,c,⟨h0,h1,h2,h3⟩,⟨h4,h5,h6⟩,r⟩
    exact ⟨A,c,⟨(h 0 (by omega)).symm.trans h0,(h 1 (by omega)).symm.trans h1,(h 2 (by omega)).symm.trans h2,(h 3 (by omega)).symm.trans h3⟩,⟨(h 4 (by omega)).symm.trans h4,(h 5 (by omega)).symm.trans h5,(h 6 (by omega)).symm.trans h6⟩,r⟩
  has:=by
    rintro f a ⟨A,c,⟨h0,h1,h2,h3⟩,⟨h4,h5,h6⟩,r⟩ j hj
    match j,hj with
    | 0,_ => exact ⟨_,h0,rfl⟩
    | 1,_ => exact ⟨_,h1,rfl⟩
    | 2,_ => exact ⟨_,h2,rfl⟩
    | 3,_ => exact ⟨_,h3,rfl⟩
    | 4,_ => exact ⟨_,h4,rfl⟩
    | 5,_ => exact ⟨_,h5,rfl⟩
    | 6,_ => exact ⟨_,h6,rfl⟩
theorem ClG.step {w w':World} {G G':Nat→Prop} (hs:w.heap.size≤w'.heap.size) (hk:∀ b,b < w.heap.size→G b→w'.heap[b]? = w.heap[b]?∧G' b):∀ f e,ClG w G f e→ClG w' G' f e:=by
  rintro f e ⟨A,c,h0,h1,h5,r⟩
  exact ⟨A,c,h0,h1,h5.step hs hk,r⟩
theorem infoCls:(Tryz.prog.info? 91).map (fun i => (i.zero,i.size,i.bytes)) = some (some (.agg #[.slice none 0 0,.bool false,.bool false,.bool false,.int .u64 0,.int .u64 0,.int .u64 0]),7,56):=by kernel_rfl
structure ClRow (w:World) (base:Nat) (D:Nat→Prop) (V:Option Addr) (c:Nat) (L:List Cls):Prop where
  row:OwnL 91 7 (ClG w D) w base (.slice V L.length c) L
  dom:∀ b,D b→base≤b∧b < w.heap.size∧V.map (·.block)≠some b
section
variable {w w' w2 w5:World} {base m c c':Nat} {D:Nat→Prop} {V V':Option Addr} {L:List Cls} {x:Cls}
theorem ClRow.lt (h:ClRow w base D V c L):∀ b,V.map (·.block) = some b→base≤b∧b < w.heap.size:=fun b hb => h.row.lt b (by rw [own_block];exact hb)
theorem ClRow.frame (h:ClRow w base D V c L) (hs:w.heap.size≤w'.heap.size) (hb:∀ b,(V.map (·.block) = some b∨D b)→w'.heap[b]? = w.heap[b]?):ClRow w' base D V c L :=
  ⟨(h.row.block fun q hq => hb q (.inl (by rw [own_block] at hq;exact hq))).imp (ClG.step hs fun b _ hD => ⟨hb b (.inr hD),hD⟩),fun b hD => ⟨(h.dom b hD).1,Nat.lt_of_lt_of_le (h.dom b hD).2.1 hs,(h.dom b hD).2.2⟩⟩
theorem ClRow.below (h:ClRow w base D V c L) (hb:Below w.heap.size w w'):ClRow w' base D V c L :=
  h.frame hb.size fun b hb' => hb.block b (by
    rcases hb' with e | e
    · exact (h.lt b e).2
    · exact (h.dom b e).2.1)
theorem ClRow.wide (h:ClRow w base D V c L) (hB:base≤w.heap.size) (hb:Below w.heap.size w w'):ClRow w' base (fun b => D b∨(w.heap.size≤b∧b < w'.heap.size)) V c L:=by
  refine ⟨OwnL.imp (h.below hb).row (ClG.step (Nat.le_refl _) fun b _ hD => ⟨rfl,.inl hD⟩),fun b hD => ?_⟩
  rcases hD with hD | hD
  · have:=h.dom b hD
    exact ⟨this.1,Nat.lt_of_lt_of_le this.2.1 hb.size,this.2.2⟩
  · exact ⟨by omega,hD.2,fun e => by have:=(h.lt b e).2;omega⟩
theorem ClRow.app (h:ClRow w base D V c L) (hb:Below w.heap.size w w2) (hm:(L ++ [x]).length = m)
    (hown:OwnL 91 7 (ClG w D) w5 base (.slice V' m c') (L ++ [x])) (hgr:w2.grownBy w5 (Value.slice V L.length c).ownBlock) (hat:(Value.slice V' m c').ownBlock = (Value.slice V L.length c).ownBlock∨(Value.slice V' m c').ownBlock = some w2.heap.size) :
    ClRow w5 base D V' c' (L ++ [x])∧Foot (fun b => V.map (·.block) = some b) w w5∧(V'.map (·.block) = V.map (·.block)∨∃ q,V'.map (·.block) = some q∧w.heap.size≤q):=by
  subst hm
  rw [own_block,own_block] at hat
  rw [own_block] at hgr
  have s2:=hb.size
  have hk:∀ b,b < w2.heap.size→V.map (·.block)≠some b→w5.heap[b]? = w2.heap[b]?:=fun b hb' hn => hgr.block b hb' (fun e => hn e.symm)
  refine ⟨⟨hown.imp (ClG.step (Nat.le_trans s2 hgr.size) fun b hlt hD => ⟨(hk b (Nat.lt_of_lt_of_le hlt s2) (h.dom b hD).2.2).trans (hb.block b hlt),hD⟩),fun b hD => ?_⟩,⟨hgr.os.trans hb.os,hgr.tape.trans hb.tape,hgr.output.trans hb.output,Nat.le_trans s2 hgr.size,fun b hlt hn => (hk b (by omega) hn).trans (hb.block b hlt)⟩,?_⟩
  · have:=h.dom b hD
    refine ⟨this.1,Nat.lt_of_lt_of_le this.2.1 (Nat.le_trans s2 hgr.size),?_⟩
    rcases hat with e | e
    · rw [e];exact this.2.2
    · rw [e];intro e';simp only [Option.some.injEq] at e';omega
  · rcases hat with e | e
    · exact .inl e
    · exact .inr ⟨_,e,s2⟩
end
/-! ### Clashes -/
def ClInv (h base:Nat) (us:TdM) (w:World) (F:Nat→Prop):Prop :=
  ∃ (V:Option Addr) (c:Nat) (D:Nat→Prop),w.heap[h]? = some (.cells #[.slice V us.length c] 46 (0,0))∧ClRow w base D V c us∧base≤w.heap.size∧F = fun b => b = h∨V.map (·.block) = some b∨D b
theorem vO_lt {w:World} {B k:Nat} {p:List Nat} {o:Option T} (h:NodeO w B k o) (he:∀ x,o = some x→∃ g v,x = .ent g p v):(vO o).getD 0 < 18446744073709551616:=by
  cases o with
  | none => simp [vO]
  | some t =>
    obtain ⟨g,v,rfl⟩:=he t rfl
    exact ((zdO h).2 (p,v) (by simp [Tr.entsO,Tr.ents_ent])).2.2
theorem bec_ne {t:Tri} (h:Tr.bec (vO t.o) (vO t.a) (vO t.b) = none):t.a≠none∨t.b≠none:=by
  cases ha:t.a with
  | some x => exact .inl (by simp)
  | none =>
    cases hb:t.b with
    | some x => exact .inr (by simp)
    | none => rw [ha,hb,Tr.bec_ab] at h;cases h
set_option maxRecDepth 1000000 in
set_option maxHeartbeats 4000000 in
theorem clashes1_c {B k h base M:Nat} (hB:B≤h) (hh:h < base) (hM:M≤100000000) {us:TdM} {w:World} {F:Nat→Prop} {p:List Nat} {t:Tri} (hI:ClInv h base us w F) (ht:TriN w B k t) (he:EntT p t) (hp:p.length = k) (hb:Tr.bec (vO t.o) (vO t.a) (vO t.b) = none) (hBw:B≤w.heap.size) (hlen:us.length + 1≤M) :
    Calls Tryz.prog 54 #[trV t,.pointer (some ⟨h,0,none⟩)] w fun e w' => e = .returned (.pointer none)∧∃ F',ClInv h base (us ++ [(p,(vO t.o,vO t.a,vO t.b))]) w' F'∧(∀ b,F' b→F b∨w.heap.size≤b)∧Foot F w w':=by
  obtain ⟨V,c,D,h1,h2,h3,hF⟩:=hI
  have HFF:=Lib.hid hF
  clear hF
  obtain ⟨x,hx⟩:∃ x:Cls,(p,(vO t.o,vO t.a,vO t.b)) = x:=⟨_,rfl⟩
  have hk1:1≤k∧k≤16:=by
    rcases bec_ne hb with c | c
    · cases ha:t.a with
      | none => exact absurd ha c
      | some y => exact ⟨(ht.a y ha).1.k1,(ht.a y ha).1.k16⟩
    · cases ha:t.b with
      | none => exact absurd ha c
      | some y => exact ⟨(ht.b y ha).1.k1,(ht.b y ha).1.k16⟩
  have hlt:clLt x.2:=by rw [← hx];exact ⟨vO_lt ht.o he.o,vO_lt ht.a he.a,vO_lt ht.b he.b⟩
  obtain ⟨W0,hW0⟩:∃ W0,W0 = w.alloc (.cells #[.pointer (rootP t.o),.pointer (rootP t.a),.pointer (rootP t.b)] 98):=⟨_,rfl⟩
  have hb0:Below w.heap.size w W0:=by rw [hW0];exact below_alloc _ _
  have hs0:=hb0.size
  have hat:W0.heap[w.heap.size]? = some (.cells #[.pointer (rootP t.o),.pointer (rootP t.a),.pointer (rootP t.b)] 98 (0,0)):=by rw [hW0];exact heap_at w _ _ rfl
  have hhs:=(Array.getElem?_eq_some_iff.1 h1).1
  have hW1:=(hb0.block h hhs).trans h1
  have c0:W0.cell? ⟨h,0,none⟩ = some (.slice V us.length c):=by rw [cell_of_row W0 h _ _ _ (0,0) hW1];rfl
  obtain ⟨q0,q1,q2,-⟩:=at_cells hat
  obtain ⟨b1,hb1⟩:∃ b,(vO t.o).isSome = b:=⟨_,rfl⟩
  obtain ⟨b2,hb2⟩:∃ b,(vO t.a).isSome = b:=⟨_,rfl⟩
  obtain ⟨b3,hb3⟩:∃ b,(vO t.b).isSome = b:=⟨_,rfl⟩
  obtain ⟨n1,hn1⟩:∃ b,(vO t.o).getD 0 = b:=⟨_,rfl⟩
  obtain ⟨n2,hn2⟩:∃ b,(vO t.a).getD 0 = b:=⟨_,rfl⟩
  obtain ⟨n3,hn3⟩:∃ b,(vO t.b).getD 0 = b:=⟨_,rfl⟩
  have HCl:Hid (∀ w1,Below W0.heap.size W0 w1→w1.heap.size = W0.heap.size→Calls Tryz.prog 55 #[trV t] w1 fun e w' => ∃ g d,e = .returned (.agg #[.slice (some ⟨g,0,none⟩) k d,.bool b1,.bool b2,.bool b3,.int .u64 (n1:Int),.int .u64 (n2:Int),.int .u64 (n3:Int)])∧Own w' W0.heap.size (.slice (some ⟨g,0,none⟩) k d) p∧Below W0.heap.size W0 w'):=Lib.hid fun w1 hw1 hs1 => by
    have hh:=tClash_c (ht.below (hb0.trans (hw1.mono hs0)) hBw (Nat.le_refl _)) he (Nat.le_trans hBw (Nat.le_trans hs0 hw1.size)) hp (bec_ne hb)
    simp only [clV] at hh
    rw [hb1,hb2,hb3,hn1,hn2,hn3] at hh
    refine hh.mono ?_
    rintro e w' ⟨g,d,rfl,ho,hbl⟩
    exact ⟨g,d,rfl,hs1 ▸ ho,hw1.trans (hbl.mono hw1.size)⟩
  have HX:=Lib.hid (And.intro h1 (And.intro h2 (And.intro h3 (And.intro hB (And.intro hh (And.intro hlt (And.intro hhs (And.intro hk1 (And.intro hp (And.intro (show us.length + 1≤100000000 by omega) (And.intro hb0 hW1)))))))))))
  have HE:Hid (x.1 = p∧x.2.1.isSome = b1∧x.2.2.1.isSome = b2∧x.2.2.2.isSome = b3∧x.2.1.getD 0 = n1∧x.2.2.1.getD 0 = n2∧x.2.2.2.getD 0 = n3):=Lib.hid (by rw [← hx];exact ⟨rfl,hb1,hb2,hb3,hn1,hn2,hn3⟩)
  rw [hx]
  have hn7:(us.length:Int)≤100000000:=by omega
  have HW0:=Lib.hid hW0
  clear h1 h2 h3 ht he hp hb hBw hlen hM hB hh hlt hb1 hb2 hb3 hn1 hn2 hn3 hx hk1 hs0 hW1 hW0 hat
  go_enter Tryz.func54,Tryz.ntmps54
  go_upto_region 1 with fail
  rw [← HW0.out]
  have hbb0:Below W0.heap.size W0 W0:=Below.refl _ _
  have hbb1:Below W0.heap.size W0 W0.drew:=(Below.refl _ _).drew
  go_region_law ((first
    | (go_simp;go_at_call 55;refine (HCl.out _ (by first | exact hbb0 | exact hbb1) (by rfl)).mono ?_;rintro e w2 ⟨g,d2,rfl,ho2,hb2⟩;have hc2:=(hb2.block h (by have h8:=HX.out.2.2.2.2.2.2.1;have h9:=HX.out.2.2.2.2.2.2.2.2.2.2.1.size;omega)).trans HX.out.2.2.2.2.2.2.2.2.2.2.2;have c2:w2.cell? ⟨h,0,none⟩ = some (.slice V us.length c):=(by rw [cell_of_row w2 h _ _ _ (0,0) hc2];rfl);have c2a:∀ ob,(w2.alloc ob).cell? ⟨h,0,none⟩ = some (.slice V us.length c):=(fun ob => by rw [cell_of_row _ h _ _ _ (0,0) (keepz hc2 (below_alloc w2 ob))];rfl);have hbw2:Below w.heap.size w w2:=Below.andThen HX.out.2.2.2.2.2.2.2.2.2.2.1 hb2;have hwd:=HX.out.2.1.wide HX.out.2.2.1 hbw2;have hlt2:=ho2.2.lt g (by rw [own_block];rfl);have hpt:PtsG w2 (fun b => D b∨(w.heap.size≤b∧b < w2.heap.size)) (some ⟨g,0,none⟩) p:=ho2.ptsG (.inr ⟨Nat.le_trans HX.out.2.2.2.2.2.2.2.2.2.2.1.size hlt2.1,hlt2.2⟩))
    | (refine step_append_list (Q:=ClG w2 (fun b => D b∨(w.heap.size≤b∧b < w2.heap.size))) 46 91 (.agg #[.slice none 0 0,.bool false,.bool false,.bool false,.int .u64 0,.int .u64 0,.int .u64 0]) 56 Tryz.underlying46 infoCls (by rfl) (by omega) (by omega) (clG_ok _ _) (by rfl) _ _ (by rfl) base (.slice V us.length c) us [x] (us.length + 1) (by rfl) (by rfl) (by exact hwd.row.below (show Below w2.heap.size w2 _ by ((repeat first | refine bD ?_ | with_reducible refine bN ?_ | refine bA ?_ | refine bS ?_);first | exact bR | assumption | exact bN bR | exact bN (bN bR))) (Nat.le_refl _)) _ _ 1 1 (by rfl) (by rfl) (by exact lst_at (clG_ok _ _) #[.slice (some ⟨g,0,none⟩) k d2,.bool b1,.bool b2,.bool b3,.int .u64 (n1:Int),.int .u64 (n2:Int),.int .u64 (n3:Int)] x (by rfl) (by exact ⟨some ⟨g,0,none⟩,d2,⟨by rw [HE.out.1,HX.out.2.2.2.2.2.2.2.2.1];rfl,by rw [HE.out.2.1];rfl,by rw [HE.out.2.2.1];rfl,by rw [HE.out.2.2.2.1];rfl⟩,⟨by rw [HE.out.2.2.2.2.1];rfl,by rw [HE.out.2.2.2.2.2.1];rfl,by rw [HE.out.2.2.2.2.2.2];rfl⟩,by rw [HE.out.1];exact hpt,by rw [HE.out.1,HX.out.2.2.2.2.2.2.2.2.1];have:=HX.out.2.2.2.2.2.2.2.1.2;unfold maxLen;omega,HX.out.2.2.2.2.2.1⟩)) (by have:=HX.out.2.2.2.2.2.2.2.2.2.1;omega) (by have:=HX.out.2.2.1;have:=hbw2.size;simp;omega) ?_;intro D3 d3 w3 hown3 hgrow3 hat3;have happ:=ClRow.app hwd (show Below w2.heap.size w2 _ by ((repeat first | refine bD ?_ | with_reducible refine bN ?_ | refine bA ?_ | refine bS ?_);first | exact bR | assumption | exact bN bR | exact bN (bN bR))) (by simp) hown3 hgrow3 hat3;have hg3:=(happ.2.1.block h (Array.getElem?_eq_some_iff.1 hc2).1 (fun e => by have h5:=(HX.out.2.1.lt h e).1;have h6:=HX.out.2.2.2.2.1;omega)).trans hc2;have c3:w3.cell? ⟨h,0,none⟩ = some (.slice V us.length c):=(by rw [cell_of_row w3 h _ _ _ (0,0) hg3];rfl);have f3:w3.frozen? ⟨h,0,none⟩ = false:=frozen_of_row w3 h _ _ _ hg3)))
  all_goals (
    have HN:=Lib.hid (And.intro happ.1 (And.intro happ.2.1 (And.intro happ.2.2 (And.intro hg3 (And.intro hbw2 hb2.size)))))
    clear happ hg3 hbw2 hb2 hown3 hgrow3 hat3 hwd hpt hlt2 ho2 hc2 c2 c2a c3 f3 HCl hbb0 hbb1
    go_wp2_with fail
    go_ret
    obtain ⟨r1,r2,r3,hg3,hbw2,hs2⟩:=HN.out
    obtain ⟨h1,h2,h3,hB,hh,-,hhs,-⟩:=HX.out
    rw [HFF.out]
    have hne:∀ b,(D3.map (·.block) = some b∨(D b∨(w.heap.size≤b∧b < w2.heap.size)))→b≠h:=fun b hb e => by
      subst e
      rcases hb with hb | hb
      · have:=r1.lt b hb;omega
      · have:=(r1.dom b hb).1;omega
    refine ⟨rfl,fun b => b = h∨D3.map (·.block) = some b∨(D b∨(w.heap.size≤b∧b < w2.heap.size)),⟨D3,d3,_,?_,r1.frame (by simp) (fun b hb => Below.heap_setCell _ _ _ _ (hne b hb)),?_,rfl⟩,fun b hb => ?_,?_⟩
    · rw [heap_setCell_same w3 h 0 _ _ (.slice D3 (us.length + 1) d3) hg3]
      simp
    · have h4:=r2.size
      have h5:=hbw2.size
      simp
      omega
    · rcases hb with hb | hb | hb | hb
      · exact .inl (.inl hb)
      · rcases r3 with e | ⟨q,e,hq⟩
        · rw [e] at hb;exact .inl (.inr (.inl hb))
        · rw [e] at hb
          simp only [Option.some.injEq] at hb
          subst hb
          exact .inr (Nat.le_trans hbw2.size hq)
      · exact .inl (.inr (.inr hb))
      · exact .inr hb.1
    · have g4:Foot (fun b => b = h∨V.map (·.block) = some b∨D b) w w3:=(Foot.of_below hbw2).trans (F1:=fun b => V.map (·.block) = some b) r2 (fun b hb => .inl (.inr (.inl hb)))
      exact g4.trans (Foot.setCell w3 (F:=fun b => b = h∨V.map (·.block) = some b∨D b) (a:=⟨h,0,none⟩) (.inl rfl) _) (fun b hb => .inl hb))
theorem clashes2_c (w:World) (q:Option Addr):Calls Tryz.prog 56 #[.pointer q] w fun e w' => e = .returned (.pointer none)∧w = w':=by
  go_enter Tryz.func56,Tryz.ntmps56
  go_wp2_with fail
  go_ret
  exact ⟨rfl,rfl⟩
theorem clashes_visit {B k h base M:Nat} {r:Int} (hB:B≤h) (hh:h < base) (hM:M≤100000000):VisitM 54 #[.pointer (some ⟨h,0,none⟩)] 56 #[] B k M false r (ClInv h base) where
  entc:=enters_of Tryz.func54 (by kernel_rfl) rfl
  entj:=enters_of Tryz.func56 (by kernel_rfl) rfl
  frame:=by
    rintro us w w' F ⟨V,c,D,h1,h2,h3,rfl⟩ hs hb
    exact ⟨V,c,D,(hb h (.inl rfl)).trans h1,h2.frame hs (fun b hb' => hb b (.inr hb')),Nat.le_trans h3 hs,rfl⟩
  inb:=by
    rintro us w F ⟨V,c,D,h1,h2,h3,rfl⟩ b (rfl | hb | hb)
    · exact ⟨(Array.getElem?_eq_some_iff.1 h1).1,hB⟩
    · have:=h2.lt b hb
      exact ⟨this.2,by omega⟩
    · have:=h2.dom b hb
      exact ⟨this.2.1,by omega⟩
  clash:=by
    intro us w F p t hI ht he hp hb hBw hlen
    refine (clashes1_c hB hh hM hI ht he hp hb hBw hlen).mono ?_
    rintro e w' ⟨rfl,hF⟩
    exact ⟨rfl,fun h => Bool.noConfusion h,hF⟩
  join:=by
    intro w0 w base' f hs hrem hres hcn hBw hbl hsz
    refine (clashes2_c w _).mono ?_
    rintro e w' ⟨rfl,rfl⟩
    exact ⟨none,rfl,Below.refl _ _,fun x hx => (by cases hx),fun _ => rfl,fun h => Bool.noConfusion h⟩
theorem sum_res {r:Int}:∀ (ps:List Pl),(∀ x∈ps,Tr.entsO x.m = Tr.ppT (Tr.mgG r) x.t)→sumM ps = (Tr.ppM (Tr.mgG r) (ps.map fun x => (x.a,x.t))).length
  | [],_ => rfl
  | x :: ps,h => by
    rw [sumM_cons,List.map_cons,Tr.ppM_cons,List.length_append,h x List.mem_cons_self,sum_res ps fun y hy => h y (List.mem_cons_of_mem _ hy)]
theorem joinN_c {w0 w:World} {B k base:Nat} {r:Int} {f:Fm} (hs:StkM w0 B k true r base w [f]) (hrem:f.t.rem f.l (nextOf f.ps) = []) (hres:ResOk true r f.ps) (hcn:cnt3 f.t≤1000000000) (hB:B≤w0.heap.size) (hbl:Below B w0 w) (hsz:w0.heap.size≤w.heap.size) :
    Calls Tryz.prog 61 #[.pointer (some ⟨f.q,0,none⟩)] w fun e w' => ∃ R,e = .returned (.pointer (rootP R))∧Below w.heap.size w w'∧NodeO w' w'.heap.size k R∧Tr.entsO R = Tr.ppT (Tr.mgG r) f.t:=by
  have hf:=List.mem_cons_self (a:=f) (l:=([]:List Fm))
  have hfa:=hs.fa f hf
  have hfm:=hs.fm f hf
  obtain ⟨c0,hfo,hsd⟩:=hfa.ok
  have hps:f.ps.map (fun x => (x.a,x.t)) = f.t.rem f.l 0:=by have:=hfa.rem;rw [hrem,List.append_nil] at this;exact this
  have hin:∀ x∈f.ps,(x.a,x.t)∈f.t.rem f.l 0:=fun x hx => by rw [← hps];exact List.mem_map.2 ⟨x,hx,rfl⟩
  have hres':∀ x∈f.ps,Tr.entsO x.m = Tr.ppT (Tr.mgG r) x.t:=hres rfl
  have zo:=zdO hfa.nt.o
  have za:=zdO hfa.nt.a
  have zb:=zdO hfa.nt.b
  have hpp:Tr.ppM (Tr.mgG r) (f.t.rem f.l 0) = Tr.ppT (Tr.mgG r) f.t:=hfo.rem (Tr.mg_none r)
  have hlen:sumM f.ps≤cnt3 f.t:=by
    rw [sum_res f.ps hres',hps,hpp]
    exact Tr.ppL_len zo.1 zo.2 za.2 zb.2
  have hfit:∀ x∈f.ps,∀ m,x.m = some m→Tr.Wf k m∧m.lv≤f.l∧Z.cut m.pre (f.l + 1) = c0∧Z.addr m.pre f.l = x.a:=fun x hx m hm => by
    obtain ⟨h1,-,h3⟩:=hs.nd f hf x hx
    refine Tr.low_fit (h1 m hm).1 fun e he => ?_
    obtain ⟨-,-,-,-,-,ma,mb⟩:=hfo.place (hin x hx)
    have key:∀ (o o':Option T) (v:Nat),(∀ y,o = some y→(x.a,y)∈Tr.sdL o' f.l)→Tr.FitL k f.l c0 (Tr.sdL o' f.l)→(e.1,v)∈Tr.entsO o→Z.addr e.1 f.l = x.a∧Z.cut e.1 (f.l + 1) = c0:=fun o o' v hm hF hv => by
      cases o with
      | none => cases hv
      | some y =>
        have:=hF.ent (hm y rfl) hv
        exact ⟨this.1,this.2.1⟩
    rcases h3 e (by rw [hm];exact he) with ⟨v,hv⟩ | ⟨v,hv⟩
    · exact key _ _ v ma hfo.2.2.1 hv
    · exact key _ _ v mb hfo.2.2.2.1 hv
  refine (mNode_c (base:=base) (d:=f.d) (D:=f.D) (pn:=f.ps.length) (ps:=f.ps) hfo hsd (hfa.nt.below hbl (Nat.le_refl _) (Nat.le_refl _)) (Nat.le_trans hB hsz) hfm.cell rfl hfm.row (Nat.le_trans hfa.n6 hfa.n5) hps (fun x hx => (hs.nd f hf x hx).1) (fun x hx => (hfa.place (hin x hx)).1.below hbl (Nat.le_refl _) (Nat.le_refl _)) hfit (by unfold cnt3 at hcn hlen;omega)).mono ?_
  rintro e w' ⟨R,rfl,h1,h2,h3⟩
  refine ⟨R,rfl,h3,h1,Tr.XS.ext (zdO h1).1 (Tr.mg_dim r zo.1 za.1 zb.1 zo.2 za.2 zb.2).1 fun e => ?_⟩
  rw [h2 e]
  show _↔e∈Tr.ppT (Tr.mgG r) f.t
  rw [← hpp,← hps]
  unfold Tr.ppM
  rw [List.mem_flatMap]
  constructor
  · rintro ⟨x,hx,he⟩
    exact ⟨(x.a,x.t),List.mem_map.2 ⟨x,hx,rfl⟩,by rw [← hres' x hx];exact he⟩
  · rintro ⟨q,hq,he⟩
    obtain ⟨x,hx,rfl⟩:=List.mem_map.1 hq
    exact ⟨x,hx,by rw [hres' x hx];exact he⟩
/-! ### By's closure -/
def ByInv (h hr:Nat) (r:Int) (us:TdM) (w:World) (F:Nat→Prop):Prop:=w.heap[h]? = some (.cells #[.int .i64 (us.length:Int)] 3 (0,0))∧w.heap[hr]? = some (.cells #[.int .i64 r] 3 (0,0))∧F = fun b => b = h∨b = hr
theorem int_keeps {k:Nat} {W:World} {h:Nat} {n:Int} {ty:TypeId} (hc:W.heap[h]? = some (.cells #[.int .i64 n] ty (0,0))) (v:Value):Kp k W (W.setCell ⟨h,0,none⟩ v):=by
  intro B t hB hn
  have hcell:∀ i u,W.cell? ⟨h,i,none⟩ = some u→u = .int .i64 n:=fun i u hi => by
    rw [cell_of_row W _ _ _ _ (0,0) hc] at hi
    have hlt:i < 1:=(Array.getElem?_eq_some_iff.1 hi).1
    have:i = 0:=by omega
    subst this
    have h':some (Value.int .i64 n) = some u:=hi
    cases h'
    rfl
  have hall:=Node.all _ (Nat.le_refl _) hn
  exact node_keep (r:=h) (S:=fun _ => True) (fun b hb => Below.heap_setCell W ⟨h,0,none⟩ _ b hb) (fun i u _ hS => absurd trivial hS) (fun i u hi => by rw [hcell i u hi];exact ⟨fun m e => (by cases e),fun m e => (by cases e)⟩) hn (fun x hx hne => off_any (hall x hx) hne fun y hy i hi => by have:=hcell i _ hi;cases this)
set_option maxRecDepth 1000000 in
set_option maxHeartbeats 4000000 in
theorem by1_c {B k h hr M:Nat} {r:Int} (hB:B≤h) (hne:hr≠h) (hM:M≤1000000000) {us:TdM} {w:World} {F:Nat→Prop} {p:List Nat} {t:Tri} (hI:ByInv h hr r us w F) (ht:TriN w B k t) (he:EntT p t) (hBw:B≤w.heap.size) (hlen:us.length + 1≤M) {x:Cls} :
    Calls Tryz.prog 59 #[trV t,.pointer (some ⟨h,0,none⟩),.pointer (some ⟨hr,0,none⟩)] w fun e w' => e = .returned (.pointer (rootP (pickT r t)))∧Kp k w w'∧∃ F',ByInv h hr r (us ++ [x]) w' F'∧(∀ b,F' b→F b∨w.heap.size≤b)∧Foot F w w':=by
  obtain ⟨h1,h2,hF⟩:=hI
  obtain ⟨W0,hW0⟩:∃ W0,W0 = w.alloc (.cells #[.pointer (rootP t.o),.pointer (rootP t.a),.pointer (rootP t.b)] 98):=⟨_,rfl⟩
  have hb0:Below w.heap.size w W0:=by rw [hW0];exact below_alloc _ _
  have hat:W0.heap[w.heap.size]? = some (.cells #[.pointer (rootP t.o),.pointer (rootP t.a),.pointer (rootP t.b)] 98 (0,0)):=by rw [hW0];exact heap_at w _ _ rfl
  have g1:=keepz h1 hb0
  have g2:=keepz h2 hb0
  have hhs:=(Array.getElem?_eq_some_iff.1 h1).1
  have hrs:=(Array.getElem?_eq_some_iff.1 h2).1
  have c1:W0.cell? ⟨h,0,none⟩ = some (.int .i64 (us.length:Int)):=by rw [cell_of_row W0 _ _ _ _ (0,0) g1];rfl
  have f1:=frozen_of_row W0 h 0 _ _ g1
  obtain ⟨W1,hW1⟩:∃ W1,W1 = W0.setCell ⟨h,0,none⟩ (.int .i64 ((us.length:Int) + 1)):=⟨_,rfl⟩
  have hat1:W1.heap[w.heap.size]? = some (.cells #[.pointer (rootP t.o),.pointer (rootP t.a),.pointer (rootP t.b)] 98 (0,0)):=by
    rw [hW1,Below.heap_setCell W0 ⟨h,0,none⟩ _ _ (by show w.heap.size≠h;omega)]
    exact hat
  have g3:W1.heap[hr]? = some (.cells #[.int .i64 r] 3 (0,0)):=by
    rw [hW1,Below.heap_setCell W0 ⟨h,0,none⟩ _ _ hne]
    exact g2
  have g4:W1.heap[h]? = some (.cells #[.int .i64 ((us ++ [x]).length:Int)] 3 (0,0)):=by
    rw [hW1,heap_setCell_same W0 h 0 _ _ (.int .i64 ((us.length:Int) + 1)) g1]
    simp
  have hk1:Kp k w W1:=by
    rw [hW1]
    exact Kp.trans (Kp.of_below hb0) (int_keeps g1 _) hb0.size
  have hfo:Foot (fun b => b = h) w W1:=by
    rw [hW1]
    exact (Foot.of_below hb0).trans (F1:=fun b => b = h) (Foot.setCell W0 (F:=fun b => b = h) (a:=⟨h,0,none⟩) rfl _) (fun b hb => .inl hb)
  have hbB:Below B w W1:=hfo.below hBw (fun b hb => by omega)
  obtain ⟨q0,q1,q2,-⟩:=at_cells hat1
  have q3:W1.cell? ⟨hr,0,none⟩ = some (.int .i64 r):=by rw [cell_of_row W1 _ _ _ _ (0,0) g3];rfl
  have HBy:=Lib.hid (mBy_c (ht.below hbB (Nat.le_refl _) (Nat.le_refl _)) he (Nat.le_trans hBw hbB.size) r)
  have HX:=Lib.hid (And.intro hF (And.intro hk1 (And.intro hfo (And.intro g3 (And.intro g4 (And.intro hne (And.intro hhs hrs)))))))
  have hn7:(us.length:Int)≤1000000000:=by omega
  have HW:=Lib.hid (And.intro hW0 hW1)
  clear h1 h2 hF hb0 hat g1 g2 hhs hrs hat1 g3 g4 hk1 hfo hbB hW0 hW1 hlen hM ht he hBw hB hne
  go_enter Tryz.func59,Tryz.ntmps59
  go_upto_region 1 with fail
  rw [← HW.out.1]
  go_upto_region 2 with fail
  rw [← HW.out.2]
  go_wp2_with fail
  refine HBy.out.mono ?_
  rintro e w2 ⟨rfl,hb2⟩
  have H2:=Lib.hid hb2
  clear hb2 HBy q0 q1 q2 q3 c1 f1
  obtain ⟨po,hpo⟩:∃ po,rootP (pickT r t) = po:=⟨_,rfl⟩
  rw [hpo]
  go_wp2_with fail
  go_ret
  obtain ⟨hF,hk1,hfo,g3,g4,hne,hhs,hrs⟩:=HX.out
  refine ⟨by rw [hpo];rfl,Kp.trans hk1 (Kp.of_below H2.out) hfo.size,fun b => b = h∨b = hr,⟨keepz g4 H2.out,keepz g3 H2.out,rfl⟩,fun b hb => .inl (by rw [hF];exact hb),?_⟩
  rw [hF]
  exact (Foot.trans (⟨hfo.os,hfo.tape,hfo.output,hfo.size,fun b hb hn => hfo.block b hb fun e => hn (.inl e)⟩:Foot (fun b => b = h∨b = hr) w _) (F1:=fun _ => False) (Foot.of_below H2.out) (fun b hb => hb.elim))
theorem by_visit {B k h hr M:Nat} {r:Int} (hB:B≤h) (hBr:B≤hr) (hne:hr≠h) (hM:M≤1000000000):VisitM 59 #[.pointer (some ⟨h,0,none⟩),.pointer (some ⟨hr,0,none⟩)] 61 #[] B k M true r (ByInv h hr r) where
  entc:=enters_of Tryz.func59 (by kernel_rfl) rfl
  entj:=enters_of Tryz.func61 (by kernel_rfl) rfl
  frame:=by
    rintro us w w' F ⟨h1,h2,rfl⟩ hs hb
    exact ⟨(hb h (.inl rfl)).trans h1,(hb hr (.inr rfl)).trans h2,rfl⟩
  inb:=by
    rintro us w F ⟨h1,h2,rfl⟩ b (rfl | rfl)
    · exact ⟨(Array.getElem?_eq_some_iff.1 h1).1,hB⟩
    · exact ⟨(Array.getElem?_eq_some_iff.1 h2).1,hBr⟩
  clash:=by
    intro us w F p t hI ht he hp hb hBw hlen
    refine (by1_c hB hne hM hI ht he hBw hlen (p:=p) (x:=(p,(vO t.o,vO t.a,vO t.b)))).mono ?_
    rintro e w' ⟨rfl,hk,hF⟩
    exact ⟨by rw [if_pos rfl],fun _ => hk,hF⟩
  join:=by
    intro w0 w base' f hs hrem hres hcn hBw hbl hsz
    refine (joinN_c hs hrem hres hcn hBw hbl hsz).mono ?_
    rintro e w' ⟨R,rfl,h1,h2,h3⟩
    exact ⟨R,rfl,h1,h2,fun h => Bool.noConfusion h,fun _ => h3⟩
end Go.Proofs.YtmkejbfgdmbejaaGreatDoor
