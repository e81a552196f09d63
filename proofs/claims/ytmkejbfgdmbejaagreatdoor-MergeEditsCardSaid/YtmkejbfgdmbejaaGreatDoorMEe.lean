import Derived.Test.YtmkejbfgdmbejaaGreatDoorMVf
import Derived.Laws.StructEq
import Derived.BigQuiet
import Derived.Deep.RegionHeld3
namespace Go.Proofs.YtmkejbfgdmbejaaGreatDoor
open Tr (T S4 Ent)
namespace Tr
open Go.Proofs.YtmkejbfgdmbejaaGreatDoor.Z
/-! ### changes -/
def CS (L:List Chg):Prop:=L.Pairwise fun a b => key a.1 < key b.1
theorem CS.ext:∀ {L M:List Chg},CS L→CS M→(∀ e,e∈L↔e∈M)→L = M
  | [],[],_,_,_ => rfl
  | [],b :: M,_,_,h => by have:=(h b).2 List.mem_cons_self;cases this
  | a :: L,[],_,_,h => by have:=(h a).1 List.mem_cons_self;cases this
  | a :: L,b :: M,hL,hM,h => by
    obtain ⟨l1,l2⟩:=List.pairwise_cons.1 hL
    obtain ⟨m1,m2⟩:=List.pairwise_cons.1 hM
    have hab:a = b:=by
      rcases List.mem_cons.1 ((h a).1 List.mem_cons_self) with e | e
      · exact e
      · rcases List.mem_cons.1 ((h b).2 List.mem_cons_self) with f | f
        · exact f.symm
        · have:=l1 b f;have:=m1 a e;omega
    subst hab
    congr 1
    refine CS.ext l2 m2 fun e => ⟨fun he => ?_,fun he => ?_⟩
    · rcases List.mem_cons.1 ((h e).1 (List.mem_cons_of_mem _ he)) with f | f
      · rw [f] at he;have:=l1 a he;omega
      · exact f
    · rcases List.mem_cons.1 ((h e).2 (List.mem_cons_of_mem _ he)) with f | f
      · rw [f] at he;have:=m1 a he;omega
      · exact f
def chgAt (L M:List Ent) (p:List Nat):Option Chg:=if getE L p = getE M p then none else some (p,getE L p,getE M p)
def chL (L M:List Ent):List Chg:=(ptsU L M).filterMap fun e => chgAt L M e.1
def IsChg (L M:List Ent) (c:Chg):Prop:=(∀ v,c.2.1 = some v↔(c.1,v)∈L)∧(∀ v,c.2.2 = some v↔(c.1,v)∈M)∧c.2.1≠c.2.2
theorem chgAt_fst {L M:List Ent} {p:List Nat} {c:Chg} (h:chgAt L M p = some c):c = (p,getE L p,getE M p)∧getE L p≠getE M p:=by
  unfold chgAt at h
  split at h
  · cases h
  · rename_i hne
    exact ⟨(Option.some.inj h).symm,hne⟩
theorem cs_filterMap {L M:List Ent}:∀ {U:List Ent},ZS U→CS (U.filterMap fun e => chgAt L M e.1)
  | [],_ => List.Pairwise.nil
  | e :: U,h => by
    obtain ⟨h1,h2⟩:=List.pairwise_cons.1 h
    have ih:=cs_filterMap (L:=L) (M:=M) h2
    rw [List.filterMap_cons]
    split
    · exact ih
    · rename_i c hc
      refine List.pairwise_cons.2 ⟨fun d hd => ?_,ih⟩
      obtain ⟨f,hf,hfd⟩:=List.mem_filterMap.1 hd
      rw [(chgAt_fst hc).1,(chgAt_fst hfd).1]
      exact h1 f hf
section
variable {k:Nat} {L M:List Ent}
theorem chL_cs (zL:ZS L) (dL:Dim k L) (dM:Dim k M):CS (chL L M):=cs_filterMap (ptsU_zs zL dL dM).1
theorem mem_chL (zL:ZS L) (zM:ZS M) (dL:Dim k L) (dM:Dim k M) {c:Chg}:c∈chL L M↔IsChg L M c:=by
  obtain ⟨-,hd,-,hp⟩:=ptsU_zs zL dL dM
  unfold chL
  rw [List.mem_filterMap]
  constructor
  · rintro ⟨e,he,hc⟩
    obtain ⟨rfl,hne⟩:=chgAt_fst hc
    have de:=hd e he
    exact ⟨fun v => getE_iff zL dL de.1 de.2.1,fun v => getE_iff zM dM de.1 de.2.1,hne⟩
  · rintro ⟨h1,h2,h3⟩
    obtain ⟨p,a,b⟩:=c
    simp only at h1 h2 h3
    have hex:(∃ v,(p,v)∈L)∨∃ v,(p,v)∈M:=by
      cases a with
      | some v => exact .inl ⟨v,(h1 v).1 rfl⟩
      | none =>
        cases b with
        | some v => exact .inr ⟨v,(h2 v).1 rfl⟩
        | none => exact absurd rfl h3
    obtain ⟨u,hu⟩:=(hp p).2 hex
    have de:=hd _ hu
    have ea:getE L p = a:=by
      cases a with
      | some v => exact (getE_iff zL dL de.1 de.2.1).2 ((h1 v).1 rfl)
      | none =>
        cases hg:getE L p with
        | none => rfl
        | some v => have:=(h1 v).2 ((getE_iff zL dL de.1 de.2.1).1 hg);cases this
    have eb:getE M p = b:=by
      cases b with
      | some v => exact (getE_iff zM dM de.1 de.2.1).2 ((h2 v).1 rfl)
      | none =>
        cases hg:getE M p with
        | none => rfl
        | some v => have:=(h2 v).2 ((getE_iff zM dM de.1 de.2.1).1 hg);cases this
    refine ⟨(p,u),hu,?_⟩
    unfold chgAt
    rw [ea,eb,if_neg h3]
theorem IsChg.point {c:Chg} (h:IsChg L M c):(∃ v,(c.1,v)∈L)∨∃ v,(c.1,v)∈M:=by
  obtain ⟨h1,h2,h3⟩:=h
  cases ha:c.2.1 with
  | some v => exact .inl ⟨v,(h1 v).1 ha⟩
  | none =>
    cases hb:c.2.2 with
    | some v => exact .inr ⟨v,(h2 v).1 hb⟩
    | none => exact absurd (ha.trans hb.symm) h3
end
/-! ### two rows of kids side by side -/
end Tr
end Go.Proofs.YtmkejbfgdmbejaaGreatDoor
namespace Go.Proofs.YtmkejbfgdmbejaaGreatDoor
open Go.ChangeShapes Go.WideShapes Go.ChangeAt Go.RowKit
open Tr (T S4 Ent Sd Fl Chg)
theorem lst_next2 {α:Type} {n:Nat} {Q:(Nat→Option Value)→α→Prop} {e:TypeId} {w:World} (hQ:QOk n Q) (ob:Obj) (vs:Array Value) (x:α) (hs:vs.size = n) (hx:Q (fun j => vs[j]?) x) :
    Lst n Q ((w.alloc ob).alloc (.cells vs e)) (w.heap.size + 1 + 1) (some ⟨w.heap.size + 1,0,none⟩) [x]:=by
  have h:=lst_at (e:=e) (w:=w.alloc ob) hQ vs x hs hx
  rw [World.size_alloc] at h
  exact h
section
variable (B k:Nat) (C:List Chg) (go:Bool) (Inv:List Chg→World→(Nat→Prop)→Prop) (fv:Value) (w:World) (F:Nat→Prop)
end
def ChG (w:World) (G:Nat→Prop) (f:Nat→Option Value) (c:Chg):Prop :=
  ∃ A n,f 0 = some (.slice A c.1.length n)∧f 1 = some (.bool c.2.1.isSome)∧f 2 = some (.bool c.2.2.isSome)∧f 3 = some (.int .u64 ((c.2.1.getD 0:Nat):Int))∧f 4 = some (.int .u64 ((c.2.2.getD 0:Nat):Int)) ∧
    PtsG w G A c.1∧c.1.length≤maxLen∧c.2.1.getD 0 < 18446744073709551616∧c.2.2.getD 0 < 18446744073709551616
theorem chG_ok (w:World) (G:Nat→Prop):QOk 5 (ChG w G) where
  ext:=by
    rintro f g a h ⟨A,c,h0,h1,h2,h3,h4,r⟩
    exact ⟨A,c,(h 0 (by omega)).symm.trans h0,(h 1 (by omega)).symm.trans h1,(h 2 (by omega)).symm.trans h2,(h 3 (by omega)).symm.trans h3,(h 4 (by omega)).symm.trans h4,r⟩
  has:=by
    rintro f a ⟨A,c,h0,h1,h2,h3,h4,r⟩ j hj
    match j,hj with
    | 0,_ => exact ⟨_,h0,rfl⟩
    | 1,_ => exact ⟨_,h1,rfl⟩
    | 2,_ => exact ⟨_,h2,rfl⟩
    | 3,_ => exact ⟨_,h3,rfl⟩
    | 4,_ => exact ⟨_,h4,rfl⟩
theorem ChG.step {w w':World} {G G':Nat→Prop} (hs:w.heap.size≤w'.heap.size) (hk:∀ b,b < w.heap.size→G b→w'.heap[b]? = w.heap[b]?∧G' b):∀ f e,ChG w G f e→ChG w' G' f e:=by
  rintro f e ⟨A,c,h0,h1,h2,h3,h4,h5,r⟩
  exact ⟨A,c,h0,h1,h2,h3,h4,h5.step hs hk,r⟩
theorem infoChg:(Tryz.prog.info? 115).map (fun i => (i.zero,i.size,i.bytes)) = some (some (.agg #[.slice none 0 0,.bool false,.bool false,.int .u64 0,.int .u64 0]),5,48):=by kernel_rfl
structure ChRow (w:World) (base:Nat) (D:Nat→Prop) (V:Option Addr) (c:Nat) (L:List Chg):Prop where
  row:OwnL 115 5 (ChG w D) w base (.slice V L.length c) L
  dom:∀ b,D b→base≤b∧b < w.heap.size∧V.map (·.block)≠some b
theorem ChRow.lt {w:World} {base:Nat} {D:Nat→Prop} {V:Option Addr} {c:Nat} {L:List Chg} (h:ChRow w base D V c L):∀ b,V.map (·.block) = some b→base≤b∧b < w.heap.size:=fun b hb => h.row.lt b (by rw [own_block];exact hb)
theorem ChRow.frame {w w':World} {base:Nat} {D:Nat→Prop} {V:Option Addr} {c:Nat} {L:List Chg} (h:ChRow w base D V c L) (hs:w.heap.size≤w'.heap.size) (hb:∀ b,(V.map (·.block) = some b∨D b)→w'.heap[b]? = w.heap[b]?):ChRow w' base D V c L :=
  ⟨(h.row.block fun q hq => hb q (.inl (by rw [own_block] at hq;exact hq))).imp (ChG.step hs fun b _ hD => ⟨hb b (.inr hD),hD⟩),fun b hD => ⟨(h.dom b hD).1,Nat.lt_of_lt_of_le (h.dom b hD).2.1 hs,(h.dom b hD).2.2⟩⟩
theorem ChRow.below {w w':World} {base:Nat} {D:Nat→Prop} {V:Option Addr} {c:Nat} {L:List Chg} (h:ChRow w base D V c L) (hb:Below w.heap.size w w'):ChRow w' base D V c L :=
  h.frame hb.size fun b hb' => hb.block b (by
    rcases hb' with e | e
    · exact (h.lt b e).2
    · exact (h.dom b e).2.1)
theorem ChRow.app {w w2 w5:World} {base m:Nat} {D:Nat→Prop} {V V':Option Addr} {c c':Nat} {L:List Chg} {x:Chg} (h:ChRow w base D V c L) (_hB:base≤w.heap.size) (hb:Below w.heap.size w w2) (hm:(L ++ [x]).length = m)
    (hown:OwnL 115 5 (ChG w D) w5 base (.slice V' m c') (L ++ [x])) (hgr:w2.grownBy w5 (Value.slice V L.length c).ownBlock) (hat:(Value.slice V' m c').ownBlock = (Value.slice V L.length c).ownBlock∨(Value.slice V' m c').ownBlock = some w2.heap.size) :
    ChRow w5 base D V' c' (L ++ [x])∧Foot (fun b => V.map (·.block) = some b) w w5∧(V'.map (·.block) = V.map (·.block)∨∃ q,V'.map (·.block) = some q∧w.heap.size≤q):=by
  subst hm
  rw [own_block,own_block] at hat
  rw [own_block] at hgr
  have s2:=hb.size
  have hk:∀ b,b < w2.heap.size→V.map (·.block)≠some b→w5.heap[b]? = w2.heap[b]?:=fun b hb' hn => hgr.block b hb' (fun e => hn e.symm)
  refine ⟨⟨hown.imp (ChG.step (Nat.le_trans s2 hgr.size) fun b hlt hD => ⟨(hk b (Nat.lt_of_lt_of_le hlt s2) (h.dom b hD).2.2).trans (hb.block b hlt),hD⟩),fun b hD => ?_⟩,⟨hgr.os.trans hb.os,hgr.tape.trans hb.tape,hgr.output.trans hb.output,Nat.le_trans s2 hgr.size,fun b hlt hn => (hk b (by omega) hn).trans (hb.block b hlt)⟩,?_⟩
  · have:=h.dom b hD
    refine ⟨this.1,Nat.lt_of_lt_of_le this.2.1 (Nat.le_trans s2 hgr.size),?_⟩
    rcases hat with e | e
    · rw [e];exact this.2.2
    · rw [e];intro e';simp only [Option.some.injEq] at e';omega
  · rcases hat with e | e
    · exact .inl e
    · exact .inr ⟨_,e,s2⟩
structure ApI (w5:World) (base:Nat) (D:Nat→Prop) (V0:Option Addr) (n:Nat) (R:Option Addr) (c:Nat) (L:List Chg) (W:World):Prop where
  row:ChRow W base D R c L
  foot:Foot (fun b => V0.map (·.block) = some b) w5 W
  at_:R.map (·.block) = V0.map (·.block)∨∃ q,R.map (·.block) = some q∧w5.heap.size≤q
  len:L.length = n
theorem ApI.step {w5 w2 w6 W:World} {base:Nat} {D:Nat→Prop} {V0 R R':Option Addr} {n c c':Nat} {L:List Chg} {x:Chg} (h:ApI w5 base D V0 n R c L W) (hB:base≤w5.heap.size) (hb:Below W.heap.size W w2)
    (hown:OwnL 115 5 (ChG W D) w6 base (.slice R' (n + 1) c') (L ++ [x])) (hgr:w2.grownBy w6 (Value.slice R n c).ownBlock) (hat:(Value.slice R' (n + 1) c').ownBlock = (Value.slice R n c).ownBlock∨(Value.slice R' (n + 1) c').ownBlock = some w2.heap.size) :
    ApI w5 base D V0 (n + 1) R' c' (L ++ [x]) w6:=by
  have hl:=h.len
  subst hl
  obtain ⟨h1,h2,h3⟩:=h.row.app (Nat.le_trans hB h.foot.size) hb (by simp) hown hgr hat
  have hs:=h.foot.size
  refine ⟨h1,h.foot.trans h2 fun b hb' => ?_,?_,by simp⟩
  · rcases h.at_ with e | ⟨q,e,hq⟩
    · rw [e] at hb';exact .inl hb'
    · rw [e] at hb'
      simp only [Option.some.injEq] at hb'
      subst hb'
      exact .inr hq
  · rcases h3 with e | ⟨q,e,hq⟩
    · rw [e];exact h.at_
    · exact .inr ⟨q,e,Nat.le_trans hs hq⟩
theorem ApI.own {w5 W w2:World} {base:Nat} {D:Nat→Prop} {V0 R:Option Addr} {n c:Nat} {L:List Chg} (h:ApI w5 base D V0 n R c L W) (hb:Below W.heap.size W w2):OwnL 115 5 (ChG W D) w2 base (.slice R n c) L:=by
  have hl:=h.len
  subst hl
  exact h.row.row.below hb (Nat.le_refl _)
theorem map_take {α β:Type} (f:α→β) {X:List α} {j:Nat} {e:α} (h:X[j]? = some e) (L:List β):L ++ (X.take (j + 1)).map f = L ++ (X.take j).map f ++ [f e]:=by
  rw [List.take_add_one,h]
  simp
def Chs (w:World) (A:Option Addr) (L:List Chg):Prop :=
  L≠[]→∃ b off,A = some ⟨b,off,none⟩∧b < w.heap.size∧∀ (i:Nat) (c:Chg),L[i]? = some c→∃ P n,w.cell? ⟨b,off + i * 5,none⟩ = some (.slice P c.1.length n)∧w.cell? ⟨b,off + i * 5 + 1,none⟩ = some (.bool c.2.1.isSome)∧w.cell? ⟨b,off + i * 5 + 2,none⟩ = some (.bool c.2.2.isSome) ∧
    w.cell? ⟨b,off + i * 5 + 3,none⟩ = some (.int .u64 ((c.2.1.getD 0:Nat):Int))∧w.cell? ⟨b,off + i * 5 + 4,none⟩ = some (.int .u64 ((c.2.2.getD 0:Nat):Int))∧Pts w w.heap.size P c.1∧c.1.length≤maxLen∧c.2.1.getD 0 < 18446744073709551616∧c.2.2.getD 0 < 18446744073709551616
theorem Chs.below {w w':World} {A:Option Addr} {L:List Chg} (h:Chs w A L) (hb:Below w.heap.size w w'):Chs w' A L:=by
  intro hn
  obtain ⟨b,off,hA,hbl,hc⟩:=h hn
  refine ⟨b,off,hA,Nat.lt_of_lt_of_le hbl hb.size,fun i c hi => ?_⟩
  obtain ⟨P,n,h0,h1,h2,h3,h4,h5,h6⟩:=hc i c hi
  exact ⟨P,n,(hb.cell (p:=⟨b,_,none⟩) hbl).trans h0,(hb.cell (p:=⟨b,_,none⟩) hbl).trans h1,(hb.cell (p:=⟨b,_,none⟩) hbl).trans h2,(hb.cell (p:=⟨b,_,none⟩) hbl).trans h3,(hb.cell (p:=⟨b,_,none⟩) hbl).trans h4,
    (h5.below' hb (Nat.le_refl _)).keep hb.size (fun _ _ => rfl),h6⟩
theorem Chs.nil (w:World) (A:Option Addr):Chs w A []:=fun h => absurd rfl h
theorem Chs.at {w:World} {A:Option Addr} {L:List Chg} (h:Chs w A L) {i:Nat} {c:Chg} (hi:L[i]? = some c):∃ b off P n,A = some ⟨b,off,none⟩∧b < w.heap.size∧w.cell? ⟨b,off + i * 5,none⟩ = some (.slice P c.1.length n)∧w.cell? ⟨b,off + i * 5 + 1,none⟩ = some (.bool c.2.1.isSome)∧w.cell? ⟨b,off + i * 5 + 2,none⟩ = some (.bool c.2.2.isSome) ∧
    w.cell? ⟨b,off + i * 5 + 3,none⟩ = some (.int .u64 ((c.2.1.getD 0:Nat):Int))∧w.cell? ⟨b,off + i * 5 + 4,none⟩ = some (.int .u64 ((c.2.2.getD 0:Nat):Int))∧Pts w w.heap.size P c.1∧c.1.length≤maxLen∧c.2.1.getD 0 < 18446744073709551616∧c.2.2.getD 0 < 18446744073709551616:=by
  obtain ⟨b,off,hA,hbl,hc⟩:=h (by rintro rfl;simp at hi)
  obtain ⟨P,n,hh⟩:=hc i c hi
  exact ⟨b,off,P,n,hA,hbl,hh⟩
theorem chG_own {w:World} {G:Nat→Prop} {base:Nat} {A:Option Addr} {c m:Nat} {L:List Chg} (h:OwnL 115 5 (ChG w G) w base (.slice A m c) L):Chs w A L:=by
  obtain ⟨A',c',hv,-,hl⟩:=OwnL.rd (chG_ok _ _) h
  simp only [Value.slice.injEq] at hv
  obtain ⟨rfl,-,-⟩:=hv
  intro hn
  obtain ⟨b,off,hA,hbl,hc⟩:=hl hn
  refine ⟨b,off,hA,hbl,fun i c hi => ?_⟩
  obtain ⟨P,n,h0,h1,h2,h3,h4,h5,h6⟩:=hc i c hi
  exact ⟨P,n,h0,h1,h2,h3,h4,h5.pts,h6⟩
set_option maxRecDepth 100000 in
set_option maxHeartbeats 2000000 in
theorem r12points_c {w:World} {L M:List Ent} {A A':Option Addr} {B c c' n n' k:Nat} (zL:Tr.ZS L) (dL:Tr.Dim k L) (dM:Tr.Dim k M) (hA:Ents w B A L) (hA':Ents w B A' M) (hB:B≤w.heap.size) (hn:L.length = n) (hn':M.length = n') (hc:n≤c) (h1:1≤k) (h16:k≤16) (hl:n + n'≤100000) :
    Calls Tryz.prog 66 #[.slice A n c,.slice A' n' c'] w fun e w' => ∃ D d N,e = .returned (.slice D N d)∧(Tr.ptsU L M).length = N∧EntL w' B w'.heap.size D (Tr.ptsU L M)∧N≤d∧Below w.heap.size w w':=by
  have hA0:=EntL.below (R:=B) hA (Below.refl B w) (Nat.le_refl _) (Nat.le_refl _) hB
  have HX:=Lib.hid (And.intro zL (And.intro dL (And.intro dM (And.intro hA0 (And.intro hA' (And.intro hn (And.intro hn' (And.intro hc (And.intro h1 (And.intro h16 (And.intro hl hB)))))))))))
  have hn9:(n':Int)≤100000:=by omega
  clear zL dL dM hA hA0 hA' hn hn' hc h1 h16 hl hB
  go_enter Tryz.func66,Tryz.ntmps66
  go_wp2_with fail
  go_loopw [0,5] (fun u v wr => ∃ (j m:Nat) (D:Option Addr) (d:Nat),u = .slice D m d∧v = .int .i64 (j:Int)∧j≤n'∧(Tr.ptsU L (M.take j)).length = m∧EntL wr B wr.heap.size D (Tr.ptsU L (M.take j))∧m≤d∧Below w.heap.size w wr) (fun _ v _ => n' - (intOf v).toNat)
  case atStart => exact ⟨0,n,A,c,rfl,rfl,Nat.zero_le _,HX.out.2.2.2.2.2.1,HX.out.2.2.2.1,HX.out.2.2.2.2.2.2.2.1,Below.refl _ _⟩
  case round =>
    obtain ⟨j,m,D,d,rfl,rfl,hj,hm,hE,hmd,hb⟩:=hrel
    by_cases hlt:j < n'
    · obtain ⟨e,he⟩:=get_lt (us:=M) (k:=j) (by rw [HX.out.2.2.2.2.2.2.1];exact hlt)
      obtain ⟨zL,dL,dM,hA,hA',hn,hn',hc,h1,h16,hl,hB⟩:=HX.out
      have hde:=dM e (List.mem_of_getElem? he)
      obtain ⟨b,off,P,pc,hAA,hbl,v0,-,pp,-,-⟩:=(EntL.below (R:=B) hA' hb hB hB (Nat.le_refl _)).at he
      subst hAA
      obtain ⟨z1,d1,l1,-⟩:=Tr.ptsU_zs (M:=M.take j) zL dL (fun x hx => dM x (List.mem_of_mem_take hx))
      have hlt2:(M.take j).length≤n':=by rw [List.length_take];omega
      obtain ⟨np,hnp⟩:∃ np,e.1.length = np:=⟨_,rfl⟩
      have hP:=rput6_c (c:=d) (c':=pc) z1 d1 hE pp hde.1 h1 h16 (by omega) (Nat.le_refl _) (Nat.le_trans hB hb.size) (by rw [hm];exact hmd) 0 (by omega)
      rw [← Tr.ptsU_take he,hm,hnp] at hP
      obtain ⟨m2,hm2⟩:∃ m2,(Tr.ptsU L (M.take (j + 1))).length = m2:=⟨_,rfl⟩
      rw [hm2] at hP
      rw [hnp] at v0
      have HP:=Lib.hid hP
      have HE:=Lib.hid (And.intro hb (And.intro hm2 hlt))
      have f1:decide ((j:Int) < (n':Int)) = true:=decide_eq_true (by omega)
      have f1':decide (j < n') = true:=decide_eq_true hlt
      have n1:(0:Int)≤(j:Int):=by omega
      have n2:(j:Int) < (n':Int):=by omega
      have n3:(j:Int)≤100000:=by omega
      clear hP hb hm2 hlt hnp z1 d1 l1 hlt2 pp hde hE hm hmd he zL dL dM hA hA' hn hn' hc h1 h16 hl hj hbl hB
      go_wp2_with fail
      refine HP.out.mono ?_
      rintro e' w2 ⟨D2,d2,rfl,hE2,hd2,hb2⟩
      have H2:=Lib.hid (And.intro hE2 (And.intro hd2 (Below.andThen HE.out.1 hb2)))
      clear hE2 hd2 hb2 HP
      go_wp2_with fail
      go_roundw
      case rel => exact ⟨j + 1,m2,D2,d2,rfl,by first | rfl | go_num,by have:=HE.out.2.2;omega,HE.out.2.1,H2.out.1,H2.out.2.1,H2.out.2.2⟩
      case measure =>
        have:=HE.out.2.2
        show n' - ((j:Int) + 1).toNat < n' - (j:Int).toNat
        omega
    · have hjn:n' = j:=by omega
      subst hjn
      have f1:decide ((n':Int) < (n':Int)) = false:=decide_eq_false (by omega)
      have f1':decide (n' < n') = false:=decide_eq_false (by omega)
      rw [show M.take n' = M by rw [← HX.out.2.2.2.2.2.2.1,List.take_length]] at hm hE
      have HR:=Lib.hid (And.intro hm (And.intro hE (And.intro hmd hb)))
      clear hm hE hmd hb hlt hj
      go_wp2_with fail
      go_ret
      exact ⟨D,d,m,rfl,HR.out.1,HR.out.2.1,HR.out.2.2.1,HR.out.2.2.2⟩
set_option maxRecDepth 100000 in
set_option maxHeartbeats 2000000 in
theorem r12change_c {w:World} {L M:List Ent} {A A' P:Option Addr} {c c' n n' k np cp:Nat} {p:List Nat} (zL:Tr.ZS L) (dL:Tr.Dim k L) (zM:Tr.ZS M) (dM:Tr.Dim k M) (hA:Ents w w.heap.size A L) (hA':Ents w w.heap.size A' M) (hn:L.length = n) (hn':M.length = n') (h1:1≤k) (h16:k≤16) (hl:n + n'≤100000)
    (hp:Pts w w.heap.size P p) (hpl:p.length = k) (hnp:p.length = np) {g g':Option Nat} (hg:Tr.getE L p = g) (hg':Tr.getE M p = g') {r:Bool} (hr:r = decide (g≠g')) :
    Calls Tryz.prog 67 #[.slice A n c,.slice A' n' c',.slice P np cp] w fun e w' => e = .returned (.tuple #[.agg #[.slice P np cp,.bool g.isSome,.bool g'.isSome,.int .u64 ((g.getD 0:Nat):Int),.int .u64 ((g'.getD 0:Nat):Int)],.bool r])∧Below w.heap.size w w':=by
  have hal:=below_alloc w (.cells #[.slice none 0 0,.bool false,.bool false,.int .u64 0,.int .u64 0] 115)
  have HG1:=rget6_c (c:=c) (c':=cp) zL dL (Ents.below hA hal (Nat.le_refl _) (Nat.le_refl _)) (hp.below' hal (Nat.le_refl _)) hpl h1 h16 (by omega) g hg
  have HG2:=rget6_c (c:=c') (c':=cp) zM dM (Ents.below hA' hal (Nat.le_refl _) (Nat.le_refl _)) (hp.below' hal (Nat.le_refl _)) hpl h1 h16 (by omega) g' hg'
  rw [hn,hnp] at HG1
  rw [hn',hnp] at HG2
  have HG1:=Lib.hid HG1
  have HG2:=Lib.hid HG2
  have HB:=Lib.hid hal
  clear zL dL zM dM hA hA' hn hn' h1 h16 hl hp hpl hnp hg hg' hal
  go_enter Tryz.func67,Tryz.ntmps67
  cases g with
  | none =>
    cases g' with
    | none =>
      have hr2:r = false:=by rw [hr];simp
      clear hr
      subst hr2
      simp only [Option.isSome_none,Option.getD_none] at HG1 HG2 ⊢
      go_wp2_with fail
      refine HG1.out.mono ?_
      rintro e w' ⟨rfl,rfl⟩
      go_wp2_with fail
      refine HG2.out.mono ?_
      rintro e w' ⟨rfl,rfl⟩
      go_wp2_with fail
      refine bodyPost_ret (v:=.tuple #[.agg #[.slice P np cp,.bool false,.bool false,.int .u64 0,.int .u64 0],.bool false]) (by simp [results,Tryz.results67,go_sem]) rfl ?_
      exact ⟨rfl,below_alloc w _⟩
    | some y =>
      have hr2:r = true:=by rw [hr];simp
      clear hr
      subst hr2
      simp only [Option.isSome_none,Option.isSome_some,Option.getD_none,Option.getD_some] at HG1 HG2 ⊢
      go_wp2_with fail
      refine HG1.out.mono ?_
      rintro e w' ⟨rfl,rfl⟩
      go_wp2_with fail
      refine HG2.out.mono ?_
      rintro e w' ⟨rfl,rfl⟩
      go_wp2_with fail
      refine bodyPost_ret (v:=.tuple #[.agg #[.slice P np cp,.bool false,.bool true,.int .u64 0,.int .u64 (y:Int)],.bool true]) (by simp [results,Tryz.results67,go_sem]) rfl ?_
      exact ⟨rfl,below_alloc w _⟩
  | some x =>
    cases g' with
    | none =>
      have hr2:r = true:=by rw [hr];simp
      clear hr
      subst hr2
      simp only [Option.isSome_none,Option.isSome_some,Option.getD_none,Option.getD_some] at HG1 HG2 ⊢
      go_wp2_with fail
      refine HG1.out.mono ?_
      rintro e w' ⟨rfl,rfl⟩
      go_wp2_with fail
      refine HG2.out.mono ?_
      rintro e w' ⟨rfl,rfl⟩
      go_wp2_with fail
      refine bodyPost_ret (v:=.tuple #[.agg #[.slice P np cp,.bool true,.bool false,.int .u64 (x:Int),.int .u64 0],.bool true]) (by simp [results,Tryz.results67,go_sem]) rfl ?_
      exact ⟨rfl,below_alloc w _⟩
    | some y =>
      by_cases hxy:x = y
      · subst hxy
        have hr2:r = false:=by rw [hr];simp
        clear hr
        subst hr2
        simp only [Option.isSome_some,Option.getD_some] at HG1 HG2 ⊢
        go_wp2_with fail
        refine HG1.out.mono ?_
        rintro e w' ⟨rfl,rfl⟩
        go_wp2_with fail
        refine HG2.out.mono ?_
        rintro e w' ⟨rfl,rfl⟩
        go_wp2_with fail
        refine bodyPost_ret (v:=.tuple #[.agg #[.slice P np cp,.bool true,.bool true,.int .u64 (x:Int),.int .u64 (x:Int)],.bool false]) (by simp [results,Tryz.results67,go_sem]) rfl ?_
        exact ⟨rfl,below_alloc w _⟩
      · have hr2:r = true:=by rw [hr];simpa using hxy
        clear hr
        subst hr2
        have n1:((x:Int) != (y:Int)) = true:=by rw [bne_iff_ne];omega
        have n1':((x:Int) == (y:Int)) = false:=by rw [beq_eq_false_iff_ne];omega
        simp only [Option.isSome_some,Option.getD_some] at HG1 HG2 ⊢
        clear hxy
        go_wp2_with fail
        refine HG1.out.mono ?_
        rintro e w' ⟨rfl,rfl⟩
        go_wp2_with fail
        refine HG2.out.mono ?_
        rintro e w' ⟨rfl,rfl⟩
        go_wp2_with fail
        refine bodyPost_ret (v:=.tuple #[.agg #[.slice P np cp,.bool true,.bool true,.int .u64 (x:Int),.int .u64 (y:Int)],.bool true]) (by simp [results,Tryz.results67,go_sem]) rfl ?_
        exact ⟨rfl,below_alloc w _⟩
theorem ApI.later {w5 W W':World} {base:Nat} {D:Nat→Prop} {V0 R:Option Addr} {n c:Nat} {L:List Chg} (h:ApI w5 base D V0 n R c L W) (hb:Below W.heap.size W W'):ApI w5 base D V0 n R c L W' :=
  ⟨h.row.below hb,h.foot.trans (Foot.of_below (F:=fun b => V0.map (·.block) = some b) hb) (fun _ hb => .inl hb),h.at_,h.len⟩
set_option maxRecDepth 100000 in
set_option maxHeartbeats 4000000 in
theorem r12changes_c {w:World} {L M:List Ent} {A A':Option Addr} {c c' n n' k:Nat} (zL:Tr.ZS L) (dL:Tr.Dim k L) (zM:Tr.ZS M) (dM:Tr.Dim k M) (hA:Ents w w.heap.size A L) (hA':Ents w w.heap.size A' M) (hn:L.length = n) (hn':M.length = n') (hc:n≤c) (h1:1≤k) (h16:k≤16) (hl:n + n'≤100000) {C:List Chg} (hC:Tr.chL L M = C) {N:Nat} (hN:C.length = N) :
    Calls Tryz.prog 28 #[.slice A n c,.slice A' n' c'] w fun e w' => ∃ D d,e = .returned (.slice D N d)∧Chs w' D C∧Below w.heap.size w w':=by
  have hal:=below_alloc w (.cells #[] 115)
  have hmt:=heap_at w (.cells #[] 115) _ rfl
  have HP:=Lib.hid (r12points_c (w:=w.alloc (.cells #[] 115)) (B:=w.heap.size) (c:=c) (c':=c') zL dL dM (Ents.below hA hal (Nat.le_refl _) (Nat.le_refl _)) (Ents.below hA' hal (Nat.le_refl _) (Nat.le_refl _)) hal.size hn hn' hc h1 h16 hl)
  have ho0:OwnL 115 5 (ChG (w.alloc (.cells #[] 115)) fun b => b < w.heap.size) (w.alloc (.cells #[] 115)) w.heap.size (.slice (some ⟨w.heap.size,0,none⟩) 0 0) []:=ownL_nil _ w
  obtain ⟨zU,dU,lU,-⟩:=Tr.ptsU_zs zL dL dM
  have HX:=Lib.hid (And.intro zL (And.intro dL (And.intro zM (And.intro dM (And.intro hA (And.intro hA' (And.intro hn (And.intro hn' (And.intro h1 (And.intro h16 hl))))))))))
  have HC:=Lib.hid (And.intro hC (And.intro hN (And.intro dU lU)))
  have HB0:=Lib.hid (And.intro hal (And.intro hmt ho0))
  clear zL dL zM dM hA hA' hn hn' hc h1 h16 hl hal hmt ho0 zU dU lU hC hN
  go_enter Tryz.func28,Tryz.ntmps28
  go_wp2_with fail
  refine HP.out.mono ?_
  rintro e w2 ⟨D2,d2,N2,rfl,hN2,hE2,hd2,hb2⟩
  have hB2:=Below.andThen HB0.out.1 hb2
  have hst:ApI w2 0 (fun b => b < w.heap.size) (some ⟨w.heap.size,0,none⟩) 0 (some ⟨w.heap.size,0,none⟩) 0 [] w2:=by
    refine ⟨⟨((HB0.out.2.2.mono (Nat.zero_le _)).below hb2 (Nat.le_refl _)).imp (ChG.step hb2.size fun b hlt hD => ⟨hb2.block b hlt,hD⟩),fun b hD => ⟨Nat.zero_le _,Nat.lt_of_lt_of_le hD hB2.size,fun e => ?_⟩⟩,Foot.of_below (Below.refl _ _),.inl rfl,rfl⟩
    simp only [Option.map_some,Option.some.injEq] at e
    omega
  have hmt2:=(hb2.block w.heap.size (by simp)).trans HB0.out.2.1
  have H2:=Lib.hid (And.intro hN2 (And.intro hE2 (And.intro hB2 hmt2)))
  have hn2:(N2:Int)≤100000:=by have:=HC.out.2.2.2;have:=HX.out.2.2.2.2.2.2;omega
  have HS:=Lib.hid hst
  clear hN2 hE2 hd2 hb2 hB2 hmt2 hst HP
  go_wp2_with fail
  go_loopw [5,7] (fun u v wr => ∃ (j m:Nat) (D:Option Addr) (d:Nat),u = .slice D m d∧v = .int .i64 (j:Int)∧j≤N2∧ApI w2 0 (fun b => b < w.heap.size) (some ⟨w.heap.size,0,none⟩) m D d (((Tr.ptsU L M).take j).filterMap fun e => Tr.chgAt L M e.1) wr) (fun _ v _ => N2 - (intOf v).toNat)
  case atStart => exact ⟨0,0,_,0,rfl,rfl,Nat.zero_le _,HS.out⟩
  case round =>
    clear HS
    obtain ⟨j,m,D,d,rfl,rfl,hj,hI⟩:=hrel
    by_cases hlt:j < N2
    · obtain ⟨e,he⟩:=get_lt (us:=Tr.ptsU L M) (k:=j) (by rw [H2.out.1];exact hlt)
      have hde:=HC.out.2.2.1 e (List.mem_of_getElem? he)
      obtain ⟨b,off,P,pc,hAA,hbl,v0,-,pp,-,-⟩:=H2.out.2.1.at he
      have hbne:b≠w.heap.size:=fun e => by
        subst e
        rw [cell_of_row w2 _ _ _ _ (0,0) H2.out.2.2.2] at v0
        simp at v0
      subst hAA
      have hbw:Below w.heap.size w2 wr:=hI.foot.below H2.out.2.2.1.size (fun b hb => by simp only [Option.map_some,Option.some.injEq] at hb;omega)
      have hBw:=H2.out.2.2.1.trans hbw
      obtain ⟨np,hnp⟩:∃ np,e.1.length = np:=⟨_,rfl⟩
      rw [hnp] at v0
      have z0:wr.cell? ⟨b,off + j * 2,none⟩ = some (.slice P np pc):=(World.cell?_of_block (a:=⟨b,_,none⟩) (hI.foot.block b hbl (fun e => hbne (by simp only [Option.map_some,Option.some.injEq] at e;exact e.symm)))).trans v0
      have ppw:Pts wr w.heap.size P e.1:=pp.below' hbw (Nat.le_refl _)
      obtain ⟨g,hg⟩:∃ g,Tr.getE L e.1 = g:=⟨_,rfl⟩
      obtain ⟨g',hg'⟩:∃ g',Tr.getE M e.1 = g':=⟨_,rfl⟩
      obtain ⟨zL,dL,zM,dM,hA,hA',hn,hn',h1,h16,hl⟩:=HX.out
      obtain ⟨r,hr⟩:∃ r,r = decide (g≠g'):=⟨_,rfl⟩
      have HCh:=Lib.hid (r12change_c (c:=c) (c':=c') (cp:=pc) zL dL zM dM (Ents.below hA hBw (Nat.le_refl _) hBw.size) (Ents.below hA' hBw (Nat.le_refl _) hBw.size) hn hn' h1 h16 hl (ppw.keep hBw.size (fun _ _ => rfl)) hde.1 hnp hg hg' hr)
      have hlt1:=getE_lt zL dL hde.1 hde.2.1 hg
      have hlt2:=getE_lt zM dM hde.1 hde.2.1 hg'
      have hfe:Tr.chgAt L M e.1 = if g = g' then none else some (e.1,g,g'):=by unfold Tr.chgAt;rw [hg,hg']
      have hpg:PtsG wr (fun b => b < w.heap.size) P e.1:=ptsG_of ppw hBw.size
      have HE:=Lib.hid (And.intro he (And.intro hfe (And.intro hr (And.intro hlt1 (And.intro hlt2 (And.intro hpg (And.intro hnp (And.intro hlt (show np≤16 by rw [← hnp,hde.1];exact h16)))))))))
      have HI:=Lib.hid hI
      have f1:decide ((j:Int) < (N2:Int)) = true:=decide_eq_true (by omega)
      have f1':decide (j < N2) = true:=decide_eq_true hlt
      have n1:(0:Int)≤(j:Int):=by omega
      have n2:(j:Int) < (N2:Int):=by omega
      have n3:(j:Int)≤100000:=by omega
      have hln:=hI.len
      have hml:m≤j:=by
        rw [← hln]
        exact Nat.le_trans (List.length_filterMap_le _ _) (by rw [List.length_take];omega)
      have HM:=Lib.hid (And.intro hln hml)
      clear hI hde hbl v0 pp hbne hbw hBw ppw hg hg' zL dL zM dM hA hA' hn hn' h1 h16 hl hr hlt1 hlt2 hfe hpg hnp hlt he hj hln hml
      obtain ⟨s1,hs1⟩:∃ s,g.isSome = s:=⟨_,rfl⟩
      obtain ⟨s2,hs2⟩:∃ s,g'.isSome = s:=⟨_,rfl⟩
      obtain ⟨v1,hv1⟩:∃ v,g.getD 0 = v:=⟨_,rfl⟩
      obtain ⟨v2,hv2⟩:∃ v,g'.getD 0 = v:=⟨_,rfl⟩
      rw [hs1,hs2,hv1,hv2] at HCh
      have HV:=Lib.hid (And.intro hs1 (And.intro hs2 (And.intro hv1 hv2)))
      clear hs1 hs2 hv1 hv2
      go_wp2_with fail
      refine HCh.out.mono ?_
      rintro e' w3 ⟨rfl,hb3⟩
      have HB1:=Lib.hid (Below.andThen hb3 (below_alloc w3 (.cells #[.slice P np pc,.bool s1,.bool s2,.int .u64 (v1:Int),.int .u64 (v2:Int)] 115)))
      have HB2:=Lib.hid (Below.andThen HB1.out (below_alloc (w3.alloc (.cells #[.slice P np pc,.bool s1,.bool s2,.int .u64 (v1:Int),.int .u64 (v2:Int)] 115)) (.cells #[.slice P np pc,.bool s1,.bool s2,.int .u64 (v1:Int),.int .u64 (v2:Int)] 115)))
      clear hb3 HCh z0
      cases r with
      | false =>
        go_wp2_with fail
        go_roundw
        case rel =>
          refine ⟨j + 1,m,D,d,rfl,by first | rfl | go_num,by have:=HE.out.2.2.2.2.2.2.2.1;omega,?_⟩
          have hgg:g = g':=by have:=HE.out.2.2.1;simpa using this
          rw [filterMap_take _ HE.out.1,HE.out.2.1,if_pos hgg,Option.toList_none,List.append_nil]
          exact HI.out.later HB1.out
        case measure =>
          have:=HE.out.2.2.2.2.2.2.2.1
          show N2 - ((j:Int) + 1).toNat < N2 - (j:Int).toNat
          omega
      | true =>
        go_wp2_with (at_builtin;refine wpList_append_list (Q:=ChG wr fun b => b < w.heap.size) 57 115 (.agg #[.slice none 0 0,.bool false,.bool false,.int .u64 0,.int .u64 0]) 48 Tryz.underlying57 infoChg (by rfl) (by omega) (by omega) (chG_ok _ _) (by rfl) _ _ (by rfl) 0 (.slice D m d) (((Tr.ptsU L M).take j).filterMap fun e => Tr.chgAt L M e.1) [((e.1,g,g'):Chg)] (m + 1) (by rw [HM.out.1];rfl) (by rfl) (by exact HI.out.own HB2.out) _ _ 1 1 (by rfl) (by rfl) (by exact lst_next2 (chG_ok _ _) _ #[.slice P np pc,.bool s1,.bool s2,.int .u64 (v1:Int),.int .u64 (v2:Int)] ((e.1,g,g'):Chg) (by rfl) (by exact ⟨P,pc,by rw [← HE.out.2.2.2.2.2.2.1];rfl,by rw [← HV.out.1];rfl,by rw [← HV.out.2.1];rfl,by rw [← HV.out.2.2.1];rfl,by rw [← HV.out.2.2.2];rfl,HE.out.2.2.2.2.2.1,by have:=HE.out.2.2.2.2.2.2.2.2;rw [← HE.out.2.2.2.2.2.2.1] at this;unfold maxLen;show e.1.length≤_;omega,HE.out.2.2.2.1,HE.out.2.2.2.2.1⟩)) (by have:=HM.out.2;have:=HE.out.2.2.2.2.2.2.2.1;omega) (by omega) ?_;intro D5 d5 w6 hown5 hgrow5 hat5;have HN:=Lib.hid (HI.out.step (Nat.zero_le _) HB2.out hown5 hgrow5 hat5);clear hown5 hgrow5 hat5)
        go_roundw
        case rel =>
          refine ⟨j + 1,m + 1,D5,d5,rfl,by first | rfl | go_num,by have:=HE.out.2.2.2.2.2.2.2.1;omega,?_⟩
          have hgg:g≠g':=by have:=HE.out.2.2.1;simpa using this
          rw [filterMap_take _ HE.out.1,HE.out.2.1,if_neg hgg,Option.toList_some]
          exact HN.out
        case measure =>
          have:=HE.out.2.2.2.2.2.2.2.1
          show N2 - ((j:Int) + 1).toNat < N2 - (j:Int).toNat
          omega
    · have hjn:N2 = j:=by omega
      subst hjn
      have f1:decide ((N2:Int) < (N2:Int)) = false:=decide_eq_false (by omega)
      have f1':decide (N2 < N2) = false:=decide_eq_false (by omega)
      have hU:((Tr.ptsU L M).take N2).filterMap (fun e => Tr.chgAt L M e.1) = C:=by
        rw [show (Tr.ptsU L M).take N2 = Tr.ptsU L M by rw [← H2.out.1,List.take_length]]
        exact HC.out.1
      rw [hU] at hI
      have hmN:N = m:=by rw [← HC.out.2.1];exact hI.len
      subst hmN
      have hch:Chs wr D C:=by
        have h:=hI.row.row
        rw [HC.out.2.1] at h
        exact chG_own h
      have hbw:Below w.heap.size w2 wr:=hI.foot.below H2.out.2.2.1.size (fun b hb => by simp only [Option.map_some,Option.some.injEq] at hb;omega)
      have HR:=Lib.hid (And.intro hch (H2.out.2.2.1.trans hbw))
      clear hI hU hch hbw hlt hj
      go_wp2_with fail
      go_ret
      exact ⟨D,d,rfl,HR.out.1,HR.out.2⟩
theorem chL_few {k:Nat} {L M:List Ent} (zL:Tr.ZS L) (dL:Tr.Dim k L) (dM:Tr.Dim k M):(Tr.chL L M).length≤L.length + M.length:=by
  have h:=Tr.ptsU_zs (M:=M) zL dL dM
  exact Nat.le_trans (List.length_filterMap_le _ _) h.2.2.1
end Go.Proofs.YtmkejbfgdmbejaaGreatDoor
namespace Go.Proofs.YtmkejbfgdmbejaaGreatDoor
open Tr (T S4 Ent Chg)
namespace Tr
open Go.Proofs.YtmkejbfgdmbejaaGreatDoor.Z
/-! ### changes as they lie in memory -/
def rawC (c:Chg):Raw:=(c.1,(c.2.1.isSome,c.2.1.getD 0),(c.2.2.isSome,c.2.2.getD 0))
/-! ### lists that are right -/
structure CL (k:Nat) (C:List Chg):Prop where
  cs:CS C
  each:∀ c∈C,c.1.length = k∧Ok c.1∧c.2.1≠c.2.2∧(∀ v,c.2.1 = some v→v < 18446744073709551616)∧(∀ v,c.2.2 = some v→v < 18446744073709551616)
theorem cs_chain:∀ {C:List Chg},(∀ i c d,C[i]? = some c→C[i + 1]? = some d→key c.1 < key d.1)→CS C
  | [],_ => List.Pairwise.nil
  | [a],_ => List.pairwise_singleton _ _
  | a :: b :: C,h => by
    have ih:=cs_chain (C:=b :: C) fun i c d h1 h2 => h (i + 1) c d h1 h2
    refine List.pairwise_cons.2 ⟨fun c hc => ?_,ih⟩
    have hab:=h 0 a b rfl rfl
    rcases List.mem_cons.1 hc with rfl | hc
    · exact hab
    · have:=(List.pairwise_cons.1 ih).1 c hc
      omega
theorem CL.nil (k:Nat):CL k []:=⟨List.Pairwise.nil,fun c hc => by cases hc⟩
theorem CL.tail {k:Nat} {c:Chg} {C:List Chg} (h:CL k (c :: C)):CL k C:=⟨(List.pairwise_cons.1 h.cs).2,fun d hd => h.each d (List.mem_cons_of_mem _ hd)⟩
theorem CL.chL {k:Nat} {L M:List Ent} (zL:ZS L) (zM:ZS M) (dL:Dim k L) (dM:Dim k M):CL k (chL L M):=by
  refine ⟨chL_cs zL dL dM,fun c hc => ?_⟩
  have hi:=(mem_chL zL zM dL dM).1 hc
  have hp:c.1.length = k∧Ok c.1:=by
    rcases hi.point with ⟨v,hv⟩ | ⟨v,hv⟩
    · exact ⟨(dL _ hv).1,(dL _ hv).2.1⟩
    · exact ⟨(dM _ hv).1,(dM _ hv).2.1⟩
  exact ⟨hp.1,hp.2,hi.2.2,fun v hv => (dL _ ((hi.1 v).1 hv)).2.2,fun v hv => (dM _ ((hi.2.1 v).1 hv)).2.2⟩
/-! ### the change at a point -/
def atC:List Chg→Nat→Option Chg
  | [],_ => none
  | c :: C,n => if key c.1 = n then some c else atC C n
theorem atC_cons (c:Chg) (C:List Chg) (n:Nat):atC (c :: C) n = if key c.1 = n then some c else atC C n:=rfl
theorem atC_mem:∀ {C:List Chg} {n:Nat} {c:Chg},atC C n = some c→c∈C∧key c.1 = n
  | [],_,_,h => by cases h
  | a :: C,n,c,h => by
    unfold atC at h
    split at h
    · rename_i e
      cases h
      exact ⟨List.mem_cons_self,e⟩
    · have:=atC_mem h
      exact ⟨List.mem_cons_of_mem _ this.1,this.2⟩
theorem atC_none:∀ {C:List Chg} {n:Nat},atC C n = none↔∀ c∈C,key c.1≠n
  | [],n => by simp [atC]
  | a :: C,n => by
    unfold atC
    split
    · rename_i e
      simp only [List.mem_cons,forall_eq_or_imp,reduceCtorEq,false_iff,not_and]
      exact fun h => absurd e h
    · rename_i e
      rw [atC_none]
      simp only [List.mem_cons,forall_eq_or_imp]
      exact ⟨fun h => ⟨e,h⟩,fun h => h.2⟩
theorem atC_some {C:List Chg} (h:CS C) {c:Chg} (hc:c∈C):atC C (key c.1) = some c:=by
  induction C with
  | nil => cases hc
  | cons a C ih =>
    unfold atC
    rcases List.mem_cons.1 hc with rfl | hc
    · rw [if_pos rfl]
    · have:=(List.pairwise_cons.1 h).1 c hc
      rw [if_neg (by omega)]
      exact ih (List.pairwise_cons.1 h).2 hc
theorem atC_iff {C:List Chg} (h:CS C) {n:Nat} {c:Chg}:atC C n = some c↔c∈C∧key c.1 = n :=
  ⟨atC_mem,fun ⟨h1,h2⟩ => h2 ▸ atC_some h h1⟩
theorem CL.point {k:Nat} {C:List Chg} (h:CL k C) {p:List Nat} (hp:p.length = k) (ho:Ok p) {c:Chg} (hc:atC C (key p) = some c):c∈C∧c.1 = p:=by
  obtain ⟨h1,h2⟩:=atC_mem hc
  have he:=h.each c h1
  exact ⟨h1,(key_inj (by rw [he.1,hp]) he.2.1 ho).1 h2⟩
/-! ### done on entries -/
def doC (L:List Ent) (c:Chg):List Ent:=match c.2.2 with
  | some v => putE c.1 v L
  | none => delE c.1 L
def doL (L:List Ent) (C:List Chg):List Ent:=C.foldl doC L
theorem doL_cons (L:List Ent) (c:Chg) (C:List Chg):doL L (c :: C) = doL (doC L c) C:=rfl
theorem doL_take {L:List Ent} {C:List Chg} {j:Nat} {c:Chg} (h:C[j]? = some c):doL L (C.take (j + 1)) = doC (doL L (C.take j)) c:=by
  rw [List.take_add_one,h]
  simp [doL]
theorem getE_put {k:Nat} {L:List Ent} (zL:ZS L) (dL:Dim k L) {q:List Nat} {v:Nat} (hq:q.length = k) (hoq:Ok q) (hv:v < 18446744073709551616) {p:List Nat} (hp:p.length = k) (ho:Ok p):getE (putE q v L) p = if key q = key p then some v else getE L p:=by
  have z2:=zL.put q v
  have d2:=Dim.put zL dL hq hoq hv
  split
  · rename_i e
    have hqp:=(key_inj (by rw [hq,hp]) hoq ho).1 e
    subst hqp
    exact (getE_iff z2 d2 hp ho).2 ((mem_putE zL).2 (.inl rfl))
  · rename_i e
    cases hg:getE L p with
    | some u => exact (getE_iff z2 d2 hp ho).2 ((mem_putE zL).2 (.inr ⟨(getE_iff zL dL hp ho).1 hg,fun h => e h.symm⟩))
    | none =>
      refine (getE_none z2 d2 hp ho).2 fun x hx => ?_
      rcases (mem_putE zL).1 hx with rfl | ⟨hx,-⟩
      · exact fun h => e (congrArg key h)
      · exact (getE_none zL dL hp ho).1 hg x hx
theorem getE_del {k:Nat} {L:List Ent} (zL:ZS L) (dL:Dim k L) (q:List Nat) {p:List Nat} (hp:p.length = k) (ho:Ok p):getE (delE q L) p = if key q = key p then none else getE L p:=by
  have z2:=zL.del q
  have d2:=Dim.del zL dL q
  split
  · rename_i e
    refine (getE_none z2 d2 hp ho).2 fun x hx h => ?_
    exact ((mem_delE zL).1 hx).2 (by rw [h,e])
  · rename_i e
    cases hg:getE L p with
    | some u => exact (getE_iff z2 d2 hp ho).2 ((mem_delE zL).2 ⟨(getE_iff zL dL hp ho).1 hg,fun h => e h.symm⟩)
    | none => exact (getE_none z2 d2 hp ho).2 fun x hx => (getE_none zL dL hp ho).1 hg x ((mem_delE zL).1 hx).1
theorem getE_doC {k:Nat} {L:List Ent} (zL:ZS L) (dL:Dim k L) {c:Chg} (hc:c.1.length = k∧Ok c.1∧∀ v,c.2.2 = some v→v < 18446744073709551616) {p:List Nat} (hp:p.length = k) (ho:Ok p):getE (doC L c) p = if key c.1 = key p then c.2.2 else getE L p:=by
  unfold doC
  cases h:c.2.2 with
  | some v => exact getE_put zL dL hc.1 hc.2.1 (hc.2.2 v h) hp ho
  | none => exact getE_del zL dL c.1 hp ho
theorem doC_zd {k:Nat} {L:List Ent} (zL:ZS L) (dL:Dim k L) {c:Chg} (hc:c.1.length = k∧Ok c.1∧∀ v,c.2.2 = some v→v < 18446744073709551616):ZS (doC L c)∧Dim k (doC L c)∧(doC L c).length≤L.length + 1:=by
  unfold doC
  cases h:c.2.2 with
  | some v => exact ⟨zL.put _ _,Dim.put zL dL hc.1 hc.2.1 (hc.2.2 v h),length_putE zL _ _⟩
  | none => exact ⟨zL.del _,Dim.del zL dL _,Nat.le_succ_of_le (length_delE _ _)⟩
theorem doL_zd {k:Nat}:∀ {C:List Chg} {L:List Ent},ZS L→Dim k L→CL k C→ZS (doL L C)∧Dim k (doL L C)∧(doL L C).length≤L.length + C.length
  | [],L,zL,dL,_ => ⟨zL,dL,Nat.le_refl _⟩
  | c :: C,L,zL,dL,h => by
    have he:=h.each c List.mem_cons_self
    obtain ⟨z,d,l⟩:=doC_zd zL dL (c:=c) ⟨he.1,he.2.1,he.2.2.2.2⟩
    obtain ⟨z2,d2,l2⟩:=doL_zd z d h.tail
    rw [doL_cons]
    exact ⟨z2,d2,by rw [List.length_cons];omega⟩
theorem getE_doL {k:Nat}:∀ {C:List Chg} {L:List Ent},ZS L→Dim k L→CL k C→∀ {p:List Nat},p.length = k→Ok p→getE (doL L C) p = match atC C (key p) with | some c => c.2.2 | none => getE L p
  | [],L,zL,dL,_,p,hp,ho => rfl
  | c :: C,L,zL,dL,h,p,hp,ho => by
    have he:=h.each c List.mem_cons_self
    obtain ⟨z,d,l⟩:=doC_zd zL dL (c:=c) ⟨he.1,he.2.1,he.2.2.2.2⟩
    rw [doL_cons,getE_doL z d h.tail hp ho,getE_doC zL dL ⟨he.1,he.2.1,he.2.2.2.2⟩ hp ho,atC_cons]
    by_cases hk:key c.1 = key p
    · rw [if_pos hk,if_pos hk]
      have:atC C (key p) = none:=atC_none.2 fun x hx => by
        have:=(List.pairwise_cons.1 h.cs).1 x hx
        omega
      rw [this]
    · rw [if_neg hk,if_neg hk]
theorem atC_chL {k:Nat} {L M:List Ent} (zL:ZS L) (zM:ZS M) (dL:Dim k L) (dM:Dim k M) {p:List Nat} (hp:p.length = k) (ho:Ok p):atC (chL L M) (key p) = chgAt L M p:=by
  have hC:=CL.chL zL zM dL dM
  unfold chgAt
  split
  · rename_i e
    cases h:atC (chL L M) (key p) with
    | none => rfl
    | some c =>
      obtain ⟨h1,h2⟩:=hC.point hp ho h
      have hi:=(mem_chL zL zM dL dM).1 h1
      rw [← h2] at e
      have e1:getE L c.1 = c.2.1:=by
        cases hc:c.2.1 with
        | some v => exact (getE_iff zL dL (by rw [h2];exact hp) (by rw [h2];exact ho)).2 ((hi.1 v).1 hc)
        | none =>
          refine (getE_none zL dL (by rw [h2];exact hp) (by rw [h2];exact ho)).2 fun x hx hxe => ?_
          have:=(hi.1 x.2).2 (by rw [← hxe];exact hx)
          rw [hc] at this
          cases this
      have e2:getE M c.1 = c.2.2:=by
        cases hc:c.2.2 with
        | some v => exact (getE_iff zM dM (by rw [h2];exact hp) (by rw [h2];exact ho)).2 ((hi.2.1 v).1 hc)
        | none =>
          refine (getE_none zM dM (by rw [h2];exact hp) (by rw [h2];exact ho)).2 fun x hx hxe => ?_
          have:=(hi.2.1 x.2).2 (by rw [← hxe];exact hx)
          rw [hc] at this
          cases this
      rw [e1,e2] at e
      exact absurd e hi.2.2
  · rename_i e
    refine (atC_iff hC.cs).2 ⟨(mem_chL zL zM dL dM).2 ⟨fun v => getE_iff zL dL hp ho,fun v => getE_iff zM dM hp ho,e⟩,rfl⟩
theorem CL.take {k:Nat} {C:List Chg} (h:CL k C) (j:Nat):CL k (C.take j):=⟨h.cs.sublist (List.take_sublist _ _),fun d hd => h.each d (List.mem_of_mem_take hd)⟩
/-! ### two lists side by side -/
def mz:List Chg→List Chg→List Pc
  | [],ys => ys.map fun y => (none,some y)
  | x :: xs,[] => (x :: xs).map fun x => (some x,none)
  | x :: xs,y :: ys => if key x.1 < key y.1 then (some x,none) :: mz xs (y :: ys) else if key y.1 < key x.1 then (none,some y) :: mz (x :: xs) ys else (some x,some y) :: mz xs ys
termination_by xs ys => xs.length + ys.length
theorem mz_nil_l (ys:List Chg):mz [] ys = ys.map fun y => (none,some y):=by rw [mz]
theorem mz_nil_r (xs:List Chg):mz xs [] = xs.map fun x => (some x,none):=by
  cases xs with
  | nil => rw [mz];rfl
  | cons x xs => rw [mz]
theorem mz_l {x:Chg} {xs ys:List Chg} (h:∀ y∈ys.head?,key x.1 < key y.1):mz (x :: xs) ys = (some x,none) :: mz xs ys:=by
  cases ys with
  | nil => rw [mz_nil_r,mz_nil_r];rfl
  | cons y ys => rw [mz,if_pos (h y rfl)]
theorem mz_r {y:Chg} {xs ys:List Chg} (h:∀ x∈xs.head?,key y.1 < key x.1):mz xs (y :: ys) = (none,some y) :: mz xs ys:=by
  cases xs with
  | nil => rw [mz_nil_l,mz_nil_l];rfl
  | cons x xs =>
    have:=h x rfl
    rw [mz,if_neg (by omega),if_pos this]
theorem mz_b {x y:Chg} {xs ys:List Chg} (h:key x.1 = key y.1):mz (x :: xs) (y :: ys) = (some x,some y) :: mz xs ys:=by rw [mz,if_neg (by omega),if_neg (by omega)]
theorem mz_ind {P:List Chg→List Chg→Prop} (h0:P [] []) (h1:∀ x xs ys,(∀ y∈ys.head?,key x.1 < key y.1)→P xs ys→P (x :: xs) ys) (h2:∀ y xs ys,(∀ x∈xs.head?,key y.1 < key x.1)→P xs ys→P xs (y :: ys))
    (h3:∀ x y xs ys,key x.1 = key y.1→P xs ys→P (x :: xs) (y :: ys)):∀ (n:Nat) (xs ys:List Chg),xs.length + ys.length≤n→P xs ys
  | _,[],[],_ => h0
  | 0,x :: xs,ys,h => by simp at h
  | 0,[],y :: ys,h => by simp at h
  | n + 1,[],y :: ys,h => h2 y [] ys (by simp) (mz_ind h0 h1 h2 h3 n [] ys (by simp at h ⊢;omega))
  | n + 1,x :: xs,[],h => h1 x xs [] (by simp) (mz_ind h0 h1 h2 h3 n xs [] (by simp at h ⊢;omega))
  | n + 1,x :: xs,y :: ys,h => by
    simp only [List.length_cons] at h
    rcases Nat.lt_trichotomy (key x.1) (key y.1) with c | c | c
    · exact h1 x xs (y :: ys) (by simpa using c) (mz_ind h0 h1 h2 h3 n xs (y :: ys) (by simp only [List.length_cons];omega))
    · exact h3 x y xs ys c (mz_ind h0 h1 h2 h3 n xs ys (by omega))
    · exact h2 y (x :: xs) ys (by simpa using c) (mz_ind h0 h1 h2 h3 n (x :: xs) ys (by simp only [List.length_cons];omega))
def ptQ:Pc→Nat
  | (some x,_) => key x.1
  | (none,some y) => key y.1
  | (none,none) => 0
theorem cs_head_lt {x:Chg} {ys:List Chg} (h:CS ys) (hh:∀ y∈ys.head?,key x.1 < key y.1):∀ y∈ys,key x.1 < key y.1:=by
  cases ys with
  | nil => intro y hy;cases hy
  | cons a ys =>
    intro y hy
    have h1:=hh a rfl
    rcases List.mem_cons.1 hy with rfl | hy
    · exact h1
    · have:=(List.pairwise_cons.1 h).1 y hy
      omega
theorem mz_ok (xs ys:List Chg):CS xs→CS ys→(∀ q:Pc,q∈mz xs ys↔∃ n,q = (atC xs n,atC ys n)∧q≠(none,none))∧(mz xs ys).Pairwise (fun a b => ptQ a < ptQ b):=by
  refine mz_ind (P:=fun xs ys => CS xs→CS ys→(∀ q:Pc,q∈mz xs ys↔∃ n,q = (atC xs n,atC ys n)∧q≠(none,none))∧(mz xs ys).Pairwise (fun a b => ptQ a < ptQ b)) ?_ ?_ ?_ ?_ _ xs ys (Nat.le_refl _)
  · intro _ _
    refine ⟨fun q => ?_,by rw [mz_nil_l];exact List.Pairwise.nil⟩
    rw [mz_nil_l]
    constructor
    · intro h;cases h
    · rintro ⟨n,rfl,h⟩;exact absurd rfl h
  · intro x xs ys hlt ih hx hy
    obtain ⟨i1,i2⟩:=ih (List.pairwise_cons.1 hx).2 hy
    have ay:atC ys (key x.1) = none:=atC_none.2 fun y my => by have:=cs_head_lt hy hlt y my;omega
    have ax:atC xs (key x.1) = none:=atC_none.2 fun y my => by have:=(List.pairwise_cons.1 hx).1 y my;omega
    rw [mz_l hlt]
    refine ⟨fun q => ?_,List.pairwise_cons.2 ⟨fun q hq => ?_,i2⟩⟩
    · rw [List.mem_cons,i1]
      constructor
      · rintro (rfl | ⟨n,hq,hne⟩)
        · exact ⟨key x.1,by rw [ay,atC_cons,if_pos rfl],by simp⟩
        · refine ⟨n,?_,hne⟩
          have hn:key x.1≠n:=fun e => by subst e;rw [ax,ay] at hq;exact hne hq
          rw [atC_cons,if_neg hn]
          exact hq
      · rintro ⟨n,hq,hne⟩
        rw [atC_cons] at hq
        by_cases hn:key x.1 = n
        · rw [if_pos hn] at hq
          subst hn
          exact .inl (by rw [hq,ay])
        · rw [if_neg hn] at hq
          exact .inr ⟨n,hq,hne⟩
    · obtain ⟨n,rfl,hne⟩:=(i1 q).1 hq
      show key x.1 < _
      cases h1:atC xs n with
      | some c => exact (List.pairwise_cons.1 hx).1 c (atC_mem h1).1
      | none =>
        cases h2:atC ys n with
        | some c => exact cs_head_lt hy hlt c (atC_mem h2).1
        | none => rw [h1,h2] at hne;exact absurd rfl hne
  · intro y xs ys hlt ih hx hy
    obtain ⟨i1,i2⟩:=ih hx (List.pairwise_cons.1 hy).2
    have ax:atC xs (key y.1) = none:=atC_none.2 fun x mx => by have:=cs_head_lt hx hlt x mx;omega
    have ay:atC ys (key y.1) = none:=atC_none.2 fun x mx => by have:=(List.pairwise_cons.1 hy).1 x mx;omega
    rw [mz_r hlt]
    refine ⟨fun q => ?_,List.pairwise_cons.2 ⟨fun q hq => ?_,i2⟩⟩
    · rw [List.mem_cons,i1]
      have hcons:∀ n,atC (y :: ys) n = if key y.1 = n then some y else atC ys n:=fun n => rfl
      constructor
      · rintro (rfl | ⟨n,hq,hne⟩)
        · exact ⟨key y.1,by rw [ax,hcons,if_pos rfl],by simp⟩
        · refine ⟨n,?_,hne⟩
          have hn:key y.1≠n:=fun e => by subst e;rw [ax,ay] at hq;exact hne hq
          rw [hcons,if_neg hn]
          exact hq
      · rintro ⟨n,hq,hne⟩
        rw [hcons] at hq
        by_cases hn:key y.1 = n
        · rw [if_pos hn] at hq
          subst hn
          exact .inl (by rw [hq,ax])
        · rw [if_neg hn] at hq
          exact .inr ⟨n,hq,hne⟩
    · obtain ⟨n,rfl,hne⟩:=(i1 q).1 hq
      show key y.1 < _
      cases h1:atC xs n with
      | some c => exact cs_head_lt hx hlt c (atC_mem h1).1
      | none =>
        cases h2:atC ys n with
        | some c => exact (List.pairwise_cons.1 hy).1 c (atC_mem h2).1
        | none => rw [h1,h2] at hne;exact absurd rfl hne
  · intro x y xs ys heq ih hx hy
    obtain ⟨i1,i2⟩:=ih (List.pairwise_cons.1 hx).2 (List.pairwise_cons.1 hy).2
    have ax:atC xs (key x.1) = none:=atC_none.2 fun z mz => by have:=(List.pairwise_cons.1 hx).1 z mz;omega
    have ay:atC ys (key x.1) = none:=atC_none.2 fun z mz => by have:=(List.pairwise_cons.1 hy).1 z mz;omega
    have hcx:∀ n,atC (x :: xs) n = if key x.1 = n then some x else atC xs n:=fun n => rfl
    have hcy:∀ n,atC (y :: ys) n = if key x.1 = n then some y else atC ys n:=fun n => by rw [heq];rfl
    rw [mz_b heq]
    refine ⟨fun q => ?_,List.pairwise_cons.2 ⟨fun q hq => ?_,i2⟩⟩
    · rw [List.mem_cons,i1]
      constructor
      · rintro (rfl | ⟨n,hq,hne⟩)
        · exact ⟨key x.1,by rw [hcx,hcy,if_pos rfl,if_pos rfl],by simp⟩
        · refine ⟨n,?_,hne⟩
          have hn:key x.1≠n:=fun e => by subst e;rw [ax,ay] at hq;exact hne hq
          rw [hcx,hcy,if_neg hn,if_neg hn]
          exact hq
      · rintro ⟨n,hq,hne⟩
        rw [hcx,hcy] at hq
        by_cases hn:key x.1 = n
        · rw [if_pos hn,if_pos hn] at hq
          exact .inl hq
        · rw [if_neg hn,if_neg hn] at hq
          exact .inr ⟨n,hq,hne⟩
    · obtain ⟨n,rfl,hne⟩:=(i1 q).1 hq
      show key x.1 < _
      cases h1:atC xs n with
      | some c => exact (List.pairwise_cons.1 hx).1 c (atC_mem h1).1
      | none =>
        cases h2:atC ys n with
        | some c => show _ < key c.1;rw [heq];exact (List.pairwise_cons.1 hy).1 c (atC_mem h2).1
        | none => rw [h1,h2] at hne;exact absurd rfl hne
/-! ### one after the other -/
def fitQ:Pc→Bool
  | (some x,some y) => decide (x.2.2 = y.2.1)
  | _ => true
def apQ:Pc→Bool
  | (some _,some _) => false
  | _ => true
theorem ap_iff {k:Nat} {a b:List Chg} (ha:CL k a) (hb:CL k b):(mz a b).all apQ = true↔∀ x∈a,atC b (key x.1) = none:=by
  rw [List.all_eq_true]
  constructor
  · intro h x hx
    cases e:atC b (key x.1) with
    | none => rfl
    | some y =>
      have:=h (some x,some y) (((mz_ok a b ha.cs hb.cs).1 _).2 ⟨key x.1,by rw [e,atC_some ha.cs hx],by simp⟩)
      cases this
  · intro h q hq
    obtain ⟨n,rfl,-⟩:=((mz_ok a b ha.cs hb.cs).1 q).1 hq
    cases e1:atC a n with
    | none => cases e2:atC b n <;> rfl
    | some x =>
      obtain ⟨m,e⟩:=atC_mem e1
      subst e
      rw [h x m]
      rfl
/-! ### the document's way: all that was there -/
end Tr
end Go.Proofs.YtmkejbfgdmbejaaGreatDoor
namespace Go.Proofs.YtmkejbfgdmbejaaGreatDoor
open Tr (T S4 Ent)
namespace Tr
open Go.Proofs.YtmkejbfgdmbejaaGreatDoor.Z
section
variable {k:Nat} {O A B:List Ent}
theorem cl_nil (zO:ZS O) (zA:ZS A) (zB:ZS B) (dO:Dim k O) (dA:Dim k A) (dB:Dim k B) (h:∀ p,p.length = k→Ok p→bec (getE O p) (getE A p) (getE B p)≠none):ppL clG O A B = []:=by
  refine List.eq_nil_iff_forall_not_mem.2 fun c hc => ?_
  obtain ⟨⟨h1,h2⟩,h3⟩:=(mem_ppL cl_none zO zA zB dO dA dB).1 hc
  unfold clG at h3
  cases hb:bec (getE O c.1) (getE A c.1) (getE B c.1) with
  | none => exact h c.1 h1 h2 hb
  | some x => rw [hb] at h3;cases h3
theorem mg_list {r:Int} (zO:ZS O) (zA:ZS A) (zB:ZS B) (dO:Dim k O) (dA:Dim k A) (dB:Dim k B) {L:List Ent} (zL:ZS L) (dL:Dim k L) (h:∀ p,p.length = k→Ok p→mgG r (getE O p) (getE A p) (getE B p) = getE L p):ppL (mgG r) O A B = L:=by
  refine (ppL_uniq (mg_none r) zO zA zB dO dA dB (L:=L) zL fun c => ?_).symm
  constructor
  · intro hc
    have hd:=dL c hc
    refine ⟨⟨hd.1,hd.2.1⟩,?_⟩
    rw [h c.1 hd.1 hd.2.1]
    exact (getE_iff zL dL hd.1 hd.2.1).2 hc
  · rintro ⟨⟨h1,h2⟩,h3⟩
    rw [h c.1 h1 h2] at h3
    exact (getE_iff zL dL h1 h2).1 h3
theorem ap_point (zO:ZS O) (zA:ZS A) (zB:ZS B) (dO:Dim k O) (dA:Dim k A) (dB:Dim k B) (h:(mz (chL O A) (chL O B)).all apQ = true) {p:List Nat} (hp:p.length = k) (ho:Ok p):getE O p = getE A p∨getE O p = getE B p:=by
  by_cases e:getE O p = getE A p
  · exact .inl e
  · right
    have hA:=CL.chL zO zA dO dA
    have hB:=CL.chL zO zB dO dB
    have ha:atC (chL O A) (key p) = some (p,getE O p,getE A p):=by rw [atC_chL zO zA dO dA hp ho];unfold chgAt;rw [if_neg e]
    have hb:=(ap_iff hA hB).1 h _ (atC_mem ha).1
    rw [atC_chL zO zB dO dB hp ho] at hb
    unfold chgAt at hb
    by_cases e2:getE O p = getE B p
    · exact e2
    · rw [if_neg e2] at hb;cases hb
theorem ap_cl (zO:ZS O) (zA:ZS A) (zB:ZS B) (dO:Dim k O) (dA:Dim k A) (dB:Dim k B) (h:(mz (chL O A) (chL O B)).all apQ = true):ppL clG O A B = [] :=
  cl_nil zO zA zB dO dA dB fun p hp ho => by
    rcases ap_point zO zA zB dO dA dB h hp ho with e | e
    · rw [← e,bec_ao];simp
    · rw [← e,bec_bo];simp
theorem ap_mg (r:Int) (zO:ZS O) (zA:ZS A) (zB:ZS B) (dO:Dim k O) (dA:Dim k A) (dB:Dim k B) (h:(mz (chL O A) (chL O B)).all apQ = true):ppL (mgG r) O A B = doL A (chL O B):=by
  have hB:=CL.chL zO zB dO dB
  obtain ⟨zD,dD,-⟩:=doL_zd zA dA hB
  refine mg_list zO zA zB dO dA dB zD dD fun p hp ho => ?_
  rw [getE_doL zA dA hB hp ho,atC_chL zO zB dO dB hp ho]
  unfold chgAt mgG
  by_cases e:getE O p = getE B p
  · rw [if_pos e,← e,bec_bo]
  · rw [if_neg e]
    rcases ap_point zO zA zB dO dA dB h hp ho with e2 | e2
    · rw [← e2,bec_ao]
    · exact absurd e2 e
end
end Tr
end Go.Proofs.YtmkejbfgdmbejaaGreatDoor
namespace Go.Proofs.YtmkejbfgdmbejaaGreatDoor
open Go.ChangeShapes Go.WideShapes Go.ChangeAt Go.RowKit
open Tr (T S4 Ent Chg Raw)
def RwQ (w:World) (B:Nat) (f:Nat→Option Value) (r:Raw):Prop :=
  ∃ A c,f 0 = some (.slice A r.1.length c)∧f 1 = some (.bool r.2.1.1)∧f 2 = some (.bool r.2.2.1)∧f 3 = some (.int .u64 (r.2.1.2:Int))∧f 4 = some (.int .u64 (r.2.2.2:Int))∧Pts w B A r.1∧r.1.length≤maxLen∧r.2.1.2 < 18446744073709551616∧r.2.2.2 < 18446744073709551616
def RwL (w:World) (B:Nat) (A:Option Addr) (L:List Raw):Prop:=Lst 5 (RwQ w B) w B A L
theorem RwL.keep {w w':World} {B B':Nat} {A:Option Addr} {L:List Raw} (h:RwL w B A L) (hB:B≤B') (hw:∀ p:Addr,p.block < B→w'.cell? p = w.cell? p):RwL w' B' A L:=by
  intro hn
  obtain ⟨b,off,hA,hb,hq⟩:=h hn
  refine ⟨b,off,hA,by omega,fun i a ha => ?_⟩
  obtain ⟨A',c,h0,h1,h2,h3,h4,h5,h6⟩:=hq i a ha
  exact ⟨A',c,(hw _ hb).trans h0,(hw _ hb).trans h1,(hw _ hb).trans h2,(hw _ hb).trans h3,(hw _ hb).trans h4,h5.keep hB hw,h6⟩
theorem RwL.below {w w':World} {B B' C:Nat} {A:Option Addr} {L:List Raw} (h:RwL w B A L) (hb:Below C w w') (hC:B≤C) (hB:B≤B'):RwL w' B' A L :=
  h.keep hB fun _ hp => hb.cell (Nat.lt_of_lt_of_le hp hC)
theorem RwL.at {w:World} {B:Nat} {A:Option Addr} {L:List Raw} (h:RwL w B A L) {i:Nat} {r:Raw} (hr:L[i]? = some r) :
    ∃ b off P n,A = some ⟨b,off,none⟩∧b < B∧w.cell? ⟨b,off + i * 5,none⟩ = some (.slice P r.1.length n)∧w.cell? ⟨b,off + i * 5 + 1,none⟩ = some (.bool r.2.1.1)∧w.cell? ⟨b,off + i * 5 + 2,none⟩ = some (.bool r.2.2.1) ∧
      w.cell? ⟨b,off + i * 5 + 3,none⟩ = some (.int .u64 (r.2.1.2:Int))∧w.cell? ⟨b,off + i * 5 + 4,none⟩ = some (.int .u64 (r.2.2.2:Int))∧Pts w B P r.1∧r.1.length≤maxLen∧r.2.1.2 < 18446744073709551616∧r.2.2.2 < 18446744073709551616:=by
  obtain ⟨b,off,hA,hb,hq⟩:=h (by rintro rfl;simp at hr)
  obtain ⟨P,n,hh⟩:=hq i r hr
  exact ⟨b,off,P,n,hA,hb,hh⟩
/-! ### among the arguments -/
end Go.Proofs.YtmkejbfgdmbejaaGreatDoor
namespace Go.Proofs.YtmkejbfgdmbejaaGreatDoor
open Go.ChangeShapes Go.WideShapes Go.ChangeAt Go.RowKit
abbrev chV (P:Option Addr) (n c:Nat) (h s:Bool) (o v:Nat):Value:=.agg #[.slice P n c,.bool h,.bool s,.int .u64 (o:Int),.int .u64 (v:Int)]
end Go.Proofs.YtmkejbfgdmbejaaGreatDoor
namespace Go.Proofs.YtmkejbfgdmbejaaGreatDoor
open Go.ChangeShapes Go.WideShapes Go.ChangeAt Go.RowKit
open Tr (T S4 Ent Chg Raw)
set_option maxRecDepth 1000000 in
set_option maxHeartbeats 4000000 in
theorem r13do_c {w:World} {B R k N n c c':Nat} {A A':Option Addr} {L:List Ent} {C:List Chg} (zL:Tr.ZS L) (dL:Tr.Dim k L) (hE:EntL w B R A L) (hR:R≤w.heap.size) (hB:B≤w.heap.size) (hN:L.length = N) (hNl:N≤100000) (hc:N≤c) (h:RwL w B A' (C.map Tr.rawC)) (hC:Tr.CL k C) (hn:C.length = n) (hl:n≤100000) (h1:1≤k) (h16:k≤16) :
    Calls Tryz.prog 30 #[.slice A N c,.slice A' n c'] w fun e w' => ∃ D d N',e = .returned (.slice D N' d)∧(Tr.doL L C).length = N'∧EntL w' B w'.heap.size D (Tr.doL L C)∧N'≤d∧Below w.heap.size w w':=by
  have hE0:=EntL.below (R:=R) hE (Below.refl w.heap.size w) hB hR hR
  have HX:=Lib.hid (And.intro zL (And.intro dL (And.intro hB (And.intro hN (And.intro hNl (And.intro h (And.intro hC (And.intro hn (And.intro hl (And.intro h1 (And.intro h16 (And.intro hE0 hc))))))))))))
  have hn9:(n:Int)≤100000:=by omega
  clear zL dL hE hE0 hR hB hN hNl hc h hC hn hl h1 h16
  go_enter Tryz.func30,Tryz.ntmps30
  go_wp2_with fail
  go_loopw [0,5] (fun u v wr => ∃ (j m:Nat) (D:Option Addr) (d:Nat),u = .slice D m d∧v = .int .i64 (j:Int)∧j≤n∧(Tr.doL L (C.take j)).length = m∧EntL wr B wr.heap.size D (Tr.doL L (C.take j))∧m≤d∧Below w.heap.size w wr) (fun _ v _ => n - (intOf v).toNat)
  case atStart => exact ⟨0,N,A,c,rfl,rfl,Nat.zero_le _,HX.out.2.2.2.1,HX.out.2.2.2.2.2.2.2.2.2.2.2.1,HX.out.2.2.2.2.2.2.2.2.2.2.2.2,Below.refl _ _⟩
  case round =>
    obtain ⟨j,m,D,d,rfl,rfl,hj,hm,hE,hmd,hb⟩:=hrel
    by_cases hlt:j < n
    · obtain ⟨zL,dL,hB,hN,hNl,h,hC,hn,hl,h1,h16,-,-⟩:=HX.out
      obtain ⟨y,hy⟩:=get_lt (us:=C) (k:=j) (by rw [hn];exact hlt)
      obtain ⟨q,off,P,pc,hA,hq,e0,e1,e2,e3,e4,pp,pl,-,-⟩:=(h.below hb hB (Nat.le_refl _)).at (i:=j) (r:=Tr.rawC y) (by rw [List.getElem?_map,hy];rfl)
      have hey:=hC.each y (List.mem_of_getElem? hy)
      obtain ⟨np,hnp⟩:∃ np,y.1.length = np:=⟨_,rfl⟩
      replace e0:wr.cell? ⟨q,off + j * 5,none⟩ = some (.slice P np pc):=by rw [← hnp];exact e0
      replace e2:wr.cell? ⟨q,off + j * 5 + 2,none⟩ = some (.bool y.2.2.isSome):=e2
      replace e4:wr.cell? ⟨q,off + j * 5 + 4,none⟩ = some (.int .u64 ((y.2.2.getD 0:Nat):Int)):=e4
      obtain ⟨z1,d1,l1⟩:=Tr.doL_zd zL dL (hC.take j)
      have hlt2:(C.take j).length≤n:=by rw [List.length_take];omega
      have hdo:=Tr.doL_take (L:=L) hy
      have f1:decide ((j:Int) < (n:Int)) = true:=decide_eq_true (by omega)
      have f1':decide (j < n) = true:=decide_eq_true hlt
      have n1:(0:Int)≤(j:Int):=by omega
      have n2:(j:Int) < (n:Int):=by omega
      have n3:(j:Int)≤100000:=by omega
      have hqr:q < wr.heap.size:=Nat.lt_of_lt_of_le hq (Nat.le_trans hB hb.size)
      subst hA
      cases hnew:y.2.2 with
      | some v =>
        have hP:=fun w1 (hb1:Below wr.heap.size wr w1) => rput6_c (p:=y.1) (c:=d) (c':=pc) (w:=w1) (R:=wr.heap.size) z1 d1 (hE.below hb1 (Nat.le_trans hB hb.size) (Nat.le_refl _) (Nat.le_refl _)) (pp.below' hb1 (Nat.le_trans hB hb.size)) hey.1 h1 h16 (by omega) hb1.size (Nat.le_trans (Nat.le_trans hB hb.size) hb1.size) (by rw [hm];exact hmd) v (hey.2.2.2.2 v hnew)
        have hdc:Tr.doL L (C.take (j + 1)) = Tr.putE y.1 v (Tr.doL L (C.take j)):=by rw [hdo];unfold Tr.doC;rw [hnew]
        rw [← hdc,hm,hnp] at hP
        obtain ⟨m2,hm2⟩:∃ m2,(Tr.doL L (C.take (j + 1))).length = m2:=⟨_,rfl⟩
        rw [hm2] at hP
        rw [hnew] at e2 e4
        replace e2:wr.cell? ⟨q,off + j * 5 + 2,none⟩ = some (.bool true):=e2
        replace e4:wr.cell? ⟨q,off + j * 5 + 4,none⟩ = some (.int .u64 (v:Int)):=e4
        have HP:=Lib.hid hP
        have HE:=Lib.hid (And.intro hb (And.intro hm2 hlt))
        have a0:∀ w',Below wr.heap.size wr w'→w'.cell? ⟨q,off + j * 5,none⟩ = some (.slice P np pc):=fun w' h => (h.cell (p:=⟨q,off + j * 5,none⟩) hqr).trans e0
        have a4:∀ w',Below wr.heap.size wr w'→w'.cell? ⟨q,off + j * 5 + 4,none⟩ = some (.int .u64 (v:Int)):=fun w' h => (h.cell (p:=⟨q,off + j * 5 + 4,none⟩) hqr).trans e4
        have hb0:Below wr.heap.size wr wr:=Below.refl _ _
        clear hP hb hm2 hlt hnp z1 d1 l1 hlt2 pp hey hE hm hmd hy zL dL hN hNl h hC hn hl h1 h16 hj hB hdo hdc hnew pl hq e1 e3
        go_wp2_with fail
        go_region_held3 (fun w' => Below wr.heap.size wr w') (((repeat first | refine bD ?_ | with_reducible refine bN ?_ | refine bA ?_ | refine bS ?_);first | exact bR | assumption | exact bN bR | exact bN (bN bR)))
          ((go_at_call 69;refine (HP.out _ (show Below wr.heap.size wr _ by ((repeat first | refine bD ?_ | with_reducible refine bN ?_ | refine bA ?_ | refine bS ?_);first | exact bR | assumption | exact bN bR | exact bN (bN bR)))).mono ?_;rintro e w2 ⟨D2,d2,rfl,hE2,hd2,hb2⟩;have hbD:=Below.andThen (show Below wr.heap.size wr _ by ((repeat first | refine bD ?_ | with_reducible refine bN ?_ | refine bA ?_ | refine bS ?_);first | exact bR | assumption | exact bN bR | exact bN (bN bR))) hb2;have H2:=Lib.hid (And.intro hE2 hd2);clear hE2 hd2 hb2))
        clear a0 a4 e0 e2 e4
        go_wp2_with fail
        go_roundw
        case rel => exact ⟨j + 1,m2,D2,d2,rfl,by first | rfl | go_num,by have:=HE.out.2.2;omega,HE.out.2.1,H2.out.1,H2.out.2,HE.out.1.trans (hbD.mono HE.out.1.size)⟩
        case measure =>
          have:=HE.out.2.2
          show n - ((j:Int) + 1).toNat < n - (j:Int).toNat
          omega
      | none =>
        have hP:=rdel6_c (p:=y.1) (c:=d) (c':=pc) z1 d1 hE pp hey.1 h1 h16 (by omega) (Nat.le_refl _) (Nat.le_trans hB hb.size) (by rw [hm];exact hmd)
        have hdc:Tr.doL L (C.take (j + 1)) = Tr.delE y.1 (Tr.doL L (C.take j)):=by rw [hdo];unfold Tr.doC;rw [hnew]
        rw [← hdc,hm,hnp] at hP
        obtain ⟨m2,hm2⟩:∃ m2,(Tr.doL L (C.take (j + 1))).length = m2:=⟨_,rfl⟩
        rw [hm2] at hP
        rw [hnew] at e2
        replace e2:wr.cell? ⟨q,off + j * 5 + 2,none⟩ = some (.bool false):=e2
        have HP:=Lib.hid hP
        have HE:=Lib.hid (And.intro hb (And.intro hm2 hlt))
        clear hP hb hm2 hlt hnp z1 d1 l1 hlt2 pp hey hE hm hmd hy zL dL hN hNl h hC hn hl h1 h16 hj hB hdo hdc hnew pl hq e1 e3 e4
        go_wp2_with (go_at_call 70;refine HP.out.mono ?_;rintro e w2 ⟨D2,d2,rfl,hE2,hd2,hb2⟩;have H2:=Lib.hid (And.intro hE2 (And.intro hd2 (Below.andThen HE.out.1 hb2)));clear hE2 hd2 hb2)
        go_roundw
        case rel => exact ⟨j + 1,m2,D2,d2,rfl,by first | rfl | go_num,by have:=HE.out.2.2;omega,HE.out.2.1,H2.out.1,H2.out.2.1,H2.out.2.2⟩
        case measure =>
          have:=HE.out.2.2
          show n - ((j:Int) + 1).toNat < n - (j:Int).toNat
          omega
    · have hjn:n = j:=by omega
      subst hjn
      have f1:decide ((n:Int) < (n:Int)) = false:=decide_eq_false (by omega)
      have f1':decide (n < n) = false:=decide_eq_false (by omega)
      rw [show C.take n = C by rw [← HX.out.2.2.2.2.2.2.2.1,List.take_length]] at hm hE
      have HR:=Lib.hid (And.intro hm (And.intro hE (And.intro hmd hb)))
      clear hm hE hmd hb hlt hj
      go_wp2_with fail
      go_ret
      exact ⟨D,d,m,rfl,HR.out.1,HR.out.2.1,HR.out.2.2.1,HR.out.2.2.2⟩
end Go.Proofs.YtmkejbfgdmbejaaGreatDoor
namespace Go.Proofs.YtmkejbfgdmbejaaGreatDoor
open Go.ChangeShapes Go.WideShapes Go.ChangeAt Go.RowKit
open Tr (T S4 Ent Chg Raw Pc)
abbrev setE5 (w:World) (g:Nat) (x0 x1 x2 x3 x4:Value):World:=((((w.setCell ⟨g,0,none⟩ x0).setCell ⟨g,1,none⟩ x1).setCell ⟨g,2,none⟩ x2).setCell ⟨g,3,none⟩ x3).setCell ⟨g,4,none⟩ x4
theorem setE5_row (w:World) (g:Nat) (x0 x1 x2 x3 x4 a0 a1 a2 a3 a4:Value) (t:TypeId) (h:w.heap[g]? = some (.cells #[a0,a1,a2,a3,a4] t (0,0))):(setE5 w g x0 x1 x2 x3 x4).heap[g]? = some (.cells #[x0,x1,x2,x3,x4] t (0,0)) :=
  heap_setCell_same _ g 4 _ t x4 (heap_setCell_same _ g 3 _ t x3 (heap_setCell_same _ g 2 _ t x2 (heap_setCell_same _ g 1 _ t x1 (heap_setCell_same w g 0 _ t x0 h))))
theorem setE5_below {B:Nat} {w w':World} (h:Below B w w') (g:Nat) (x0 x1 x2 x3 x4:Value) (hg:B≤g):Below B w (setE5 w' g x0 x1 x2 x3 x4) :=
  ((((h.setCell (p:=⟨g,0,none⟩) hg x0).setCell (p:=⟨g,1,none⟩) hg x1).setCell (p:=⟨g,2,none⟩) hg x2).setCell (p:=⟨g,3,none⟩) hg x3).setCell (p:=⟨g,4,none⟩) hg x4
set_option maxRecDepth 1000000 in
set_option maxHeartbeats 4000000 in
theorem r13at_yes {w:World} {B B' k n c np pc:Nat} {A P:Option Addr} {C:List Chg} {p:List Nat} {x:Chg} (h:RwL w B A (C.map Tr.rawC)) (hB:B≤w.heap.size) (hC:Tr.CL k C) (hn:C.length = n) (hl:n≤1000000) (hp:Pts w B' P p) (hB':B'≤w.heap.size) (hpl:p.length = k) (k16:k≤16) (hnp:p.length = np) (hx:Tr.atC C (Tr.key p) = some x) :
    Calls Tryz.prog 68 #[.slice A n c,.slice P np pc] w fun e w' => ∃ P' pc',e = .returned (.tuple #[chV P' k pc' x.2.1.isSome x.2.2.isSome (x.2.1.getD 0) (x.2.2.getD 0),.bool true])∧Below w.heap.size w w':=by
  have hal:=below_alloc w (.cells #[.slice none 0 0,.bool false,.bool false,.int .u64 0,.int .u64 0] 115)
  have hrow:=heap_at w (.cells #[.slice none 0 0,.bool false,.bool false,.int .u64 0,.int .u64 0] 115) _ rfl
  obtain ⟨hxm,hxp⟩:=hC.point hpl hp.1 hx
  obtain ⟨s1,hs1⟩:∃ s,x.2.1.isSome = s:=⟨_,rfl⟩
  obtain ⟨s2,hs2⟩:∃ s,x.2.2.isSome = s:=⟨_,rfl⟩
  obtain ⟨v1,hv1⟩:∃ v,x.2.1.getD 0 = v:=⟨_,rfl⟩
  obtain ⟨v2,hv2⟩:∃ v,x.2.2.getD 0 = v:=⟨_,rfl⟩
  rw [hs1,hs2,hv1,hv2]
  have HSV:=Lib.hid (And.intro hs1 (And.intro hs2 (And.intro hv1 hv2)))
  clear hs1 hs2 hv1 hv2
  have HX:=Lib.hid (And.intro h (And.intro hB (And.intro hC (And.intro hn (And.intro hp (And.intro hB' (And.intro hpl (And.intro k16 (And.intro hnp (And.intro hx (And.intro hxm hxp)))))))))))
  have HW:=Lib.hid (And.intro hal hrow)
  have hn9:(n:Int)≤1000000:=by omega
  clear h hB hC hn hl hp hB' hpl k16 hnp hx hal hrow hxm hxp
  go_enter Tryz.func68,Tryz.ntmps68
  go_wp2_with fail
  generalize w.alloc (.cells #[.slice none 0 0,.bool false,.bool false,.int .u64 0,.int .u64 0] 115) = W at *
  go_loopw [6] (fun v wr => ∃ (j:Nat),v = .int .i64 (j:Int)∧j≤n∧(∀ i c,i < j→C[i]? = some c→c.1≠p)∧Below W.heap.size W wr) (fun v _ => n - (intOf v).toNat)
  case atStart => exact ⟨0,rfl,Nat.zero_le _,fun i c hi => by omega,Below.refl _ _⟩
  case round =>
    obtain ⟨j,rfl,hj,hat,hbr⟩:=hrel
    by_cases hlt:j < n
    · obtain ⟨y,hy⟩:=get_lt (us:=C) (k:=j) (by rw [HX.out.2.2.2.1];exact hlt)
      have hbw:=Below.trans HW.out.1 (hbr.mono HW.out.1.size)
      obtain ⟨q,off,Q,qc,hA,hq,e0,e1,e2,e3,e4,pp,pl,-,-⟩:=(HX.out.1.below hbw HX.out.2.1 (Nat.le_refl _)).at (i:=j) (r:=Tr.rawC y) (by rw [List.getElem?_map,hy];rfl)
      have hyk:=(HX.out.2.2.1.each y (List.mem_of_getElem? hy)).1
      replace e0:wr.cell? ⟨q,off + j * 5,none⟩ = some (.slice Q k qc):=by rw [← hyk];exact e0
      replace e1:wr.cell? ⟨q,off + j * 5 + 1,none⟩ = some (.bool y.2.1.isSome):=e1
      replace e2:wr.cell? ⟨q,off + j * 5 + 2,none⟩ = some (.bool y.2.2.isSome):=e2
      replace e3:wr.cell? ⟨q,off + j * 5 + 3,none⟩ = some (.int .u64 ((y.2.1.getD 0:Nat):Int)):=e3
      replace e4:wr.cell? ⟨q,off + j * 5 + 4,none⟩ = some (.int .u64 ((y.2.2.getD 0:Nat):Int)):=e4
      obtain ⟨r,hr⟩:∃ r,decide (y.1 = p) = r:=⟨_,rfl⟩
      have hS:=rsame_c Q P qc pc y.1 p wr.heap.size wr (pp.keep (Nat.le_trans HX.out.2.1 hbw.size) (fun _ _ => rfl)) ((HX.out.2.2.2.2.1.below' hbw HX.out.2.2.2.2.2.1).keep (Nat.le_trans HX.out.2.2.2.2.2.1 hbw.size) (fun _ _ => rfl)) (Nat.le_refl _) pl
      rw [hyk,HX.out.2.2.2.2.2.2.2.2.1,hr] at hS
      have HS:=Lib.hid hS
      have hq4:q < wr.heap.size:=Nat.lt_of_lt_of_le hq (Nat.le_trans HX.out.2.1 hbw.size)
      have hrw:=(hbr.block w.heap.size (Array.getElem?_eq_some_iff.1 HW.out.2).1).trans HW.out.2
      have HRW:=Lib.hid hrw
      have f1:decide ((j:Int) < (n:Int)) = true:=decide_eq_true (by omega)
      have f1':decide (j < n) = true:=decide_eq_true hlt
      have m1:(0:Int)≤(j:Int):=by omega
      have m2:(j:Int) < (n:Int):=by omega
      have m3:(j:Int)≤1000000:=by omega
      have HY:=Lib.hid (And.intro hy (And.intro hat (And.intro hbr (And.intro hr (And.intro hlt (And.intro hyk hbw))))))
      subst hA
      clear hy hat hbr hr hlt hyk hbw pp pl hq hS hj hrw
      cases r with
      | false =>
        go_wp2_with (go_at_call 63;refine HS.out.mono ?_;rintro e w2 ⟨rfl,hb2⟩;have H2:=Lib.hid hb2;clear hb2)
        go_roundw
        case rel =>
          refine ⟨j + 1,by first | rfl | go_num,by have:=HY.out.2.2.2.2.1;omega,fun i c hi hc => ?_,Below.andThen HY.out.2.2.1 H2.out⟩
          rcases Nat.lt_or_ge i j with h | h
          · exact HY.out.2.1 i c h hc
          · obtain rfl:i = j:=by omega
            obtain rfl:y = c:=Option.some.inj (HY.out.1.symm.trans hc)
            exact of_decide_eq_false HY.out.2.2.2.1
        case measure =>
          have:=HY.out.2.2.2.2.1
          show n - ((j:Int) + 1).toNat < n - (j:Int).toNat
          omega
      | true =>
        have hyx:y = x:=by
          have h1:y.1 = p:=of_decide_eq_true HY.out.2.2.2.1
          have h2:=Tr.atC_some HX.out.2.2.1.cs (List.mem_of_getElem? HY.out.1)
          rw [h1,HX.out.2.2.2.2.2.2.2.2.2.1] at h2
          exact (Option.some.inj h2).symm
        rw [hyx,HSV.out.1] at e1
        rw [hyx,HSV.out.2.1] at e2
        rw [hyx,HSV.out.2.2.1] at e3
        rw [hyx,HSV.out.2.2.2] at e4
        clear hyx
        have hwl:w.heap.size < wr.heap.size:=(Array.getElem?_eq_some_iff.1 HRW.out).1
        go_wp2_with (go_at_call 63;refine HS.out.mono ?_;rintro e w2 ⟨rfl,hb2⟩;have k0:=(hb2.cell (p:=⟨q,off + j * 5,none⟩) hq4).trans e0;have k1:=(hb2.cell (p:=⟨q,off + j * 5 + 1,none⟩) hq4).trans e1;have k2:=(hb2.cell (p:=⟨q,off + j * 5 + 2,none⟩) hq4).trans e2;have k3:=(hb2.cell (p:=⟨q,off + j * 5 + 3,none⟩) hq4).trans e3;have k4:=(hb2.cell (p:=⟨q,off + j * 5 + 4,none⟩) hq4).trans e4;have hrd:=(hb2.block w.heap.size hwl).trans HRW.out;have z0:w2.cell? ⟨w.heap.size,0,none⟩ = some (.slice none 0 0):=(by rw [cell_of_row w2 _ _ _ _ (0,0) hrd];rfl);have z1:w2.cell? ⟨w.heap.size,1,none⟩ = some (.bool false):=(by rw [cell_of_row w2 _ _ _ _ (0,0) hrd];rfl);have z2:w2.cell? ⟨w.heap.size,2,none⟩ = some (.bool false):=(by rw [cell_of_row w2 _ _ _ _ (0,0) hrd];rfl);have z3:w2.cell? ⟨w.heap.size,3,none⟩ = some (.int .u64 0):=(by rw [cell_of_row w2 _ _ _ _ (0,0) hrd];rfl);have z4:w2.cell? ⟨w.heap.size,4,none⟩ = some (.int .u64 0):=(by rw [cell_of_row w2 _ _ _ _ (0,0) hrd];rfl);have g0:=frozen_of_row w2 w.heap.size 0 _ _ hrd;have g1:=frozen_of_row w2 w.heap.size 1 _ _ hrd;have g2:=frozen_of_row w2 w.heap.size 2 _ _ hrd;have g3:=frozen_of_row w2 w.heap.size 3 _ _ hrd;have g4:=frozen_of_row w2 w.heap.size 4 _ _ hrd;have H2:=Lib.hid (And.intro hb2 hrd);clear hb2 hrd e0 e1 e2 e3 e4)
        have hrf:=setE5_row w2 w.heap.size (.slice Q k qc) (.bool s1) (.bool s2) (.int .u64 (v1:Int)) (.int .u64 (v2:Int)) _ _ _ _ _ _ H2.out.2
        have hbf:Below w.heap.size w (setE5 w2 w.heap.size (.slice Q k qc) (.bool s1) (.bool s2) (.int .u64 (v1:Int)) (.int .u64 (v2:Int))):=setE5_below (Below.andThen HY.out.2.2.2.2.2.2 H2.out.1) _ _ _ _ _ _ (Nat.le_refl _)
        obtain ⟨Wf,hWf⟩:∃ Wf,Wf = setE5 w2 w.heap.size (.slice Q k qc) (.bool s1) (.bool s2) (.int .u64 (v1:Int)) (.int .u64 (v2:Int)):=⟨_,rfl⟩
        rw [← hWf] at hrf hbf
        have y0:Wf.cell? ⟨w.heap.size,0,none⟩ = some (.slice Q k qc):=by rw [cell_of_row Wf _ _ _ _ (0,0) hrf];rfl
        have y1:Wf.cell? ⟨w.heap.size,1,none⟩ = some (.bool s1):=by rw [cell_of_row Wf _ _ _ _ (0,0) hrf];rfl
        have y2:Wf.cell? ⟨w.heap.size,2,none⟩ = some (.bool s2):=by rw [cell_of_row Wf _ _ _ _ (0,0) hrf];rfl
        have y3:Wf.cell? ⟨w.heap.size,3,none⟩ = some (.int .u64 (v1:Int)):=by rw [cell_of_row Wf _ _ _ _ (0,0) hrf];rfl
        have y4:Wf.cell? ⟨w.heap.size,4,none⟩ = some (.int .u64 (v2:Int)):=by rw [cell_of_row Wf _ _ _ _ (0,0) hrf];rfl
        rw [← show Wf = ((((w2.setCell ⟨w.heap.size,0,none⟩ (.slice Q k qc)).setCell ⟨w.heap.size,1,none⟩ (.bool s1)).setCell ⟨w.heap.size,2,none⟩ (.bool s2)).setCell ⟨w.heap.size,3,none⟩ (.int .u64 (v1:Int))).setCell ⟨w.heap.size,4,none⟩ (.int .u64 (v2:Int)) from hWf]
        clear hWf z0 z1 z2 z3 z4 g0 g1 g2 g3 g4 k0 k1 k2 k3 k4 hrf
        refine bodyPost_ret (v:=.tuple #[chV Q k qc s1 s2 v1 v2,.bool true]) (by simp [results,Tryz.results68,go_sem,y0,y1,y2,y3,y4]) rfl ?_
        exact ⟨Q,qc,rfl,hbf⟩
    · exfalso
      obtain ⟨i,hi⟩:=List.mem_iff_getElem?.1 HX.out.2.2.2.2.2.2.2.2.2.2.1
      exact hat i x (by have:=(List.getElem?_eq_some_iff.1 hi).1;have:=HX.out.2.2.2.1;omega) hi HX.out.2.2.2.2.2.2.2.2.2.2.2
set_option maxRecDepth 1000000 in
set_option maxHeartbeats 4000000 in
theorem r13at_no {w:World} {B B' k n c np pc:Nat} {A P:Option Addr} {C:List Chg} {p:List Nat} (h:RwL w B A (C.map Tr.rawC)) (hB:B≤w.heap.size) (hC:Tr.CL k C) (hn:C.length = n) (hl:n≤1000000) (hp:Pts w B' P p) (hB':B'≤w.heap.size) (hpl:p.length = k) (k16:k≤16) (hnp:p.length = np) (hx:Tr.atC C (Tr.key p) = none) :
    Calls Tryz.prog 68 #[.slice A n c,.slice P np pc] w fun e w' => e = .returned (.tuple #[chV none 0 0 false false 0 0,.bool false])∧Below w.heap.size w w':=by
  have hal:=below_alloc w (.cells #[.slice none 0 0,.bool false,.bool false,.int .u64 0,.int .u64 0] 115)
  have hrow:=heap_at w (.cells #[.slice none 0 0,.bool false,.bool false,.int .u64 0,.int .u64 0] 115) _ rfl
  have HX:=Lib.hid (And.intro h (And.intro hB (And.intro hC (And.intro hn (And.intro hp (And.intro hB' (And.intro hpl (And.intro k16 (And.intro hnp hx)))))))))
  have HW:=Lib.hid (And.intro hal hrow)
  have hn9:(n:Int)≤1000000:=by omega
  clear h hB hC hn hl hp hB' hpl k16 hnp hx hal hrow
  go_enter Tryz.func68,Tryz.ntmps68
  go_wp2_with fail
  generalize w.alloc (.cells #[.slice none 0 0,.bool false,.bool false,.int .u64 0,.int .u64 0] 115) = W at *
  go_loopw [6] (fun v wr => ∃ (j:Nat),v = .int .i64 (j:Int)∧j≤n∧Below W.heap.size W wr) (fun v _ => n - (intOf v).toNat)
  case atStart => exact ⟨0,rfl,Nat.zero_le _,Below.refl _ _⟩
  case round =>
    obtain ⟨j,rfl,hj,hbr⟩:=hrel
    by_cases hlt:j < n
    · obtain ⟨y,hy⟩:=get_lt (us:=C) (k:=j) (by rw [HX.out.2.2.2.1];exact hlt)
      have hbw:=Below.trans HW.out.1 (hbr.mono HW.out.1.size)
      obtain ⟨q,off,Q,qc,hA,hq,e0,-,-,-,-,pp,pl,-,-⟩:=(HX.out.1.below hbw HX.out.2.1 (Nat.le_refl _)).at (i:=j) (r:=Tr.rawC y) (by rw [List.getElem?_map,hy];rfl)
      have hyk:=(HX.out.2.2.1.each y (List.mem_of_getElem? hy)).1
      replace e0:wr.cell? ⟨q,off + j * 5,none⟩ = some (.slice Q k qc):=by rw [← hyk];exact e0
      have hne:y.1≠p:=fun e => by
        have h2:=Tr.atC_some HX.out.2.2.1.cs (List.mem_of_getElem? hy)
        rw [e,HX.out.2.2.2.2.2.2.2.2.2] at h2
        cases h2
      have hS:=rsame_c Q P qc pc y.1 p wr.heap.size wr (pp.keep (Nat.le_trans HX.out.2.1 hbw.size) (fun _ _ => rfl)) ((HX.out.2.2.2.2.1.below' hbw HX.out.2.2.2.2.2.1).keep (Nat.le_trans HX.out.2.2.2.2.2.1 hbw.size) (fun _ _ => rfl)) (Nat.le_refl _) pl
      rw [hyk,HX.out.2.2.2.2.2.2.2.2.1,decide_eq_false hne] at hS
      have HS:=Lib.hid hS
      have f1:decide ((j:Int) < (n:Int)) = true:=decide_eq_true (by omega)
      have f1':decide (j < n) = true:=decide_eq_true hlt
      have m1:(0:Int)≤(j:Int):=by omega
      have m2:(j:Int) < (n:Int):=by omega
      have m3:(j:Int)≤1000000:=by omega
      have HY:=Lib.hid (And.intro hbr hlt)
      subst hA
      clear hy hbr hlt hyk hbw pp pl hq hS hj hne
      go_wp2_with (go_at_call 63;refine HS.out.mono ?_;rintro e w2 ⟨rfl,hb2⟩;have H2:=Lib.hid hb2;clear hb2)
      go_roundw
      case rel => exact ⟨j + 1,by first | rfl | go_num,by have:=HY.out.2;omega,Below.andThen HY.out.1 H2.out⟩
      case measure =>
        have:=HY.out.2
        show n - ((j:Int) + 1).toNat < n - (j:Int).toNat
        omega
    · have hjn:n = j:=by omega
      subst hjn
      have f1:decide ((n:Int) < (n:Int)) = false:=decide_eq_false (by omega)
      have f1':decide (n < n) = false:=decide_eq_false (by omega)
      have hrd:=(hbr.block w.heap.size (Array.getElem?_eq_some_iff.1 HW.out.2).1).trans HW.out.2
      have z0:wr.cell? ⟨w.heap.size,0,none⟩ = some (.slice none 0 0):=by rw [cell_of_row wr _ _ _ _ (0,0) hrd];rfl
      have z1:wr.cell? ⟨w.heap.size,1,none⟩ = some (.bool false):=by rw [cell_of_row wr _ _ _ _ (0,0) hrd];rfl
      have z2:wr.cell? ⟨w.heap.size,2,none⟩ = some (.bool false):=by rw [cell_of_row wr _ _ _ _ (0,0) hrd];rfl
      have z3:wr.cell? ⟨w.heap.size,3,none⟩ = some (.int .u64 0):=by rw [cell_of_row wr _ _ _ _ (0,0) hrd];rfl
      have z4:wr.cell? ⟨w.heap.size,4,none⟩ = some (.int .u64 0):=by rw [cell_of_row wr _ _ _ _ (0,0) hrd];rfl
      have g0:=frozen_of_row wr w.heap.size 0 _ _ hrd
      have g1:=frozen_of_row wr w.heap.size 1 _ _ hrd
      have g2:=frozen_of_row wr w.heap.size 2 _ _ hrd
      have g3:=frozen_of_row wr w.heap.size 3 _ _ hrd
      have g4:=frozen_of_row wr w.heap.size 4 _ _ hrd
      have HY:=Lib.hid (And.intro hbr hrd)
      clear hbr hlt hj hrd
      go_wp2_with fail
      have hrf:=setE5_row wr w.heap.size (.slice none 0 0) (.bool false) (.bool false) (.int .u64 0) (.int .u64 0) _ _ _ _ _ _ HY.out.2
      have hbf:Below w.heap.size w (setE5 wr w.heap.size (.slice none 0 0) (.bool false) (.bool false) (.int .u64 0) (.int .u64 0)):=setE5_below (Below.trans HW.out.1 (HY.out.1.mono HW.out.1.size)) _ _ _ _ _ _ (Nat.le_refl _)
      obtain ⟨Wf,hWf⟩:∃ Wf,Wf = setE5 wr w.heap.size (.slice none 0 0) (.bool false) (.bool false) (.int .u64 0) (.int .u64 0):=⟨_,rfl⟩
      rw [← hWf] at hrf hbf
      have y0:Wf.cell? ⟨w.heap.size,0,none⟩ = some (.slice none 0 0):=by rw [cell_of_row Wf _ _ _ _ (0,0) hrf];rfl
      have y1:Wf.cell? ⟨w.heap.size,1,none⟩ = some (.bool false):=by rw [cell_of_row Wf _ _ _ _ (0,0) hrf];rfl
      have y2:Wf.cell? ⟨w.heap.size,2,none⟩ = some (.bool false):=by rw [cell_of_row Wf _ _ _ _ (0,0) hrf];rfl
      have y3:Wf.cell? ⟨w.heap.size,3,none⟩ = some (.int .u64 0):=by rw [cell_of_row Wf _ _ _ _ (0,0) hrf];rfl
      have y4:Wf.cell? ⟨w.heap.size,4,none⟩ = some (.int .u64 0):=by rw [cell_of_row Wf _ _ _ _ (0,0) hrf];rfl
      rw [← show Wf = ((((wr.setCell ⟨w.heap.size,0,none⟩ (.slice none 0 0)).setCell ⟨w.heap.size,1,none⟩ (.bool false)).setCell ⟨w.heap.size,2,none⟩ (.bool false)).setCell ⟨w.heap.size,3,none⟩ (.int .u64 0)).setCell ⟨w.heap.size,4,none⟩ (.int .u64 0) from hWf]
      clear hWf z0 z1 z2 z3 z4 g0 g1 g2 g3 g4 hrf
      refine bodyPost_ret (v:=.tuple #[chV none 0 0 false false 0 0,.bool false]) (by simp [results,Tryz.results68,go_sem,y0,y1,y2,y3,y4]) rfl ?_
      exact ⟨rfl,hbf⟩
set_option maxRecDepth 1000000 in
set_option maxHeartbeats 4000000 in
theorem r13apart_c {w:World} {B k n n' c c':Nat} {A A':Option Addr} {a b:List Chg} (ha:RwL w B A (a.map Tr.rawC)) (hb:RwL w B A' (b.map Tr.rawC)) (hB:B≤w.heap.size) (Ca:Tr.CL k a) (Cb:Tr.CL k b) (hn:a.length = n) (hn':b.length = n') (hl:n≤1000000) (hl':n'≤1000000) (k16:k≤16) {r:Bool} (hr:(Tr.mz a b).all Tr.apQ = r) :
    Calls Tryz.prog 29 #[.slice A n c,.slice A' n' c'] w fun e w' => e = .returned (.bool r)∧Below w.heap.size w w':=by
  have hap:=Tr.ap_iff Ca Cb
  rw [hr] at hap
  have HX:=Lib.hid (And.intro ha (And.intro hb (And.intro hB (And.intro Ca (And.intro Cb (And.intro hn (And.intro hn' (And.intro hl' (And.intro k16 hap)))))))))
  have hn9:(n:Int)≤1000000:=by omega
  clear ha hb hB Ca Cb hn hn' hl hl' k16 hr hap
  go_enter Tryz.func29,Tryz.ntmps29
  go_wp2_with fail
  go_loopw [5] (fun v wr => ∃ (j:Nat),v = .int .i64 (j:Int)∧j≤n∧(∀ i x,i < j→a[i]? = some x→Tr.atC b (Tr.key x.1) = none)∧Below w.heap.size w wr) (fun v _ => n - (intOf v).toNat)
  case atStart => exact ⟨0,rfl,Nat.zero_le _,fun i c hi => by omega,Below.refl _ _⟩
  case round =>
    obtain ⟨j,rfl,hj,hat,hbr⟩:=hrel
    by_cases hlt:j < n
    · obtain ⟨y,hy⟩:=get_lt (us:=a) (k:=j) (by rw [HX.out.2.2.2.2.2.1];exact hlt)
      obtain ⟨q,off,Q,qc,hA,hq,e0,-,-,-,-,pp,pl,-,-⟩:=(HX.out.1.below hbr HX.out.2.2.1 (Nat.le_refl _)).at (i:=j) (r:=Tr.rawC y) (by rw [List.getElem?_map,hy];rfl)
      have hyk:=(HX.out.2.2.2.1.each y (List.mem_of_getElem? hy)).1
      replace e0:wr.cell? ⟨q,off + j * 5,none⟩ = some (.slice Q k qc):=by rw [← hyk];exact e0
      have hBw:=Nat.le_trans HX.out.2.2.1 hbr.size
      have hb':=HX.out.2.1.below hbr HX.out.2.2.1 (Nat.le_refl B)
      have f1:decide ((j:Int) < (n:Int)) = true:=decide_eq_true (by omega)
      have f1':decide (j < n) = true:=decide_eq_true hlt
      have m1:(0:Int)≤(j:Int):=by omega
      have m2:(j:Int) < (n:Int):=by omega
      have m3:(j:Int)≤1000000:=by omega
      subst hA
      cases hac:Tr.atC b (Tr.key y.1) with
      | none =>
        have HS:=Lib.hid (r13at_no (n:=n') (c:=c') (p:=y.1) (pc:=qc) hb' hBw HX.out.2.2.2.2.1 HX.out.2.2.2.2.2.2.1 HX.out.2.2.2.2.2.2.2.1 pp hBw hyk HX.out.2.2.2.2.2.2.2.2.1 hyk hac)
        have HY:=Lib.hid (And.intro hy (And.intro hat (And.intro hbr (And.intro hlt hac))))
        clear hy hat hbr hlt hac hyk pp pl hq hj hBw hb'
        go_wp2_with (go_at_call 68;refine HS.out.mono ?_;rintro e w2 ⟨rfl,hb2⟩;have H2:=Lib.hid hb2;clear hb2)
        go_roundw
        case rel =>
          refine ⟨j + 1,by first | rfl | go_num,by have:=HY.out.2.2.2.1;omega,fun i x hi hx => ?_,HY.out.2.2.1.trans ((Below.andThen H2.out (below_alloc _ _)).mono HY.out.2.2.1.size)⟩
          rcases Nat.lt_or_ge i j with h | h
          · exact HY.out.2.1 i x h hx
          · obtain rfl:i = j:=by omega
            obtain rfl:y = x:=Option.some.inj (HY.out.1.symm.trans hx)
            exact HY.out.2.2.2.2
        case measure =>
          have:=HY.out.2.2.2.1
          show n - ((j:Int) + 1).toNat < n - (j:Int).toNat
          omega
      | some x =>
        have hrf:r = false:=by
          cases r with
          | false => rfl
          | true => have h:=HX.out.2.2.2.2.2.2.2.2.2.1 rfl y (List.mem_of_getElem? hy);rw [hac] at h;cases h
        subst hrf
        have HS:=Lib.hid (r13at_yes (n:=n') (c:=c') (p:=y.1) (pc:=qc) hb' hBw HX.out.2.2.2.2.1 HX.out.2.2.2.2.2.2.1 HX.out.2.2.2.2.2.2.2.1 pp hBw hyk HX.out.2.2.2.2.2.2.2.2.1 hyk hac)
        have HY:=Lib.hid hbr
        clear hy hat hbr hlt hac hyk pp pl hq hj hBw hb'
        go_wp2_with (go_at_call 68;refine HS.out.mono ?_;rintro e w2 ⟨P',pc',rfl,hb2⟩;have H2:=Lib.hid hb2;clear hb2)
        go_ret
        exact ⟨rfl,HY.out.trans ((Below.andThen H2.out (below_alloc _ _)).mono HY.out.size)⟩
    · have hjn:n = j:=by omega
      subst hjn
      have f1:decide ((n:Int) < (n:Int)) = false:=decide_eq_false (by omega)
      have f1':decide (n < n) = false:=decide_eq_false (by omega)
      have HY:=Lib.hid (And.intro hat hbr)
      clear hat hbr hlt hj
      go_wp2_with fail
      go_ret
      have hrr:=HX.out.2.2.2.2.2.2.2.2.2.2 fun x hx => by
        obtain ⟨i,hi⟩:=List.mem_iff_getElem?.1 hx
        exact HY.out.1 i x (by have:=(List.getElem?_eq_some_iff.1 hi).1;have:=HX.out.2.2.2.2.2.1;omega) hi
      subst hrr
      exact ⟨rfl,HY.out.2⟩
end Go.Proofs.YtmkejbfgdmbejaaGreatDoor
namespace Go.Proofs.YtmkejbfgdmbejaaGreatDoor
open Go.ChangeShapes Go.WideShapes Go.ChangeAt Go.RowKit
open Tr (T S4 Ent Tri KL)
theorem ppT_small {k:Nat} {t:Tri} {X:Type} {g:Tr.Pt X} {w:World} {b0 b1 b2:Nat} (h0:TreeX w b0 k t.o) (h1:TreeX w b1 k t.a) (h2:TreeX w b2 k t.b):(Tr.ppT g t).length≤cnt3 t:=by
  obtain ⟨d0,z0⟩:=treeX_dz h0
  obtain ⟨d1,-⟩:=treeX_dz h1
  obtain ⟨d2,-⟩:=treeX_dz h2
  exact Tr.ppL_len z0 d0 d1 d2
end Go.Proofs.YtmkejbfgdmbejaaGreatDoor
namespace Go.Proofs.YtmkejbfgdmbejaaGreatDoor
open Go.ChangeShapes Go.WideShapes Go.ChangeAt Go.RowKit
open Tr (T S4 Ent Chg Raw)
theorem Chs.raw {w:World} {A:Option Addr} {C:List Chg} (h:Chs w A C):RwL w w.heap.size A (C.map Tr.rawC):=by
  intro hn
  obtain ⟨b,off,hA,hb,hq⟩:=h (fun e => hn (by rw [e];rfl))
  refine ⟨b,off,hA,hb,fun i r hr => ?_⟩
  rw [List.getElem?_map] at hr
  obtain ⟨c,hc,rfl⟩:=Option.map_eq_some_iff.1 hr
  exact hq i c hc
end Go.Proofs.YtmkejbfgdmbejaaGreatDoor
