import Derived.Test.YtmkejbfgdmbejaaGreatDoorMVf
namespace Go.Proofs.YtmkejbfgdmbejaaGreatDoor
open Tr (T S4 Ent)
namespace Tr
open Go.Proofs.YtmkejbfgdmbejaaGreatDoor.Z
/-! ### changes -/
def CS (L:List Chg):Prop:=L.Pairwise fun a b=>key a.1<key b.1
theorem CS.ext:∀ {L M:List Chg},CS L→CS M→(∀ e,e∈L↔e∈M)→L=M
  | [],[],_,_,_=>rfl
  | [],b :: M,_,_,h=>by have:=(h b).2 List.mem_cons_self;cases this
  | a :: L,[],_,_,h=>by have:=(h a).1 List.mem_cons_self;cases this
  | a :: L,b :: M,hL,hM,h=>by
    obtain ⟨l1,l2⟩:=List.pairwise_cons.1 hL
    obtain ⟨m1,m2⟩:=List.pairwise_cons.1 hM
    have hab:a=b:=by
      rcases List.mem_cons.1 ((h a).1 List.mem_cons_self) with e | e
      · exact e
      · rcases List.mem_cons.1 ((h b).2 List.mem_cons_self) with f | f
        · exact f.symm
        · have:=l1 b f;have:=m1 a e;omega
    subst hab
    congr 1
    refine CS.ext l2 m2 fun e=>⟨fun he=>?_,fun he=>?_⟩
    · rcases List.mem_cons.1 ((h e).1 (List.mem_cons_of_mem _ he)) with f | f
      · rw[f] at he;have:=l1 a he;omega
      · exact f
    · rcases List.mem_cons.1 ((h e).2 (List.mem_cons_of_mem _ he)) with f | f
      · rw[f] at he;have:=m1 a he;omega
      · exact f
def chgAt (L M:List Ent) (p:List Nat):Option Chg:=if getE L p=getE M p then none else some (p,getE L p,getE M p)
def chL (L M:List Ent):List Chg:=(ptsU L M).filterMap fun e=>chgAt L M e.1
def IsChg (L M:List Ent) (c:Chg):Prop:=(∀ v,c.2.1=some v↔(c.1,v)∈L)∧(∀ v,c.2.2=some v↔(c.1,v)∈M)∧c.2.1≠c.2.2
theorem chgAt_fst {L M:List Ent} {p:List Nat} {c:Chg} (h:chgAt L M p=some c):c=(p,getE L p,getE M p)∧getE L p≠getE M p:=by
  unfold chgAt at h
  split at h
  · cases h
  · rename_i hne
    exact⟨(Option.some.inj h).symm,hne⟩
theorem cs_filterMap {L M:List Ent}:∀ {U:List Ent},ZS U→CS (U.filterMap fun e=>chgAt L M e.1)
  | [],_=>List.Pairwise.nil
  | e :: U,h=>by
    obtain ⟨h1,h2⟩:=List.pairwise_cons.1 h
    have ih:=cs_filterMap (L:=L) (M:=M) h2
    rw[List.filterMap_cons]
    split
    · exact ih
    · rename_i c hc
      refine List.pairwise_cons.2 ⟨fun d hd=>?_,ih⟩
      obtain ⟨f,hf,hfd⟩:=List.mem_filterMap.1 hd
      rw[(chgAt_fst hc).1,(chgAt_fst hfd).1]
      exact h1 f hf
section
variable {k:Nat} {L M:List Ent}
theorem chL_cs (zL:ZS L) (dL:Dim k L) (dM:Dim k M):CS (chL L M):=cs_filterMap (ptsU_zs zL dL dM).1
theorem mem_chL (zL:ZS L) (zM:ZS M) (dL:Dim k L) (dM:Dim k M) {c:Chg}:c∈chL L M↔IsChg L M c:=by
  obtain ⟨-,hd,-,hp⟩:=ptsU_zs zL dL dM
  unfold chL
  rw[List.mem_filterMap]
  constructor
  · rintro ⟨e,he,hc⟩
    obtain ⟨rfl,hne⟩:=chgAt_fst hc
    have de:=hd e he
    exact⟨fun v=>getE_iff zL dL de.1 de.2.1,fun v=>getE_iff zM dM de.1 de.2.1,hne⟩
  · rintro ⟨h1,h2,h3⟩
    obtain ⟨p,a,b⟩:=c
    simp only at h1 h2 h3
    have hex:(∃ v,(p,v)∈L)∨∃ v,(p,v)∈M:=by
      cases a with
      | some v=>exact .inl ⟨v,(h1 v).1 rfl⟩
      | none =>
        cases b with
        | some v=>exact .inr ⟨v,(h2 v).1 rfl⟩
        | none=>exact absurd rfl h3
    obtain ⟨u,hu⟩:=(hp p).2 hex
    have de:=hd _ hu
    have ea:getE L p=a:=by
      cases a with
      | some v=>exact (getE_iff zL dL de.1 de.2.1).2 ((h1 v).1 rfl)
      | none =>
        cases hg:getE L p with
        | none=>rfl
        | some v=>have:=(h1 v).2 ((getE_iff zL dL de.1 de.2.1).1 hg);cases this
    have eb:getE M p=b:=by
      cases b with
      | some v=>exact (getE_iff zM dM de.1 de.2.1).2 ((h2 v).1 rfl)
      | none =>
        cases hg:getE M p with
        | none=>rfl
        | some v=>have:=(h2 v).2 ((getE_iff zM dM de.1 de.2.1).1 hg);cases this
    refine⟨(p,u),hu,?_⟩
    unfold chgAt
    rw[ea,eb,if_neg h3]
theorem chL_uniq (zL:ZS L) (zM:ZS M) (dL:Dim k L) (dM:Dim k M) {X:List Chg} (hX:CS X) (h:∀ c,c∈X↔IsChg L M c):X=chL L M :=
  hX.ext (chL_cs zL dL dM) fun c=>(h c).trans (mem_chL zL zM dL dM).symm
theorem IsChg.point {c:Chg} (h:IsChg L M c):(∃ v,(c.1,v)∈L)∨∃ v,(c.1,v)∈M:=by
  obtain ⟨h1,h2,h3⟩:=h
  cases ha:c.2.1 with
  | some v=>exact .inl ⟨v,(h1 v).1 ha⟩
  | none =>
    cases hb:c.2.2 with
    | some v=>exact .inr ⟨v,(h2 v).1 hb⟩
    | none=>exact absurd (ha.trans hb.symm) h3
end
theorem chL_same (L:List Ent):chL L L=[]:=by
  unfold chL
  rw[List.filterMap_eq_nil_iff]
  intro e _
  simp[chgAt]
def swapC (c:Chg):Chg:=(c.1,c.2.2,c.2.1)
theorem chL_swap {k:Nat} {L M:List Ent} (zL:ZS L) (zM:ZS M) (dL:Dim k L) (dM:Dim k M):(chL L M).map swapC=chL M L:=by
  refine chL_uniq zM zL dM dL ?_ fun c=>?_
  · exact List.pairwise_map.2 ((chL_cs zL dL dM).imp fun {a b} h=>h)
  · rw[List.mem_map]
    constructor
    · rintro ⟨d,hd,rfl⟩
      obtain ⟨h1,h2,h3⟩:=(mem_chL zL zM dL dM).1 hd
      exact⟨h2,h1,fun e=>h3 e.symm⟩
    · rintro ⟨h1,h2,h3⟩
      exact⟨swapC c,(mem_chL zL zM dL dM).2 ⟨h2,h1,fun e=>h3 e.symm⟩,rfl⟩
theorem chL_nil {k:Nat} {L M:List Ent} (zL:ZS L) (zM:ZS M) (dL:Dim k L) (dM:Dim k M):chL L M=[]↔L=M:=by
  constructor
  · intro h
    refine ZS.ext zL zM fun e=>?_
    obtain ⟨p,v⟩:=e
    have key:∀ {A B:List Ent} (zA:ZS A) (zB:ZS B) (dA:Dim k A) (dB:Dim k B),chL A B=[]→∀ {p:List Nat} {v:Nat},(p,v)∈A→(p,v)∈B:=by
      intro A B zA zB dA dB h p v hv
      have de:=dA _ hv
      have hg:=(getE_iff zA dA de.1 de.2.1).2 hv
      refine (getE_iff zB dB de.1 de.2.1).1 ?_
      refine Classical.byContradiction fun hne=>?_
      have:((p,getE A p,getE B p):Chg)∈chL A B:=(mem_chL zA zB dA dB).2 ⟨fun v=>getE_iff zA dA de.1 de.2.1,fun v=>getE_iff zB dB de.1 de.2.1,by simp only;rw[hg];exact fun e=>hne e.symm⟩
      rw[h] at this
      cases this
    refine⟨fun hv=>key zL zM dL dM h hv,fun hv=>key zM zL dM dL ?_ hv⟩
    rw[← chL_swap zL zM dL dM,h]
    rfl
  · rintro rfl
    exact chL_same L
theorem chL_app {k:Nat} {A B L M:List Ent} (zA:ZS A) (zB:ZS B) (zL:ZS L) (zM:ZS M) (dA:Dim k A) (dB:Dim k B) (dL:Dim k L) (dM:Dim k M) (h1:Bef A L) (h2:Bef A M) (h3:Bef B L) (h4:Bef B M) :
    chL (A++L) (B++M)=chL A B++chL L M:=by
  have dAL:Dim k (A++L):=fun e he=>(List.mem_append.1 he).elim (dA e) (dL e)
  have dBM:Dim k (B++M):=fun e he=>(List.mem_append.1 he).elim (dB e) (dM e)
  refine (chL_uniq (h1.zs zA zL) (h4.zs zB zM) dAL dBM (List.pairwise_append.2 ⟨chL_cs zA dA dB,chL_cs zL dL dM,fun c hc d hd=>?_⟩) fun c=>?_).symm
  · rcases ((mem_chL zA zB dA dB).1 hc).point with ⟨v,hv⟩ | ⟨v,hv⟩<;>rcases ((mem_chL zL zM dL dM).1 hd).point with ⟨u,hu⟩ | ⟨u,hu⟩
    · exact h1 (c.1,v) hv (d.1,u) hu
    · exact h2 (c.1,v) hv (d.1,u) hu
    · exact h3 (c.1,v) hv (d.1,u) hu
    · exact h4 (c.1,v) hv (d.1,u) hu
  · have no:∀ p,((∃ v,(p,v)∈A)∨∃ v,(p,v)∈B)→∀ u,(p,u) ∉ L∧(p,u) ∉ M:=by
      rintro p (⟨v,hv⟩ | ⟨v,hv⟩) u
      · exact⟨fun hu=>Nat.lt_irrefl _ (h1 (p,v) hv (p,u) hu),fun hu=>Nat.lt_irrefl _ (h2 (p,v) hv (p,u) hu)⟩
      · exact⟨fun hu=>Nat.lt_irrefl _ (h3 (p,v) hv (p,u) hu),fun hu=>Nat.lt_irrefl _ (h4 (p,v) hv (p,u) hu)⟩
    have no':∀ p,((∃ v,(p,v)∈L)∨∃ v,(p,v)∈M)→∀ u,(p,u) ∉ A∧(p,u) ∉ B:=by
      rintro p (⟨v,hv⟩ | ⟨v,hv⟩) u
      · exact⟨fun hu=>(no p (.inl ⟨u,hu⟩) v).1 hv,fun hu=>(no p (.inr ⟨u,hu⟩) v).1 hv⟩
      · exact⟨fun hu=>(no p (.inl ⟨u,hu⟩) v).2 hv,fun hu=>(no p (.inr ⟨u,hu⟩) v).2 hv⟩
    rw[List.mem_append,mem_chL zA zB dA dB,mem_chL zL zM dL dM]
    constructor
    · rintro (hc | hc)
      · have hn:=no c.1 hc.point
        obtain ⟨a1,a2,a3⟩:=hc
        exact⟨fun v=>by rw[a1 v,List.mem_append];simp[(hn v).1],fun v=>by rw[a2 v,List.mem_append];simp[(hn v).2],a3⟩
      · have hn:=no' c.1 hc.point
        obtain ⟨a1,a2,a3⟩:=hc
        exact⟨fun v=>by rw[a1 v,List.mem_append];simp[(hn v).1],fun v=>by rw[a2 v,List.mem_append];simp[(hn v).2],a3⟩
    · intro hc
      have hp:=hc.point
      obtain ⟨a1,a2,a3⟩:=hc
      by_cases c1:(∃ v,(c.1,v)∈A)∨∃ v,(c.1,v)∈B
      · have hn:=no c.1 c1
        exact .inl ⟨fun v=>by rw[a1 v,List.mem_append];simp[(hn v).1],fun v=>by rw[a2 v,List.mem_append];simp[(hn v).2],a3⟩
      · have c2:(∃ v,(c.1,v)∈L)∨∃ v,(c.1,v)∈M:=by
          rcases hp with ⟨v,hv⟩ | ⟨v,hv⟩
          · rcases List.mem_append.1 hv with q | q
            · exact absurd (.inl ⟨v,q⟩) c1
            · exact .inl ⟨v,q⟩
          · rcases List.mem_append.1 hv with q | q
            · exact absurd (.inr ⟨v,q⟩) c1
            · exact .inr ⟨v,q⟩
        have hn:=no' c.1 c2
        exact .inr ⟨fun v=>by rw[a1 v,List.mem_append];simp[(hn v).1],fun v=>by rw[a2 v,List.mem_append];simp[(hn v).2],a3⟩
/-! ### two rows of kids side by side -/
def mrg:List (Nat × T)→List (Nat × T)→List Pr
  | [],ys=>ys.map fun y=>(y.1,none,some y.2)
  | x :: xs,[]=>(x :: xs).map fun x=>(x.1,some x.2,none)
  | x :: xs,y :: ys=>if x.1<y.1 then (x.1,some x.2,none) :: mrg xs (y :: ys) else if y.1<x.1 then (y.1,none,some y.2) :: mrg (x :: xs) ys else (x.1,some x.2,some y.2) :: mrg xs ys
termination_by xs ys=>xs.length+ys.length
theorem mrg_nil_l (ys:List (Nat × T)):mrg [] ys=ys.map fun y=>(y.1,none,some y.2):=by rw[mrg]
theorem mrg_nil_r (xs:List (Nat × T)):mrg xs []=xs.map fun x=>(x.1,some x.2,none):=by
  cases xs with
  | nil=>rw[mrg];rfl
  | cons x xs=>rw[mrg]
theorem mrg_lt {x y:Nat × T} (xs ys:List (Nat × T)) (h:x.1<y.1):mrg (x :: xs) (y :: ys)=(x.1,some x.2,none) :: mrg xs (y :: ys):=by rw[mrg,if_pos h]
theorem mrg_gt {x y:Nat × T} (xs ys:List (Nat × T)) (h:y.1<x.1):mrg (x :: xs) (y :: ys)=(y.1,none,some y.2) :: mrg (x :: xs) ys:=by rw[mrg,if_neg (by omega),if_pos h]
theorem mrg_eq {x y:Nat × T} (xs ys:List (Nat × T)) (h:x.1=y.1):mrg (x :: xs) (y :: ys)=(x.1,some x.2,some y.2) :: mrg xs ys:=by rw[mrg,if_neg (by omega),if_neg (by omega)]
theorem mrg_ind {P:List (Nat × T)→List (Nat × T)→Prop} (h1:∀ ys,P [] ys) (h2:∀ xs,P xs []) (h3:∀ x y xs ys,x.1<y.1→P xs (y :: ys)→P (x :: xs) (y :: ys)) (h4:∀ x y xs ys,y.1<x.1→P (x :: xs) ys→P (x :: xs) (y :: ys))
    (h5:∀ x y xs ys,x.1=y.1→P xs ys→P (x :: xs) (y :: ys)):∀ (n:Nat) (xs ys:List (Nat × T)),xs.length+ys.length≤n→P xs ys
  | _,[],ys,_=>h1 ys
  | _,x :: xs,[],_=>h2 _
  | 0,x :: xs,y :: ys,h=>by simp at h
  | n+1,x :: xs,y :: ys,h=>by
    simp only[List.length_cons] at h
    rcases Nat.lt_trichotomy x.1 y.1 with c | c | c
    · exact h3 _ _ _ _ c (mrg_ind h1 h2 h3 h4 h5 n _ _ (by simp only[List.length_cons];omega))
    · exact h5 _ _ _ _ c (mrg_ind h1 h2 h3 h4 h5 n _ _ (by omega))
    · exact h4 _ _ _ _ c (mrg_ind h1 h2 h3 h4 h5 n _ _ (by simp only[List.length_cons];omega))
theorem mem_mrg {q:Pr} (xs ys:List (Nat × T)):q∈mrg xs ys→(∀ s,q.2.1=some s→(q.1,s)∈xs)∧(∀ s,q.2.2=some s→(q.1,s)∈ys)∧(q.2.1≠none∨q.2.2≠none):=by
  refine mrg_ind (P:=fun xs ys=>q∈mrg xs ys→(∀ s,q.2.1=some s→(q.1,s)∈xs)∧(∀ s,q.2.2=some s→(q.1,s)∈ys)∧(q.2.1≠none∨q.2.2≠none)) ?_ ?_ ?_ ?_ ?_ _ xs ys (Nat.le_refl _)
  · intro ys h
    rw[mrg_nil_l,List.mem_map] at h
    obtain ⟨y,hy,rfl⟩:=h
    exact⟨fun s e=>(by have e':(none:Option T)=some s:=e;cases e'),fun s e=>(by have e':some y.2=some s:=e;cases e';exact hy),.inr (by simp)⟩
  · intro xs h
    rw[mrg_nil_r,List.mem_map] at h
    obtain ⟨x,hx,rfl⟩:=h
    exact⟨fun s e=>(by have e':some x.2=some s:=e;cases e';exact hx),fun s e=>(by have e':(none:Option T)=some s:=e;cases e'),.inl (by simp)⟩
  · intro x y xs ys hlt ih h
    rw[mrg_lt xs ys hlt] at h
    rcases List.mem_cons.1 h with rfl | h
    · exact⟨fun s e=>(by have e':some x.2=some s:=e;cases e';exact List.mem_cons_self),fun s e=>(by have e':(none:Option T)=some s:=e;cases e'),.inl (by simp)⟩
    · obtain ⟨a,b,c⟩:=ih h
      exact⟨fun s e=>List.mem_cons_of_mem _ (a s e),b,c⟩
  · intro x y xs ys hlt ih h
    rw[mrg_gt xs ys hlt] at h
    rcases List.mem_cons.1 h with rfl | h
    · exact⟨fun s e=>(by have e':(none:Option T)=some s:=e;cases e'),fun s e=>(by have e':some y.2=some s:=e;cases e';exact List.mem_cons_self),.inr (by simp)⟩
    · obtain ⟨a,b,c⟩:=ih h
      exact⟨a,fun s e=>List.mem_cons_of_mem _ (b s e),c⟩
  · intro x y xs ys heq ih h
    rw[mrg_eq xs ys heq] at h
    rcases List.mem_cons.1 h with rfl | h
    · exact⟨fun s e=>(by have e':some x.2=some s:=e;cases e';exact List.mem_cons_self),fun s e=>(by have e':some y.2=some s:=e;cases e';simp only[heq];exact List.mem_cons_self),.inl (by simp)⟩
    · obtain ⟨a,b,c⟩:=ih h
      exact⟨fun s e=>List.mem_cons_of_mem _ (a s e),fun s e=>List.mem_cons_of_mem _ (b s e),c⟩
def chO (x y:Option T):List Chg:=chL (entsO x) (entsO y)
def chM (qs:List Pr):List Chg:=qs.flatMap fun q=>chO q.2.1 q.2.2
theorem bef_nil_l (L:List Ent):Bef [] L:=fun e he=>by cases he
theorem bef_nil_r (L:List Ent):Bef L []:=fun e _ f hf=>by cases hf
theorem chM_mrg {k l:Nat} (hl:l<64) {c0:List Nat} (xs ys:List (Nat × T)):FitL k l c0 xs→FitL k l c0 ys→chM (mrg xs ys)=chL (entsL xs) (entsL ys):=by
  refine mrg_ind (P:=fun xs ys=>FitL k l c0 xs→FitL k l c0 ys→chM (mrg xs ys)=chL (entsL xs) (entsL ys)) ?_ ?_ ?_ ?_ ?_ _ xs ys (Nat.le_refl _)
  · intro ys
    induction ys with
    | nil=>intro _ _;rw[mrg_nil_l];exact (chL_same []).symm
    | cons y ys ih =>
      intro hx hy
      have h:=ih hx hy.tail
      rw[mrg_nil_l] at h ⊢
      obtain ⟨w,-⟩:=hy.2 y List.mem_cons_self
      obtain ⟨z,d⟩:=fit_zd hl hy.tail
      rw[List.map_cons,chM,List.flatMap_cons,entsL_cons,entsL_nil]
      have h2:=chL_app (k:=k) ZS.nil w.zs ZS.nil z (dim_nil k) w.dim (dim_nil k) d (bef_nil_l _) (bef_nil_l _) (bef_nil_r _) (fit_befL hl hy hy.tail List.mem_cons_self hy.1.head)
      rw[List.nil_append] at h2
      rw[h2]
      rw[entsL_nil] at h
      exact congrArg _ h
  · intro xs
    induction xs with
    | nil=>intro _ _;rw[mrg_nil_l];exact (chL_same []).symm
    | cons x xs ih =>
      intro hx hy
      have h:=ih hx.tail hy
      rw[mrg_nil_r] at h ⊢
      obtain ⟨w,-⟩:=hx.2 x List.mem_cons_self
      obtain ⟨z,d⟩:=fit_zd hl hx.tail
      rw[List.map_cons,chM,List.flatMap_cons,entsL_cons,entsL_nil]
      have h2:=chL_app (k:=k) w.zs ZS.nil z ZS.nil w.dim (dim_nil k) d (dim_nil k) (fit_befL hl hx hx.tail List.mem_cons_self hx.1.head) (bef_nil_r _) (bef_nil_l _) (bef_nil_l _)
      rw[List.nil_append] at h2
      rw[h2]
      rw[entsL_nil] at h
      exact congrArg _ h
  · intro x y xs ys hlt ih hx hy
    have h:=ih hx.tail hy
    obtain ⟨w,-⟩:=hx.2 x List.mem_cons_self
    obtain ⟨z,d⟩:=fit_zd hl hx.tail
    obtain ⟨zy,dy⟩:=fit_zd hl hy
    have hall:∀ z∈y :: ys,x.1<z.1:=fun z hz=>by
      rcases List.mem_cons.1 hz with rfl | hz
      · exact hlt
      · exact Nat.lt_trans hlt (hy.1.head z hz)
    rw[mrg_lt xs ys hlt,chM,List.flatMap_cons,entsL_cons x xs]
    have h2:=chL_app (k:=k) w.zs ZS.nil z zy w.dim (dim_nil k) d dy (fit_befL hl hx hx.tail List.mem_cons_self hx.1.head) (fit_befL hl hx hy List.mem_cons_self hall) (bef_nil_l _) (bef_nil_l _)
    rw[List.nil_append] at h2
    rw[h2]
    exact congrArg _ h
  · intro x y xs ys hlt ih hx hy
    have h:=ih hx hy.tail
    obtain ⟨w,-⟩:=hy.2 y List.mem_cons_self
    obtain ⟨z,d⟩:=fit_zd hl hy.tail
    obtain ⟨zx,dx⟩:=fit_zd hl hx
    have hall:∀ z∈x :: xs,y.1<z.1:=fun z hz=>by
      rcases List.mem_cons.1 hz with rfl | hz
      · exact hlt
      · exact Nat.lt_trans hlt (hx.1.head z hz)
    rw[mrg_gt xs ys hlt,chM,List.flatMap_cons,entsL_cons y ys]
    have h2:=chL_app (k:=k) ZS.nil w.zs zx z (dim_nil k) w.dim dx d (bef_nil_l _) (bef_nil_l _) (fit_befL hl hy hx List.mem_cons_self hall) (fit_befL hl hy hy.tail List.mem_cons_self hy.1.head)
    rw[List.nil_append] at h2
    rw[h2]
    exact congrArg _ h
  · intro x y xs ys heq ih hx hy
    have h:=ih hx.tail hy.tail
    obtain ⟨w,-⟩:=hx.2 x List.mem_cons_self
    obtain ⟨v,-⟩:=hy.2 y List.mem_cons_self
    obtain ⟨zx,dx⟩:=fit_zd hl hx.tail
    obtain ⟨zy,dy⟩:=fit_zd hl hy.tail
    rw[mrg_eq xs ys heq,chM,List.flatMap_cons,entsL_cons x xs,entsL_cons y ys]
    have h2:=chL_app (k:=k) w.zs v.zs zx zy w.dim v.dim dx dy (fit_befL hl hx hx.tail List.mem_cons_self hx.1.head) (fit_befL hl hx hy.tail List.mem_cons_self fun z hz=>by rw[heq];exact hy.1.head z hz)
      (fit_befL hl hy hx.tail List.mem_cons_self fun z hz=>by rw[← heq];exact hx.1.head z hz) (fit_befL hl hy hy.tail List.mem_cons_self hy.1.head)
    rw[h2]
    exact congrArg _ h
end Tr
namespace Tr
open Go.Proofs.YtmkejbfgdmbejaaGreatDoor.Z
/-! ### from an address on -/
theorem dropF_nil {L:List (Nat × T)} (hs:Sl.Srt L) {n m:Nat} (hnm:n≤m) (h:dropF L n=[]):dropF L m=[]:=by
  exact (dropF_skip hs hnm (fun x xs e=>by rw[h] at e;cases e)).trans h
/-! ### sides,frames -/
def remF (f:Fr):List Pr:=mrg (dropF f.x.L f.n) (dropF f.y.L f.n)
def FrOk (k l:Nat) (f:Fr):Prop:=∃ c0,FitL k l c0 f.x.L∧FitL k l c0 f.y.L∧l<64∧f.n≤65536
def PairOk (k n:Nat) (x y:Option T):Prop:=(∀ t,x=some t→Wf k t∧t.lv≤n)∧(∀ t,y=some t→Wf k t∧t.lv≤n)∧∀ s t,x=some s→y=some t→cut s.pre n=cut t.pre n
theorem FrOk.mem {k l:Nat} {f:Fr} (h:FrOk k l f) {q:Pr} (hq:q∈remF f):PairOk k l q.2.1 q.2.2∧(∀ s,q.2.1=some s→(q.1,s)∈f.x.L)∧(∀ s,q.2.2=some s→(q.1,s)∈f.y.L):=by
  obtain ⟨c0,hx,hy,hl,-⟩:=h
  obtain ⟨m1,m2,m3⟩:=mem_mrg _ _ hq
  have a1:∀ s,q.2.1=some s→(q.1,s)∈f.x.L:=fun s e=>dropF_mem (m1 s e)
  have a2:∀ s,q.2.2=some s→(q.1,s)∈f.y.L:=fun s e=>dropF_mem (m2 s e)
  refine⟨⟨fun t e=>⟨(hx.2 _ (a1 t e)).1,(hx.2 _ (a1 t e)).2.1⟩,fun t e=>⟨(hy.2 _ (a2 t e)).1,(hy.2 _ (a2 t e)).2.1⟩,fun s t e e'=>?_⟩,a1,a2⟩
  obtain ⟨w1,-,c1,d1⟩:=hx.2 _ (a1 s e)
  obtain ⟨w2,-,c2,d2⟩:=hy.2 _ (a2 t e')
  exact cut_down (by rw[w1.len,w2.len]) w1.ok w2.ok (c1.trans c2.symm) (d1.trans d2.symm)
theorem FrOk.addr {k l:Nat} {f:Fr} (h:FrOk k l f):(∀ x∈f.x.L,x.1<65536)∧∀ x∈f.y.L,x.1<65536:=by
  obtain ⟨c0,hx,hy,hl,-⟩:=h
  have key:∀ {L:List (Nat × T)},FitL k l c0 L→∀ x∈L,x.1<65536:=fun hL x hm=>by
    obtain ⟨w,-,-,ha⟩:=hL.2 x hm
    have h1:=addr_bound x.2.pre l
    rw[ha,w.len] at h1
    exact Nat.lt_of_lt_of_le h1 (Nat.pow_le_pow_right (n:=2) (by omega) w.k16)
  exact⟨key hx,key hy⟩
theorem FrOk.to {k l:Nat} {f:Fr} (h:FrOk k l f) {n:Nat} (hn:n≤65536):FrOk k l (f.to n):=by
  obtain ⟨c0,hx,hy,hl,-⟩:=h
  exact⟨c0,hx,hy,hl,hn⟩
theorem rem_none {f:Fr}:remF f=[]↔dropF f.x.L f.n=[]∧dropF f.y.L f.n=[]:=by
  unfold remF
  constructor
  · intro h
    cases hx:dropF f.x.L f.n with
    | nil =>
      rw[hx,mrg_nil_l] at h
      exact⟨rfl,List.map_eq_nil_iff.1 h⟩
    | cons x xs =>
      cases hy:dropF f.y.L f.n with
      | nil=>rw[hx,hy,mrg_nil_r] at h;cases h
      | cons y ys =>
        rw[hx,hy] at h
        rcases Nat.lt_trichotomy x.1 y.1 with c | c | c
        · rw[mrg_lt _ _ c] at h;cases h
        · rw[mrg_eq _ _ c] at h;cases h
        · rw[mrg_gt _ _ c] at h;cases h
  · rintro ⟨h1,h2⟩
    rw[h1,h2,mrg_nil_l]
    rfl
theorem rem_step {k l:Nat} {f:Fr} (h:FrOk k l f) (hne:remF f≠[]):∃ r,remF f=(min (hdA (dropF f.x.L f.n)) (hdA (dropF f.y.L f.n)),(if min (hdA (dropF f.x.L f.n)) (hdA (dropF f.y.L f.n))<hdA (dropF f.x.L f.n) then none else hdT (dropF f.x.L f.n)),(if min (hdA (dropF f.x.L f.n)) (hdA (dropF f.y.L f.n))<hdA (dropF f.y.L f.n) then none else hdT (dropF f.y.L f.n))) :: r ∧
    remF (f.to (min (hdA (dropF f.x.L f.n)) (hdA (dropF f.y.L f.n))+1))=r∧min (hdA (dropF f.x.L f.n)) (hdA (dropF f.y.L f.n))<65536:=by
  obtain ⟨ax,ay⟩:=h.addr
  obtain ⟨c0,hx,hy,hl,-⟩:=h
  cases ex:dropF f.x.L f.n with
  | nil =>
    cases ey:dropF f.y.L f.n with
    | nil=>exact absurd (rem_none.2 ⟨ex,ey⟩) hne
    | cons y ys =>
      have hy5:=ay y (dropF_mem (by rw[ey];exact List.mem_cons_self))
      have hm:min (hdA []) (hdA (y :: ys))=y.1:=by simp only[hdA];omega
      rw[hm]
      refine⟨ys.map fun y=>(y.1,none,some y.2),?_,?_,hy5⟩
      · unfold remF
        rw[ex,ey,mrg_nil_l,List.map_cons]
        simp[hdA,hdT,hy5]
      · unfold remF Fr.to
        simp only
        rw[dropF_nil hx.1 (by have:=dropF_ge ey;omega) ex,dropF_step hy.1 ey,mrg_nil_l]
  | cons x xs =>
    have hx5:=ax x (dropF_mem (by rw[ex];exact List.mem_cons_self))
    cases ey:dropF f.y.L f.n with
    | nil =>
      have hm:min (hdA (x :: xs)) (hdA [])=x.1:=by simp only[hdA];omega
      rw[hm]
      refine⟨xs.map fun x=>(x.1,some x.2,none),?_,?_,hx5⟩
      · unfold remF
        rw[ex,ey,mrg_nil_r,List.map_cons]
        simp[hdA,hdT,hx5]
      · unfold remF Fr.to
        simp only
        rw[dropF_nil hy.1 (by have:=dropF_ge ex;omega) ey,dropF_step hx.1 ex,mrg_nil_r]
    | cons y ys =>
      have hy5:=ay y (dropF_mem (by rw[ey];exact List.mem_cons_self))
      rcases Nat.lt_trichotomy x.1 y.1 with c | c | c
      · have hm:min (hdA (x :: xs)) (hdA (y :: ys))=x.1:=by simp only[hdA];omega
        rw[hm]
        refine⟨mrg xs (y :: ys),?_,?_,hx5⟩
        · unfold remF
          rw[ex,ey,mrg_lt _ _ c]
          simp[hdA,hdT,c]
        · unfold remF Fr.to
          simp only
          rw[dropF_step hx.1 ex,dropF_skip (n:=f.n) (m:=x.1+1) hy.1 (by have:=dropF_ge ex;omega) (fun z zs e=>by rw[ey,List.cons.injEq] at e;rw[← e.1];exact c),ey]
      · have hm:min (hdA (x :: xs)) (hdA (y :: ys))=x.1:=by simp only[hdA];omega
        rw[hm]
        refine⟨mrg xs ys,?_,?_,hx5⟩
        · unfold remF
          rw[ex,ey,mrg_eq _ _ c]
          simp[hdA,hdT,c]
        · unfold remF Fr.to
          simp only
          rw[dropF_step hx.1 ex,c,dropF_step hy.1 ey]
      · have hm:min (hdA (x :: xs)) (hdA (y :: ys))=y.1:=by simp only[hdA];omega
        rw[hm]
        refine⟨mrg (x :: xs) ys,?_,?_,hy5⟩
        · unfold remF
          rw[ex,ey,mrg_gt _ _ c]
          simp[hdA,hdT,c]
        · unfold remF Fr.to
          simp only
          rw[dropF_step hy.1 ey,dropF_skip (n:=f.n) (m:=y.1+1) hx.1 (by have:=dropF_ge ey;omega) (fun z zs e=>by rw[ex,List.cons.injEq] at e;rw[← e.1];exact c),ex]
/-! ### how much there is to be done -/
theorem wgt_pos (x y:Option T):1≤wgt x y:=by unfold wgt;omega
theorem wM_nil:wM []=0:=rfl
theorem wM_cons (q:Pr) (qs:List Pr):wM (q :: qs)=wgt q.2.1 q.2.2+wM qs:=by simp[wM]
theorem chM_cons (q:Pr) (qs:List Pr):chM (q :: qs)=chO q.2.1 q.2.2++chM qs:=by simp[chM]
theorem wM_mrg (xs ys:List (Nat × T)):wM (mrg xs ys)≤2*((allK xs).length+(allK ys).length):=by
  refine mrg_ind (P:=fun xs ys=>wM (mrg xs ys)≤2*((allK xs).length+(allK ys).length)) ?_ ?_ ?_ ?_ ?_ _ xs ys (Nat.le_refl _)
  · intro ys
    induction ys with
    | nil=>rw[mrg_nil_l];simp[wM]
    | cons y ys ih =>
      rw[mrg_nil_l] at ih ⊢
      have:=all_pos y.2
      rw[List.map_cons,wM_cons,allK_cons,List.length_append]
      simp only[wgt,allO,List.length_nil] at ih ⊢
      omega
  · intro xs
    induction xs with
    | nil=>rw[mrg_nil_l];simp[wM]
    | cons x xs ih =>
      rw[mrg_nil_r] at ih ⊢
      have:=all_pos x.2
      rw[List.map_cons,wM_cons,allK_cons,List.length_append]
      simp only[wgt,allO,List.length_nil] at ih ⊢
      omega
  · intro x y xs ys h ih
    have:=all_pos x.2
    rw[mrg_lt xs ys h,wM_cons,allK_cons x,List.length_append]
    simp only[wgt,allO,List.length_nil] at ih ⊢
    omega
  · intro x y xs ys h ih
    have:=all_pos y.2
    rw[mrg_gt xs ys h,wM_cons,allK_cons y,List.length_append]
    simp only[wgt,allO,List.length_nil] at ih ⊢
    omega
  · intro x y xs ys h ih
    have:=all_pos x.2
    have:=all_pos y.2
    rw[mrg_eq xs ys h,wM_cons,allK_cons x,allK_cons y,List.length_append,List.length_append]
    simp only[wgt,allO] at ih ⊢
    omega
/-! ### a pair's frame -/
def lvl (x y:T):Int:=max (max (Z.part x.pre y.pre) ((x.lv:Int) - 1)) ((y.lv:Int) - 1)
def frOf (x y:T) (l:Nat):Fr:=⟨sdOf x l,sdOf y l,0⟩
theorem frame_new {k n l:Nat} {x y:T} (hx:Wf k x) (hy:Wf k y) (hxn:x.lv≤n) (hyn:y.lv≤n) (hn:n≤64) (hc:cut x.pre n=cut y.pre n) (hl:lvl x y=(l:Int)) :
    FrOk k l (frOf x y l)∧l+1≤n∧chM (remF (frOf x y l))=chO (some x) (some y)∧wM (remF (frOf x y l))+1≤wgt (some x) (some y):=by
  have hp:Z.part x.pre y.pre<(n:Int):=(cut_eq_iff (by rw[hx.len,hy.len]) hx.ok hy.ok n).1 hc
  unfold lvl at hl
  have hln:l+1≤n:=by omega
  obtain ⟨fx,ex,sx⟩:=sd_ents l (by omega) hx
  obtain ⟨fy,ey,sy⟩:=sd_ents l (by omega) hy
  have hcc:cut x.pre (l+1)=cut y.pre (l+1):=(cut_eq_iff (by rw[hx.len,hy.len]) hx.ok hy.ok (l+1)).2 (by omega)
  rw[← hcc] at fy
  have hr:remF (frOf x y l)=mrg (sdOf x l).L (sdOf y l).L:=by
    unfold remF frOf
    simp only
    rw[dropF_zero,dropF_zero]
  refine⟨⟨_,fx,fy,by omega,by show 0≤65536;omega⟩,hln,?_,?_⟩
  · rw[hr,chM_mrg (by omega) _ _ fx fy,ex,ey]
    rfl
  · rw[hr]
    have hm:=wM_mrg (sdOf x l).L (sdOf y l).L
    have px:=all_pos x
    have py:=all_pos y
    have hw:wgt (some x) (some y)=2*(x.all.length+y.all.length) - 1:=by simp only[wgt,allO];omega
    rw[hw]
    rcases sx with ⟨c1,s1⟩ | ⟨c1,s1⟩
    · rcases sy with ⟨c2,s2⟩ | ⟨c2,s2⟩
      · omega
      · rw[s2] at hm ⊢
        have:(allK [(addr y.pre l,y)]).length=y.all.length:=by simp[allK]
        omega
    · rcases sy with ⟨c2,s2⟩ | ⟨c2,s2⟩
      · rw[s1] at hm ⊢
        have:(allK [(addr x.pre l,x)]).length=x.all.length:=by simp[allK]
        omega
      · rw[s1,s2]
        have hpl:Z.part x.pre y.pre=(l:Int):=by omega
        have hne:addr x.pre l≠addr y.pre l:=fun e=>by
          have h1:=cut_down (by rw[hx.len,hy.len]) hx.ok hy.ok hcc e
          have:=(cut_eq_iff (by rw[hx.len,hy.len]) hx.ok hy.ok l).1 h1
          omega
        rcases Nat.lt_or_gt_of_ne hne with c | c
        · rw[mrg_lt _ _ (by exact c),mrg_nil_l]
          simp only[List.map_cons,List.map_nil,wM_cons,wM_nil,wgt,allO,List.length_nil]
          omega
        · rw[mrg_gt _ _ (by exact c),mrg_nil_r]
          simp only[List.map_cons,List.map_nil,wM_cons,wM_nil,wgt,allO,List.length_nil]
          omega
theorem lvl_ent {k:Nat} {x y:T} (hx:Wf k x) (hy:Wf k y):(∃ l:Nat,lvl x y=(l:Int))∨(lvl x y=-1∧∃ g g' p v u,x=.ent g p v∧y=.ent g' p u):=by
  have hb:=part_bd (by rw[hx.len,hy.len]) hx.ok hy.ok
  by_cases c:lvl x y<0
  · right
    unfold lvl at c ⊢
    have h1:x.lv=0:=by omega
    have h2:y.lv=0:=by omega
    have h3:x.pre=y.pre:=(part_neg (by rw[hx.len,hy.len]) hx.ok hy.ok).1 (by omega)
    refine⟨by omega,?_⟩
    cases x with
    | br g l pre ks=>simp[T.lv] at h1
    | ent g p v =>
      cases y with
      | br g l pre ks=>simp[T.lv] at h2
      | ent g' q u =>
        have h4:p=q:=h3
        subst h4
        exact⟨g,g',p,v,u,rfl,rfl⟩
  · exact .inl ⟨(lvl x y).toNat,by omega⟩
/-! ### the stack -/
def chS (S:List Fl):List Chg:=S.flatMap fun f=>chM (remF f.2)
def wS (S:List Fl):Nat:=(S.map fun f=>wM (remF f.2)).sum
theorem chS_nil:chS []=[]:=rfl
theorem chS_cons (f:Fl) (S:List Fl):chS (f :: S)=chM (remF f.2)++chS S:=by simp[chS]
theorem wS_cons (f:Fl) (S:List Fl):wS (f :: S)=wM (remF f.2)+wS S:=by simp[wS]
def LevS:List Fl→Prop
  | []=>True
  | f :: S=>f.1+(S.length+1)≤64∧LevS S
theorem LevS.room:∀ {S:List Fl},LevS S→room S+S.length≤64
  | [],_=>Nat.le_refl _
  | _ :: _,h=>h.1
theorem pair_top {k:Nat} {x y:Option T} (hx:∀ t,x=some t→Wf k t) (hy:∀ t,y=some t→Wf k t):PairOk k 64 x y :=
  ⟨fun t e=>⟨hx t e,(hx t e).lv64⟩,fun t e=>⟨hy t e,(hy t e).lv64⟩,fun s t e e'=>cut_top (by rw[(hx s e).len,(hy t e').len]) (hx s e).ok (hy t e').ok⟩
end Tr
end Go.Proofs.YtmkejbfgdmbejaaGreatDoor
namespace Go.Proofs.YtmkejbfgdmbejaaGreatDoor
open Go.ChangeShapes Go.WideShapes Go.ChangeAt Go.RowKit
open Tr (T S4 Ent Sd Fl)
theorem dHas_c (p:Option Addr) (kd:Bool) (a b:Nat) (w:World) :
    Calls Tryz.prog 189 #[sdV p kd a,.int .i64 (b:Int)] w fun e w'=>∃ r,e=.returned (.bool r)∧Below w.heap.size w w':=by
  have hb:=below_alloc w (.cells #[.pointer p,.bool kd,.int .i64 (a:Int)] 246)
  cases kd with
  | true =>
    go_enter Tryz.func189,Tryz.ntmps189
    go_wp2
    go_ret
    exact⟨_,rfl,hb⟩
  | false =>
    go_enter Tryz.func189,Tryz.ntmps189
    go_wp2
    go_ret
    exact⟨_,rfl,hb⟩
theorem dFrom_kno {w:World} {B k:Nat} {t:T} (h:Node w B k t) (hB:B≤w.heap.size) (hT:∀ w',Below w.heap.size w w'→Tz w') (a n:Nat) (hn:n≤65536) (hd:t.ks[Sl.idx t.ks (n:Int)]?=none) :
    Calls Tryz.prog 188 #[sdV (some ⟨t.blk,0,none⟩) true a,.int .i64 (n:Int)] w fun e w'=>e=.returned (.tuple #[.int .i64 65536,.pointer none])∧Below w.heap.size w w':=by
  have HF:Hid (∀ w1,Below w.heap.size w w1→Calls Tryz.prog 143 #[.pointer (some ⟨t.blk,0,none⟩),.int .i64 (n:Int)] w1 fun e w'=>e=.returned (atKid 0 none)∧Below w.heap.size w w'):=Lib.hid fun w1 hb =>
    (nFrom_c (h.below hb hB (Nat.le_refl _)).2 (hT w1 hb) (n:Int) (by omega) (by omega) (0,none) (by rw[hd];rfl)).mono fun e w' ⟨he,m,hw⟩=>⟨he,by rw[hw];exact below_drewN _ hb⟩
  have hb0:=below_alloc w (.cells #[.pointer (some ⟨t.blk,0,none⟩),.bool true,.int .i64 (a:Int)] 246)
  clear h hB hT hn hd
  go_enter Tryz.func188,Tryz.ntmps188
  go_wp2_with fail
  go_quiet (fail)
  have hb1:=below_drewN nq hb0
  go_wp2_with (go_at_call 143;refine (HF.out _ hb1).mono ?_;rintro e w2 ⟨rfl,hb2⟩)
  go_ret2
  exact⟨rfl,hb2⟩
theorem dFrom_kyes {w:World} {B k:Nat} {t s:T} (h:Node w B k t) (hB:B≤w.heap.size) (hT:∀ w',Below w.heap.size w w'→Tz w') (a n b:Nat) (hn:n≤65536) (hd:t.ks[Sl.idx t.ks (n:Int)]?=some (b,s)) :
    Calls Tryz.prog 188 #[sdV (some ⟨t.blk,0,none⟩) true a,.int .i64 (n:Int)] w fun e w'=>e=.returned (.tuple #[.int .i64 (b:Int),.pointer (some ⟨s.blk,0,none⟩)])∧Below w.heap.size w w':=by
  have HF:Hid (∀ w1,Below w.heap.size w w1→Calls Tryz.prog 143 #[.pointer (some ⟨t.blk,0,none⟩),.int .i64 (n:Int)] w1 fun e w'=>e=.returned (atKid b (some ⟨s.blk,0,none⟩))∧Below w.heap.size w w'):=Lib.hid fun w1 hb =>
    (nFrom_c (h.below hb hB (Nat.le_refl _)).2 (hT w1 hb) (n:Int) (by omega) (by omega) (b,some ⟨s.blk,0,none⟩) (by rw[hd];rfl)).mono fun e w' ⟨he,m,hw⟩=>⟨he,by rw[hw];exact below_drewN _ hb⟩
  have hb0:=below_alloc w (.cells #[.pointer (some ⟨t.blk,0,none⟩),.bool true,.int .i64 (a:Int)] 246)
  have hge:n≤b:=by
    have:=Sl.idx_at t.ks (n:Int) (b,s) hd
    simp only at this
    omega
  have d1:decide ((b:Int)<(n:Int))=false:=decide_eq_false (by omega)
  have d1':decide (b<n)=false:=decide_eq_false (by omega)
  clear h hB hT hn hd hge
  go_enter Tryz.func188,Tryz.ntmps188
  go_wp2_with fail
  go_quiet (fail)
  have hb1:=below_drewN nq hb0
  go_wp2_with (go_at_call 143;refine (HF.out _ hb1).mono ?_;rintro e w2 ⟨rfl,hb2⟩)
  go_ret2
  exact⟨rfl,hb2⟩
theorem dFrom_one (p:Addr) (w:World) (a n:Nat) (r:Bool) (hr:decide (a<n)=r) :
    Calls Tryz.prog 188 #[sdV (some p) false a,.int .i64 (n:Int)] w fun e w'=>e=.returned (.tuple #[.int .i64 (if r then 65536 else (a:Int)),.pointer (if r then none else some p)])∧Below w.heap.size w w':=by
  have hb0:=below_alloc w (.cells #[.pointer (some p),.bool false,.int .i64 (a:Int)] 246)
  have d1:decide ((a:Int)<(n:Int))=r:=by rw[← hr];simp
  cases r with
  | true =>
    go_enter Tryz.func188,Tryz.ntmps188
    go_wp2_with fail
    go_quiet (fail)
    have hb1:=below_drewN nq hb0
    go_wp2_with fail
    go_ret2
    exact⟨rfl,hb1⟩
  | false =>
    go_enter Tryz.func188,Tryz.ntmps188
    go_wp2_with fail
    go_quiet (fail)
    have hb1:=below_drewN nq hb0
    go_wp2_with fail
    go_ret2
    exact⟨rfl,hb1⟩
theorem dFrom_c {w:World} {B k:Nat} {s:Sd} (h:Node w B k s.t) (hB:B≤w.heap.size) (hT:∀ w',Below w.heap.size w w'→Tz w') (n:Nat) (hn:n≤65536) (i:Nat) (o:Option T) (hi:Tr.hdA (Tr.dropF s.L n)=i) (ho:Tr.hdT (Tr.dropF s.L n)=o) :
    Calls Tryz.prog 188 #[sdV (some ⟨s.t.blk,0,none⟩) s.kd s.a,.int .i64 (n:Int)] w fun e w'=>e=.returned (.tuple #[.int .i64 (i:Int),.pointer (rootP o)])∧Below w.heap.size w w':=by
  subst hi ho
  obtain ⟨t,kd,a⟩:=s
  cases kd with
  | true =>
    have hL:(Sd.mk t true a).L=t.ks:=rfl
    simp only[hL]
    cases hd:Tr.dropF t.ks n with
    | nil =>
      have h1:t.ks[Sl.idx t.ks (n:Int)]?=none:=by rw[Tr.dropF_head,hd];rfl
      exact dFrom_kno h hB hT a n hn h1
    | cons x xs=>exact dFrom_kyes h hB hT a n x.1 hn (Tr.dropF_at hd)
  | false =>
    have hL:(Sd.mk t false a).L=[(a,t)]:=rfl
    simp only[hL,idx_single]
    refine (dFrom_one ⟨t.blk,0,none⟩ w a n (decide (a<n)) rfl).mono fun e w' he=>?_
    by_cases c:a<n
    · simp only[decide_eq_true c,if_true] at he ⊢;exact he
    · simp only[decide_eq_false c] at he ⊢;exact he
/-! ### sideOf,stepOf -/
theorem dSide_c {w:World} {B k:Nat} {t:T} (h:Node w B k t) (hB:B≤w.heap.size) (A:Option Addr) (c:Nat) (hp:Pts w w.heap.size A t.pre) (l:Nat) (hl:l≤63) {n:Nat} (hn:t.pre.length=n) {a:Nat} (ha:Z.addr t.pre l=a) {r:Bool} (hr:decide (t.lv=l+1)=r) :
    Calls Tryz.prog 187 #[.pointer (some ⟨t.blk,0,none⟩),.slice A n c,.int .i64 (l:Int)] w fun e w'=>e=.returned (sdV (some ⟨t.blk,0,none⟩) r a)∧Below w.heap.size w w':=by
  obtain ⟨kp,hnd⟩:=h.2.nd
  have hlen:=h.1.len
  have k1:=h.1.k1
  have k16:=h.1.k16
  have hb0:=below_alloc w (.cells #[.pointer none,.bool false,.int .i64 0] 246)
  have HA:=Lib.hid fun (w1:World) (hb:Below w.heap.size w w1)=>addr_yes A c t.pre l w.heap.size w1 (hp.below' hb (Nat.le_refl _)) (by omega) (by omega) hl
  have HL:=Lib.hid fun (w1:World) (hb:Below w.heap.size w w1)=>nLevel_c (hnd.below hb hB (Nat.le_refl _))
  have d1:(levI t == (l:Int))=r:=by
    rw[← hr]
    unfold levI
    by_cases c:t.lv=l+1
    · rw[decide_eq_true c,beq_iff_eq];omega
    · rw[decide_eq_false c,beq_eq_false_iff_ne];omega
  rw[ha,hn] at HA
  clear h hB hp hl hn ha hr hnd hlen k1 k16
  generalize levI t=lv at *
  go_enter Tryz.func187,Tryz.ntmps187
  go_wp2_with (first
    | (go_at_call 132;refine (HA.out _ hb0).mono ?_;rintro e w' ⟨rfl,rfl⟩)
    | (go_at_call 100;refine (HL.out _ hb0).mono ?_;rintro e w' ⟨rfl,rfl⟩))
  refine bodyPost_ret (v:=sdV (some ⟨t.blk,0,none⟩) r a) (by simp[results,Tryz.results187,go_sem]) rfl ?_
  exact⟨rfl,below_alloc _ _⟩
theorem dSide_no {w:World} {B k:Nat} {t:T} (h:Node w B k t) (hB:B≤w.heap.size) (A:Option Addr) (c:Nat) {n:Nat} (hn:t.pre.length=n) (h0:t.lv=0) :
    Calls Tryz.prog 187 #[.pointer (some ⟨t.blk,0,none⟩),.slice A n c,.int .i64 (-1)] w fun e w'=>e=.returned (sdV (some ⟨t.blk,0,none⟩) true 0)∧Below w.heap.size w w':=by
  obtain ⟨kp,hnd⟩:=h.2.nd
  have hlen:=h.1.len
  have k1:=h.1.k1
  have k16:=h.1.k16
  have hb0:=below_alloc w (.cells #[.pointer none,.bool false,.int .i64 0] 246)
  have HA:=Lib.hid fun (w1:World)=>addr_arg A n c (-1) w1 (by omega) (by omega) (by omega)
  have hlv:levI t=-1:=by simp only[levI,h0];omega
  rw[hlv] at hnd
  have HL:=Lib.hid fun (w1:World) (hb:Below w.heap.size w w1)=>nLevel_c (hnd.below hb hB (Nat.le_refl _))
  clear h hB hn hnd hlen k1 k16 hlv h0
  go_enter Tryz.func187,Tryz.ntmps187
  go_wp2_with (first
    | (go_at_call 132;refine (HA.out _).mono ?_;rintro e w' ⟨rfl,rfl⟩)
    | (go_at_call 100;refine (HL.out _ hb0).mono ?_;rintro e w' ⟨rfl,rfl⟩))
  refine bodyPost_ret (v:=sdV (some ⟨t.blk,0,none⟩) true 0) (by simp[results,Tryz.results187,go_sem]) rfl ?_
  exact⟨rfl,below_alloc _ _⟩
abbrev prV (x:Option Addr) (kx:Bool) (ax:Nat) (y:Option Addr) (ky:Bool) (ay n:Nat):Value:=.agg #[.pointer x,.bool kx,.int .i64 (ax:Int),.pointer y,.bool ky,.int .i64 (ay:Int),.int .i64 (n:Int)]
theorem max3_1 {p x y l:Int} (h:(if p<x then x else p)<y) (hm:max (max p x) y=l):l=y:=by
  split at h<;>omega
theorem max3_2 {p x y l:Int} (h:y≤(if p<x then x else p)) (h':p<x) (hm:max (max p x) y=l):l=x:=by
  rw[if_pos h'] at h
  omega
theorem max3_3 {p x y l:Int} (h:y≤(if p<x then x else p)) (h':x≤p) (hm:max (max p x) y=l):l=p:=by
  rw[if_neg (by omega)] at h
  omega
set_option maxRecDepth 100000 in
set_option maxHeartbeats 4000000 in
theorem dStep_any {w:World} {B k:Nat} {x y:T} (hx:Node w B k x) (hy:Node w B k y) (hB:B≤w.heap.size) {l:Int} (hl:Tr.lvl x y=l) {r:Bool} (hr:decide (0≤l)=r) {kx ky:Bool} {ax ay:Nat}
    (HX:∀ (w1:World) (A:Option Addr) (c:Nat),Below w.heap.size w w1→Pts w1 w1.heap.size A x.pre→Calls Tryz.prog 187 #[.pointer (some ⟨x.blk,0,none⟩),.slice A k c,.int .i64 l] w1 fun e w'=>e=.returned (sdV (some ⟨x.blk,0,none⟩) kx ax)∧Below w1.heap.size w1 w')
    (HY:∀ (w1:World) (A:Option Addr) (c:Nat),Below w.heap.size w w1→Pts w1 w1.heap.size A y.pre→Calls Tryz.prog 187 #[.pointer (some ⟨y.blk,0,none⟩),.slice A k c,.int .i64 l] w1 fun e w'=>e=.returned (sdV (some ⟨y.blk,0,none⟩) ky ay)∧Below w1.heap.size w1 w') :
    Calls Tryz.prog 155 #[.pointer (some ⟨x.blk,0,none⟩),.pointer (some ⟨y.blk,0,none⟩)] w fun e w'=>e=.returned (.tuple #[prV (some ⟨x.blk,0,none⟩) kx ax (some ⟨y.blk,0,none⟩) ky ay 0,.bool r])∧Below w.heap.size w w':=by
  obtain ⟨kpx,hnx⟩:=hx.2.nd
  obtain ⟨kpy,hny⟩:=hy.2.nd
  have lx:=hx.1.len
  have ly:=hy.1.len
  have k1:=hx.1.k1
  have k16:=hx.1.k16
  obtain ⟨p,hp⟩:∃ p,x.pre=p:=⟨_,rfl⟩
  obtain ⟨q,hq⟩:∃ q,y.pre=q:=⟨_,rfl⟩
  obtain ⟨pl,hpl⟩:∃ pl,Z.part p q=pl:=⟨_,rfl⟩
  rw[hp] at hnx lx HX
  rw[hq] at hny ly HY
  have hb0:=below_alloc w (.cells #[.pointer none,.bool false,.int .i64 0,.pointer none,.bool false,.int .i64 0,.int .i64 0] 248)
  have H1:Hid (∀ w1,Below w.heap.size w w1→Calls Tryz.prog 101 #[.pointer (some ⟨x.blk,0,none⟩)] w1 fun e w'=>∃ h d,e=.returned (.slice (some ⟨h,0,none⟩) k d)∧Pts w' w'.heap.size (some ⟨h,0,none⟩) p∧Below w1.heap.size w1 w'):=Lib.hid fun w1 hb=>by
    have hh:=nPrefix_c (hnx.below hb hB (Nat.le_refl _)) (Nat.le_trans hB hb.size) (by intro e;rw[e] at lx;simp at lx;omega) (by omega)
    rw[lx] at hh
    refine hh.mono ?_
    rintro e w' ⟨h,d,he,ho,hb'⟩
    obtain ⟨A',c',hv,hp'⟩:=ho.pts
    rw[lx] at hv
    simp only[Value.slice.injEq] at hv
    obtain ⟨rfl,-,rfl⟩:=hv
    exact⟨h,d,he,hp',hb'⟩
  have H2:Hid (∀ w1,Below w.heap.size w w1→Calls Tryz.prog 101 #[.pointer (some ⟨y.blk,0,none⟩)] w1 fun e w'=>∃ h d,e=.returned (.slice (some ⟨h,0,none⟩) k d)∧Pts w' w'.heap.size (some ⟨h,0,none⟩) q∧Below w1.heap.size w1 w'):=Lib.hid fun w1 hb=>by
    have hh:=nPrefix_c (hny.below hb hB (Nat.le_refl _)) (Nat.le_trans hB hb.size) (by intro e;rw[e] at ly;simp at ly;omega) (by omega)
    rw[ly] at hh
    refine hh.mono ?_
    rintro e w' ⟨h,d,he,ho,hb'⟩
    obtain ⟨A',c',hv,hp'⟩:=ho.pts
    rw[ly] at hv
    simp only[Value.slice.injEq] at hv
    obtain ⟨rfl,-,rfl⟩:=hv
    exact⟨h,d,he,hp',hb'⟩
  have HP:Hid (∀ (w1:World) (A A':Option Addr) (c c':Nat),Pts w1 w1.heap.size A p→Pts w1 w1.heap.size A' q→Calls Tryz.prog 124 #[.slice A k c,.slice A' k c'] w1 fun e w'=>e=.returned (.tuple #[.int .i64 pl,.int .i64 0])∧w1=w'):=Lib.hid fun w1 A A' c c' h1 h2=>by
    have hh:=part_yes A A' c c' p q w1.heap.size w1 h1 h2 (by omega) (by omega) (by omega)
    rw[lx,ly,hpl] at hh
    exact hh
  have HLx:=Lib.hid fun (w1:World) (hb:Below w.heap.size w w1)=>nLevel_c (hnx.below hb hB (Nat.le_refl _))
  have HLy:=Lib.hid fun (w1:World) (hb:Below w.heap.size w w1)=>nLevel_c (hny.below hb hB (Nat.le_refl _))
  have hmx:max (max pl (levI x)) (levI y)=l:=by rw[← hl,← hpl,← hp,← hq];rfl
  have HX:=Lib.hid HX
  have HY:=Lib.hid HY
  have Hmx:=Lib.hid hmx
  clear hx hy hB hl hnx hny lx ly k1 k16 hp hq hpl
  obtain ⟨bx,hbx⟩:∃ b,x.blk=b:=⟨_,rfl⟩
  obtain ⟨by',hby⟩:∃ b,y.blk=b:=⟨_,rfl⟩
  obtain ⟨lx,hlx⟩:∃ b,levI x=b:=⟨_,rfl⟩
  obtain ⟨ly,hly⟩:∃ b,levI y=b:=⟨_,rfl⟩
  rw[hbx] at HX H1 HLx
  rw[hby] at HY H2 HLy
  rw[hlx] at HLx hmx
  rw[hly] at HLy hmx
  rw[hbx,hby]
  clear hbx hby hlx hly Hmx
  go_enter Tryz.func155,Tryz.ntmps155
  go_wp2_with fail
  refine (H1.out _ hb0).mono ?_
  rintro e w1 ⟨h1,d1,rfl,hp1,hb1⟩
  have hB1:=hb0.trans (hb1.mono (by simp))
  have hr1:=(hb1.block w.heap.size (by simp)).trans (heap_at w _ _ rfl)
  have K1:=Lib.hid (And.intro hp1 (And.intro hB1 hr1))
  clear H1 hp1 hb1 hB1 hr1
  go_wp2_with fail
  refine (H2.out _ K1.out.2.1).mono ?_
  rintro e w2 ⟨h2,d2,rfl,hp2,hb2⟩
  have hlt:=(Array.getElem?_eq_some_iff.1 K1.out.2.2).1
  have K2:=Lib.hid (And.intro ((K1.out.1.below' hb2 (Nat.le_refl _)).keep hb2.size (fun _ _=>rfl)) (And.intro hp2 (And.intro (K1.out.2.1.trans (hb2.mono K1.out.2.1.size)) ((hb2.block w.heap.size hlt).trans K1.out.2.2))))
  clear H2 hp2 hb2 K1 hlt
  go_upto_region 3 with ((with_reducible refine (HP.out _ _ _ _ _ K2.out.1 K2.out.2.1).mono ?_);rintro e w' ⟨rfl,rfl⟩)
  clear HP
  go_cut [8] from 20 (fun v wx=>v=Value.int .i64 l∧wx=w2)
  case first =>
    go_wp2_with (first
      | ((with_reducible refine (HLx.out _ K2.out.2.2.1).mono ?_);rintro e w' ⟨rfl,rfl⟩)
      | ((with_reducible refine (HLy.out _ K2.out.2.2.1).mono ?_);rintro e w' ⟨rfl,rfl⟩))
    all_goals go_meet
    all_goals
      refine⟨?_,rfl⟩
      first
        | rw[max3_1 (by assumption) hmx]
        | rw[max3_2 (by assumption) (by assumption) hmx]
        | rw[max3_3 (by assumption) (by assumption) hmx]
  case rest =>
  obtain ⟨rfl,rfl⟩:=hcut
  clear HLx HLy hmx
  go_wp2_with fail
  refine (HX.out _ _ _ K2.out.2.2.1 K2.out.1).mono ?_
  rintro e w3 ⟨rfl,hb3⟩
  have hlt:=(Array.getElem?_eq_some_iff.1 K2.out.2.2.2).1
  have K3:=Lib.hid (And.intro ((K2.out.2.1.below' hb3 (Nat.le_refl _)).keep hb3.size (fun _ _=>rfl)) (And.intro (K2.out.2.2.1.trans (hb3.mono K2.out.2.2.1.size)) ((hb3.block w.heap.size hlt).trans K2.out.2.2.2)))
  clear hb3 hlt
  go_wp2_with fail
  refine (HY.out _ _ _ K3.out.2.1 K3.out.1).mono ?_
  rintro e w4 ⟨rfl,hb4⟩
  have hlt:=(Array.getElem?_eq_some_iff.1 K3.out.2.2).1
  have hr4:=(hb4.block w.heap.size hlt).trans K3.out.2.2
  have K4:=Lib.hid (And.intro (K3.out.2.1.trans (hb4.mono K3.out.2.1.size)) hr4)
  have z0:w4.cell? ⟨w.heap.size,0,none⟩=some (.pointer none):=by rw[cell_of_row w4 _ _ _ _ (0,0) hr4];rfl
  have z1:w4.cell? ⟨w.heap.size,1,none⟩=some (.bool false):=by rw[cell_of_row w4 _ _ _ _ (0,0) hr4];rfl
  have z2:w4.cell? ⟨w.heap.size,2,none⟩=some (.int .i64 0):=by rw[cell_of_row w4 _ _ _ _ (0,0) hr4];rfl
  have z3:w4.cell? ⟨w.heap.size,3,none⟩=some (.pointer none):=by rw[cell_of_row w4 _ _ _ _ (0,0) hr4];rfl
  have z4:w4.cell? ⟨w.heap.size,4,none⟩=some (.bool false):=by rw[cell_of_row w4 _ _ _ _ (0,0) hr4];rfl
  have z5:w4.cell? ⟨w.heap.size,5,none⟩=some (.int .i64 0):=by rw[cell_of_row w4 _ _ _ _ (0,0) hr4];rfl
  have z6:w4.cell? ⟨w.heap.size,6,none⟩=some (.int .i64 0):=by rw[cell_of_row w4 _ _ _ _ (0,0) hr4];rfl
  have zf:∀ i,w4.frozen? ⟨w.heap.size,i,none⟩=false:=fun i=>frozen_of_row w4 _ i _ _ hr4
  clear hb4 hlt hr4 HX HY K2 K3
  go_wp2_with fail
  have hr5:=cells_set7 (.pointer (some ⟨bx,0,none⟩)) (.bool kx) (.int .i64 (ax:Int)) (.pointer (some ⟨by',0,none⟩)) (.bool ky) (.int .i64 (ay:Int)) (.int .i64 0) K4.out.2
  have hb5:=(((((((K4.out.1.setCell (p:=⟨w.heap.size,0,none⟩) (Nat.le_refl _) (.pointer (some ⟨bx,0,none⟩))).setCell (p:=⟨w.heap.size,1,none⟩) (Nat.le_refl _) (.bool kx)).setCell (p:=⟨w.heap.size,2,none⟩) (Nat.le_refl _) (.int .i64 (ax:Int))).setCell (p:=⟨w.heap.size,3,none⟩) (Nat.le_refl _) (.pointer (some ⟨by',0,none⟩))).setCell (p:=⟨w.heap.size,4,none⟩) (Nat.le_refl _) (.bool ky)).setCell (p:=⟨w.heap.size,5,none⟩) (Nat.le_refl _) (.int .i64 (ay:Int))).setCell (p:=⟨w.heap.size,6,none⟩) (Nat.le_refl _) (.int .i64 0))
  generalize World.setCell _ _ _=W5 at *
  have t0:W5.cell? ⟨w.heap.size,0,none⟩=some (.pointer (some ⟨bx,0,none⟩)):=by rw[cell_of_row W5 _ _ _ _ (0,0) hr5];rfl
  have t1:W5.cell? ⟨w.heap.size,1,none⟩=some (.bool kx):=by rw[cell_of_row W5 _ _ _ _ (0,0) hr5];rfl
  have t2:W5.cell? ⟨w.heap.size,2,none⟩=some (.int .i64 (ax:Int)):=by rw[cell_of_row W5 _ _ _ _ (0,0) hr5];rfl
  have t3:W5.cell? ⟨w.heap.size,3,none⟩=some (.pointer (some ⟨by',0,none⟩)):=by rw[cell_of_row W5 _ _ _ _ (0,0) hr5];rfl
  have t4:W5.cell? ⟨w.heap.size,4,none⟩=some (.bool ky):=by rw[cell_of_row W5 _ _ _ _ (0,0) hr5];rfl
  have t5:W5.cell? ⟨w.heap.size,5,none⟩=some (.int .i64 (ay:Int)):=by rw[cell_of_row W5 _ _ _ _ (0,0) hr5];rfl
  have t6:W5.cell? ⟨w.heap.size,6,none⟩=some (.int .i64 0):=by rw[cell_of_row W5 _ _ _ _ (0,0) hr5];rfl
  refine bodyPost_ret (v:=.tuple #[prV (some ⟨bx,0,none⟩) kx ax (some ⟨by',0,none⟩) ky ay 0,.bool r]) (by simp[results,Tryz.results155,go_sem,t0,t1,t2,t3,t4,t5,t6]) rfl ?_
  exact⟨rfl,hb5⟩
theorem dStep_c {w:World} {B k:Nat} {x y:T} (hx:Node w B k x) (hy:Node w B k y) (hB:B≤w.heap.size) {l:Nat} (hl:Tr.lvl x y=(l:Int)) (h63:l≤63) :
    Calls Tryz.prog 155 #[.pointer (some ⟨x.blk,0,none⟩),.pointer (some ⟨y.blk,0,none⟩)] w fun e w'=>e=.returned (.tuple #[prV (some ⟨x.blk,0,none⟩) (Tr.sdOf x l).kd (Tr.sdOf x l).a (some ⟨y.blk,0,none⟩) (Tr.sdOf y l).kd (Tr.sdOf y l).a 0,.bool true])∧Below w.heap.size w w' :=
  dStep_any hx hy hB hl (decide_eq_true (by omega)) (fun w1 A c hb hp=>dSide_c (hx.below hb hB (Nat.le_refl _)) (Nat.le_trans hB hb.size) A c hp l h63 hx.1.len rfl rfl) (fun w1 A c hb hp=>dSide_c (hy.below hb hB (Nat.le_refl _)) (Nat.le_trans hB hb.size) A c hp l h63 hy.1.len rfl rfl)
theorem dStep_no {w:World} {B k:Nat} {x y:T} (hx:Node w B k x) (hy:Node w B k y) (hB:B≤w.heap.size) (hl:Tr.lvl x y=-1) (h1:x.lv=0) (h2:y.lv=0) :
    Calls Tryz.prog 155 #[.pointer (some ⟨x.blk,0,none⟩),.pointer (some ⟨y.blk,0,none⟩)] w fun e w'=>e=.returned (.tuple #[prV (some ⟨x.blk,0,none⟩) true 0 (some ⟨y.blk,0,none⟩) true 0 0,.bool false])∧Below w.heap.size w w' :=
  dStep_any hx hy hB hl (decide_eq_false (by omega)) (fun w1 A c hb _=>dSide_no (hx.below hb hB (Nat.le_refl _)) (Nat.le_trans hB hb.size) A c hx.1.len h1) (fun w1 A c hb _=>dSide_no (hy.below hb hB (Nat.le_refl _)) (Nat.le_trans hB hb.size) A c hy.1.len h2)
def PrQ (f:Nat→Option Value) (x:Fl):Prop :=
  f 0=some (.pointer (some ⟨x.2.x.t.blk,0,none⟩))∧f 1=some (.bool x.2.x.kd)∧f 2=some (.int .i64 (x.2.x.a:Int))∧f 3=some (.pointer (some ⟨x.2.y.t.blk,0,none⟩))∧f 4=some (.bool x.2.y.kd)∧f 5=some (.int .i64 (x.2.y.a:Int))∧f 6=some (.int .i64 (x.2.n:Int))
theorem prQ_ok:QOk 7 PrQ where
  ext:=by
    rintro f g s h ⟨h0,h1,h2,h3,h4,h5,h6⟩
    exact⟨(h 0 (by omega)).symm.trans h0,(h 1 (by omega)).symm.trans h1,(h 2 (by omega)).symm.trans h2,(h 3 (by omega)).symm.trans h3,(h 4 (by omega)).symm.trans h4,(h 5 (by omega)).symm.trans h5,(h 6 (by omega)).symm.trans h6⟩
  has:=by
    rintro f s ⟨h0,h1,h2,h3,h4,h5,h6⟩ j hj
    match j,hj with
    | 0,_=>exact⟨_,h0,rfl⟩
    | 1,_=>exact⟨_,h1,rfl⟩
    | 2,_=>exact⟨_,h2,rfl⟩
    | 3,_=>exact⟨_,h3,rfl⟩
    | 4,_=>exact⟨_,h4,rfl⟩
    | 5,_=>exact⟨_,h5,rfl⟩
    | 6,_=>exact⟨_,h6,rfl⟩
def nextTo (cs:Array Value) (off n:Nat):Array Value:=cs.setIfInBounds (off+6) (.int .i64 (n:Int))
theorem next_cell {W:World} {q off n j:Nat} {cs:Array Value} {ty:TypeId} {v:Value} (h:W.heap[q]?=some (.cells (nextTo cs off n) ty (0,0))) (hc:cs[off+j]?=some v) (hj:j≠6):W.cell? ⟨q,off+j,none⟩=some v:=by
  rw[cell_of_row W _ _ _ _ (0,0) h]
  unfold nextTo
  rw[Array.getElem?_setIfInBounds,if_neg (by omega)]
  exact hc
set_option maxRecDepth 1000000 in
set_option maxHeartbeats 2000000 in
theorem dOn_none {w:World} {B k:Nat} {x:Fl} (hx:Node w B k x.2.x.t) (hy:Node w B k x.2.y.t) (hB:B≤w.heap.size) (hT:∀ w',Below w.heap.size w w'→Tz w') {q off:Nat} {cs:Array Value} {ty:TypeId} (hq:w.heap[q]?=some (.cells cs ty (0,0))) (hc:PrQ (fun j=>cs[off+j]?) x) (hn:x.2.n≤65536) (h0:Tr.remF x.2=[]) :
    Calls Tryz.prog 156 #[.pointer (some ⟨q,off,none⟩)] w fun e w'=>e=.returned (.tuple #[.pointer none,.pointer none,.bool false,.bool false])∧Below w.heap.size w w':=by
  obtain ⟨e1,e2⟩:=Tr.rem_none.1 h0
  have hqs:q<w.heap.size:=(Array.getElem?_eq_some_iff.1 hq).1
  have hcell:∀ (w2:World) (j:Nat) (v:Value),Below w.heap.size w w2→cs[j]?=some v→w2.cell? ⟨q,j,none⟩=some v:=fun w2 j v hb hj=>by rw[cell_of_row w2 _ _ _ _ (0,0) ((hb.block q hqs).trans hq)];exact hj
  obtain ⟨c0,c1,c2,c3,c4,c5,c6⟩:=hc
  have m0:∀ w2,Below w.heap.size w w2→w2.cell? ⟨q,off,none⟩=some (.pointer (some ⟨x.2.x.t.blk,0,none⟩)):=fun w2 hb=>hcell w2 _ _ hb c0
  have m1:∀ w2,Below w.heap.size w w2→w2.cell? ⟨q,off+1,none⟩=some (.bool x.2.x.kd):=fun w2 hb=>hcell w2 _ _ hb c1
  have m2:∀ w2,Below w.heap.size w w2→w2.cell? ⟨q,off+2,none⟩=some (.int .i64 (x.2.x.a:Int)):=fun w2 hb=>hcell w2 _ _ hb c2
  have m3:∀ w2,Below w.heap.size w w2→w2.cell? ⟨q,off+3,none⟩=some (.pointer (some ⟨x.2.y.t.blk,0,none⟩)):=fun w2 hb=>hcell w2 _ _ hb c3
  have m4:∀ w2,Below w.heap.size w w2→w2.cell? ⟨q,off+3+1,none⟩=some (.bool x.2.y.kd):=fun w2 hb=>hcell w2 _ _ hb c4
  have m5:∀ w2,Below w.heap.size w w2→w2.cell? ⟨q,off+3+2,none⟩=some (.int .i64 (x.2.y.a:Int)):=fun w2 hb=>hcell w2 _ _ hb c5
  have m6:∀ w2,Below w.heap.size w w2→w2.cell? ⟨q,off+6,none⟩=some (.int .i64 (x.2.n:Int)):=fun w2 hb=>hcell w2 _ _ hb c6
  have HX:=Lib.hid fun (w2:World) (hb:Below w.heap.size w w2)=>dFrom_c (w:=w2) (hx.below hb hB (Nat.le_refl _)) (Nat.le_trans hB hb.size) (fun w' h=>hT w' (hb.trans (h.mono hb.size))) x.2.n hn 65536 none (by rw[e1];rfl) (by rw[e1];rfl)
  have HY:=Lib.hid fun (w2:World) (hb:Below w.heap.size w w2)=>dFrom_c (w:=w2) (hy.below hb hB (Nat.le_refl _)) (Nat.le_trans hB hb.size) (fun w' h=>hT w' (hb.trans (h.mono hb.size))) x.2.n hn 65536 none (by rw[e2];rfl) (by rw[e2];rfl)
  simp only[rootP] at HX HY
  have hbb:=Below.refl w.heap.size w
  clear hcell hq c0 c1 c2 c3 c4 c5 c6 hqs hx hy hB hT h0 e1 e2 hn
  obtain ⟨l,⟨⟨xt,xk,xa⟩,⟨yt,yk,ya⟩,n⟩⟩:=x
  simp only at HX HY m0 m1 m2 m3 m4 m5 m6
  go_enter Tryz.func156,Tryz.ntmps156
  go_wp2_with fail
  go_region_held3 (fun w2=>Below w.heap.size w w2) (((repeat first | refine bD ?_ | with_reducible refine bN ?_ | refine bA ?_ | refine bS ?_);first | exact bR | assumption | exact bN bR | exact bN (bN bR)))
    ((go_at_call 188;refine (HX.out _ (show Below w.heap.size w _ by ((repeat first | refine bD ?_ | with_reducible refine bN ?_ | refine bA ?_ | refine bS ?_);first | exact bR | assumption | exact bN bR | exact bN (bN bR)))).mono ?_;rintro e wc ⟨rfl,hbc⟩;have hBc:=Below.trans (show Below w.heap.size w _ by ((repeat first | refine bD ?_ | with_reducible refine bN ?_ | refine bA ?_ | refine bS ?_);first | exact bR | assumption | exact bN bR | exact bN (bN bR))) (hbc.mono (Below.size (show Below w.heap.size w _ by ((repeat first | refine bD ?_ | with_reducible refine bN ?_ | refine bA ?_ | refine bS ?_);first | exact bR | assumption | exact bN bR | exact bN (bN bR)))));clear hbc))
  clear HX
  go_wp2_with fail
  go_region_held3 (fun w2=>Below w.heap.size w w2) (((repeat first | refine bD ?_ | with_reducible refine bN ?_ | refine bA ?_ | refine bS ?_);first | exact bR | assumption | exact bN bR | exact bN (bN bR)))
    ((go_at_call 188;refine (HY.out _ (show Below w.heap.size w _ by ((repeat first | refine bD ?_ | with_reducible refine bN ?_ | refine bA ?_ | refine bS ?_);first | exact bR | assumption | exact bN bR | exact bN (bN bR)))).mono ?_;rintro e wd ⟨rfl,hbd⟩;have hBd:=Below.trans (show Below w.heap.size w _ by ((repeat first | refine bD ?_ | with_reducible refine bN ?_ | refine bA ?_ | refine bS ?_);first | exact bR | assumption | exact bN bR | exact bN (bN bR))) (hbd.mono (Below.size (show Below w.heap.size w _ by ((repeat first | refine bD ?_ | with_reducible refine bN ?_ | refine bA ?_ | refine bS ?_);first | exact bR | assumption | exact bN bR | exact bN (bN bR)))));clear hbd))
  clear HY
  go_wp2_with fail
  refine bodyPost_ret (v:=.tuple #[.pointer none,.pointer none,.bool false,.bool false]) (by simp[results,Tryz.results156,go_sem]) rfl ?_
  exact⟨rfl,hBd⟩
set_option maxRecDepth 1000000 in
set_option maxHeartbeats 2000000 in
theorem dOn_some {w:World} {B k:Nat} {x:Fl} (hx:Node w B k x.2.x.t) (hy:Node w B k x.2.y.t) (hB:B≤w.heap.size) (hT:∀ w',Below w.heap.size w w'→Tz w') {q off:Nat} {cs:Array Value} {ty:TypeId} (hq:w.heap[q]?=some (.cells cs ty (0,0))) (hc:PrQ (fun j=>cs[off+j]?) x) (hn:x.2.n≤65536) (hok:Tr.FrOk k x.1 x.2) (h0:Tr.remF x.2≠[]) :
    Calls Tryz.prog 156 #[.pointer (some ⟨q,off,none⟩)] w fun e w'=>∃ (a:Nat) (u v:Option T) (r:List Tr.Pr) (both:Bool),Tr.remF x.2=(a,u,v) :: r∧Tr.remF (x.2.to (a+1))=r∧a<65536 ∧
      e=.returned (.tuple #[.pointer (rootP u),.pointer (rootP v),.bool both,.bool true])∧w'.heap[q]?=some (.cells (nextTo cs off (a+1)) ty (0,0))∧Foot (fun b=>b=q) w w':=by
  obtain ⟨r,s1,s2,s3⟩:=Tr.rem_step hok h0
  obtain ⟨i,hi⟩:∃ i,Tr.hdA (Tr.dropF x.2.x.L x.2.n)=i:=⟨_,rfl⟩
  obtain ⟨j,hj⟩:∃ j,Tr.hdA (Tr.dropF x.2.y.L x.2.n)=j:=⟨_,rfl⟩
  obtain ⟨o1,ho1⟩:∃ o,Tr.hdT (Tr.dropF x.2.x.L x.2.n)=o:=⟨_,rfl⟩
  obtain ⟨o2,ho2⟩:∃ o,Tr.hdT (Tr.dropF x.2.y.L x.2.n)=o:=⟨_,rfl⟩
  rw[hi,hj] at s1 s2 s3
  rw[ho1,ho2] at s1
  obtain ⟨a,ha⟩:∃ a,min i j=a:=⟨_,rfl⟩
  rw[ha] at s1 s2 s3
  obtain ⟨b1,hb1⟩:∃ b,decide (a<i)=b:=⟨_,rfl⟩
  obtain ⟨b2,hb2⟩:∃ b,decide (a<j)=b:=⟨_,rfl⟩
  have hqs:q<w.heap.size:=(Array.getElem?_eq_some_iff.1 hq).1
  have hcell:∀ (w2:World) (j:Nat) (v:Value),Below w.heap.size w w2→cs[j]?=some v→w2.cell? ⟨q,j,none⟩=some v:=fun w2 j v hb hj=>by rw[cell_of_row w2 _ _ _ _ (0,0) ((hb.block q hqs).trans hq)];exact hj
  obtain ⟨c0,c1,c2,c3,c4,c5,c6⟩:=hc
  have m0:∀ w2,Below w.heap.size w w2→w2.cell? ⟨q,off,none⟩=some (.pointer (some ⟨x.2.x.t.blk,0,none⟩)):=fun w2 hb=>hcell w2 _ _ hb c0
  have m1:∀ w2,Below w.heap.size w w2→w2.cell? ⟨q,off+1,none⟩=some (.bool x.2.x.kd):=fun w2 hb=>hcell w2 _ _ hb c1
  have m2:∀ w2,Below w.heap.size w w2→w2.cell? ⟨q,off+2,none⟩=some (.int .i64 (x.2.x.a:Int)):=fun w2 hb=>hcell w2 _ _ hb c2
  have m3:∀ w2,Below w.heap.size w w2→w2.cell? ⟨q,off+3,none⟩=some (.pointer (some ⟨x.2.y.t.blk,0,none⟩)):=fun w2 hb=>hcell w2 _ _ hb c3
  have m4:∀ w2,Below w.heap.size w w2→w2.cell? ⟨q,off+3+1,none⟩=some (.bool x.2.y.kd):=fun w2 hb=>hcell w2 _ _ hb c4
  have m5:∀ w2,Below w.heap.size w w2→w2.cell? ⟨q,off+3+2,none⟩=some (.int .i64 (x.2.y.a:Int)):=fun w2 hb=>hcell w2 _ _ hb c5
  have m6:∀ w2,Below w.heap.size w w2→w2.cell? ⟨q,off+6,none⟩=some (.int .i64 (x.2.n:Int)):=fun w2 hb=>hcell w2 _ _ hb c6
  have HX:=Lib.hid fun (w2:World) (hb:Below w.heap.size w w2)=>dFrom_c (w:=w2) (hx.below hb hB (Nat.le_refl _)) (Nat.le_trans hB hb.size) (fun w' h=>hT w' (hb.trans (h.mono hb.size))) x.2.n hn i o1 hi ho1
  have HY:=Lib.hid fun (w2:World) (hb:Below w.heap.size w w2)=>dFrom_c (w:=w2) (hy.below hb hB (Nat.le_refl _)) (Nat.le_trans hB hb.size) (fun w' h=>hT w' (hb.trans (h.mono hb.size))) x.2.n hn j o2 hj ho2
  have hbb:=Below.refl w.heap.size w
  have h6:off+6<cs.size:=(Array.getElem?_eq_some_iff.1 c6).1
  have HQ:=Lib.hid (And.intro hq (And.intro hqs (And.intro h6 (And.intro s1 (And.intro s2 (And.intro s3 (And.intro hb1 hb2)))))))
  have HC:=Lib.hid (And.intro c0 (And.intro c1 (And.intro c2 (And.intro c3 (And.intro c4 c5)))))
  have zf:∀ w2,Below w.heap.size w w2→w2.frozen? ⟨q,off+6,none⟩=false:=fun w2 hb=>frozen_of_row w2 q _ _ ty ((hb.block q hqs).trans hq)
  have e1:decide ((a:Int)<(i:Int))=b1:=by rw[← hb1];simp
  have e2:decide ((a:Int)<(j:Int))=b2:=by rw[← hb2];simp
  have e3:((a:Int) == 65536)=false:=by rw[beq_eq_false_iff_ne];omega
  have e4:(a:Int)≤65535:=by omega
  have e5:(0:Int)≤(a:Int):=by omega
  have hmin:min (i:Int) (j:Int)=(a:Int):=by omega
  have Hmin:=Lib.hid (And.intro ha hmin)
  clear hcell hq c0 c1 c2 c3 c4 c5 c6 hqs hx hy hB hT h0 hn h6 s1 s2 s3 hok hi hj ho1 ho2 ha hmin
  obtain ⟨p1,hp1⟩:∃ p,rootP o1=p:=⟨_,rfl⟩
  obtain ⟨p2,hp2⟩:∃ p,rootP o2=p:=⟨_,rfl⟩
  rw[hp1] at HX
  rw[hp2] at HY
  have HP:=Lib.hid (And.intro hp1 hp2)
  clear hp1 hp2
  obtain ⟨l,⟨⟨xt,xk,xa⟩,⟨yt,yk,ya⟩,n⟩⟩:=x
  simp only at HX HY m0 m1 m2 m3 m4 m5 m6
  go_enter Tryz.func156,Tryz.ntmps156
  go_wp2_with fail
  go_region_held3 (fun w2=>Below w.heap.size w w2) (((repeat first | refine bD ?_ | with_reducible refine bN ?_ | refine bA ?_ | refine bS ?_);first | exact bR | assumption | exact bN bR | exact bN (bN bR)))
    ((go_at_call 188;refine (HX.out _ (show Below w.heap.size w _ by ((repeat first | refine bD ?_ | with_reducible refine bN ?_ | refine bA ?_ | refine bS ?_);first | exact bR | assumption | exact bN bR | exact bN (bN bR)))).mono ?_;rintro e wc ⟨rfl,hbc⟩;have hBc:=Below.trans (show Below w.heap.size w _ by ((repeat first | refine bD ?_ | with_reducible refine bN ?_ | refine bA ?_ | refine bS ?_);first | exact bR | assumption | exact bN bR | exact bN (bN bR))) (hbc.mono (Below.size (show Below w.heap.size w _ by ((repeat first | refine bD ?_ | with_reducible refine bN ?_ | refine bA ?_ | refine bS ?_);first | exact bR | assumption | exact bN bR | exact bN (bN bR)))));clear hbc))
  clear HX
  go_wp2_with fail
  go_region_held3 (fun w2=>Below w.heap.size w w2) (((repeat first | refine bD ?_ | with_reducible refine bN ?_ | refine bA ?_ | refine bS ?_);first | exact bR | assumption | exact bN bR | exact bN (bN bR)))
    ((go_at_call 188;refine (HY.out _ (show Below w.heap.size w _ by ((repeat first | refine bD ?_ | with_reducible refine bN ?_ | refine bA ?_ | refine bS ?_);first | exact bR | assumption | exact bN bR | exact bN (bN bR)))).mono ?_;rintro e wd ⟨rfl,hbd⟩;have hBd:=Below.trans (show Below w.heap.size w _ by ((repeat first | refine bD ?_ | with_reducible refine bN ?_ | refine bA ?_ | refine bS ?_);first | exact bR | assumption | exact bN bR | exact bN (bN bR))) (hbd.mono (Below.size (show Below w.heap.size w _ by ((repeat first | refine bD ?_ | with_reducible refine bN ?_ | refine bA ?_ | refine bS ?_);first | exact bR | assumption | exact bN bR | exact bN (bN bR)))));clear hbd))
  clear HY
  have z6:=m6 _ hBd
  have zf:=zf _ hBd
  clear m0 m1 m2 m3 m4 m5 m6
  try go_upto_region 3 with fail
  go_cut [8] from 33 (fun v wx=>v=Value.int .i64 (a:Int)∧wx=wd)
  case first =>
    go_wp2_with fail
    go_meet
    exact⟨by rw[Hmin.out.2],rfl⟩
  case rest =>
  obtain ⟨rfl,hwc⟩:=hcut
  rw[hwc]
  clear hwc
  have hq3:(wd.setCell ⟨q,off+6,none⟩ (.int .i64 ((a:Int)+1))).heap[q]?=some (.cells (nextTo cs off (a+1)) ty (0,0)):=by
    have h:=heap_setCell_same wd q (off+6) _ ty (.int .i64 ((a:Int)+1)) ((hBd.block q HQ.out.2.1).trans HQ.out.1)
    exact h
  have hf3:Foot (fun b=>b=q) w (wd.setCell ⟨q,off+6,none⟩ (.int .i64 ((a:Int)+1))):=(Foot.of_below (F:=fun b=>b=q) hBd).trans (Foot.setCell wd (F:=fun b=>b=q) (a:=⟨q,off+6,none⟩) rfl _) (fun b hb=>.inl hb)
  obtain ⟨W3,hW3⟩:∃ W3,W3=wd.setCell ⟨q,off+6,none⟩ (.int .i64 ((a:Int)+1)):=⟨_,rfl⟩
  rw[← hW3] at hq3 hf3
  have n0:=next_cell (v:=Value.pointer (some ⟨xt.blk,0,none⟩)) (j:=0) hq3 HC.out.1 (by omega)
  have n1:=next_cell (v:=Value.bool xk) (j:=1) hq3 HC.out.2.1 (by omega)
  have n2:=next_cell (v:=Value.int .i64 (xa:Int)) (j:=2) hq3 HC.out.2.2.1 (by omega)
  have n3:=next_cell (v:=Value.pointer (some ⟨yt.blk,0,none⟩)) (j:=3) hq3 HC.out.2.2.2.1 (by omega)
  have n4:=next_cell (v:=Value.bool yk) (j:=4) hq3 HC.out.2.2.2.2.1 (by omega)
  have n5:=next_cell (v:=Value.int .i64 (ya:Int)) (j:=5) hq3 HC.out.2.2.2.2.2 (by omega)
  rw[Nat.add_zero] at n0
  have m3:∀ w',Below W3.heap.size W3 w'→w'.cell? ⟨q,off+3,none⟩=some (.pointer (some ⟨yt.blk,0,none⟩)):=fun w' hb=>(hb.cell (p:=⟨q,off+3,none⟩) (Array.getElem?_eq_some_iff.1 hq3).1).trans n3
  have m4:∀ w',Below W3.heap.size W3 w'→w'.cell? ⟨q,off+3+1,none⟩=some (.bool yk):=fun w' hb=>(hb.cell (p:=⟨q,off+3+1,none⟩) (Array.getElem?_eq_some_iff.1 hq3).1).trans n4
  have m5:∀ w',Below W3.heap.size W3 w'→w'.cell? ⟨q,off+3+2,none⟩=some (.int .i64 (ya:Int)):=fun w' hb=>(hb.cell (p:=⟨q,off+3+2,none⟩) (Array.getElem?_eq_some_iff.1 hq3).1).trans n5
  have HM:=Lib.hid (And.intro m3 (And.intro m4 m5))
  have H3:=Lib.hid (And.intro hq3 hf3)
  have HW3:=Lib.hid hW3
  clear hq3 hf3 hBd hBc HC hbb Hmin m3 m4 m5 n3 n4 n5 hW3
  have fin:∀ (u v:Option T) (w':World) (both:Bool),u=(if b1=true then none else o1)→v=(if b2=true then none else o2)→Below W3.heap.size W3 w'→∀ e,e=Ending.returned (.tuple #[.pointer (rootP u),.pointer (rootP v),.bool both,.bool true]) →
      ∃ (a:Nat) (u v:Option T) (r:List Tr.Pr) (both:Bool),Tr.remF ⟨⟨xt,xk,xa⟩,⟨yt,yk,ya⟩,n⟩=(a,u,v) :: r∧Tr.remF (Tr.Fr.to ⟨⟨xt,xk,xa⟩,⟨yt,yk,ya⟩,n⟩ (a+1))=r∧a<65536∧e=.returned (.tuple #[.pointer (rootP u),.pointer (rootP v),.bool both,.bool true])∧w'.heap[q]?=some (.cells (nextTo cs off (a+1)) ty (0,0))∧Foot (fun b=>b=q) w w':=by
    intro u v w' both hu hv hb e he
    obtain ⟨-,-,-,s1,s2,s3,c1,c2⟩:=HQ.out
    refine⟨a,u,v,r,both,?_,s2,s3,he,(hb.block q (Array.getElem?_eq_some_iff.1 H3.out.1).1).trans H3.out.1,H3.out.2.trans (Foot.of_below (F:=fun b=>b=q) hb) (fun b hb=>.inl hb)⟩
    rw[hu,hv,← c1,← c2]
    simpa using s1
  have HF:=Lib.hid fin
  clear fin
  cases b1 with
  | true =>
    cases b2 with
    | true =>
      go_upto_region 11 with fail
      rw[← HW3.out]
      clear HW3
      go_wp2_with fail
      refine (dHas_c _ _ _ _ _).mono ?_
      rintro e w4 ⟨r1,rfl,hb4⟩
      have k3:=HM.out.1 w4 hb4
      have k4:=HM.out.2.1 w4 hb4
      have k5:=HM.out.2.2 w4 hb4
      have HB4:=Lib.hid hb4
      clear hb4 n0 n1 n2
      cases r1 with
      | false =>
        go_wp2_with fail
        refine bodyPost_ret (v:=.tuple #[.pointer none,.pointer none,.bool false,.bool true]) (by simp[results,Tryz.results156,go_sem]) rfl ?_
        exact HF.out none none _ false rfl rfl HB4.out _ rfl
      | true =>
        go_wp2_with fail
        refine (dHas_c _ _ _ _ _).mono ?_
        rintro e w5 ⟨r2,rfl,hb5⟩
        have HB5:=Lib.hid (Below.andThen HB4.out hb5)
        clear hb5 k3 k4 k5
        go_wp2_with fail
        refine bodyPost_ret (v:=.tuple #[.pointer none,.pointer none,.bool r2,.bool true]) (by simp[results,Tryz.results156,go_sem]) rfl ?_
        exact HF.out none none _ r2 rfl rfl HB5.out _ rfl
    | false =>
      go_upto_region 11 with fail
      rw[← HW3.out]
      clear HW3
      go_wp2_with fail
      refine (dHas_c _ _ _ _ _).mono ?_
      rintro e w4 ⟨r1,rfl,hb4⟩
      have k3:=HM.out.1 w4 hb4
      have k4:=HM.out.2.1 w4 hb4
      have k5:=HM.out.2.2 w4 hb4
      have HB4:=Lib.hid hb4
      clear hb4 n0 n1 n2
      cases r1 with
      | false =>
        go_wp2_with fail
        refine bodyPost_ret (v:=.tuple #[.pointer none,.pointer p2,.bool false,.bool true]) (by simp[results,Tryz.results156,go_sem]) rfl ?_
        exact HF.out none o2 _ false rfl rfl HB4.out _ (by rw[show rootP none=none from rfl,show rootP o2=p2 from HP.out.2])
      | true =>
        go_wp2_with fail
        refine (dHas_c _ _ _ _ _).mono ?_
        rintro e w5 ⟨r2,rfl,hb5⟩
        have HB5:=Lib.hid (Below.andThen HB4.out hb5)
        clear hb5 k3 k4 k5
        go_wp2_with fail
        refine bodyPost_ret (v:=.tuple #[.pointer none,.pointer p2,.bool r2,.bool true]) (by simp[results,Tryz.results156,go_sem]) rfl ?_
        exact HF.out none o2 _ r2 rfl rfl HB5.out _ (by rw[show rootP none=none from rfl,show rootP o2=p2 from HP.out.2])
  | false =>
    cases b2 with
    | true =>
      go_upto_region 11 with fail
      rw[← HW3.out]
      clear HW3
      go_wp2_with fail
      refine (dHas_c _ _ _ _ _).mono ?_
      rintro e w4 ⟨r1,rfl,hb4⟩
      have k3:=HM.out.1 w4 hb4
      have k4:=HM.out.2.1 w4 hb4
      have k5:=HM.out.2.2 w4 hb4
      have HB4:=Lib.hid hb4
      clear hb4 n0 n1 n2
      cases r1 with
      | false =>
        go_wp2_with fail
        refine bodyPost_ret (v:=.tuple #[.pointer p1,.pointer none,.bool false,.bool true]) (by simp[results,Tryz.results156,go_sem]) rfl ?_
        exact HF.out o1 none _ false rfl rfl HB4.out _ (by rw[show rootP o1=p1 from HP.out.1,show rootP none=none from rfl])
      | true =>
        go_wp2_with fail
        refine (dHas_c _ _ _ _ _).mono ?_
        rintro e w5 ⟨r2,rfl,hb5⟩
        have HB5:=Lib.hid (Below.andThen HB4.out hb5)
        clear hb5 k3 k4 k5
        go_wp2_with fail
        refine bodyPost_ret (v:=.tuple #[.pointer p1,.pointer none,.bool r2,.bool true]) (by simp[results,Tryz.results156,go_sem]) rfl ?_
        exact HF.out o1 none _ r2 rfl rfl HB5.out _ (by rw[show rootP o1=p1 from HP.out.1,show rootP none=none from rfl])
    | false =>
      go_upto_region 11 with fail
      rw[← HW3.out]
      clear HW3
      go_wp2_with fail
      refine (dHas_c _ _ _ _ _).mono ?_
      rintro e w4 ⟨r1,rfl,hb4⟩
      have k3:=HM.out.1 w4 hb4
      have k4:=HM.out.2.1 w4 hb4
      have k5:=HM.out.2.2 w4 hb4
      have HB4:=Lib.hid hb4
      clear hb4 n0 n1 n2
      cases r1 with
      | false =>
        go_wp2_with fail
        refine bodyPost_ret (v:=.tuple #[.pointer p1,.pointer p2,.bool false,.bool true]) (by simp[results,Tryz.results156,go_sem]) rfl ?_
        exact HF.out o1 o2 _ false rfl rfl HB4.out _ (by rw[show rootP o1=p1 from HP.out.1,show rootP o2=p2 from HP.out.2])
      | true =>
        go_wp2_with fail
        refine (dHas_c _ _ _ _ _).mono ?_
        rintro e w5 ⟨r2,rfl,hb5⟩
        have HB5:=Lib.hid (Below.andThen HB4.out hb5)
        clear hb5 k3 k4 k5
        go_wp2_with fail
        refine bodyPost_ret (v:=.tuple #[.pointer p1,.pointer p2,.bool r2,.bool true]) (by simp[results,Tryz.results156,go_sem]) rfl ?_
        exact HF.out o1 o2 _ r2 rfl rfl HB5.out _ (by rw[show rootP o1=p1 from HP.out.1,show rootP o2=p2 from HP.out.2])
end Go.Proofs.YtmkejbfgdmbejaaGreatDoor
namespace Go.Proofs.YtmkejbfgdmbejaaGreatDoor
open Go.ChangeShapes Go.WideShapes Go.ChangeAt Go.RowKit
open Tr (T S4 Ent Sd Fl Chg)
def TellOk (x y:Option T):Prop:=(x=none∧y≠none)∨(x≠none∧y=none)∨∃ g g' p v u,x=some (.ent g p v)∧y=some (.ent g' p u)∧v≠u
theorem tell_ne {w:World} {B k:Nat} {x y:Option T} (hx:NodeO w B k x) (hy:NodeO w B k y) (h:TellOk x y):Tr.chO x y≠[]:=by
  obtain ⟨zx,dx⟩:=entsO_zs (k:=k) (o:=x) fun t e=>(hx t e).1
  obtain ⟨zy,dy⟩:=entsO_zs (k:=k) (o:=y) fun t e=>(hy t e).1
  intro hn
  have he:=(Tr.chL_nil zx zy dx dy).1 hn
  rcases h with ⟨rfl,h⟩ | ⟨h,rfl⟩ | ⟨g,g',p,v,u,rfl,rfl,hne⟩
  · cases y with
    | none=>exact h rfl
    | some t=>exact (hy t rfl).1.ne he.symm
  · cases x with
    | none=>exact h rfl
    | some t=>exact (hx t rfl).1.ne he
  · simp only[Tr.entsO,Tr.ents_ent,List.cons.injEq,Prod.mk.injEq,true_and,and_true] at he
    exact hne he
structure VisitD (fid:Nat) (lb:Array Value) (B k M:Nat) (go:Bool) (Inv:List Chg→World→(Nat→Prop)→Prop):Prop where
  ent:∀ args w,(callFunc fid args).run Tryz.prog w=.ok (.enter fid args) w
  frame:∀ us w w' F,Inv us w F→w.heap.size≤w'.heap.size→(∀ b,F b→w'.heap[b]?=w.heap[b]?)→Inv us w' F
  inb:∀ us w F,Inv us w F→∀ b,F b→b<w.heap.size∧B≤b
  call:∀ us w F x y,Inv us w F→NodeO w B k x→NodeO w B k y→B≤w.heap.size→(∀ w',Below B w w'→Tz w')→TellOk x y→us.length+(Tr.chO x y).length≤M→Calls Tryz.prog fid (#[.pointer (rootP x),.pointer (rootP y)]++lb) w fun e w' =>
    e=.returned (.bool go)∧∃ F',Inv (us++Tr.chO x y) w' F'∧(∀ b,F' b→F b∨w.heap.size≤b)∧Foot F w w'
structure ThrD (B k:Nat) (C:List Chg) (go:Bool) (Inv:List Chg→World→(Nat→Prop)→Prop) (fv:Value) (w:World) (F:Nat→Prop) (P:List Chg) (S:List Fl) (D:Option Addr) (d:Nat) (w':World):Prop where
  us:∃ us F',C=us++(P++Tr.chS S)∧(go=false→us=[])∧Inv us w' F'∧(∀ b,F' b→F b∨w.heap.size≤b)∧¬ F' w.heap.size∧(∀ q,D.map (·.block)=some q→¬ F' q)
  fr:∀ x∈S,Tr.FrOk k x.1 x.2∧Node w B k x.2.x.t∧Node w B k x.2.y.t
  foot:Foot F w w'
  box:w'.heap[w.heap.size]?=some (.cells #[fv] 195 (0,0))
  stk:OwnL 248 7 PrQ w' (w.heap.size+1) (.slice D S.length d) S.reverse
  lev:Tr.LevS S
section
variable {fid:Nat} {lb:Array Value} {B k M:Nat} {C:List Chg} {go:Bool} {Inv:List Chg→World→(Nat→Prop)→Prop} {fv:Value} {w:World} {F:Nat→Prop} {P:List Chg} {S:List Fl} {D:Option Addr} {d:Nat} {w1 w2:World}
theorem ThrD.lt (s:ThrD B k C go Inv fv w F P S D d w1):w.heap.size<w1.heap.size:=(Array.getElem?_eq_some_iff.1 s.box).1
theorem ThrD.old (hv:VisitD fid lb B k M go Inv) (hI:Inv [] w F) (hB:B≤w.heap.size) (s:ThrD B k C go Inv fv w F P S D d w1):Below B w w1:=s.foot.below hB fun b hb=>(hv.inb _ _ _ hI b hb).2
theorem ThrD.below (hv:VisitD fid lb B k M go Inv) (s:ThrD B k C go Inv fv w F P S D d w1) (hb:Below w1.heap.size w1 w2):ThrD B k C go Inv fv w F P S D d w2:=by
  obtain ⟨us,F',e1,e2,e3,e4,e5,e6⟩:=s.us
  exact⟨⟨us,F',e1,e2,hv.frame _ _ _ _ e3 hb.size (fun b hF=>hb.block b (hv.inb _ _ _ e3 b hF).1),e4,e5,e6⟩,s.fr,s.foot.trans (Foot.of_below (F:=F) hb) (fun b hb=>.inl hb),(hb.block _ s.lt).trans s.box,OwnL.below s.stk hb (Nat.le_refl _),s.lev⟩
theorem ThrD.to (s:ThrD B k C go Inv fv w F P S D d w1) {Q:List Chg} (h:P=Q):ThrD B k C go Inv fv w F Q S D d w1:=h▸s
theorem ThrD.told {x y:Option T} (hv:VisitD fid lb B k M go Inv) (s:ThrD B k C go Inv fv w F (Tr.chO x y) S D d w1) (hx:NodeO w1 B k x) (hy:NodeO w1 B k y) (hB:B≤w1.heap.size) (hT:∀ w',Below B w1 w'→Tz w') (ht:TellOk x y) (hM:C.length≤M) :
    Calls Tryz.prog fid (#[.pointer (rootP x),.pointer (rootP y)]++lb) w1 fun e w2=>e=.returned (.bool go) ∧
      (go=true→ThrD B k C go Inv fv w F [] S D d w2)∧(go=false→∃ us F',Inv us w2 F'∧us≠[]∧C≠[]∧(∀ b,F' b→F b∨w.heap.size≤b)∧Foot F w w2):=by
  obtain ⟨us,F',e1,e2,e3,e4,e5,e6⟩:=s.us
  have hl:=congrArg List.length e1
  rw[List.length_append,List.length_append] at hl
  have hne:=tell_ne hx hy ht
  refine (hv.call us w1 F' x y e3 hx hy hB hT ht (by omega)).mono ?_
  rintro e w2 ⟨rfl,F2,i2,hF2,hfo⟩
  have hlt:=s.lt
  have hsz:=hfo.size
  have hF2':∀ b,F2 b→F b∨w.heap.size≤b:=fun b hb=>by
    rcases hF2 b hb with c | c
    · exact e4 b c
    · exact .inr (by omega)
  have hfo2:Foot F w w2:=s.foot.trans hfo e4
  refine⟨rfl,fun hg=>?_,fun hg=>?_⟩
  · refine⟨⟨us++Tr.chO x y,F2,by rw[e1];simp,fun h=>(by rw[hg] at h;cases h),i2,hF2',fun hb=>?_,fun q hq hb=>?_⟩,s.fr,hfo2,?_,s.stk.block fun q hq=>?_,s.lev⟩
    · rcases hF2 _ hb with c | c
      · exact e5 c
      · omega
    · rcases hF2 _ hb with c | c
      · exact e6 q hq c
      · have:=(s.stk.lt q (by rw[own_block];exact hq)).2
        omega
    · rw[hfo.block _ hlt e5];exact s.box
    · have h1:=s.stk.lt q hq
      exact hfo.block q h1.2 (e6 q (by rw[← own_block];exact hq))
  · refine⟨us++Tr.chO x y,F2,i2,fun h=>hne (List.append_eq_nil_iff.1 h).2,fun h=>?_,hF2',hfo2⟩
    rw[h] at e1
    exact hne (List.append_eq_nil_iff.1 (List.append_eq_nil_iff.1 e1.symm).2).1
theorem ThrD.push {l:Nat} {f:Tr.Fr} {w5:World} {D2:Option Addr} {d2:Nat} (hv:VisitD fid lb B k M go Inv) (s:ThrD B k C go Inv fv w F P S D d w1) (hf:Tr.FrOk k l f) (hx:Node w B k f.x.t) (hy:Node w B k f.y.t) (hP:Tr.chM (Tr.remF f)=P) (hl:l+(S.length+1)≤64) (hb:Below w1.heap.size w1 w2)
    (hown:OwnL 248 7 PrQ w5 (w.heap.size+1) (.slice D2 (S.length+1) d2) (S.reverse++[(l,f)])) (hgr:w2.grownBy w5 (D.map (·.block)))
    (hat:D2.map (·.block)=D.map (·.block)∨D2.map (·.block)=some w2.heap.size):ThrD B k C go Inv fv w F [] ((l,f) :: S) D2 d2 w5:=by
  obtain ⟨us,F',e1,e2,e3,e4,e5,e6⟩:=s.us
  have hlt:=s.lt
  have h12:=hb.size
  have hblk:∀ b,b<w1.heap.size→D.map (·.block)≠some b→w5.heap[b]?=w1.heap[b]?:=fun b hb' hne=>by
    rw[hgr.block b (by omega) (fun e=>hne e.symm),hb.block b hb']
  have hsz:w1.heap.size≤w5.heap.size:=Nat.le_trans hb.size hgr.size
  have hDlt:∀ q,D.map (·.block)=some q→w.heap.size+1≤q∧q<w1.heap.size:=fun q hq=>s.stk.lt q (by rw[own_block];exact hq)
  have hinb:=hv.inb _ _ _ e3
  have hft:Foot F w w5:=by
    refine s.foot.trans (F1:=fun b=>D.map (·.block)=some b) ⟨?_,?_,?_,hsz,fun b hb' hne=>hblk b hb' hne⟩ (fun b hb'=>.inr (by have:=hDlt b hb';omega))
    · exact hgr.os.trans hb.os
    · exact hgr.tape.trans hb.tape
    · exact hgr.output.trans hb.output
  refine⟨⟨us,F',?_,e2,hv.frame _ _ _ _ e3 hsz (fun b hF=>hblk b (hinb b hF).1 (fun e=>e6 b e hF)),e4,e5,fun q hq hF=>?_⟩,fun x hx'=>?_,hft,?_,?_,hl,s.lev⟩
  · rw[e1,Tr.chS_cons,hP,List.nil_append]
  · rcases hat with c | c
    · exact e6 q (by rw[← c];exact hq) hF
    · rw[c] at hq
      cases hq
      have:=(hinb _ hF).1
      omega
  · rcases List.mem_cons.1 hx' with rfl | hx'
    · exact⟨hf,hx,hy⟩
    · exact s.fr x hx'
  · rw[hblk _ hlt (fun e=>by have:=hDlt _ e;omega)]
    exact s.box
  · rw[List.reverse_cons]
    exact hown
theorem ThrD.top {x:Fl} (s:ThrD B k C go Inv fv w F P (x :: S) D d w1):∃ q cs,D=some ⟨q,0,none⟩∧w.heap.size+1≤q∧q<w1.heap.size∧S.length+1≤d∧w1.heap[q]?=some (.cells cs 248 (0,0))∧PrQ (fun j=>cs[S.length*7+j]?) x:=by
  have hg:(x :: S).reverse[S.length]?=some x:=by rw[List.reverse_cons,List.getElem?_append_right (by simp)];simp
  obtain ⟨vs,h1,h2⟩:=s.stk
  rcases h2.2 with ⟨hv',hn⟩ | ⟨q,cap,cur,hv',hge,hh,hnc,hcm,hsz,hcur⟩
  · simp at hn
  · simp only[Value.slice.injEq] at hv'
    obtain ⟨rfl,-,rfl⟩:=hv'
    refine⟨q,cur,rfl,hge,(Array.getElem?_eq_some_iff.1 hh).1,by simpa using hnc,hh,?_⟩
    refine prQ_ok.ext _ _ _ (fun j hj=>?_) (h1.2 S.length x hg)
    rw[← hcur,List.getElem?_take_of_lt (by simp;omega),Array.getElem?_toList]
theorem ThrD.on {l:Nat} {f:Tr.Fr} {a q:Nat} {x y:Option T} {r:List Tr.Pr} {cs:Array Value} (hv:VisitD fid lb B k M go Inv) (s:ThrD B k C go Inv fv w F [] ((l,f) :: S) (some ⟨q,0,none⟩) d w1)
    (hcs:w1.heap[q]?=some (.cells cs 248 (0,0))) (hq2:w2.heap[q]?=some (.cells (nextTo cs (S.length*7) (a+1)) 248 (0,0))) (hf:Foot (fun b=>b=q) w1 w2) (ha:a<65536)
    (hr:Tr.remF f=(a,x,y) :: r) (hr2:Tr.remF (f.to (a+1))=r):ThrD B k C go Inv fv w F (Tr.chO x y) ((l,f.to (a+1)) :: S) (some ⟨q,0,none⟩) d w2:=by
  obtain ⟨us,F',e1,e2,e3,e4,e5,e6⟩:=s.us
  have hlt:=s.lt
  have hqF:¬ F' q:=e6 q rfl
  have hqlt:=(s.stk.lt q rfl)
  have hinb:=hv.inb _ _ _ e3
  have hset:OwnL 248 7 PrQ (w1.setCell ⟨q,S.length*7+6,none⟩ (.int .i64 ((a+1:Nat):Int))) (w.heap.size+1) (.slice (some ⟨q,0,none⟩) (S.length+1) d) (((l,f.to (a+1)) :: S).reverse):=by
    obtain ⟨g1,hg1,r1⟩:=OwnL.set (i:=S.length) (j:=6) (x:=((l,f.to (a+1)):Fl)) (u:=.int .i64 ((a+1:Nat):Int)) s.stk prQ_ok (by simp) (by omega) (by
      intro g y hy hg
      rw[List.reverse_cons,List.getElem?_append_right (by simp)] at hy
      simp at hy
      subst hy
      exact⟨hg.1,hg.2.1,hg.2.2.1,hg.2.2.2.1,hg.2.2.2.2.1,hg.2.2.2.2.2.1,rfl⟩)
    have hq1:q=g1:=by simp only[Option.some.injEq,Addr.mk.injEq] at hg1;exact hg1.1
    subst hq1
    rw[show (((l,f) :: S:List Fl).reverse).set S.length (l,f.to (a+1))=((l,f.to (a+1)) :: S:List Fl).reverse by
      simp only[List.reverse_cons]
      rw[List.set_append_right _ _ (by simp)]
      simp] at r1
    exact r1
  have hsame:w2.heap[q]?=(w1.setCell ⟨q,S.length*7+6,none⟩ (.int .i64 ((a+1:Nat):Int))).heap[q]?:=by
    rw[hq2,heap_setCell_same w1 q _ _ _ _ hcs]
    rfl
  obtain ⟨f1,f2,f3⟩:=s.fr _ List.mem_cons_self
  refine⟨⟨us,F',?_,e2,hv.frame _ _ _ _ e3 hf.size (fun b hF=>hf.block b (hinb b hF).1 (fun e=>hqF (e▸hF))),e4,e5,e6⟩,fun z hz=>?_,s.foot.trans hf (fun b hb=>.inr (by subst hb;omega)),?_,?_,s.lev⟩
  · rw[e1,Tr.chS_cons,Tr.chS_cons]
    simp only
    rw[hr,hr2,Tr.chM_cons]
    simp
  · rcases List.mem_cons.1 hz with rfl | hz
    · exact⟨f1.to (by omega),f2,f3⟩
    · exact s.fr z (List.mem_cons_of_mem _ hz)
  · rw[hf.block _ hlt (by omega)]
    exact s.box
  · refine hset.block fun r hr=>?_
    rw[own_block] at hr
    simp only[Option.map_some,Option.some.injEq] at hr
    subst hr
    exact hsame
theorem ThrD.pop {x:Fl} (s:ThrD B k C go Inv fv w F [] (x :: S) D d w1) (hx:Tr.remF x.2=[]):ThrD B k C go Inv fv w F [] S D d w1:=by
  obtain ⟨us,F',e1,e2,e3,e4,e5,e6⟩:=s.us
  refine⟨⟨us,F',by rw[e1,Tr.chS_cons,hx];rfl,e2,e3,e4,e5,e6⟩,fun y hy=>s.fr y (List.mem_cons_of_mem _ hy),s.foot,s.box,?_,s.lev.2⟩
  have h7:=OwnL.take prQ_ok s.stk S.length (by simp)
  rw[show ((x :: S).reverse).take S.length=S.reverse by rw[List.reverse_cons,List.take_append_of_le_length (by simp),List.take_of_length_le (by simp)]] at h7
  exact h7
end
end Go.Proofs.YtmkejbfgdmbejaaGreatDoor
namespace Go.Proofs.YtmkejbfgdmbejaaGreatDoor
open Go.ChangeShapes Go.WideShapes Go.ChangeAt Go.RowKit
open Tr (T S4 Ent)
def J2N (J0 J1:Nat→Act→World→Prop):Nat→Nat→Act→World→Prop
  | 0=>J0
  | 1=>J1
  | _=>fun _ _ _=>False
end Go.Proofs.YtmkejbfgdmbejaaGreatDoor
namespace Go.Proofs.YtmkejbfgdmbejaaGreatDoor
open Go.ChangeShapes Go.WideShapes Go.ChangeAt Go.RowKit
open Tr (T S4 Ent Sd Fl Chg)
structure SloG (a:Act) (x0 x1 x2 x3 x7 x8 x10:Value):Prop where
  d:a.defers=[]
  n:a.tmps.size=68
  s0:a.tmps[0]?=some x0
  s1:a.tmps[1]?=some x1
  s2:a.tmps[2]?=some x2
  s3:a.tmps[3]?=some x3
  s7:a.tmps[7]?=some x7
  s8:a.tmps[8]?=some x8
  s10:a.tmps[10]?=some x10
theorem SloG.lit {a:Act} {x0 x1 x2 x3 x7 x8 x10:Value} (h:SloG a x0 x1 x2 x3 x7 x8 x10):∃ V:Nat→Value,a={ tmps:=#[x0,x1,x2,x3,V 4,V 5,V 6,x7,x8,V 9,x10,V 11,V 12,V 13,V 14,V 15,V 16,V 17,V 18,V 19,V 20,V 21,V 22,V 23,V 24,V 25,V 26,V 27,V 28,V 29,V 30,V 31,V 32,V 33,V 34,V 35,V 36,V 37,V 38,V 39,V 40,V 41,V 42,V 43,V 44,V 45,V 46,V 47,V 48,V 49,V 50,V 51,V 52,V 53,V 54,V 55,V 56,V 57,V 58,V 59,V 60,V 61,V 62,V 63,V 64,V 65,V 66,V 67],defers:=[] }:=by
  refine⟨fun i=>a.tmps.toList.getD i undef,?_⟩
  have e:=slotsN_arr h.n
  obtain ⟨t,d⟩:=a
  have hd:d=[]:=h.d
  have h0:=slotsN_some h.s0
  have h1:=slotsN_some h.s1
  have h2:=slotsN_some h.s2
  have h3:=slotsN_some h.s3
  have h7:=slotsN_some h.s7
  have h8:=slotsN_some h.s8
  have h10:=slotsN_some h.s10
  simp only at h0 h1 h2 h3 h7 h8 h10 e
  subst hd
  rw[← h0,← h1,← h2,← h3,← h7,← h8,← h10]
  congr 1
theorem infoDStep:(Tryz.prog.info? 248).map (fun i=>(i.zero,i.size,i.bytes))=some (some (.agg #[.pointer none,.bool false,.int .i64 0,.pointer none,.bool false,.int .i64 0,.int .i64 0]),7,56):=by kernel_rfl
theorem slice_topD (w:World) (b off n c i:Nat) (h2:i≤n) (h3:n≤c) :
    (Instr.sliceAt 244 (.slice (some ⟨b,off,none⟩) n c) none (some (.int .i64 (i:Int))) none).run Tryz.prog w=.ok (.slice (some ⟨b,off,none⟩) i c) w:=by
  have ht:Tryz.prog.underlying 244=some (.slice 248):=Tryz.underlying244
  have hel:Tryz.prog.elem 244=248:=by simp[Program.elem,ht]
  have hs:Tryz.prog.underlying 244=some (.slice (Tryz.prog.elem 244)):=by rw[hel];exact ht
  have hsz:∀ w,(sizeOf 248).run Tryz.prog w=.ok 7 w:=fun w=>by
    have h:(Tryz.prog.info? 248).map (·.size)=some 7:=by kernel_rfl
    obtain ⟨i0,hi0,hz⟩:=Option.map_eq_some_iff.1 h
    simp[sizeOf,typeInfo,hi0,hz]
  rw[run_sliceAt_slice w _ _ _ _ _ hs,run_slice_h w _ _ _ _ hs .i64 (i:Int) (by omega) (by omega),hel,hsz]
  simp[Result.andThen,sliced]
  intro _
  rw[Go.WideShapes.add_plain,Nat.add_zero]
theorem lst_next2 {α:Type} {n:Nat} {Q:(Nat→Option Value)→α→Prop} {e:TypeId} {w:World} (hQ:QOk n Q) (ob:Obj) (vs:Array Value) (x:α) (hs:vs.size=n) (hx:Q (fun j=>vs[j]?) x) :
    Lst n Q ((w.alloc ob).alloc (.cells vs e)) (w.heap.size+1+1) (some ⟨w.heap.size+1,0,none⟩) [x]:=by
  have h:=lst_at (e:=e) (w:=w.alloc ob) hQ vs x hs hx
  rw[World.size_alloc] at h
  exact h
theorem wp_scope_twoR {P:Program} {c r0 r1:Code} {Q:Exit→Act→World→Prop} {a:Act} {w:World} (J0 J1:Nat→Act→World→Prop)
    (h0:findLabel c 0=some (Code.skip.seq r0)) (h1:findLabel c 1=some (Code.skip.seq r1))
    (beside:∀ m a w,J0 m a w→r0.wp P (jumpsN (fun l a' w'=>∃ m',m'<m∧J2N J0 J1 l m' a' w') Q) a w)
    (down:∀ m,(∀ m' a w,m'≤m→J0 m' a w→r0.wp P (jumpsN (fun l a' w'=>∃ m',m'<m∧J2N J0 J1 l m' a' w') Q) a w) →
      ∀ a w,J1 m a w→r1.wp P (jumpsN (fun l a' w'=>∃ m',m'<m∧J2N J0 J1 l m' a' w') Q) a w)
    (first:(∀ m a w,J1 m a w→r1.wp P (jumpsN (fun l a' w'=>∃ m',J2N J0 J1 l m' a' w') Q) a w)→c.wp P (jumpsN (fun l a' w'=>∃ m',J2N J0 J1 l m' a' w') Q) a w):(Code.scope c).wp P Q a w:=by
  have dn:∀ m a w,J1 m a w→r1.wp P (jumpsN (fun l a' w'=>∃ m',m'<m∧J2N J0 J1 l m' a' w') Q) a w :=
    fun m a w h=>down m (fun m' a w hm h=>jumpsN_le (beside m' a w h) hm) a w h
  refine wp_scope_labelsN (fun l=>match l with | 0=>Code.skip.seq r0 | _=>Code.skip.seq r1) (J2N J0 J1) ?_ (first fun m a w h=>jumpsN_any (dn m a w h)) ?_
  · intro l m a w h
    match l,h with
    | 0,_=>exact h0
    | 1,_=>exact h1
  · intro l m a w h
    match l,h with
    | 0,h=>exact wp_seq (wp_skip (beside m a w h))
    | 1,h=>exact wp_seq (wp_skip (dn m a w h))
section
variable (B k:Nat) (C:List Chg) (go:Bool) (Inv:List Chg→World→(Nat→Prop)→Prop) (fv:Value) (w:World) (F:Nat→Prop)
structure DownD (x y:Option T) (S:List Fl) (D:Option Addr) (d:Nat) (w':World) (m:Nat):Prop where
  thr:ThrD B k C go Inv fv w F (Tr.chO x y) S D d w'
  nx:NodeO w B k x
  ny:NodeO w B k y
  ok:Tr.PairOk k (Tr.room S) x y
  cnt:m=4*(Tr.wgt x y+Tr.wS S)+2*S.length+1
structure NextD (S:List Fl) (D:Option Addr) (d:Nat) (w':World) (m:Nat):Prop where
  thr:ThrD B k C go Inv fv w F [] S D d w'
  cnt:m=4*Tr.wS S+2*S.length+2
end
def EndD (go:Bool) (Inv:List Chg→World→(Nat→Prop)→Prop) (C:List Chg) (w:World) (F:Nat→Prop) (e:Ending) (w':World):Prop :=
  ∃ (z:Int) (us:List Chg) (F':Nat→Prop),e=.returned (.int .i64 z)∧Inv us w' F'∧(go=true→us=C)∧(go=false→(us=[]↔C=[]))∧(∀ b,F' b→F b∨w.heap.size≤b)∧Foot F w w'
theorem fr_node {w:World} {B k:Nat} {f:Tr.Fr} (hx:Node w B k f.x.t) (hy:Node w B k f.y.t) {q:Tr.Pr} (hm:(∀ s,q.2.1=some s→(q.1,s)∈f.x.L)∧∀ s,q.2.2=some s→(q.1,s)∈f.y.L):NodeO w B k q.2.1∧NodeO w B k q.2.2:=by
  have key:∀ {s:Sd} {a:Nat} {t:T},Node w B k s.t→(a,t)∈s.L→Node w B k t:=by
    rintro ⟨t,kd,a⟩ b u h hm
    cases kd with
    | false =>
      have hm:(b,u)∈[(a,t)]:=hm
      simp only[List.mem_singleton,Prod.mk.injEq] at hm
      rw[hm.2]
      exact h
    | true =>
      have hm:(b,u)∈t.ks:=hm
      cases t with
      | ent g p v=>cases hm
      | br g l pre ks=>exact h.kid hm
  exact⟨fun t e=>key hx (hm.1 t e),fun t e=>key hy (hm.2 t e)⟩
set_option maxRecDepth 1000000 in
set_option maxHeartbeats 8000000 in
theorem dthrough_c {fid:Nat} {lb:Array Value} {B k M:Nat} {go:Bool} {Inv:List Chg→World→(Nat→Prop)→Prop} (hv:VisitD fid lb B k M go Inv) {w:World} {F:Nat→Prop} (hI:Inv [] w F) {x y:Option T} (hx:NodeO w B k x) (hy:NodeO w B k y) (hB:B≤w.heap.size) (hT:∀ w',Below B w w'→Tz w') (hM:(Tr.chO x y).length≤M) :
    Calls Tryz.prog 119 #[.agg #[.func (.func fid) #[] lb],.pointer (rootP x),.pointer (rootP y)] w fun e w'=>EndD go Inv (Tr.chO x y) w F e w':=by
  have hent:=hv.ent
  obtain ⟨C,hC⟩:∃ C,Tr.chO x y=C:=⟨_,rfl⟩
  have hal:=below_alloc w (.cells #[.func (.func fid) #[] lb] 195)
  have hFlt:∀ b,F b→b<w.heap.size∧B≤b:=hv.inb _ _ _ hI
  have hstart:DownD B k C go Inv (.func (.func fid) #[] lb) w F x y [] none 0 (w.alloc (.cells #[.func (.func fid) #[] lb] 195)) (4*(Tr.wgt x y+Tr.wS [])+2*0+1):=by
    refine⟨⟨⟨[],F,by rw[hC];simp[Tr.chS_nil],fun _=>rfl,hv.frame _ _ _ _ hI hal.size (fun b hb=>hal.block b (hFlt b hb).1),fun b hb=>.inl hb,fun hb=>?_,fun q hq=>?_⟩,fun z hz=>?_,Foot.of_below hal,heap_at w _ _ rfl,ownL_none _ _ _,trivial⟩,hx,hy,Tr.pair_top (fun t e=>(hx t e).1) (fun t e=>(hy t e).1),rfl⟩
    · have:=(hFlt _ hb).1;omega
    · cases hq
    · cases hz
  have HS:=Lib.hid hstart
  have HV:=Lib.hid hv
  have HX:=Lib.hid (And.intro hI (And.intro hB (And.intro hT (show C.length≤M by rw[← hC];exact hM))))
  rw[hC]
  clear hv hI hx hy hB hT hM hstart hal hFlt hC
  obtain ⟨px,hpx⟩:∃ px,rootP x=px:=⟨_,rfl⟩
  obtain ⟨py,hpy⟩:∃ py,rootP y=py:=⟨_,rfl⟩
  have HP0:=Lib.hid (And.intro hpx hpy)
  rw[hpx,hpy]
  clear hpx hpy
  go_enter Tryz.func119,Tryz.ntmps119
  go_wp2_with fail
  refine wp_scope_twoR (fun m a' w'=>∃ (x1 x2 x10:Value) (S:List Fl) (D:Option Addr) (d:Nat) (z:Int),SloG a' (.agg #[.func (.func fid) #[] lb]) x1 x2 (.pointer (some ⟨w.heap.size,0,none⟩)) (.slice D S.length d) (.int .i64 z) x10∧NextD B k C go Inv (.func (.func fid) #[] lb) w F S D d w' m)
    (fun m a' w'=>∃ (x y:Option T) (S:List Fl) (D:Option Addr) (d:Nat) (z:Int) (b:Bool),SloG a' (.agg #[.func (.func fid) #[] lb]) (.pointer (rootP x)) (.pointer (rootP y)) (.pointer (some ⟨w.heap.size,0,none⟩)) (.slice D S.length d) (.int .i64 z) (.bool b)∧DownD B k C go Inv (.func (.func fid) #[] lb) w F x y S D d w' m) rfl rfl ?beside ?down ?first
  case first =>
    intro hp
    have HP:=Lib.hid hp
    clear hp
    go_wp2_with fail
    refine wp_label ?_
    simp only[Exit.then]
    rename_i hK
    apply hK
    exact HP.out _ _ _ ⟨x,y,[],none,0,0,true,⟨rfl,rfl,rfl,by rw[HP0.out.1];rfl,by rw[HP0.out.2];rfl,rfl,rfl,rfl,rfl⟩,HS.out⟩
  case down =>
    rintro m hbes a' w' ⟨x,y,S,D,d,z,b,hs,hI⟩
    obtain ⟨V,rfl⟩:=hs.lit
    clear hs HS HP0
    have HI:=Lib.hid hI
    have HBs:=Lib.hid hbes
    have hB':Below B w w':=hI.thr.old HV.out HX.out.1 HX.out.2.1
    have hBw:B≤w'.heap.size:=Nat.le_trans HX.out.2.1 hI.thr.foot.size
    have hT':∀ v,Below B w' v→Tz v:=fun v hv=>HX.out.2.2.1 v (hB'.trans hv)
    have hnx:NodeO w' B k x:=hI.nx.below hB' (Nat.le_refl _) (Nat.le_refl _)
    have hny:NodeO w' B k y:=hI.ny.below hB' (Nat.le_refl _) (Nat.le_refl _)
    have HE:=Lib.hid (And.intro hB' (And.intro hBw (And.intro hT' (And.intro hnx hny))))
    have hcnt:=hI.cnt
    have hwp:=Tr.wgt_pos x y
    have HCn:Hid (4*Tr.wS S+2*S.length+2<m):=Lib.hid (by omega)
    clear hI hbes hB' hBw hT' hnx hny hcnt hwp
    cases x with
    | none =>
      cases y with
      | none =>
        simp only[rootP]
        go_wp2_with fail
        go_step3
        exact⟨_,HCn.out,_,_,_,S,D,d,z,⟨rfl,rfl,rfl,rfl,rfl,rfl,rfl,rfl,rfl⟩,HI.out.thr.to (Tr.chL_same []),rfl⟩
      | some t =>
        have HTd:=Lib.hid (HI.out.thr.told HV.out HE.out.2.2.2.1 HE.out.2.2.2.2 HE.out.2.1 HE.out.2.2.1 (.inl ⟨rfl,by simp⟩) HX.out.2.2.2)
        simp only[rootP] at HTd ⊢
        have q0:w'.cell? ⟨w.heap.size,0,none⟩=some (.func (.func fid) #[] lb):=by rw[cell_of_row w' _ _ _ _ (0,0) HI.out.thr.box];rfl
        have hpn:=nptr_no1
        go_upto_if 17 with fail
        go_cut [8] from 18 (fun v wx=>(∃ z':Int,v=Value.int .i64 z')∧wx=w')
        case first =>
          cases b
          all_goals go_wp2_with fail
          all_goals go_meet
          all_goals exact⟨⟨_,rfl⟩,rfl⟩
        case rest =>
        obtain ⟨⟨z',rfl⟩,hwc⟩:=hcut
        rw[hwc]
        clear hwc
        go_wp2_with fail
        go_at_fn fid
        refine HTd.out.mono ?_
        rintro e w2 ⟨rfl,ht1,ht2⟩
        have HT2:=Lib.hid (And.intro ht1 ht2)
        clear ht1 ht2
        clear HTd
        cases go with
        | true =>
          go_wp2_with fail
          refine wp_label ?_
          simp only[Exit.then]
          rename_i hK
          apply hK
          exact HBs.out _ _ _ (by have:=HCn.out;omega) ⟨_,_,_,S,D,d,z',⟨rfl,rfl,rfl,rfl,rfl,rfl,rfl,rfl,rfl⟩,HT2.out.1 (by first | rfl | trivial),rfl⟩
        | false =>
          go_wp2_with fail
          simp only[jumpsN]
          refine bodyPost_ret (v:=.int .i64 z') (by simp[results,Tryz.results119,go_sem]) rfl ?_
          obtain ⟨us,F',i,hne,hC,hF,hfo⟩:=HT2.out.2 (by first | rfl | trivial)
          exact⟨z',us,F',rfl,i,fun h=>Bool.noConfusion h,fun _=>⟨fun h=>absurd h hne,fun h=>absurd h hC⟩,hF,hfo⟩
    | some s =>
      cases y with
      | none =>
        have HTd:=Lib.hid (HI.out.thr.told HV.out HE.out.2.2.2.1 HE.out.2.2.2.2 HE.out.2.1 HE.out.2.2.1 (.inr (.inl ⟨by simp,rfl⟩)) HX.out.2.2.2)
        simp only[rootP] at HTd ⊢
        have q0:w'.cell? ⟨w.heap.size,0,none⟩=some (.func (.func fid) #[] lb):=by rw[cell_of_row w' _ _ _ _ (0,0) HI.out.thr.box];rfl
        have hpn:=nptr_no2
        go_upto_if 17 with fail
        go_cut [8] from 18 (fun v wx=>(∃ z':Int,v=Value.int .i64 z')∧wx=w')
        case first =>
          cases b
          all_goals go_wp2_with fail
          all_goals go_meet
          all_goals exact⟨⟨_,rfl⟩,rfl⟩
        case rest =>
        obtain ⟨⟨z',rfl⟩,hwc⟩:=hcut
        rw[hwc]
        clear hwc
        go_wp2_with fail
        go_at_fn fid
        refine HTd.out.mono ?_
        rintro e w2 ⟨rfl,ht1,ht2⟩
        have HT2:=Lib.hid (And.intro ht1 ht2)
        clear ht1 ht2
        clear HTd
        cases go with
        | true =>
          go_wp2_with fail
          refine wp_label ?_
          simp only[Exit.then]
          rename_i hK
          apply hK
          exact HBs.out _ _ _ (by have:=HCn.out;omega) ⟨_,_,_,S,D,d,z',⟨rfl,rfl,rfl,rfl,rfl,rfl,rfl,rfl,rfl⟩,HT2.out.1 (by first | rfl | trivial),rfl⟩
        | false =>
          go_wp2_with fail
          simp only[jumpsN]
          refine bodyPost_ret (v:=.int .i64 z') (by simp[results,Tryz.results119,go_sem]) rfl ?_
          obtain ⟨us,F',i,hne,hC,hF,hfo⟩:=HT2.out.2 (by first | rfl | trivial)
          exact⟨z',us,F',rfl,i,fun h=>Bool.noConfusion h,fun _=>⟨fun h=>absurd h hne,fun h=>absurd h hC⟩,hF,hfo⟩
      | some t =>
        have hns:Node w' B k s:=HE.out.2.2.2.1 s rfl
        have hnt:Node w' B k t:=HE.out.2.2.2.2 t rfl
        by_cases hst:s.blk=t.blk
        · have hnil:Tr.chO (some s) (some t)=[]:=by
            show Tr.chL s.ents t.ents=[]
            rw[node_same hns hnt hst]
            exact Tr.chL_same _
          clear hns hnt
          simp only[rootP]
          rw[hst]
          have hpe:=ptr_eq
          go_wp2_with fail
          go_step3
          exact⟨_,HCn.out,_,_,_,S,D,d,z,⟨rfl,rfl,rfl,rfl,rfl,rfl,rfl,rfl,rfl⟩,HI.out.thr.to hnil,rfl⟩
        · have hpn:=nptr_ne hns.trb hnt.trb hst
          rcases Tr.lvl_ent hns.1 hnt.1 with ⟨l,hl⟩ | ⟨hl,g,g',p,v,u,rfl,rfl⟩
          · obtain ⟨ok1,ok2,ok3⟩:=HI.out.ok
            have hrm:=HI.out.thr.lev.room
            obtain ⟨f1,f2,f3,f4⟩:=Tr.frame_new hns.1 hnt.1 (ok1 s rfl).2 (ok2 t rfl).2 (by omega) (ok3 s t rfl rfl) hl
            have HSt:=Lib.hid (dStep_c hns hnt HE.out.2.1 hl (by omega))
            obtain ⟨b1,hb1⟩:∃ b1,(Tr.sdOf s l).kd=b1:=⟨_,rfl⟩
            obtain ⟨b2,hb2⟩:∃ b2,(Tr.sdOf t l).kd=b2:=⟨_,rfl⟩
            obtain ⟨a1,ha1⟩:∃ a1,(Tr.sdOf s l).a=a1:=⟨_,rfl⟩
            obtain ⟨a2,ha2⟩:∃ a2,(Tr.sdOf t l).a=a2:=⟨_,rfl⟩
            rw[hb1,hb2,ha1,ha2] at HSt
            have HF:=Lib.hid (And.intro f1 (And.intro f2 (And.intro f3 (And.intro f4 (And.intro hns (And.intro hnt (And.intro hrm (And.intro hb1 (And.intro hb2 (And.intro ha1 ha2))))))))))
            have hS64:S.length≤64:=by omega
            clear f1 f2 f3 f4 hns hnt hrm hb1 hb2 ha1 ha2 ok1 ok2 ok3 hl hst
            simp only[rootP]
            go_upto_if 17 with fail
            go_cut [8] from 18 (fun v wx=>(∃ z':Int,v=Value.int .i64 z')∧wx=w')
            case first =>
              cases b
              all_goals go_wp2_with fail
              all_goals go_meet
              all_goals exact⟨⟨_,rfl⟩,rfl⟩
            case rest =>
            obtain ⟨⟨z',rfl⟩,hwc⟩:=hcut
            rw[hwc]
            clear hwc
            clear hpn
            go_wp2_with fail
            refine HSt.out.mono ?_
            rintro e w2 ⟨rfl,hb2⟩
            have HB2:=Lib.hid (Below.andThen (Below.andThen hb2 (below_alloc w2 (.cells #[.pointer (some ⟨s.blk,0,none⟩),.bool b1,.int .i64 (a1:Int),.pointer (some ⟨t.blk,0,none⟩),.bool b2,.int .i64 (a2:Int),.int .i64 0] 248))) (below_alloc (w2.alloc (.cells #[.pointer (some ⟨s.blk,0,none⟩),.bool b1,.int .i64 (a1:Int),.pointer (some ⟨t.blk,0,none⟩),.bool b2,.int .i64 (a2:Int),.int .i64 0] 248)) (.cells #[.pointer (some ⟨s.blk,0,none⟩),.bool b1,.int .i64 (a1:Int),.pointer (some ⟨t.blk,0,none⟩),.bool b2,.int .i64 (a2:Int),.int .i64 0] 248)))
            clear HSt
            have hw9:w.heap.size+1≤w2.heap.size:=by have:=HI.out.thr.lt;have:=hb2.size;omega
            go_wp2_with (at_builtin;refine wpList_append_list (Q:=PrQ) 244 248 (.agg #[.pointer none,.bool false,.int .i64 0,.pointer none,.bool false,.int .i64 0,.int .i64 0]) 56 Tryz.underlying244 infoDStep (by rfl) (by omega) (by omega) prQ_ok (by rfl) _ _ (by rfl) (w.heap.size+1) (.slice D S.length d) S.reverse [(l,Tr.frOf s t l)] (S.length+1) (by simp) (by rfl) (by exact HI.out.thr.stk.below (C:=w'.heap.size) HB2.out (Nat.le_refl _)) _ _ 1 1 (by rfl) (by rfl) (by exact lst_next2 prQ_ok _ #[.pointer (some ⟨s.blk,0,none⟩),.bool b1,.int .i64 (a1:Int),.pointer (some ⟨t.blk,0,none⟩),.bool b2,.int .i64 (a2:Int),.int .i64 0] ((l,Tr.frOf s t l):Fl) (by rfl) (by exact⟨rfl,by rw[← HF.out.2.2.2.2.2.2.2.1];rfl,by rw[← HF.out.2.2.2.2.2.2.2.2.2.1];rfl,rfl,by rw[← HF.out.2.2.2.2.2.2.2.2.1];rfl,by rw[← HF.out.2.2.2.2.2.2.2.2.2.2];rfl,rfl⟩)) (by omega) (by simp;omega) ?_;intro D5 d5 w5 hown5 hgrow5 hat5)
            go_step3
            rw[own_block] at hgrow5
            rw[own_block,own_block] at hat5
            have hwt:=HF.out.2.2.2.1
            have hcn:=HI.out.cnt
            have hp:=HI.out.thr.push HV.out HF.out.1 (HI.out.nx s rfl) (HI.out.ny t rfl) HF.out.2.2.1 (by have:=HF.out.2.1;have:=HF.out.2.2.2.2.2.2.1;omega) HB2.out hown5 hgrow5 hat5
            refine⟨4*Tr.wS ((l,Tr.frOf s t l) :: S)+2*(S.length+1)+2,?_,_,_,_,(l,Tr.frOf s t l) :: S,D5,d5,z',⟨rfl,rfl,rfl,rfl,rfl,rfl,rfl,rfl,rfl⟩,hp,rfl⟩
            rw[Tr.wS_cons]
            simp only at hwt hcn ⊢
            omega
          · have HSt:=Lib.hid (dStep_no hns hnt HE.out.2.1 hl rfl rfl)
            have hu1:Hid (∀ w2,Below w'.heap.size w' w2→Calls Tryz.prog 90 #[.pointer (some ⟨g,0,none⟩)] w2 fun e w3=>e=.returned (.agg #[.int .u64 1,.int .u64 (v:Int),.int .u64 (v:Int),.int .u64 (v:Int)])∧Below w2.heap.size w2 w3):=Lib.hid fun w2 hb=>by
              have h:=nSums_o (HE.out.2.2.2.1.below (hb.mono HE.out.2.1) (Nat.le_refl _) (Nat.le_refl _)) (Nat.le_trans HE.out.2.1 hb.size)
              rw[show Tr.sums (Tr.entsO (some (T.ent g p v)))=Tr.s1 v by simp[Tr.entsO,Tr.ents_ent,Tr.sums_one]] at h
              exact h
            have hu2:Hid (∀ w2,Below w'.heap.size w' w2→Calls Tryz.prog 90 #[.pointer (some ⟨g',0,none⟩)] w2 fun e w3=>e=.returned (.agg #[.int .u64 1,.int .u64 (u:Int),.int .u64 (u:Int),.int .u64 (u:Int)])∧Below w2.heap.size w2 w3):=Lib.hid fun w2 hb=>by
              have h:=nSums_o (HE.out.2.2.2.2.below (hb.mono HE.out.2.1) (Nat.le_refl _) (Nat.le_refl _)) (Nat.le_trans HE.out.2.1 hb.size)
              rw[show Tr.sums (Tr.entsO (some (T.ent g' p u)))=Tr.s1 u by simp[Tr.entsO,Tr.ents_ent,Tr.sums_one]] at h
              exact h
            clear hns hnt hl hst
            have hg1:(T.ent g p v).blk=g:=rfl
            have hg2:(T.ent g' p u).blk=g':=rfl
            rw[hg1,hg2] at HSt hpn
            by_cases hvu:v=u
            · subst hvu
              have hnil:Tr.chO (some (T.ent g p v)) (some (T.ent g' p v))=[]:=by
                show Tr.chL (T.ent g p v).ents (T.ent g' p v).ents=[]
                rw[show (T.ent g p v).ents=(T.ent g' p v).ents by rw[Tr.ents_ent,Tr.ents_ent]]
                exact Tr.chL_same _
              simp only[rootP,hg1,hg2]
              go_upto_if 17 with fail
              go_cut [8] from 18 (fun v wx=>(∃ z':Int,v=Value.int .i64 z')∧wx=w')
              case first =>
                cases b
                all_goals go_wp2_with fail
                all_goals go_meet
                all_goals exact⟨⟨_,rfl⟩,rfl⟩
              case rest =>
              obtain ⟨⟨z',rfl⟩,hwc⟩:=hcut
              rw[hwc]
              clear hwc
              clear hpn
              go_wp2_with fail
              refine HSt.out.mono ?_
              rintro e w2 ⟨rfl,hb2⟩
              clear HSt
              have HB2:=Lib.hid (Below.andThen hb2 (below_alloc w2 (.cells #[.pointer (some ⟨g,0,none⟩),.bool true,.int .i64 0,.pointer (some ⟨g',0,none⟩),.bool true,.int .i64 0,.int .i64 0] 248)))
              clear hb2
              go_wp2_with fail
              refine (hu1.out _ (by exact HB2.out)).mono ?_
              rintro e w3 ⟨rfl,hb3⟩
              have HB3:=Lib.hid (Below.andThen HB2.out hb3)
              clear hb3
              go_wp2_with fail
              refine (hu2.out _ HB3.out).mono ?_
              rintro e w4 ⟨rfl,hb4⟩
              have HB4:=Lib.hid (Below.andThen HB3.out hb4)
              clear hb4 hu1 hu2
              go_wp2_with fail
              go_step3
              exact⟨_,HCn.out,_,_,_,S,D,d,z',⟨rfl,rfl,rfl,rfl,rfl,rfl,rfl,rfl,rfl⟩,(HI.out.thr.to hnil).below HV.out HB4.out,rfl⟩
            · have n1:((v:Int) == (u:Int))=false:=by rw[beq_eq_false_iff_ne];omega
              have n1':(v == u)=false:=by rw[beq_eq_false_iff_ne];exact hvu
              have n2:¬ (v:Int)=(u:Int):=by omega
              have HTd:=Lib.hid fun (w2:World) (hb:Below w'.heap.size w' w2)=>(HI.out.thr.below HV.out hb).told HV.out (HE.out.2.2.2.1.below (hb.mono HE.out.2.1) (Nat.le_refl _) (Nat.le_refl _)) (HE.out.2.2.2.2.below (hb.mono HE.out.2.1) (Nat.le_refl _) (Nat.le_refl _)) (Nat.le_trans HE.out.2.1 hb.size) (fun w3 h3=>HE.out.2.2.1 w3 ((hb.mono HE.out.2.1).trans h3)) (.inr (.inr ⟨g,g',p,v,u,rfl,rfl,hvu⟩)) HX.out.2.2.2
              have q0:∀ w2,Below w'.heap.size w' w2→w2.cell? ⟨w.heap.size,0,none⟩=some (.func (.func fid) #[] lb):=fun w2 hb=>by rw[cell_of_row w2 _ _ _ _ (0,0) (HI.out.thr.below HV.out hb).box];rfl
              simp only[rootP,hg1,hg2] at HTd ⊢
              go_upto_if 17 with fail
              go_cut [8] from 18 (fun v wx=>(∃ z':Int,v=Value.int .i64 z')∧wx=w')
              case first =>
                cases b
                all_goals go_wp2_with fail
                all_goals go_meet
                all_goals exact⟨⟨_,rfl⟩,rfl⟩
              case rest =>
              obtain ⟨⟨z',rfl⟩,hwc⟩:=hcut
              rw[hwc]
              clear hwc
              clear hpn
              go_wp2_with fail
              refine HSt.out.mono ?_
              rintro e w2 ⟨rfl,hb2⟩
              clear HSt
              have HB2:=Lib.hid (Below.andThen hb2 (below_alloc w2 (.cells #[.pointer (some ⟨g,0,none⟩),.bool true,.int .i64 0,.pointer (some ⟨g',0,none⟩),.bool true,.int .i64 0,.int .i64 0] 248)))
              clear hb2
              go_wp2_with fail
              refine (hu1.out _ (by exact HB2.out)).mono ?_
              rintro e w3 ⟨rfl,hb3⟩
              have HB3:=Lib.hid (Below.andThen HB2.out hb3)
              clear hb3
              go_wp2_with fail
              refine (hu2.out _ HB3.out).mono ?_
              rintro e w4 ⟨rfl,hb4⟩
              have HB4:=Lib.hid (Below.andThen HB3.out hb4)
              have q4:=q0 w4 HB4.out
              clear hb4 hu1 hu2 q0
              go_wp2_with fail
              go_at_fn fid
              refine (HTd.out _ HB4.out).mono ?_
              rintro e w5 ⟨rfl,ht1,ht2⟩
              have HT2:=Lib.hid (And.intro ht1 ht2)
              clear ht1 ht2
              clear HTd
              cases go with
              | true =>
                go_wp2_with fail
                refine wp_label ?_
                simp only[Exit.then]
                rename_i hK
                apply hK
                exact HBs.out _ _ _ (by have:=HCn.out;omega) ⟨_,_,_,S,D,d,z',⟨rfl,rfl,rfl,rfl,rfl,rfl,rfl,rfl,rfl⟩,HT2.out.1 (by first | rfl | trivial),rfl⟩
              | false =>
                go_wp2_with fail
                simp only[jumpsN]
                refine bodyPost_ret (v:=.int .i64 z') (by simp[results,Tryz.results119,go_sem]) rfl ?_
                obtain ⟨us,F',i,hne,hC,hF,hfo⟩:=HT2.out.2 (by first | rfl | trivial)
                exact⟨z',us,F',rfl,i,fun h=>Bool.noConfusion h,fun _=>⟨fun h=>absurd h hne,fun h=>absurd h hC⟩,hF,hfo⟩
  case beside =>
    rintro m a' w' ⟨x1,x2,x10,S,D,d,z,hs,hI⟩
    obtain ⟨V,rfl⟩:=hs.lit
    clear hs HS HP0
    have HI:=Lib.hid hI
    cases S with
    | nil =>
      clear hI
      go_wp2_with fail
      simp only[jumpsN]
      refine bodyPost_ret (v:=.int .i64 z) (by simp[results,Tryz.results119,go_sem]) rfl ?_
      obtain ⟨us,F',e1,e2,e3,e4,-,-⟩:=HI.out.thr.us
      simp only[Tr.chS_nil,List.append_nil] at e1
      exact⟨z,us,F',rfl,e3,fun _=>e1.symm,fun _=>by rw[e1],e4,HI.out.thr.foot⟩
    | cons f S =>
      obtain ⟨q,cs,hD,hqw,hqs,hcap,hcs,hq7⟩:=hI.thr.top
      subst hD
      obtain ⟨hfo,hnx,hny⟩:=hI.thr.fr f List.mem_cons_self
      have hB':Below B w w':=hI.thr.old HV.out HX.out.1 HX.out.2.1
      have hBw:B≤w'.heap.size:=Nat.le_trans HX.out.2.1 hI.thr.foot.size
      have hT':∀ v,Below w'.heap.size w' v→Tz v:=fun v hv=>HX.out.2.2.1 v (hB'.trans (hv.mono hBw))
      have hfn:f.2.n≤65536:=by obtain ⟨_,_,_,_,h⟩:=hfo;exact h
      have hlev:=hI.thr.lev.1
      have e4:((S.length+1:Nat):Int) - 1=(S.length:Int):=by omega
      have m1:(0:Int)≤(S.length:Int):=by omega
      have m2:(S.length:Int)<((S.length+1:Nat):Int):=by omega
      have m3:(S.length:Int)≤64:=by omega
      have d1:decide ((S.length:Int)<0)=false:=decide_eq_false (by omega)
      have HC:=Lib.hid (And.intro hcs (And.intro hcap (And.intro hqw hqs)))
      by_cases h0:Tr.remF f.2=[]
      · have HO:=Lib.hid (dOn_none (off:=S.length*7) (hnx.below hB' (Nat.le_refl _) (Nat.le_refl _)) (hny.below hB' (Nat.le_refl _) (Nat.le_refl _)) hBw hT' hcs hq7 hfn h0)
        have H0:=Lib.hid h0
        clear hI hfo hnx hny hB' hBw hT' hfn hlev hcs hcap hqw hqs hq7 h0
        go_wp2_with fail
        refine HO.out.mono ?_
        rintro e w2 ⟨rfl,hb2⟩
        have H2:=Lib.hid hb2
        have hst:=slice_topD w2 q 0 (S.length+1) d S.length (by omega) HC.out.2.1
        clear hb2 HO
        go_wp2_with fail
        go_step3
        have hth:=(HI.out.thr.pop H0.out).below HV.out H2.out
        have hc:=HI.out.cnt
        rw[Tr.wS_cons,H0.out,Tr.wM_nil,List.length_cons] at hc
        exact⟨4*Tr.wS S+2*S.length+2,by omega,_,_,_,S,some ⟨q,0,none⟩,d,z,⟨rfl,rfl,rfl,rfl,rfl,rfl,rfl,rfl,rfl⟩,hth,rfl⟩
      · have HO:=Lib.hid (dOn_some (off:=S.length*7) (hnx.below hB' (Nat.le_refl _) (Nat.le_refl _)) (hny.below hB' (Nat.le_refl _) (Nat.le_refl _)) hBw hT' hcs hq7 hfn hfo h0)
        clear hI hfo hB' hBw hT' hfn hlev hcs hcap hqw hqs hq7 h0
        have HN:=Lib.hid (And.intro hnx hny)
        clear hnx hny
        go_wp2_with fail
        refine HO.out.mono ?_
        rintro e w2 ⟨a,u,v,r,both,h1,h2,h3,rfl,hq2,hf2⟩
        have H2:=Lib.hid (And.intro h1 (And.intro h2 (And.intro h3 (And.intro hq2 hf2))))
        clear h1 h2 h3 hq2 hf2 HO
        go_wp2_with fail
        go_step3
        obtain ⟨h1,h2,h3,hq2,hf2⟩:=H2.out
        obtain ⟨l,fr⟩:=f
        have hth:=HI.out.thr.on HV.out HC.out.1 hq2 hf2 h3 h1 h2
        obtain ⟨hfo,-,-⟩:=HI.out.thr.fr _ List.mem_cons_self
        obtain ⟨hpo,hm1,hm2⟩:=hfo.mem (q:=(a,u,v)) (by rw[h1];exact List.mem_cons_self)
        obtain ⟨hnu,hnv⟩:=fr_node (q:=(a,u,v)) HN.out.1 HN.out.2 ⟨hm1,hm2⟩
        have hc:=HI.out.cnt
        rw[Tr.wS_cons,h1,Tr.wM_cons,List.length_cons] at hc
        refine⟨4*(Tr.wgt u v+Tr.wS ((l,fr.to (a+1)) :: S))+2*((l,fr.to (a+1)) :: S).length+1,?_,u,v,(l,fr.to (a+1)) :: S,some ⟨q,0,none⟩,d,z,both,⟨rfl,rfl,rfl,rfl,rfl,rfl,rfl,rfl,rfl⟩,hth,hnu,hnv,hpo,rfl⟩
        rw[Tr.wS_cons,h2,List.length_cons]
        simp only at hc ⊢
        omega
/-! ### Changes -/
/-! ### Same,Steps -/
def SmInv (h:Nat) (us:List Chg) (w:World) (F:Nat→Prop):Prop:=w.heap[h]?=some (.cells #[.bool us.isEmpty] 4 (0,0))∧F=fun b=>b=h
set_option maxRecDepth 100000 in
theorem same1_visit {B k h M:Nat} (hB:B≤h):VisitD 65 #[.pointer (some ⟨h,0,none⟩)] B k M false (SmInv h) where
  ent:=enters_of Tryz.func65 (by kernel_rfl) rfl
  frame:=by
    rintro us w w' F ⟨h1,rfl⟩ hs hb
    exact⟨(hb h rfl).trans h1,rfl⟩
  inb:=by
    rintro us w F ⟨h1,rfl⟩ b rfl
    exact⟨(Array.getElem?_eq_some_iff.1 h1).1,hB⟩
  call:=by
    rintro us w F x y ⟨h1,rfl⟩ hx hy hBw hT ht hlen
    have hne:=tell_ne hx hy ht
    have c0:w.cell? ⟨h,0,none⟩=some (.bool us.isEmpty):=by rw[cell_of_row w h _ _ _ (0,0) h1];rfl
    have z0:=frozen_of_row w h 0 _ _ h1
    rw[show (#[.pointer (rootP x),.pointer (rootP y)]++#[.pointer (some ⟨h,0,none⟩)]:Array Value)=#[.pointer (rootP x),.pointer (rootP y),.pointer (some ⟨h,0,none⟩)] from rfl]
    have HX:=Lib.hid (And.intro h1 hne)
    clear h1 hx hy hBw hT ht hlen hne
    go_enter Tryz.func65,Tryz.ntmps65
    go_wp2_with fail
    go_ret
    obtain ⟨h1,hne⟩:=HX.out
    refine⟨rfl,fun b=>b=h,⟨?_,rfl⟩,fun b hb=>.inl hb,Foot.setCell w (F:=fun b=>b=h) (a:=⟨h,0,none⟩) rfl _⟩
    rw[heap_setCell_same w h 0 _ _ (.bool false) h1]
    have:(us++Tr.chO x y).isEmpty=false:=by
      cases hq:us++Tr.chO x y with
      | nil=>exact absurd (List.append_eq_nil_iff.1 hq).2 hne
      | cons=>rfl
    rw[this]
    rfl
/-! ### Count -/
/-! ### through -/
def EndW (go:Bool) (Inv:List Chg→World→(Nat→Prop)→Prop) (C:List Chg) (w:World) (F:Nat→Prop) (w':World):Prop :=
  ∃ (us:List Chg) (F':Nat→Prop),Inv us w' F'∧(go=true→us=C)∧(go=false→(us=[]↔C=[]))∧(∀ b,F' b→F b∨w.heap.size≤b)∧Foot F w w'
theorem dthru_c {fid:Nat} {lb:Array Value} {B k M:Nat} {go:Bool} {Inv:List Chg→World→(Nat→Prop)→Prop} (hv:VisitD fid lb B k M go Inv) {w:World} {F:Nat→Prop} (hI:Inv [] w F) {b b':Nat} {x y:Option T} (hx:TreeAt w B b k x) (hy:TreeAt w B b' k y) (hB:B≤w.heap.size) (hT:∀ w',Below B w w'→Tz w') (hM:(Tr.chO x y).length≤M) :
    Calls Tryz.prog 64 #[.pointer (some ⟨b,0,none⟩),.pointer (some ⟨b',0,none⟩),.func (.func fid) #[] lb] w fun e w'=>∃ z:Int,e=.returned (.tuple #[.int .i64 z,.int .i64 0])∧EndW go Inv (Tr.chO x y) w F w':=by
  have HTh:=Lib.hid (dthrough_c hv hI hx.2.2.2.2 hy.2.2.2.2 hB hT hM)
  have HK:=Lib.hid (tK_c hx.2.2.2.1)
  have HK':=Lib.hid (tK_c hy.2.2.2.1)
  have HR:=Lib.hid (tRoot_c hx.2.2.2.1)
  have HR':=Lib.hid (tRoot_c hy.2.2.2.1)
  have e1:((k:Int) != (k:Int))=false:=by simp
  clear hv hI hx hy hB hT hM
  go_enter Tryz.func64,Tryz.ntmps64
  go_wp2_with fail
  refine HK.out.mono ?_
  rintro e w' ⟨rfl,rfl⟩
  clear HK
  go_wp2_with fail
  refine HK'.out.mono ?_
  rintro e w' ⟨rfl,rfl⟩
  clear HK'
  go_wp2_with fail
  refine HR.out.mono ?_
  rintro e w' ⟨rfl,rfl⟩
  clear HR
  go_wp2_with fail
  refine HR'.out.mono ?_
  rintro e w' ⟨rfl,rfl⟩
  clear HR'
  go_wp2_with fail
  refine HTh.out.mono ?_
  rintro e w2 ⟨z,us,F',rfl,he⟩
  have HE:=Lib.hid he
  clear he HTh
  go_wp2_with fail
  go_ret2
  exact⟨z,rfl,us,F',HE.out⟩
/-! ### Changes -/
/-! ### Count -/
/-! ### Same -/
theorem dSame_same (w:World) (x:Option Addr):Calls Tryz.prog 27 #[.pointer x,.pointer x] w fun e w'=>e=.returned (.bool true)∧w=w':=by
  cases x with
  | none =>
    have hp:=tptr_none w
    go_enter Tryz.func27,Tryz.ntmps27
    go_wp2_with fail
    go_ret
    exact⟨rfl,rfl⟩
  | some a =>
    have hp:=tptr_eq w a
    go_enter Tryz.func27,Tryz.ntmps27
    go_wp2_with fail
    go_ret
    exact⟨rfl,rfl⟩
theorem treeX_same {w:World} {b k:Nat} {x y:Option T} (hx:TreeX w b k x) (hy:TreeX w b k y):Tr.entsO x=Tr.entsO y:=by
  have e:=hx.1.2.2.2.1.2.symm.trans hy.1.2.2.2.1.2
  simp only[Option.some.injEq,Value.pointer.injEq] at e
  exact nodeO_same hx.1.2.2.2.2 hy.1.2.2.2.2 e
theorem dSame_c {w:World} {b b' k:Nat} {x y:Option T} (hx:TreeX w b k x) (hy:TreeX w b' k y) (hT:∀ w',Below w.heap.size w w'→Tz w') (hM:(Tr.chO x y).length≤100000000) {r:Bool} (hr:(Tr.chO x y).isEmpty=r) :
    Calls Tryz.prog 27 #[.pointer (some ⟨b,0,none⟩),.pointer (some ⟨b',0,none⟩)] w fun e w'=>e=.returned (.bool r)∧Below w.heap.size w w':=by
  by_cases hbb:b=b'
  · subst hbb
    have he:Tr.chO x y=[]:=by
      show Tr.chL (Tr.entsO x) (Tr.entsO y)=[]
      rw[treeX_same hx hy]
      exact Tr.chL_same _
    rw[he] at hr
    subst hr
    refine (dSame_same w _).mono ?_
    rintro e w' ⟨rfl,rfl⟩
    exact⟨rfl,Below.refl _ _⟩
  · have h2:=below_alloc w (.cells #[.bool true] 4)
    have hg:=heap_at w (.cells #[.bool true] 4) _ rfl
    have hp:=tptr_ne hx.2 hy.2 hbb
    have HTh:=Lib.hid (dthru_c (same1_visit (B:=w.heap.size) (k:=k) (h:=w.heap.size) (M:=100000000) (Nat.le_refl _)) (w:=w.alloc (.cells #[.bool true] 4)) (F:=fun b=>b=w.heap.size)
      ⟨hg,rfl⟩ (hx.1.below h2 (Nat.le_refl _) (Nat.le_refl _)) (hy.1.below h2 (Nat.le_refl _) (Nat.le_refl _)) h2.size (fun w' hb=>hT w' (h2.trans hb)) hM)
    have H2:=Lib.hid (And.intro h2 hr)
    clear hx hy hT hM hg h2 hbb hr
    go_enter Tryz.func27,Tryz.ntmps27
    go_wp2_with fail
    refine HTh.out.mono ?_
    rintro e w3 ⟨z,rfl,us,F',⟨i1,rfl⟩,-,hgo,hF,hfo⟩
    have hus:us.isEmpty=r:=by
      rw[← H2.out.2]
      have hh:=hgo rfl
      cases hc:Tr.chO x y with
      | nil=>rw[hh.2 hc]
      | cons a l =>
        cases us with
        | nil=>have:=hh.1 rfl;rw[hc] at this;cases this
        | cons=>rfl
    have c0:w3.cell? ⟨w.heap.size,0,none⟩=some (.bool r):=by rw[cell_of_row w3 _ _ _ _ (0,0) i1,hus];rfl
    have hbl:Below w.heap.size w w3:=H2.out.1.trans (hfo.below H2.out.1.size (fun b hb=>by omega))
    have HR:=Lib.hid hbl
    clear i1 hgo hF hfo hbl HTh H2 hus hp
    cases r with
    | true=>(go_wp2_with fail);go_ret;exact⟨rfl,HR.out⟩
    | false=>(go_wp2_with fail);go_ret;exact⟨rfl,HR.out⟩
/-! ### Steps -/
end Go.Proofs.YtmkejbfgdmbejaaGreatDoor
namespace Go.Proofs.YtmkejbfgdmbejaaGreatDoor
open Tr (T S4 Ent)
namespace Tr
open Go.Proofs.YtmkejbfgdmbejaaGreatDoor.Z
theorem bec_swap (o a b:Option Nat):bec o a b=bec o b a:=by
  unfold bec
  by_cases h1:a=b
  · subst h1;rfl
  · rw[if_neg h1,if_neg (show ¬ b=a from fun e=>h1 e.symm)]
    by_cases h2:a=o
    · rw[if_pos h2]
      by_cases h3:b=o
      · exact absurd (h2.trans h3.symm) h1
      · rw[if_neg h3,if_pos h2]
    · rw[if_neg h2]
      by_cases h3:b=o
      · rw[if_pos h3,if_pos h3]
      · rw[if_neg h3,if_neg h3,if_neg h2]
abbrev ClP:=List Nat × Cl
def swapK (c:ClP):ClP:=(c.1,(c.2.1,c.2.2.2,c.2.2.1))
theorem swapK_swapK (c:ClP):swapK (swapK c)=c:=rfl
section
variable {k:Nat} {O A B:List Ent}
theorem cl_nil (zO:ZS O) (zA:ZS A) (zB:ZS B) (dO:Dim k O) (dA:Dim k A) (dB:Dim k B) (h:∀ p,p.length=k→Ok p→bec (getE O p) (getE A p) (getE B p)≠none):ppL clG O A B=[]:=by
  refine List.eq_nil_iff_forall_not_mem.2 fun c hc=>?_
  obtain ⟨⟨h1,h2⟩,h3⟩:=(mem_ppL cl_none zO zA zB dO dA dB).1 hc
  unfold clG at h3
  cases hb:bec (getE O c.1) (getE A c.1) (getE B c.1) with
  | none=>exact h c.1 h1 h2 hb
  | some x=>rw[hb] at h3;cases h3
theorem mg_list {r:Int} (zO:ZS O) (zA:ZS A) (zB:ZS B) (dO:Dim k O) (dA:Dim k A) (dB:Dim k B) {L:List Ent} (zL:ZS L) (dL:Dim k L) (h:∀ p,p.length=k→Ok p→mgG r (getE O p) (getE A p) (getE B p)=getE L p):ppL (mgG r) O A B=L:=by
  refine (ppL_uniq (mg_none r) zO zA zB dO dA dB (L:=L) zL fun c=>?_).symm
  constructor
  · intro hc
    have hd:=dL c hc
    refine⟨⟨hd.1,hd.2.1⟩,?_⟩
    rw[h c.1 hd.1 hd.2.1]
    exact (getE_iff zL dL hd.1 hd.2.1).2 hc
  · rintro ⟨⟨h1,h2⟩,h3⟩
    rw[h c.1 h1 h2] at h3
    exact (getE_iff zL dL h1 h2).1 h3
theorem cl_swap (zO:ZS O) (zA:ZS A) (zB:ZS B) (dO:Dim k O) (dA:Dim k A) (dB:Dim k B):ppL clG O B A=(ppL clG O A B).map swapK:=by
  refine (ppL_uniq cl_none zO zB zA dO dB dA (L:=(ppL clG O A B).map swapK) ?_ fun c=>?_).symm
  · exact List.pairwise_map.2 (ppL_xs (g:=clG) zO dO dA dB)
  · have hiff:c∈(ppL clG O A B).map swapK↔swapK c∈ppL clG O A B:=by
      rw[List.mem_map]
      constructor
      · rintro ⟨d,hd,rfl⟩
        rw[swapK_swapK];exact hd
      · intro h;exact⟨swapK c,h,swapK_swapK c⟩
    rw[hiff,mem_ppL cl_none zO zA zB dO dA dB]
    obtain ⟨p,o,a,b⟩:=c
    simp only[swapK]
    refine and_congr Iff.rfl ?_
    unfold clG
    rw[bec_swap (getE O p) (getE B p) (getE A p)]
    cases hb:bec (getE O p) (getE A p) (getE B p) with
    | some x=>simp
    | none =>
      simp only[Option.some.injEq,Prod.mk.injEq]
      exact⟨fun ⟨e1,e2,e3⟩=>⟨e1,e3,e2⟩,fun ⟨e1,e2,e3⟩=>⟨e1,e3,e2⟩⟩
theorem mg_swap (r:Int) (zO:ZS O) (zA:ZS A) (zB:ZS B) (dO:Dim k O) (dA:Dim k A) (dB:Dim k B) (h:ppL clG O A B=[]):ppL (mgG r) O B A=ppL (mgG r) O A B:=by
  obtain ⟨zL,dL⟩:=mg_dim r zO zA zB dO dA dB
  refine mg_list zO zB zA dO dB dA zL dL fun p hp ho=>?_
  have hn:=cl_ne zO zA zB dO dA dB h hp ho
  have hx:mgG r (getE O p) (getE B p) (getE A p)=mgG r (getE O p) (getE A p) (getE B p):=by
    unfold mgG
    rw[bec_swap (getE O p) (getE B p) (getE A p)]
    cases hb:bec (getE O p) (getE A p) (getE B p) with
    | none=>exact absurd hb hn
    | some x=>rfl
  rw[hx]
  cases hg:getE (ppL (mgG r) O A B) p with
  | some v=>exact ((mem_ppL (mg_none r) zO zA zB dO dA dB).1 ((getE_iff zL dL hp ho).1 hg)).2
  | none =>
    cases hm:mgG r (getE O p) (getE A p) (getE B p) with
    | none=>rfl
    | some v =>
      have:=(getE_iff zL dL hp ho).2 ((mem_ppL (c:=(p,v)) (mg_none r) zO zA zB dO dA dB).2 ⟨⟨hp,ho⟩,hm⟩)
      rw[hg] at this
      cases this
theorem cl_oo (zO:ZS O) (zB:ZS B) (dO:Dim k O) (dB:Dim k B):ppL clG O O B=[]:=cl_nil zO zO zB dO dO dB fun p _ _=>by rw[bec_ao];simp
theorem cl_xo (zO:ZS O) (zA:ZS A) (dO:Dim k O) (dA:Dim k A):ppL clG O A O=[]:=cl_nil zO zA zO dO dA dO fun p _ _=>by rw[bec_bo];simp
theorem cl_xx (zO:ZS O) (zA:ZS A) (dO:Dim k O) (dA:Dim k A):ppL clG O A A=[]:=cl_nil zO zA zA dO dA dA fun p _ _=>by rw[bec_ab];simp
theorem mg_oo (r:Int) (zO:ZS O) (zB:ZS B) (dO:Dim k O) (dB:Dim k B):ppL (mgG r) O O B=B:=mg_list zO zO zB dO dO dB zB dB fun p _ _=>by unfold mgG;rw[bec_ao]
theorem mg_xo (r:Int) (zO:ZS O) (zA:ZS A) (dO:Dim k O) (dA:Dim k A):ppL (mgG r) O A O=A:=mg_list zO zA zO dO dA dO zA dA fun p _ _=>by unfold mgG;rw[bec_bo]
theorem mg_xx (r:Int) (zO:ZS O) (zA:ZS A) (dO:Dim k O) (dA:Dim k A):ppL (mgG r) O A A=A:=mg_list zO zA zA dO dA dA zA dA fun p _ _=>by unfold mgG;rw[bec_ab]
end
end Tr
end Go.Proofs.YtmkejbfgdmbejaaGreatDoor
namespace Go.Proofs.YtmkejbfgdmbejaaGreatDoor
open Go.ChangeShapes Go.WideShapes Go.ChangeAt Go.RowKit
open Tr (T S4 Ent Tri KL)
set_option maxRecDepth 1000000 in
set_option maxHeartbeats 8000000 in
theorem r14swapped_c {w:World} {L:List Cls} {A:Option Addr} {c n:Nat} (h:Cks w A L) (hn:L.length=n) (hl:n≤100000) :
    Calls Tryz.prog 26 #[.slice A n c] w fun e w'=>∃ D d,e=.returned (.slice D n d)∧Cks w' D (L.map Tr.swapK)∧Below w.heap.size w w':=by
  have hal:=below_alloc w (.cells #[] 91)
  have ho0:OwnL 91 7 (ClG w fun b=>b<w.heap.size) (w.alloc (.cells #[] 91)) w.heap.size (.slice (some ⟨w.heap.size,0,none⟩) 0 0) []:=ownL_nil _ w
  have HX:=Lib.hid (And.intro h (And.intro hn hl))
  have H0:=Lib.hid (And.intro ho0 hal)
  have hn9:(n:Int)≤100000:=by omega
  clear h hn hl hal ho0
  go_enter Tryz.func26,Tryz.ntmps26
  go_wp2_with fail
  obtain ⟨W1,hW1⟩:∃ W1,W1=w.alloc (.cells #[] 91):=⟨_,rfl⟩
  rw[← hW1] at H0 ⊢
  clear hW1
  go_loopw [3,4] (fun u v wr=>∃ (j:Nat) (D:Option Addr) (d:Nat),u=.slice D j d∧v=.int .i64 (j:Int)∧j≤n∧OwnL 91 7 (ClG w fun b=>b<w.heap.size) wr w.heap.size (.slice D j d) ((L.take j).map Tr.swapK)∧Below w.heap.size w wr) (fun _ v _=>n - (intOf v).toNat)
  case atStart=>exact⟨0,_,0,rfl,rfl,Nat.zero_le _,H0.out.1,H0.out.2⟩
  case round =>
    clear H0
    obtain ⟨j,D,d,rfl,rfl,hj,hown,hbw⟩:=hrel
    by_cases hlt:j<n
    · obtain ⟨y,hy⟩:=get_lt (us:=L) (k:=j) (by rw[HX.out.2.1];exact hlt)
      obtain ⟨b,off,P,pc,hA,hb,hc⟩:=HX.out.1.at hy
      have hc2:=hc.below hbw hb
      obtain ⟨e0,e1,e2,e3,e4,e5,e6,-,-,-⟩:=hc2
      subst hA
      obtain ⟨s1,hs1⟩:∃ s,y.2.1.isSome=s:=⟨_,rfl⟩
      obtain ⟨s2,hs2⟩:∃ s,y.2.2.1.isSome=s:=⟨_,rfl⟩
      obtain ⟨s3,hs3⟩:∃ s,y.2.2.2.isSome=s:=⟨_,rfl⟩
      obtain ⟨v1,hv1⟩:∃ v,y.2.1.getD 0=v:=⟨_,rfl⟩
      obtain ⟨v2,hv2⟩:∃ v,y.2.2.1.getD 0=v:=⟨_,rfl⟩
      obtain ⟨v3,hv3⟩:∃ v,y.2.2.2.getD 0=v:=⟨_,rfl⟩
      obtain ⟨m,hm⟩:∃ m,y.1.length=m:=⟨_,rfl⟩
      have hcells:ClG w (fun b=>b<w.heap.size) (fun i=>(#[.slice P m pc,.bool s1,.bool s3,.bool s2,.int .u64 (v1:Int),.int .u64 (v3:Int),.int .u64 (v2:Int)]:Array Value)[i]?) (Tr.swapK y) :=
        ⟨P,pc,⟨by rw[← hm];rfl,by rw[← hs1];rfl,by rw[← hs3];rfl,by rw[← hs2];rfl⟩,⟨by rw[← hv1];rfl,by rw[← hv3];rfl,by rw[← hv2];rfl⟩,ptsG_of hc.pt (Nat.le_refl _),hc.pl,⟨hc.lt.1,hc.lt.2.2,hc.lt.2.1⟩⟩
      rw[hm] at e0
      rw[hs1] at e1
      rw[hs2] at e2
      rw[hs3] at e3
      rw[hv1] at e4
      rw[hv2] at e5
      rw[hv3] at e6
      have hlen:((L.take j).map Tr.swapK).length=j:=by rw[List.length_map,List.length_take,HX.out.2.1];omega
      have htk:(L.take (j+1)).map Tr.swapK=(L.take j).map Tr.swapK++[Tr.swapK y]:=by
        rw[List.take_add_one,hy]
        simp
      have HE:=Lib.hid (And.intro hcells (And.intro hown (And.intro hbw (And.intro hlen (And.intro htk hlt)))))
      have f1:decide ((j:Int)<(n:Int))=true:=decide_eq_true (by omega)
      have f1':decide (j<n)=true:=decide_eq_true hlt
      have m1:(0:Int)≤(j:Int):=by omega
      have m2:(j:Int)<(n:Int):=by omega
      have m3:(j:Int)≤100000:=by omega
      have HB2:=Lib.hid (Below.andThen (below_alloc wr (.cells #[.slice P m pc,.bool s1,.bool s2,.bool s3,.int .u64 (v1:Int),.int .u64 (v2:Int),.int .u64 (v3:Int)] 91)) (below_alloc (wr.alloc (.cells #[.slice P m pc,.bool s1,.bool s2,.bool s3,.int .u64 (v1:Int),.int .u64 (v2:Int),.int .u64 (v3:Int)] 91)) (.cells #[.slice P m pc,.bool s1,.bool s3,.bool s2,.int .u64 (v1:Int),.int .u64 (v3:Int),.int .u64 (v2:Int)] 91)))
      clear hcells hown hbw hlen htk hlt hj hc hb hy hs1 hs2 hs3 hv1 hv2 hv3 hm
      go_wp2_with (at_builtin;refine wpList_append_list (Q:=ClG w fun b=>b<w.heap.size) 46 91 (.agg #[.slice none 0 0,.bool false,.bool false,.bool false,.int .u64 0,.int .u64 0,.int .u64 0]) 56 Tryz.underlying46 infoCls (by rfl) (by omega) (by omega) (clG_ok _ _) (by rfl) _ _ (by rfl) w.heap.size (.slice D j d) ((L.take j).map Tr.swapK) [Tr.swapK y] (j+1) (by rw[HE.out.2.2.2.1];rfl) (by rfl) (by exact HE.out.2.1.below HB2.out (Nat.le_refl _)) _ _ 1 1 (by rfl) (by rfl) (by exact lst_next2 (clG_ok _ _) _ #[.slice P m pc,.bool s1,.bool s3,.bool s2,.int .u64 (v1:Int),.int .u64 (v3:Int),.int .u64 (v2:Int)] (Tr.swapK y) (by rfl) (by exact HE.out.1)) (by omega) (by have:=HE.out.2.2.1.size;have:=HB2.out.size;omega) ?_;intro D5 d5 w6 hown5 hgrow5 hat5;have hg5:Below w.heap.size w w6:=Below.grown (HE.out.2.2.1.trans (HB2.out.mono HE.out.2.2.1.size)) hgrow5 (by have:=HE.out.2.2.1.size;have:=HB2.out.size;omega) (fun q hq=>(HE.out.2.1.lt q hq).1);have HN:=Lib.hid (And.intro hown5 hg5);clear hown5 hgrow5 hat5 hg5)
      clear e0 e1 e2 e3 e4 e5 e6
      go_roundw
      case rel=>exact⟨j+1,D5,d5,rfl,by first | rfl | go_num,by have:=HE.out.2.2.2.2.2;omega,by rw[HE.out.2.2.2.2.1];exact HN.out.1,HN.out.2⟩
      case measure =>
        have:=HE.out.2.2.2.2.2
        show n - ((j:Int)+1).toNat<n - (j:Int).toNat
        omega
    · have hjn:n=j:=by omega
      subst hjn
      have f1:decide ((n:Int)<(n:Int))=false:=decide_eq_false (by omega)
      have f1':decide (n<n)=false:=decide_eq_false (by omega)
      rw[show L.take n=L by rw[← HX.out.2.1,List.take_length]] at hown
      have hck:Cks wr D (L.map Tr.swapK):=clG_own (hown.imp (ClG.step (G':=fun b=>b<w.heap.size) hbw.size fun b _ hG=>⟨hbw.block b hG,hG⟩))
      have HR:=Lib.hid (And.intro hck hbw)
      clear hown hck hbw hlt hj
      go_wp2_with fail
      go_ret
      exact⟨D,d,rfl,HR.out.1,HR.out.2⟩
theorem ppT_small {k:Nat} {t:Tri} {X:Type} {g:Tr.Pt X} {w:World} {b0 b1 b2:Nat} (h0:TreeX w b0 k t.o) (h1:TreeX w b1 k t.a) (h2:TreeX w b2 k t.b):(Tr.ppT g t).length≤cnt3 t:=by
  obtain ⟨d0,z0⟩:=treeX_dz h0
  obtain ⟨d1,-⟩:=treeX_dz h1
  obtain ⟨d2,-⟩:=treeX_dz h2
  exact Tr.ppL_len z0 d0 d1 d2
end Go.Proofs.YtmkejbfgdmbejaaGreatDoor
