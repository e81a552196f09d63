import Derived.Laws.StructEq
import Derived.Test.YtkeepngaaleakaaGreatDoorM17
namespace Go.Proofs.YtkeepngaaleakaaGreatDoor
open Tr (T S4 Ent)
namespace Tr
open Go.Proofs.YtkeepngaaleakaaGreatDoor.Z
/-! ### changes -/
abbrev Chg:=List Nat × Option Nat × Option Nat
def CS (L:List Chg):Prop:=L.Pairwise fun a b => key a.1 < key b.1
theorem CS.ext:∀ {L M:List Chg},CS L→CS M→(∀ e,e∈L↔e∈M)→L = M
  | [],[],_,_,_ => rfl
  | [],b :: M,_,_,h => by have:=(h b).2 List.mem_cons_self;cases this
  | a :: L,[],_,_,h => by have:=(h a).1 List.mem_cons_self;cases this
  | a :: L,b :: M,hL,hM,h => by
    obtain ⟨l1,l2⟩:=List.pairwise_cons.1 hL
    obtain ⟨m1,m2⟩:=List.pairwise_cons.1 hM
    have hab:a = b:=by
      rcases List.mem_cons.1 ((h a).1 List.mem_cons_self) with e | e
      · exact e
      · rcases List.mem_cons.1 ((h b).2 List.mem_cons_self) with f | f
        · exact f.symm
        · have:=l1 b f;have:=m1 a e;omega
    subst hab
    congr 1
    refine CS.ext l2 m2 fun e => ⟨fun he => ?_,fun he => ?_⟩
    · rcases List.mem_cons.1 ((h e).1 (List.mem_cons_of_mem _ he)) with f | f
      · rw [f] at he;have:=l1 a he;omega
      · exact f
    · rcases List.mem_cons.1 ((h e).2 (List.mem_cons_of_mem _ he)) with f | f
      · rw [f] at he;have:=m1 a he;omega
      · exact f
def ptsU (L M:List Ent):List Ent:=M.foldl (fun A e => putE e.1 0 A) L
theorem ptsU_nil (L:List Ent):ptsU L [] = L:=rfl
theorem ptsU_cons (L:List Ent) (e:Ent) (M:List Ent):ptsU L (e :: M) = ptsU (putE e.1 0 L) M:=rfl
theorem ptsU_zs {k:Nat}:∀ {M L:List Ent},ZS L→Dim k L→Dim k M→ZS (ptsU L M)∧Dim k (ptsU L M)∧(ptsU L M).length≤L.length + M.length∧∀ p,(∃ v,(p,v)∈ptsU L M)↔(∃ v,(p,v)∈L)∨∃ v,(p,v)∈M
  | [],L,hz,hd,_ => ⟨hz,hd,Nat.le_refl _,fun p => by rw [ptsU_nil];simp⟩
  | e :: M,L,hz,hd,hm => by
    have he:=hm e List.mem_cons_self
    obtain ⟨h1,h2,h3,h4⟩:=ptsU_zs (hz.put e.1 0) (Dim.put hz hd he.1 he.2.1 (by omega)) (fun x hx => hm x (List.mem_cons_of_mem _ hx))
    rw [ptsU_cons]
    refine ⟨h1,h2,?_,fun p => ?_⟩
    · have:=length_putE hz e.1 0
      simp only [List.length_cons]
      omega
    · rw [h4 p]
      constructor
      · rintro (⟨v,hv⟩ | ⟨v,hv⟩)
        · rcases (mem_putE hz).1 hv with c | c
          · simp only [Prod.mk.injEq] at c
            exact .inr ⟨e.2,by rw [c.1];exact List.mem_cons_self⟩
          · exact .inl ⟨v,c.1⟩
        · exact .inr ⟨v,List.mem_cons_of_mem _ hv⟩
      · rintro (⟨v,hv⟩ | ⟨v,hv⟩)
        · by_cases c:key p = key e.1
          · have hp:p = e.1:=(key_inj (by rw [(hd _ hv).1,he.1]) (hd _ hv).2.1 he.2.1).1 c
            exact .inl ⟨0,(mem_putE hz).2 (.inl (by rw [hp]))⟩
          · exact .inl ⟨v,(mem_putE hz).2 (.inr ⟨hv,c⟩)⟩
        · rcases List.mem_cons.1 hv with c | c
          · exact .inl ⟨0,(mem_putE hz).2 (.inl (by rw [← c]))⟩
          · exact .inr ⟨v,c⟩
def chgAt (L M:List Ent) (p:List Nat):Option Chg:=if getE L p = getE M p then none else some (p,getE L p,getE M p)
def chL (L M:List Ent):List Chg:=(ptsU L M).filterMap fun e => chgAt L M e.1
def IsChg (L M:List Ent) (c:Chg):Prop:=(∀ v,c.2.1 = some v↔(c.1,v)∈L)∧(∀ v,c.2.2 = some v↔(c.1,v)∈M)∧c.2.1≠c.2.2
theorem chgAt_fst {L M:List Ent} {p:List Nat} {c:Chg} (h:chgAt L M p = some c):c = (p,getE L p,getE M p)∧getE L p≠getE M p:=by
  unfold chgAt at h
  split at h
  · cases h
  · rename_i hne
    exact ⟨(Option.some.inj h).symm,hne⟩
theorem cs_filterMap {L M:List Ent}:∀ {U:List Ent},ZS U→CS (U.filterMap fun e => chgAt L M e.1)
  | [],_ => List.Pairwise.nil
  | e :: U,h => by
    obtain ⟨h1,h2⟩:=List.pairwise_cons.1 h
    have ih:=cs_filterMap (L:=L) (M:=M) h2
    rw [List.filterMap_cons]
    split
    · exact ih
    · rename_i c hc
      refine List.pairwise_cons.2 ⟨fun d hd => ?_,ih⟩
      obtain ⟨f,hf,hfd⟩:=List.mem_filterMap.1 hd
      rw [(chgAt_fst hc).1,(chgAt_fst hfd).1]
      exact h1 f hf
section
variable {k:Nat} {L M:List Ent}
theorem chL_cs (zL:ZS L) (dL:Dim k L) (dM:Dim k M):CS (chL L M):=cs_filterMap (ptsU_zs zL dL dM).1
theorem mem_chL (zL:ZS L) (zM:ZS M) (dL:Dim k L) (dM:Dim k M) {c:Chg}:c∈chL L M↔IsChg L M c:=by
  obtain ⟨-,hd,-,hp⟩:=ptsU_zs zL dL dM
  unfold chL
  rw [List.mem_filterMap]
  constructor
  · rintro ⟨e,he,hc⟩
    obtain ⟨rfl,hne⟩:=chgAt_fst hc
    have de:=hd e he
    exact ⟨fun v => getE_iff zL dL de.1 de.2.1,fun v => getE_iff zM dM de.1 de.2.1,hne⟩
  · rintro ⟨h1,h2,h3⟩
    obtain ⟨p,a,b⟩:=c
    simp only at h1 h2 h3
    have hex:(∃ v,(p,v)∈L)∨∃ v,(p,v)∈M:=by
      cases a with
      | some v => exact .inl ⟨v,(h1 v).1 rfl⟩
      | none =>
        cases b with
        | some v => exact .inr ⟨v,(h2 v).1 rfl⟩
        | none => exact absurd rfl h3
    obtain ⟨u,hu⟩:=(hp p).2 hex
    have de:=hd _ hu
    have ea:getE L p = a:=by
      cases a with
      | some v => exact (getE_iff zL dL de.1 de.2.1).2 ((h1 v).1 rfl)
      | none =>
        cases hg:getE L p with
        | none => rfl
        | some v => have:=(h1 v).2 ((getE_iff zL dL de.1 de.2.1).1 hg);cases this
    have eb:getE M p = b:=by
      cases b with
      | some v => exact (getE_iff zM dM de.1 de.2.1).2 ((h2 v).1 rfl)
      | none =>
        cases hg:getE M p with
        | none => rfl
        | some v => have:=(h2 v).2 ((getE_iff zM dM de.1 de.2.1).1 hg);cases this
    refine ⟨(p,u),hu,?_⟩
    unfold chgAt
    rw [ea,eb,if_neg h3]
theorem chL_uniq (zL:ZS L) (zM:ZS M) (dL:Dim k L) (dM:Dim k M) {X:List Chg} (hX:CS X) (h:∀ c,c∈X↔IsChg L M c):X = chL L M :=
  hX.ext (chL_cs zL dL dM) fun c => (h c).trans (mem_chL zL zM dL dM).symm
theorem IsChg.point {c:Chg} (h:IsChg L M c):(∃ v,(c.1,v)∈L)∨∃ v,(c.1,v)∈M:=by
  obtain ⟨h1,h2,h3⟩:=h
  cases ha:c.2.1 with
  | some v => exact .inl ⟨v,(h1 v).1 ha⟩
  | none =>
    cases hb:c.2.2 with
    | some v => exact .inr ⟨v,(h2 v).1 hb⟩
    | none => exact absurd (ha.trans hb.symm) h3
end
theorem chL_same (L:List Ent):chL L L = []:=by
  unfold chL
  rw [List.filterMap_eq_nil_iff]
  intro e _
  simp [chgAt]
def swapC (c:Chg):Chg:=(c.1,c.2.2,c.2.1)
theorem chL_swap {k:Nat} {L M:List Ent} (zL:ZS L) (zM:ZS M) (dL:Dim k L) (dM:Dim k M):(chL L M).map swapC = chL M L:=by
  refine chL_uniq zM zL dM dL ?_ fun c => ?_
  · exact List.pairwise_map.2 ((chL_cs zL dL dM).imp fun {a b} h => h)
  · rw [List.mem_map]
    constructor
    · rintro ⟨d,hd,rfl⟩
      obtain ⟨h1,h2,h3⟩:=(mem_chL zL zM dL dM).1 hd
      exact ⟨h2,h1,fun e => h3 e.symm⟩
    · rintro ⟨h1,h2,h3⟩
      exact ⟨swapC c,(mem_chL zL zM dL dM).2 ⟨h2,h1,fun e => h3 e.symm⟩,rfl⟩
theorem chL_nil {k:Nat} {L M:List Ent} (zL:ZS L) (zM:ZS M) (dL:Dim k L) (dM:Dim k M):chL L M = []↔L = M:=by
  constructor
  · intro h
    refine ZS.ext zL zM fun e => ?_
    obtain ⟨p,v⟩:=e
    have key:∀ {A B:List Ent} (zA:ZS A) (zB:ZS B) (dA:Dim k A) (dB:Dim k B),chL A B = []→∀ {p:List Nat} {v:Nat},(p,v)∈A→(p,v)∈B:=by
      intro A B zA zB dA dB h p v hv
      have de:=dA _ hv
      have hg:=(getE_iff zA dA de.1 de.2.1).2 hv
      refine (getE_iff zB dB de.1 de.2.1).1 ?_
      refine Classical.byContradiction fun hne => ?_
      have:((p,getE A p,getE B p):Chg)∈chL A B:=(mem_chL zA zB dA dB).2 ⟨fun v => getE_iff zA dA de.1 de.2.1,fun v => getE_iff zB dB de.1 de.2.1,by simp only;rw [hg];exact fun e => hne e.symm⟩
      rw [h] at this
      cases this
    refine ⟨fun hv => key zL zM dL dM h hv,fun hv => key zM zL dM dL ?_ hv⟩
    rw [← chL_swap zL zM dL dM,h]
    rfl
  · rintro rfl
    exact chL_same L
theorem chL_app {k:Nat} {A B L M:List Ent} (zA:ZS A) (zB:ZS B) (zL:ZS L) (zM:ZS M) (dA:Dim k A) (dB:Dim k B) (dL:Dim k L) (dM:Dim k M) (h1:Bef A L) (h2:Bef A M) (h3:Bef B L) (h4:Bef B M) :
    chL (A ++ L) (B ++ M) = chL A B ++ chL L M:=by
  have dAL:Dim k (A ++ L):=fun e he => (List.mem_append.1 he).elim (dA e) (dL e)
  have dBM:Dim k (B ++ M):=fun e he => (List.mem_append.1 he).elim (dB e) (dM e)
  refine (chL_uniq (h1.zs zA zL) (h4.zs zB zM) dAL dBM (List.pairwise_append.2 ⟨chL_cs zA dA dB,chL_cs zL dL dM,fun c hc d hd => ?_⟩) fun c => ?_).symm
  · rcases ((mem_chL zA zB dA dB).1 hc).point with ⟨v,hv⟩ | ⟨v,hv⟩ <;> rcases ((mem_chL zL zM dL dM).1 hd).point with ⟨u,hu⟩ | ⟨u,hu⟩
    · exact h1 (c.1,v) hv (d.1,u) hu
    · exact h2 (c.1,v) hv (d.1,u) hu
    · exact h3 (c.1,v) hv (d.1,u) hu
    · exact h4 (c.1,v) hv (d.1,u) hu
  · have no:∀ p,((∃ v,(p,v)∈A)∨∃ v,(p,v)∈B)→∀ u,(p,u) ∉ L∧(p,u) ∉ M:=by
      rintro p (⟨v,hv⟩ | ⟨v,hv⟩) u
      · exact ⟨fun hu => Nat.lt_irrefl _ (h1 (p,v) hv (p,u) hu),fun hu => Nat.lt_irrefl _ (h2 (p,v) hv (p,u) hu)⟩
      · exact ⟨fun hu => Nat.lt_irrefl _ (h3 (p,v) hv (p,u) hu),fun hu => Nat.lt_irrefl _ (h4 (p,v) hv (p,u) hu)⟩
    have no':∀ p,((∃ v,(p,v)∈L)∨∃ v,(p,v)∈M)→∀ u,(p,u) ∉ A∧(p,u) ∉ B:=by
      rintro p (⟨v,hv⟩ | ⟨v,hv⟩) u
      · exact ⟨fun hu => (no p (.inl ⟨u,hu⟩) v).1 hv,fun hu => (no p (.inr ⟨u,hu⟩) v).1 hv⟩
      · exact ⟨fun hu => (no p (.inl ⟨u,hu⟩) v).2 hv,fun hu => (no p (.inr ⟨u,hu⟩) v).2 hv⟩
    rw [List.mem_append,mem_chL zA zB dA dB,mem_chL zL zM dL dM]
    constructor
    · rintro (hc | hc)
      · have hn:=no c.1 hc.point
        obtain ⟨a1,a2,a3⟩:=hc
        exact ⟨fun v => by rw [a1 v,List.mem_append];simp [(hn v).1],fun v => by rw [a2 v,List.mem_append];simp [(hn v).2],a3⟩
      · have hn:=no' c.1 hc.point
        obtain ⟨a1,a2,a3⟩:=hc
        exact ⟨fun v => by rw [a1 v,List.mem_append];simp [(hn v).1],fun v => by rw [a2 v,List.mem_append];simp [(hn v).2],a3⟩
    · intro hc
      have hp:=hc.point
      obtain ⟨a1,a2,a3⟩:=hc
      by_cases c1:(∃ v,(c.1,v)∈A)∨∃ v,(c.1,v)∈B
      · have hn:=no c.1 c1
        exact .inl ⟨fun v => by rw [a1 v,List.mem_append];simp [(hn v).1],fun v => by rw [a2 v,List.mem_append];simp [(hn v).2],a3⟩
      · have c2:(∃ v,(c.1,v)∈L)∨∃ v,(c.1,v)∈M:=by
          rcases hp with ⟨v,hv⟩ | ⟨v,hv⟩
          · rcases List.mem_append.1 hv with q | q
            · exact absurd (.inl ⟨v,q⟩) c1
            · exact .inl ⟨v,q⟩
          · rcases List.mem_append.1 hv with q | q
            · exact absurd (.inr ⟨v,q⟩) c1
            · exact .inr ⟨v,q⟩
        have hn:=no' c.1 c2
        exact .inr ⟨fun v => by rw [a1 v,List.mem_append];simp [(hn v).1],fun v => by rw [a2 v,List.mem_append];simp [(hn v).2],a3⟩
/-! ### two rows of kids side by side -/
abbrev Pr:=Nat × Option T × Option T
def mrg:List (Nat × T)→List (Nat × T)→List Pr
  | [],ys => ys.map fun y => (y.1,none,some y.2)
  | x :: xs,[] => (x :: xs).map fun x => (x.1,some x.2,none)
  | x :: xs,y :: ys => if x.1 < y.1 then (x.1,some x.2,none) :: mrg xs (y :: ys) else if y.1 < x.1 then (y.1,none,some y.2) :: mrg (x :: xs) ys else (x.1,some x.2,some y.2) :: mrg xs ys
termination_by xs ys => xs.length + ys.length
theorem mrg_nil_l (ys:List (Nat × T)):mrg [] ys = ys.map fun y => (y.1,none,some y.2):=by rw [mrg]
theorem mrg_nil_r (xs:List (Nat × T)):mrg xs [] = xs.map fun x => (x.1,some x.2,none):=by
  cases xs with
  | nil => rw [mrg];rfl
  | cons x xs => rw [mrg]
theorem mrg_lt {x y:Nat × T} (xs ys:List (Nat × T)) (h:x.1 < y.1):mrg (x :: xs) (y :: ys) = (x.1,some x.2,none) :: mrg xs (y :: ys):=by rw [mrg,if_pos h]
theorem mrg_gt {x y:Nat × T} (xs ys:List (Nat × T)) (h:y.1 < x.1):mrg (x :: xs) (y :: ys) = (y.1,none,some y.2) :: mrg (x :: xs) ys:=by rw [mrg,if_neg (by omega),if_pos h]
theorem mrg_eq {x y:Nat × T} (xs ys:List (Nat × T)) (h:x.1 = y.1):mrg (x :: xs) (y :: ys) = (x.1,some x.2,some y.2) :: mrg xs ys:=by rw [mrg,if_neg (by omega),if_neg (by omega)]
theorem mrg_ind {P:List (Nat × T)→List (Nat × T)→Prop} (h1:∀ ys,P [] ys) (h2:∀ xs,P xs []) (h3:∀ x y xs ys,x.1 < y.1→P xs (y :: ys)→P (x :: xs) (y :: ys)) (h4:∀ x y xs ys,y.1 < x.1→P (x :: xs) ys→P (x :: xs) (y :: ys))
    (h5:∀ x y xs ys,x.1 = y.1→P xs ys→P (x :: xs) (y :: ys)):∀ (n:Nat) (xs ys:List (Nat × T)),xs.length + ys.length≤n→P xs ys
  | _,[],ys,_ => h1 ys
  | _,x :: xs,[],_ => h2 _
  | 0,x :: xs,y :: ys,h => by simp at h
  | n + 1,x :: xs,y :: ys,h => by
    simp only [List.length_cons] at h
    rcases Nat.lt_trichotomy x.1 y.1 with c | c | c
    · exact h3 _ _ _ _ c (mrg_ind h1 h2 h3 h4 h5 n _ _ (by simp only [List.length_cons];omega))
    · exact h5 _ _ _ _ c (mrg_ind h1 h2 h3 h4 h5 n _ _ (by omega))
    · exact h4 _ _ _ _ c (mrg_ind h1 h2 h3 h4 h5 n _ _ (by simp only [List.length_cons];omega))
theorem mem_mrg {q:Pr} (xs ys:List (Nat × T)):q∈mrg xs ys→(∀ s,q.2.1 = some s→(q.1,s)∈xs)∧(∀ s,q.2.2 = some s→(q.1,s)∈ys)∧(q.2.1≠none∨q.2.2≠none):=by
  refine mrg_ind (P:=fun xs ys => q∈mrg xs ys→(∀ s,q.2.1 = some s→(q.1,s)∈xs)∧(∀ s,q.2.2 = some s→(q.1,s)∈ys)∧(q.2.1≠none∨q.2.2≠none)) ?_ ?_ ?_ ?_ ?_ _ xs ys (Nat.le_refl _)
  · intro ys h
    rw [mrg_nil_l,List.mem_map] at h
    obtain ⟨y,hy,rfl⟩:=h
    exact ⟨fun s e => (by have e':(none:Option T) = some s:=e;cases e'),fun s e => (by have e':some y.2 = some s:=e;cases e';exact hy),.inr (by simp)⟩
  · intro xs h
    rw [mrg_nil_r,List.mem_map] at h
    obtain ⟨x,hx,rfl⟩:=h
    exact ⟨fun s e => (by have e':some x.2 = some s:=e;cases e';exact hx),fun s e => (by have e':(none:Option T) = some s:=e;cases e'),.inl (by simp)⟩
  · intro x y xs ys hlt ih h
    rw [mrg_lt xs ys hlt] at h
    rcases List.mem_cons.1 h with rfl | h
    · exact ⟨fun s e => (by have e':some x.2 = some s:=e;cases e';exact List.mem_cons_self),fun s e => (by have e':(none:Option T) = some s:=e;cases e'),.inl (by simp)⟩
    · obtain ⟨a,b,c⟩:=ih h
      exact ⟨fun s e => List.mem_cons_of_mem _ (a s e),b,c⟩
  · intro x y xs ys hlt ih h
    rw [mrg_gt xs ys hlt] at h
    rcases List.mem_cons.1 h with rfl | h
    · exact ⟨fun s e => (by have e':(none:Option T) = some s:=e;cases e'),fun s e => (by have e':some y.2 = some s:=e;cases e';exact List.mem_cons_self),.inr (by simp)⟩
    · obtain ⟨a,b,c⟩:=ih h
      exact ⟨a,fun s e => List.mem_cons_of_mem _ (b s e),c⟩
  · intro x y xs ys heq ih h
    rw [mrg_eq xs ys heq] at h
    rcases List.mem_cons.1 h with rfl | h
    · exact ⟨fun s e => (by have e':some x.2 = some s:=e;cases e';exact List.mem_cons_self),fun s e => (by have e':some y.2 = some s:=e;cases e';simp only [heq];exact List.mem_cons_self),.inl (by simp)⟩
    · obtain ⟨a,b,c⟩:=ih h
      exact ⟨fun s e => List.mem_cons_of_mem _ (a s e),fun s e => List.mem_cons_of_mem _ (b s e),c⟩
def FitL (k l:Nat) (c0:List Nat) (xs:List (Nat × T)):Prop:=Sl.Srt xs∧∀ x∈xs,Wf k x.2∧x.2.lv≤l∧cut x.2.pre (l + 1) = c0∧addr x.2.pre l = x.1
theorem FitL.tail {k l:Nat} {c0:List Nat} {x:Nat × T} {xs:List (Nat × T)} (h:FitL k l c0 (x :: xs)):FitL k l c0 xs:=⟨h.1.tail,fun y hy => h.2 y (List.mem_cons_of_mem _ hy)⟩
theorem FitL.ent {k l:Nat} {c0:List Nat} {xs:List (Nat × T)} (h:FitL k l c0 xs) {x:Nat × T} (hx:x∈xs) {e:Ent} (he:e∈x.2.ents):addr e.1 l = x.1∧cut e.1 (l + 1) = c0∧e.1.length = k∧Ok e.1:=by
  obtain ⟨w,hl,hc,ha⟩:=h.2 x hx
  have hd:=w.each e he
  exact ⟨(w.addr_at he hl).trans ha,(w.cut_at he (by omega:x.2.lv≤l + 1)).trans hc,hd.1,hd.2.1⟩
theorem fit_bef {k l:Nat} (hl:l < 64) {c0:List Nat} {x y:Nat × T} {xs ys:List (Nat × T)} (hx:FitL k l c0 xs) (hy:FitL k l c0 ys) (mx:x∈xs) (my:y∈ys) (h:x.1 < y.1):Bef x.2.ents y.2.ents:=fun e he f hf => by
  obtain ⟨a1,a2,a3,a4⟩:=hx.ent mx he
  obtain ⟨b1,b2,b3,b4⟩:=hy.ent my hf
  refine key_addr (by rw [a3,b3]) hl (by rw [a1,b1];exact h) fun m hm => ?_
  have p1:=cut_addr e.1 (l + 1) m
  have p2:=cut_addr f.1 (l + 1) m
  rw [if_pos (by omega)] at p1 p2
  rw [← p1,← p2,a2,b2]
theorem fit_befL {k l:Nat} (hl:l < 64) {c0:List Nat} {x:Nat × T} {xs ys:List (Nat × T)} (hx:FitL k l c0 xs) (hy:FitL k l c0 ys) (mx:x∈xs) (h:∀ y∈ys,x.1 < y.1):Bef x.2.ents (entsL ys):=fun e he f hf => by
  obtain ⟨y,my,hf⟩:=mem_entsL.1 hf
  exact fit_bef hl hx hy mx my (h y my) e he f hf
theorem fit_zd {k l:Nat} (hl:l < 64) {c0:List Nat}:∀ {xs:List (Nat × T)},FitL k l c0 xs→ZS (entsL xs)∧Dim k (entsL xs)
  | [],_ => ⟨ZS.nil,fun e he => by cases he⟩
  | x :: xs,h => by
    obtain ⟨z,d⟩:=fit_zd hl h.tail
    obtain ⟨w,-⟩:=h.2 x List.mem_cons_self
    rw [entsL_cons]
    refine ⟨(fit_befL hl h h.tail List.mem_cons_self h.1.head).zs w.zs z,fun e he => (List.mem_append.1 he).elim (w.dim e) (d e)⟩
def chO (x y:Option T):List Chg:=chL (entsO x) (entsO y)
def chM (qs:List Pr):List Chg:=qs.flatMap fun q => chO q.2.1 q.2.2
theorem bef_nil_l (L:List Ent):Bef [] L:=fun e he => by cases he
theorem bef_nil_r (L:List Ent):Bef L []:=fun e _ f hf => by cases hf
theorem dim_nil (k:Nat):Dim k []:=fun e he => by cases he
theorem chM_mrg {k l:Nat} (hl:l < 64) {c0:List Nat} (xs ys:List (Nat × T)):FitL k l c0 xs→FitL k l c0 ys→chM (mrg xs ys) = chL (entsL xs) (entsL ys):=by
  refine mrg_ind (P:=fun xs ys => FitL k l c0 xs→FitL k l c0 ys→chM (mrg xs ys) = chL (entsL xs) (entsL ys)) ?_ ?_ ?_ ?_ ?_ _ xs ys (Nat.le_refl _)
  · intro ys
    induction ys with
    | nil => intro _ _;rw [mrg_nil_l];exact (chL_same []).symm
    | cons y ys ih =>
      intro hx hy
      have h:=ih hx hy.tail
      rw [mrg_nil_l] at h ⊢
      obtain ⟨w,-⟩:=hy.2 y List.mem_cons_self
      obtain ⟨z,d⟩:=fit_zd hl hy.tail
      rw [List.map_cons,chM,List.flatMap_cons,entsL_cons,entsL_nil]
      have h2:=chL_app (k:=k) ZS.nil w.zs ZS.nil z (dim_nil k) w.dim (dim_nil k) d (bef_nil_l _) (bef_nil_l _) (bef_nil_r _) (fit_befL hl hy hy.tail List.mem_cons_self hy.1.head)
      rw [List.nil_append] at h2
      rw [h2]
      rw [entsL_nil] at h
      exact congrArg _ h
  · intro xs
    induction xs with
    | nil => intro _ _;rw [mrg_nil_l];exact (chL_same []).symm
    | cons x xs ih =>
      intro hx hy
      have h:=ih hx.tail hy
      rw [mrg_nil_r] at h ⊢
      obtain ⟨w,-⟩:=hx.2 x List.mem_cons_self
      obtain ⟨z,d⟩:=fit_zd hl hx.tail
      rw [List.map_cons,chM,List.flatMap_cons,entsL_cons,entsL_nil]
      have h2:=chL_app (k:=k) w.zs ZS.nil z ZS.nil w.dim (dim_nil k) d (dim_nil k) (fit_befL hl hx hx.tail List.mem_cons_self hx.1.head) (bef_nil_r _) (bef_nil_l _) (bef_nil_l _)
      rw [List.nil_append] at h2
      rw [h2]
      rw [entsL_nil] at h
      exact congrArg _ h
  · intro x y xs ys hlt ih hx hy
    have h:=ih hx.tail hy
    obtain ⟨w,-⟩:=hx.2 x List.mem_cons_self
    obtain ⟨z,d⟩:=fit_zd hl hx.tail
    obtain ⟨zy,dy⟩:=fit_zd hl hy
    have hall:∀ z∈y :: ys,x.1 < z.1:=fun z hz => by
      rcases List.mem_cons.1 hz with rfl | hz
      · exact hlt
      · exact Nat.lt_trans hlt (hy.1.head z hz)
    rw [mrg_lt xs ys hlt,chM,List.flatMap_cons,entsL_cons x xs]
    have h2:=chL_app (k:=k) w.zs ZS.nil z zy w.dim (dim_nil k) d dy (fit_befL hl hx hx.tail List.mem_cons_self hx.1.head) (fit_befL hl hx hy List.mem_cons_self hall) (bef_nil_l _) (bef_nil_l _)
    rw [List.nil_append] at h2
    rw [h2]
    exact congrArg _ h
  · intro x y xs ys hlt ih hx hy
    have h:=ih hx hy.tail
    obtain ⟨w,-⟩:=hy.2 y List.mem_cons_self
    obtain ⟨z,d⟩:=fit_zd hl hy.tail
    obtain ⟨zx,dx⟩:=fit_zd hl hx
    have hall:∀ z∈x :: xs,y.1 < z.1:=fun z hz => by
      rcases List.mem_cons.1 hz with rfl | hz
      · exact hlt
      · exact Nat.lt_trans hlt (hx.1.head z hz)
    rw [mrg_gt xs ys hlt,chM,List.flatMap_cons,entsL_cons y ys]
    have h2:=chL_app (k:=k) ZS.nil w.zs zx z (dim_nil k) w.dim dx d (bef_nil_l _) (bef_nil_l _) (fit_befL hl hy hx List.mem_cons_self hall) (fit_befL hl hy hy.tail List.mem_cons_self hy.1.head)
    rw [List.nil_append] at h2
    rw [h2]
    exact congrArg _ h
  · intro x y xs ys heq ih hx hy
    have h:=ih hx.tail hy.tail
    obtain ⟨w,-⟩:=hx.2 x List.mem_cons_self
    obtain ⟨v,-⟩:=hy.2 y List.mem_cons_self
    obtain ⟨zx,dx⟩:=fit_zd hl hx.tail
    obtain ⟨zy,dy⟩:=fit_zd hl hy.tail
    rw [mrg_eq xs ys heq,chM,List.flatMap_cons,entsL_cons x xs,entsL_cons y ys]
    have h2:=chL_app (k:=k) w.zs v.zs zx zy w.dim v.dim dx dy (fit_befL hl hx hx.tail List.mem_cons_self hx.1.head) (fit_befL hl hx hy.tail List.mem_cons_self fun z hz => by rw [heq];exact hy.1.head z hz)
      (fit_befL hl hy hx.tail List.mem_cons_self fun z hz => by rw [← heq];exact hx.1.head z hz) (fit_befL hl hy hy.tail List.mem_cons_self hy.1.head)
    rw [h2]
    exact congrArg _ h
end Tr
namespace Tr
open Go.Proofs.YtkeepngaaleakaaGreatDoor.Z
/-! ### from an address on -/
def dropF (L:List (Nat × T)) (n:Nat):List (Nat × T):=L.drop (Sl.idx L (n:Int))
theorem dropF_zero (L:List (Nat × T)):dropF L 0 = L:=by
  unfold dropF
  rw [show ((0:Nat):Int) = 0 from rfl,Sl.idx_zero]
  rfl
theorem dropF_mem {L:List (Nat × T)} {n:Nat} {x:Nat × T} (h:x∈dropF L n):x∈L:=List.mem_of_mem_drop h
theorem dropF_head (L:List (Nat × T)) (n:Nat):L[Sl.idx L (n:Int)]? = (dropF L n).head?:=by unfold dropF;rw [List.head?_drop]
theorem dropF_at {L:List (Nat × T)} {n:Nat} {x:Nat × T} {xs:List (Nat × T)} (h:dropF L n = x :: xs):L[Sl.idx L (n:Int)]? = some x:=by rw [dropF_head,h];rfl
theorem dropF_ge {L:List (Nat × T)} {n:Nat} {x:Nat × T} {xs:List (Nat × T)} (h:dropF L n = x :: xs):n≤x.1:=by
  have:=Sl.idx_at L n x (dropF_at h)
  omega
theorem dropF_step {L:List (Nat × T)} (hs:Sl.Srt L) {n:Nat} {x:Nat × T} {xs:List (Nat × T)} (h:dropF L n = x :: xs):dropF L (x.1 + 1) = xs:=by
  have hx:=dropF_at h
  have e1:Sl.idx L (x.1:Int) = Sl.idx L (n:Int):=Sl.idx_of hs hx
  have e2:=Sl.idx_succ hs (x.1:Int)
  have e3:Sl.has L (x.1:Int) = true:=by
    unfold Sl.has
    rw [Sl.get_of_mem hs (List.mem_of_getElem? hx)]
    rfl
  rw [e3,if_pos rfl,e1] at e2
  unfold dropF at h ⊢
  rw [show ((x.1 + 1:Nat):Int) = (x.1:Int) + 1 by omega,e2,← List.drop_drop,h]
  rfl
theorem dropF_skip {L:List (Nat × T)} (_hs:Sl.Srt L) {n m:Nat} (hnm:n≤m) (h:∀ x xs,dropF L n = x :: xs→m≤x.1):dropF L m = dropF L n:=by
  unfold dropF
  congr 1
  refine Sl.idx_uniq L m _ (Sl.idx_le _ _) (fun j p hj hp => ?_) fun p hp => ?_
  · have:=Sl.idx_below L n j p hj hp
    omega
  · rw [dropF_head] at hp
    cases hd:dropF L n with
    | nil => rw [hd] at hp;cases hp
    | cons x xs =>
      have h1:=h x xs hd
      rw [hd] at hp
      have h2:x = p:=Option.some.inj hp
      rw [← h2]
      omega
theorem dropF_nil {L:List (Nat × T)} (hs:Sl.Srt L) {n m:Nat} (hnm:n≤m) (h:dropF L n = []):dropF L m = []:=by
  exact (dropF_skip hs hnm (fun x xs e => by rw [h] at e;cases e)).trans h
/-! ### sides,frames -/
structure Sd where
  t:T
  kd:Bool
  a:Nat
def Sd.L (s:Sd):List (Nat × T):=match s.kd with
  | true => s.t.ks
  | false => [(s.a,s.t)]
structure Fr where
  x:Sd
  y:Sd
  n:Nat
def Fr.to (f:Fr) (n:Nat):Fr:=⟨f.x,f.y,n⟩
def remF (f:Fr):List Pr:=mrg (dropF f.x.L f.n) (dropF f.y.L f.n)
def FrOk (k l:Nat) (f:Fr):Prop:=∃ c0,FitL k l c0 f.x.L∧FitL k l c0 f.y.L∧l < 64∧f.n≤65536
def PairOk (k n:Nat) (x y:Option T):Prop:=(∀ t,x = some t→Wf k t∧t.lv≤n)∧(∀ t,y = some t→Wf k t∧t.lv≤n)∧∀ s t,x = some s→y = some t→cut s.pre n = cut t.pre n
theorem FrOk.mem {k l:Nat} {f:Fr} (h:FrOk k l f) {q:Pr} (hq:q∈remF f):PairOk k l q.2.1 q.2.2∧(∀ s,q.2.1 = some s→(q.1,s)∈f.x.L)∧(∀ s,q.2.2 = some s→(q.1,s)∈f.y.L):=by
  obtain ⟨c0,hx,hy,hl,-⟩:=h
  obtain ⟨m1,m2,m3⟩:=mem_mrg _ _ hq
  have a1:∀ s,q.2.1 = some s→(q.1,s)∈f.x.L:=fun s e => dropF_mem (m1 s e)
  have a2:∀ s,q.2.2 = some s→(q.1,s)∈f.y.L:=fun s e => dropF_mem (m2 s e)
  refine ⟨⟨fun t e => ⟨(hx.2 _ (a1 t e)).1,(hx.2 _ (a1 t e)).2.1⟩,fun t e => ⟨(hy.2 _ (a2 t e)).1,(hy.2 _ (a2 t e)).2.1⟩,fun s t e e' => ?_⟩,a1,a2⟩
  obtain ⟨w1,-,c1,d1⟩:=hx.2 _ (a1 s e)
  obtain ⟨w2,-,c2,d2⟩:=hy.2 _ (a2 t e')
  exact cut_down (by rw [w1.len,w2.len]) w1.ok w2.ok (c1.trans c2.symm) (d1.trans d2.symm)
theorem FrOk.addr {k l:Nat} {f:Fr} (h:FrOk k l f):(∀ x∈f.x.L,x.1 < 65536)∧∀ x∈f.y.L,x.1 < 65536:=by
  obtain ⟨c0,hx,hy,hl,-⟩:=h
  have key:∀ {L:List (Nat × T)},FitL k l c0 L→∀ x∈L,x.1 < 65536:=fun hL x hm => by
    obtain ⟨w,-,-,ha⟩:=hL.2 x hm
    have h1:=addr_bound x.2.pre l
    rw [ha,w.len] at h1
    exact Nat.lt_of_lt_of_le h1 (Nat.pow_le_pow_right (n:=2) (by omega) w.k16)
  exact ⟨key hx,key hy⟩
theorem FrOk.to {k l:Nat} {f:Fr} (h:FrOk k l f) {n:Nat} (hn:n≤65536):FrOk k l (f.to n):=by
  obtain ⟨c0,hx,hy,hl,-⟩:=h
  exact ⟨c0,hx,hy,hl,hn⟩
theorem rem_none {f:Fr}:remF f = []↔dropF f.x.L f.n = []∧dropF f.y.L f.n = []:=by
  unfold remF
  constructor
  · intro h
    cases hx:dropF f.x.L f.n with
    | nil =>
      rw [hx,mrg_nil_l] at h
      exact ⟨rfl,List.map_eq_nil_iff.1 h⟩
    | cons x xs =>
      cases hy:dropF f.y.L f.n with
      | nil => rw [hx,hy,mrg_nil_r] at h;cases h
      | cons y ys =>
        rw [hx,hy] at h
        rcases Nat.lt_trichotomy x.1 y.1 with c | c | c
        · rw [mrg_lt _ _ c] at h;cases h
        · rw [mrg_eq _ _ c] at h;cases h
        · rw [mrg_gt _ _ c] at h;cases h
  · rintro ⟨h1,h2⟩
    rw [h1,h2,mrg_nil_l]
    rfl
def hdA (L:List (Nat × T)):Nat:=match L with
  | [] => 65536
  | x :: _ => x.1
def hdT (L:List (Nat × T)):Option T:=match L with
  | [] => none
  | x :: _ => some x.2
theorem rem_step {k l:Nat} {f:Fr} (h:FrOk k l f) (hne:remF f≠[]):∃ r,remF f = (min (hdA (dropF f.x.L f.n)) (hdA (dropF f.y.L f.n)),(if min (hdA (dropF f.x.L f.n)) (hdA (dropF f.y.L f.n)) < hdA (dropF f.x.L f.n) then none else hdT (dropF f.x.L f.n)),(if min (hdA (dropF f.x.L f.n)) (hdA (dropF f.y.L f.n)) < hdA (dropF f.y.L f.n) then none else hdT (dropF f.y.L f.n))) :: r ∧
    remF (f.to (min (hdA (dropF f.x.L f.n)) (hdA (dropF f.y.L f.n)) + 1)) = r∧min (hdA (dropF f.x.L f.n)) (hdA (dropF f.y.L f.n)) < 65536:=by
  obtain ⟨ax,ay⟩:=h.addr
  obtain ⟨c0,hx,hy,hl,-⟩:=h
  cases ex:dropF f.x.L f.n with
  | nil =>
    cases ey:dropF f.y.L f.n with
    | nil => exact absurd (rem_none.2 ⟨ex,ey⟩) hne
    | cons y ys =>
      have hy5:=ay y (dropF_mem (by rw [ey];exact List.mem_cons_self))
      have hm:min (hdA []) (hdA (y :: ys)) = y.1:=by simp only [hdA];omega
      rw [hm]
      refine ⟨ys.map fun y => (y.1,none,some y.2),?_,?_,hy5⟩
      · unfold remF
        rw [ex,ey,mrg_nil_l,List.map_cons]
        simp [hdA,hdT,hy5]
      · unfold remF Fr.to
        simp only
        rw [dropF_nil hx.1 (by have:=dropF_ge ey;omega) ex,dropF_step hy.1 ey,mrg_nil_l]
  | cons x xs =>
    have hx5:=ax x (dropF_mem (by rw [ex];exact List.mem_cons_self))
    cases ey:dropF f.y.L f.n with
    | nil =>
      have hm:min (hdA (x :: xs)) (hdA []) = x.1:=by simp only [hdA];omega
      rw [hm]
      refine ⟨xs.map fun x => (x.1,some x.2,none),?_,?_,hx5⟩
      · unfold remF
        rw [ex,ey,mrg_nil_r,List.map_cons]
        simp [hdA,hdT,hx5]
      · unfold remF Fr.to
        simp only
        rw [dropF_nil hy.1 (by have:=dropF_ge ex;omega) ey,dropF_step hx.1 ex,mrg_nil_r]
    | cons y ys =>
      have hy5:=ay y (dropF_mem (by rw [ey];exact List.mem_cons_self))
      rcases Nat.lt_trichotomy x.1 y.1 with c | c | c
      · have hm:min (hdA (x :: xs)) (hdA (y :: ys)) = x.1:=by simp only [hdA];omega
        rw [hm]
        refine ⟨mrg xs (y :: ys),?_,?_,hx5⟩
        · unfold remF
          rw [ex,ey,mrg_lt _ _ c]
          simp [hdA,hdT,c]
        · unfold remF Fr.to
          simp only
          rw [dropF_step hx.1 ex,dropF_skip (n:=f.n) (m:=x.1 + 1) hy.1 (by have:=dropF_ge ex;omega) (fun z zs e => by rw [ey,List.cons.injEq] at e;rw [← e.1];exact c),ey]
      · have hm:min (hdA (x :: xs)) (hdA (y :: ys)) = x.1:=by simp only [hdA];omega
        rw [hm]
        refine ⟨mrg xs ys,?_,?_,hx5⟩
        · unfold remF
          rw [ex,ey,mrg_eq _ _ c]
          simp [hdA,hdT,c]
        · unfold remF Fr.to
          simp only
          rw [dropF_step hx.1 ex,c,dropF_step hy.1 ey]
      · have hm:min (hdA (x :: xs)) (hdA (y :: ys)) = y.1:=by simp only [hdA];omega
        rw [hm]
        refine ⟨mrg (x :: xs) ys,?_,?_,hy5⟩
        · unfold remF
          rw [ex,ey,mrg_gt _ _ c]
          simp [hdA,hdT,c]
        · unfold remF Fr.to
          simp only
          rw [dropF_step hy.1 ey,dropF_skip (n:=f.n) (m:=y.1 + 1) hx.1 (by have:=dropF_ge ey;omega) (fun z zs e => by rw [ex,List.cons.injEq] at e;rw [← e.1];exact c),ex]
/-! ### how much there is to be done -/
def wgt (x y:Option T):Nat:=max 1 (2 * ((allO x).length + (allO y).length) - 1)
theorem wgt_pos (x y:Option T):1≤wgt x y:=by unfold wgt;omega
def wM (qs:List Pr):Nat:=(qs.map fun q => wgt q.2.1 q.2.2).sum
theorem wM_nil:wM [] = 0:=rfl
theorem wM_cons (q:Pr) (qs:List Pr):wM (q :: qs) = wgt q.2.1 q.2.2 + wM qs:=by simp [wM]
theorem chM_cons (q:Pr) (qs:List Pr):chM (q :: qs) = chO q.2.1 q.2.2 ++ chM qs:=by simp [chM]
theorem all_pos (t:T):1≤t.all.length:=by rw [all_eq];simp
theorem wM_mrg (xs ys:List (Nat × T)):wM (mrg xs ys)≤2 * ((allK xs).length + (allK ys).length):=by
  refine mrg_ind (P:=fun xs ys => wM (mrg xs ys)≤2 * ((allK xs).length + (allK ys).length)) ?_ ?_ ?_ ?_ ?_ _ xs ys (Nat.le_refl _)
  · intro ys
    induction ys with
    | nil => rw [mrg_nil_l];simp [wM]
    | cons y ys ih =>
      rw [mrg_nil_l] at ih ⊢
      have:=all_pos y.2
      rw [List.map_cons,wM_cons,allK_cons,List.length_append]
      simp only [wgt,allO,List.length_nil] at ih ⊢
      omega
  · intro xs
    induction xs with
    | nil => rw [mrg_nil_l];simp [wM]
    | cons x xs ih =>
      rw [mrg_nil_r] at ih ⊢
      have:=all_pos x.2
      rw [List.map_cons,wM_cons,allK_cons,List.length_append]
      simp only [wgt,allO,List.length_nil] at ih ⊢
      omega
  · intro x y xs ys h ih
    have:=all_pos x.2
    rw [mrg_lt xs ys h,wM_cons,allK_cons x,List.length_append]
    simp only [wgt,allO,List.length_nil] at ih ⊢
    omega
  · intro x y xs ys h ih
    have:=all_pos y.2
    rw [mrg_gt xs ys h,wM_cons,allK_cons y,List.length_append]
    simp only [wgt,allO,List.length_nil] at ih ⊢
    omega
  · intro x y xs ys h ih
    have:=all_pos x.2
    have:=all_pos y.2
    rw [mrg_eq xs ys h,wM_cons,allK_cons x,allK_cons y,List.length_append,List.length_append]
    simp only [wgt,allO] at ih ⊢
    omega
/-! ### a pair's frame -/
def lvl (x y:T):Int:=max (max (Z.part x.pre y.pre) ((x.lv:Int) - 1)) ((y.lv:Int) - 1)
def sdOf (t:T) (l:Nat):Sd:=⟨t,decide (t.lv = l + 1),addr t.pre l⟩
def frOf (x y:T) (l:Nat):Fr:=⟨sdOf x l,sdOf y l,0⟩
theorem sd_ents {k:Nat} {t:T} (l:Nat) (hl:t.lv≤l + 1) (h:Wf k t):FitL k l (cut t.pre (l + 1)) (sdOf t l).L∧entsL (sdOf t l).L = t.ents ∧
    ((t.lv = l + 1∧(allK (sdOf t l).L).length + 1 = t.all.length)∨(t.lv≤l∧(sdOf t l).L = [(addr t.pre l,t)])):=by
  by_cases c:t.lv = l + 1
  · cases t with
    | ent g p v => simp [T.lv] at c
    | br g l' pre ks =>
      have e:l' = l:=by simp only [T.lv] at c;omega
      subst e
      have hd:(sdOf (.br g l' pre ks) l').L = ks:=by simp [sdOf,Sd.L,T.lv,T.ks]
      rw [hd]
      obtain ⟨f1,f2⟩:=kids_fit h
      have hc:cut pre (l' + 1) = pre:=h.cut_pre
      refine ⟨⟨f2,fun x hx => ?_⟩,(ents_br g l' pre ks).symm,.inl ⟨rfl,by rw [all_br];simp⟩⟩
      obtain ⟨a1,a2,a3,a4⟩:=f1 x hx
      exact ⟨a1,a2,a3.trans hc.symm,a4⟩
  · have hlv:t.lv≤l:=by omega
    have hd:(sdOf t l).L = [(addr t.pre l,t)]:=by simp [sdOf,Sd.L,c]
    rw [hd]
    refine ⟨⟨List.pairwise_singleton _ _,fun x hx => ?_⟩,by rw [entsL_cons,entsL_nil,List.append_nil],.inr ⟨hlv,rfl⟩⟩
    rw [List.mem_singleton.1 hx]
    exact ⟨h,hlv,rfl,rfl⟩
theorem frame_new {k n l:Nat} {x y:T} (hx:Wf k x) (hy:Wf k y) (hxn:x.lv≤n) (hyn:y.lv≤n) (hn:n≤64) (hc:cut x.pre n = cut y.pre n) (hl:lvl x y = (l:Int)) :
    FrOk k l (frOf x y l)∧l + 1≤n∧chM (remF (frOf x y l)) = chO (some x) (some y)∧wM (remF (frOf x y l)) + 1≤wgt (some x) (some y):=by
  have hp:Z.part x.pre y.pre < (n:Int):=(cut_eq_iff (by rw [hx.len,hy.len]) hx.ok hy.ok n).1 hc
  unfold lvl at hl
  have hln:l + 1≤n:=by omega
  obtain ⟨fx,ex,sx⟩:=sd_ents l (by omega) hx
  obtain ⟨fy,ey,sy⟩:=sd_ents l (by omega) hy
  have hcc:cut x.pre (l + 1) = cut y.pre (l + 1):=(cut_eq_iff (by rw [hx.len,hy.len]) hx.ok hy.ok (l + 1)).2 (by omega)
  rw [← hcc] at fy
  have hr:remF (frOf x y l) = mrg (sdOf x l).L (sdOf y l).L:=by
    unfold remF frOf
    simp only
    rw [dropF_zero,dropF_zero]
  refine ⟨⟨_,fx,fy,by omega,by show 0≤65536;omega⟩,hln,?_,?_⟩
  · rw [hr,chM_mrg (by omega) _ _ fx fy,ex,ey]
    rfl
  · rw [hr]
    have hm:=wM_mrg (sdOf x l).L (sdOf y l).L
    have px:=all_pos x
    have py:=all_pos y
    have hw:wgt (some x) (some y) = 2 * (x.all.length + y.all.length) - 1:=by simp only [wgt,allO];omega
    rw [hw]
    rcases sx with ⟨c1,s1⟩ | ⟨c1,s1⟩
    · rcases sy with ⟨c2,s2⟩ | ⟨c2,s2⟩
      · omega
      · rw [s2] at hm ⊢
        have:(allK [(addr y.pre l,y)]).length = y.all.length:=by simp [allK]
        omega
    · rcases sy with ⟨c2,s2⟩ | ⟨c2,s2⟩
      · rw [s1] at hm ⊢
        have:(allK [(addr x.pre l,x)]).length = x.all.length:=by simp [allK]
        omega
      · rw [s1,s2]
        have hpl:Z.part x.pre y.pre = (l:Int):=by omega
        have hne:addr x.pre l≠addr y.pre l:=fun e => by
          have h1:=cut_down (by rw [hx.len,hy.len]) hx.ok hy.ok hcc e
          have:=(cut_eq_iff (by rw [hx.len,hy.len]) hx.ok hy.ok l).1 h1
          omega
        rcases Nat.lt_or_gt_of_ne hne with c | c
        · rw [mrg_lt _ _ (by exact c),mrg_nil_l]
          simp only [List.map_cons,List.map_nil,wM_cons,wM_nil,wgt,allO,List.length_nil]
          omega
        · rw [mrg_gt _ _ (by exact c),mrg_nil_r]
          simp only [List.map_cons,List.map_nil,wM_cons,wM_nil,wgt,allO,List.length_nil]
          omega
theorem lvl_ent {k:Nat} {x y:T} (hx:Wf k x) (hy:Wf k y):(∃ l:Nat,lvl x y = (l:Int))∨(lvl x y = -1∧∃ g g' p v u,x = .ent g p v∧y = .ent g' p u):=by
  have hb:=part_bd (by rw [hx.len,hy.len]) hx.ok hy.ok
  by_cases c:lvl x y < 0
  · right
    unfold lvl at c ⊢
    have h1:x.lv = 0:=by omega
    have h2:y.lv = 0:=by omega
    have h3:x.pre = y.pre:=(part_neg (by rw [hx.len,hy.len]) hx.ok hy.ok).1 (by omega)
    refine ⟨by omega,?_⟩
    cases x with
    | br g l pre ks => simp [T.lv] at h1
    | ent g p v =>
      cases y with
      | br g l pre ks => simp [T.lv] at h2
      | ent g' q u =>
        have h4:p = q:=h3
        subst h4
        exact ⟨g,g',p,v,u,rfl,rfl⟩
  · exact .inl ⟨(lvl x y).toNat,by omega⟩
/-! ### the stack -/
abbrev Fl:=Nat × Fr
def chS (S:List Fl):List Chg:=S.flatMap fun f => chM (remF f.2)
def wS (S:List Fl):Nat:=(S.map fun f => wM (remF f.2)).sum
theorem chS_nil:chS [] = []:=rfl
theorem chS_cons (f:Fl) (S:List Fl):chS (f :: S) = chM (remF f.2) ++ chS S:=by simp [chS]
theorem wS_cons (f:Fl) (S:List Fl):wS (f :: S) = wM (remF f.2) + wS S:=by simp [wS]
def LevS:List Fl→Prop
  | [] => True
  | f :: S => f.1 + (S.length + 1)≤64∧LevS S
def room:List Fl→Nat
  | [] => 64
  | f :: _ => f.1
theorem LevS.room:∀ {S:List Fl},LevS S→room S + S.length≤64
  | [],_ => Nat.le_refl _
  | _ :: _,h => h.1
theorem cut_top {p q:List Nat} (hl:p.length = q.length) (hp:Ok p) (hq:Ok q):cut p 64 = cut q 64:=(cut_eq_iff hl hp hq 64).2 (by have:=part_bd hl hp hq;omega)
theorem pair_top {k:Nat} {x y:Option T} (hx:∀ t,x = some t→Wf k t) (hy:∀ t,y = some t→Wf k t):PairOk k 64 x y :=
  ⟨fun t e => ⟨hx t e,(hx t e).lv64⟩,fun t e => ⟨hy t e,(hy t e).lv64⟩,fun s t e e' => cut_top (by rw [(hx s e).len,(hy t e').len]) (hx s e).ok (hy t e').ok⟩
end Tr
end Go.Proofs.YtkeepngaaleakaaGreatDoor
namespace Go.Proofs.YtkeepngaaleakaaGreatDoor
open Tr (T S4 Ent Chg)
namespace Tr
open Go.Proofs.YtkeepngaaleakaaGreatDoor.Z
/-! ### changes as they lie in memory -/
abbrev Raw:=List Nat × (Bool × Nat) × (Bool × Nat)
/-! ### lists that are right -/
/-! ### the change at a point -/
/-! ### done on entries -/
/-! ### two lists side by side -/
abbrev Pc:=Option Chg × Option Chg
/-! ### one after the other -/
/-! ### the document's way: all that was there -/
end Tr
end Go.Proofs.YtkeepngaaleakaaGreatDoor
namespace Go.Proofs.YtkeepngaaleakaaGreatDoor
open Go.ChangeShapes Go.WideShapes Go.ChangeAt Go.RowKit
open Tr (T S4 Ent Chg Raw)
/-! ### Fits -/
theorem get_lastE {k:Nat} {o:Option T} (hwf:∀ t,o = some t→Tr.Wf k t) {p:List Nat} (hp:p.length = k) (ho:Z.Ok p):entO (Tr.pathT o p).getLast? = ((Tr.getE (Tr.entsO o) p).getD 0,(Tr.getE (Tr.entsO o) p).isSome):=by
  rcases Tr.path_chain hp ho 65 o (fun t e => ⟨hwf t e,by have:=(hwf t e).lv64;omega⟩) with ⟨g,v0,L,h1,-,h3⟩ | ⟨h1,h2,h3⟩
  · rw [Tr.get_here hp ho hwf h3,show Tr.pathT o p = L ++ [.ent g p v0] from h1,List.getLast?_append]
    rfl
  · rw [Tr.get_none hp ho hwf h1 h2]
    rcases h3 with h3 | ⟨L,u,h3,h4⟩
    · rw [show Tr.pathT o p = [] from h3];rfl
    · rw [show Tr.pathT o p = L ++ [u] from h3,List.getLast?_append]
      cases u with
      | ent g q v => exact h4.elim
      | br g l pre ks => rfl
theorem tGetE_c {w:World} {B b k:Nat} {o:Option T} (h:TreeAt w B b k o) (hB:B≤w.heap.size) {p:List Nat} {A:Option Addr} {c m:Nat} (hp:Pts w B A p) (hl:p.length = k) (hm:p.length = m) {g:Option Nat} (hg:Tr.getE (Tr.entsO o) p = g) :
    Calls Tryz.prog 62 #[.pointer (some ⟨b,0,none⟩),.slice A m c] w fun e w' => e = .returned (.tuple #[.int .u64 ((g.getD 0:Nat):Int),.bool g.isSome,.int .i64 0])∧Below w.heap.size w w':=by
  subst hm hg
  exact tGet_c h hB hp hl _ _ (get_lastE (nodeO_wf h.2.2.2.2) hl hp.1)
end Go.Proofs.YtkeepngaaleakaaGreatDoor
