import Derived.Test.YtkeepngaaleakaaGreatDoorMXt
namespace Go.Proofs.YtkeepngaaleakaaGreatDoor
open Tr (T S4 Ent)
def ruleW (r:Int) (x y:Nat):Nat:=if r = 2 then y else ruleV r x y
namespace Tr
open Go.Proofs.YtkeepngaaleakaaGreatDoor.Z
def jG (r:Int) (l q m:Bool):Pt Nat:=fun _ a b => match a,b with
  | some x,some y => if m = true then some (ruleW r x y) else none
  | some x,none => if l = true then some x else none
  | none,some y => if q = true then some y else none
  | none,none => none
theorem jG_none (r:Int) (l q m:Bool):jG r l q m none none none = none:=rfl
def ZD (k:Nat) (L:List Ent):Prop:=ZS L∧Dim k L
theorem ZD.nil (k:Nat):ZD k []:=⟨ZS.nil,fun _ h => by cases h⟩
theorem getE_nil (p:List Nat):getE [] p = none:=rfl
theorem zd_ext {k:Nat} {L M:List Ent} (hL:ZD k L) (hM:ZD k M) (h:∀ p,p.length = k→Ok p→getE L p = getE M p):L = M :=
  ZS.ext hL.1 hM.1 fun e => by
    constructor
    · intro he
      have hd:=hL.2 e he
      have:=(getE_iff hL.1 hL.2 hd.1 hd.2.1 (v:=e.2)).2 he
      rw [h e.1 hd.1 hd.2.1] at this
      exact (getE_iff hM.1 hM.2 hd.1 hd.2.1).1 this
    · intro he
      have hd:=hM.2 e he
      have:=(getE_iff hM.1 hM.2 hd.1 hd.2.1 (v:=e.2)).2 he
      rw [← h e.1 hd.1 hd.2.1] at this
      exact (getE_iff hL.1 hL.2 hd.1 hd.2.1).1 this
theorem ruleV_lt {r:Int} {x y:Nat} (hx:x < 18446744073709551616) (hy:y < 18446744073709551616):ruleV r x y < 18446744073709551616:=by
  unfold ruleV
  split
  · omega
  · split
    · omega
    · split
      · omega
      · split <;> omega
theorem ruleW_lt {r:Int} {x y:Nat} (hx:x < 18446744073709551616) (hy:y < 18446744073709551616):ruleW r x y < 18446744073709551616:=by
  unfold ruleW
  split
  · exact hy
  · exact ruleV_lt hx hy
section
variable {k:Nat} {A B:List Ent}
def jL (r:Int) (l q m:Bool) (A B:List Ent):List Ent:=ppL (jG r l q m) [] A B
theorem jL_zd (r:Int) (l q m:Bool) (hA:ZD k A) (hB:ZD k B):ZD k (jL r l q m A B):=by
  have hn:=ZD.nil k
  refine ⟨ppL_xs hn.1 hn.2 hA.2 hB.2,fun e he => ?_⟩
  obtain ⟨⟨h1,h2⟩,h3⟩:=(mem_ppL (jG_none r l q m) hn.1 hA.1 hB.1 hn.2 hA.2 hB.2).1 he
  refine ⟨h1,h2,?_⟩
  cases ha:getE A e.1 with
  | none =>
    cases hb:getE B e.1 with
    | none => rw [ha,hb] at h3;cases h3
    | some y =>
      rw [ha,hb] at h3
      cases q with
      | false => cases h3
      | true => cases h3;exact (hB.2 _ ((getE_iff hB.1 hB.2 h1 h2).1 hb)).2.2
  | some x =>
    have hx:=(hA.2 _ ((getE_iff hA.1 hA.2 h1 h2).1 ha)).2.2
    cases hb:getE B e.1 with
    | none =>
      rw [ha,hb] at h3
      cases l with
      | false => cases h3
      | true => cases h3;exact hx
    | some y =>
      have hy:=(hB.2 _ ((getE_iff hB.1 hB.2 h1 h2).1 hb)).2.2
      rw [ha,hb] at h3
      cases m with
      | false => cases h3
      | true => have h3':ruleW r x y = e.2:=Option.some.inj h3;rw [← h3'];exact ruleW_lt hx hy
theorem getE_jL (r:Int) (l q m:Bool) (hA:ZD k A) (hB:ZD k B) {p:List Nat} (hp:p.length = k) (ho:Ok p):getE (jL r l q m A B) p = jG r l q m none (getE A p) (getE B p):=by
  have hn:=ZD.nil k
  have hJ:=jL_zd r l q m hA hB
  cases hg:getE (jL r l q m A B) p with
  | some v =>
    have:=((mem_ppL (jG_none r l q m) hn.1 hA.1 hB.1 hn.2 hA.2 hB.2).1 ((getE_iff hJ.1 hJ.2 hp ho).1 hg)).2
    rw [getE_nil] at this
    exact this.symm
  | none =>
    cases hx:jG r l q m none (getE A p) (getE B p) with
    | none => rfl
    | some v =>
      have:=(getE_iff hJ.1 hJ.2 hp ho).2 ((mem_ppL (c:=(p,v)) (jG_none r l q m) hn.1 hA.1 hB.1 hn.2 hA.2 hB.2).2 ⟨⟨hp,ho⟩,hx⟩)
      rw [hg] at this
      cases this
theorem jL_list {r:Int} {l q m:Bool} (hA:ZD k A) (hB:ZD k B) {L:List Ent} (hL:ZD k L) (h:∀ p,p.length = k→Ok p→jG r l q m none (getE A p) (getE B p) = getE L p):jL r l q m A B = L :=
  zd_ext (jL_zd r l q m hA hB) hL fun p hp ho => (getE_jL r l q m hA hB hp ho).trans (h p hp ho)
theorem jL_len (r:Int) (l q m:Bool) (hA:ZD k A) (hB:ZD k B):(jL r l q m A B).length≤A.length + B.length:=by
  have hn:=ZD.nil k
  have:=ppL_len (g:=jG r l q m) hn.1 hn.2 hA.2 hB.2
  simpa [jL] using this
theorem jL_left (r:Int) (l q m:Bool) (hA:ZD k A):jL r l q m A [] = if l = true then A else []:=by
  cases l with
  | true => rw [if_pos rfl];exact jL_list hA (ZD.nil k) hA fun p _ _ => by rw [getE_nil];cases getE A p <;> rfl
  | false => rw [if_neg (by decide)];exact jL_list hA (ZD.nil k) (ZD.nil k) fun p _ _ => by rw [getE_nil];cases getE A p <;> rfl
theorem jL_right (r:Int) (l q m:Bool) (hB:ZD k B):jL r l q m [] B = if q = true then B else []:=by
  cases q with
  | true => rw [if_pos rfl];exact jL_list (ZD.nil k) hB hB fun p _ _ => by rw [getE_nil];cases getE B p <;> rfl
  | false => rw [if_neg (by decide)];exact jL_list (ZD.nil k) hB (ZD.nil k) fun p _ _ => by rw [getE_nil];cases getE B p <;> rfl
theorem ruleV_self {r:Int} (h5:r≠5) (h6:r≠6) (v:Nat):ruleV r v v = v:=by
  unfold ruleV
  rw [if_neg h5,if_neg h6]
  split
  · omega
  · split
    · omega
    · rfl
theorem ruleV_comm {r:Int} (h3:3≤r) (h6:r≤6) (v w:Nat):ruleV r v w = ruleV r w v:=by
  unfold ruleV
  split
  · omega
  · split
    · omega
    · split
      · rw [Nat.add_comm]
      · split <;> omega
theorem jL_same {r:Int} (l q:Bool) (h2:r≠2) (h5:r≠5) (h6:r≠6) (hA:ZD k A):jL r l q true A A = A :=
  jL_list hA hA hA fun p _ _ => by
    cases getE A p with
    | none => rfl
    | some v =>
      show some (ruleW r v v) = some v
      unfold ruleW
      rw [if_neg h2,ruleV_self h5 h6]
theorem jL_gone (r:Int) (l q:Bool) (hA:ZD k A):jL r l q false A A = [] :=
  jL_list hA hA (ZD.nil k) fun p _ _ => by
    cases getE A p with
    | none => rfl
    | some v => rfl
theorem getE_one {p:List Nat} {v:Nat} (hp:ZD p.length [(p,v)]) {p':List Nat} (h1:p'.length = p.length) (ho:Ok p'):getE [(p,v)] p' = if p' = p then some v else none:=by
  by_cases h:p' = p
  · rw [if_pos h]
    exact (getE_iff hp.1 hp.2 h1 ho).2 (by rw [h];exact List.mem_singleton.2 rfl)
  · rw [if_neg h]
    cases hg:getE [(p,v)] p' with
    | none => rfl
    | some x =>
      have:=List.mem_singleton.1 ((getE_iff hp.1 hp.2 h1 ho).1 hg)
      simp only [Prod.mk.injEq] at this
      exact absurd this.1 h
theorem zd_one {p:List Nat} {v:Nat} (ho:Ok p) (hv:v < 18446744073709551616):ZD p.length [(p,v)]:=⟨List.pairwise_singleton _ _,fun e he => by rw [List.mem_singleton.1 he];exact ⟨rfl,ho,hv⟩⟩
theorem jL_ones (r:Int) (l q:Bool) {p:List Nat} {v w:Nat} (ho:Ok p) (hv:v < 18446744073709551616) (hw:w < 18446744073709551616):jL r l q true [(p,v)] [(p,w)] = [(p,ruleW r v w)] :=
  jL_list (zd_one ho hv) (zd_one ho hw) (zd_one ho (ruleW_lt hv hw)) fun p' h1 ho' => by
    rw [getE_one (zd_one ho hv) h1 ho',getE_one (zd_one ho hw) h1 ho',getE_one (zd_one ho (ruleW_lt hv hw)) h1 ho']
    by_cases h:p' = p
    · rw [if_pos h,if_pos h,if_pos h];rfl
    · rw [if_neg h,if_neg h,if_neg h];rfl
theorem jL_onesn (r:Int) (l q:Bool) {p:List Nat} {v w:Nat} (ho:Ok p) (hv:v < 18446744073709551616) (hw:w < 18446744073709551616):jL r l q false [(p,v)] [(p,w)] = [] :=
  jL_list (zd_one ho hv) (zd_one ho hw) (ZD.nil _) fun p' h1 ho' => by
    rw [getE_one (zd_one ho hv) h1 ho',getE_one (zd_one ho hw) h1 ho',getE_nil]
    by_cases h:p' = p
    · rw [if_pos h,if_pos h];rfl
    · rw [if_neg h,if_neg h];rfl
theorem jL_second (l q m:Bool) (hA:ZD k A) (hB:ZD k B):jL 2 l q m A B = jL 1 q l m B A :=
  jL_list hA hB (jL_zd 1 q l m hB hA) fun p hp ho => by
    rw [getE_jL 1 q l m hB hA hp ho]
    cases getE A p <;> cases getE B p <;> rfl
theorem jL_comm {r:Int} (h3:3≤r) (h6:r≤6) (l q m:Bool) (hA:ZD k A) (hB:ZD k B):jL r l q m A B = jL r q l m B A :=
  jL_list hA hB (jL_zd r q l m hB hA) fun p hp ho => by
    rw [getE_jL r q l m hB hA hp ho]
    cases getE A p with
    | none => cases getE B p <;> rfl
    | some x =>
      cases getE B p with
      | none => rfl
      | some y =>
        show (if m = true then some (ruleW r x y) else none) = if m = true then some (ruleW r y x) else none
        unfold ruleW
        rw [if_neg (by omega:¬ r = 2),if_neg (by omega:¬ r = 2),ruleV_comm h3 h6]
theorem jL_one (hA:ZD k A) (hB:ZD k B):jL 1 true true true (jL 1 true false false A B) (jL 1 false false true A B) = A :=
  jL_list (jL_zd _ _ _ _ hA hB) (jL_zd _ _ _ _ hA hB) hA fun p hp ho => by
    rw [getE_jL _ _ _ _ hA hB hp ho,getE_jL _ _ _ _ hA hB hp ho]
    cases getE A p <;> cases getE B p <;> rfl
theorem jL_all (r:Int) (hA:ZD k A) (hB:ZD k B):jL r true true true (jL r true true true (jL 1 true false false A B) (jL 1 true false false B A)) (jL r false false true A B) = jL r true true true A B :=
  jL_list (jL_zd _ _ _ _ (jL_zd _ _ _ _ hA hB) (jL_zd _ _ _ _ hB hA)) (jL_zd _ _ _ _ hA hB) (jL_zd _ _ _ _ hA hB) fun p hp ho => by
    rw [getE_jL _ _ _ _ (jL_zd _ _ _ _ hA hB) (jL_zd _ _ _ _ hB hA) hp ho,getE_jL _ _ _ _ hA hB hp ho,getE_jL _ _ _ _ hB hA hp ho,getE_jL _ _ _ _ hA hB hp ho,getE_jL _ _ _ _ hA hB hp ho]
    cases getE A p <;> cases getE B p <;> rfl
theorem jL_apart (hA:ZD k A) (hB:ZD k B):jL 1 false false true (jL 1 true false false A B) B = [] :=
  jL_list (jL_zd _ _ _ _ hA hB) hB (ZD.nil k) fun p hp ho => by
    rw [getE_jL _ _ _ _ hA hB hp ho]
    cases getE A p <;> cases getE B p <;> rfl
theorem ZD.filter {L:List Ent} (h:ZD k L) (f:Ent→Bool):ZD k (L.filter f):=⟨List.Pairwise.filter f h.1,fun e he => h.2 e (List.mem_filter.1 he).1⟩
theorem getE_filter {L:List Ent} (h:ZD k L) (f:List Nat→Bool) {p:List Nat} (hp:p.length = k) (ho:Ok p):getE (L.filter fun e => f e.1) p = if f p = true then getE L p else none:=by
  have hf:=h.filter fun e => f e.1
  cases hg:getE (L.filter fun e => f e.1) p with
  | some v =>
    obtain ⟨h1,h2⟩:=List.mem_filter.1 ((getE_iff hf.1 hf.2 hp ho).1 hg)
    rw [if_pos h2]
    exact ((getE_iff h.1 h.2 hp ho).2 h1).symm
  | none =>
    split
    · rename_i hfp
      cases hx:getE L p with
      | none => rfl
      | some v =>
        have:=(getE_iff hf.1 hf.2 hp ho (v:=v)).2 (List.mem_filter.2 ⟨(getE_iff h.1 h.2 hp ho).1 hx,hfp⟩)
        rw [hg] at this
        cases this
    · rfl
theorem jL_first (hA:ZD k A) (hB:ZD k B):jL 1 false false true A B = A.filter fun e => (getE B e.1).isSome :=
  jL_list hA hB (hA.filter _) fun p hp ho => by
    rw [getE_filter hA (fun q => (getE B q).isSome) hp ho]
    cases getE A p <;> cases getE B p <;> rfl
theorem jL_less (hA:ZD k A) (hB:ZD k B):jL 1 true false false A B = A.filter fun e => !(getE B e.1).isSome :=
  jL_list hA hB (hA.filter _) fun p hp ho => by
    rw [getE_filter hA (fun q => !(getE B q).isSome) hp ho]
    cases getE A p <;> cases getE B p <;> rfl
theorem filter_two {α:Type} (f:α→Bool):∀ L:List α,(L.filter f).length + (L.filter fun e => !f e).length = L.length
  | [] => rfl
  | x :: L => by
    have:=filter_two f L
    cases h:f x <;> simp [h] <;> omega
theorem jL_sub (hA:ZD k A) (hB:ZD k B):jL 1 true false false A B = []↔(jL 1 false false true A B).length = A.length:=by
  have h:=filter_two (fun e:Ent => (getE B e.1).isSome) A
  rw [jL_first hA hB,jL_less hA hB]
  constructor
  · intro e
    rw [e] at h
    simpa using h
  · intro e
    exact List.eq_nil_of_length_eq_zero (by omega)
end
end Tr
end Go.Proofs.YtkeepngaaleakaaGreatDoor
namespace Go.Proofs.YtkeepngaaleakaaGreatDoor
open Go.ChangeShapes Go.WideShapes Go.ChangeAt Go.RowKit
open Tr (T S4 Ent Tri KL)
theorem pp_two (g:G3) {u:Tri} (ho:u.o = none):Tr.ppT g u = Tr.ppL g [] (Tr.entsO u.a) (Tr.entsO u.b):=by
  unfold Tr.ppT
  rw [ho]
  rfl
theorem pp_j (r:Int) (l q m:Bool) {u:Tri} (ho:u.o = none):Tr.ppT (Tr.jG r l q m) u = Tr.jL r l q m (Tr.entsO u.a) (Tr.entsO u.b):=pp_two _ ho
theorem bool_keeps {k:Nat} {W:World} {h:Nat} {b:Bool} {ty:TypeId} (hc:W.heap[h]? = some (.cells #[.bool b] ty (0,0))) (hne:ty≠81) (v:Value):Kp k W (W.setCell ⟨h,0,none⟩ v):=kp_cell hc hne (fun i u hi => by
  rw [cell_of_row W _ _ _ _ (0,0) hc] at hi
  have hlt:i < 1:=(Array.getElem?_eq_some_iff.1 hi).1
  have:i = 0:=by omega
  subst this
  have h':some (Value.bool b) = some u:=hi
  cases h'
  exact nu_bool b) v
def AskI (h:Nat) (φ:Bool→Bool) (B:Nat) (_:List Unit) (w:World) (F:Nat→Prop):Prop:=w.heap[h]? = some (.cells #[.bool (φ true)] 4 (0,0))∧B≤h∧F = fun b => b = h
theorem ask_visit {fk ft h:Nat} {lk:Array Value} {B k Mx:Nat} {kf:Tri→Bool} {g:G3} (hg:g none none none = none) {φ:Bool→Bool} (entk:∀ args w,(callFunc fk args).run Tryz.prog w = .ok (.enter fk args) w) (entt:∀ args w,(callFunc ft args).run Tryz.prog w = .ok (.enter ft args) w)
    (hk:∀ w u x y,TriN w B k u→u.o = none→u.a = some x→u.b = some y→B≤w.heap.size→Calls Tryz.prog fk (#[prS u] ++ lk) w fun e w' => e = .returned (.bool (kf u))∧Below w.heap.size w w')
    (ht:∀ w u,w.heap[h]? = some (.cells #[.bool (φ true)] 4 (0,0))→TriN w B k u→u.o = none→TermS kf u→B≤w.heap.size→Calls Tryz.prog ft #[prS u,.pointer (some ⟨h,0,none⟩)] w fun e w' => ∃ r,r = decide (Tr.ppT g u = [])∧e = .returned (.bool r)∧w'.heap[h]? = some (.cells #[.bool (φ r)] 4 (0,0))∧Foot (fun b => b = h) w w'∧Kp k w w') :
    VisitL fk lk ft #[.pointer (some ⟨h,0,none⟩)] none B k Mx kf (fun u (_:Unit) => Tr.ppT g u = []) (fun u => Tr.ppT g u≠[]) (AskI h φ B) (fun w' => w'.heap[h]? = some (.cells #[.bool (φ false)] 4 (0,0))) where
  entk:=entk
  entt:=entt
  entl:=fun _ _ e => by cases e
  frame:=fun us w w' F hI hs hb hkp => by
    obtain ⟨h1,h2,rfl⟩:=hI
    exact ⟨(hb h rfl).trans h1,h2,rfl⟩
  inb:=fun us w F hI b hb => by
    obtain ⟨h1,h2,rfl⟩:=hI
    have hb':b = h:=hb
    subst hb'
    exact ⟨(Array.getElem?_eq_some_iff.1 h1).1,h2⟩
  up:=fun l c0 t a u hfo ho hm hn e => hn (by
    have h:=hfo.rem hg
    rw [e] at h
    unfold Tr.ppM at h
    rw [List.flatMap_eq_nil_iff] at h
    exact h _ hm)
  known:=fun us w F u x y _ hu ho ha hb hB => hk w u x y hu ho ha hb hB
  tell:=fun us w F u hI hu ho htm hB _ => by
    obtain ⟨h1,h2,rfl⟩:=hI
    refine (ht w u h1 hu ho htm hB).mono ?_
    rintro e w' ⟨r,hr,rfl,hh,hfo,hkp⟩
    refine ⟨fun b => b = h,fun b hb => .inl hb,hfo,?_⟩
    cases r with
    | true => exact .inl ⟨rfl,⟨(),of_decide_eq_true hr.symm,hh,h2,rfl⟩,hkp⟩
    | false => exact .inr ⟨rfl,hh,of_decide_eq_false hr.symm⟩
  leaven:=fun _ us xs w F f hI hf hrem ha => by
    obtain ⟨h1,h2,h3⟩:=hI
    refine ⟨(),?_,h1,h2,h3⟩
    obtain ⟨c0,hfo,-⟩:=hf.ok
    have hP:f.P = f.t.rem f.l 0:=by have:=hf.rem;rw [hrem,List.append_nil] at this;exact this
    show Tr.ppT g f.t = []
    rw [← hfo.rem hg,← hP]
    unfold Tr.ppM
    rw [List.flatMap_eq_nil_iff]
    intro p hp
    obtain ⟨i,hi⟩:=List.getElem?_of_mem hp
    have hlt:=(List.getElem?_eq_some_iff.1 hi).1
    obtain ⟨m,hm⟩:=get_lt (us:=xs) (k:=i) (by rw [← ha.1];exact hlt)
    exact ha.2 i p m hi hm
  leave:=fun _ _ e => by cases e
theorem zdJ {w:World} {B k:Nat} {o:Option T} (h:NodeO w B k o):Tr.ZD k (Tr.entsO o):=zdO h
theorem ents_some_ne {w:World} {B k:Nat} {o:Option T} {t:T} (h:NodeO w B k o) (e:o = some t):Tr.entsO o≠[]:=by
  subst e
  have:=Tr.ents_pos' (h t rfl).1
  intro e
  have e':t.ents = []:=e
  rw [e'] at this
  simp at this
theorem filterMap_len {α β γ:Type} {f:α→Option β} {g:α→Option γ}:∀ {U:List α},(∀ e∈U,(f e).isSome = (g e).isSome)→(U.filterMap f).length = (U.filterMap g).length
  | [],_ => rfl
  | x :: U,h => by
    have ih:=filterMap_len (f:=f) (g:=g) (U:=U) fun e he => h e (List.mem_cons_of_mem _ he)
    have hx:=h x List.mem_cons_self
    rw [List.filterMap_cons,List.filterMap_cons]
    cases hf:f x <;> cases hg:g x <;> rw [hf,hg] at hx <;> simp_all
theorem first_le {k:Nat} {A B:List Ent} (hA:Tr.ZD k A) (hB:Tr.ZD k B):(Tr.jL 1 false false true A B).length≤B.length:=by
  have h1:(Tr.jL 1 false false true A B).length = (Tr.jL 2 false false true A B).length:=by
    unfold Tr.jL Tr.ppL
    refine filterMap_len fun e _ => ?_
    unfold Tr.ppAt
    rw [Option.isSome_map,Option.isSome_map]
    cases Tr.getE A e.1 <;> cases Tr.getE B e.1 <;> rfl
  rw [h1,Tr.jL_second _ _ _ hA hB,Tr.jL_first hB hA]
  exact List.length_filter_le _ _
abbrev subKf (u:Tri):Bool:=decide (rootP u.a = rootP u.b) || !decide ((Tr.entsO u.a).length≤(Tr.entsO u.b).length)
abbrev sameKf (u:Tri):Bool:=decide (rootP u.a = rootP u.b)
theorem ent_zd {w:World} {B k:Nat} {o:Option T} (h:NodeO w B k o) {g v:Nat} {p:List Nat} (e:o = some (.ent g p v)):Tr.entsO o = [(p,v)]∧Z.Ok p∧v < 18446744073709551616:=by
  have hz:=zdO h
  subst e
  have h1:Tr.entsO (some (.ent g p v)) = [(p,v)]:=by simp [Tr.entsO,Tr.T.ents]
  have h2:=hz.2 (p,v) (by rw [h1];exact List.mem_singleton.2 rfl)
  exact ⟨h1,h2.2⟩
theorem sub_term {w:World} {B k:Nat} {u:Tri} (hu:TriN w B k u) (ho:u.o = none) (ht:TermS subKf u):decide ((Tr.entsO u.a).length≤(Tr.entsO u.b).length) = decide (Tr.ppT (Tr.jG 1 true false false) u = []):=by
  have za:=zdJ hu.a
  have zb:=zdJ hu.b
  rw [pp_j _ _ _ _ ho]
  refine decide_eq_decide.2 ?_
  rcases ht with e | e | e | ⟨p,g,v,g',v',e1,e2⟩
  · rw [e]
    have:Tr.entsO (none:Option T) = []:=rfl
    rw [this,Tr.jL_right _ _ _ _ zb]
    simp
  · rw [e]
    have:Tr.entsO (none:Option T) = []:=rfl
    rw [this,Tr.jL_left _ _ _ _ za]
    simp
  · rw [Bool.or_eq_true] at e
    rcases e with e | e
    · have he:=nodeO_same hu.a hu.b (of_decide_eq_true e)
      rw [← he,Tr.jL_gone _ _ _ za]
      simp
    · have hn:¬ (Tr.entsO u.a).length≤(Tr.entsO u.b).length:=by simpa using e
      refine ⟨fun h => absurd h hn,fun h => ?_⟩
      have h1:=(Tr.jL_sub za zb).1 h
      have h2:=first_le za zb
      omega
  · obtain ⟨a1,a2,a3⟩:=ent_zd hu.a e1
    obtain ⟨b1,b2,b3⟩:=ent_zd hu.b e2
    rw [a1,b1,Tr.jL_onesn _ _ _ a2 a3 b3]
    simp
theorem touch_term {w:World} {B k:Nat} {u:Tri} (hu:TriN w B k u) (ho:u.o = none) (ht:TermS sameKf u):((rootP u.a).isSome && (rootP u.b).isSome) = !decide (Tr.ppT (Tr.jG 1 false false true) u = []):=by
  have za:=zdJ hu.a
  have zb:=zdJ hu.b
  rw [pp_j _ _ _ _ ho]
  rcases ht with e | e | e | ⟨p,g,v,g',v',e1,e2⟩
  · rw [e]
    have:Tr.entsO (none:Option T) = []:=rfl
    rw [this,Tr.jL_right _ _ _ _ zb]
    rfl
  · rw [e]
    have:Tr.entsO (none:Option T) = []:=rfl
    rw [this,Tr.jL_left _ _ _ _ za,Bool.and_comm]
    rfl
  · have hr:=of_decide_eq_true e
    have he:=nodeO_same hu.a hu.b hr
    rw [← he,Tr.jL_same _ _ (by decide) (by decide) (by decide) za,← hr]
    cases ha:u.a with
    | none => rfl
    | some t =>
      have hne:=ents_some_ne hu.a ha
      rw [ha] at hne
      rw [decide_eq_false hne]
      rfl
  · obtain ⟨a1,a2,a3⟩:=ent_zd hu.a e1
    obtain ⟨b1,b2,b3⟩:=ent_zd hu.b e2
    rw [a1,b1,Tr.jL_ones _ _ _ a2 a3 b3,e1,e2]
    simp [rootP]
end Go.Proofs.YtkeepngaaleakaaGreatDoor
