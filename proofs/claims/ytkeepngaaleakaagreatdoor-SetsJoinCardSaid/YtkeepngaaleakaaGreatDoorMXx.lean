import Derived.Test.YtkeepngaaleakaaGreatDoorMXt
namespace Go.Proofs.YtkeepngaaleakaaGreatDoor
open Tr (T S4 Ent)
def ruleW (r:Int) (x y:Nat):Nat:=if r = 2 then y else ruleV r x y
namespace Tr
open Go.Proofs.YtkeepngaaleakaaGreatDoor.Z
def jG (r:Int) (l q m:Bool):Pt Nat:=fun _ a b => match a,b with
  | some x,some y => if m = true then some (ruleW r x y) else none
  | some x,none => if l = true then some x else none
  | none,some y => if q = true then some y else none
  | none,none => none
theorem jG_none (r:Int) (l q m:Bool):jG r l q m none none none = none:=rfl
def ZD (k:Nat) (L:List Ent):Prop:=ZS L∧Dim k L
theorem ZD.nil (k:Nat):ZD k []:=⟨ZS.nil,fun _ h => by cases h⟩
theorem getE_nil (p:List Nat):getE [] p = none:=rfl
theorem zd_ext {k:Nat} {L M:List Ent} (hL:ZD k L) (hM:ZD k M) (h:∀ p,p.length = k→Ok p→getE L p = getE M p):L = M :=
  ZS.ext hL.1 hM.1 fun e => by
    constructor
    · intro he
      have hd:=hL.2 e he
      have:=(getE_iff hL.1 hL.2 hd.1 hd.2.1 (v:=e.2)).2 he
      rw [h e.1 hd.1 hd.2.1] at this
      exact (getE_iff hM.1 hM.2 hd.1 hd.2.1).1 this
    · intro he
      have hd:=hM.2 e he
      have:=(getE_iff hM.1 hM.2 hd.1 hd.2.1 (v:=e.2)).2 he
      rw [← h e.1 hd.1 hd.2.1] at this
      exact (getE_iff hL.1 hL.2 hd.1 hd.2.1).1 this
theorem ruleV_lt {r:Int} {x y:Nat} (hx:x < 18446744073709551616) (hy:y < 18446744073709551616):ruleV r x y < 18446744073709551616:=by
  unfold ruleV
  split
  · omega
  · split
    · omega
    · split
      · omega
      · split <;> omega
theorem ruleW_lt {r:Int} {x y:Nat} (hx:x < 18446744073709551616) (hy:y < 18446744073709551616):ruleW r x y < 18446744073709551616:=by
  unfold ruleW
  split
  · exact hy
  · exact ruleV_lt hx hy
section
variable {k:Nat} {A B:List Ent}
def jL (r:Int) (l q m:Bool) (A B:List Ent):List Ent:=ppL (jG r l q m) [] A B
theorem jL_zd (r:Int) (l q m:Bool) (hA:ZD k A) (hB:ZD k B):ZD k (jL r l q m A B):=by
  have hn:=ZD.nil k
  refine ⟨ppL_xs hn.1 hn.2 hA.2 hB.2,fun e he => ?_⟩
  obtain ⟨⟨h1,h2⟩,h3⟩:=(mem_ppL (jG_none r l q m) hn.1 hA.1 hB.1 hn.2 hA.2 hB.2).1 he
  refine ⟨h1,h2,?_⟩
  cases ha:getE A e.1 with
  | none =>
    cases hb:getE B e.1 with
    | none => rw [ha,hb] at h3;cases h3
    | some y =>
      rw [ha,hb] at h3
      cases q with
      | false => cases h3
      | true => cases h3;exact (hB.2 _ ((getE_iff hB.1 hB.2 h1 h2).1 hb)).2.2
  | some x =>
    have hx:=(hA.2 _ ((getE_iff hA.1 hA.2 h1 h2).1 ha)).2.2
    cases hb:getE B e.1 with
    | none =>
      rw [ha,hb] at h3
      cases l with
      | false => cases h3
      | true => cases h3;exact hx
    | some y =>
      have hy:=(hB.2 _ ((getE_iff hB.1 hB.2 h1 h2).1 hb)).2.2
      rw [ha,hb] at h3
      cases m with
      | false => cases h3
      | true => have h3':ruleW r x y = e.2:=Option.some.inj h3;rw [← h3'];exact ruleW_lt hx hy
theorem getE_jL (r:Int) (l q m:Bool) (hA:ZD k A) (hB:ZD k B) {p:List Nat} (hp:p.length = k) (ho:Ok p):getE (jL r l q m A B) p = jG r l q m none (getE A p) (getE B p):=by
  have hn:=ZD.nil k
  have hJ:=jL_zd r l q m hA hB
  cases hg:getE (jL r l q m A B) p with
  | some v =>
    have:=((mem_ppL (jG_none r l q m) hn.1 hA.1 hB.1 hn.2 hA.2 hB.2).1 ((getE_iff hJ.1 hJ.2 hp ho).1 hg)).2
    rw [getE_nil] at this
    exact this.symm
  | none =>
    cases hx:jG r l q m none (getE A p) (getE B p) with
    | none => rfl
    | some v =>
      have:=(getE_iff hJ.1 hJ.2 hp ho).2 ((mem_ppL (c:=(p,v)) (jG_none r l q m) hn.1 hA.1 hB.1 hn.2 hA.2 hB.2).2 ⟨⟨hp,ho⟩,hx⟩)
      rw [hg] at this
      cases this
theorem jL_list {r:Int} {l q m:Bool} (hA:ZD k A) (hB:ZD k B) {L:List Ent} (hL:ZD k L) (h:∀ p,p.length = k→Ok p→jG r l q m none (getE A p) (getE B p) = getE L p):jL r l q m A B = L :=
  zd_ext (jL_zd r l q m hA hB) hL fun p hp ho => (getE_jL r l q m hA hB hp ho).trans (h p hp ho)
theorem jL_len (r:Int) (l q m:Bool) (hA:ZD k A) (hB:ZD k B):(jL r l q m A B).length≤A.length + B.length:=by
  have hn:=ZD.nil k
  have:=ppL_len (g:=jG r l q m) hn.1 hn.2 hA.2 hB.2
  simpa [jL] using this
theorem jL_left (r:Int) (l q m:Bool) (hA:ZD k A):jL r l q m A [] = if l = true then A else []:=by
  cases l with
  | true => rw [if_pos rfl];exact jL_list hA (ZD.nil k) hA fun p _ _ => by rw [getE_nil];cases getE A p <;> rfl
  | false => rw [if_neg (by decide)];exact jL_list hA (ZD.nil k) (ZD.nil k) fun p _ _ => by rw [getE_nil];cases getE A p <;> rfl
theorem jL_right (r:Int) (l q m:Bool) (hB:ZD k B):jL r l q m [] B = if q = true then B else []:=by
  cases q with
  | true => rw [if_pos rfl];exact jL_list (ZD.nil k) hB hB fun p _ _ => by rw [getE_nil];cases getE B p <;> rfl
  | false => rw [if_neg (by decide)];exact jL_list (ZD.nil k) hB (ZD.nil k) fun p _ _ => by rw [getE_nil];cases getE B p <;> rfl
theorem ruleV_self {r:Int} (h5:r≠5) (h6:r≠6) (v:Nat):ruleV r v v = v:=by
  unfold ruleV
  rw [if_neg h5,if_neg h6]
  split
  · omega
  · split
    · omega
    · rfl
theorem jL_same {r:Int} (l q:Bool) (h2:r≠2) (h5:r≠5) (h6:r≠6) (hA:ZD k A):jL r l q true A A = A :=
  jL_list hA hA hA fun p _ _ => by
    cases getE A p with
    | none => rfl
    | some v =>
      show some (ruleW r v v) = some v
      unfold ruleW
      rw [if_neg h2,ruleV_self h5 h6]
theorem jL_gone (r:Int) (l q:Bool) (hA:ZD k A):jL r l q false A A = [] :=
  jL_list hA hA (ZD.nil k) fun p _ _ => by
    cases getE A p with
    | none => rfl
    | some v => rfl
theorem getE_one {p:List Nat} {v:Nat} (hp:ZD p.length [(p,v)]) {p':List Nat} (h1:p'.length = p.length) (ho:Ok p'):getE [(p,v)] p' = if p' = p then some v else none:=by
  by_cases h:p' = p
  · rw [if_pos h]
    exact (getE_iff hp.1 hp.2 h1 ho).2 (by rw [h];exact List.mem_singleton.2 rfl)
  · rw [if_neg h]
    cases hg:getE [(p,v)] p' with
    | none => rfl
    | some x =>
      have:=List.mem_singleton.1 ((getE_iff hp.1 hp.2 h1 ho).1 hg)
      simp only [Prod.mk.injEq] at this
      exact absurd this.1 h
theorem zd_one {p:List Nat} {v:Nat} (ho:Ok p) (hv:v < 18446744073709551616):ZD p.length [(p,v)]:=⟨List.pairwise_singleton _ _,fun e he => by rw [List.mem_singleton.1 he];exact ⟨rfl,ho,hv⟩⟩
theorem jL_ones (r:Int) (l q:Bool) {p:List Nat} {v w:Nat} (ho:Ok p) (hv:v < 18446744073709551616) (hw:w < 18446744073709551616):jL r l q true [(p,v)] [(p,w)] = [(p,ruleW r v w)] :=
  jL_list (zd_one ho hv) (zd_one ho hw) (zd_one ho (ruleW_lt hv hw)) fun p' h1 ho' => by
    rw [getE_one (zd_one ho hv) h1 ho',getE_one (zd_one ho hw) h1 ho',getE_one (zd_one ho (ruleW_lt hv hw)) h1 ho']
    by_cases h:p' = p
    · rw [if_pos h,if_pos h,if_pos h];rfl
    · rw [if_neg h,if_neg h,if_neg h];rfl
theorem jL_onesn (r:Int) (l q:Bool) {p:List Nat} {v w:Nat} (ho:Ok p) (hv:v < 18446744073709551616) (hw:w < 18446744073709551616):jL r l q false [(p,v)] [(p,w)] = [] :=
  jL_list (zd_one ho hv) (zd_one ho hw) (ZD.nil _) fun p' h1 ho' => by
    rw [getE_one (zd_one ho hv) h1 ho',getE_one (zd_one ho hw) h1 ho',getE_nil]
    by_cases h:p' = p
    · rw [if_pos h,if_pos h];rfl
    · rw [if_neg h,if_neg h];rfl
theorem jL_second (l q m:Bool) (hA:ZD k A) (hB:ZD k B):jL 2 l q m A B = jL 1 q l m B A :=
  jL_list hA hB (jL_zd 1 q l m hB hA) fun p hp ho => by
    rw [getE_jL 1 q l m hB hA hp ho]
    cases getE A p <;> cases getE B p <;> rfl
theorem ZD.filter {L:List Ent} (h:ZD k L) (f:Ent→Bool):ZD k (L.filter f):=⟨List.Pairwise.filter f h.1,fun e he => h.2 e (List.mem_filter.1 he).1⟩
theorem getE_filter {L:List Ent} (h:ZD k L) (f:List Nat→Bool) {p:List Nat} (hp:p.length = k) (ho:Ok p):getE (L.filter fun e => f e.1) p = if f p = true then getE L p else none:=by
  have hf:=h.filter fun e => f e.1
  cases hg:getE (L.filter fun e => f e.1) p with
  | some v =>
    obtain ⟨h1,h2⟩:=List.mem_filter.1 ((getE_iff hf.1 hf.2 hp ho).1 hg)
    rw [if_pos h2]
    exact ((getE_iff h.1 h.2 hp ho).2 h1).symm
  | none =>
    split
    · rename_i hfp
      cases hx:getE L p with
      | none => rfl
      | some v =>
        have:=(getE_iff hf.1 hf.2 hp ho (v:=v)).2 (List.mem_filter.2 ⟨(getE_iff h.1 h.2 hp ho).1 hx,hfp⟩)
        rw [hg] at this
        cases this
    · rfl
theorem jL_first (hA:ZD k A) (hB:ZD k B):jL 1 false false true A B = A.filter fun e => (getE B e.1).isSome :=
  jL_list hA hB (hA.filter _) fun p hp ho => by
    rw [getE_filter hA (fun q => (getE B q).isSome) hp ho]
    cases getE A p <;> cases getE B p <;> rfl
theorem jL_less (hA:ZD k A) (hB:ZD k B):jL 1 true false false A B = A.filter fun e => !(getE B e.1).isSome :=
  jL_list hA hB (hA.filter _) fun p hp ho => by
    rw [getE_filter hA (fun q => !(getE B q).isSome) hp ho]
    cases getE A p <;> cases getE B p <;> rfl
theorem filter_two {α:Type} (f:α→Bool):∀ L:List α,(L.filter f).length + (L.filter fun e => !f e).length = L.length
  | [] => rfl
  | x :: L => by
    have:=filter_two f L
    cases h:f x <;> simp [h] <;> omega
theorem jL_sub (hA:ZD k A) (hB:ZD k B):jL 1 true false false A B = []↔(jL 1 false false true A B).length = A.length:=by
  have h:=filter_two (fun e:Ent => (getE B e.1).isSome) A
  rw [jL_first hA hB,jL_less hA hB]
  constructor
  · intro e
    rw [e] at h
    simpa using h
  · intro e
    exact List.eq_nil_of_length_eq_zero (by omega)
end
end Tr
end Go.Proofs.YtkeepngaaleakaaGreatDoor
namespace Go.Proofs.YtkeepngaaleakaaGreatDoor
open Go.ChangeShapes Go.WideShapes Go.ChangeAt Go.RowKit
open Tr (T S4 Ent Tri KL)
theorem pp_two (g:G3) {u:Tri} (ho:u.o = none):Tr.ppT g u = Tr.ppL g [] (Tr.entsO u.a) (Tr.entsO u.b):=by
  unfold Tr.ppT
  rw [ho]
  rfl
theorem pp_j (r:Int) (l q m:Bool) {u:Tri} (ho:u.o = none):Tr.ppT (Tr.jG r l q m) u = Tr.jL r l q m (Tr.entsO u.a) (Tr.entsO u.b):=pp_two _ ho
theorem bool_keeps {k:Nat} {W:World} {h:Nat} {b:Bool} {ty:TypeId} (hc:W.heap[h]? = some (.cells #[.bool b] ty (0,0))) (hne:ty≠81) (v:Value):Kp k W (W.setCell ⟨h,0,none⟩ v):=kp_cell hc hne (fun i u hi => by
  rw [cell_of_row W _ _ _ _ (0,0) hc] at hi
  have hlt:i < 1:=(Array.getElem?_eq_some_iff.1 hi).1
  have:i = 0:=by omega
  subst this
  have h':some (Value.bool b) = some u:=hi
  cases h'
  exact nu_bool b) v
def AskI (h:Nat) (φ:Bool→Bool) (B:Nat) (_:List Unit) (w:World) (F:Nat→Prop):Prop:=w.heap[h]? = some (.cells #[.bool (φ true)] 4 (0,0))∧B≤h∧F = fun b => b = h
theorem ask_visit {fk ft h:Nat} {lk:Array Value} {B k Mx:Nat} {kf:Tri→Bool} {g:G3} (hg:g none none none = none) {φ:Bool→Bool} (entk:∀ args w,(callFunc fk args).run Tryz.prog w = .ok (.enter fk args) w) (entt:∀ args w,(callFunc ft args).run Tryz.prog w = .ok (.enter ft args) w)
    (hk:∀ w u x y,TriN w B k u→u.o = none→u.a = some x→u.b = some y→B≤w.heap.size→Calls Tryz.prog fk (#[prS u] ++ lk) w fun e w' => e = .returned (.bool (kf u))∧Below w.heap.size w w')
    (ht:∀ w u,w.heap[h]? = some (.cells #[.bool (φ true)] 4 (0,0))→TriN w B k u→u.o = none→TermS kf u→B≤w.heap.size→Calls Tryz.prog ft #[prS u,.pointer (some ⟨h,0,none⟩)] w fun e w' => ∃ r,r = decide (Tr.ppT g u = [])∧e = .returned (.bool r)∧w'.heap[h]? = some (.cells #[.bool (φ r)] 4 (0,0))∧Foot (fun b => b = h) w w'∧Kp k w w') :
    VisitL fk lk ft #[.pointer (some ⟨h,0,none⟩)] none B k Mx kf (fun u (_:Unit) => Tr.ppT g u = []) (fun u => Tr.ppT g u≠[]) (AskI h φ B) (fun w' => w'.heap[h]? = some (.cells #[.bool (φ false)] 4 (0,0))) where
  entk:=entk
  entt:=entt
  entl:=fun _ _ e => by cases e
  frame:=fun us w w' F hI hs hb hkp => by
    obtain ⟨h1,h2,rfl⟩:=hI
    exact ⟨(hb h rfl).trans h1,h2,rfl⟩
  inb:=fun us w F hI b hb => by
    obtain ⟨h1,h2,rfl⟩:=hI
    have hb':b = h:=hb
    subst hb'
    exact ⟨(Array.getElem?_eq_some_iff.1 h1).1,h2⟩
  up:=fun l c0 t a u hfo ho hm hn e => hn (by
    have h:=hfo.rem hg
    rw [e] at h
    unfold Tr.ppM at h
    rw [List.flatMap_eq_nil_iff] at h
    exact h _ hm)
  known:=fun us w F u x y _ hu ho ha hb hB => hk w u x y hu ho ha hb hB
  tell:=fun us w F u hI hu ho htm hB _ => by
    obtain ⟨h1,h2,rfl⟩:=hI
    refine (ht w u h1 hu ho htm hB).mono ?_
    rintro e w' ⟨r,hr,rfl,hh,hfo,hkp⟩
    refine ⟨fun b => b = h,fun b hb => .inl hb,hfo,?_⟩
    cases r with
    | true => exact .inl ⟨rfl,⟨(),of_decide_eq_true hr.symm,hh,h2,rfl⟩,hkp⟩
    | false => exact .inr ⟨rfl,hh,of_decide_eq_false hr.symm⟩
  leaven:=fun _ us xs w F f hI hf hrem ha => by
    obtain ⟨h1,h2,h3⟩:=hI
    refine ⟨(),?_,h1,h2,h3⟩
    obtain ⟨c0,hfo,-⟩:=hf.ok
    have hP:f.P = f.t.rem f.l 0:=by have:=hf.rem;rw [hrem,List.append_nil] at this;exact this
    show Tr.ppT g f.t = []
    rw [← hfo.rem hg,← hP]
    unfold Tr.ppM
    rw [List.flatMap_eq_nil_iff]
    intro p hp
    obtain ⟨i,hi⟩:=List.getElem?_of_mem hp
    have hlt:=(List.getElem?_eq_some_iff.1 hi).1
    obtain ⟨m,hm⟩:=get_lt (us:=xs) (k:=i) (by rw [← ha.1];exact hlt)
    exact ha.2 i p m hi hm
  leave:=fun _ _ e => by cases e
theorem zdJ {w:World} {B k:Nat} {o:Option T} (h:NodeO w B k o):Tr.ZD k (Tr.entsO o):=zdO h
theorem ents_some_ne {w:World} {B k:Nat} {o:Option T} {t:T} (h:NodeO w B k o) (e:o = some t):Tr.entsO o≠[]:=by
  subst e
  have:=Tr.ents_pos' (h t rfl).1
  intro e
  have e':t.ents = []:=e
  rw [e'] at this
  simp at this
theorem filterMap_len {α β γ:Type} {f:α→Option β} {g:α→Option γ}:∀ {U:List α},(∀ e∈U,(f e).isSome = (g e).isSome)→(U.filterMap f).length = (U.filterMap g).length
  | [],_ => rfl
  | x :: U,h => by
    have ih:=filterMap_len (f:=f) (g:=g) (U:=U) fun e he => h e (List.mem_cons_of_mem _ he)
    have hx:=h x List.mem_cons_self
    rw [List.filterMap_cons,List.filterMap_cons]
    cases hf:f x <;> cases hg:g x <;> rw [hf,hg] at hx <;> simp_all
theorem first_le {k:Nat} {A B:List Ent} (hA:Tr.ZD k A) (hB:Tr.ZD k B):(Tr.jL 1 false false true A B).length≤B.length:=by
  have h1:(Tr.jL 1 false false true A B).length = (Tr.jL 2 false false true A B).length:=by
    unfold Tr.jL Tr.ppL
    refine filterMap_len fun e _ => ?_
    unfold Tr.ppAt
    rw [Option.isSome_map,Option.isSome_map]
    cases Tr.getE A e.1 <;> cases Tr.getE B e.1 <;> rfl
  rw [h1,Tr.jL_second _ _ _ hA hB,Tr.jL_first hB hA]
  exact List.length_filter_le _ _
abbrev subKf (u:Tri):Bool:=decide (rootP u.a = rootP u.b) || !decide ((Tr.entsO u.a).length≤(Tr.entsO u.b).length)
abbrev sameKf (u:Tri):Bool:=decide (rootP u.a = rootP u.b)
theorem ent_zd {w:World} {B k:Nat} {o:Option T} (h:NodeO w B k o) {g v:Nat} {p:List Nat} (e:o = some (.ent g p v)):Tr.entsO o = [(p,v)]∧Z.Ok p∧v < 18446744073709551616:=by
  have hz:=zdO h
  subst e
  have h1:Tr.entsO (some (.ent g p v)) = [(p,v)]:=by simp [Tr.entsO,Tr.T.ents]
  have h2:=hz.2 (p,v) (by rw [h1];exact List.mem_singleton.2 rfl)
  exact ⟨h1,h2.2⟩
theorem sub_term {w:World} {B k:Nat} {u:Tri} (hu:TriN w B k u) (ho:u.o = none) (ht:TermS subKf u):decide ((Tr.entsO u.a).length≤(Tr.entsO u.b).length) = decide (Tr.ppT (Tr.jG 1 true false false) u = []):=by
  have za:=zdJ hu.a
  have zb:=zdJ hu.b
  rw [pp_j _ _ _ _ ho]
  refine decide_eq_decide.2 ?_
  rcases ht with e | e | e | ⟨p,g,v,g',v',e1,e2⟩
  · rw [e]
    have:Tr.entsO (none:Option T) = []:=rfl
    rw [this,Tr.jL_right _ _ _ _ zb]
    simp
  · rw [e]
    have:Tr.entsO (none:Option T) = []:=rfl
    rw [this,Tr.jL_left _ _ _ _ za]
    simp
  · rw [Bool.or_eq_true] at e
    rcases e with e | e
    · have he:=nodeO_same hu.a hu.b (of_decide_eq_true e)
      rw [← he,Tr.jL_gone _ _ _ za]
      simp
    · have hn:¬ (Tr.entsO u.a).length≤(Tr.entsO u.b).length:=by simpa using e
      refine ⟨fun h => absurd h hn,fun h => ?_⟩
      have h1:=(Tr.jL_sub za zb).1 h
      have h2:=first_le za zb
      omega
  · obtain ⟨a1,a2,a3⟩:=ent_zd hu.a e1
    obtain ⟨b1,b2,b3⟩:=ent_zd hu.b e2
    rw [a1,b1,Tr.jL_onesn _ _ _ a2 a3 b3]
    simp
theorem touch_term {w:World} {B k:Nat} {u:Tri} (hu:TriN w B k u) (ho:u.o = none) (ht:TermS sameKf u):((rootP u.a).isSome && (rootP u.b).isSome) = !decide (Tr.ppT (Tr.jG 1 false false true) u = []):=by
  have za:=zdJ hu.a
  have zb:=zdJ hu.b
  rw [pp_j _ _ _ _ ho]
  rcases ht with e | e | e | ⟨p,g,v,g',v',e1,e2⟩
  · rw [e]
    have:Tr.entsO (none:Option T) = []:=rfl
    rw [this,Tr.jL_right _ _ _ _ zb]
    rfl
  · rw [e]
    have:Tr.entsO (none:Option T) = []:=rfl
    rw [this,Tr.jL_left _ _ _ _ za,Bool.and_comm]
    rfl
  · have hr:=of_decide_eq_true e
    have he:=nodeO_same hu.a hu.b hr
    rw [← he,Tr.jL_same _ _ (by decide) (by decide) (by decide) za,← hr]
    cases ha:u.a with
    | none => rfl
    | some t =>
      have hne:=ents_some_ne hu.a ha
      rw [ha] at hne
      rw [decide_eq_false hne]
      rfl
  · obtain ⟨a1,a2,a3⟩:=ent_zd hu.a e1
    obtain ⟨b1,b2,b3⟩:=ent_zd hu.b e2
    rw [a1,b1,Tr.jL_ones _ _ _ a2 a3 b3,e1,e2]
    simp [rootP]
set_option maxRecDepth 100000 in
set_option maxHeartbeats 4000000 in
theorem sSub1_c {w:World} {B k:Nat} {u:Tri} (hu:TriN w B k u) (hB:B≤w.heap.size) :
    Calls Tryz.prog 74 #[prS u] w fun e w' => e = .returned (.bool (subKf u))∧Below w.heap.size w w':=by
  obtain ⟨W0,hW0⟩:∃ W0,W0 = w.alloc (.cells #[.pointer (rootP u.a),.pointer (rootP u.b)] 97):=⟨_,rfl⟩
  have hb0:Below w.heap.size w W0:=by rw [hW0];exact below_alloc _ _
  have ha0:W0.heap[w.heap.size]? = some (.cells #[.pointer (rootP u.a),.pointer (rootP u.b)] 97 (0,0)):=by rw [hW0];exact heap_at w _ _ rfl
  have HS:=Lib.hid (sSame_c (hu.a.below hb0 hB (Nat.le_refl _)) (hu.b.below hb0 hB (Nat.le_refl _)) (Nat.le_trans hB hb0.size))
  have HC:Hid (∀ w1,Below W0.heap.size W0 w1→Calls Tryz.prog 75 #[p2V (rootP u.a) (rootP u.b)] w1 fun e w' => e = .returned (.bool (decide ((Tr.entsO u.a).length≤(Tr.entsO u.b).length)))∧Below w1.heap.size w1 w'):=Lib.hid fun w1 hb => by
    have h1:=Below.andThen hb0 hb
    exact sCould_c (hu.a.below h1 hB (Nat.le_refl _)) (hu.b.below h1 hB (Nat.le_refl _)) (Nat.le_trans hB h1.size)
  unfold subKf
  obtain ⟨d,hd⟩:∃ d,decide (rootP u.a = rootP u.b) = d:=⟨_,rfl⟩
  obtain ⟨c,hc⟩:∃ c,decide ((Tr.entsO u.a).length≤(Tr.entsO u.b).length) = c:=⟨_,rfl⟩
  rw [hd] at HS
  rw [hc] at HC
  rw [hd,hc]
  have HA:=Lib.hid ha0
  obtain ⟨a0,a1,-⟩:=atS_cells ha0
  have HW:=Lib.hid hW0
  have HB:=Lib.hid hb0
  clear hu hB hW0 hb0 ha0 hd hc
  go_enter Tryz.func74,Tryz.ntmps74
  go_upto_region 1 with fail
  rw [← HW.out]
  go_wp2_with fail
  refine HS.out.mono ?_
  rintro e w1 ⟨rfl,hb1⟩
  obtain ⟨p0,p1,-⟩:=atS_cells (keepz HA.out hb1)
  have H1:=Lib.hid hb1
  clear hb1 HS a0 a1
  cases d with
  | true =>
    go_wp2_with fail
    go_ret
    exact ⟨by simp,Below.andThen HB.out H1.out⟩
  | false =>
    go_wp2_with fail
    refine (HC.out _ H1.out).mono ?_
    rintro e w2 ⟨rfl,hb2⟩
    have H2:=Lib.hid hb2
    clear hb2 HC
    go_wp2_with fail
    go_ret
    exact ⟨by simp,Below.andThen (Below.andThen HB.out H1.out) H2.out⟩
set_option maxRecDepth 100000 in
set_option maxHeartbeats 4000000 in
theorem sSub2_c {w:World} {B k h:Nat} {b0:Bool} {u:Tri} (hh:w.heap[h]? = some (.cells #[.bool b0] 4 (0,0))) (hu:TriN w B k u) (hB:B≤w.heap.size) {r:Bool} (hr:decide ((Tr.entsO u.a).length≤(Tr.entsO u.b).length) = r) :
    Calls Tryz.prog 76 #[prS u,.pointer (some ⟨h,0,none⟩)] w fun e w' => e = .returned (.bool r)∧w'.heap[h]? = some (.cells #[.bool r] 4 (0,0))∧Foot (fun b => b = h) w w'∧Kp k w w':=by
  obtain ⟨W0,hW0⟩:∃ W0,W0 = w.alloc (.cells #[.pointer (rootP u.a),.pointer (rootP u.b)] 97):=⟨_,rfl⟩
  have hb0:Below w.heap.size w W0:=by rw [hW0];exact below_alloc _ _
  have ha0:W0.heap[w.heap.size]? = some (.cells #[.pointer (rootP u.a),.pointer (rootP u.b)] 97 (0,0)):=by rw [hW0];exact heap_at w _ _ rfl
  obtain ⟨a0,a1,-⟩:=atS_cells ha0
  have hh0:=keepz hh hb0
  have HC:=Lib.hid (sCould_c (hu.a.below hb0 hB (Nat.le_refl _)) (hu.b.below hb0 hB (Nat.le_refl _)) (Nat.le_trans hB hb0.size))
  rw [hr] at HC
  have HW:=Lib.hid hW0
  have HB:=Lib.hid (And.intro hb0 hh0)
  obtain ⟨pa,hpa⟩:∃ p,rootP u.a = p:=⟨_,rfl⟩
  obtain ⟨pb,hpb⟩:∃ p,rootP u.b = p:=⟨_,rfl⟩
  rw [hpa,hpb] at HC HW
  rw [hpa] at a0
  rw [hpb] at a1
  show Calls Tryz.prog 76 #[p2V (rootP u.a) (rootP u.b),.pointer (some ⟨h,0,none⟩)] w _
  rw [hpa,hpb]
  clear hh hu hB hW0 hb0 ha0 hh0 hpa hpb hr
  go_enter Tryz.func76,Tryz.ntmps76
  go_upto_region 1 with fail
  rw [← HW.out]
  go_wp2_with fail
  refine HC.out.mono ?_
  rintro e w1 ⟨rfl,hb1⟩
  obtain ⟨hb0,hh0⟩:=HB.out
  have hh1:=keepz hh0 hb1
  have c0:w1.cell? ⟨h,0,none⟩ = some (.bool b0):=by rw [cell_of_row w1 _ _ _ _ (0,0) hh1];rfl
  have f0:=frozen_of_row w1 h 0 _ _ hh1
  have r1:(w1.setCell ⟨h,0,none⟩ (.bool r)).heap[h]? = some (.cells #[.bool r] 4 (0,0)):=by
    have h1:=heap_setCell_same w1 h 0 _ _ (.bool r) hh1
    simpa using h1
  have c1:(w1.setCell ⟨h,0,none⟩ (.bool r)).cell? ⟨h,0,none⟩ = some (.bool r):=by rw [cell_of_row _ _ _ _ _ (0,0) r1];rfl
  have HE:=Lib.hid (And.intro r1 (And.intro (((Foot.of_below (Below.andThen hb0 hb1)).trans (F1:=fun b => b = h) (Foot.setCell w1 (F:=fun b => b = h) (a:=⟨h,0,none⟩) rfl (.bool r)) (fun b hb => .inl hb)):Foot (fun b => b = h) w (w1.setCell ⟨h,0,none⟩ (.bool r))) (Kp.trans (Kp.of_below (k:=k) (Below.andThen hb0 hb1)) (bool_keeps hh1 (by decide) (.bool r)) (Below.andThen hb0 hb1).size)))
  clear hb0 hh0 hh1 hb1 r1 HC HB HW a0 a1
  go_wp2_with fail
  go_ret
  exact ⟨rfl,HE.out.1,HE.out.2.1,HE.out.2.2⟩
set_option maxRecDepth 100000 in
set_option maxHeartbeats 4000000 in
theorem sTch1_c {w:World} {k h:Nat} {b0:Bool} {u:Tri} (hh:w.heap[h]? = some (.cells #[.bool b0] 4 (0,0))) {r:Bool} (hr:((rootP u.a).isSome && (rootP u.b).isSome) = r) :
    Calls Tryz.prog 78 #[prS u,.pointer (some ⟨h,0,none⟩)] w fun e w' => e = .returned (.bool (!r))∧w'.heap[h]? = some (.cells #[.bool r] 4 (0,0))∧Foot (fun b => b = h) w w'∧Kp k w w':=by
  obtain ⟨W0,hW0⟩:∃ W0,W0 = w.alloc (.cells #[.pointer (rootP u.a),.pointer (rootP u.b)] 97):=⟨_,rfl⟩
  have hb0:Below w.heap.size w W0:=by rw [hW0];exact below_alloc _ _
  have ha0:W0.heap[w.heap.size]? = some (.cells #[.pointer (rootP u.a),.pointer (rootP u.b)] 97 (0,0)):=by rw [hW0];exact heap_at w _ _ rfl
  obtain ⟨a0,a1,-⟩:=atS_cells ha0
  have hh0:=keepz hh hb0
  have HC:=Lib.hid (sBoth_c (rootP u.a) (rootP u.b) W0)
  rw [hr] at HC
  have HW:=Lib.hid hW0
  have HB:=Lib.hid (And.intro hb0 hh0)
  obtain ⟨pa,hpa⟩:∃ p,rootP u.a = p:=⟨_,rfl⟩
  obtain ⟨pb,hpb⟩:∃ p,rootP u.b = p:=⟨_,rfl⟩
  rw [hpa,hpb] at HC HW
  rw [hpa] at a0
  rw [hpb] at a1
  show Calls Tryz.prog 78 #[p2V (rootP u.a) (rootP u.b),.pointer (some ⟨h,0,none⟩)] w _
  rw [hpa,hpb]
  clear hh hW0 hb0 ha0 hh0 hpa hpb hr
  go_enter Tryz.func78,Tryz.ntmps78
  go_upto_region 1 with fail
  rw [← HW.out]
  go_wp2_with fail
  refine HC.out.mono ?_
  rintro e w1 ⟨rfl,hb1⟩
  obtain ⟨hb0,hh0⟩:=HB.out
  have hh1:=keepz hh0 hb1
  have c0:w1.cell? ⟨h,0,none⟩ = some (.bool b0):=by rw [cell_of_row w1 _ _ _ _ (0,0) hh1];rfl
  have f0:=frozen_of_row w1 h 0 _ _ hh1
  have r1:(w1.setCell ⟨h,0,none⟩ (.bool r)).heap[h]? = some (.cells #[.bool r] 4 (0,0)):=by
    have h1:=heap_setCell_same w1 h 0 _ _ (.bool r) hh1
    simpa using h1
  have c1:(w1.setCell ⟨h,0,none⟩ (.bool r)).cell? ⟨h,0,none⟩ = some (.bool r):=by rw [cell_of_row _ _ _ _ _ (0,0) r1];rfl
  have HE:=Lib.hid (And.intro r1 (And.intro (((Foot.of_below (Below.andThen hb0 hb1)).trans (F1:=fun b => b = h) (Foot.setCell w1 (F:=fun b => b = h) (a:=⟨h,0,none⟩) rfl (.bool r)) (fun b hb => .inl hb)):Foot (fun b => b = h) w (w1.setCell ⟨h,0,none⟩ (.bool r))) (Kp.trans (Kp.of_below (k:=k) (Below.andThen hb0 hb1)) (bool_keeps hh1 (by decide) (.bool r)) (Below.andThen hb0 hb1).size)))
  clear hb0 hh0 hh1 hb1 r1 HC HB HW a0 a1
  go_wp2_with fail
  go_ret
  exact ⟨rfl,HE.out.1,HE.out.2.1,HE.out.2.2⟩
theorem sub_visit {B k Mx h:Nat}:VisitL 74 #[] 76 #[.pointer (some ⟨h,0,none⟩)] none B k Mx subKf (fun u (_:Unit) => Tr.ppT (Tr.jG 1 true false false) u = []) (fun u => Tr.ppT (Tr.jG 1 true false false) u≠[]) (AskI h id B) (fun w' => w'.heap[h]? = some (.cells #[.bool (id false)] 4 (0,0))) :=
  ask_visit (Tr.jG_none _ _ _ _) (enters_of Tryz.func74 (by kernel_rfl) rfl) (enters_of Tryz.func76 (by kernel_rfl) rfl) (fun w u x y hu _ _ _ hB => sSub1_c hu hB) fun w u hh hu ho ht hB => by
    refine (sSub2_c hh hu hB rfl).mono ?_
    rintro e w' ⟨rfl,h1,h2,h3⟩
    exact ⟨_,sub_term hu ho ht,rfl,h1,h2,h3⟩
theorem tch_visit {B k Mx h:Nat}:VisitL 67 #[] 78 #[.pointer (some ⟨h,0,none⟩)] none B k Mx sameKf (fun u (_:Unit) => Tr.ppT (Tr.jG 1 false false true) u = []) (fun u => Tr.ppT (Tr.jG 1 false false true) u≠[]) (AskI h not B) (fun w' => w'.heap[h]? = some (.cells #[.bool (not false)] 4 (0,0))) :=
  ask_visit (Tr.jG_none _ _ _ _) (enters_of Tryz.func67 (by kernel_rfl) rfl) (enters_of Tryz.func78 (by kernel_rfl) rfl) (fun w u x y hu _ _ _ hB => sSame_c hu.a hu.b hB) fun w u hh hu ho ht hB => by
    refine (sTch1_c (k:=k) hh (touch_term hu ho ht)).mono ?_
    rintro e w' ⟨rfl,h1,h2,h3⟩
    exact ⟨_,rfl,by rw [Bool.not_not],h1,h2,h3⟩
end Go.Proofs.YtkeepngaaleakaaGreatDoor
