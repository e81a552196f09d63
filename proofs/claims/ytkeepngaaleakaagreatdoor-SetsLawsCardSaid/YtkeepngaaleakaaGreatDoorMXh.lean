import Derived.Test.YtkeepngaaleakaaGreatDoorMXe
import Derived.Test.YtkeepngaaleakaaGreatDoorMXf
import Derived.Test.YtkeepngaaleakaaGreatDoorMXg
namespace Go.Proofs.YtkeepngaaleakaaGreatDoor
open Go.ChangeShapes Go.WideShapes Go.ChangeAt Go.RowKit
open Tr (T S4 Ent Tri KL)
theorem plsOf_mem (s:Nat):∀ {P:List PlS} {M:List Md} {x:Pl},x∈plsOf s P M→∃ (i:Nat) (p:PlS) (m:Md),P[i]? = some p∧M[i]? = some m∧x = ⟨p.1,p.2,Md.at s m⟩
  | [],_,_,h => by simp [plsOf] at h
  | _ :: _,[],_,h => by simp [plsOf] at h
  | p :: P,m :: M,x,h => by
    rcases List.mem_cons.1 h with rfl | h
    · exact ⟨0,p,m,rfl,rfl,rfl⟩
    · obtain ⟨i,p',m',h1,h2,h3⟩:=plsOf_mem s h
      exact ⟨i + 1,p',m',h1,h2,h3⟩
theorem want_eq:∀ {P:List PlS} {M:List Md},(∀ m∈M,m.1.isSome = m.2.isSome)→(wantL (plsOf 1 P M)).length = (wantL (plsOf 0 P M)).length
  | [],_,_ => by simp [plsOf]
  | _ :: _,[],_ => by simp [plsOf]
  | p :: P,m :: M,h => by
    have ih:=want_eq (P:=P) (M:=M) fun m hm => h m (List.mem_cons_of_mem _ hm)
    have h0:=h m List.mem_cons_self
    unfold wantL at ih ⊢
    simp only [plsOf,Md.at,List.filter_cons]
    simp only [Nat.one_ne_zero,if_false,if_true,← h0]
    split
    · simp only [List.length_cons];omega
    · exact ih
structure JnOk (w:World) (B k l:Nat) (c0:List Nat) (t:Tri) (P:List PlS) (M:List Md):Prop where
  ho:t.o = none
  hf:Tr.FrmOk k l c0 t
  hs:∀ x∈t.list,Tr.Wf k x∧x.lv≤l + 1∧Z.cut x.pre (l + 1) = c0
  nt:TriN w B k t
  hB:B≤w.heap.size
  hP:P = t.rem l 0
  hml:P.length = M.length
  hmn:∀ m∈M,NodeO w w.heap.size k m.1∧NodeO w w.heap.size k m.2
  heq:∀ m∈M,Tr.entsO m.1 = Tr.entsO m.2
  hfit:∀ (i:Nat) (p:PlS) (m:Md),P[i]? = some p→M[i]? = some m→∀ s x,Md.at s m = some x→Tr.Wf k x∧x.lv≤l∧Z.cut x.pre (l + 1) = c0∧Z.addr x.pre l = p.1
  hpt:∀ p∈P,TriN w B k p.2
  hsum:(Tr.entsO t.a).length + (Tr.entsO t.b).length + (M.map fun m => (Tr.entsO m.1).length).sum≤1000000000000
section
variable {w:World} {B k l:Nat} {c0:List Nat} {t:Tri} {P:List PlS} {M:List Md}
theorem JnOk.isSome (h:JnOk w B k l c0 t P M):∀ m∈M,m.1.isSome = m.2.isSome:=fun m hm => by
  have he:=h.heq m hm
  obtain ⟨h1,h2⟩:=h.hmn m hm
  cases e1:m.1 with
  | none =>
    cases e2:m.2 with
    | none => rfl
    | some y => rw [e1,e2] at he;exact absurd he.symm (h2 y e2).1.ne
  | some x =>
    cases e2:m.2 with
    | none => rw [e1,e2] at he;exact absurd he (h1 x e1).1.ne
    | some y => rfl
theorem sum_at {s:Nat}:∀ {P:List PlS} {M:List Md},(∀ m∈M,Tr.entsO m.1 = Tr.entsO m.2)→sumM (plsOf s P M)≤(M.map fun m => (Tr.entsO m.1).length).sum
  | [],_,_ => by simp [plsOf,sumM]
  | _ :: _,[],_ => by simp [plsOf,sumM]
  | p :: P,m :: M,h => by
    have ih:=sum_at (s:=s) (P:=P) (M:=M) fun m hm => h m (List.mem_cons_of_mem _ hm)
    have h0:(Tr.entsO (Md.at s m)).length = (Tr.entsO m.1).length:=by
      unfold Md.at
      split
      · rfl
      · rw [← h m List.mem_cons_self]
    simp only [plsOf,sumM_cons,List.map_cons,List.sum_cons,h0]
    omega
theorem JnOk.sum (h:JnOk w B k l c0 t P M) (s:Nat):(Tr.entsO t.o).length + (Tr.entsO t.a).length + (Tr.entsO t.b).length + sumM (plsOf s P M)≤1000000000000:=by
  have h1:=sum_at (s:=s) (P:=P) h.heq
  have h2:=h.hsum
  rw [h.ho]
  have h3:(Tr.entsO (none:Option T)).length = 0:=rfl
  omega
theorem JnOk.map (h:JnOk w B k l c0 t P M) (s:Nat):(plsOf s P M).map (fun x => (x.a,x.t)) = t.rem l 0:=by rw [plsOf_map s P M h.hml,h.hP]
theorem JnOk.node (h:JnOk w B k l c0 t P M) (s:Nat) (hs:s < 2):∀ x∈plsOf s P M,NodeO w B k (Tri.at x.t (s + 1))∧NodeO w w.heap.size k x.m:=fun x hx => by
  obtain ⟨i,p,m,hp,hm,rfl⟩:=plsOf_mem s hx
  have h1:=h.hpt p (List.mem_of_getElem? hp)
  have h2:=h.hmn m (List.mem_of_getElem? hm)
  match s,hs with
  | 0,_ => exact ⟨h1.a,h2.1⟩
  | 1,_ => exact ⟨h1.b,h2.2⟩
theorem JnOk.fits (h:JnOk w B k l c0 t P M) (s:Nat):∀ x∈plsOf s P M,∀ m,x.m = some m→Tr.Wf k m∧m.lv≤l∧Z.cut m.pre (l + 1) = c0∧Z.addr m.pre l = x.a:=fun x hx m hm => by
  obtain ⟨i,p,m',hp,hm',rfl⟩:=plsOf_mem s hx
  exact h.hfit i p m' hp hm' s m hm
theorem JnOk.outs (h:JnOk w B k l c0 t P M) (s:Nat) (e:Ent):(∃ x∈plsOf s P M,e∈Tr.entsO x.m)↔∃ m∈M,e∈Tr.entsO m.1:=by
  constructor
  · rintro ⟨x,hx,he⟩
    obtain ⟨i,p,m,hp,hm,rfl⟩:=plsOf_mem s hx
    have hmm:=List.mem_of_getElem? hm
    refine ⟨m,hmm,?_⟩
    have he':e∈Tr.entsO (Md.at s m):=he
    unfold Md.at at he'
    split at he'
    · exact he'
    · rw [h.heq m hmm];exact he'
  · rintro ⟨m,hm,he⟩
    obtain ⟨i,hi⟩:=List.getElem?_of_mem hm
    have hil:i < P.length:=by rw [h.hml];exact (List.getElem?_eq_some_iff.1 hi).1
    obtain ⟨p,hp⟩:=get_lt hil
    refine ⟨_,List.mem_of_getElem? (plsOf_get s hp hi),?_⟩
    show e∈Tr.entsO (Md.at s m)
    unfold Md.at
    split
    · exact he
    · rw [← h.heq m hm];exact he
theorem JnOk.done (h:JnOk w B k l c0 t P M) (s:Nat) (hs:s < 2) (h0:edL (plsOf s P M) (fun x => Tri.at x.t (s + 1)) = []) (e:Ent):e∈Tr.entsO (Tri.at t (s + 1))↔∃ m∈M,e∈Tr.entsO m.1:=by
  rw [← h.outs s e]
  obtain ⟨h64,fo,fa,fb,eo,ea,eb⟩:=h.hf
  obtain ⟨h1,h2,h3⟩:=ps_facts (h.map s)
  have hfit:Tr.FitL k l c0 (Tr.sdL (Tri.at t (s + 1)) l)∧Tr.entsL (Tr.sdL (Tri.at t (s + 1)) l) = Tr.entsO (Tri.at t (s + 1)):=by
    match s,hs with
    | 0,_ => exact ⟨fa,ea⟩
    | 1,_ => exact ⟨fb,eb⟩
  have hget:∀ a:Nat,Tri.at (Tr.triAt (Tr.sdL t.o l) (Tr.sdL t.a l) (Tr.sdL t.b l) a) (s + 1) = Sl.get (Tr.sdL (Tri.at t (s + 1)) l) (a:Int):=fun a => by
    match s,hs with
    | 0,_ => rfl
    | 1,_ => rfl
  have hm:=mem_out (was:=fun x => Tri.at x.t (s + 1)) h1 (K0:=Tr.sdL (Tri.at t (s + 1)) l) hfit.1.1 (fun x hx => by rw [h2 x hx,← hget]) (fun y hy => by
    have hgy:=Sl.get_of_mem hfit.1.1 hy
    refine h3 y.1 (hfit.1.lt5 y hy) ?_
    have hh:=hget y.1
    rw [hgy] at hh
    match s,hs,hh with
    | 0,_,hh => have hh:Sl.get (Tr.sdL t.a l) (y.1:Int) = some y.2:=hh;simp [Tr.triAt,Tr.Tri.any,hh]
    | 1,_,hh => have hh:Sl.get (Tr.sdL t.b l) (y.1:Int) = some y.2:=hh;simp [Tr.triAt,Tr.Tri.any,hh]) (fun x hx heq => by
      have hn:=h.node s hs x hx
      exact nodeO_same (w:=w) (B:=w.heap.size) (B':=w.heap.size) (k:=k) (hn.1.below (Below.refl w.heap.size w) h.hB h.hB) hn.2 (of_decide_eq_true heq)) e
  rw [h0] at hm
  rw [← hfit.2]
  exact hm
end
structure CandS (Wa:World) (k l:Nat) (c0:List Nat) (t:Tri) (P:List PlS) (M:List Md) (n:Option T) (D:Option Addr) (m d c:Nat):Prop where
  ex:∃ (s base:Nat) (was:Pl→Option T) (K0:KL),s < 2∧EdRow was Wa base (.slice D m d) (edL (plsOf s P M) was)∧(edL (plsOf s P M) was).length = m∧Start k l c0 t (plsOf s P M) n was K0∧c = cstL was (edL (plsOf s P M) was)∧∀ x∈plsOf s P M,NodeO Wa Wa.heap.size k (was x)
  nd:NodeO Wa Wa.heap.size k n
  le:c≤(wantL (plsOf 0 P M)).length
  m5:m≤65536
section
variable {w Wa:World} {B k l:Nat} {c0:List Nat} {t:Tri} {P:List PlS} {M:List Md} {n:Option T} {D fr:Option Addr} {m d c:Nat}
theorem CandS.cost (h:CandS Wa k l c0 t P M n D m d c) {w1:World} (hb:Below Wa.heap.size Wa w1):Calls Tryz.prog 230 #[.agg #[.pointer (rootP n),.slice D m d]] w1 fun e w' => e = .returned (.int .i64 (c:Int))∧Below w1.heap.size w1 w':=by
  obtain ⟨s,base,was,K0,-,hrow,hlen,-,hc,-⟩:=h.ex
  rw [hc]
  exact sCost_c (hrow.below hb (Nat.le_refl _)) hlen h.m5
theorem CandS.node (h:CandS Wa k l c0 t P M n D m d c) (hJ:JnOk w B k l c0 t P M) (hw:Below w.heap.size w Wa) {w1:World} (hb:Below Wa.heap.size Wa w1):Calls Tryz.prog 231 #[.agg #[.pointer (rootP n),.slice D m d]] w1 fun e w' => ∃ R,e = .returned (.pointer (rootP R))∧NodeO w' w'.heap.size k R∧(∀ e,e∈Tr.entsO R↔∃ m∈M,e∈Tr.entsO m.1)∧Below w1.heap.size w1 w':=by
  obtain ⟨s,base,was,K0,hs,hrow,hlen,hst,hc,hwas⟩:=h.ex
  have hb1:=Below.andThen hw hb
  refine (sNode_c hst (h.nd.below hb (Nat.le_refl _) hb.size) (hrow.below hb (Nat.le_refl _)) hlen h.m5 (hJ.map s) (fun x hx => (hJ.node s hs x hx).2.below hb1 (Nat.le_refl _) hb1.size) (fun x hx => (hwas x hx).below hb (Nat.le_refl _) hb.size) (hJ.fits s) (hJ.sum s)).mono ?_
  rintro e w' ⟨R,rfl,h1,h2,h3⟩
  exact ⟨R,rfl,h1,fun e => (h2 e).trans (hJ.outs s e),h3⟩
theorem JnOk.anew (hJ:JnOk w B k l c0 t P M) {base:Nat} (hrow:EdRow (fun _ => none) Wa base (.slice D m d) (edL (plsOf 0 P M) fun _ => none)) (hlen:m = (edL (plsOf 0 P M) fun _ => none).length) (hm:m≤65536):CandS Wa k l c0 t P M none D m d m where
  ex:=⟨0,base,fun _ => none,[],by omega,hrow,hlen.symm,start_none (hJ.map 0),by rw [cstL_none];exact hlen,fun x hx => NodeO.none _ _ _⟩
  nd:=NodeO.none _ _ _
  le:=by rw [hlen,ed_want];exact Nat.le_refl _
  m5:=hm
theorem JnOk.side (hJ:JnOk w B k l c0 t P M) (hw:Below w.heap.size w Wa) {s:Nat} (hs:s < 2) {base c':Nat} (hrow:EdRow (fun x => Tri.at x.t (s + 1)) Wa base (.slice D m d) (edL (plsOf s P M) fun x => Tri.at x.t (s + 1))) (hlen:m = (edL (plsOf s P M) fun x => Tri.at x.t (s + 1)).length) (hm:m≤65536) (hle:c'≤(wantL (plsOf 0 P M)).length) (hc:c = cstL (fun x => Tri.at x.t (s + 1)) (edL (plsOf s P M) fun x => Tri.at x.t (s + 1))) (hlt:c < c'):CandS Wa k l c0 t P M (Tri.at t (s + 1)) D m d c:=by
  have hwt:(wantL (plsOf s P M)).length = (wantL (plsOf 0 P M)).length:=by
    match s,hs with
    | 0,_ => rfl
    | 1,_ => exact want_eq hJ.isSome
  have hcm:=(cstL_bd (fun x => Tri.at x.t (s + 1)) (edL (plsOf s P M) fun x => Tri.at x.t (s + 1))).1
  have hst:=start_side hJ.hf hJ.hs (hJ.map s) (i:=s + 1) (by omega) (by omega)
  refine ⟨⟨s,base,_,_,hs,hrow,hlen.symm,hst,hc,fun x hx => (hJ.node s hs x hx).1.below hw hJ.hB (Nat.le_trans hJ.hB hw.size)⟩,?_,by omega,hm⟩
  match s,hs with
  | 0,_ => exact hJ.nt.a.below hw hJ.hB (Nat.le_trans hJ.hB hw.size)
  | 1,_ => exact hJ.nt.b.below hw hJ.hB (Nat.le_trans hJ.hB hw.size)
end
end Go.Proofs.YtkeepngaaleakaaGreatDoor
