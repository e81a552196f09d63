import Derived.Test.YtkeepngaaleakaaGreatDoorMY4
namespace Go.Proofs.YtkeepngaaleakaaGreatDoor
open Go.ChangeShapes
open Tr (T S4 Ent KL)
def kpE (c:Bool) (lo hi:List Nat) (e:Ent):Bool:=Tr.inB lo hi e != c
def Bec (c:Bool) (lo hi:List Nat) (o n:Option T):Prop:=Tr.entsO n = (Tr.entsO o).filter (kpE c lo hi)∧((∀ e∈Tr.entsO o,kpE c lo hi e = true)→n = o)
theorem kp_clear {lo hi:List Nat} {e:Ent} (h:Tr.inB lo hi e = false):kpE true lo hi e = true:=by unfold kpE;rw [h];rfl
theorem Bec.sub {c:Bool} {lo hi:List Nat} {o n:Option T} (h:Bec c lo hi o n):∀ e∈Tr.entsO n,e∈Tr.entsO o:=fun e he => by
  rw [h.1] at he
  exact (List.mem_filter.1 he).1
theorem Bec.le {c:Bool} {lo hi:List Nat} {o n:Option T} (h:Bec c lo hi o n):(Tr.entsO n).length≤(Tr.entsO o).length:=by
  rw [h.1]
  exact List.length_filter_le _ _
theorem bec_whole {k:Nat} {t:T} (hw:Tr.Wf k t) {lo hi:List Nat} (h:Tr.whB lo hi t = true) (c:Bool):Bec c lo hi (some t) (if c = true then none else some t):=by
  have hin:=Tr.whole_in hw h
  have hne:t.ents≠[]:=hw.ne
  cases c with
  | true =>
    have hall:∀ e∈t.ents,kpE true lo hi e = false:=fun e he => by unfold kpE;rw [hin e he];rfl
    refine ⟨(Tr.filter_none hall).symm,fun h => ?_⟩
    obtain ⟨e,he⟩:=List.exists_mem_of_ne_nil _ hne
    have:=h e he
    rw [hall e he] at this
    cases this
  | false =>
    refine ⟨?_,fun _ => rfl⟩
    show t.ents = t.ents.filter (kpE false lo hi)
    rw [List.filter_eq_self.2 fun e he => by unfold kpE;rw [hin e he];rfl]
theorem bec_none (c:Bool) (lo hi:List Nat):Bec c lo hi none none:=⟨rfl,fun _ => rfl⟩
theorem bec_ent {g v:Nat} {p:List Nat} {lo hi:List Nat} (h:Tr.whB lo hi (.ent g p v) = false) (c:Bool):Bec c lo hi (some (.ent g p v)) (if c = true then some (.ent g p v) else none):=by
  rw [Tr.ent_whole] at h
  have he:Tr.entsO (some (.ent g p v)) = [(p,v)]:=by simp [Tr.entsO,Tr.T.ents]
  cases c with
  | true =>
    refine ⟨?_,fun _ => rfl⟩
    rw [if_pos rfl,he,List.filter_eq_self.2 fun e he => by rw [List.mem_singleton.1 he];exact kp_clear h]
  | false =>
    have hk:kpE false lo hi (p,v) = false:=by unfold kpE;rw [h];rfl
    refine ⟨?_,fun hall => ?_⟩
    · rw [he,List.filter_eq_nil_iff.2 fun e he => by rw [List.mem_singleton.1 he,hk];decide]
      rfl
    · have:=hall (p,v) (by rw [he];exact List.mem_singleton.2 rfl)
      rw [hk] at this
      cases this
theorem filter_entsL (f:Ent→Bool):∀ K:KL,(Tr.entsL K).filter f = K.flatMap fun x => x.2.ents.filter f
  | [] => rfl
  | x :: K => by
    have ih:=filter_entsL f K
    rw [Tr.entsL_cons,List.filter_append,ih,List.flatMap_cons]
structure MtsB (c:Bool) (lo hi:List Nat) (g l:Nat) (pre:List Nat) (ks:KL) (L:List Mt):Prop where
  kids:L.map (fun m => (m.a,m.x)) = ks.filter fun x => Tr.hasB lo hi (.br g l pre ks) x.1
  bec:∀ m∈L,Bec c lo hi (some m.x) m.n
section
variable {k g l:Nat} {c:Bool} {lo hi:List Nat} {pre:List Nat} {ks:KL} {L:List Mt}
theorem MtsB.inn (h:MtsB c lo hi g l pre ks L) {m:Mt} (hm:m∈L):(m.a,m.x)∈ks:=by
  have:(m.a,m.x)∈L.map fun m => (m.a,m.x):=List.mem_map.2 ⟨m,hm,rfl⟩
  rw [h.kids] at this
  exact (List.mem_filter.1 this).1
theorem MtsB.pair (h:MtsB c lo hi g l pre ks L) (hs:Sl.Srt ks):L.Pairwise fun p q => p.a < q.a:=by
  have h1:Sl.Srt (L.map fun m => (m.a,m.x)):=by rw [h.kids];exact List.Pairwise.filter _ hs
  exact (List.pairwise_map.1 h1).imp fun h => h
theorem MtsB.fit (h:MtsB c lo hi g l pre ks L) (hF:Tr.FitL k l pre ks) (hw:∀ m∈L,∀ t,m.n = some t→Tr.Wf k t):FitP k l pre (L.map mtP):=by
  intro p hp t ht
  obtain ⟨m,hm,rfl⟩:=List.mem_map.1 hp
  have ht':m.n = some t:=ht
  refine Tr.low_fit (hw m hm t ht') fun e he => ?_
  have h1:e∈m.x.ents:=(h.bec m hm).sub e (by rw [ht'];exact he)
  obtain ⟨h2,h3,-⟩:=hF.ent (h.inn hm) h1
  exact ⟨h2,h3⟩
theorem kid_out (hw:Tr.Wf k (.br g l pre ks)) {x:Nat × T} (hx:x∈ks) (h:Tr.hasB lo hi (.br g l pre ks) x.1 = false):∀ e∈x.2.ents,Tr.inB lo hi e = false:=fun e he => by
  cases hi':Tr.inB lo hi e with
  | false => rfl
  | true => rw [Tr.left_in hw hx he hi'] at h;cases h
theorem MtsB.sum (h:MtsB c lo hi g l pre ks L):sumP (L.map mtP)≤(Tr.entsL ks).length:=by
  have h1:sumP (L.map mtP)≤(Tr.entsL (L.map fun m => (m.a,m.x))).length:=by
    have key:∀ M:List Mt,(∀ m∈M,Bec c lo hi (some m.x) m.n)→sumP (M.map mtP)≤(Tr.entsL (M.map fun m => (m.a,m.x))).length:=by
      intro M
      induction M with
      | nil => intro _;exact Nat.le_refl _
      | cons m M ih =>
        intro hM
        have h1:=(hM m List.mem_cons_self).le
        have h2:=ih fun q hq => hM q (List.mem_cons_of_mem _ hq)
        rw [List.map_cons,List.map_cons,sumP_cons,Tr.entsL_cons,List.length_append]
        have h3:(Tr.entsO (some m.x)).length = m.x.ents.length:=rfl
        show (Tr.entsO m.n).length + _≤m.x.ents.length + _
        omega
    exact key L h.bec
  refine Nat.le_trans h1 ?_
  rw [h.kids]
  have key:∀ (f:Nat × T→Bool) (K:KL),(Tr.entsL (K.filter f)).length≤(Tr.entsL K).length:=by
    intro f K
    induction K with
    | nil => exact Nat.le_refl _
    | cons x K ih =>
      rw [List.filter_cons]
      split
      · rw [Tr.entsL_cons,Tr.entsL_cons,List.length_append,List.length_append];omega
      · rw [Tr.entsL_cons,List.length_append];omega
  exact key _ ks
theorem entsL_nowK:∀ M:List Mt,Tr.entsL (nowK M) = M.flatMap fun m => Tr.entsO m.n
  | [] => rfl
  | m :: M => by
    have ih:=entsL_nowK M
    rw [List.flatMap_cons,← ih]
    unfold nowK
    cases hn:m.n with
    | none => simp [hn,Tr.entsO]
    | some t => simp [hn,Tr.entsO,Tr.entsL]
theorem MtsB.now (h:MtsB false lo hi g l pre ks L) (hw:Tr.Wf k (.br g l pre ks)):Tr.entsL (nowK L) = (Tr.entsL ks).filter (kpE false lo hi):=by
  have h1:Tr.entsL (nowK L) = (L.map fun m => (m.a,m.x)).flatMap fun x => x.2.ents.filter (kpE false lo hi):=by
    rw [entsL_nowK,List.flatMap_map]
    have key:∀ M:List Mt,(∀ m∈M,Bec false lo hi (some m.x) m.n)→(M.flatMap fun m => Tr.entsO m.n) = M.flatMap fun m => m.x.ents.filter (kpE false lo hi):=by
      intro M
      induction M with
      | nil => intro _;rfl
      | cons m M ih =>
        intro hM
        rw [List.flatMap_cons,List.flatMap_cons,ih fun q hq => hM q (List.mem_cons_of_mem _ hq),(hM m List.mem_cons_self).1]
        rfl
    exact key L h.bec
  rw [h1,h.kids,filter_entsL]
  have key:∀ K:KL,(∀ x∈K,x∈ks)→((K.filter fun x => Tr.hasB lo hi (.br g l pre ks) x.1).flatMap fun x => x.2.ents.filter (kpE false lo hi)) = K.flatMap fun x => x.2.ents.filter (kpE false lo hi):=by
    intro K
    induction K with
    | nil => intro _;rfl
    | cons x K ih =>
      intro hK
      have ih':=ih fun q hq => hK q (List.mem_cons_of_mem _ hq)
      rw [List.filter_cons,List.flatMap_cons]
      split
      · rw [List.flatMap_cons,ih']
      · rename_i hx
        have hx':Tr.hasB lo hi (.br g l pre ks) x.1 = false:=by simpa using hx
        have hz:x.2.ents.filter (kpE false lo hi) = []:=List.filter_eq_nil_iff.2 fun e he => by
          unfold kpE
          rw [kid_out hw (hK x List.mem_cons_self) hx' e he]
          decide
        rw [ih',hz,List.nil_append]
  exact key ks fun _ h => h
theorem remK_ents (f:Ent→Bool):∀ {ks:KL} {R:List Mt},Sl.Srt ks→R.Pairwise (fun p q => p.a < q.a)→(∀ m∈R,(m.a,m.x)∈ks∧Tr.entsO m.n = m.x.ents.filter f)→(∀ x∈ks,(∀ m∈R,m.a≠x.1)→x.2.ents.filter f = x.2.ents)→Tr.entsL (remK ks R) = (Tr.entsL ks).filter f
  | [],[],_,_,_,_ => rfl
  | [],m :: R,_,_,h,_ => by have:=(h m List.mem_cons_self).1;cases this
  | x :: ks,[],_,_,_,h => by
    rw [remK_nil,filter_entsL]
    unfold Tr.entsL
    have key:∀ K:KL,(∀ y∈K,y.2.ents.filter f = y.2.ents)→(K.flatMap fun y => y.2.ents) = K.flatMap fun y => y.2.ents.filter f:=by
      intro K
      induction K with
      | nil => intro _;rfl
      | cons y K ih => intro hK;rw [List.flatMap_cons,List.flatMap_cons,hK y List.mem_cons_self,ih fun q hq => hK q (List.mem_cons_of_mem _ hq)]
    exact key (x :: ks) fun y hy => h y hy fun m hm => by cases hm
  | x :: ks,m :: R,hs,hp,h,hk => by
    obtain ⟨hp1,hp2⟩:=List.pairwise_cons.1 hp
    have hin:∀ q∈m :: R,x.1 < q.a→(q.a,q.x)∈ks∧Tr.entsO q.n = q.x.ents.filter f:=fun q hq hlt => by
      obtain ⟨h1,h2⟩:=h q hq
      rcases List.mem_cons.1 h1 with e | e
      · have:q.a = x.1:=by rw [← e]
        omega
      · exact ⟨e,h2⟩
    rw [remK,Tr.entsL_cons,List.filter_append]
    split
    · rename_i e
      have hgt:∀ q∈R,x.1 < q.a:=fun q hq => by have:=hp1 q hq;omega
      have hx:m.x = x.2:=by
        obtain ⟨h1,-⟩:=h m List.mem_cons_self
        have h2:=Sl.get_of_mem hs h1
        have h3:=Sl.get_of_mem hs (List.mem_cons_self (a:=x) (l:=ks))
        simp only at h2
        rw [e,h3] at h2
        exact (Option.some.inj h2).symm
      have ih:=remK_ents f (ks:=ks) (R:=R) hs.tail hp2 (fun q hq => hin q (List.mem_cons_of_mem _ hq) (hgt q hq)) (fun y hy hn => hk y (List.mem_cons_of_mem _ hy) fun q hq => by
        rcases List.mem_cons.1 hq with rfl | hq
        · have:=hs.head y hy;omega
        · exact hn q hq)
      have h2:=(h m List.mem_cons_self).2
      rw [hx] at h2
      rw [Tr.entsL_append,ih,← h2]
      cases hn:m.n with
      | none => simp [Tr.entsO,Tr.entsL]
      | some t => simp [Tr.entsO,Tr.entsL]
    · rename_i e
      have hlt:x.1 < m.a:=by
        obtain ⟨ht,-⟩:=h m List.mem_cons_self
        rcases List.mem_cons.1 ht with e' | e'
        · exact absurd (by rw [← e']) e
        · exact hs.head _ e'
      have hgt:∀ q∈m :: R,x.1 < q.a:=fun q hq => by
        rcases List.mem_cons.1 hq with rfl | hq
        · exact hlt
        · have:=hp1 q hq;omega
      have ih:=remK_ents f (ks:=ks) (R:=m :: R) hs.tail hp (fun q hq => hin q hq (hgt q hq)) (fun y hy hn => hk y (List.mem_cons_of_mem _ hy) hn)
      rw [Tr.entsL_cons,ih,hk x List.mem_cons_self fun q hq e' => by have:=hgt q hq;omega]
theorem sameM_ents {w:World} {m:Mt} (h:MtOk w k m) (hs:sameM m = true):Tr.entsO m.n = m.x.ents:=nodeO_same h.2.1 (NodeO.some h.1) (of_decide_eq_true hs)
theorem MtsB.rest {w:World} (h:MtsB true lo hi g l pre ks L) (hw:Tr.Wf k (.br g l pre ks)) (hs:Sl.Srt ks) (hok:∀ m∈L,MtOk w k m):Tr.entsL (remK ks (restM L)) = (Tr.entsL ks).filter (kpE true lo hi):=by
  refine remK_ents _ hs (restM_pair (h.pair hs)) (fun m hm => ⟨h.inn (restM_mem hm),(h.bec m (restM_mem hm)).1⟩) fun x hx hn => ?_
  cases hh:Tr.hasB lo hi (.br g l pre ks) x.1 with
  | false => exact List.filter_eq_self.2 fun e he => kp_clear (kid_out hw hx hh e he)
  | true =>
    have hm:x∈L.map fun m => (m.a,m.x):=by rw [h.kids];exact List.mem_filter.2 ⟨hx,hh⟩
    obtain ⟨m,hmL,rfl⟩:=List.mem_map.1 hm
    have hsm:sameM m = true:=by
      cases hsm:sameM m with
      | true => rfl
      | false => exact absurd rfl (hn m (List.mem_filter.2 ⟨hmL,by rw [hsm];rfl⟩))
    have h1:=(h.bec m hmL).1
    rw [sameM_ents (hok m hmL) hsm] at h1
    exact h1.symm
theorem MtsB.clear {w:World} (h:MtsB true lo hi g l pre ks L) (hw:Tr.Wf k (.br g l pre ks)) (hs:Sl.Srt ks) (hok:∀ m∈L,MtOk w k m) {n:Option T} (hn:NowN g l pre ks ((restM L).map mtP) n):Bec true lo hi (some (.br g l pre ks)) n:=by
  have hrem:=remK_upd hs (restM_pair (h.pair hs)) fun m hm => ⟨_,h.inn (restM_mem hm)⟩
  have hre:=h.rest hw hs hok
  rcases hn with ⟨he,rfl⟩ | ⟨hne,hU⟩
  · have hr0:restM L = []:=by simpa using he
    rw [hr0,remK_nil] at hre
    refine ⟨?_,fun _ => rfl⟩
    show (T.br g l pre ks).ents = (T.br g l pre ks).ents.filter _
    rw [Tr.ents_br]
    exact hre
  · rw [← hrem] at hU
    refine ⟨?_,fun hall => ?_⟩
    · rw [hU.ents,hre]
      show _ = (T.br g l pre ks).ents.filter _
      rw [Tr.ents_br]
    · exfalso
      refine hne ?_
      have:restM L = []:=by
        refine List.filter_eq_nil_iff.2 fun m hm => ?_
        have hmn:=(h.bec m hm).2 fun e he => hall e (by
          show e∈(T.br g l pre ks).ents
          rw [Tr.ents_br]
          exact Tr.mem_entsL.2 ⟨_,h.inn hm,he⟩)
        unfold sameM
        rw [hmn]
        simp
      rw [this]
      rfl
theorem MtsB.keep (h:MtsB false lo hi g l pre ks L) (hw:Tr.Wf k (.br g l pre ks)) {n:Option T} (h1:(Tr.entsL (nowK L)).length = (T.br g l pre ks).ents.length→n = some (.br g l pre ks)) (h2:(Tr.entsL (nowK L)).length≠(T.br g l pre ks).ents.length→Tr.UniN l pre (nowK L) n):Bec false lo hi (some (.br g l pre ks)) n:=by
  have hnow:=h.now hw
  have he:Tr.entsO (some (T.br g l pre ks)) = Tr.entsL ks:=Tr.ents_br _ _ _ _
  by_cases hc:(Tr.entsL (nowK L)).length = (T.br g l pre ks).ents.length
  · rw [h1 hc]
    refine ⟨?_,fun _ => rfl⟩
    rw [Tr.ents_br,hnow] at hc
    rw [he]
    exact (List.filter_eq_self.2 (List.length_filter_eq_length_iff.1 hc)).symm
  · refine ⟨?_,fun hall => ?_⟩
    · rw [(h2 hc).ents,hnow,he]
    · exfalso
      refine hc ?_
      rw [hnow,Tr.ents_br,← he,List.filter_eq_self.2 hall]
end
end Go.Proofs.YtkeepngaaleakaaGreatDoor
namespace Go.Proofs.YtkeepngaaleakaaGreatDoor
open Go.ChangeShapes Go.WideShapes Go.ChangeAt Go.RowKit
open Tr (T S4 Ent KL)
def PartE (c:Bool) (k:Nat) (lo hi:List Nat) (o:Option T) (v:Value) (w:World) (e:Ending) (w':World):Prop :=
  ∃ n:Option T,e = .returned (.pointer (rootP n))∧NodeO w' w'.heap.size k n∧Bec c lo hi o n∧Foot (fun b => v.ownBlock = some b) w w'∧Kp k w w'
theorem beyO_br (lo hi:List Nat) (g l:Nat) (pre:List Nat) (ks:KL):beyO lo hi (some (.br g l pre ks)) (-1) = ks.filter fun x => Tr.hasB lo hi (.br g l pre ks) x.1:=by
  unfold beyO
  simp only [mk1,mk2,mk3,ksO,T.ks]
  rw [bey_first]
  rfl
theorem slots_none {L:List Mt} (h:L.map (fun m => (m.a,m.x)) = []):L = []:=by simpa using h
theorem shape_few {w:World} {B k:Nat} {o:Option T} (hN:NodeO w B k o) (hB:B≤w.heap.size) (hk:ksO o = []):Calls Tryz.prog 96 #[.pointer (rootP o)] w fun e w' => ∃ (lev:Int) (A1:Option Addr) (n1 c1:Nat) (A2:Option Addr) (c2:Nat) (d:Bool) (v:Nat),e = .returned (.agg #[.int .i64 lev,.slice A1 n1 c1,.slice A2 0 c2,.bool d,.int .u64 (v:Int)])∧Below w.heap.size w w':=by
  cases o with
  | none =>
    refine (nShape_nil w).mono ?_
    rintro e w' ⟨rfl,hb⟩
    exact ⟨_,_,_,_,_,_,_,_,rfl,hb⟩
  | some t =>
    refine (nShape_c (hN t rfl) hB).mono ?_
    rintro e w' ⟨⟨A1,c1,A2,c2,he,h⟩,hb⟩
    have hk0:(Sl.keys (kidL t.ks)).length = 0:=by
      have:t.ks = []:=hk
      rw [this]
      rfl
    rw [hk0] at he
    exact ⟨_,_,_,_,_,_,_,_,he,hb⟩
set_option maxRecDepth 1000000 in
set_option maxHeartbeats 4000000 in
theorem without_few {w:World} {B k base:Nat} {o:Option T} {v:Value} (hN:NodeO w B k o) (hB:B≤w.heap.size) (hk:ksO o = []) (hrow:RowZ 160 3 MtQ metZ w base v []) :
    Calls Tryz.prog 52 #[.pointer (rootP o),v] w fun e w' => e = .returned (.pointer (rootP o))∧Below w.heap.size w w':=by
  obtain ⟨A,c,rfl,-⟩:=hrow.lstM
  have HD:=Lib.hid (wDelF_all hrow (by simp) (k:=k) (fun _ h => by cases h) (fun _ h => by cases h))
  have HSh:=Lib.hid fun (w1:World) (hb:Below w.heap.size w w1) => shape_few (hN.below hb hB (Nat.le_refl _)) (Nat.le_trans hB hb.size) hk
  obtain ⟨P,hP⟩:∃ P,rootP o = P:=⟨_,rfl⟩
  rw [hP] at HSh ⊢
  have f2:=shape_places
  rw [List.length_nil] at HD ⊢
  clear hN hB hk hrow hP
  go_enter Tryz.func52,Tryz.ntmps52
  go_wp2_with fail
  refine HD.out.mono ?_
  rintro e w1 ⟨rfl,hb1⟩
  have H1:=Lib.hid hb1
  clear hb1 HD
  go_wp2_with fail
  refine (HSh.out w1 H1.out).mono ?_
  rintro e w2 ⟨lev,A1,n1,c1,A2,c2,dd,vv,rfl,hb2⟩
  have H2:=Lib.hid (Below.andThen H1.out hb2)
  clear hb2 HSh
  go_wp2_with fail
  refine wp_loop_rounds 1 ?_
  rw [rounds_succ]
  go_wp2_with fail
  go_ret
  exact ⟨rfl,H2.out⟩
set_option maxRecDepth 1000000 in
set_option maxHeartbeats 4000000 in
theorem with_few {w:World} {B k base:Nat} {o:Option T} {v:Value} (hN:NodeO w B k o) (hB:B≤w.heap.size) (hrow:RowZ 160 3 MtQ metZ w base v []) :
    Calls Tryz.prog 54 #[.pointer (rootP o),v] w fun e w' => e = .returned (.pointer (rootP (if Tr.entsO o = [] then o else none)))∧Below w.heap.size w w':=by
  obtain ⟨A,c,rfl,-⟩:=hrow.lstM
  obtain ⟨N,hNn⟩:∃ N,(Tr.entsO o).length = N:=⟨_,rfl⟩
  have HSn:Hid (Calls Tryz.prog 92 #[.pointer (rootP o)] w fun e w' => ∃ x y z:Int,e = .returned (.agg #[.int .u64 (N:Int),.int .u64 x,.int .u64 y,.int .u64 z])∧Below w.heap.size w w'):=Lib.hid (by
    refine (nSums_o hN hB).mono ?_
    rintro e w' ⟨rfl,hb⟩
    exact ⟨_,_,_,by rw [sumsV,Tr.sums_c,hNn],hb⟩)
  have HJ:Hid (∀ w1:World,Calls Tryz.prog 111 #[.slice none 0 0] w1 fun e w' => e = .returned (.pointer none)∧Below w1.heap.size w1 w'):=Lib.hid fun w1 => by
    refine (wjoined_c (w:=w1) (k:=1) (l:=0) (R:=0) (m:=0) (c0:=[]) (K:=[]) (c:=0) ⟨⟨List.Pairwise.nil,fun _ h => by cases h⟩,fun h => absurd rfl h,fun _ h => by cases h⟩ (Nat.zero_le _) rfl (by omega) (by simp [Tr.entsL])).mono ?_
    rintro e w' ⟨n,rfl,hU,-,hb⟩
    rcases hU with ⟨-,rfl⟩ | ⟨x,e,-⟩ | ⟨e,-⟩
    · exact ⟨rfl,hb⟩
    · cases e
    · simp at e
  have hz:Tr.entsO o = []↔N = 0:=by rw [← hNn];exact List.length_eq_zero_iff.symm
  have HZ:=Lib.hid hz
  obtain ⟨P,hP⟩:∃ P,rootP o = P:=⟨_,rfl⟩
  have hr:rootP (if Tr.entsO o = [] then o else none) = if N = 0 then P else none:=by
    by_cases h:N = 0
    · rw [if_pos h,if_pos (hz.2 h),hP]
    · rw [if_neg h,if_neg (fun e => h (hz.1 e))]
      rfl
  rw [hr]
  rw [hP]
  obtain ⟨R,hR⟩:∃ R,(if N = 0 then P else none) = R:=⟨_,rfl⟩
  rw [hR]
  rw [hP] at HSn
  have HRr:=Lib.hid hR
  have f0:=sums_count
  rw [List.length_nil]
  clear hN hB hrow hP hz hr hNn hR
  go_enter Tryz.func54,Tryz.ntmps54
  go_wp2_with fail
  refine wp_loop_rounds 1 ?_
  rw [rounds_succ]
  go_wp2_with fail
  refine HSn.out.mono ?_
  rintro e w2 ⟨x,y,z,rfl,hb2⟩
  have H2:=Lib.hid hb2
  clear hb2 HSn
  by_cases h0:N = 0
  · subst h0
    have hRP:P = R:=by rw [← HRr.out,if_pos rfl]
    subst hRP
    go_wp2_with fail
    go_ret
    exact ⟨rfl,H2.out⟩
  · have q1:((0:Int) == (N:Int)) = false:=by rw [beq_eq_false_iff_ne];omega
    have q2:((N:Int) == (0:Int)) = false:=by rw [beq_eq_false_iff_ne];omega
    have q3:¬ (0:Int) = (N:Int):=by omega
    have hRN:none = R:=by rw [← HRr.out,if_neg h0]
    subst hRN
    go_wp2_with fail
    refine (HJ.out _).mono ?_
    rintro e w3 ⟨rfl,hb3⟩
    have H3:=Lib.hid (Below.andThen H2.out hb3)
    clear hb3
    go_wp2_with fail
    go_ret
    exact ⟨rfl,H3.out⟩
section
variable {w:World} {B k base:Nat} {lo hi:List Nat} {o:Option T} {v:Value} {L:List Mt}
theorem partE_below {c:Bool} {n:Option T} {w':World} (hN:NodeO w' w'.heap.size k n) (hb:Bec c lo hi o n) (hB:Below w.heap.size w w'):PartE c k lo hi o v w (.returned (.pointer (rootP n))) w' :=
  ⟨n,rfl,hN,hb,Foot.of_below hB,Kp.of_below hB⟩
theorem wpart_clear (hN:NodeO w B k o) (hB:B≤w.heap.size) (hrow:RowZ 160 3 MtQ metZ w base v L) (hok:∀ m∈L,MtOk w k m) (hbec:∀ m∈L,Bec true lo hi (some m.x) m.n) (hkids:L.map (fun m => (m.a,m.x)) = beyO lo hi o (-1)) (hwh:whO lo hi o = false) (hsz:(Tr.entsO o).length≤500000000) :
    Calls Tryz.prog 52 #[.pointer (rootP o),v] w (PartE true k lo hi o v w):=by
  have few:ksO o = []→(hb:Bec true lo hi o o)→Calls Tryz.prog 52 #[.pointer (rootP o),v] w (PartE true k lo hi o v w):=fun hk hb => by
    have hL:L = []:=by
      have h1:beyO lo hi o (-1) = []:=by unfold beyO;rw [hk];rfl
      rw [h1] at hkids
      exact slots_none hkids
    subst hL
    refine (without_few hN hB hk hrow).mono ?_
    rintro e w' ⟨rfl,hb'⟩
    exact partE_below (hN.below hb' hB (Nat.le_trans hB hb'.size)) hb hb'
  cases o with
  | none => exact few rfl (bec_none _ _ _)
  | some t =>
    cases t with
    | ent g p q => exact few rfl (bec_ent hwh true)
    | br g l pre ks =>
      have hn:=hN _ rfl
      have hwf:=hn.1
      obtain ⟨hF2,hF1⟩:=Tr.kids_fit hwf
      have hM:MtsB true lo hi g l pre ks L:=⟨by rw [hkids,beyO_br],hbec⟩
      have hL6:L.length≤65536:=by
        have h1:L.length = (L.map fun m => (m.a,m.x)).length:=by rw [List.length_map]
        rw [h1,hM.kids]
        have hw:Sl.Wf k ks:=by cases hwf with | br _ _ _ _ _ hw => exact hw
        exact Nat.le_trans (List.length_filter_le _ _) hw.len16
      have he:(T.br g l pre ks).ents.length≤500000000:=hsz
      rw [Tr.ents_br] at he
      have hs:=hM.sum
      refine (wwithout_c hn hB hrow hL6 hok (hM.pair hF1) (fun m hm => hM.inn hm) (hM.fit ⟨hF1,hF2⟩ fun m hm t ht => ((hok m hm).2.1 t ht).1) (by omega)).mono ?_
      rintro e w' ⟨n,rfl,h1,h2,h3,h4⟩
      exact ⟨n,rfl,h1,hM.clear hwf hF1 hok h2,h3,h4⟩
theorem wpart_keep (hN:NodeO w B k o) (hB:B≤w.heap.size) (hrow:RowZ 160 3 MtQ metZ w base v L) (hok:∀ m∈L,MtOk w k m) (hbec:∀ m∈L,Bec false lo hi (some m.x) m.n) (hkids:L.map (fun m => (m.a,m.x)) = beyO lo hi o (-1)) (hwh:whO lo hi o = false) (hsz:(Tr.entsO o).length≤500000000) :
    Calls Tryz.prog 54 #[.pointer (rootP o),v] w (PartE false k lo hi o v w):=by
  have few:ksO o = []→(hb:Bec false lo hi o (if Tr.entsO o = [] then o else none))→Calls Tryz.prog 54 #[.pointer (rootP o),v] w (PartE false k lo hi o v w):=fun hk hb => by
    have hL:L = []:=by
      have h1:beyO lo hi o (-1) = []:=by unfold beyO;rw [hk];rfl
      rw [h1] at hkids
      exact slots_none hkids
    subst hL
    refine (with_few hN hB hrow).mono ?_
    rintro e w' ⟨rfl,hb'⟩
    refine partE_below ?_ hb hb'
    split
    · exact hN.below hb' hB (Nat.le_trans hB hb'.size)
    · exact fun _ e => by cases e
  cases o with
  | none => exact few rfl (bec_none _ _ _)
  | some t =>
    cases t with
    | ent g p q =>
      refine few rfl ?_
      have h:=bec_ent (g:=g) (p:=p) (v:=q) hwh false
      rw [if_neg (by simp [Tr.entsO,Tr.T.ents])]
      simpa using h
    | br g l pre ks =>
      have hn:=hN _ rfl
      have hwf:=hn.1
      obtain ⟨hF2,hF1⟩:=Tr.kids_fit hwf
      have hM:MtsB false lo hi g l pre ks L:=⟨by rw [hkids,beyO_br],hbec⟩
      have hL6:L.length≤65536:=by
        have h1:L.length = (L.map fun m => (m.a,m.x)).length:=by rw [List.length_map]
        rw [h1,hM.kids]
        have hw:Sl.Wf k ks:=by cases hwf with | br _ _ _ _ _ hw => exact hw
        exact Nat.le_trans (List.length_filter_le _ _) hw.len16
      have he:(T.br g l pre ks).ents.length≤500000000:=hsz
      rw [Tr.ents_br] at he
      obtain ⟨A,c,rfl,hlst⟩:=hrow.lstM
      have hfit:Tr.FitL k l pre (nowK L):=by
        have hp:=hM.fit ⟨hF1,hF2⟩ fun m hm t ht => ((hok m hm).2.1 t ht).1
        have hpair:=hM.pair hF1
        refine ⟨?_,fun x hx => ?_⟩
        · unfold nowK
          show List.Pairwise _ _
          rw [List.pairwise_filterMap]
          refine hpair.imp fun {m q} hlt y hy z hz => ?_
          obtain ⟨t1,-,rfl⟩:=Option.map_eq_some_iff.1 hy
          obtain ⟨t2,-,rfl⟩:=Option.map_eq_some_iff.1 hz
          exact hlt
        · obtain ⟨m,hm,h1,h2⟩:=nowK_mem.1 hx
          have:=hp (mtP m) (List.mem_map.2 ⟨m,hm,rfl⟩) x.2 h1
          rw [← h2]
          exact this
      refine (wwith_c (c:=c) hn hB hlst (Nat.le_refl _) rfl hL6 (fun m hm => (hok m hm).2.1) hfit (by
        have h1:=hM.now hwf
        rw [h1]
        have:=List.length_filter_le (kpE false lo hi) (Tr.entsL ks)
        omega)).mono ?_
      rintro e w' ⟨n,rfl,h1,h2,h3,h4⟩
      exact partE_below h1 (hM.keep hwf h2 h3) h4
end
/-! ### rows,cut and written -/
section
variable {α:Type} {e:TypeId} {n:Nat} {Q:(Nat→Option Value)→α→Prop} {Z:Nat→Value→Prop} {w:World} {base g len d:Nat} {L:List α}
theorem RowZ.cut (h:RowZ e n Q Z w base (.slice (some ⟨g,0,none⟩) len d) L) (hQ:QOk n Q) (hn:0 < n) (hz:∀ f x,Q f x→∀ j c,j < n→f j = some c→Z j c) {m:Nat} (hm:m≤L.length):RowZ e n Q Z w base (.slice (some ⟨g,0,none⟩) m d) (L.take m):=by
  rcases h with ⟨h1,-⟩ | ⟨g',cap,cur,vs,h1,hg,hh,h2,h3,h4,h5,h6,h7⟩
  · simp at h1
  · simp only [Value.slice.injEq,Option.some.injEq,Addr.mk.injEq,and_true] at h1
    obtain ⟨rfl,-,rfl⟩:=h1
    have hl:(L.take m).length = m:=by rw [List.length_take];omega
    have hmn:m * n≤L.length * n:=Nat.mul_le_mul_right _ hm
    have hget:∀ i,i < L.length * n→vs[i]? = cur[i]?:=fun i hi => by
      rw [← h5,List.getElem?_take,if_pos hi]
      simp
    refine .inr ⟨g,d,cur,cur.toList.take (m * n),by rw [hl],hg,hh,by omega,h3,h4,by rw [hl],⟨?_,fun i x hx => ?_⟩,fun i c hi hc => ?_⟩
    · have hlc:cur.toList.length = d * n:=by rw [← h4];simp
      rw [hl,List.length_take,hlc]
      have:L.length * n≤d * n:=Nat.mul_le_mul_right _ h2
      omega
    · have hi:i < m:=by have:=(List.getElem?_eq_some_iff.1 hx).1;omega
      rw [List.getElem?_take,if_pos hi] at hx
      refine hQ.ext _ _ _ (fun j hj => ?_) (h6.2 i x hx)
      have hij:i * n + j < m * n:=idx_lt hi hj
      rw [hget _ (by omega),List.getElem?_take,if_pos hij]
      simp
    · rcases Nat.lt_or_ge i (L.length * n) with c1 | c1
      · have hd:i / n < L.length:=Nat.div_lt_of_lt_mul (by rw [Nat.mul_comm];exact c1)
        obtain ⟨x,hx⟩:=get_lt hd
        have e1:i / n * n + i % n = i:=by rw [Nat.mul_comm];exact Nat.div_add_mod i n
        refine hz _ x (h6.2 _ x hx) (i % n) c (Nat.mod_lt _ hn) ?_
        show vs[i / n * n + i % n]? = _
        rw [e1,hget i c1]
        exact hc
      · exact h7 i c c1 hc
theorem idx_eq {n q i p j:Nat} (hp:p < n) (hj:j < n) (h:q * n + p = i * n + j):q = i∧p = j:=by
  have hn:0 < n:=by omega
  have h1:(q * n + p) / n = q:=by rw [Nat.add_comm,Nat.add_mul_div_right _ _ hn,Nat.div_eq_of_lt hp,Nat.zero_add]
  have h2:(i * n + j) / n = i:=by rw [Nat.add_comm,Nat.add_mul_div_right _ _ hn,Nat.div_eq_of_lt hj,Nat.zero_add]
  have hq:q = i:=by rw [← h1,← h2,h]
  subst hq
  exact ⟨rfl,by omega⟩
theorem RowZ.setj {i j:Nat} {y:α} {u:Value} (h:RowZ e n Q Z w base (.slice (some ⟨g,0,none⟩) len d) L) (hQ:QOk n Q) (hi:i < L.length) (hj:j < n) (hx:∀ f x,L[i]? = some x→Q f x→Q (fun p => if p = j then some u else f p) y) :
    RowZ e n Q Z (w.setCell ⟨g,i * n + j,none⟩ u) base (.slice (some ⟨g,0,none⟩) len d) (L.set i y):=by
  rcases h with ⟨h1,-⟩ | ⟨g',cap,cur,vs,h1,hg,hh,h2,h3,h4,h5,h6,h7⟩
  · simp at h1
  · simp only [Value.slice.injEq,Option.some.injEq,Addr.mk.injEq,and_true] at h1
    obtain ⟨rfl,rfl,rfl⟩:=h1
    have hij:i * n + j < L.length * n:=idx_lt hi hj
    have hLn:L.length * n≤d * n:=Nat.mul_le_mul_right _ h2
    have e1:=heap_setCell_same w g (i * n + j) cur e u hh
    have hget:∀ p,p < L.length * n→vs[p]? = cur[p]?:=fun p hp => by
      rw [← h5,List.getElem?_take,if_pos hp]
      simp
    refine .inr ⟨g,d,_,(cur.setIfInBounds (i * n + j) u).toList.take (L.length * n),by rw [List.length_set],hg,e1,by rw [List.length_set];exact h2,h3,by rw [Array.size_setIfInBounds];exact h4,by rw [List.length_set],⟨?_,fun q x hq => ?_⟩,fun p c hp hc => ?_⟩
    · rw [List.length_set,List.length_take,Array.length_toList (xs:=cur.setIfInBounds (i * n + j) u),Array.size_setIfInBounds,h4]
      omega
    · have hql:q < L.length:=by have:=(List.getElem?_eq_some_iff.1 hq).1;rwa [List.length_set] at this
      by_cases hqi:q = i
      · subst hqi
        rw [List.getElem?_set_self hql] at hq
        cases hq
        obtain ⟨x0,hx0⟩:=get_lt hql
        refine hQ.ext _ _ _ (fun p hp => ?_) (hx _ x0 hx0 (h6.2 q x0 hx0))
        have hqp:q * n + p < L.length * n:=idx_lt hql hp
        rw [List.getElem?_take,if_pos hqp,Array.getElem?_toList (xs:=cur.setIfInBounds (q * n + j) u),Array.getElem?_setIfInBounds]
        split
        · rename_i e
          subst e
          rw [if_pos rfl,if_pos (by omega)]
        · rename_i e
          rw [if_neg (by omega)]
          exact hget _ hqp
      · rw [List.getElem?_set_ne (fun e => hqi e.symm)] at hq
        refine hQ.ext _ _ _ (fun p hp => ?_) (h6.2 q x hq)
        have hqp:q * n + p < L.length * n:=idx_lt hql hp
        rw [List.getElem?_take,if_pos hqp,Array.getElem?_toList (xs:=cur.setIfInBounds (i * n + j) u),Array.getElem?_setIfInBounds,if_neg (fun e => hqi (idx_eq hp hj e.symm).1)]
        exact hget _ hqp
    · rw [List.length_set] at hp
      rw [Array.getElem?_setIfInBounds,if_neg (by omega)] at hc
      exact h7 p c hp hc
end
/-! ### the guide's stack -/
structure PFr where
  f:WFr
  L:List Mt
theorem frQ_nu (lo hi:List Nat) (f:Nat→Option Value) (x:WFr) (h:FrQ lo hi f x) (j:Nat) (c:Value) (hj:j < 7) (hc:f j = some c):NU c:=by
  obtain ⟨h0,h1,h2,h3,h4,h5,h6⟩:=h
  match j,hj with
  | 0,_ => rw [h0] at hc;cases hc;exact nu_ptr _
  | 1,_ => rw [h1] at hc;cases hc;exact nu_int _
  | 2,_ => rw [h2] at hc;cases hc;exact nu_int _
  | 3,_ => rw [h3] at hc;cases hc;exact nu_int _
  | 4,_ => rw [h4] at hc;cases hc;exact nu_int _
  | 5,_ => rw [h5] at hc;cases hc;exact nu_ptr _
  | 6,_ => rw [h6] at hc;cases hc;exact nu_slice _ _ _
abbrev StkP (lo hi:List Nat) (w:World) (base:Nat) (v:Value) (S:List PFr):=RowZ 226 7 (FrQ lo hi) (fun _ c => NU c) w base v (S.map (·.f)).reverse
abbrev mtX (m:Mt):Nat × T:=(m.a,m.x)
structure ThrP (B k:Nat) (c:Bool) (lo hi:List Nat) (gc:Array Value) (w:World) (S:List PFr) (D:Option Addr) (d:Nat) (w':World):Prop where
  bel:Below w.heap.size w w'
  box:w'.heap[w.heap.size]? = some (.cells gc 85 (0,0))
  fr:∀ x∈S,NodeO w B k x.f.o∧(-1≤x.f.a∧x.f.a≤65536)∧whO lo hi x.f.o = false∧(Tr.entsO x.f.o).length≤500000000
  stk:StkP lo hi w' (w.heap.size + 1) (.slice D S.length d) S
  rows:∀ x∈S,x.L.length = x.f.m∧RowZ 160 3 MtQ metZ w' (w.heap.size + 1) (.slice x.f.A x.f.m x.f.c) x.L
  mts:∀ x∈S,∀ m∈x.L,MtOk w' k m∧Bec c lo hi (some m.x) m.n
  dis:S.Pairwise fun x y => ∀ q,x.f.own = some q→y.f.own≠some q
  sep:∀ x∈S,∀ q,x.f.own = some q→D.map (·.block)≠some q
  lev:Lev (S.map (·.f))
def DoneP (lo hi:List Nat) (x:PFr):Prop:=x.L.map mtX ++ beyO lo hi x.f.o x.f.a = beyO lo hi x.f.o (-1)
def PendP (lo hi:List Nat) (u:Option T) (x:PFr):Prop:=∃ (i:Nat) (t:T),u = some t∧x.f.a = (i:Int)∧x.f.p = some ⟨t.blk,0,none⟩∧x.L.map mtX ++ (i,t) :: beyO lo hi x.f.o x.f.a = beyO lo hi x.f.o (-1)
def PendL (lo hi:List Nat) (o0:Option T):Option T→List PFr→Prop
  | u,[] => u = o0
  | u,x :: S => PendP lo hi u x∧PendL lo hi o0 x.f.o S
section
variable {B k:Nat} {c:Bool} {lo hi:List Nat} {gc:Array Value} {w:World} {S:List PFr} {D:Option Addr} {d:Nat} {w1 w2:World}
theorem ThrP.lt (s:ThrP B k c lo hi gc w S D d w1):w.heap.size < w1.heap.size:=(Array.getElem?_eq_some_iff.1 s.box).1
theorem ThrP.mv (s:ThrP B k c lo hi gc w S D d w1) (hs:w1.heap.size≤w2.heap.size) (hk:Kp k w1 w2):∀ x∈S,∀ m∈x.L,MtOk w2 k m∧Bec c lo hi (some m.x) m.n:=fun x hx m hm => ⟨(s.mts x hx m hm).1.kp hk hs,(s.mts x hx m hm).2⟩
theorem ThrP.below (s:ThrP B k c lo hi gc w S D d w1) (hb:Below w1.heap.size w1 w2):ThrP B k c lo hi gc w S D d w2 :=
  ⟨Below.andThen s.bel hb,(hb.block _ s.lt).trans s.box,s.fr,s.stk.below hb (Nat.le_refl _),fun x hx => ⟨(s.rows x hx).1,(s.rows x hx).2.below hb (Nat.le_refl _)⟩,s.mv hb.size (Kp.of_below hb),s.dis,s.sep,s.lev⟩
theorem own_P (A:Option Addr) (n c:Nat):(Value.slice A n c).ownBlock = A.map (·.block):=by cases A <;> rfl
theorem PFr.rowlt {x:PFr} {base:Nat} (h:RowZ 160 3 MtQ metZ w1 base (.slice x.f.A x.f.m x.f.c) x.L):∀ q,x.f.own = some q→base≤q∧q < w1.heap.size:=fun q hq => h.lt q (by rw [own_P];exact hq)
theorem ThrP.Dlt (s:ThrP B k c lo hi gc w S D d w1):∀ q,D.map (·.block) = some q→w.heap.size + 1≤q∧q < w1.heap.size:=fun q hq => s.stk.lt q (by rw [own_P];exact hq)
theorem ThrP.push {o:Option T} (s:ThrP B k c lo hi gc w S D d w1) (hn:NodeO w B k o) (hw:whO lo hi o = false) (hsz:(Tr.entsO o).length≤500000000) (hl:lvO o + (S.length + 1)≤65) {ob:Obj} {D2:Option Addr} {d2:Nat}
    (hown:RowZ 226 7 (FrQ lo hi) (fun _ c => NU c) w2 (w.heap.size + 1) (.slice D2 (S.length + 1) d2) ((S.map (·.f)).reverse ++ [⟨o,-1,none,none,0,0⟩])) (hgr:(w1.alloc ob).grownBy w2 (D.map (·.block)))
    (hat:D2.map (·.block) = D.map (·.block)∨D2.map (·.block) = some (w1.heap.size + 1)):ThrP B k c lo hi gc w (⟨⟨o,-1,none,none,0,0⟩,[]⟩ :: S) D2 d2 w2:=by
  have hlt:=s.lt
  have hblk:∀ b,b < w1.heap.size→D.map (·.block)≠some b→w2.heap[b]? = w1.heap[b]?:=fun b hb hne => by
    rw [hgr.block b (by simp;omega) (fun e => hne e.symm),Below.heap_alloc _ _ _ (by omega)]
  have hsz2:w1.heap.size≤w2.heap.size:=Nat.le_trans (by simp) hgr.size
  have hDlt:=s.Dlt
  have hkp:Kp k w1 w2:=(Kp.of_below (below_alloc w1 ob)).trans ((s.stk.below (below_alloc w1 ob) (Nat.le_refl _)).keeps (by omega) (frQ_nu lo hi) (fun _ _ h => h) (by decide) (by rw [own_P];exact hgr)) (by simp)
  refine ⟨⟨hgr.os.trans s.bel.os,hgr.tape.trans s.bel.tape,hgr.output.trans s.bel.output,Nat.le_trans s.bel.size hsz2,fun b hb => ?_⟩,?_,fun x hx => ?_,?_,fun x hx => ?_,fun x hx m hm => ?_,?_,fun x hx q hq => ?_,⟨by simpa using hl,s.lev⟩⟩
  · rw [hblk b (by omega) (fun e => by have:=hDlt _ e;omega)]
    exact s.bel.block b hb
  · rw [hblk _ hlt (fun e => by have:=hDlt _ e;omega)]
    exact s.box
  · rcases List.mem_cons.1 hx with rfl | hx
    · exact ⟨hn,⟨by show (-1:Int)≤-1;omega,by show (-1:Int)≤65536;omega⟩,hw,hsz⟩
    · exact s.fr x hx
  · show RowZ _ _ _ _ _ _ _ _
    rw [List.map_cons,List.reverse_cons]
    exact hown
  · rcases List.mem_cons.1 hx with rfl | hx
    · exact ⟨rfl,rowZ_nil _ _ _⟩
    · exact ⟨(s.rows x hx).1,(s.rows x hx).2.block fun q hq => by
        rw [own_P] at hq
        exact hblk q (PFr.rowlt (s.rows x hx).2 q hq).2 (s.sep x hx q hq)⟩
  · rcases List.mem_cons.1 hx with rfl | hx
    · cases hm
    · exact s.mv hsz2 hkp x hx m hm
  · refine List.pairwise_cons.2 ⟨fun y _ q hq => ?_,s.dis⟩
    cases hq
  · rcases List.mem_cons.1 hx with rfl | hx
    · cases hq
    · intro e
      rcases hat with c | c
      · exact s.sep x hx q hq (by rw [← c];exact e)
      · rw [c] at e
        cases e
        have:=(PFr.rowlt (s.rows x hx).2 _ hq).2
        omega
theorem ThrP.top {x:PFr} (s:ThrP B k c lo hi gc w (x :: S) D d w1):∃ q cs,D = some ⟨q,0,none⟩∧w.heap.size + 1≤q∧q < w1.heap.size∧S.length + 1≤d∧w1.heap[q]? = some (.cells cs 226 (0,0))∧FrQ lo hi (fun j => cs[S.length * 7 + j]?) x.f:=by
  have hg:((x :: S).map (·.f)).reverse[S.length]? = some x.f:=by rw [List.map_cons,List.reverse_cons,List.getElem?_append_right (by simp)];simp
  obtain ⟨q,d',cur,hv,hge,hlt,hh,hQ⟩:=RowZ.at (frQ_ok lo hi) s.stk hg
  obtain ⟨D',d2,he,hd⟩:=RowZ.slice s.stk
  simp only [Value.slice.injEq] at hv he
  obtain ⟨rfl,-,-⟩:=hv
  refine ⟨q,cur,rfl,hge,hlt,?_,hh,hQ⟩
  rw [he.2.2]
  simpa using hd
theorem ThrP.row {o:Option T} {a a':Int} {p p' A:Option Addr} {m cc q:Nat} {L:List Mt} {cs:Array Value} (s:ThrP B k c lo hi gc w (⟨⟨o,a,p,A,m,cc⟩,L⟩ :: S) (some ⟨q,0,none⟩) d w1)
    (hcs:w1.heap[q]? = some (.cells cs 226 (0,0))) (hq2:w2.heap[q]? = some (.cells (stepTo cs (S.length * 7) a' p') 226 (0,0))) :
    StkP lo hi w2 (w.heap.size + 1) (.slice (some ⟨q,0,none⟩) (S.length + 1) d) (⟨⟨o,a',p',A,m,cc⟩,L⟩ :: S):=by
  have hset:RowZ 226 7 (FrQ lo hi) (fun _ c => NU c) ((w1.setCell ⟨q,S.length * 7 + 4,none⟩ (.int .i64 a')).setCell ⟨q,S.length * 7 + 5,none⟩ (.pointer p')) (w.heap.size + 1) (.slice (some ⟨q,0,none⟩) (S.length + 1) d) ((S.map (·.f)).reverse ++ [⟨o,a',p',A,m,cc⟩]):=by
    have h0:=s.stk
    unfold StkP at h0
    rw [List.map_cons,List.reverse_cons] at h0
    have r1:=RowZ.setj (i:=S.length) (j:=4) (y:=(⟨o,a',p,A,m,cc⟩:WFr)) (u:=.int .i64 a') h0 (frQ_ok lo hi) (by simp) (by omega) (by
      intro f y hy hf
      rw [List.getElem?_append_right (by simp)] at hy
      simp at hy
      subst hy
      exact ⟨hf.1,hf.2.1,hf.2.2.1,hf.2.2.2.1,rfl,hf.2.2.2.2.2.1,hf.2.2.2.2.2.2⟩)
    rw [show ((S.map (·.f)).reverse ++ [(⟨o,a,p,A,m,cc⟩:WFr)]).set S.length (⟨o,a',p,A,m,cc⟩:WFr) = (S.map (·.f)).reverse ++ [⟨o,a',p,A,m,cc⟩] by
      rw [List.set_append_right _ _ (by simp)]
      simp] at r1
    have r2:=RowZ.setj (i:=S.length) (j:=5) (y:=(⟨o,a',p',A,m,cc⟩:WFr)) (u:=.pointer p') r1 (frQ_ok lo hi) (by simp) (by omega) (by
      intro f y hy hf
      rw [List.getElem?_append_right (by simp)] at hy
      simp at hy
      subst hy
      exact ⟨hf.1,hf.2.1,hf.2.2.1,hf.2.2.2.1,hf.2.2.2.2.1,rfl,hf.2.2.2.2.2.2⟩)
    rw [show ((S.map (·.f)).reverse ++ [(⟨o,a',p,A,m,cc⟩:WFr)]).set S.length (⟨o,a',p',A,m,cc⟩:WFr) = (S.map (·.f)).reverse ++ [⟨o,a',p',A,m,cc⟩] by
      rw [List.set_append_right _ _ (by simp)]
      simp] at r2
    exact r2
  have hsame:w2.heap[q]? = ((w1.setCell ⟨q,S.length * 7 + 4,none⟩ (.int .i64 a')).setCell ⟨q,S.length * 7 + 5,none⟩ (.pointer p')).heap[q]?:=by
    rw [hq2,block_set (block_set hcs _) _]
    rfl
  show RowZ _ _ _ _ _ _ _ _
  rw [List.map_cons,List.reverse_cons]
  refine hset.block fun r hr => ?_
  rw [own_P] at hr
  simp only [Option.map_some,Option.some.injEq] at hr
  subst hr
  exact hsame
theorem ThrP.keepq {q:Nat} (s:ThrP B k c lo hi gc w S (some ⟨q,0,none⟩) d w1) (hf:Foot (fun b => b = q) w1 w2):Kp k w1 w2 :=
  s.stk.keeps (by omega) (frQ_nu lo hi) (fun _ _ h => h) (by decide) (by rw [own_P];exact ⟨hf.os,hf.tape,hf.output,hf.size,fun b hb hn => hf.block b hb (fun e => hn (by rw [e];rfl))⟩)
theorem ThrP.on {o:Option T} {a a':Int} {p p' A:Option Addr} {m cc q:Nat} {L:List Mt} {cs:Array Value} (s:ThrP B k c lo hi gc w (⟨⟨o,a,p,A,m,cc⟩,L⟩ :: S) (some ⟨q,0,none⟩) d w1)
    (hcs:w1.heap[q]? = some (.cells cs 226 (0,0))) (hq2:w2.heap[q]? = some (.cells (stepTo cs (S.length * 7) a' p') 226 (0,0))) (hf:Foot (fun b => b = q) w1 w2) (ha1:-1≤a') (ha2:a'≤65536) :
    ThrP B k c lo hi gc w (⟨⟨o,a',p',A,m,cc⟩,L⟩ :: S) (some ⟨q,0,none⟩) d w2:=by
  have hlt:=s.lt
  have hqlt:=s.Dlt q rfl
  have hall:∀ x∈(⟨⟨o,a',p',A,m,cc⟩,L⟩:PFr) :: S,∃ y∈(⟨⟨o,a,p,A,m,cc⟩,L⟩:PFr) :: S,x.f.own = y.f.own∧x.f.A = y.f.A∧x.f.m = y.f.m∧x.f.c = y.f.c∧x.f.o = y.f.o∧x.L = y.L:=fun x hx => by
    rcases List.mem_cons.1 hx with rfl | hx
    · exact ⟨_,List.mem_cons_self,rfl,rfl,rfl,rfl,rfl,rfl⟩
    · exact ⟨x,List.mem_cons_of_mem _ hx,rfl,rfl,rfl,rfl,rfl,rfl⟩
  refine ⟨s.bel.trans (hf.below s.bel.size fun b hb => by omega),?_,fun x hx => ?_,s.row hcs hq2,fun x hx => ?_,fun x hx mm hm => ?_,?_,fun x hx r hr => ?_,s.lev⟩
  · rw [hf.block _ hlt (by omega)]
    exact s.box
  · rcases List.mem_cons.1 hx with rfl | hx
    · obtain ⟨h1,-,h3⟩:=s.fr _ List.mem_cons_self
      exact ⟨h1,⟨ha1,ha2⟩,h3⟩
    · exact s.fr x (List.mem_cons_of_mem _ hx)
  · obtain ⟨y,hy,ey,eA,em,ec,-,eL⟩:=hall x hx
    have hr:=s.rows y hy
    have hne:∀ r,y.f.own = some r→r≠q:=fun r hr e => s.sep y hy r hr (by rw [e];rfl)
    have h2:=hr.2.block (w':=w2) fun r h2 => by
      rw [own_P] at h2
      exact hf.block r (PFr.rowlt hr.2 r h2).2 (hne r h2)
    rw [eA,em,ec,eL]
    exact ⟨hr.1,h2⟩
  · obtain ⟨y,hy,-,-,-,-,-,eL⟩:=hall x hx
    exact s.mv hf.size (s.keepq hf) y hy mm (eL ▸ hm)
  · exact List.pairwise_cons.2 ⟨(List.pairwise_cons.1 s.dis).1,(List.pairwise_cons.1 s.dis).2⟩
  · obtain ⟨y,hy,ey,-⟩:=hall x hx
    exact s.sep y hy r (ey ▸ hr)
theorem ThrP.pop {x:PFr} {q:Nat} (s:ThrP B k c lo hi gc w (x :: S) (some ⟨q,0,none⟩) d w1):ThrP B k c lo hi gc w S (some ⟨q,0,none⟩) d w1:=by
  refine ⟨s.bel,s.box,fun y hy => s.fr y (List.mem_cons_of_mem _ hy),?_,fun y hy => s.rows y (List.mem_cons_of_mem _ hy),fun y hy => s.mts y (List.mem_cons_of_mem _ hy),(List.pairwise_cons.1 s.dis).2,fun y hy => s.sep y (List.mem_cons_of_mem _ hy),s.lev.2⟩
  have h0:=s.stk
  unfold StkP at h0
  rw [List.map_cons,List.reverse_cons] at h0
  have h7:=RowZ.cut h0 (frQ_ok lo hi) (by omega) (fun f x h => frQ_nu lo hi f x h) (m:=S.length) (by simp)
  rw [List.take_append_of_le_length (by simp),List.take_of_length_le (by simp)] at h7
  exact h7
theorem ThrP.part {x:PFr} {q:Nat} (s:ThrP B k c lo hi gc w (x :: S) (some ⟨q,0,none⟩) d w1) (hf:Foot (fun b => x.f.own = some b) w1 w2) (hk:Kp k w1 w2):ThrP B k c lo hi gc w S (some ⟨q,0,none⟩) d w2:=by
  have hlt:=s.lt
  have hx:=s.rows x List.mem_cons_self
  have hAlt:∀ r,x.f.own = some r→w.heap.size + 1≤r∧r < w1.heap.size:=PFr.rowlt hx.2
  have s1:=s.pop
  refine ⟨s1.bel.trans (hf.below s1.bel.size fun b hb => by have:=hAlt b hb;omega),?_,s1.fr,s1.stk.block fun r hr => ?_,fun y hy => ⟨(s1.rows y hy).1,(s1.rows y hy).2.block fun r hr => ?_⟩,s1.mv hf.size hk,s1.dis,s1.sep,s1.lev⟩
  · rw [hf.block _ hlt (fun e => by have:=hAlt _ e;omega)]
    exact s1.box
  · have hr':=s1.stk.lt r hr
    rw [own_P] at hr
    exact hf.block r hr'.2 fun e => s.sep x List.mem_cons_self r e hr
  · have hr':=(s1.rows y hy).2.lt r hr
    rw [own_P] at hr
    exact hf.block r hr'.2 fun e => (List.pairwise_cons.1 s.dis).1 y hy r e hr
theorem ThrP.app {o:Option T} {a:Int} {p A A2:Option Addr} {m cc c2 q:Nat} {L:List Mt} {y:Mt} (s:ThrP B k c lo hi gc w (⟨⟨o,a,p,A,m,cc⟩,L⟩ :: S) (some ⟨q,0,none⟩) d w1) {ob:Obj} (hy:MtOk w1 k y) (hbc:Bec c lo hi (some y.x) y.n)
    (hown:RowZ 160 3 MtQ metZ w2 (w.heap.size + 1) (.slice A2 (m + 1) c2) (L ++ [y])) (hgr:(w1.alloc ob).grownBy w2 (A.map (·.block))) (hat:A2.map (·.block) = A.map (·.block)∨A2.map (·.block) = some (w1.heap.size + 1)) :
    ThrP B k c lo hi gc w (⟨⟨o,a,p,A2,m + 1,c2⟩,L ++ [y]⟩ :: S) (some ⟨q,0,none⟩) d (w2.setCell ⟨q,S.length * 7 + 6,none⟩ (.slice A2 (m + 1) c2)):=by
  have hlt:=s.lt
  have hqlt:=s.Dlt q rfl
  have hrx:=s.rows _ List.mem_cons_self
  have hsz:w1.heap.size≤w2.heap.size:=Nat.le_trans (by simp) hgr.size
  have hAlt:∀ r,A.map (·.block) = some r→w.heap.size + 1≤r∧r < w1.heap.size:=PFr.rowlt hrx.2
  have hAq:A.map (·.block)≠some q:=fun e => s.sep _ List.mem_cons_self q e rfl
  have hblk:∀ b,b < w1.heap.size→A.map (·.block)≠some b→w2.heap[b]? = w1.heap[b]?:=fun b hb hne => by
    rw [hgr.block b (by simp;omega) (fun e => hne e.symm),Below.heap_alloc _ _ _ (by omega)]
  have hblk2:∀ b,b < w1.heap.size→A.map (·.block)≠some b→b≠q→(w2.setCell ⟨q,S.length * 7 + 6,none⟩ (.slice A2 (m + 1) c2)).heap[b]? = w1.heap[b]?:=fun b hb hne hq => by
    rw [Below.heap_setCell _ _ _ _ (by simpa using hq)]
    exact hblk b hb hne
  have hA2q:A2.map (·.block)≠some q:=by
    rcases hat with e | e
    · rw [e];exact hAq
    · rw [e];simp only [ne_eq,Option.some.injEq];omega
  have h0:StkP lo hi w2 (w.heap.size + 1) (.slice (some ⟨q,0,none⟩) (S.length + 1) d) (⟨⟨o,a,p,A,m,cc⟩,L⟩ :: S):=s.stk.block fun r hr => by
    rw [own_P] at hr
    simp only [Option.map_some,Option.some.injEq] at hr
    subst hr
    exact hblk _ hqlt.2 hAq
  have hstk:StkP lo hi (w2.setCell ⟨q,S.length * 7 + 6,none⟩ (.slice A2 (m + 1) c2)) (w.heap.size + 1) (.slice (some ⟨q,0,none⟩) (S.length + 1) d) (⟨⟨o,a,p,A2,m + 1,c2⟩,L ++ [y]⟩ :: S):=by
    unfold StkP at h0 ⊢
    rw [List.map_cons,List.reverse_cons] at h0 ⊢
    have r1:=RowZ.setj (i:=S.length) (j:=6) (y:=(⟨o,a,p,A2,m + 1,c2⟩:WFr)) (u:=.slice A2 (m + 1) c2) h0 (frQ_ok lo hi) (by simp) (by omega) (by
      intro f y hy hf
      rw [List.getElem?_append_right (by simp)] at hy
      simp at hy
      subst hy
      exact ⟨hf.1,hf.2.1,hf.2.2.1,hf.2.2.2.1,hf.2.2.2.2.1,hf.2.2.2.2.2.1,rfl⟩)
    rw [show ((S.map (·.f)).reverse ++ [(⟨o,a,p,A,m,cc⟩:WFr)]).set S.length (⟨o,a,p,A2,m + 1,c2⟩:WFr) = (S.map (·.f)).reverse ++ [⟨o,a,p,A2,m + 1,c2⟩] by
      rw [List.set_append_right _ _ (by simp)]
      simp] at r1
    exact r1
  have hk1:Kp k w1 w2:=(Kp.of_below (below_alloc w1 ob)).trans ((hrx.2.below (below_alloc w1 ob) (Nat.le_refl _)).met_keeps (by decide) (by rw [own_P];exact hgr)) (by simp)
  have hk2:Kp k w2 (w2.setCell ⟨q,S.length * 7 + 6,none⟩ (.slice A2 (m + 1) c2)):=h0.keeps (by omega) (frQ_nu lo hi) (fun _ _ h => h) (by decide) (by rw [own_P];exact ⟨rfl,rfl,rfl,by simp,fun b _ hn => Below.heap_setCell _ _ _ _ (fun e => hn (by simp [e]))⟩)
  have hk:=hk1.trans hk2 hsz
  refine ⟨⟨hgr.os.trans s.bel.os,hgr.tape.trans s.bel.tape,hgr.output.trans s.bel.output,by simpa using Nat.le_trans s.bel.size hsz,fun b hb => ?_⟩,?_,fun x hx => ?_,hstk,fun x hx => ?_,fun x hx mm hm => ?_,?_,fun x hx r hr => ?_,s.lev⟩
  · rw [hblk2 b (by omega) (fun e => by have:=hAlt _ e;omega) (by omega)]
    exact s.bel.block b hb
  · rw [hblk2 _ hlt (fun e => by have:=hAlt _ e;omega) (by omega)]
    exact s.box
  · rcases List.mem_cons.1 hx with rfl | hx
    · exact s.fr ⟨⟨o,a,p,A,m,cc⟩,L⟩ List.mem_cons_self
    · exact s.fr x (List.mem_cons_of_mem _ hx)
  · rcases List.mem_cons.1 hx with rfl | hx
    · refine ⟨by rw [List.length_append,hrx.1];rfl,hown.block fun r hr => ?_⟩
      rw [own_P] at hr
      exact Below.heap_setCell _ _ _ _ (fun e => hA2q (by rw [hr,e]))
    · refine ⟨(s.rows x (List.mem_cons_of_mem _ hx)).1,(s.rows x (List.mem_cons_of_mem _ hx)).2.block fun r hr => ?_⟩
      rw [own_P] at hr
      refine hblk2 r (PFr.rowlt (s.rows x (List.mem_cons_of_mem _ hx)).2 r hr).2 (fun e => ?_) (fun e => ?_)
      · exact (List.pairwise_cons.1 s.dis).1 x hx r e hr
      · exact s.sep x (List.mem_cons_of_mem _ hx) r hr (by rw [e];rfl)
  · have hs2:w1.heap.size≤(w2.setCell ⟨q,S.length * 7 + 6,none⟩ (.slice A2 (m + 1) c2)).heap.size:=by simpa using hsz
    rcases List.mem_cons.1 hx with rfl | hx
    · rcases List.mem_append.1 hm with hm | hm
      · exact s.mv hs2 hk _ List.mem_cons_self mm hm
      · rw [List.mem_singleton.1 hm]
        exact ⟨hy.kp hk hs2,hbc⟩
    · exact s.mv hs2 hk x (List.mem_cons_of_mem _ hx) mm hm
  · refine List.pairwise_cons.2 ⟨fun y hy r hr hy2 => ?_,(List.pairwise_cons.1 s.dis).2⟩
    have hr:A2.map (·.block) = some r:=hr
    rcases hat with e | e
    · rw [e] at hr
      exact (List.pairwise_cons.1 s.dis).1 y hy r hr hy2
    · rw [e] at hr
      cases hr
      have:=(PFr.rowlt (s.rows y (List.mem_cons_of_mem _ hy)).2 _ hy2).2
      omega
  · rcases List.mem_cons.1 hx with rfl | hx
    · intro e
      have hr:A2.map (·.block) = some r:=hr
      rw [hr] at hA2q
      exact hA2q e.symm
    · exact s.sep x (List.mem_cons_of_mem _ hx) r hr
end
end Go.Proofs.YtkeepngaaleakaaGreatDoor
