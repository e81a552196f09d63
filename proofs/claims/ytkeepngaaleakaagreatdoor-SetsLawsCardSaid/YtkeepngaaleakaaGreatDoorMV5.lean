import Derived.Test.YtkeepngaaleakaaGreatDoorMV3
namespace Go.Proofs.YtkeepngaaleakaaGreatDoor
open Go.ChangeShapes Go.WideShapes Go.ChangeAt Go.RowKit
open Tr (T S4 Ent Tri)
/-! ### merge -/
/-! ### with -/
theorem fit_one {k l:Nat} {c0:List Nat} {K:Tr.KL} (hF:Tr.FitL k l c0 K) {a:Nat} {m:T} (hw:Tr.Wf k m) (hfm:m.lv≤l∧Z.cut m.pre (l + 1) = c0∧Z.addr m.pre l = a):Tr.FitL k l c0 (Sl.put a m K) :=
  ⟨Sl.srt_put _ _ hF.1,fun x hx => (Sl.mem_put hx).elim (fun e => by rw [e];exact ⟨hw,hfm⟩) (hF.2 x)⟩
end Go.Proofs.YtkeepngaaleakaaGreatDoor
namespace Go.Proofs.YtkeepngaaleakaaGreatDoor
open Go.ChangeShapes Go.WideShapes Go.ChangeAt Go.RowKit
open Tr (T S4 Ent Tri KL)
def app1 (K:KL) (p:Pl):KL:=match p.m with
  | none => Sl.del p.a K
  | some m => Sl.put p.a m K
def appL (K:KL) (L:List Pl):KL:=L.foldl app1 K
def Ris (L:List Pl):Prop:=L.Pairwise fun p q => p.a < q.a
theorem appL_cons (K:KL) (p:Pl) (L:List Pl):appL K (p :: L) = appL (app1 K p) L:=rfl
theorem appL_snoc (K:KL) (p:Pl) (L:List Pl):appL K (L ++ [p]) = app1 (appL K L) p:=by simp [appL]
theorem srt_app1 {K:KL} (h:Sl.Srt K) (p:Pl):Sl.Srt (app1 K p):=by
  unfold app1
  split
  · exact Sl.srt_del _ h
  · exact Sl.srt_put _ _ h
theorem get_app1 {K:KL} (h:Sl.Srt K) (p:Pl) (a:Nat):Sl.get (app1 K p) (a:Int) = if a = p.a then p.m else Sl.get K (a:Int):=by
  unfold app1
  cases hm:p.m with
  | none =>
    simp only
    rw [Sl.get_del h]
    by_cases e:a = p.a
    · rw [if_pos (by omega),if_pos e]
    · rw [if_neg (by omega),if_neg e]
  | some m =>
    simp only
    rw [Sl.get_put h]
    by_cases e:a = p.a
    · rw [if_pos (by omega),if_pos e]
    · rw [if_neg (by omega),if_neg e]
theorem srt_appL:∀ {L:List Pl} {K:KL},Sl.Srt K→Sl.Srt (appL K L)
  | [],_,h => h
  | p :: L,K,h => by rw [appL_cons];exact srt_appL (srt_app1 h p)
theorem get_appL_other:∀ {L:List Pl} {K:KL},Sl.Srt K→∀ {a:Nat},(∀ p∈L,p.a≠a)→Sl.get (appL K L) (a:Int) = Sl.get K (a:Int)
  | [],_,_,_,_ => rfl
  | p :: L,K,h,a,hn => by
    rw [appL_cons,get_appL_other (srt_app1 h p) (fun q hq => hn q (List.mem_cons_of_mem _ hq)),get_app1 h,if_neg (fun e => hn p List.mem_cons_self e.symm)]
theorem get_appL_in:∀ {L:List Pl} {K:KL},Sl.Srt K→Ris L→∀ {p:Pl},p∈L→Sl.get (appL K L) (p.a:Int) = p.m
  | [],_,_,_,_,hp => by cases hp
  | q :: L,K,h,hr,p,hp => by
    obtain ⟨r1,r2⟩:=List.pairwise_cons.1 hr
    rw [appL_cons]
    rcases List.mem_cons.1 hp with rfl | hp
    · rw [get_appL_other (srt_app1 h p) (fun x hx => by have:=r1 x hx;omega),get_app1 h,if_pos rfl]
    · exact get_appL_in (srt_app1 h q) r2 hp
theorem many_get:∀ {Q:List Nat} {K:KL},Sl.Srt K→Q.Nodup→(∀ a∈Q,Sl.get K (a:Int)≠none)→Q.length≤K.length
  | [],_,_,_,_ => Nat.zero_le _
  | a :: Q,K,h,hn,hg => by
    obtain ⟨n1,n2⟩:=List.nodup_cons.1 hn
    cases e:Sl.get K (a:Int) with
    | none => exact absurd e (hg a List.mem_cons_self)
    | some v =>
      have hl:=Sl.length_del h e
      have:=many_get (K:=Sl.del a K) (Sl.srt_del _ h) n2 fun b hb => by
        rw [Sl.get_del h,if_neg (by intro e';exact n1 ((show b = a by omega) ▸ hb))]
        exact hg b (List.mem_cons_of_mem _ hb)
      simp only [List.length_cons]
      omega
section
variable (ps:List Pl) (was:Pl→Option T)
def eqP (x:Pl):Bool:=decide (rootP (was x) = rootP x.m)
def edL:List Pl:=ps.filter fun x => !eqP was x
def keptL:List Pl:=ps.filter fun x => eqP was x && x.m.isSome
def loseL:List Pl:=ps.filter fun x => !eqP was x && x.m.isNone
def wantL:List Pl:=ps.filter fun x => x.m.isSome
theorem count_ed:(wantL ps).length + (loseL ps was).length = (edL ps was).length + (keptL ps was).length:=by
  induction ps with
  | nil => rfl
  | cons x ps ih =>
    unfold wantL loseL edL keptL at ih ⊢
    cases e1:eqP was x <;> cases e2:x.m with
    | none => simp [e1,e2];omega
    | some m => simp [e1,e2];omega
end
section
variable {ps:List Pl} {was:Pl→Option T}
theorem ris_filter (h:Ris ps) (f:Pl→Bool):Ris (ps.filter f):=h.sublist List.filter_sublist
theorem ris_nodup {L:List Pl} (h:Ris L):(L.map (·.a)).Nodup:=by
  unfold List.Nodup
  rw [List.pairwise_map]
  exact h.imp fun {a b} hab => by omega
theorem ris_uniq {L:List Pl} (h:Ris L) {p q:Pl} (hp:p∈L) (hq:q∈L) (e:p.a = q.a):p = q:=by
  induction L with
  | nil => cases hp
  | cons x L ih =>
    obtain ⟨r1,r2⟩:=List.pairwise_cons.1 h
    rcases List.mem_cons.1 hp with e1 | hp'
    · rcases List.mem_cons.1 hq with e2 | hq'
      · rw [e1,e2]
      · have:=r1 q hq';rw [e1] at e;omega
    · rcases List.mem_cons.1 hq with e2 | hq'
      · have:=r1 p hp';rw [e2] at e;omega
      · exact ih r2 hp' hq'
def EdOk (K:KL) (p:Pl):Prop:=match p.m with
  | none => Sl.has K (p.a:Int) = true∧2≤(Sl.del p.a K).length
  | some _ => K = []∨(∃ x,K = [x]∧x.1≠p.a)∨2≤K.length
theorem edOk_none (hr:Ris ps) {L1 L2:List Pl} {p:Pl} (he:edL ps (fun _ => none) = L1 ++ p :: L2):EdOk (appL [] L1) p:=by
  have hre:Ris (edL ps fun _ => none):=ris_filter hr _
  have hpm:p∈edL ps (fun _ => none):=by rw [he];simp
  rw [he] at hre
  have h1:=(List.pairwise_append.1 hre).1
  have h12:=(List.pairwise_append.1 hre).2.2
  unfold EdOk
  cases hm:p.m with
  | none =>
    have:=(List.mem_filter.1 hpm).2
    simp [eqP,hm,rootP] at this
  | some m =>
    simp only
    have hs:Sl.Srt (appL [] L1):=srt_appL Sl.srt_nil
    match hK:appL [] L1 with
    | [] => exact .inl rfl
    | [x] =>
      refine .inr (.inl ⟨x,rfl,fun e => ?_⟩)
      have hg:Sl.get (appL [] L1) (x.1:Int) = some x.2:=Sl.get_of_mem hs (by rw [hK];exact List.mem_cons_self)
      by_cases c:∀ q∈L1,q.a≠x.1
      · rw [get_appL_other Sl.srt_nil c] at hg
        cases hg
      · obtain ⟨q,hq,hqa⟩:∃ q∈L1,q.a = x.1:=Classical.byContradiction fun h => c fun q hq e => h ⟨q,hq,e⟩
        have:=h12 q hq p List.mem_cons_self
        omega
    | _ :: _ :: _ => exact .inr (.inr (by simp))
theorem edOk_side (hr:Ris ps) {K0:KL} (hs:Sl.Srt K0) (hg:∀ x∈ps,Sl.get K0 (x.a:Int) = was x) (hlt:(edL ps was).length < (wantL ps).length) {L1 L2:List Pl} {p:Pl} (he:edL ps was = L1 ++ p :: L2):EdOk (appL K0 L1) p:=by
  have hcnt:=count_ed ps was
  have hre:Ris (edL ps was):=ris_filter hr _
  have hpm:p∈edL ps was:=by rw [he];simp
  have hp:=List.mem_filter.1 hpm
  have hsub:∀ q∈L1,q∈edL ps was:=fun q hq => by rw [he];simp [hq]
  rw [he] at hre
  have h12:=(List.pairwise_append.1 hre).2.2
  have hs1:Sl.Srt (appL K0 L1):=srt_appL hs
  have hkept:∀ x∈keptL ps was,Sl.get (appL K0 L1) (x.a:Int)≠none∧x.a≠p.a:=fun x hx => by
    obtain ⟨hx1,hx2⟩:=List.mem_filter.1 hx
    simp only [Bool.and_eq_true] at hx2
    have hne:∀ q∈edL ps was,q.a≠x.a:=fun q hq e => by
      obtain ⟨hq1,hq2⟩:=List.mem_filter.1 hq
      have:=ris_uniq hr hq1 hx1 e
      subst this
      rw [hx2.1] at hq2
      cases hq2
    refine ⟨?_,fun e => hne p hpm e.symm⟩
    rw [get_appL_other hs (fun q hq => hne q (hsub q hq)),hg x hx1]
    intro e
    have h1:=hx2.1
    unfold eqP at h1
    rw [e] at h1
    have h2:=of_decide_eq_true h1
    cases hm:x.m with
    | none => rw [hm] at hx2;simp at hx2
    | some m => rw [hm] at h2;cases h2
  have hnd:((keptL ps was).map (·.a)).Nodup:=ris_nodup (ris_filter hr _)
  unfold EdOk
  cases hm:p.m with
  | none =>
    simp only
    have hlose:1≤(loseL ps was).length:=by
      have:p∈loseL ps was:=List.mem_filter.2 ⟨hp.1,by rw [hm];simpa using hp.2⟩
      exact List.length_pos_of_mem this
    have hgp:Sl.get (appL K0 L1) (p.a:Int) = was p:=by
      rw [get_appL_other hs (fun q hq => by have:=h12 q hq p List.mem_cons_self;omega),hg p hp.1]
    have hwp:∃ v,was p = some v:=by
      cases hw:was p with
      | some v => exact ⟨v,rfl⟩
      | none =>
        have h2:=hp.2
        simp [eqP,hm,hw] at h2
    obtain ⟨v,hv⟩:=hwp
    rw [hv] at hgp
    refine ⟨by unfold Sl.has;rw [hgp];rfl,?_⟩
    have h3:=many_get (Q:=p.a :: (keptL ps was).map (·.a)) hs1 (List.nodup_cons.2 ⟨fun h => by
      obtain ⟨x,hx,e⟩:=List.mem_map.1 h
      exact (hkept x hx).2 e,hnd⟩) fun a ha => by
        rcases List.mem_cons.1 ha with rfl | ha
        · rw [hgp];simp
        · obtain ⟨x,hx,rfl⟩:=List.mem_map.1 ha
          exact (hkept x hx).1
    have h4:=Sl.length_del hs1 hgp
    simp only [List.length_cons,List.length_map] at h3
    omega
  | some m =>
    simp only
    have hk1:1≤(keptL ps was).length:=by omega
    obtain ⟨x,hx⟩:∃ x,x∈keptL ps was:=List.exists_mem_of_ne_nil _ (by intro e;rw [e] at hk1;simp at hk1)
    obtain ⟨g1,g2⟩:=hkept x hx
    match hK:appL K0 L1 with
    | [] => rw [hK] at g1;exact absurd rfl g1
    | [y] =>
      refine .inr (.inl ⟨y,rfl,?_⟩)
      rw [hK] at g1
      by_cases c:(y.1:Int) = (x.a:Int)
      · omega
      · simp only [Sl.get,if_neg c] at g1
        exact absurd rfl g1
    | _ :: _ :: _ => exact .inr (.inr (by simp))
theorem mem_out (hr:Ris ps) {K0:KL} (hs:Sl.Srt K0) (hg:∀ x∈ps,Sl.get K0 (x.a:Int) = was x) (hk:∀ x∈K0,∃ p∈ps,p.a = x.1) (heq:∀ x∈ps,eqP was x = true→Tr.entsO (was x) = Tr.entsO x.m) (e:Ent) :
    e∈Tr.entsL (appL K0 (edL ps was))↔∃ x∈ps,e∈Tr.entsO x.m:=by
  have hre:Ris (edL ps was):=ris_filter hr _
  have hsA:Sl.Srt (appL K0 (edL ps was)):=srt_appL hs
  rw [Tr.mem_entsL]
  constructor
  · rintro ⟨y,hy,he⟩
    have hgy:=Sl.get_of_mem hsA hy
    by_cases c:∀ q∈edL ps was,q.a≠y.1
    · rw [get_appL_other hs c] at hgy
      obtain ⟨p,hp,hpa⟩:=hk _ ((Sl.get_iff hs).1 hgy)
      simp only at hpa
      refine ⟨p,hp,?_⟩
      have hq:eqP was p = true:=by
        cases h:eqP was p with
        | true => rfl
        | false => exact absurd hpa (c p (List.mem_filter.2 ⟨hp,by rw [h];rfl⟩))
      rw [← heq p hp hq,← hg p hp,hpa,hgy]
      exact he
    · obtain ⟨q,hq,hqa⟩:∃ q∈edL ps was,q.a = y.1:=Classical.byContradiction fun h => c fun q hq e => h ⟨q,hq,e⟩
      have:=get_appL_in hs hre hq
      rw [hqa,hgy] at this
      exact ⟨q,(List.mem_filter.1 hq).1,by rw [← this];exact he⟩
  · rintro ⟨x,hx,he⟩
    have key:∀ o:Option T,Sl.get (appL K0 (edL ps was)) (x.a:Int) = o→e∈Tr.entsO o→∃ y∈appL K0 (edL ps was),e∈y.2.ents:=fun o ho heo => by
      cases o with
      | none => cases heo
      | some v => exact ⟨(x.a,v),(Sl.get_iff hsA).1 ho,heo⟩
    cases h:eqP was x with
    | false =>
      exact key x.m (get_appL_in hs hre (List.mem_filter.2 ⟨hx,by rw [h];rfl⟩)) he
    | true =>
      refine key (was x) ?_ (by rw [heq x hx h];exact he)
      rw [get_appL_other hs (fun q hq e' => ?_),hg x hx]
      obtain ⟨hq1,hq2⟩:=List.mem_filter.1 hq
      have:=ris_uniq hr hq1 hx e'
      subst this
      rw [h] at hq2
      cases hq2
theorem fit_appL {k l:Nat} {c0:List Nat}:∀ {L:List Pl} {K:KL},Tr.FitL k l c0 K→(∀ p∈L,∀ m,p.m = some m→Tr.Wf k m∧m.lv≤l∧Z.cut m.pre (l + 1) = c0∧Z.addr m.pre l = p.a)→Tr.FitL k l c0 (appL K L)
  | [],_,h,_ => h
  | p :: L,K,h,hm => by
    rw [appL_cons]
    refine fit_appL ?_ fun q hq => hm q (List.mem_cons_of_mem _ hq)
    unfold app1
    cases e:p.m with
    | none => exact ⟨Sl.srt_del _ h.1,fun x hx => h.2 x (Sl.mem_del hx)⟩
    | some m =>
      obtain ⟨h1,h2⟩:=hm p List.mem_cons_self m e
      exact fit_one h h1 h2
end
theorem nodeP_dec {w:World} {B B' k:Nat} {x y:Option T} (hx:NodeO w B k x) (hy:NodeO w B' k y):(binOp .eql 81 (.pointer (rootP x)) (.pointer (rootP y))).run Tryz.prog w = .ok (.bool (decide (rootP x = rootP y))) w:=by
  cases x with
  | none =>
    cases y with
    | none => exact nptr_none w
    | some t => exact nptr_no1 w _
  | some s =>
    cases y with
    | none => exact nptr_no2 w _
    | some t =>
      by_cases h:s.blk = t.blk
      · have e:rootP (some s) = rootP (some t):=by simp only [rootP];rw [h]
        rw [e,decide_eq_true rfl]
        exact ptr_eq w _
      · have e:rootP (some s)≠rootP (some t):=fun e => by
          simp only [rootP,Option.some.injEq,Addr.mk.injEq,and_true] at e
          exact h e
        rw [decide_eq_false e]
        exact nptr_ne (hx s rfl).trb (hy t rfl).trb h
theorem neq_of_eql {w:World} {t:TypeId} {x y:Option Addr} {r:Bool} (h:(binOp .eql t (.pointer x) (.pointer y)).run Tryz.prog w = .ok (.bool r) w):(binOp .neq t (.pointer x) (.pointer y)).run Tryz.prog w = .ok (.bool (!r)) w:=by
  simp only [binOp] at h ⊢
  rw [Sem.run_bind] at h ⊢
  generalize (Op.equal t (.pointer x) (.pointer y)).run Tryz.prog w = res at h ⊢
  cases res with
  | ok b w' =>
    simp [Result.andThen] at h ⊢
    obtain ⟨h1,h2⟩:=h
    exact ⟨by rw [h1],h2⟩
  | _ => simp [Result.andThen] at h
theorem filter_take {α:Type} (f:α→Bool) {L:List α} {j:Nat} {x:α} (h:L[j]? = some x):(L.take (j + 1)).filter f = (L.take j).filter f ++ (if f x = true then [x] else []):=by
  rw [List.take_add_one,h]
  simp only [Option.toList_some,List.filter_append]
  congr 1
  by_cases c:f x = true
  · simp [c]
  · simp [c]
def Tri.at (t:Tri) (i:Nat):Option T:=match i with
  | 0 => t.o
  | 1 => t.a
  | _ => t.b
theorem len_put (a:Nat) (m:T):∀ (K:KL),(Tr.entsL (Sl.put a m K)).length≤(Tr.entsL K).length + m.ents.length
  | [] => by simp [Sl.put,Tr.entsL]
  | x :: K => by
    unfold Sl.put
    split
    · rw [Tr.entsL_cons,Tr.entsL_cons,List.length_append,List.length_append]
      have:=len_put a m K
      omega
    · split
      · rw [Tr.entsL_cons,Tr.entsL_cons,List.length_append,List.length_append]
        simp only
        omega
      · rw [Tr.entsL_cons,List.length_append]
        simp only
        omega
theorem len_del (a:Nat):∀ (K:KL),(Tr.entsL (Sl.del a K)).length≤(Tr.entsL K).length
  | [] => by simp [Sl.del]
  | x :: K => by
    unfold Sl.del
    split
    · rw [Tr.entsL_cons,List.length_append]
      omega
    · rw [Tr.entsL_cons,Tr.entsL_cons,List.length_append,List.length_append]
      have:=len_del a K
      omega
def sumM (L:List Pl):Nat:=(L.map fun x => (Tr.entsO x.m).length).sum
theorem sumM_cons (p:Pl) (L:List Pl):sumM (p :: L) = (Tr.entsO p.m).length + sumM L:=by simp [sumM]
theorem len_app1 (K:KL) (p:Pl):(Tr.entsL (app1 K p)).length≤(Tr.entsL K).length + (Tr.entsO p.m).length:=by
  unfold app1
  cases p.m with
  | none => exact Nat.le_trans (len_del _ _) (Nat.le_add_right _ _)
  | some m => exact len_put _ _ _
theorem len_appL:∀ (L:List Pl) (K:KL),(Tr.entsL (appL K L)).length≤(Tr.entsL K).length + sumM L
  | [],K => Nat.le_add_right _ _
  | p :: L,K => by
    rw [appL_cons,sumM_cons]
    have h1:=len_appL L (app1 K p)
    have h2:=len_app1 K p
    omega
theorem sumM_filter (f:Pl→Bool):∀ (L:List Pl),sumM (L.filter f)≤sumM L
  | [] => Nat.le_refl _
  | p :: L => by
    have:=sumM_filter f L
    rw [List.filter_cons,sumM_cons]
    split
    · rw [sumM_cons];omega
    · omega
theorem sumM_split {L L1 L2:List Pl} {p:Pl} (h:L = L1 ++ p :: L2):sumM L1 + (Tr.entsO p.m).length≤sumM L:=by
  subst h
  simp only [sumM,List.map_append,List.map_cons,List.sum_append,List.sum_cons]
  omega
theorem ed_want (ps:List Pl):(edL ps fun _ => none) = wantL ps:=by
  unfold edL wantL
  refine List.filter_congr fun x _ => ?_
  unfold eqP
  cases x.m with
  | none => simp [rootP]
  | some m => simp [rootP]
structure Start (k l:Nat) (c0:List Nat) (t:Tri) (ps:List Pl) (n:Option T) (was:Pl→Option T) (K0:KL):Prop where
  fit:Tr.FitL k l c0 K0
  uni:Tr.UniN l c0 K0 n
  get:∀ x∈ps,Sl.get K0 (x.a:Int) = was x
  key:∀ y∈K0,∃ p∈ps,p.a = y.1
  ok:∀ L1 p L2,edL ps was = L1 ++ p :: L2→EdOk (appL K0 L1) p
  len:(Tr.entsL K0).length≤(Tr.entsO t.o).length + (Tr.entsO t.a).length + (Tr.entsO t.b).length
theorem ps_facts {l:Nat} {t:Tri} {ps:List Pl} (hps:ps.map (fun x => (x.a,x.t)) = t.rem l 0):Ris ps∧(∀ x∈ps,x.t = Tr.triAt (Tr.sdL t.o l) (Tr.sdL t.a l) (Tr.sdL t.b l) x.a)∧∀ a,a < 65536→(Tr.triAt (Tr.sdL t.o l) (Tr.sdL t.a l) (Tr.sdL t.b l) a).any = true→∃ p∈ps,p.a = a:=by
  refine ⟨?_,fun x hx => ?_,fun a ha hany => ?_⟩
  · have h:=Tr.rem3_sorted (Lo:=Tr.sdL t.o l) (La:=Tr.sdL t.a l) (Lb:=Tr.sdL t.b l) 0
    have h':(t.rem l 0).Pairwise fun p q => p.1 < q.1:=h
    rw [← hps,List.pairwise_map] at h'
    exact h'
  · have hm:(x.a,x.t)∈t.rem l 0:=by rw [← hps];exact List.mem_map.2 ⟨x,hx,rfl⟩
    exact (Tr.mem_rem3.1 hm).2.2.1
  · have hm:(a,Tr.triAt (Tr.sdL t.o l) (Tr.sdL t.a l) (Tr.sdL t.b l) a)∈t.rem l 0:=Tr.mem_rem3.2 ⟨Nat.zero_le _,ha,rfl,hany⟩
    rw [← hps] at hm
    obtain ⟨x,hx,e⟩:=List.mem_map.1 hm
    exact ⟨x,hx,(Prod.mk.inj e).1⟩
section
variable {k l:Nat} {c0:List Nat} {t:Tri} {ps:List Pl}
theorem start_none (hps:ps.map (fun x => (x.a,x.t)) = t.rem l 0):Start k l c0 t ps none (fun _ => none) [] where
  fit:=⟨Sl.srt_nil,fun x hx => by cases hx⟩
  uni:=.inl ⟨rfl,rfl⟩
  get:=fun x _ => rfl
  key:=fun y hy => by cases hy
  ok:=fun L1 p L2 h => edOk_none (ps_facts hps).1 h
  len:=Nat.zero_le _
theorem start_side (hf:Tr.FrmOk k l c0 t) (hs:∀ x∈t.list,Tr.Wf k x∧x.lv≤l + 1∧Z.cut x.pre (l + 1) = c0) (hps:ps.map (fun x => (x.a,x.t)) = t.rem l 0) {i:Nat} (hi:i < 3) (hlt:(edL ps fun x => Tri.at x.t i).length < (wantL ps).length):Start k l c0 t ps (Tri.at t i) (fun x => Tri.at x.t i) (Tr.sdL (Tri.at t i) l):=by
  obtain ⟨h64,fo,fa,fb,eo,ea,eb⟩:=hf
  obtain ⟨h1,h2,h3⟩:=ps_facts hps
  have hfit:Tr.FitL k l c0 (Tr.sdL (Tri.at t i) l)∧Tr.entsL (Tr.sdL (Tri.at t i) l) = Tr.entsO (Tri.at t i):=by
    match i,hi with
    | 0,_ => exact ⟨fo,eo⟩
    | 1,_ => exact ⟨fa,ea⟩
    | 2,_ => exact ⟨fb,eb⟩
  have hget:∀ a:Nat,Tri.at (Tr.triAt (Tr.sdL t.o l) (Tr.sdL t.a l) (Tr.sdL t.b l) a) i = Sl.get (Tr.sdL (Tri.at t i) l) (a:Int):=fun a => by
    match i,hi with
    | 0,_ => rfl
    | 1,_ => rfl
    | 2,_ => rfl
  have hg:∀ x∈ps,Sl.get (Tr.sdL (Tri.at t i) l) (x.a:Int) = Tri.at x.t i:=fun x hx => by
    rw [h2 x hx,← hget]
  refine ⟨hfit.1,Tr.UniN.side fun x e => hs x ?_,hg,fun y hy => ?_,fun L1 p L2 h => edOk_side h1 hfit.1.1 hg hlt h,?_⟩
  · match i,hi,e with
    | 0,_,e => exact Tr.Tri.mem.2 (.inl e)
    | 1,_,e => exact Tr.Tri.mem.2 (.inr (.inl e))
    | 2,_,e => exact Tr.Tri.mem.2 (.inr (.inr e))
  · have hgy:=Sl.get_of_mem hfit.1.1 hy
    refine h3 y.1 (hfit.1.lt5 y hy) ?_
    have hh:=hget y.1
    rw [hgy] at hh
    match i,hi,hh with
    | 0,_,hh => have hh:Sl.get (Tr.sdL t.o l) (y.1:Int) = some y.2:=hh;simp [Tr.triAt,Tr.Tri.any,hh]
    | 1,_,hh => have hh:Sl.get (Tr.sdL t.a l) (y.1:Int) = some y.2:=hh;simp [Tr.triAt,Tr.Tri.any,hh]
    | 2,_,hh => have hh:Sl.get (Tr.sdL t.b l) (y.1:Int) = some y.2:=hh;simp [Tr.triAt,Tr.Tri.any,hh]
  · rw [hfit.2]
    match i,hi with
    | 0,_ => show (Tr.entsO t.o).length≤_;omega
    | 1,_ => show (Tr.entsO t.a).length≤_;omega
    | 2,_ => show (Tr.entsO t.b).length≤_;omega
end
structure Fm where
  q:Nat
  l:Nat
  t:Tri
  ps:List Pl
  D:Option Addr
  d:Nat
def Fm.v (f:Fm):Value:=.slice f.D f.ps.length f.d
def Fm.own (f:Fm) (b:Nat):Prop:=b = f.q∨f.v.ownBlock = some b
section
variable {w wr wr':World} {B k base:Nat} {mk:Bool} {r:Int} {S:List Fm}
end
abbrev TdM:=List (List Nat × Tr.Cl)
def cnt3 (t:Tri):Nat:=(Tr.entsO t.o).length + (Tr.entsO t.a).length + (Tr.entsO t.b).length
section
variable {fc fj:Nat} {lc lj:Array Value} {B k M base:Nat} {C P us:TdM} {mk:Bool} {r:Int} {Inv:TdM→World→(Nat→Prop)→Prop} {fv jv v:Value} {w w1 w2:World} {F0 F A:Nat→Prop} {S:List Fm} {D:Option Addr} {d:Nat} {β:Tri}
end
section
variable {fc fj:Nat} {lc lj:Array Value} {B k M:Nat} {C P:TdM} {mk:Bool} {r:Int} {Inv:TdM→World→(Nat→Prop)→Prop} {fv jv:Value} {w w1 w2:World} {F0:Nat→Prop} {S:List Fm} {D:Option Addr} {d:Nat} {β:Tri} {f:Fm}
theorem sd_node {W:World} {B k l:Nat} {o:Option T} (h:NodeO W B k o) {x:Nat × T} (hx:x∈Tr.sdL o l):Node W B k x.2:=by
  cases o with
  | none => cases hx
  | some t =>
    have ht:=h t rfl
    unfold Tr.sdL at hx
    simp only at hx
    split at hx
    · obtain ⟨g,l',pre,ks,rfl⟩:=Tr.ks_br hx
      exact ht.kid hx
    · rw [List.mem_singleton.1 hx];exact ht
/-! ### rows of steps -/
/-! ### the top frame alone -/
end
/-! ### what is merged -/
theorem zdO {W:World} {B k:Nat} {o:Option T} (h:NodeO W B k o):Tr.ZS (Tr.entsO o)∧Tr.Dim k (Tr.entsO o):=by
  cases o with
  | none => exact ⟨Tr.ZS.nil,Tr.dim_nil k⟩
  | some t => exact ⟨(h t rfl).1.zs,(h t rfl).1.dim⟩
theorem tri_top {W:World} {B k:Nat} {u:Tri} (h:TriN W B k u):Tr.TriOk k 64 u :=
  ⟨fun _ hx => ⟨(h.mem hx).1,(h.mem hx).1.lv64⟩,fun _ hx _ hy => Tr.cut_top (by rw [(h.mem hx).1.len,(h.mem hy).1.len]) (h.mem hx).1.ok (h.mem hy).1.ok⟩
section
variable {w wr:World} {B k:Nat} {u:Tri} {n:Option T}
end
/-! ### states -/
section
variable (B k:Nat) (C:TdM) (mk:Bool) (r:Int) (Inv:TdM→World→(Nat→Prop)→Prop) (fv jv:Value) (w:World) (F0:Nat→Prop) (t0:Tri)
end
section
variable {fc fj:Nat} {lc lj:Array Value} {B k M:Nat} {C:TdM} {mk:Bool} {r:Int} {Inv:TdM→World→(Nat→Prop)→Prop} {fv jv:Value} {w w1 w2:World} {F0:Nat→Prop} {t0:Tri} {S:List Fm} {D:Option Addr} {d m:Nat} {β u:Tri} {n:Option T} {f:Fm}
end
/-! ### three labels -/
theorem frame_side {k n:Nat} {t:Tri} (ht:Tr.TriOk k n t) (hn:n≤64) (hne:t.list≠[]) {l:Nat} (hl:Tr.lvlT t.list = (l:Int)):∃ c0,(Tr.FrmOk k l c0 t∧∀ x∈t.list,Tr.Wf k x∧x.lv≤l + 1∧Z.cut x.pre (l + 1) = c0)∧l + 1≤n∧Tr.w3M (t.rem l 0) + 1≤Tr.wgt3 t:=by
  obtain ⟨-,hf0,hln,hw⟩:=Tr.frame_new3 ht hn hne hl
  obtain ⟨f,r,hfr⟩:∃ f r,t.list = f :: r:=by
    cases h:t.list with
    | nil => exact absurd h hne
    | cons f r => exact ⟨f,r,rfl⟩
  rw [hfr] at hl
  obtain ⟨-,h2,-⟩:=Tr.lvlF_spec f.pre (f :: r) (-1)
  have hl':Tr.lvlF f.pre (-1) (f :: r) = (l:Int):=hl
  rw [hl',← hfr] at h2
  have hf:f∈t.list:=by rw [hfr];exact List.mem_cons_self
  have wf:=(ht.1 f hf).1
  have hall:∀ x∈t.list,Tr.Wf k x∧x.lv≤l + 1∧Z.cut x.pre (l + 1) = Z.cut f.pre (l + 1):=fun x hx => by
    have w:=(ht.1 x hx).1
    refine ⟨w,by have:=(h2 x hx).2;omega,((Z.cut_eq_iff (by rw [wf.len,w.len]) wf.ok w.ok (l + 1)).2 ?_).symm⟩
    have:=(h2 x hx).1
    omega
  obtain ⟨o1,o2,-⟩:=Tr.sdL_fit (o:=t.o) fun x e => hall x (Tr.Tri.mem.2 (.inl e))
  obtain ⟨a1,a2,-⟩:=Tr.sdL_fit (o:=t.a) fun x e => hall x (Tr.Tri.mem.2 (.inr (.inl e)))
  obtain ⟨b1,b2,-⟩:=Tr.sdL_fit (o:=t.b) fun x e => hall x (Tr.Tri.mem.2 (.inr (.inr e)))
  exact ⟨_,⟨⟨by omega,o1,a1,b1,o2,a2,b2⟩,hall⟩,hln,hw⟩
section
variable {fc fj:Nat} {lc lj:Array Value} {B k M:Nat} {C:TdM} {mk:Bool} {r:Int} {Inv:TdM→World→(Nat→Prop)→Prop} {fv jv:Value} {w w1 w2:World} {F0:Nat→Prop} {t0:Tri} {S:List Fm} {D:Option Addr} {d m:Nat} {β u:Tri} {n:Option T} {f:Fm}
theorem entsL_le {K:KL} {x:Nat × T} (hx:x∈K):x.2.ents.length≤(Tr.entsL K).length:=by
  obtain ⟨a,b,rfl⟩:=List.append_of_mem hx
  simp only [Tr.entsL,List.flatMap_append,List.flatMap_cons,List.length_append]
  omega
abbrev tri0:Tri:=⟨none,none,none⟩
end
abbrev Cls:=List Nat × Tr.Cl
section
variable {w w' w2 w5:World} {base m c c':Nat} {D:Nat→Prop} {V V':Option Addr} {L:List Cls} {x:Cls}
end
/-! ### Clashes -/
end Go.Proofs.YtkeepngaaleakaaGreatDoor
