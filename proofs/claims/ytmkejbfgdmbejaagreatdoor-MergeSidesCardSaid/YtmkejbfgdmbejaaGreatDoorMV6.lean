import Derived.Test.YtmkejbfgdmbejaaGreatDoorMV5
namespace Go.Proofs.YtmkejbfgdmbejaaGreatDoor
open Go.ChangeShapes Go.WideShapes Go.ChangeAt Go.RowKit
open Tr (T S4 Ent Tri KL)
structure Fm where
  q:Nat
  l:Nat
  t:Tri
  ps:List Pl
  D:Option Addr
  d:Nat
def Fm.v (f:Fm):Value:=.slice f.D f.ps.length f.d
def Fm.own (f:Fm) (b:Nat):Prop:=b = f.q∨f.v.ownBlock = some b
def DjT (β:Tri) (m:Option T):Prop:=∀ y∈β.list,∀ e∈y.ents,∀ e'∈Tr.entsO m,e'.1≠e.1
def PtsOk (x:Pl):Prop:=∀ e∈Tr.entsO x.m,(∃ v,(e.1,v)∈Tr.entsO x.t.a)∨∃ v,(e.1,v)∈Tr.entsO x.t.b
structure FrA (w:World) (B k:Nat) (f:Fm):Prop where
  ok:∃ c0,Tr.FrmOk k f.l c0 f.t∧∀ x∈f.t.list,Tr.Wf k x∧x.lv≤f.l + 1∧Z.cut x.pre (f.l + 1) = c0
  nt:TriN w B k f.t
  rem:f.ps.map (fun x => (x.a,x.t)) ++ f.t.rem f.l (nextOf f.ps) = f.t.rem f.l 0
  n5:nextOf f.ps≤65536
  n6:f.ps.length≤nextOf f.ps
structure FrM (base:Nat) (wr:World) (f:Fm):Prop where
  cell:wr.heap[f.q]? = some (.cells (stC f.t f.l f.v) 192 (0,0))
  row:PRow wr base f.v f.ps
  vq:f.v.ownBlock≠some f.q
  qb:base≤f.q
def ResOk (mk:Bool) (r:Int) (ps:List Pl):Prop:=mk = true→∀ x∈ps,Tr.entsO x.m = Tr.ppT (Tr.mgG r) x.t
structure StkM (w:World) (B k:Nat) (mk:Bool) (r:Int) (base:Nat) (wr:World) (S:List Fm):Prop where
  fa:∀ f∈S,FrA w B k f
  fm:∀ f∈S,FrM base wr f
  nd:∀ f∈S,∀ x∈f.ps,NodeO wr wr.heap.size k x.m∧(mk = false→NodeO w B k x.m)∧PtsOk x
  dis:S.Pairwise fun f g => ∀ b,f.own b→¬ g.own b
  nws:S.Pairwise fun f g => ∀ x∈g.ps,DjT f.t x.m
def LevM:List Fm→Prop
  | [] => True
  | f :: S => f.l + (S.length + 1)≤64∧LevM S
def roomM:List Fm→Nat
  | [] => 64
  | f :: _ => f.l
theorem LevM.room:∀ {S:List Fm},LevM S→roomM S + S.length≤64
  | [],_ => Nat.le_refl _
  | _ :: _,h => h.1
def wSM (S:List Fm):Nat:=(S.map fun f => Tr.w3M (f.t.rem f.l (nextOf f.ps))).sum
theorem wSM_cons (f:Fm) (S:List Fm):wSM (f :: S) = Tr.w3M (f.t.rem f.l (nextOf f.ps)) + wSM S:=by simp [wSM]
def clS (S:List Fm):List (List Nat × Tr.Cl):=S.flatMap fun f => Tr.ppM Tr.clG (f.t.rem f.l (nextOf f.ps))
theorem clS_cons (f:Fm) (S:List Fm):clS (f :: S) = Tr.ppM Tr.clG (f.t.rem f.l (nextOf f.ps)) ++ clS S:=by simp [clS]
section
variable {w wr wr':World} {B k base:Nat} {mk:Bool} {r:Int} {S:List Fm}
theorem FrM.lt {f:Fm} (h:FrM base wr f):∀ b,f.own b→base≤b∧b < wr.heap.size:=fun b hb => by
  rcases hb with rfl | hb
  · exact ⟨h.qb,(Array.getElem?_eq_some_iff.1 h.cell).1⟩
  · exact h.row.lt b hb
theorem FrM.carry {f:Fm} (h:FrM base wr f) (hb:∀ b,f.own b→wr'.heap[b]? = wr.heap[b]?):FrM base wr' f :=
  ⟨(hb _ (.inl rfl)).trans h.cell,h.row.block fun q hq => hb q (.inr hq),h.vq,h.qb⟩
theorem StkM.carry (h:StkM w B k mk r base wr S) (hb:∀ f∈S,∀ b,f.own b→wr'.heap[b]? = wr.heap[b]?) (hn:∀ f∈S,∀ x∈f.ps,NodeO wr' wr'.heap.size k x.m):StkM w B k mk r base wr' S :=
  ⟨h.fa,fun f hf => (h.fm f hf).carry (hb f hf),fun f hf x hx => ⟨hn f hf x hx,(h.nd f hf x hx).2⟩,h.dis,h.nws⟩
theorem StkM.below (h:StkM w B k mk r base wr S) (hb:Below wr.heap.size wr wr'):StkM w B k mk r base wr' S :=
  h.carry (fun f hf b hbo => hb.block b ((h.fm f hf).lt b hbo).2) fun f hf x hx => (h.nd f hf x hx).1.below hb (Nat.le_refl _) hb.size
theorem StkM.pop {f:Fm} (h:StkM w B k mk r base wr (f :: S)):StkM w B k mk r base wr S :=
  ⟨fun g hg => h.fa g (List.mem_cons_of_mem _ hg),fun g hg => h.fm g (List.mem_cons_of_mem _ hg),fun g hg => h.nd g (List.mem_cons_of_mem _ hg),(List.pairwise_cons.1 h.dis).2,(List.pairwise_cons.1 h.nws).2⟩
theorem StkM.top {f f':Fm} (h:StkM w B k mk r base wr (f :: S)) (ha:FrA w B k f') (hm:FrM base wr' f') (ht:f'.t = f.t) (hown:∀ b,f'.own b→f.own b∨wr.heap.size≤b) (hnd:∀ x∈f'.ps,NodeO wr' wr'.heap.size k x.m∧(mk = false→NodeO w B k x.m)∧PtsOk x)
    (hb:∀ g∈S,∀ b,g.own b→wr'.heap[b]? = wr.heap[b]?) (hn:∀ g∈S,∀ x∈g.ps,NodeO wr' wr'.heap.size k x.m):StkM w B k mk r base wr' (f' :: S):=by
  have hp:=h.pop.carry hb hn
  refine ⟨fun g hg => ?_,fun g hg => ?_,fun g hg => ?_,List.pairwise_cons.2 ⟨fun g hg b hbo hgo => ?_,hp.dis⟩,List.pairwise_cons.2 ⟨fun g hg x hx => ?_,hp.nws⟩⟩
  · rcases List.mem_cons.1 hg with rfl | hg
    · exact ha
    · exact hp.fa g hg
  · rcases List.mem_cons.1 hg with rfl | hg
    · exact hm
    · exact hp.fm g hg
  · rcases List.mem_cons.1 hg with rfl | hg
    · exact hnd
    · exact hp.nd g hg
  · rcases hown b hbo with c | c
    · exact (List.pairwise_cons.1 h.dis).1 g hg b c hgo
    · have:=((h.fm g (List.mem_cons_of_mem _ hg)).lt b hgo).2
      omega
  · rw [ht]
    exact (List.pairwise_cons.1 h.nws).1 g hg x hx
end
theorem rem_points {k l n:Nat} {c0:List Nat} {t:Tri} (hf:Tr.FrmOk k l c0 t) {q:Nat × Tri} (hq:q∈t.rem l n):∀ y∈q.2.list,(∀ e∈y.ents,∃ z∈t.list,e∈z.ents)∧∀ e∈y.ents,Z.addr e.1 l = q.1:=by
  obtain ⟨-,-,-,-,mo,ma,mb⟩:=hf.place hq
  obtain ⟨-,fo,fa,fb,eo,ea,eb⟩:=hf
  have key:∀ (o:Option T),Tr.FitL k l c0 (Tr.sdL o l)→Tr.entsL (Tr.sdL o l) = Tr.entsO o→(∀ z,o = some z→z∈t.list)→∀ y,(q.1,y)∈Tr.sdL o l→(∀ e∈y.ents,∃ z∈t.list,e∈z.ents)∧∀ e∈y.ents,Z.addr e.1 l = q.1:=fun o hfit hen ho y hy => by
    refine ⟨fun e he => ?_,fun e he => (hfit.ent hy he).1⟩
    have hm:e∈Tr.entsO o:=by rw [← hen];exact Tr.mem_entsL.2 ⟨_,hy,he⟩
    cases o with
    | none => cases hm
    | some z => exact ⟨z,ho z rfl,hm⟩
  intro y hy
  rcases Tr.Tri.mem.1 hy with e | e | e
  · exact key t.o fo eo (fun z e => Tr.Tri.mem.2 (.inl e)) y (mo y e)
  · exact key t.a fa ea (fun z e => Tr.Tri.mem.2 (.inr (.inl e))) y (ma y e)
  · exact key t.b fb eb (fun z e => Tr.Tri.mem.2 (.inr (.inr e))) y (mb y e)
theorem DjT.sub {β u:Tri} {m:Option T} (h:DjT β m) (hu:∀ y∈u.list,∀ e∈y.ents,∃ z∈β.list,e∈z.ents):DjT u m:=fun y hy e he e' he' => by
  obtain ⟨z,hz,hez⟩:=hu y hy e he
  exact h z hz e hez e' he'
theorem DjT.beside {k l n n':Nat} {c0:List Nat} {t:Tri} (hf:Tr.FrmOk k l c0 t) {q:Nat × Tri} (hq:q∈t.rem l n) {x:Pl} (hx:(x.a,x.t)∈t.rem l n') (hp:PtsOk x) (hne:x.a≠q.1):DjT q.2 x.m:=fun y hy e he e' he' heq => by
  have h1:=(rem_points hf hq y hy).2 e he
  have key:∀ (o:Option T) (v:Nat),(∀ z,o = some z→z∈x.t.list)→(e'.1,v)∈Tr.entsO o→Z.addr e'.1 l = x.a:=fun o v ho hm => by
    cases o with
    | none => cases hm
    | some z => exact (rem_points hf hx z (ho z rfl)).2 (e'.1,v) hm
  have h2:Z.addr e'.1 l = x.a:=by
    rcases hp e' he' with ⟨v,hv⟩ | ⟨v,hv⟩
    · exact key x.t.a v (fun z e => Tr.Tri.mem.2 (.inr (.inl e))) hv
    · exact key x.t.b v (fun z e => Tr.Tri.mem.2 (.inr (.inr e))) hv
  rw [heq,h1] at h2
  exact hne h2.symm
theorem all_ents:∀ (n:Nat) {x:T},x.all.length≤n→∀ {z:T},z∈x.all→∀ e∈z.ents,e∈x.ents:=by
  intro n
  induction n with
  | zero => intro x h;have:=Tr.all_pos x;omega
  | succ n ih =>
    intro x h z hz e he
    cases x with
    | ent g p v =>
      rw [Tr.all_eq] at hz
      simp only [T.ks,Tr.allK,List.flatMap_nil,List.mem_singleton] at hz
      rw [hz] at he
      exact he
    | br g l pre ks =>
      rw [Tr.all_br] at hz h
      rcases List.mem_cons.1 hz with rfl | hz
      · exact he
      · obtain ⟨y,hy,hzy⟩:=List.mem_flatMap.1 hz
        rw [Tr.ents_br]
        refine Tr.mem_entsL.2 ⟨y,hy,ih ?_ hzy e he⟩
        have hle:y.2.all.length≤(Tr.allK ks).length:=by
          unfold Tr.allK
          obtain ⟨a,b,rfl⟩:=List.append_of_mem hy
          simp only [List.flatMap_append,List.flatMap_cons,List.length_append]
          omega
        simp only [List.length_cons] at h
        omega
theorem dj_off {W:World} {B B' k:Nat} {β:Tri} {m:Option T} (hβ:TriN W B k β) (hd:DjT β m) {x:T} (hx:m = some x) (hn:Node W B' k x):∀ z∈x.all,∀ y∈z.ks,∀ v∈β.list,y.2.blk≠v.blk:=by
  intro z hz y hy v hv hb
  have hnz:=Node.all _ (Nat.le_refl _) hn z hz
  have hny:Node W B' k y.2:=by
    obtain ⟨g,l,pre,ks,rfl⟩:=Tr.ks_br hy
    exact hnz.kid hy
  have hee:=node_same hny (hβ.mem hv) hb
  obtain ⟨e,he⟩:=List.exists_mem_of_ne_nil _ hny.1.ne
  have hez:e∈z.ents:=by
    obtain ⟨g,l,pre,ks,rfl⟩:=Tr.ks_br hy
    rw [Tr.ents_br]
    exact Tr.mem_entsL.2 ⟨y,hy,he⟩
  have hex:e∈x.ents:=all_ents _ (Nat.le_refl _) hz e hez
  exact hd v hv e (by rw [← hee];exact he) e (by rw [hx];exact hex) rfl
abbrev TdM:=List (List Nat × Tr.Cl)
def cnt3 (t:Tri):Nat:=(Tr.entsO t.o).length + (Tr.entsO t.a).length + (Tr.entsO t.b).length
structure VisitM (fc:Nat) (lc:Array Value) (fj:Nat) (lj:Array Value) (B k M:Nat) (mk:Bool) (r:Int) (Inv:TdM→World→(Nat→Prop)→Prop):Prop where
  entc:∀ args w,(callFunc fc args).run Tryz.prog w = .ok (.enter fc args) w
  entj:∀ args w,(callFunc fj args).run Tryz.prog w = .ok (.enter fj args) w
  frame:∀ us w w' F,Inv us w F→w.heap.size≤w'.heap.size→(∀ b,F b→w'.heap[b]? = w.heap[b]?)→Inv us w' F
  inb:∀ us w F,Inv us w F→∀ b,F b→b < w.heap.size∧B≤b
  clash:∀ us w F p t,Inv us w F→TriN w B k t→EntT p t→p.length = k→Tr.bec (vO t.o) (vO t.a) (vO t.b) = none→B≤w.heap.size→us.length + 1≤M→Calls Tryz.prog fc (#[trV t] ++ lc) w fun e w' =>
    e = .returned (.pointer (rootP (if mk = true then pickT r t else none)))∧(mk = true→Kp k w w')∧∃ F',Inv (us ++ [(p,(vO t.o,vO t.a,vO t.b))]) w' F'∧(∀ b,F' b→F b∨w.heap.size≤b)∧Foot F w w'
  join:∀ w0 w base f,StkM w0 B k mk r base w [f]→f.t.rem f.l (nextOf f.ps) = []→ResOk mk r f.ps→cnt3 f.t≤1000000000→B≤w0.heap.size→Below B w0 w→w0.heap.size≤w.heap.size→Calls Tryz.prog fj (#[.pointer (some ⟨f.q,0,none⟩)] ++ lj) w fun e w' =>
    ∃ R,e = .returned (.pointer (rootP R))∧Below w.heap.size w w'∧NodeO w' w'.heap.size k R∧(mk = false→R = none)∧(mk = true→Tr.entsO R = Tr.ppT (Tr.mgG r) f.t)
def QSt (f:Nat→Option Value) (x:Fm):Prop:=f 0 = some (.pointer (some ⟨x.q,0,none⟩))
theorem qSt_ok:QOk 1 QSt where
  ext:=by
    rintro f g s h h0
    exact (h 0 (by omega)).symm.trans h0
  has:=by
    rintro f s h0 j hj
    have:j = 0:=by omega
    subst this
    exact ⟨_,h0,rfl⟩
def ZSt (A:Nat→Prop) (_:Nat) (c:Value):Prop:=c = .pointer none∨∃ q,A q∧c = .pointer (some ⟨q,0,none⟩)
abbrev SRow (A:Nat→Prop) (w:World) (base:Nat) (v:Value) (S:List Fm):Prop:=RowZ 101 1 QSt (ZSt A) w base v S
structure StA (base:Nat) (wr:World) (F:Nat→Prop) (S:List Fm) (A:Nat→Prop) (q:Nat):Prop where
  b:base≤q
  lt:q < wr.heap.size
  c2:∃ n,wr.cell? ⟨q,2,none⟩ = some (.int .i64 n)
  nF:¬ F q
  nr:∀ f∈S,f.v.ownBlock≠some q
structure Inn (base:Nat) (Inv:TdM→World→(Nat→Prop)→Prop) (F0:Nat→Prop) (us:TdM) (S:List Fm) (v:Value) (wr:World) (F:Nat→Prop) (A:Nat→Prop):Prop where
  inv:Inv us wr F
  F0:∀ b,F b→F0 b∨base≤b
  own:∀ b,v.ownBlock = some b→¬ F b∧¬ A b∧∀ f∈S,¬ f.own b
  fF:∀ f∈S,∀ b,f.own b→¬ F b
  live:∀ f∈S,A f.q
  all:∀ q,A q→StA base wr F S A q
  row:SRow A wr base v S.reverse
structure ThrM (B k:Nat) (C:TdM) (mk:Bool) (r:Int) (Inv:TdM→World→(Nat→Prop)→Prop) (fv jv:Value) (w:World) (F0:Nat→Prop) (P:TdM) (S:List Fm) (D:Option Addr) (d:Nat) (β:Tri) (wr:World):Prop where
  inn:∃ us F A,C = us ++ (P ++ clS S)∧Inn (w.heap.size + 2) Inv F0 us S (.slice D S.length d) wr F A
  foot:Foot F0 w wr
  box:wr.heap[w.heap.size]? = some (.cells #[fv,jv] 104 (0,0))
  atb:wr.heap[w.heap.size + 1]? = some (.cells #[.pointer (rootP β.o),.pointer (rootP β.a),.pointer (rootP β.b)] 98 (0,0))
  st:StkM w B k mk r (w.heap.size + 2) wr S
  lev:LevM S
section
variable {fc fj:Nat} {lc lj:Array Value} {B k M base:Nat} {C P us:TdM} {mk:Bool} {r:Int} {Inv:TdM→World→(Nat→Prop)→Prop} {fv jv v:Value} {w w1 w2:World} {F0 F A:Nat→Prop} {S:List Fm} {D:Option Addr} {d:Nat} {β:Tri}
theorem Inn.keep (hv:VisitM fc lc fj lj B k M mk r Inv) (h:Inn base Inv F0 us S v w1 F A) (hs:w1.heap.size≤w2.heap.size) (hF:∀ b,F b→w2.heap[b]? = w1.heap[b]?) (hA:∀ q,A q→w2.heap[q]? = w1.heap[q]?∨∃ n,w2.cell? ⟨q,2,none⟩ = some (.int .i64 n)) (hr:∀ b,v.ownBlock = some b→w2.heap[b]? = w1.heap[b]?):Inn base Inv F0 us S v w2 F A :=
  ⟨hv.frame _ _ _ _ h.inv hs hF,h.F0,h.own,h.fF,h.live,fun q hq => by
    obtain ⟨a,b,c,d,e⟩:=h.all q hq
    refine ⟨a,Nat.lt_of_lt_of_le b hs,?_,d,e⟩
    rcases hA q hq with hh | hh
    · obtain ⟨n,c⟩:=c
      exact ⟨n,(World.cell?_of_block (a:=⟨q,2,none⟩) hh).trans c⟩
    · exact hh,h.row.block hr⟩
theorem Inn.below (hv:VisitM fc lc fj lj B k M mk r Inv) (h:Inn base Inv F0 us S v w1 F A) (hb:Below w1.heap.size w1 w2):Inn base Inv F0 us S v w2 F A :=
  h.keep hv hb.size (fun b hF => hb.block b (hv.inb _ _ _ h.inv b hF).1) (fun q hq => .inl (hb.block q (h.all q hq).lt)) (fun b hb' => hb.block b (h.row.lt b hb').2)
theorem ThrM.below (hv:VisitM fc lc fj lj B k M mk r Inv) (s:ThrM B k C mk r Inv fv jv w F0 P S D d β w1) (hb:Below w1.heap.size w1 w2):ThrM B k C mk r Inv fv jv w F0 P S D d β w2:=by
  obtain ⟨us,F,A,e,h⟩:=s.inn
  exact ⟨⟨us,F,A,e,h.below hv hb⟩,s.foot.trans (F1:=F0) (Foot.of_below hb) (fun b hb => .inl hb),keepz s.box hb,keepz s.atb hb,s.st.below hb,s.lev⟩
theorem ThrM.to {Q:TdM} (s:ThrM B k C mk r Inv fv jv w F0 P S D d β w1) (h:P = Q):ThrM B k C mk r Inv fv jv w F0 Q S D d β w1:=h ▸ s
theorem ThrM.old (hF0:∀ b,F0 b→B≤b) (hB:B≤w.heap.size) (s:ThrM B k C mk r Inv fv jv w F0 P S D d β w1):Below B w w1:=s.foot.below hB hF0
theorem ThrM.write {u:Tri} (hv:VisitM fc lc fj lj B k M mk r Inv) (hF0:∀ b,F0 b→b < w.heap.size∧B≤b) (hB:B≤w.heap.size) (s:ThrM B k C mk r Inv fv jv w F0 P S D d β w1) (hβ:TriN w B k β) (hok:(rootP β.o = none∧rootP β.a = none∧rootP β.b = none)∨∀ f∈S,∀ x∈f.ps,NodeO w B k x.m∨DjT β x.m) :
    ThrM B k C mk r Inv fv jv w F0 P S D d u (((w1.setCell ⟨w.heap.size + 1,0,none⟩ (.pointer (rootP u.o))).setCell ⟨w.heap.size + 1,1,none⟩ (.pointer (rootP u.a))).setCell ⟨w.heap.size + 1,2,none⟩ (.pointer (rootP u.b))):=by
  obtain ⟨us,F,A,e,h⟩:=s.inn
  obtain ⟨W,hW⟩:∃ W,W = (((w1.setCell ⟨w.heap.size + 1,0,none⟩ (.pointer (rootP u.o))).setCell ⟨w.heap.size + 1,1,none⟩ (.pointer (rootP u.a))).setCell ⟨w.heap.size + 1,2,none⟩ (.pointer (rootP u.b))):=⟨_,rfl⟩
  rw [← hW]
  have hfar:∀ b,b≠w.heap.size + 1→W.heap[b]? = w1.heap[b]?:=fun b hb => by
    rw [hW,Below.heap_setCell _ ⟨w.heap.size + 1,2,none⟩ _ b hb,Below.heap_setCell _ ⟨w.heap.size + 1,1,none⟩ _ b hb,Below.heap_setCell _ ⟨w.heap.size + 1,0,none⟩ _ b hb]
  have hat:W.heap[w.heap.size + 1]? = some (.cells #[.pointer (rootP u.o),.pointer (rootP u.a),.pointer (rootP u.b)] 98 (0,0)):=by
    rw [hW]
    have hh:=set3 (i:=0) (.pointer (rootP u.o)) (.pointer (rootP u.a)) (.pointer (rootP u.b)) s.atb
    simpa using hh
  have hbelB:Below B w W:=by
    have h0:=s.old (fun b hb => (hF0 b hb).2) hB
    rw [hW]
    have hb1:B≤w.heap.size + 1:=by omega
    exact ((h0.setCell (p:=⟨w.heap.size + 1,0,none⟩) hb1 _).setCell (p:=⟨w.heap.size + 1,1,none⟩) hb1 _).setCell (p:=⟨w.heap.size + 1,2,none⟩) hb1 _
  have hsz:w1.heap.size≤W.heap.size:=by
    rw [hW]
    exact ((((Below.refl 0 w1).setCell (p:=⟨w.heap.size + 1,0,none⟩) (Nat.zero_le _) _).setCell (p:=⟨w.heap.size + 1,1,none⟩) (Nat.zero_le _) _).setCell (p:=⟨w.heap.size + 1,2,none⟩) (Nat.zero_le _) _).size
  have hfn:∀ b,F b→b≠w.heap.size + 1:=fun b hb e => by
    rcases h.F0 b hb with c | c
    · have:=(hF0 b c).1;omega
    · omega
  have hcells:∀ i u,w1.cell? ⟨w.heap.size + 1,i,none⟩ = some u→(i = 0∧u = .pointer (rootP β.o))∨(i = 1∧u = .pointer (rootP β.a))∨(i = 2∧u = .pointer (rootP β.b)):=fun i u hu => by
    rw [cell_of_row w1 _ _ _ _ (0,0) s.atb] at hu
    have hi:i < 3:=(Array.getElem?_eq_some_iff.1 hu).1
    match i,hi with
    | 0,_ => have e:some (Value.pointer (rootP β.o)) = some u:=hu;cases e;exact .inl ⟨rfl,rfl⟩
    | 1,_ => have e:some (Value.pointer (rootP β.a)) = some u:=hu;cases e;exact .inr (.inl ⟨rfl,rfl⟩)
    | 2,_ => have e:some (Value.pointer (rootP β.b)) = some u:=hu;cases e;exact .inr (.inr ⟨rfl,rfl⟩)
  have hnoU:NoU w1 (w.heap.size + 1):=fun i u hu => by
    rcases hcells i u hu with ⟨-,rfl⟩ | ⟨-,rfl⟩ | ⟨-,rfl⟩ <;> exact ⟨fun n e => (by cases e),fun n e => (by cases e)⟩
  have hnode:∀ f∈S,∀ x∈f.ps,NodeO W W.heap.size k x.m:=fun f hf x hx m hm => by
    have hn:=(s.st.nd f hf x hx).1 m hm
    have key:(∀ z∈m.all,∀ y∈z.ks,∀ i,w1.cell? ⟨w.heap.size + 1,i,none⟩≠some (.pointer (some ⟨y.2.blk,0,none⟩)))→Node W W.heap.size k m:=fun hno => by
      have hall:=Node.all _ (Nat.le_refl _) hn
      have h2:Node W w1.heap.size k m:=node_keep (r:=w.heap.size + 1) (S:=fun _ => True) hfar (fun i u _ hS => absurd trivial hS) hnoU hn (fun z hz hne => off_any (hall z hz) hne (hno z hz))
      exact h2.below (Below.refl W.heap.size W) hsz hsz
    rcases hok with ⟨e0,e1,e2⟩ | hok
    · refine key fun z _ y _ i hi => ?_
      rcases hcells i _ hi with ⟨-,e⟩ | ⟨-,e⟩ | ⟨-,e⟩
      · rw [e0] at e;cases e
      · rw [e1] at e;cases e
      · rw [e2] at e;cases e
    · rcases hok f hf x hx with ho | hd
      · exact (ho m hm).below hbelB (Nat.le_refl _) (Nat.le_trans hB hbelB.size)
      · have hβ1:=hβ.below (s.old (fun b hb => (hF0 b hb).2) hB) (Nat.le_refl _) (Nat.le_refl _)
        have hdo:=dj_off hβ1 hd hm hn
        refine key fun z hz y hy i hi => ?_
        have fin:∀ (o:Option T),(∀ v,o = some v→v∈β.list)→Value.pointer (some ⟨y.2.blk,0,none⟩) = Value.pointer (rootP o)→False:=fun o ho e => by
          cases o with
          | none => simp [rootP] at e
          | some v =>
            simp only [rootP,Value.pointer.injEq,Option.some.injEq,Addr.mk.injEq,and_true] at e
            exact hdo z hz y hy v (ho v rfl) e
        rcases hcells i _ hi with ⟨-,e⟩ | ⟨-,e⟩ | ⟨-,e⟩
        · exact fin β.o (fun v e => Tr.Tri.mem.2 (.inl e)) e
        · exact fin β.a (fun v e => Tr.Tri.mem.2 (.inr (.inl e))) e
        · exact fin β.b (fun v e => Tr.Tri.mem.2 (.inr (.inr e))) e
  refine ⟨⟨us,F,A,e,h.keep hv hsz (fun b hb => hfar b (hfn b hb)) (fun q hq => .inl (hfar q (by have:=(h.all q hq).b;omega))) (fun b hb => hfar b (by have:=(h.row.lt b hb).1;omega))⟩,?_,(hfar _ (by omega)).trans s.box,hat,s.st.carry (fun f hf b hb => hfar b (by have:=((s.st.fm f hf).lt b hb).1;omega)) hnode,s.lev⟩
  have hf1:Foot (fun b => b = w.heap.size + 1) w1 W:=by
    rw [hW]
    exact ((Foot.setCell w1 (F:=fun b => b = w.heap.size + 1) (a:=⟨w.heap.size + 1,0,none⟩) rfl _).trans (F1:=fun b => b = w.heap.size + 1) (Foot.setCell _ (F:=fun b => b = w.heap.size + 1) (a:=⟨w.heap.size + 1,1,none⟩) rfl _) (fun b hb => .inl hb)).trans (F1:=fun b => b = w.heap.size + 1) (Foot.setCell _ (F:=fun b => b = w.heap.size + 1) (a:=⟨w.heap.size + 1,2,none⟩) rfl _) (fun b hb => .inl hb)
  exact s.foot.trans hf1 (fun b hb => .inr (by omega))
theorem ThrM.told {p:List Nat} {u:Tri} {Q:TdM} (hv:VisitM fc lc fj lj B k M mk r Inv) (hF0:∀ b,F0 b→b < w.heap.size∧B≤b) (hB:B≤w.heap.size) (s:ThrM B k C mk r Inv fv jv w F0 ((p,(vO u.o,vO u.a,vO u.b)) :: Q) S D d β w1) (hu:TriN w B k u) (he:EntT p u) (hp:p.length = k) (hb:Tr.bec (vO u.o) (vO u.a) (vO u.b) = none) (hM:C.length≤M) :
    Calls Tryz.prog fc (#[trV u] ++ lc) w1 fun e w2 => e = .returned (.pointer (rootP (if mk = true then pickT r u else none)))∧ThrM B k C mk r Inv fv jv w F0 Q S D d β w2:=by
  obtain ⟨us,F,A,e,h⟩:=s.inn
  have hol:=s.old (fun b hb => (hF0 b hb).2) hB
  have hl:=congrArg List.length e
  simp only [List.length_append,List.length_cons] at hl
  refine (hv.clash us w1 F p u h.inv (hu.below hol (Nat.le_refl _) (Nat.le_refl _)) he hp hb (Nat.le_trans hB hol.size) (by omega)).mono ?_
  rintro e' w2 ⟨rfl,hkp,F2,hi2,hF2,hfo⟩
  refine ⟨rfl,?_⟩
  have hfn:∀ b,F b→b≠w.heap.size∧b≠w.heap.size + 1:=fun b hb => by
    rcases h.F0 b hb with c | c
    · have:=(hF0 b c).1;omega
    · omega
  have hs1:w.heap.size + 1 < w1.heap.size:=(Array.getElem?_eq_some_iff.1 s.atb).1
  have hfo0:Foot F0 w w2:=s.foot.trans hfo (fun b hb => (h.F0 b hb).imp id (fun h => by omega))
  have hol2:Below B w w2:=hfo0.below hB (fun b hb => (hF0 b hb).2)
  have hblk:∀ f∈S,∀ b,f.own b→w2.heap[b]? = w1.heap[b]?:=fun f hf b hb => hfo.block b ((s.st.fm f hf).lt b hb).2 (h.fF f hf b hb)
  refine ⟨⟨us ++ [(p,(vO u.o,vO u.a,vO u.b))],F2,A,by rw [e];simp,hi2,fun b hb => ?_,fun b hb => ?_,fun f hf b hb hF => ?_,h.live,fun q hq => ?_,h.row.block fun b hb => hfo.block b (h.row.lt b hb).2 (h.own b hb).1⟩,hfo0,?_,?_,s.st.carry hblk fun f hf x hx => ?_,s.lev⟩
  · rcases hF2 b hb with c | c
    · exact h.F0 b c
    · exact .inr (by omega)
  · refine ⟨fun hF => ?_,(h.own b hb).2⟩
    rcases hF2 b hF with c | c
    · exact (h.own b hb).1 c
    · have:=(h.row.lt b hb).2;omega
  · rcases hF2 b hF with c | c
    · exact h.fF f hf b hb c
    · have:=((s.st.fm f hf).lt b hb).2;omega
  · obtain ⟨a1,a2,⟨n,a3⟩,a4,a5⟩:=h.all q hq
    refine ⟨a1,Nat.lt_of_lt_of_le a2 hfo.size,⟨n,(World.cell?_of_block (a:=⟨q,2,none⟩) (hfo.block q a2 a4)).trans a3⟩,fun hF => ?_,a5⟩
    rcases hF2 q hF with c | c
    · exact a4 c
    · omega
  · rw [hfo.block _ (by omega) (fun hF => (hfn _ hF).1 rfl)];exact s.box
  · rw [hfo.block _ hs1 (fun hF => (hfn _ hF).2 rfl)];exact s.atb
  · obtain ⟨n1,n2,-⟩:=s.st.nd f hf x hx
    intro m hm
    cases hmk:mk with
    | true => exact (hkp hmk _ m (Nat.le_refl _) (n1 m hm)).below (Below.refl w2.heap.size w2) hfo.size hfo.size
    | false => exact (n2 hmk m hm).below hol2 (Nat.le_refl _) (Nat.le_trans hB hol2.size)
end
theorem nextOf_set (ps:List Pl) (a:Nat) (u:Tri) (m m':Option T):nextOf (ps ++ [⟨a,u,m⟩]) = nextOf (ps ++ [⟨a,u,m'⟩]):=by rw [nextOf_snoc,nextOf_snoc]
theorem mergeOk_self {W:World} {B B' k:Nat} {u:Tri} {m:T} {a:Nat} (hu:TriN W B k u) (hn:Node W B' k m) (hp:PtsOk ⟨a,u,some m⟩):MergeOk m u:=by
  intro z hz y0 y1 y2 h0 h1 h2 hne1 hne2 e0 e1 e2
  have hnz:=Node.all _ (Nat.le_refl _) hn z hz
  obtain ⟨g,l,pre,ks,rfl⟩:=Tr.ks_br h0
  have hk:∀ y∈ks,Node W B' k y.2:=fun y hy => hnz.kid hy
  have same:∀ (o:Option T) (y:Nat × T),NodeO W B k o→y∈ks→rootP o = some ⟨y.2.blk,0,none⟩→Tr.entsO o = y.2.ents:=fun o y ho hy e => by
    cases o with
    | none => simp [rootP] at e
    | some v =>
      simp only [rootP,Option.some.injEq,Addr.mk.injEq,and_true] at e
      exact node_same (ho v rfl) (hk y hy) e
  obtain ⟨e,he⟩:=List.exists_mem_of_ne_nil _ (hk y0 h0).1.ne
  have hem:e∈m.ents:=all_ents _ (Nat.le_refl _) hz e (by rw [Tr.ents_br];exact Tr.mem_entsL.2 ⟨y0,h0,he⟩)
  have part:∀ (y:Nat × T),y∈ks→y0.1≠y.1→∀ v,(e.1,v)∈y.2.ents→False:=fun y hy hne v hv => by
    have a1:=((hnz.1.kid h0).entry he)
    have a2:=((hnz.1.kid hy).entry hv)
    have hpart:=Tr.br_part hnz.1 h0 hy hne a1 a2
    have hself:Z.part e.1 e.1 = -1:=Z.part_same e.1 a1.2.1
    have hpart':Z.part e.1 e.1 = (l:Int):=hpart
    omega
  rcases hp e hem with ⟨v,hv⟩ | ⟨v,hv⟩
  · rw [same u.a y1 hu.a h1 e1] at hv
    exact part y1 h1 hne1 v hv
  · rw [same u.b y2 hu.b h2 e2] at hv
    exact part y2 h2 hne2 v hv
theorem mergeOk_dj {W:World} {B B' k:Nat} {u:Tri} {m:T} (hu:TriN W B k u) (hn:Node W B' k m) (hd:DjT u (some m)):MergeOk m u:=by
  intro z hz y0 y1 y2 h0 _ _ _ _ e0 _ _
  have hno:=dj_off hu hd rfl hn z hz y0 h0
  cases ho:u.o with
  | none => rw [ho] at e0;simp [rootP] at e0
  | some v =>
    rw [ho] at e0
    simp only [rootP,Option.some.injEq,Addr.mk.injEq,and_true] at e0
    exact hno v (Tr.Tri.mem.2 (.inl ho)) e0.symm
section
variable {fc fj:Nat} {lc lj:Array Value} {B k M:Nat} {C P:TdM} {mk:Bool} {r:Int} {Inv:TdM→World→(Nat→Prop)→Prop} {fv jv:Value} {w w1 w2:World} {F0:Nat→Prop} {S:List Fm} {D:Option Addr} {d:Nat} {β:Tri} {f:Fm}
theorem StkM.apart {base:Nat} (h:StkM w B k mk r base w1 (f :: S)) {ps:List Pl} {a:Nat} {u:Tri} {m:Option T} (hps:f.ps = ps ++ [⟨a,u,m⟩]):(∀ g∈S,∀ x∈g.ps,DjT u x.m)∧∀ x∈ps,DjT u x.m:=by
  have hfa:=h.fa f List.mem_cons_self
  obtain ⟨c0,hfo,-⟩:=hfa.ok
  have hmem:∀ x∈f.ps,(x.a,x.t)∈f.t.rem f.l 0:=fun x hx => by
    rw [← hfa.rem]
    exact List.mem_append.2 (.inl (List.mem_map.2 ⟨x,hx,rfl⟩))
  have hu:=hmem ⟨a,u,m⟩ (by rw [hps];simp)
  refine ⟨fun g hg x hx => ((List.pairwise_cons.1 h.nws).1 g hg x hx).sub fun y hy => (rem_points hfo hu y hy).1,fun x hx => ?_⟩
  have hxf:x∈f.ps:=by rw [hps];simp [hx]
  have hris:(f.ps.map fun x => (x.a,x.t)).Pairwise fun p q => p.1 < q.1:=by
    have hs:(f.t.rem f.l 0).Pairwise fun p q => p.1 < q.1:=Tr.rem3_sorted 0
    rw [← hfa.rem] at hs
    exact (List.pairwise_append.1 hs).1
  rw [hps,List.map_append,List.pairwise_append] at hris
  have hlt:=hris.2.2 (x.a,x.t) (List.mem_map.2 ⟨x,hx,rfl⟩) (a,u) (by simp)
  exact DjT.beside hfo hu (hmem x hxf) (h.nd f List.mem_cons_self x hxf).2.2 (Nat.ne_of_lt hlt)
theorem sd_node {W:World} {B k l:Nat} {o:Option T} (h:NodeO W B k o) {x:Nat × T} (hx:x∈Tr.sdL o l):Node W B k x.2:=by
  cases o with
  | none => cases hx
  | some t =>
    have ht:=h t rfl
    unfold Tr.sdL at hx
    simp only at hx
    split at hx
    · obtain ⟨g,l',pre,ks,rfl⟩:=Tr.ks_br hx
      exact ht.kid hx
    · rw [List.mem_singleton.1 hx];exact ht
theorem FrA.place {f:Fm} (h:FrA w B k f) {x:Nat × Tri} {n:Nat} (hx:x∈f.t.rem f.l n):TriN w B k x.2∧Tr.TriOk k f.l x.2∧x.2.list≠[]∧x.1 < 65536∧n≤x.1:=by
  obtain ⟨c0,hf,-⟩:=h.ok
  obtain ⟨h1,h2,h3,h4,ho,ha,hb⟩:=hf.place hx
  exact ⟨⟨fun y e => sd_node h.nt.o (ho y e),fun y e => sd_node h.nt.a (ha y e),fun y e => sd_node h.nt.b (hb y e)⟩,h1,h2,h3,h4⟩
/-! ### rows of steps -/
theorem SRow.same {A:Nat→Prop} {base:Nat} {v:Value} {L L':List Fm} (h:SRow A w1 base v L) (e:L'.map Fm.q = L.map Fm.q):SRow A w1 base v L':=by
  have hl:L'.length = L.length:=by simpa using congrArg List.length e
  rcases h with ⟨h1,h2⟩ | ⟨g,cap,cur,vs,h1,hg,hh,h2,h3,h4,h5,h6,h7⟩
  · refine .inl ⟨h1,?_⟩
    rw [h2] at hl
    exact List.eq_nil_of_length_eq_zero hl
  · refine .inr ⟨g,cap,cur,vs,by rw [hl];exact h1,hg,hh,by rw [hl];exact h2,h3,h4,by rw [hl];exact h5,⟨by rw [h6.1,hl],fun i x hx => ?_⟩,by rw [hl];exact h7⟩
    have hi:(L'.map Fm.q)[i]? = some x.q:=by rw [List.getElem?_map,hx];rfl
    rw [e,List.getElem?_map] at hi
    obtain ⟨y,hy,hyq⟩:=Option.map_eq_some_iff.1 hi
    have hq:=h6.2 i y hy
    unfold QSt at hq ⊢
    rw [← hyq]
    exact hq
theorem SRow.pop {A:Nat→Prop} {base g d:Nat} {L:List Fm} {x:Fm} (h:SRow A w1 base (.slice (some ⟨g,0,none⟩) (L ++ [x]).length d) (L ++ [x])) (hA:A x.q):SRow A w1 base (.slice (some ⟨g,0,none⟩) L.length d) L:=by
  rcases h with ⟨h1,h2⟩ | ⟨g',cap,cur,vs,h1,hg,hh,h2,h3,h4,h5,h6,h7⟩
  · simp at h2
  · simp only [Value.slice.injEq,Option.some.injEq,Addr.mk.injEq,and_true,true_and] at h1
    obtain ⟨rfl,rfl⟩:=h1
    have hl:(L ++ [x]).length = L.length + 1:=by simp
    rw [hl] at h2 h5 h7
    have hget:∀ i,i < L.length + 1→vs[i]? = cur[i]?:=fun i hi => by
      rw [← h5,List.getElem?_take,if_pos (by omega)]
      simp
    refine .inr ⟨g,d,cur,cur.toList.take (L.length * 1),rfl,hg,hh,by omega,h3,h4,rfl,⟨?_,fun i y hy => ?_⟩,fun i c hi hc => ?_⟩
    · have hlc:cur.toList.length = d * 1:=by rw [← h4];simp
      rw [List.length_take,hlc];omega
    · have hi:=(List.getElem?_eq_some_iff.1 hy).1
      have hq:=h6.2 i y (by rw [List.getElem?_append_left hi];exact hy)
      unfold QSt at hq ⊢
      simp only [Nat.mul_one,Nat.add_zero] at hq ⊢
      rw [hget i (by omega)] at hq
      rw [List.getElem?_take,if_pos hi]
      simpa using hq
    · rcases Nat.lt_or_ge L.length i with c1 | c1
      · exact h7 i c (by omega) hc
      · have hiL:i = L.length:=by omega
        subst hiL
        have hq:=h6.2 L.length x (by simp)
        unfold QSt at hq
        simp only [Nat.mul_one,Nat.add_zero] at hq
        rw [hget _ (by omega),hc] at hq
        simp only [Option.some.injEq] at hq
        exact .inr ⟨x.q,hA,hq⟩
theorem SRow.cells {A:Nat→Prop} {base g n d:Nat} {L:List Fm} (h:SRow A w1 base (.slice (some ⟨g,0,none⟩) n d) L) (hA:∀ f∈L,A f.q):∀ i u,w1.cell? ⟨g,i,none⟩ = some u→u = .pointer none∨∃ q,A q∧u = .pointer (some ⟨q,0,none⟩):=by
  rcases h with ⟨h1,-⟩ | ⟨g',cap,cur,vs,h1,hg,hh,h2,h3,h4,h5,h6,h7⟩
  · simp at h1
  · simp only [Value.slice.injEq,Option.some.injEq,Addr.mk.injEq,and_true] at h1
    obtain ⟨rfl,rfl,rfl⟩:=h1
    intro i u hi
    rw [cell_of_row w1 _ _ _ _ (0,0) hh] at hi
    rcases Nat.lt_or_ge i L.length with c | c
    · obtain ⟨x,hx⟩:∃ x,L[i]? = some x:=⟨L[i],List.getElem?_eq_getElem c⟩
      have hq:=h6.2 i x hx
      unfold QSt at hq
      simp only [Nat.mul_one,Nat.add_zero] at hq
      rw [← h5,List.getElem?_take,if_pos (by omega),Array.getElem?_toList,hi] at hq
      simp only [Option.some.injEq] at hq
      exact .inr ⟨x.q,hA x (List.mem_of_getElem? hx),hq⟩
    · exact h7 i u (by omega) hi
theorem SRow.app_keeps {A:Nat→Prop} {base:Nat} {v:Value} {L:List Fm} (h:SRow A w1 base v L) (hA:∀ f∈L,A f.q) (h2:∀ q,A q→∃ n,w1.cell? ⟨q,2,none⟩ = some (.int .i64 n)) (hgr:w1.grownBy w2 v.ownBlock):Kp k w1 w2:=by
  intro B t hB hn
  cases hv:v.ownBlock with
  | none =>
    rw [hv] at hgr
    exact hn.below (C:=B) ⟨hgr.os,hgr.tape,hgr.output,by exact hgr.size,fun b hb => hgr.block b (by omega) (by simp)⟩ (Nat.le_refl _) (Nat.le_refl _)
  | some g =>
    obtain ⟨D,d,rfl,-⟩:=h.slice
    cases D with
    | none => simp [Value.ownBlock] at hv
    | some ad =>
      have hD:ad = ⟨g,0,none⟩:=by
        rcases h with ⟨h,-⟩ | ⟨g',cap,cur,vs,h,-⟩
        · simp at h
        · simp only [Value.slice.injEq,Option.some.injEq] at h
          rw [h.1] at hv ⊢
          simp only [Value.ownBlock,Option.some.injEq] at hv
          rw [hv]
      subst hD
      have hsp:=h.cells hA
      have hlt:=(h.lt g rfl).2
      have hu:NoU w1 g:=fun i u hi => by
        rcases hsp i u hi with rfl | ⟨q,-,rfl⟩ <;> exact ⟨fun n e => (by cases e),fun n e => (by cases e)⟩
      have hall:=Node.all _ (Nat.le_refl _) hn
      have hk:∀ b,b≠g→b < w1.heap.size→w2.heap[b]? = w1.heap[b]?:=fun b hb hbl => hgr.block b hbl (by simp only [Value.ownBlock,ne_eq,Option.some.injEq];exact fun e => hb e)
      let wm:World:={ w1 with heap:=w2.heap.extract 0 w1.heap.size }
      have hwm:∀ b,b < w1.heap.size→wm.heap[b]? = w2.heap[b]?:=fun b hb => by
        show (w2.heap.extract 0 w1.heap.size)[b]? = _
        rw [Array.getElem?_extract]
        have:=hgr.size
        rw [if_pos (by omega)]
        congr 1
        omega
      have hwn:∀ b,w1.heap.size≤b→wm.heap[b]? = none:=fun b hb => by
        show (w2.heap.extract 0 w1.heap.size)[b]? = _
        rw [Array.getElem?_extract]
        have:=hgr.size
        rw [if_neg (by omega)]
      have hkm:∀ b,b≠g→wm.heap[b]? = w1.heap[b]?:=fun b hb => by
        rcases Nat.lt_or_ge b w1.heap.size with c | c
        · rw [hwm b c,hk b hb c]
        · rw [hwn b c,Array.getElem?_eq_none c]
      have hnm:Node wm B k t:=by
        refine node_keep (r:=g) (S:=fun _ => True) hkm (fun i u hi hS => absurd trivial hS) hu hn (fun x hx hne => off_any (hall x hx) hne fun y hy i hi => ?_)
        have hny:Node w1 B k y.2:=by
          obtain ⟨g',l',pre,ks,rfl⟩:=Tr.ks_br hy
          exact (hall _ hx).kid hy
        obtain ⟨kp,hnd⟩:=hny.2.nd
        rcases hsp i _ hi with e | ⟨q,hq,e⟩
        · cases e
        · simp only [Value.pointer.injEq,Option.some.injEq,Addr.mk.injEq,and_true] at e
          obtain ⟨n,hn2⟩:=h2 q hq
          rw [← e,hnd.2.2.2.1] at hn2
          cases hn2
      exact hnm.below (C:=w1.heap.size) ⟨hgr.os,hgr.tape,hgr.output,by have:=hgr.size;show (w2.heap.extract 0 w1.heap.size).size≤_;simp;omega,fun b hb => (hwm b hb).symm⟩ hB (Nat.le_refl _)
/-! ### the top frame alone -/
theorem Inn.top {base:Nat} {us:TdM} {v:Value} {F A:Nat→Prop} {f':Fm} (hv:VisitM fc lc fj lj B k M mk r Inv) (h:Inn base Inv F0 us (f :: S) v w1 F A) (hfo:Foot f.own w1 w2) (hq:f'.q = f.q) (hc2:∃ n,w2.cell? ⟨f.q,2,none⟩ = some (.int .i64 n)) (hv':∀ b,f'.v.ownBlock = some b→f.v.ownBlock = some b∨w1.heap.size≤b):Inn base Inv F0 us (f' :: S) v w2 F A:=by
  have hf:f∈f :: S:=List.mem_cons_self
  have hF:∀ b,F b→w2.heap[b]? = w1.heap[b]?:=fun b hb => hfo.block b (hv.inb _ _ _ h.inv b hb).1 fun ho => h.fF f hf b ho hb
  have hown':∀ b,f'.own b→f.own b∨w1.heap.size≤b:=fun b hb => by
    rcases hb with e | e
    · exact .inl (.inl (e.trans hq))
    · exact (hv' b e).imp .inr id
  refine ⟨hv.frame _ _ _ _ h.inv hfo.size hF,h.F0,fun b hb => ⟨(h.own b hb).1,(h.own b hb).2.1,fun g hg => ?_⟩,fun g hg b hb hFb => ?_,fun g hg => ?_,fun q hA => ?_,SRow.same (h.row.block fun b hb => hfo.block b (h.row.lt b hb).2 ((h.own b hb).2.2 f hf)) (by simp [hq])⟩
  · rcases List.mem_cons.1 hg with rfl | hg
    · intro ho
      rcases hown' b ho with c | c
      · exact (h.own b hb).2.2 f hf c
      · have:=(h.row.lt b hb).2;omega
    · exact (h.own b hb).2.2 g (List.mem_cons_of_mem _ hg)
  · rcases List.mem_cons.1 hg with rfl | hg
    · rcases hown' b hb with c | c
      · exact h.fF f hf b c hFb
      · have:=(hv.inb _ _ _ h.inv b hFb).1;omega
    · exact h.fF g (List.mem_cons_of_mem _ hg) b hb hFb
  · rcases List.mem_cons.1 hg with rfl | hg
    · rw [hq];exact h.live f hf
    · exact h.live g (List.mem_cons_of_mem _ hg)
  · obtain ⟨a1,a2,⟨n,a3⟩,a4,a5⟩:=h.all q hA
    refine ⟨a1,Nat.lt_of_lt_of_le a2 hfo.size,?_,a4,fun g hg => ?_⟩
    · by_cases e:q = f.q
      · rw [e];exact hc2
      · exact ⟨n,(World.cell?_of_block (a:=⟨q,2,none⟩) (hfo.block q a2 fun ho => ho.elim e (a5 f hf))).trans a3⟩
    · rcases List.mem_cons.1 hg with rfl | hg
      · intro e
        rcases hv' q e with c | c
        · exact a5 f hf c
        · omega
      · exact a5 g (List.mem_cons_of_mem _ hg)
theorem ThrM.top {P':TdM} {f':Fm} (hv:VisitM fc lc fj lj B k M mk r Inv) (s:ThrM B k C mk r Inv fv jv w F0 P (f :: S) D d β w1) (hfo:Foot f.own w1 w2) (hq:f'.q = f.q) (ht:f'.t = f.t) (hl:f'.l = f.l) (hv':∀ b,f'.v.ownBlock = some b→f.v.ownBlock = some b∨w1.heap.size≤b)
    (hfm:FrM (w.heap.size + 2) w2 f') (hfa:FrA w B k f') (hnd:∀ x∈f'.ps,NodeO w2 w2.heap.size k x.m∧(mk = false→NodeO w B k x.m)∧PtsOk x) (hn:∀ g∈S,∀ x∈g.ps,NodeO w2 w2.heap.size k x.m) (hcl:P ++ clS (f :: S) = P' ++ clS (f' :: S)):ThrM B k C mk r Inv fv jv w F0 P' (f' :: S) D d β w2:=by
  obtain ⟨us,F,A,e,h⟩:=s.inn
  have hlow:∀ b,f.own b→w.heap.size + 2≤b:=fun b hb => ((s.st.fm f List.mem_cons_self).lt b hb).1
  have hc2:∃ n,w2.cell? ⟨f.q,2,none⟩ = some (.int .i64 n):=⟨_,by rw [← hq,cell_of_row w2 _ _ _ _ (0,0) hfm.cell];rfl⟩
  refine ⟨⟨us,F,A,by rw [e,hcl],h.top hv hfo hq hc2 hv'⟩,s.foot.trans hfo (fun b hb => .inr (by have:=hlow b hb;omega)),?_,?_,s.st.top hfa hfm ht (fun b hb => ?_) hnd (fun g hg b hb => ?_) hn,?_⟩
  · have hb:=(Array.getElem?_eq_some_iff.1 s.box).1
    rw [hfo.block _ hb fun ho => by have:=hlow _ ho;omega]
    exact s.box
  · have hb:=(Array.getElem?_eq_some_iff.1 s.atb).1
    rw [hfo.block _ hb fun ho => by have:=hlow _ ho;omega]
    exact s.atb
  · rcases hb with c | c
    · exact .inl (.inl (c.trans hq))
    · exact (hv' b c).imp .inr id
  · exact hfo.block b ((s.st.fm g (List.mem_cons_of_mem _ hg)).lt b hb).2 fun ho => (List.pairwise_cons.1 s.st.dis).1 g hg b ho hb
  · have:=s.lev
    unfold LevM at this ⊢
    rw [hl]
    exact this
end
def PendM (mk:Bool) (r:Int) (t0:Tri):Tri→List Fm→Prop
  | u,[] => u = t0
  | u,f :: S => (∃ ps a,f.ps = ps ++ [⟨a,u,none⟩]∧ResOk mk r ps)∧PendM mk r t0 f.t S
structure MgdM (w:World) (B k:Nat) (mk:Bool) (r:Int) (u:Tri) (wr:World) (m:Option T):Prop where
  nd:NodeO wr wr.heap.size k m
  old:mk = false→NodeO w B k m
  pts:∀ e∈Tr.entsO m,(∃ v,(e.1,v)∈Tr.entsO u.a)∨∃ v,(e.1,v)∈Tr.entsO u.b
  eq:mk = true→Tr.entsO m = Tr.ppT (Tr.mgG r) u
def TrNil (β:Tri):Prop:=rootP β.o = none∧rootP β.a = none∧rootP β.b = none
def BoxO (w:World) (B k:Nat) (β:Tri) (S:List Fm):Prop:=TrNil β∨∀ f∈S,∀ x∈f.ps,NodeO w B k x.m∨DjT β x.m
section
variable {fc fj:Nat} {lc lj:Array Value} {B k M:Nat} {C P:TdM} {mk:Bool} {r:Int} {Inv:TdM→World→(Nat→Prop)→Prop} {fv jv:Value} {w w1 w2:World} {F0:Nat→Prop} {S:List Fm} {D:Option Addr} {d:Nat} {β u:Tri} {f:Fm}
theorem Fm.v_eq {f f':Fm} (hD:f'.D = f.D) (hd:f'.d = f.d) (hl:f'.ps.length = f.ps.length):f'.v = f.v:=by unfold Fm.v;rw [hD,hd,hl]
theorem ThrM.merged {ps:List Pl} {a:Nat} {m:Option T} (hv:VisitM fc lc fj lj B k M mk r Inv) (s:ThrM B k C mk r Inv fv jv w F0 P (f :: S) D d β w1) (hw:Below B w w1) (hps:f.ps = ps ++ [⟨a,u,none⟩]) (hm:MgdM w B k mk r u w1 m) {g:Nat} (hvg:f.v = .slice (some ⟨g,0,none⟩) (ps.length + 1) f.d)
    (hrow:PRow w2 (w.heap.size + 2) (.slice (some ⟨g,0,none⟩) (ps.length + 1) f.d) (ps ++ [⟨a,u,m⟩])) (hfo:Foot (fun b => b = g) w1 w2) (hkp:∀ B x,Node w1 B k x→MergeOk x u→Node w2 B k x) :
    ThrM B k C mk r Inv fv jv w F0 P ({ f with ps:=ps ++ [⟨a,u,m⟩] } :: S) D d β w2:=by
  have hf:=List.mem_cons_self (a:=f) (l:=S)
  have hfa:=s.st.fa f hf
  have hfm:=s.st.fm f hf
  have hou:f.v.ownBlock = some g:=by rw [hvg];rfl
  obtain ⟨ap1,ap2⟩:=s.st.apart hps
  have hu:TriN w1 B k u:=by
    have hmem:(a,u)∈f.t.rem f.l 0:=by
      rw [← hfa.rem,hps]
      simp
    exact (hfa.place hmem).1.below hw (Nat.le_refl _) (Nat.le_refl _)
  have keep:∀ x:Option T,NodeO w1 w1.heap.size k x→(∀ y,x = some y→MergeOk y u)→NodeO w2 w2.heap.size k x:=fun x hn ho y hy => (hkp _ y (hn y hy) (ho y hy)).below (Below.refl w2.heap.size w2) hfo.size hfo.size
  have hdj:∀ x:Option T,NodeO w1 w1.heap.size k x→DjT u x→NodeO w2 w2.heap.size k x:=fun x hn hd => keep x hn fun y hy => mergeOk_dj hu (hn y hy) (by rw [← hy];exact hd)
  have hveq:Fm.v { f with ps:=ps ++ [⟨a,u,m⟩] } = f.v:=Fm.v_eq rfl rfl (by rw [hps];simp)
  have hnx:nextOf (ps ++ [(⟨a,u,m⟩:Pl)]) = nextOf f.ps:=by rw [hps];exact nextOf_set ..
  have hgq:g≠f.q:=fun e => hfm.vq (by rw [hou,e])
  refine s.top (P':=P) hv ⟨hfo.os,hfo.tape,hfo.output,hfo.size,fun b hb hn => hfo.block b hb fun e => hn (.inr (by rw [hou,e]))⟩ rfl rfl rfl (fun b hb => .inl (by rw [hveq] at hb;exact hb)) ⟨?_,?_,?_,hfm.qb⟩ ⟨hfa.ok,hfa.nt,?_,by rw [hnx];exact hfa.n5,?_⟩ (fun x hx => ?_) (fun h hh x hx => hdj x.m (s.st.nd h (List.mem_cons_of_mem _ hh) x hx).1 (ap1 h hh x hx)) ?_
  · rw [hveq]
    exact (hfo.block _ (Array.getElem?_eq_some_iff.1 hfm.cell).1 fun e => hgq e.symm).trans hfm.cell
  · rw [hveq,hvg];exact hrow
  · rw [hveq];exact hfm.vq
  · show (ps ++ [(⟨a,u,m⟩:Pl)]).map (fun x => (x.a,x.t)) ++ f.t.rem f.l (nextOf (ps ++ [(⟨a,u,m⟩:Pl)])) = _
    rw [hnx,← hfa.rem,hps]
    simp
  · show (ps ++ [(⟨a,u,m⟩:Pl)]).length≤_
    rw [hnx]
    have:=hfa.n6
    rw [hps] at this ⊢
    simpa using this
  · rcases List.mem_append.1 hx with hx | hx
    · have hxf:x∈f.ps:=by rw [hps];simp [hx]
      obtain ⟨n1,n2,n3⟩:=s.st.nd f hf x hxf
      exact ⟨hdj x.m n1 (ap2 x hx),n2,n3⟩
    · rw [List.mem_singleton.1 hx]
      exact ⟨keep m hm.nd fun y hy => mergeOk_self (a:=a) hu (hm.nd y hy) (fun e he => hm.pts e (by rw [hy];exact he)),hm.old,hm.pts⟩
  · rw [clS_cons,clS_cons]
    show P ++ (Tr.ppM Tr.clG (f.t.rem f.l (nextOf f.ps)) ++ clS S) = P ++ (Tr.ppM Tr.clG (f.t.rem f.l (nextOf (ps ++ [(⟨a,u,m⟩:Pl)]))) ++ clS S)
    rw [hnx]
theorem ThrM.found {a d5:Nat} {D5:Option Addr} (hv:VisitM fc lc fj lj B k M mk r Inv) (s:ThrM B k C mk r Inv fv jv w F0 [] (f :: S) D d β w1) (hrem:f.t.rem f.l (nextOf f.ps) = (a,u) :: f.t.rem f.l (a + 1)) (ha:a < 65536) (hq:w2.heap[f.q]? = some (.cells (stC f.t f.l (.slice D5 (f.ps.length + 1) d5)) 192 (0,0)))
    (hrow:PRow w2 (w.heap.size + 2) (.slice D5 (f.ps.length + 1) d5) (f.ps ++ [⟨a,u,none⟩])) (hob:(Value.slice D5 (f.ps.length + 1) d5).ownBlock = f.v.ownBlock∨∃ b,(Value.slice D5 (f.ps.length + 1) d5).ownBlock = some b∧w1.heap.size≤b) (hfo:Foot (fun b => b = f.q∨f.v.ownBlock = some b) w1 w2) (hk:Kp k w1 w2) :
    ThrM B k C mk r Inv fv jv w F0 (Tr.ppT Tr.clG u) (⟨f.q,f.l,f.t,f.ps ++ [⟨a,u,none⟩],D5,d5⟩ :: S) D d β w2:=by
  have hf:=List.mem_cons_self (a:=f) (l:=S)
  have hfa:=s.st.fa f hf
  have hfm:=s.st.fm f hf
  have hqs:=(Array.getElem?_eq_some_iff.1 hfm.cell).1
  have hvE:Fm.v ⟨f.q,f.l,f.t,f.ps ++ [⟨a,u,none⟩],D5,d5⟩ = .slice D5 (f.ps.length + 1) d5:=by unfold Fm.v;simp
  have hnx:nextOf (f.ps ++ [(⟨a,u,none⟩:Pl)]) = a + 1:=nextOf_snoc _ _
  have hle:nextOf f.ps≤a:=(hfa.place (x:=(a,u)) (n:=nextOf f.ps) (by rw [hrem];exact List.mem_cons_self)).2.2.2.2
  have kp:∀ x:Option T,NodeO w1 w1.heap.size k x→NodeO w2 w2.heap.size k x:=fun x hn y hy => (hk _ y (Nat.le_refl _) (hn y hy)).below (Below.refl w2.heap.size w2) hfo.size hfo.size
  refine s.top hv hfo rfl rfl rfl (fun b hb => ?_) ⟨?_,?_,?_,hfm.qb⟩ ⟨hfa.ok,hfa.nt,?_,?_,?_⟩ (fun x hx => ?_) (fun g hg x hx => kp x.m (s.st.nd g (List.mem_cons_of_mem _ hg) x hx).1) ?_
  · rw [hvE] at hb
    rcases hob with e | ⟨b',e,hb'⟩
    · exact .inl (e ▸ hb)
    · rw [e] at hb;cases hb;exact .inr hb'
  · rw [hvE];exact hq
  · rw [hvE];exact hrow
  · rw [hvE]
    rcases hob with e | ⟨b',e,hb'⟩
    · rw [e];exact hfm.vq
    · rw [e]
      intro e'
      cases e'
      exact absurd hqs (Nat.not_lt.2 hb')
  · show (f.ps ++ [(⟨a,u,none⟩:Pl)]).map (fun x => (x.a,x.t)) ++ f.t.rem f.l (nextOf (f.ps ++ [(⟨a,u,none⟩:Pl)])) = _
    rw [hnx,← hfa.rem,hrem]
    simp
  · show nextOf (f.ps ++ [(⟨a,u,none⟩:Pl)])≤_
    omega
  · show (f.ps ++ [(⟨a,u,none⟩:Pl)]).length≤nextOf (f.ps ++ [(⟨a,u,none⟩:Pl)])
    have:=hfa.n6
    rw [hnx]
    simp only [List.length_append,List.length_singleton]
    omega
  · rcases List.mem_append.1 hx with hx | hx
    · obtain ⟨n1,n2,n3⟩:=s.st.nd f hf x hx
      exact ⟨kp x.m n1,n2,n3⟩
    · rw [List.mem_singleton.1 hx]
      exact ⟨fun y hy => (by cases hy),fun _ y hy => (by cases hy),fun e he => (by cases he)⟩
  · rw [clS_cons,clS_cons]
    show [] ++ (Tr.ppM Tr.clG (f.t.rem f.l (nextOf f.ps)) ++ clS S) = Tr.ppT Tr.clG u ++ (Tr.ppM Tr.clG (f.t.rem f.l (nextOf (f.ps ++ [(⟨a,u,none⟩:Pl)]))) ++ clS S)
    rw [hrem,hnx,Tr.ppM_cons]
    simp
theorem ThrM.push {l q d5:Nat} {D5:Option Addr} {us:TdM} {F A:Nat→Prop} {wX:World} {c0:List Nat} (hv:VisitM fc lc fj lj B k M mk r Inv) (s:ThrM B k C mk r Inv fv jv w F0 (Tr.ppT Tr.clG u) S D d β w1) (e:C = us ++ (Tr.ppT Tr.clG u ++ clS S)) (h:Inn (w.heap.size + 2) Inv F0 us S (.slice D S.length d) w1 F A) (hbX:Below w1.heap.size w1 wX) (hq0:w1.heap.size≤q) (hqX:wX.heap[q]? = some (.cells (stC u l (.slice none 0 0)) 192 (0,0)))
    (hgr:wX.grownBy w2 (Value.slice D S.length d).ownBlock) (hrow:SRow A w2 (w.heap.size + 2) (.slice D5 (S.length + 1) d5) (S.reverse ++ [⟨q,l,u,[],none,0⟩])) (hob:(Value.slice D5 (S.length + 1) d5).ownBlock = (Value.slice D S.length d).ownBlock∨(Value.slice D5 (S.length + 1) d5).ownBlock = some wX.heap.size)
    (hfr:Tr.FrmOk k l c0 u∧∀ x∈u.list,Tr.Wf k x∧x.lv≤l + 1∧Z.cut x.pre (l + 1) = c0) (hu:TriN w B k u) (hl:l + 1≤roomM S) (hdj:∀ g∈S,∀ x∈g.ps,DjT u x.m) :
    ThrM B k C mk r Inv fv jv w F0 [] (⟨q,l,u,[],none,0⟩ :: S) D5 d5 β w2:=by
  have hqs:=(Array.getElem?_eq_some_iff.1 hqX).1
  have hsX:=hbX.size
  have hx1:∀ b,b < w1.heap.size→wX.heap[b]? = w1.heap[b]?:=fun b hb => hbX.block b hb
  have hne:∀ b,b < wX.heap.size→(Value.slice D S.length d).ownBlock≠some b→w2.heap[b]? = wX.heap[b]?:=fun b hb hn => hgr.block b hb fun e => hn e.symm
  have hrl:=h.row.lt
  have hqv:(Value.slice D S.length d).ownBlock≠some q:=fun e => by have:=(hrl q e).2;omega
  have hq2:w2.heap[q]? = some (.cells (stC u l (.slice none 0 0)) 192 (0,0)):=(hne q hqs hqv).trans hqX
  have h1:=h.below hv hbX
  have hkp:Kp k wX w2:=SRow.app_keeps h1.row (fun f hf => h1.live f (List.mem_reverse.1 hf)) (fun q hq => (h1.all q hq).c2) hgr
  have sX:=s.below hv hbX
  have kp:∀ x:Option T,NodeO wX wX.heap.size k x→NodeO w2 w2.heap.size k x:=fun x hn y hy => (hkp _ y (Nat.le_refl _) (hn y hy)).below (Below.refl w2.heap.size w2) hgr.size hgr.size
  have hFv:∀ b,F b→(Value.slice D S.length d).ownBlock≠some b:=fun b hF e => (h.own b e).1 hF
  have hbase:=(Array.getElem?_eq_some_iff.1 s.atb).1
  have hown5:∀ b,(Value.slice D5 (S.length + 1) d5).ownBlock = some b→(Value.slice D S.length d).ownBlock = some b∨wX.heap.size≤b:=fun b hb => by
    rcases hob with e | e
    · exact .inl (e ▸ hb)
    · rw [e] at hb;cases hb;exact .inr (Nat.le_refl _)
  have hvE:Fm.v ⟨q,l,u,[],none,0⟩ = .slice none 0 0:=rfl
  have hownq:∀ b,Fm.own ⟨q,l,u,[],none,0⟩ b→b = q:=fun b hb => by
    rcases hb with e | e
    · exact e
    · simp [hvE,Value.ownBlock] at e
  have hfq:∀ f∈S,∀ b,f.own b→b < w1.heap.size:=fun f hf b hb => ((s.st.fm f hf).lt b hb).2
  have hstX:=sX.st
  have hblk:∀ f∈S,∀ b,f.own b→w2.heap[b]? = wX.heap[b]?:=fun f hf b hb => hne b (by have:=hfq f hf b hb;omega) fun e => (h.own b e).2.2 f hf hb
  have hst2:StkM w B k mk r (w.heap.size + 2) w2 S:=hstX.carry hblk fun f hf x hx => kp x.m (hstX.nd f hf x hx).1
  have hA':∀ q',A q'→q' < w1.heap.size:=fun q' hq' => (h.all q' hq').lt
  refine ⟨⟨us,F,fun q' => A q'∨q' = q,?_,⟨?_,h.F0,fun b hb => ?_,fun f hf b hb hF => ?_,fun f hf => ?_,fun q' hq' => ?_,?_⟩⟩,?_,?_,?_,⟨?_,?_,?_,?_,?_⟩,?_⟩
  · rw [e,clS_cons]
    show us ++ (Tr.ppT Tr.clG u ++ clS S) = us ++ ([] ++ (Tr.ppM Tr.clG (u.rem l 0) ++ clS S))
    rw [hfr.1.rem Tr.cl_none]
    simp
  · exact hv.frame _ _ _ _ h1.inv hgr.size fun b hb => hne b (hv.inb _ _ _ h1.inv b hb).1 (hFv b hb)
  · rcases hown5 b hb with c | c
    · refine ⟨(h.own b c).1,fun hA => hA.elim (h.own b c).2.1 fun e => hqv (e ▸ c),fun f hf ho => ?_⟩
      rcases List.mem_cons.1 hf with rfl | hf
      · exact hqv (hownq b ho ▸ c)
      · exact (h.own b c).2.2 f hf ho
    · refine ⟨fun hF => ?_,fun hA => ?_,fun f hf ho => ?_⟩
      · have:=(hv.inb _ _ _ h.inv b hF).1;omega
      · rcases hA with hA | rfl
        · have:=hA' b hA;omega
        · omega
      · rcases List.mem_cons.1 hf with rfl | hf
        · have:=hownq b ho;omega
        · have:=hfq f hf b ho;omega
  · rcases List.mem_cons.1 hf with rfl | hf
    · have:=(hv.inb _ _ _ h.inv b hF).1
      have:=hownq b hb
      omega
    · exact h.fF f hf b hb hF
  · rcases List.mem_cons.1 hf with rfl | hf
    · exact .inr rfl
    · exact .inl (h.live f hf)
  · rcases hq' with hq' | rfl
    · obtain ⟨a1,a2,⟨n,a3⟩,a4,a5⟩:=h1.all q' hq'
      refine ⟨a1,Nat.lt_of_lt_of_le a2 hgr.size,⟨n,(World.cell?_of_block (a:=⟨q',2,none⟩) (hne q' a2 fun e => (h.own q' e).2.1 hq')).trans a3⟩,a4,fun f hf => ?_⟩
      rcases List.mem_cons.1 hf with rfl | hf
      · rw [hvE];simp [Value.ownBlock]
      · exact a5 f hf
    · refine ⟨by omega,Nat.lt_of_lt_of_le hqs hgr.size,⟨_,by rw [cell_of_row w2 _ _ _ _ (0,0) hq2];rfl⟩,fun hF => ?_,fun f hf => ?_⟩
      · have:=(hv.inb _ _ _ h.inv _ hF).1;omega
      · rcases List.mem_cons.1 hf with rfl | hf
        · rw [hvE];simp [Value.ownBlock]
        · intro e
          have:=hfq f hf _ (.inr e)
          omega
  · have hr2:SRow (fun q' => A q'∨q' = q) w2 (w.heap.size + 2) (.slice D5 (S.length + 1) d5) (S.reverse ++ [⟨q,l,u,[],none,0⟩]):=hrow.impZ fun i c hc => hc.imp id fun ⟨q',a,b⟩ => ⟨q',.inl a,b⟩
    rw [List.reverse_cons]
    exact hr2
  · have hf1:Foot (fun b => (Value.slice D S.length d).ownBlock = some b) wX w2:=⟨hgr.os,hgr.tape,hgr.output,hgr.size,fun b hb hn => hne b hb hn⟩
    exact sX.foot.trans hf1 fun b hb => .inr (by have:=(hrl b hb).1;omega)
  · rw [hne _ (by omega) fun e => by have:=(hrl _ e).1;omega]
    exact sX.box
  · rw [hne _ (by omega) fun e => by have:=(hrl _ e).1;omega]
    exact sX.atb
  · intro f hf
    rcases List.mem_cons.1 hf with rfl | hf
    · exact ⟨⟨c0,hfr⟩,hu,by simp [nextOf],by simp [nextOf],by simp⟩
    · exact hst2.fa f hf
  · intro f hf
    rcases List.mem_cons.1 hf with rfl | hf
    · exact ⟨hq2,rowZ_nil _ _ _,by rw [hvE];simp [Value.ownBlock],by show w.heap.size + 2≤q;omega⟩
    · exact hst2.fm f hf
  · intro f hf x hx
    rcases List.mem_cons.1 hf with rfl | hf
    · cases hx
    · exact hst2.nd f hf x hx
  · refine List.pairwise_cons.2 ⟨fun g hg b hb hgo => ?_,hst2.dis⟩
    have:=hownq b hb
    have:=hfq g hg b hgo
    omega
  · exact List.pairwise_cons.2 ⟨fun g hg x hx => hdj g hg x hx,hst2.nws⟩
  · refine ⟨?_,s.lev⟩
    have:=s.lev.room
    show l + (S.length + 1)≤64
    omega
theorem ThrM.pop {g:Nat} (s:ThrM B k C mk r Inv fv jv w F0 P (f :: S) (some ⟨g,0,none⟩) d β w1) (hrem:f.t.rem f.l (nextOf f.ps) = []):ThrM B k C mk r Inv fv jv w F0 P S (some ⟨g,0,none⟩) d β w1:=by
  obtain ⟨us,F,A,e,h⟩:=s.inn
  refine ⟨⟨us,F,A,?_,⟨h.inv,h.F0,fun b hb => ⟨(h.own b hb).1,(h.own b hb).2.1,fun f hf => (h.own b hb).2.2 f (List.mem_cons_of_mem _ hf)⟩,fun f hf => h.fF f (List.mem_cons_of_mem _ hf),fun f hf => h.live f (List.mem_cons_of_mem _ hf),fun q hq => ?_,?_⟩⟩,s.foot,s.box,s.atb,s.st.pop,s.lev.2⟩
  · rw [e,clS_cons,hrem]
    simp [Tr.ppM]
  · obtain ⟨a1,a2,a3,a4,a5⟩:=h.all q hq
    exact ⟨a1,a2,a3,a4,fun f hf => a5 f (List.mem_cons_of_mem _ hf)⟩
  · have hr:=h.row
    rw [List.reverse_cons] at hr
    have hl:(f :: S).length = (S.reverse ++ [f]).length:=by simp
    rw [hl] at hr
    have:=SRow.pop hr (h.live f List.mem_cons_self)
    rw [List.length_reverse] at this
    exact this
end
/-! ### what is merged -/
theorem zdO {W:World} {B k:Nat} {o:Option T} (h:NodeO W B k o):Tr.ZS (Tr.entsO o)∧Tr.Dim k (Tr.entsO o):=by
  cases o with
  | none => exact ⟨Tr.ZS.nil,Tr.dim_nil k⟩
  | some t => exact ⟨(h t rfl).1.zs,(h t rfl).1.dim⟩
theorem tri_top {W:World} {B k:Nat} {u:Tri} (h:TriN W B k u):Tr.TriOk k 64 u :=
  ⟨fun _ hx => ⟨(h.mem hx).1,(h.mem hx).1.lv64⟩,fun _ hx _ hy => Tr.cut_top (by rw [(h.mem hx).1.len,(h.mem hy).1.len]) (h.mem hx).1.ok (h.mem hy).1.ok⟩
section
variable {w wr:World} {B k:Nat} {u:Tri} {n:Option T}
theorem becM (h:TriN w B k u) (hn:n = u.a∨n = u.b) (he:BecE u n) (mk:Bool) (r:Int) (hw:Below B w wr) (hB:B≤wr.heap.size):Tr.ppT Tr.clG u = []∧MgdM w B k mk r u wr n∧NodeO w B k n:=by
  have zo:=zdO h.o
  have za:=zdO h.a
  have zb:=zdO h.b
  have hnd:NodeO w B k n:=hn.elim (fun e => e ▸ h.a) (fun e => e ▸ h.b)
  have zn:=zdO hnd
  refine ⟨Tr.cl_of zo.1 za.1 zb.1 zo.2 za.2 zb.2 fun p e => (by rw [he p] at e;cases e),⟨hnd.below hw (Nat.le_refl _) hB,fun _ => hnd,fun e he' => ?_,fun _ => (Tr.mg_of r zo.1 za.1 zb.1 zo.2 za.2 zb.2 zn.1 zn.2 he).symm⟩,hnd⟩
  rcases hn with rfl | rfl
  · exact .inl ⟨e.2,he'⟩
  · exact .inr ⟨e.2,he'⟩
theorem pick_node (r:Int):pickT r u = none∨(∃ x∈u.list,pickT r u = some x):=by
  cases e:pickT r u with
  | none => exact .inl rfl
  | some x =>
    refine .inr ⟨x,?_,rfl⟩
    unfold pickT at e
    split at e
    · exact Tr.Tri.mem.2 (.inr (.inl e))
    · split at e
      · exact Tr.Tri.mem.2 (.inr (.inr e))
      · split at e
        · exact Tr.Tri.mem.2 (.inl e)
        · split at e
          · rcases gr2_or u.a u.b with c | c
            · exact Tr.Tri.mem.2 (.inr (.inl (c.symm.trans e)))
            · exact Tr.Tri.mem.2 (.inr (.inr (c.symm.trans e)))
          · cases e
theorem clashM {p:List Nat} (h:TriN w B k u) (he:EntT p u) (hb:Tr.bec (vO u.o) (vO u.a) (vO u.b) = none) (mk:Bool) (r:Int) (hw:Below B w wr) (hB:B≤wr.heap.size) :
    p.length = k∧Tr.ppT Tr.clG u = [(p,(vO u.o,vO u.a,vO u.b))]∧MgdM w B k mk r u wr (if mk = true then pickT r u else none)∧NodeO w B k (if mk = true then pickT r u else none):=by
  have zo:=zdO h.o
  have za:=zdO h.a
  have zb:=zdO h.b
  have hsome:(∃ v,(p,v)∈Tr.entsO u.a)∨∃ v,(p,v)∈Tr.entsO u.b:=by
    rw [entsO_vO he.a,entsO_vO he.b]
    cases ea:vO u.a with
    | some v => exact .inl ⟨v,by simp⟩
    | none =>
      cases eb:vO u.b with
      | some v => exact .inr ⟨v,by simp⟩
      | none => rw [ea,eb,Tr.bec_ab] at hb;cases hb
  have hp:p.length = k∧Z.Ok p:=by
    rcases hsome with ⟨v,hv⟩ | ⟨v,hv⟩
    · have:=za.2 _ hv;exact ⟨this.1,this.2.1⟩
    · have:=zb.2 _ hv;exact ⟨this.1,this.2.1⟩
  have hpick:NodeO w B k (pickT r u):=fun x hx => by
    rcases pick_node (u:=u) r with e | ⟨y,hy,e⟩
    · rw [e] at hx;cases hx
    · rw [e] at hx;cases hx;exact h.mem hy
  have hpe:∀ x,pickT r u = some x→∃ g v,x = .ent g p v:=fun x hx => by
    rcases pick_node (u:=u) r with e | ⟨y,hy,e⟩
    · rw [e] at hx;cases hx
    · rw [e] at hx;cases hx;exact he _ hy
  have hcl:Tr.ppT Tr.clG u = [(p,(vO u.o,vO u.a,vO u.b))]:=by
    refine (Tr.ppL_uniq Tr.cl_none zo.1 za.1 zb.1 zo.2 za.2 zb.2 (List.pairwise_singleton _ _) fun c => ?_).symm
    rw [getE_vO he.o,getE_vO he.a,getE_vO he.b]
    constructor
    · intro hc
      rw [List.mem_singleton.1 hc]
      refine ⟨hp,?_⟩
      rw [if_pos rfl,if_pos rfl,if_pos rfl]
      simp [Tr.clG,hb]
    · rintro ⟨⟨h1,h2⟩,h3⟩
      by_cases c0:Tr.key p = Tr.key c.1
      · rw [if_pos c0,if_pos c0,if_pos c0] at h3
        have hpc:=(Tr.key_inj (by rw [hp.1,h1]) hp.2 h2).1 c0
        simp only [Tr.clG,hb,Option.some.injEq] at h3
        rw [List.mem_singleton]
        exact Prod.ext hpc.symm h3.symm
      · rw [if_neg c0,if_neg c0,if_neg c0] at h3
        cases h3
  have hmg:Tr.entsO (pickT r u) = Tr.ppT (Tr.mgG r) u:=by
    have zp:=zdO hpick
    refine Tr.ppL_uniq (Tr.mg_none r) zo.1 za.1 zb.1 zo.2 za.2 zb.2 zp.1 fun c => ?_
    rw [getE_vO he.o,getE_vO he.a,getE_vO he.b]
    have hcc:=getE_vO hpe c.1
    have hm:Tr.mgG r (vO u.o) (vO u.a) (vO u.b) = vO (pickT r u):=by rw [pickT_vO];simp [Tr.mgG,hb]
    have hval:Tr.mgG r (if Tr.key p = Tr.key c.1 then vO u.o else none) (if Tr.key p = Tr.key c.1 then vO u.a else none) (if Tr.key p = Tr.key c.1 then vO u.b else none) = Tr.getE (Tr.entsO (pickT r u)) c.1:=by
      rw [hcc]
      split
      · exact hm
      · rfl
    rw [hval]
    constructor
    · intro hc
      have hd:=zp.2 c hc
      exact ⟨⟨hd.1,hd.2.1⟩,(Tr.getE_iff zp.1 zp.2 hd.1 hd.2.1).2 hc⟩
    · rintro ⟨⟨h1,h2⟩,h3⟩
      exact (Tr.getE_iff zp.1 zp.2 h1 h2).1 h3
  have hnd:NodeO w B k (if mk = true then pickT r u else none):=by
    split
    · exact hpick
    · intro x hx;cases hx
  refine ⟨hp.1,hcl,⟨hnd.below hw (Nat.le_refl _) hB,fun _ => hnd,fun e he' => ?_,fun hmk => ?_⟩,hnd⟩
  · split at he'
    · have hep:e.1 = p:=by
        rw [entsO_vO hpe] at he'
        cases hv:vO (pickT r u) with
        | none => rw [hv] at he';cases he'
        | some v => rw [hv] at he';rw [List.mem_singleton.1 he']
      rw [hep]
      exact hsome
    · cases he'
  · rw [if_pos hmk];exact hmg
theorem joinM {mk:Bool} {r:Int} {R:Option T} {f:Fm} (hfa:FrA w B k f) (hnd:NodeO wr wr.heap.size k R) (h0:mk = false→R = none) (h1:mk = true→Tr.entsO R = Tr.ppT (Tr.mgG r) f.t):MgdM w B k mk r f.t wr R:=by
  refine ⟨hnd,fun h x hx => (by rw [h0 h] at hx;cases hx),fun e he => ?_,h1⟩
  cases hm:mk with
  | false => rw [h0 hm] at he;cases he
  | true =>
    rw [h1 hm] at he
    have zo:=zdO hfa.nt.o
    have za:=zdO hfa.nt.a
    have zb:=zdO hfa.nt.b
    exact Tr.mg_in zo.1 za.1 zb.1 zo.2 za.2 zb.2 he
end
/-! ### states -/
section
variable (B k:Nat) (C:TdM) (mk:Bool) (r:Int) (Inv:TdM→World→(Nat→Prop)→Prop) (fv jv:Value) (w:World) (F0:Nat→Prop) (t0:Tri)
structure DownM (u:Tri) (S:List Fm) (D:Option Addr) (d:Nat) (wr:World) (m:Nat):Prop where
  thr:ThrM B k C mk r Inv fv jv w F0 (Tr.ppT Tr.clG u) S D d u wr
  hu:TriN w B k u
  ok:Tr.TriOk k (roomM S) u
  pend:PendM mk r t0 u S
  cnt:m = 4 * (Tr.wgt3 u + wSM S) + 2 * S.length + 1
structure UpM (u β:Tri) (n:Option T) (S:List Fm) (D:Option Addr) (d:Nat) (wr:World) (m:Nat):Prop where
  thr:ThrM B k C mk r Inv fv jv w F0 [] S D d β wr
  mg:MgdM w B k mk r u wr n
  pend:PendM mk r t0 u S
  box:TrNil β∨(β = u∧NodeO w B k n)
  bn:TriN w B k β
  cnt:m = 4 * wSM S + 2 * S.length + 3
structure NextM (f:Fm) (β:Tri) (S:List Fm) (D:Option Addr) (d:Nat) (wr:World) (m:Nat):Prop where
  thr:ThrM B k C mk r Inv fv jv w F0 [] (f :: S) D d β wr
  res:ResOk mk r f.ps
  pend:PendM mk r t0 f.t S
  box:BoxO w B k β (f :: S)
  bn:TriN w B k β
  cnt:m = 4 * wSM (f :: S) + 2 * (S.length + 1) + 2
def EndM (e:Ending) (w':World):Prop:=∃ (R:Option T) (F':Nat→Prop),e = .returned (.pointer (rootP R))∧Inv C w' F'∧(∀ b,F' b→F0 b∨w.heap.size≤b)∧Foot F0 w w'∧MgdM w B k mk r t0 w' R
end
section
variable {fc fj:Nat} {lc lj:Array Value} {B k M:Nat} {C:TdM} {mk:Bool} {r:Int} {Inv:TdM→World→(Nat→Prop)→Prop} {fv jv:Value} {w w1 w2:World} {F0:Nat→Prop} {t0:Tri} {S:List Fm} {D:Option Addr} {d m:Nat} {β u:Tri} {n:Option T} {f:Fm}
theorem UpM.done (h:UpM B k C mk r Inv fv jv w F0 t0 u β n [] D d w1 m):EndM B k C mk r Inv w F0 t0 (.returned (.pointer (rootP n))) w1:=by
  obtain ⟨us,F,A,e,hi⟩:=h.thr.inn
  have hC:C = us:=by rw [e];simp [clS]
  have hu:u = t0:=h.pend
  exact ⟨n,F,rfl,by rw [hC];exact hi.inv,fun b hb => (hi.F0 b hb).imp id (fun c => by omega),h.thr.foot,hu ▸ h.mg⟩
theorem DownM.up (hv:VisitM fc lc fj lj B k M mk r Inv) (h:DownM B k C mk r Inv fv jv w F0 t0 u S D d w1 m) (hB:Below B w w1) (hb:Below w1.heap.size w1 w2) (hw:B≤w1.heap.size) (hn:n = u.a∨n = u.b) (he:BecE u n):∃ m',m' < m∧UpM B k C mk r Inv fv jv w F0 t0 u u n S D d w2 m':=by
  have hB2:Below B w w2:=hB.trans (hb.mono hw)
  obtain ⟨h1,h2,h3⟩:=becM h.hu hn he mk r hB2 (Nat.le_trans hw hb.size)
  refine ⟨_,?_,(h.thr.below hv hb).to h1,h2,h.pend,.inr ⟨rfl,h3⟩,h.hu,rfl⟩
  have:=Tr.wgt3_pos u
  rw [h.cnt]
  omega
theorem DownM.clash {p:List Nat} (hv:VisitM fc lc fj lj B k M mk r Inv) (hF0:∀ b,F0 b→b < w.heap.size∧B≤b) (h:DownM B k C mk r Inv fv jv w F0 t0 u S D d w1 m) (hB:Below B w w1) (hb:Below w1.heap.size w1 w2) (hw0:B≤w.heap.size) (he:EntT p u) (hbc:Tr.bec (vO u.o) (vO u.a) (vO u.b) = none) (hM:C.length≤M) :
    Calls Tryz.prog fc (#[trV u] ++ lc) w2 fun e w3 => e = .returned (.pointer (rootP (if mk = true then pickT r u else none)))∧∃ m',m' < m∧UpM B k C mk r Inv fv jv w F0 t0 u u (if mk = true then pickT r u else none) S D d w3 m':=by
  have hw:B≤w1.heap.size:=Nat.le_trans hw0 hB.size
  obtain ⟨hp,hcl,-,-⟩:=clashM h.hu he hbc mk r hB hw
  refine ((h.thr.below hv hb).to hcl |>.told hv hF0 hw0 h.hu he hp hbc hM).mono ?_
  rintro e w3 ⟨rfl,ht⟩
  have hB3:=ht.old (fun b hb => (hF0 b hb).2) hw0
  obtain ⟨-,-,h2,h3⟩:=clashM h.hu he hbc mk r hB3 (Nat.le_trans hw0 hB3.size)
  refine ⟨rfl,_,?_,ht,h2,h.pend,.inr ⟨rfl,h3⟩,h.hu,rfl⟩
  have:=Tr.wgt3_pos u
  rw [h.cnt]
  omega
end
/-! ### three labels -/
def J3M (J0 J1 J2:Nat→Act→World→Prop):Nat→Nat→Act→World→Prop
  | 0 => J0
  | 1 => J1
  | 2 => J2
  | _ => fun _ _ _ => False
theorem wp_scope_threeM {P:Program} {c r0 r1 r2:Code} {Q:Exit→Act→World→Prop} {a:Act} {w:World} (J0 J1 J2:Nat→Act→World→Prop)
    (h0:findLabel c 0 = some (Code.skip.seq r0)) (h1:findLabel c 1 = some (Code.skip.seq r1)) (h2:findLabel c 2 = some (Code.skip.seq r2))
    (next:∀ m a w,J2 m a w→r2.wp P (jumpsN (fun l a' w' => ∃ m',m' < m∧J3M J0 J1 J2 l m' a' w') Q) a w)
    (up:∀ m,(∀ m' a w,m'≤m→J2 m' a w→r2.wp P (jumpsN (fun l a' w' => ∃ m',m' < m∧J3M J0 J1 J2 l m' a' w') Q) a w) →
      ∀ a w,J0 m a w→r0.wp P (jumpsN (fun l a' w' => ∃ m',m' < m∧J3M J0 J1 J2 l m' a' w') Q) a w)
    (down:∀ m,(∀ m' a w,m'≤m→J0 m' a w→r0.wp P (jumpsN (fun l a' w' => ∃ m',m' < m∧J3M J0 J1 J2 l m' a' w') Q) a w) →
      ∀ a w,J1 m a w→r1.wp P (jumpsN (fun l a' w' => ∃ m',m' < m∧J3M J0 J1 J2 l m' a' w') Q) a w)
    (first:(∀ m a w,J1 m a w→r1.wp P (jumpsN (fun l a' w' => ∃ m',J3M J0 J1 J2 l m' a' w') Q) a w)→c.wp P (jumpsN (fun l a' w' => ∃ m',J3M J0 J1 J2 l m' a' w') Q) a w):(Code.scope c).wp P Q a w:=by
  have u0:∀ m a w,J0 m a w→r0.wp P (jumpsN (fun l a' w' => ∃ m',m' < m∧J3M J0 J1 J2 l m' a' w') Q) a w :=
    fun m a w h => up m (fun m' a w hm h => jumpsN_le (next m' a w h) hm) a w h
  have d1:∀ m a w,J1 m a w→r1.wp P (jumpsN (fun l a' w' => ∃ m',m' < m∧J3M J0 J1 J2 l m' a' w') Q) a w :=
    fun m a w h => down m (fun m' a w hm h => jumpsN_le (u0 m' a w h) hm) a w h
  refine wp_scope_labelsN (fun l => match l with | 0 => Code.skip.seq r0 | 1 => Code.skip.seq r1 | _ => Code.skip.seq r2) (J3M J0 J1 J2) ?_ (first fun m a w h => jumpsN_any (d1 m a w h)) ?_
  · intro l m a w h
    match l,h with
    | 0,_ => exact h0
    | 1,_ => exact h1
    | 2,_ => exact h2
  · intro l m a w h
    match l,h with
    | 0,h => exact wp_seq (wp_skip (u0 m a w h))
    | 1,h => exact wp_seq (wp_skip (d1 m a w h))
    | 2,h => exact wp_seq (wp_skip (next m a w h))
theorem frame_side {k n:Nat} {t:Tri} (ht:Tr.TriOk k n t) (hn:n≤64) (hne:t.list≠[]) {l:Nat} (hl:Tr.lvlT t.list = (l:Int)):∃ c0,(Tr.FrmOk k l c0 t∧∀ x∈t.list,Tr.Wf k x∧x.lv≤l + 1∧Z.cut x.pre (l + 1) = c0)∧l + 1≤n∧Tr.w3M (t.rem l 0) + 1≤Tr.wgt3 t:=by
  obtain ⟨-,hf0,hln,hw⟩:=Tr.frame_new3 ht hn hne hl
  obtain ⟨f,r,hfr⟩:∃ f r,t.list = f :: r:=by
    cases h:t.list with
    | nil => exact absurd h hne
    | cons f r => exact ⟨f,r,rfl⟩
  rw [hfr] at hl
  obtain ⟨-,h2,-⟩:=Tr.lvlF_spec f.pre (f :: r) (-1)
  have hl':Tr.lvlF f.pre (-1) (f :: r) = (l:Int):=hl
  rw [hl',← hfr] at h2
  have hf:f∈t.list:=by rw [hfr];exact List.mem_cons_self
  have wf:=(ht.1 f hf).1
  have hall:∀ x∈t.list,Tr.Wf k x∧x.lv≤l + 1∧Z.cut x.pre (l + 1) = Z.cut f.pre (l + 1):=fun x hx => by
    have w:=(ht.1 x hx).1
    refine ⟨w,by have:=(h2 x hx).2;omega,((Z.cut_eq_iff (by rw [wf.len,w.len]) wf.ok w.ok (l + 1)).2 ?_).symm⟩
    have:=(h2 x hx).1
    omega
  obtain ⟨o1,o2,-⟩:=Tr.sdL_fit (o:=t.o) fun x e => hall x (Tr.Tri.mem.2 (.inl e))
  obtain ⟨a1,a2,-⟩:=Tr.sdL_fit (o:=t.a) fun x e => hall x (Tr.Tri.mem.2 (.inr (.inl e)))
  obtain ⟨b1,b2,-⟩:=Tr.sdL_fit (o:=t.b) fun x e => hall x (Tr.Tri.mem.2 (.inr (.inr e)))
  exact ⟨_,⟨⟨by omega,o1,a1,b1,o2,a2,b2⟩,hall⟩,hln,hw⟩
theorem roomM_le {S:List Fm} (h:LevM S):roomM S≤64:=by have:=h.room;omega
theorem djT_none (β:Tri):DjT β none:=fun _ _ _ _ _ h => by cases h
section
variable {fc fj:Nat} {lc lj:Array Value} {B k M:Nat} {C:TdM} {mk:Bool} {r:Int} {Inv:TdM→World→(Nat→Prop)→Prop} {fv jv:Value} {w w1 w2:World} {F0:Nat→Prop} {t0:Tri} {S:List Fm} {D:Option Addr} {d m:Nat} {β u:Tri} {n:Option T} {f:Fm}
theorem entsL_le {K:KL} {x:Nat × T} (hx:x∈K):x.2.ents.length≤(Tr.entsL K).length:=by
  obtain ⟨a,b,rfl⟩:=List.append_of_mem hx
  simp only [Tr.entsL,List.flatMap_append,List.flatMap_cons,List.length_append]
  omega
theorem FrA.cnt (h:FrA w B k f) {x:Nat × Tri} {i:Nat} (hx:x∈f.t.rem f.l i):cnt3 x.2≤cnt3 f.t:=by
  obtain ⟨c0,hf,-⟩:=h.ok
  obtain ⟨-,-,-,-,ho,ha,hb⟩:=hf.place hx
  obtain ⟨-,-,-,-,eo,ea,eb⟩:=hf
  have key:∀ (o o':Option T),(∀ y,o = some y→(x.1,y)∈Tr.sdL o' f.l)→Tr.entsL (Tr.sdL o' f.l) = Tr.entsO o'→(Tr.entsO o).length≤(Tr.entsO o').length:=fun o o' hm he => by
    cases o with
    | none => exact Nat.zero_le _
    | some y => rw [← he];exact entsL_le (hm y rfl)
  have h1:=key _ _ ho eo
  have h2:=key _ _ ha ea
  have h3:=key _ _ hb eb
  unfold cnt3
  omega
theorem PendM.cnt:∀ {S:List Fm} {u:Tri},PendM mk r t0 u S→(∀ f∈S,FrA w B k f)→cnt3 u≤cnt3 t0
  | [],u,h,_ => by
    have:u = t0:=h
    rw [this]
    exact Nat.le_refl _
  | f :: S,u,h,hfa => by
    obtain ⟨⟨ps,a,hps,-⟩,h2⟩:=h
    have h3:=PendM.cnt h2 fun g hg => hfa g (List.mem_cons_of_mem _ hg)
    have hf:=hfa f List.mem_cons_self
    have h4:=hf.cnt (x:=(a,u)) (i:=0) (by rw [← hf.rem,hps];simp)
    exact Nat.le_trans h4 h3
theorem PendM.apart {base:Nat} (h:PendM mk r t0 u S) (hs:StkM w B k mk r base w1 S):∀ g∈S,∀ x∈g.ps,DjT u x.m:=by
  cases S with
  | nil => intro g hg;cases hg
  | cons f S =>
    obtain ⟨⟨ps,a,hps,-⟩,-⟩:=h
    obtain ⟨h1,h2⟩:=hs.apart hps
    intro g hg x hx
    rcases List.mem_cons.1 hg with rfl | hg
    · rw [hps] at hx
      rcases List.mem_append.1 hx with hx | hx
      · exact h2 x hx
      · rw [List.mem_singleton.1 hx];exact djT_none u
    · exact h1 g hg x hx
theorem StkM.one {base:Nat} (h:StkM w B k mk r base w1 (f :: S)):StkM w B k mk r base w1 [f]:=by
  have hf:=List.mem_cons_self (a:=f) (l:=S)
  exact ⟨fun g hg => (by rw [List.mem_singleton.1 hg];exact h.fa f hf),fun g hg => (by rw [List.mem_singleton.1 hg];exact h.fm f hf),fun g hg => (by rw [List.mem_singleton.1 hg];exact h.nd f hf),List.pairwise_singleton _ _,List.pairwise_singleton _ _⟩
theorem DownM.push {l q d5:Nat} {D5:Option Addr} {us:TdM} {F A:Nat→Prop} {wX:World} (hv:VisitM fc lc fj lj B k M mk r Inv) (h:DownM B k C mk r Inv fv jv w F0 t0 u S D d w1 m) (hne:u.list≠[]) (hl:Tr.lvlT u.list = (l:Int)) (e:C = us ++ (Tr.ppT Tr.clG u ++ clS S)) (hi:Inn (w.heap.size + 2) Inv F0 us S (.slice D S.length d) w1 F A) (hbX:Below w1.heap.size w1 wX) (hq0:w1.heap.size≤q) (hqX:wX.heap[q]? = some (.cells (stC u l (.slice none 0 0)) 192 (0,0)))
    (hgr:wX.grownBy w2 (Value.slice D S.length d).ownBlock) (hrow:SRow A w2 (w.heap.size + 2) (.slice D5 (S.length + 1) d5) (S.reverse ++ [⟨q,l,u,[],none,0⟩])) (hob:(Value.slice D5 (S.length + 1) d5).ownBlock = (Value.slice D S.length d).ownBlock∨(Value.slice D5 (S.length + 1) d5).ownBlock = some wX.heap.size) :
    ∃ m',m' < m∧NextM B k C mk r Inv fv jv w F0 t0 ⟨q,l,u,[],none,0⟩ u S D5 d5 w2 m':=by
  obtain ⟨c0,hfr,hln,hw⟩:=frame_side h.ok (roomM_le h.thr.lev) hne hl
  have hap:=h.pend.apart h.thr.st
  refine ⟨_,?_,h.thr.push hv e hi hbX hq0 hqX hgr hrow hob hfr h.hu hln hap,fun _ x hx => (by cases hx),h.pend,.inr fun g hg x hx => ?_,h.hu,rfl⟩
  · rw [h.cnt,wSM_cons]
    show 4 * (Tr.w3M (u.rem l 0) + wSM S) + 2 * (S.length + 1) + 2 < _
    omega
  · rcases List.mem_cons.1 hg with rfl | hg
    · cases hx
    · exact .inr (hap g hg x hx)
theorem UpM.merge {ps:List Pl} {a:Nat} (hv:VisitM fc lc fj lj B k M mk r Inv) (h:UpM B k C mk r Inv fv jv w F0 t0 u β n (f :: S) D d w1 m) (hw:Below B w w1) (hps:f.ps = ps ++ [⟨a,u,none⟩]) {g:Nat} (hvg:f.v = .slice (some ⟨g,0,none⟩) (ps.length + 1) f.d)
    (hrow:PRow w2 (w.heap.size + 2) (.slice (some ⟨g,0,none⟩) (ps.length + 1) f.d) (ps ++ [⟨a,u,n⟩])) (hfo:Foot (fun b => b = g) w1 w2) (hkp:∀ B x,Node w1 B k x→MergeOk x u→Node w2 B k x) :
    ∃ m',m' < m∧NextM B k C mk r Inv fv jv w F0 t0 { f with ps:=ps ++ [⟨a,u,n⟩] } β S D d w2 m':=by
  obtain ⟨⟨ps',a',hps',hres⟩,hpend⟩:=h.pend
  have hpp:ps' = ps∧a' = a:=by
    have e:=hps'.symm.trans hps
    obtain ⟨e1,e2⟩:=List.append_inj' e rfl
    simp only [List.cons.injEq,Pl.mk.injEq,and_true] at e2
    exact ⟨e1,e2⟩
  obtain ⟨rfl,rfl⟩:=hpp
  obtain ⟨ap1,ap2⟩:=h.thr.st.apart hps
  have hnx:nextOf (ps' ++ [(⟨a',u,n⟩:Pl)]) = nextOf f.ps:=by rw [hps];exact nextOf_set ..
  refine ⟨_,?_,h.thr.merged hv hw hps h.mg hvg hrow hfo hkp,fun hm x hx => ?_,hpend,h.box.imp id ?_,h.bn,rfl⟩
  · rw [h.cnt,wSM_cons,wSM_cons]
    show 4 * (Tr.w3M (f.t.rem f.l (nextOf (ps' ++ [(⟨a',u,n⟩:Pl)]))) + wSM S) + 2 * (S.length + 1) + 2 < 4 * (Tr.w3M (f.t.rem f.l (nextOf f.ps)) + wSM S) + 2 * (S.length + 1) + 3
    rw [hnx]
    omega
  · rcases List.mem_append.1 hx with hx | hx
    · exact hres hm x hx
    · rw [List.mem_singleton.1 hx];exact h.mg.eq hm
  · rintro ⟨rfl,ho⟩ g hg x hx
    rcases List.mem_cons.1 hg with rfl | hg
    · rcases List.mem_append.1 hx with hx | hx
      · exact .inr (ap2 x hx)
      · rw [List.mem_singleton.1 hx];exact .inl ho
    · exact .inr (ap1 g hg x hx)
theorem NextM.found {a d5:Nat} {D5:Option Addr} (hv:VisitM fc lc fj lj B k M mk r Inv) (hF0:∀ b,F0 b→b < w.heap.size∧B≤b) (hB:B≤w.heap.size) (h:NextM B k C mk r Inv fv jv w F0 t0 f β S D d w1 m) (hrem:f.t.rem f.l (nextOf f.ps) = (a,u) :: f.t.rem f.l (a + 1)) (ha:a < 65536) (hq:w2.heap[f.q]? = some (.cells (stC f.t f.l (.slice D5 (f.ps.length + 1) d5)) 192 (0,0)))
    (hrow:PRow w2 (w.heap.size + 2) (.slice D5 (f.ps.length + 1) d5) (f.ps ++ [⟨a,u,none⟩])) (hob:(Value.slice D5 (f.ps.length + 1) d5).ownBlock = f.v.ownBlock∨∃ b,(Value.slice D5 (f.ps.length + 1) d5).ownBlock = some b∧w1.heap.size≤b) (hfo:Foot (fun b => b = f.q∨f.v.ownBlock = some b) w1 w2) (hk:Kp k w1 w2) :
    ∃ m',m' < m∧DownM B k C mk r Inv fv jv w F0 t0 u (⟨f.q,f.l,f.t,f.ps ++ [⟨a,u,none⟩],D5,d5⟩ :: S) D d (((w2.setCell ⟨w.heap.size + 1,0,none⟩ (.pointer (rootP u.o))).setCell ⟨w.heap.size + 1,1,none⟩ (.pointer (rootP u.a))).setCell ⟨w.heap.size + 1,2,none⟩ (.pointer (rootP u.b))) m':=by
  have hfa:=h.thr.st.fa f List.mem_cons_self
  obtain ⟨p1,p2,-,-,-⟩:=hfa.place (x:=(a,u)) (n:=nextOf f.ps) (by rw [hrem];exact List.mem_cons_self)
  have ht:=h.thr.found hv hrem ha hq hrow hob hfo hk
  refine ⟨_,?_,ht.write hv hF0 hB h.bn (h.box.imp id fun hb g hg x hx => ?_),p1,p2,⟨⟨f.ps,a,rfl,h.res⟩,h.pend⟩,rfl⟩
  · rw [h.cnt,wSM_cons,wSM_cons]
    show 4 * (Tr.wgt3 u + (Tr.w3M (f.t.rem f.l (nextOf (f.ps ++ [(⟨a,u,none⟩:Pl)]))) + wSM S)) + 2 * (S.length + 1) + 1 < 4 * (Tr.w3M (f.t.rem f.l (nextOf f.ps)) + wSM S) + 2 * (S.length + 1) + 2
    rw [nextOf_snoc,hrem]
    simp only [Tr.w3M,List.map_cons,List.sum_cons]
    omega
  · rcases List.mem_cons.1 hg with rfl | hg
    · rcases List.mem_append.1 hx with hx | hx
      · exact hb f List.mem_cons_self x hx
      · rw [List.mem_singleton.1 hx];exact .inr (djT_none β)
    · exact hb g (List.mem_cons_of_mem _ hg) x hx
abbrev tri0:Tri:=⟨none,none,none⟩
theorem NextM.nothing (hv:VisitM fc lc fj lj B k M mk r Inv) (hF0:∀ b,F0 b→b < w.heap.size∧B≤b) (hB:B≤w.heap.size) (h:NextM B k C mk r Inv fv jv w F0 t0 f β S D d w1 m) (hb:Below w1.heap.size w1 w2) :
    ThrM B k C mk r Inv fv jv w F0 [] (f :: S) D d tri0 (((w2.setCell ⟨w.heap.size + 1,0,none⟩ (.pointer none)).setCell ⟨w.heap.size + 1,1,none⟩ (.pointer none)).setCell ⟨w.heap.size + 1,2,none⟩ (.pointer none)) :=
  (h.thr.below hv hb).write (u:=tri0) hv hF0 hB h.bn h.box
theorem NextM.join (hv:VisitM fc lc fj lj B k M mk r Inv) (hF0:∀ b,F0 b→b < w.heap.size∧B≤b) (hB:B≤w.heap.size) {g:Nat} (h:NextM B k C mk r Inv fv jv w F0 t0 f β S (some ⟨g,0,none⟩) d w1 m) (hrem:f.t.rem f.l (nextOf f.ps) = []) (ht:ThrM B k C mk r Inv fv jv w F0 [] (f :: S) (some ⟨g,0,none⟩) d tri0 w2) (hcn:cnt3 t0≤1000000000) :
    Calls Tryz.prog fj (#[.pointer (some ⟨f.q,0,none⟩)] ++ lj) w2 fun e w3 => ∃ R m',e = .returned (.pointer (rootP R))∧m' < m∧UpM B k C mk r Inv fv jv w F0 t0 f.t tri0 R S (some ⟨g,0,none⟩) d w3 m':=by
  have hol:=ht.old (fun b hb => (hF0 b hb).2) hB
  refine (hv.join w w2 _ f ht.st.one hrem h.res (Nat.le_trans (h.pend.cnt fun g hg => h.thr.st.fa g (List.mem_cons_of_mem _ hg)) hcn) hB hol hol.size).mono ?_
  rintro e w3 ⟨R,rfl,hb,hnd,h0,h1⟩
  refine ⟨R,_,rfl,?_,(ht.below hv hb).pop hrem,joinM (ht.st.fa f List.mem_cons_self) hnd h0 h1,h.pend,.inl ⟨rfl,rfl,rfl⟩,⟨fun x e => (by cases e),fun x e => (by cases e),fun x e => (by cases e)⟩,rfl⟩
  rw [h.cnt,wSM_cons]
  omega
end
end Go.Proofs.YtmkejbfgdmbejaaGreatDoor
