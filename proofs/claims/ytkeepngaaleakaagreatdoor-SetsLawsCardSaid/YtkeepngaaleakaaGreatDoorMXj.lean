import Derived.Test.YtkeepngaaleakaaGreatDoorMXi
namespace Go.Proofs.YtkeepngaaleakaaGreatDoor
open Go.ChangeShapes Go.WideShapes Go.ChangeAt Go.RowKit
open Tr (T S4 Ent Tri KL)
/-! ### rows cut -/
theorem RowZ.take {α:Type} {e:TypeId} {n:Nat} {Q:(Nat→Option Value)→α→Prop} {Z:Nat→Value→Prop} {w:World} {base g len d:Nat} {L:List α} (h:RowZ e n Q Z w base (.slice (some ⟨g,0,none⟩) len d) L) (hQ:QOk n Q) (hn:0 < n) (hz:∀ f x,Q f x→∀ j c,j < n→f j = some c→Z j c) {m:Nat} (hm:m≤L.length):RowZ e n Q Z w base (.slice (some ⟨g,0,none⟩) m d) (L.take m):=by
  rcases h with ⟨h1,-⟩ | ⟨g',cap,cur,vs,h1,hg,hh,h2,h3,h4,h5,h6,h7⟩
  · simp at h1
  · simp only [Value.slice.injEq,Option.some.injEq,Addr.mk.injEq,and_true] at h1
    obtain ⟨rfl,-,rfl⟩:=h1
    have hl:(L.take m).length = m:=by rw [List.length_take];omega
    have hmn:m * n≤L.length * n:=Nat.mul_le_mul_right _ hm
    have hget:∀ i,i < L.length * n→vs[i]? = cur[i]?:=fun i hi => by
      rw [← h5,List.getElem?_take,if_pos hi]
      simp
    refine .inr ⟨g,d,cur,cur.toList.take (m * n),by rw [hl],hg,hh,by omega,h3,h4,by rw [hl],⟨?_,fun i x hx => ?_⟩,fun i c hi hc => ?_⟩
    · have hlc:cur.toList.length = d * n:=by rw [← h4];simp
      rw [hl,List.length_take,hlc]
      have:L.length * n≤d * n:=Nat.mul_le_mul_right _ h2
      omega
    · have hi:i < m:=by have:=(List.getElem?_eq_some_iff.1 hx).1;omega
      rw [List.getElem?_take,if_pos hi] at hx
      refine hQ.ext _ _ _ (fun j hj => ?_) (h6.2 i x hx)
      have hij:i * n + j < m * n:=idx_lt hi hj
      rw [hget _ (by omega),List.getElem?_take,if_pos hij]
      simp
    · rcases Nat.lt_or_ge i (L.length * n) with c1 | c1
      · have hd:i / n < L.length:=Nat.div_lt_of_lt_mul (by rw [Nat.mul_comm];exact c1)
        obtain ⟨x,hx⟩:=get_lt hd
        have e1:i / n * n + i % n = i:=by rw [Nat.mul_comm];exact Nat.div_add_mod i n
        refine hz _ x (h6.2 _ x hx) (i % n) c (Nat.mod_lt _ hn) ?_
        show vs[i / n * n + i % n]? = _
        rw [e1,hget i c1]
        exact hc
      · exact h7 i c c1 hc
/-! ### rows of steps -/
def SkQ (f:Nat→Option Value) (q:Nat):Prop:=f 0 = some (.pointer (some ⟨q,0,none⟩))
theorem skQ_ok:QOk 1 SkQ where
  ext:=by
    rintro f g s h h0
    exact (h 0 (by omega)).symm.trans h0
  has:=by
    rintro f s h0 j hj
    have:j = 0:=by omega
    subst this
    exact ⟨_,h0,rfl⟩
theorem skQ_nu:∀ f x,SkQ f x→∀ j c,j < 1→f j = some c→NU c:=by
  intro f x h0 j c hj hc
  have:j = 0:=by omega
  subst this
  have h0':f 0 = some (.pointer (some ⟨x,0,none⟩)):=h0
  rw [h0'] at hc
  cases hc
  exact nu_ptr _
theorem nz_ptr:∀ i c,(Value.pointer none).cells[i]? = some c→NZ i c:=by
  intro i c hc
  have hi:i = 0:=by have:=(Array.getElem?_eq_some_iff.1 hc).1;simp [Value.cells] at this;omega
  subst hi
  have hc':some (Value.pointer none) = some c:=hc
  cases hc'
  exact nu_ptr _
abbrev SkRow (w:World) (base:Nat) (v:Value) (L:List Nat):Prop:=RowZ 179 1 SkQ NZ w base v L
theorem SkRow.keeps {k:Nat} {w w':World} {base:Nat} {v:Value} {L:List Nat} (h:SkRow w base v L) (hgr:w.grownBy w' v.ownBlock):Kp k w w' :=
  RowZ.keeps h (by omega) skQ_nu (fun _ _ h => h) (by decide) hgr
/-! ### frames -/
structure FmS where
  q:Nat
  l:Nat
  t:Tri
  P:List PlS
  D:Option Addr
  d:Nat
def FmS.v (f:FmS):Value:=.slice f.D f.P.length f.d
def FmS.own (f:FmS) (b:Nat):Prop:=b = f.q∨f.v.ownBlock = some b
structure FrS (w:World) (B k:Nat) (f:FmS):Prop where
  ok:∃ c0,Tr.FrmOk k f.l c0 f.t∧∀ x∈f.t.list,Tr.Wf k x∧x.lv≤f.l + 1∧Z.cut x.pre (f.l + 1) = c0
  nt:TriN w B k f.t
  ho:f.t.o = none
  rem:f.P ++ f.t.rem f.l (nextP f.P) = f.t.rem f.l 0
  n5:nextP f.P≤65536
  n6:f.P.length≤nextP f.P
  ne:f.t.list≠[]
structure FrC (base:Nat) (wr:World) (f:FmS):Prop where
  cell:wr.heap[f.q]? = some (.cells (stS f.t f.l f.v) 245 (0,0))
  row:PsRow wr base f.v f.P
  vq:f.v.ownBlock≠some f.q
  qb:base≤f.q
theorem FrC.lt {base:Nat} {wr:World} {f:FmS} (h:FrC base wr f):∀ b,f.own b→base≤b∧b < wr.heap.size:=fun b hb => by
  rcases hb with rfl | hb
  · exact ⟨h.qb,(Array.getElem?_eq_some_iff.1 h.cell).1⟩
  · exact h.row.lt b hb
theorem FrC.carry {base:Nat} {wr wr':World} {f:FmS} (h:FrC base wr f) (hb:∀ b,f.own b→wr'.heap[b]? = wr.heap[b]?):FrC base wr' f :=
  ⟨(hb _ (.inl rfl)).trans h.cell,h.row.block fun q hq => hb q (.inr hq),h.vq,h.qb⟩
theorem FrS.place {w:World} {B k:Nat} {f:FmS} (h:FrS w B k f) {x:Nat × Tri} {n:Nat} (hx:x∈f.t.rem f.l n):TriN w B k x.2∧Tr.TriOk k f.l x.2∧x.2.list≠[]∧x.1 < 65536∧n≤x.1∧x.2.o = none:=by
  obtain ⟨c0,hf,-⟩:=h.ok
  obtain ⟨h1,h2,h3,h4,ho,ha,hb⟩:=hf.place hx
  refine ⟨⟨fun y e => sd_node h.nt.o (ho y e),fun y e => sd_node h.nt.a (ha y e),fun y e => sd_node h.nt.b (hb y e)⟩,h1,h2,h3,h4,?_⟩
  cases e:x.2.o with
  | none => rfl
  | some y =>
    have:=ho y e
    rw [h.ho] at this
    cases this
def LevS2:List FmS→Prop
  | [] => True
  | f :: S => f.l + (S.length + 1)≤64∧LevS2 S
def roomS:List FmS→Nat
  | [] => 64
  | f :: _ => f.l
theorem LevS2.room:∀ {S:List FmS},LevS2 S→roomS S + S.length≤64
  | [],_ => Nat.le_refl _
  | _ :: _,h => h.1
def wSS (S:List FmS):Nat:=(S.map fun f => Tr.w3M (f.t.rem f.l (nextP f.P))).sum
theorem wSS_cons (f:FmS) (S:List FmS):wSS (f :: S) = Tr.w3M (f.t.rem f.l (nextP f.P)) + wSS S:=by simp [wSS]
/-! ### who is told -/
def All2 {ρ:Type} (R:Tri→ρ→Prop) (P:List PlS) (xs:List ρ):Prop:=P.length = xs.length∧∀ (i:Nat) (p:PlS) (x:ρ),P[i]? = some p→xs[i]? = some x→R p.2 x
theorem All2.nil {ρ:Type} (R:Tri→ρ→Prop):All2 R [] []:=⟨rfl,fun i p x h => by simp at h⟩
theorem All2.snoc {ρ:Type} {R:Tri→ρ→Prop} {P:List PlS} {xs:List ρ} (h:All2 R P xs) {p:PlS} {x:ρ} (hr:R p.2 x):All2 R (P ++ [p]) (xs ++ [x]):=by
  refine ⟨by simp [h.1],fun i q y hq hy => ?_⟩
  rcases Nat.lt_or_ge i P.length with c | c
  · rw [List.getElem?_append_left c] at hq
    rw [List.getElem?_append_left (by rw [← h.1];exact c)] at hy
    exact h.2 i q y hq hy
  · have hi:=(List.getElem?_eq_some_iff.1 hq).1
    simp only [List.length_append,List.length_singleton] at hi
    have:i = P.length:=by omega
    subst this
    rw [List.getElem?_append_right (Nat.le_refl _)] at hq
    rw [List.getElem?_append_right (by rw [h.1];exact Nat.le_refl _)] at hy
    simp only [Nat.sub_self,List.getElem?_cons_zero,Option.some.injEq] at hq
    rw [h.1] at hy
    simp only [Nat.sub_self,List.getElem?_cons_zero,Option.some.injEq] at hy
    subst hq hy
    exact hr
def TermS (kf:Tri→Bool) (u:Tri):Prop:=u.a = none∨u.b = none∨kf u = true∨∃ p g v g' v',u.a = some (.ent g p v)∧u.b = some (.ent g' p v')
def lvV:Option (Nat × Array Value)→Value
  | none => Value.nilFunc
  | some (f,l) => .func (.func f) #[] l
structure VisitL {ρ:Type} (fk:Nat) (lk:Array Value) (ft:Nat) (lt:Array Value) (lv:Option (Nat × Array Value)) (B k Mx:Nat) (kf:Tri→Bool) (R:Tri→ρ→Prop) (N:Tri→Prop) (Inv:List ρ→World→(Nat→Prop)→Prop) (Stop:World→Prop):Prop where
  entk:∀ args w,(callFunc fk args).run Tryz.prog w = .ok (.enter fk args) w
  entt:∀ args w,(callFunc ft args).run Tryz.prog w = .ok (.enter ft args) w
  entl:∀ fl ll,lv = some (fl,ll)→∀ args w,(callFunc fl args).run Tryz.prog w = .ok (.enter fl args) w
  frame:∀ us w w' F,Inv us w F→w.heap.size≤w'.heap.size→(∀ b,F b→w'.heap[b]? = w.heap[b]?)→Kp k w w'→Inv us w' F
  inb:∀ us w F,Inv us w F→∀ b,F b→b < w.heap.size∧B≤b
  up:∀ l c0 t a u,Tr.FrmOk k l c0 t→t.o = none→(a,u)∈t.rem l 0→N u→N t
  known:∀ us w F u x y,Inv us w F→TriN w B k u→u.o = none→u.a = some x→u.b = some y→B≤w.heap.size→Calls Tryz.prog fk (#[prS u] ++ lk) w fun e w' => e = .returned (.bool (kf u))∧Below w.heap.size w w'
  tell:∀ us w F u,Inv us w F→TriN w B k u→u.o = none→TermS kf u→B≤w.heap.size→us.length + 1≤Mx→Calls Tryz.prog ft (#[prS u] ++ lt) w fun e w' => ∃ F':Nat→Prop,(∀ b,F' b→F b∨w.heap.size≤b)∧Foot F w w' ∧
    ((e = .returned (.bool true)∧(∃ x,R u x∧Inv (us ++ [x]) w' F')∧Kp k w w')∨(e = .returned (.bool false)∧Stop w'∧N u))
  leaven:lv = none→∀ us xs w F f,Inv (us ++ xs) w F→FrS w B k f→f.t.rem f.l (nextP f.P) = []→All2 R f.P xs→∃ x,R f.t x∧Inv (us ++ [x]) w F
  leave:∀ fl ll,lv = some (fl,ll)→∀ us xs w F f base,Inv (us ++ xs) w F→FrS w B k f→FrC base w f→(∀ b,f.own b→¬ F b)→f.t.rem f.l (nextP f.P) = []→All2 R f.P xs→B≤w.heap.size→(us ++ xs).length≤Mx→cnt3 f.t≤1000000000 →
    Calls Tryz.prog fl (#[.pointer (some ⟨f.q,0,none⟩)] ++ ll) w fun e w' => e = .returned (.tuple #[])∧∃ x F',R f.t x∧Inv (us ++ [x]) w' F'∧(∀ b,F' b→F b∨w.heap.size≤b)∧Foot F w w'∧Kp k w w'
def PendS {ρ:Type} (R:Tri→ρ→Prop) (t0:Tri):Tri→List FmS→List ρ→Prop
  | u,[],us => u = t0∧us = []
  | u,f :: S,us => ∃ P' a us' xs,f.P = P' ++ [(a,u)]∧us = us' ++ xs∧All2 R P' xs∧PendS R t0 f.t S us'
def DoneS {ρ:Type} (R:Tri→ρ→Prop) (t0:Tri):List FmS→List ρ→Prop
  | [],us => ∃ x,us = [x]∧R t0 x
  | f :: S,us => ∃ us' xs,us = us' ++ xs∧All2 R f.P xs∧PendS R t0 f.t S us'
theorem PendS.done {ρ:Type} {R:Tri→ρ→Prop} {t0 u:Tri} {S:List FmS} {us:List ρ} (h:PendS R t0 u S us) {x:ρ} (hr:R u x):DoneS R t0 S (us ++ [x]):=by
  cases S with
  | nil =>
    obtain ⟨rfl,rfl⟩:=h
    exact ⟨x,rfl,hr⟩
  | cons f S =>
    obtain ⟨P',a,us',xs,hP,rfl,ha,hp⟩:=h
    refine ⟨us',xs ++ [x],by simp,?_,hp⟩
    rw [hP]
    exact ha.snoc (p:=(a,u)) hr
theorem PendS.fail {ρ:Type} {R:Tri→ρ→Prop} {N:Tri→Prop} {w:World} {B k:Nat} (hup:∀ l c0 t a u,Tr.FrmOk k l c0 t→t.o = none→(a,u)∈t.rem l 0→N u→N t) {t0:Tri}:∀ {S:List FmS} {u:Tri} {us:List ρ},PendS R t0 u S us→(∀ f∈S,FrS w B k f)→N u→N t0
  | [],_,_,h,_,hn => h.1 ▸ hn
  | f :: S,u,us,h,hf,hn => by
    obtain ⟨P',a,us',xs,hP,-,-,hp⟩:=h
    have hfs:=hf f List.mem_cons_self
    obtain ⟨c0,hfo,-⟩:=hfs.ok
    refine PendS.fail hup hp (fun g hg => hf g (List.mem_cons_of_mem _ hg)) (hup f.l c0 f.t a u hfo hfs.ho ?_ hn)
    rw [← hfs.rem,hP]
    simp
end Go.Proofs.YtkeepngaaleakaaGreatDoor
