import Derived.Test.YtmkejbfgdmbejaaGreatDoorMV3
namespace Go.Proofs.YtmkejbfgdmbejaaGreatDoor
open Go.ChangeShapes Go.WideShapes Go.ChangeAt Go.RowKit
open Tr (T S4 Ent Tri)
def mM (hd:Nat→Nat):Nat→Nat
  | 0 => 65536
  | j + 1 => min (mM hd j) (hd j)
def cM (hd:Nat→Nat) (hp:Nat→Option Addr) (j i:Nat):Option Addr:=if i < j∧hd i = mM hd j then hp i else none
theorem mM_le (hd:Nat→Nat) {i j:Nat} (h:i < j):mM hd j≤hd i:=by
  induction j with
  | zero => omega
  | succ j ih =>
    show min (mM hd j) (hd j)≤hd i
    rcases Nat.lt_or_ge i j with c | c
    · have:=ih c;omega
    · have:i = j:=by omega
      subst this
      omega
theorem cM_lt {hd:Nat→Nat} {hp:Nat→Option Addr} {j:Nat} (h:hd j < mM hd j):mM hd (j + 1) = hd j∧∀ i,cM hd hp (j + 1) i = if i = j then hp j else none:=by
  have hm:mM hd (j + 1) = hd j:=by show min (mM hd j) (hd j) = _;omega
  refine ⟨hm,fun i => ?_⟩
  unfold cM
  rw [hm]
  by_cases e:i = j
  · subst e;simp
  · rw [if_neg e,if_neg]
    rintro ⟨h1,h2⟩
    have:=mM_le hd (i:=i) (j:=j) (by omega)
    omega
theorem cM_eq {hd:Nat→Nat} {hp:Nat→Option Addr} {j:Nat} (h:hd j = mM hd j):mM hd (j + 1) = mM hd j∧∀ i,cM hd hp (j + 1) i = if i = j then hp j else cM hd hp j i:=by
  have hm:mM hd (j + 1) = mM hd j:=by show min (mM hd j) (hd j) = _;omega
  refine ⟨hm,fun i => ?_⟩
  unfold cM
  rw [hm]
  by_cases e:i = j
  · subst e;simp [h]
  · rw [if_neg e]
    by_cases c:i < j∧hd i = mM hd j
    · rw [if_pos c,if_pos ⟨by omega,c.2⟩]
    · rw [if_neg c,if_neg]
      rintro ⟨h1,h2⟩
      exact c ⟨by omega,h2⟩
theorem cM_gt {hd:Nat→Nat} {hp:Nat→Option Addr} {j:Nat} (h:mM hd j < hd j):mM hd (j + 1) = mM hd j∧∀ i,cM hd hp (j + 1) i = cM hd hp j i:=by
  have hm:mM hd (j + 1) = mM hd j:=by show min (mM hd j) (hd j) = _;omega
  refine ⟨hm,fun i => ?_⟩
  unfold cM
  rw [hm]
  by_cases c:i < j∧hd i = mM hd j
  · rw [if_pos c,if_pos ⟨by omega,c.2⟩]
  · rw [if_neg c,if_neg]
    rintro ⟨h1,h2⟩
    rcases Nat.lt_or_ge i j with d | d
    · exact c ⟨d,h2⟩
    · have:i = j:=by omega
      subst this
      omega
def HereAt (w:World) (g:Nat) (hd:Nat→Nat) (hp:Nat→Option Addr) (j:Nat):Prop :=
  w.heap[g]? = some (.cells #[.int .i64 (mM hd j:Int),.pointer (cM hd hp j 0),.pointer (cM hd hp j 1),.pointer (cM hd hp j 2),.pointer none] 186 (0,0))
theorem set5 {W:World} {g:Nat} {a0 a1 a2 a3 a4:Value} {ty:TypeId} (b0 b1 b2 b3 b4:Value) (h:W.heap[g]? = some (.cells #[a0,a1,a2,a3,a4] ty (0,0))) :
    (((((W.setCell ⟨g,0,none⟩ b0).setCell ⟨g,1,none⟩ b1).setCell ⟨g,2,none⟩ b2).setCell ⟨g,3,none⟩ b3).setCell ⟨g,4,none⟩ b4).heap[g]? = some (.cells #[b0,b1,b2,b3,b4] ty (0,0)):=by
  have h1:=heap_setCell_same _ g 0 _ _ b0 h
  rw [show (#[a0,a1,a2,a3,a4]:Array Value).setIfInBounds 0 b0 = #[b0,a1,a2,a3,a4] by simp] at h1
  have h2:=heap_setCell_same _ g 1 _ _ b1 h1
  rw [show (#[b0,a1,a2,a3,a4]:Array Value).setIfInBounds 1 b1 = #[b0,b1,a2,a3,a4] by simp] at h2
  have h3:=heap_setCell_same _ g 2 _ _ b2 h2
  rw [show (#[b0,b1,a2,a3,a4]:Array Value).setIfInBounds 2 b2 = #[b0,b1,b2,a3,a4] by simp] at h3
  have h4:=heap_setCell_same _ g 3 _ _ b3 h3
  rw [show (#[b0,b1,b2,a3,a4]:Array Value).setIfInBounds 3 b3 = #[b0,b1,b2,b3,a4] by simp] at h4
  have h5:=heap_setCell_same _ g 4 _ _ b4 h4
  rw [show (#[b0,b1,b2,b3,a4]:Array Value).setIfInBounds 4 b4 = #[b0,b1,b2,b3,b4] by simp] at h5
  exact h5
theorem HereAt.cells {w:World} {g:Nat} {hd:Nat→Nat} {hp:Nat→Option Addr} {j:Nat} (h:HereAt w g hd hp j):w.cell? ⟨g,0,none⟩ = some (.int .i64 (mM hd j:Int))∧w.cell? ⟨g,1,none⟩ = some (.pointer (cM hd hp j 0))∧w.cell? ⟨g,2,none⟩ = some (.pointer (cM hd hp j 1))∧w.cell? ⟨g,3,none⟩ = some (.pointer (cM hd hp j 2))∧w.cell? ⟨g,4,none⟩ = some (.pointer none)∧∀ i,w.frozen? ⟨g,i,none⟩ = false:=by
  have h':w.heap[g]? = some (.cells #[.int .i64 (mM hd j:Int),.pointer (cM hd hp j 0),.pointer (cM hd hp j 1),.pointer (cM hd hp j 2),.pointer none] 186 (0,0)):=h
  refine ⟨?_,?_,?_,?_,?_,fun i => frozen_of_row w g i _ _ h'⟩
  all_goals rw [cell_of_row w _ _ _ _ (0,0) h'];rfl
theorem news_at (w:World) (us:List Value) (e:TypeId):∀ j u,us[j]? = some u→(w.alloc (.cells us.toArray e)).cell? ((⟨w.heap.size,0,none⟩:Addr).add j) = some u:=fun j u hj => by
  rw [Go.WideShapes.add_plain,Nat.zero_add,cell_of_row _ _ _ _ _ (0,0) (heap_at w _ _ rfl)]
  simpa using hj
theorem app_all {k:Nat} {w wr X w5:World} {base:Nat} {v:Value} {ps:List Pl} (hbw:Below w.heap.size w wr) (hBX:Below wr.heap.size wr X) (hrow:PRow w base v ps) (hgr:X.grownBy w5 v.ownBlock) (hch:∀ q i u,v.ownBlock = some q→X.cell? ⟨q,i,none⟩ = some u→w5.cell? ⟨q,i,none⟩ = some u∨ps.length * 5≤i) :
    (∀ b,b < wr.heap.size→v.ownBlock≠some b→w5.heap[b]? = wr.heap[b]?)∧Kp k w w5∧Foot (fun b => v.ownBlock = some b) w w5∧wr.heap.size≤w5.heap.size:=by
  have hb:=Below.andThen hbw hBX
  refine ⟨fun b hb1 hne => (hgr.block b (Nat.lt_of_lt_of_le hb1 hBX.size) (fun e => hne e.symm)).trans (hBX.block b hb1),Kp.trans (Kp.of_below hb) (PRow.app_keeps (hrow.below hb (Nat.le_refl _)) hgr hch) hb.size,(Foot.of_below hb).trans (Foot.grown (F:=fun b => v.ownBlock = some b) hgr (fun q hq => hq)) (fun b hb => .inl hb),Nat.le_trans hBX.size hgr.size⟩
theorem stC_pair {W:World} {q l:Nat} {t:Tri} {v:Value} (_hv:∀ p,v≠.pointer p) (h:W.heap[q]? = some (.cells (stC t l v) 192 (0,0))):∀ i p r,W.cell? ⟨q,i,none⟩ = some (.pointer p)→W.cell? ⟨q,i + 1,none⟩≠some (.pointer r):=fun i p r hi hi' => by
  rw [cell_of_row W q _ _ _ (0,0) h] at hi hi'
  have hlt:i + 1 < 10:=(Array.getElem?_eq_some_iff.1 hi').1
  have hi9:i < 9:=by omega
  match i,hi9 with
  | 0,_ => exact absurd hi' (by simp)
  | 1,_ => exact absurd hi (by simp)
  | 2,_ => exact absurd hi (by simp)
  | 3,_ => exact absurd hi' (by simp)
  | 4,_ => exact absurd hi (by simp)
  | 5,_ => exact absurd hi (by simp)
  | 6,_ => exact absurd hi' (by simp)
  | 7,_ => exact absurd hi (by simp)
  | 8,_ => exact absurd hi (by simp)
theorem stC_noU {W:World} {q l:Nat} {t:Tri} {A:Option Addr} {n c:Nat} (h:W.heap[q]? = some (.cells (stC t l (.slice A n c)) 192 (0,0))):NoU W q:=fun i u hu => by
  rw [cell_of_row W q _ _ _ (0,0) h] at hu
  have hi:i < 10:=(Array.getElem?_eq_some_iff.1 hu).1
  match i,hi with
  | 0,_ => have e:some (Value.pointer (rootP t.o)) = some u:=hu;cases e;exact ⟨fun n e => (by cases e),fun n e => (by cases e)⟩
  | 1,_ => have e:some (Value.bool (sdK t.o l)) = some u:=hu;cases e;exact ⟨fun n e => (by cases e),fun n e => (by cases e)⟩
  | 2,_ => have e:some (Value.int .i64 (sdA t.o l:Int)) = some u:=hu;cases e;exact ⟨fun n e => (by cases e),fun n e => (by cases e)⟩
  | 3,_ => have e:some (Value.pointer (rootP t.a)) = some u:=hu;cases e;exact ⟨fun n e => (by cases e),fun n e => (by cases e)⟩
  | 4,_ => have e:some (Value.bool (sdK t.a l)) = some u:=hu;cases e;exact ⟨fun n e => (by cases e),fun n e => (by cases e)⟩
  | 5,_ => have e:some (Value.int .i64 (sdA t.a l:Int)) = some u:=hu;cases e;exact ⟨fun n e => (by cases e),fun n e => (by cases e)⟩
  | 6,_ => have e:some (Value.pointer (rootP t.b)) = some u:=hu;cases e;exact ⟨fun n e => (by cases e),fun n e => (by cases e)⟩
  | 7,_ => have e:some (Value.bool (sdK t.b l)) = some u:=hu;cases e;exact ⟨fun n e => (by cases e),fun n e => (by cases e)⟩
  | 8,_ => have e:some (Value.int .i64 (sdA t.b l:Int)) = some u:=hu;cases e;exact ⟨fun n e => (by cases e),fun n e => (by cases e)⟩
  | 9,_ => have e:some (Value.slice A n c) = some u:=hu;cases e;exact ⟨fun n e => (by cases e),fun n e => (by cases e)⟩
theorem step_set {k:Nat} {W:World} {q l:Nat} {t:Tri} {A A':Option Addr} {n c n' c':Nat} (h:W.heap[q]? = some (.cells (stC t l (.slice A n c)) 192 (0,0))):(W.setCell ⟨q,9,none⟩ (.slice A' n' c')).heap[q]? = some (.cells (stC t l (.slice A' n' c')) 192 (0,0))∧∀ B x,Node W B k x→Node (W.setCell ⟨q,9,none⟩ (.slice A' n' c')) B k x:=by
  have h2:=heap_setCell_same _ q 9 _ _ (.slice A' n' c') h
  rw [show (stC t l (.slice A n c)).setIfInBounds 9 (.slice A' n' c') = stC t l (.slice A' n' c') by simp [stC]] at h2
  refine ⟨h2,fun B x hn => ?_⟩
  have hall:=Node.all _ (Nat.le_refl _) hn
  refine node_keep (r:=q) (S:=fun i => i = 9) (fun b hb => Below.heap_setCell W ⟨q,9,none⟩ _ b hb) (fun i u hi hS => ?_) (stC_noU h) hn (fun y hy hne => off_pair (hall y hy) hne (stC_pair (fun p e => by cases e) h))
  rw [cell_of_row W q _ _ _ (0,0) h] at hi
  rw [cell_of_row _ q _ _ _ (0,0) h2]
  have hi10:i < 10:=(Array.getElem?_eq_some_iff.1 hi).1
  have hi9:i < 9:=by omega
  match i,hi9 with
  | 0,_ => exact hi
  | 1,_ => exact hi
  | 2,_ => exact hi
  | 3,_ => exact hi
  | 4,_ => exact hi
  | 5,_ => exact hi
  | 6,_ => exact hi
  | 7,_ => exact hi
  | 8,_ => exact hi
theorem Foot.of_below' {F:Nat→Prop} {B:Nat} {w w':World} (h:Below B w w') (hF:∀ b,B≤b→b < w.heap.size→w'.heap[b]? = w.heap[b]?∨F b):Foot F w w' :=
  ⟨h.os,h.tape,h.output,h.size,fun b hb hnF => by
    rcases Nat.lt_or_ge b B with c | c
    · exact h.block b c
    · exact (hF b c hb).resolve_right hnF⟩
theorem on_end {k l m n c d5 q base XS:Nat} {w wr w5:World} {t:Tri} {A:Option Addr} {D5:Option Addr} {L:List Pl} {p0 p1 p2:Value} (hlt:w.heap.size < wr.heap.size) (hq:q < w.heap.size) (hv:∀ b,(Value.slice A n c).ownBlock = some b→b < w.heap.size) (hvq:(Value.slice A n c).ownBlock≠some q) (hown:PRow w5 base (.slice D5 m d5) L) (hat:(Value.slice D5 m d5).ownBlock = (Value.slice A n c).ownBlock∨(Value.slice D5 m d5).ownBlock = some XS) (hXS:wr.heap.size≤XS)
    (hall:(∀ b,b < wr.heap.size→(Value.slice A n c).ownBlock≠some b→w5.heap[b]? = wr.heap[b]?)∧Kp k w w5∧Foot (fun b => (Value.slice A n c).ownBlock = some b) w w5∧wr.heap.size≤w5.heap.size) (h5q:w5.heap[q]? = some (.cells (stC t l (.slice A n c)) 192 (0,0))) {W9:World} (hW:W9 = ((((w5.setCell ⟨q,9,none⟩ (.slice D5 m d5)).setCell ⟨w.heap.size,0,none⟩ p0).setCell ⟨w.heap.size,1,none⟩ p1).setCell ⟨w.heap.size,2,none⟩ p2)) :
    W9.heap[q]? = some (.cells (stC t l (.slice D5 m d5)) 192 (0,0))∧PRow W9 base (.slice D5 m d5) L∧((Value.slice D5 m d5).ownBlock = (Value.slice A n c).ownBlock∨∃ b,(Value.slice D5 m d5).ownBlock = some b∧w.heap.size≤b)∧Foot (fun b => b = q∨(Value.slice A n c).ownBlock = some b) w W9∧Kp k w W9:=by
  obtain ⟨h6,hk6⟩:=step_set (k:=k) (A':=D5) (n':=m) (c':=d5) h5q
  have hfar:∀ b,b≠w.heap.size→W9.heap[b]? = (w5.setCell ⟨q,9,none⟩ (.slice D5 m d5)).heap[b]?:=fun b hb => by
    rw [hW,Below.heap_setCell _ ⟨w.heap.size,2,none⟩ _ b hb,Below.heap_setCell _ ⟨w.heap.size,1,none⟩ _ b hb,Below.heap_setCell _ ⟨w.heap.size,0,none⟩ _ b hb]
  have hbel:Below w.heap.size (w5.setCell ⟨q,9,none⟩ (.slice D5 m d5)) W9:=by
    rw [hW]
    exact (((Below.refl w.heap.size (w5.setCell ⟨q,9,none⟩ (.slice D5 m d5))).setCell (p:=⟨w.heap.size,0,none⟩) (Nat.le_refl _) _).setCell (p:=⟨w.heap.size,1,none⟩) (Nat.le_refl _) _).setCell (p:=⟨w.heap.size,2,none⟩) (Nat.le_refl _) _
  have hob:∀ b,(Value.slice D5 m d5).ownBlock = some b→b≠q∧b≠w.heap.size:=fun b hb => by
    rcases hat with e | e
    · rw [e] at hb
      exact ⟨fun e' => hvq (e' ▸ hb),fun e' => by have:=hv b hb;omega⟩
    · rw [e] at hb
      cases hb
      exact ⟨by omega,by omega⟩
  refine ⟨(hfar q (by omega)).trans h6,hown.block fun b hb => ?_,hat.imp id (fun e => ⟨_,e,by omega⟩),?_,fun B x hB hn => ?_⟩
  · rw [hfar b (hob b hb).2,Below.heap_setCell _ ⟨q,9,none⟩ _ b (hob b hb).1]
  · have hf0:Foot (fun b => b = q∨(Value.slice A n c).ownBlock = some b) w w5:=⟨hall.2.2.1.os,hall.2.2.1.tape,hall.2.2.1.output,hall.2.2.1.size,fun b hb hn => hall.2.2.1.block b hb (fun e => hn (.inr e))⟩
    refine (hf0.trans (F1:=fun b => b = q∨b = w.heap.size) ?_ (fun b hb => ?_))
    · exact (((Foot.setCell w5 (F:=fun b => b = q∨b = w.heap.size) (a:=⟨q,9,none⟩) (.inl rfl) _).trans (F1:=fun b => b = q∨b = w.heap.size) (Foot.of_below' hbel (fun b _ _ => by
        by_cases e:b = w.heap.size
        · exact .inr (.inr e)
        · exact .inl (hfar b e))) (fun b hb => .inl hb)))
    · rcases hb with e | e
      · exact .inl (.inl e)
      · exact .inr (by omega)
  · exact (hk6 B x (hall.2.1 B x hB hn)).below hbel hB (Nat.le_refl _)
def f3 {α:Type} (x y z:α):Nat→α
  | 0 => x
  | 1 => y
  | _ => z
def OnE (k l:Nat) (t:Tri) (q base n:Nat) (v:Value) (ps:List Pl) (w:World) (e:Ending) (w':World):Prop :=
  (t.rem l n = []∧e = .returned (.tuple #[p3V none none none,.bool false])∧Below w.heap.size w w') ∨
  ∃ a u D d,t.rem l n = (a,u) :: t.rem l (a + 1)∧a < 65536∧e = .returned (.tuple #[trV u,.bool true])∧w'.heap[q]? = some (.cells (stC t l (.slice D (ps.length + 1) d)) 192 (0,0))∧PRow w' base (.slice D (ps.length + 1) d) (ps ++ [⟨a,u,none⟩]) ∧
    ((Value.slice D (ps.length + 1) d).ownBlock = v.ownBlock∨∃ b,(Value.slice D (ps.length + 1) d).ownBlock = some b∧w.heap.size≤b)∧Foot (fun b => b = q∨v.ownBlock = some b) w w'∧Kp k w w'
set_option maxRecDepth 1000000 in
set_option maxHeartbeats 8000000 in
theorem mOn_c {w:World} {B k l:Nat} {t:Tri} (h:TriN w B k t) (hB:B≤w.heap.size) (hT:∀ w',Below w.heap.size w w'→Tz w') {c0:List Nat} (hf:Tr.FrmOk k l c0 t) {q base d:Nat} {D:Option Addr} {ps:List Pl} (hq:w.heap[q]? = some (.cells (stC t l (.slice D ps.length d)) 192 (0,0)))
    (hv:PRow w base (.slice D ps.length d) ps) (hvq:(Value.slice D ps.length d).ownBlock≠some q) (hbase:base≤w.heap.size) (hl:ps.length≤65536) {n:Nat} (hn:nextOf ps = n) (hn5:n≤65536) :
    Calls Tryz.prog 113 #[.pointer (some ⟨q,0,none⟩)] w fun e w' => OnE k l t q base n (.slice D ps.length d) ps w e w':=by
  obtain ⟨h64,fo,fa,fb,-⟩:=hf
  have hqs:q < w.heap.size:=(Array.getElem?_eq_some_iff.1 hq).1
  obtain ⟨W0,hW0⟩:∃ W0,W0 = w.alloc (.cells #[.pointer none,.pointer none,.pointer none] 98):=⟨_,rfl⟩
  have hb0:Below w.heap.size w W0:=by rw [hW0];exact below_alloc _ _
  have hr0:W0.heap[w.heap.size]? = some (.cells #[.pointer none,.pointer none,.pointer none] 98 (0,0)):=by rw [hW0];exact heap_at w _ _ rfl
  have hq0:=keepz hq hb0
  have c9:W0.cell? ⟨q,9,none⟩ = some (.slice D ps.length d):=by rw [cell_of_row W0 _ _ _ _ (0,0) hq0];rfl
  have hv0:=hv.below hb0 (Nat.le_refl _)
  obtain ⟨x0,hx0⟩:∃ x,Tr.hdA (Tr.dropF (Tr.sdL t.o l) n) = x:=⟨_,rfl⟩
  obtain ⟨x1,hx1⟩:∃ x,Tr.hdA (Tr.dropF (Tr.sdL t.a l) n) = x:=⟨_,rfl⟩
  obtain ⟨x2,hx2⟩:∃ x,Tr.hdA (Tr.dropF (Tr.sdL t.b l) n) = x:=⟨_,rfl⟩
  obtain ⟨u0,hu0⟩:∃ x,Tr.hdT (Tr.dropF (Tr.sdL t.o l) n) = x:=⟨_,rfl⟩
  obtain ⟨u1,hu1⟩:∃ x,Tr.hdT (Tr.dropF (Tr.sdL t.a l) n) = x:=⟨_,rfl⟩
  obtain ⟨u2,hu2⟩:∃ x,Tr.hdT (Tr.dropF (Tr.sdL t.b l) n) = x:=⟨_,rfl⟩
  have HO:=Lib.hid fun (w1:World) (hb:Below w.heap.size w w1) => mFrom_c (l:=l) (h.o.below hb hB (Nat.le_refl B)) (Nat.le_trans hB hb.size) (fun w' h' => hT w' (Below.andThen hb h')) fo n hn5 x0 u0 hx0 hu0
  have HA:=Lib.hid fun (w1:World) (hb:Below w.heap.size w w1) => mFrom_c (l:=l) (h.a.below hb hB (Nat.le_refl B)) (Nat.le_trans hB hb.size) (fun w' h' => hT w' (Below.andThen hb h')) fa n hn5 x1 u1 hx1 hu1
  have HBb:=Lib.hid fun (w1:World) (hb:Below w.heap.size w w1) => mFrom_c (l:=l) (h.b.below hb hB (Nat.le_refl B)) (Nat.le_trans hB hb.size) (fun w' h' => hT w' (Below.andThen hb h')) fb n hn5 x2 u2 hx2 hu2
  have hrem:=Tr.rem3_step fo.1 fa.1 fb.1 fo.lt5 fa.lt5 fb.lt5 n hn5 (i:=mM (f3 x0 x1 x2) 3) (by
    obtain ⟨-,l1,-⟩:=Tr.hd_get fo.1 fo.lt5 n hn5
    obtain ⟨-,l2,-⟩:=Tr.hd_get fa.1 fa.lt5 n hn5
    obtain ⟨-,l3,-⟩:=Tr.hd_get fb.1 fb.lt5 n hn5
    rw [hx0] at l1
    rw [hx1] at l2
    rw [hx2] at l3
    rw [hx0,hx1,hx2]
    simp only [mM,f3]
    omega)
  rw [hx0,hx1,hx2,hu0,hu1,hu2] at hrem
  have HW:=Lib.hid (And.intro hW0 (And.intro hb0 (And.intro hr0 (And.intro hq0 hqs))))
  have HH:=Lib.hid (And.intro hv (And.intro hvq (And.intro hbase (And.intro hl (And.intro hn5 hrem)))))
  clear h hB hT fo fa fb h64 hq hv hW0 hb0 hr0 hq0 hqs hx0 hx1 hx2 hu0 hu1 hu2 hrem hvq hbase
  have q0:=HW.out.2.2.2.1
  have b0:∀ ob,(W0.alloc ob).heap[q]? = some (.cells (stC t l (.slice D ps.length d)) 192 (0,0)):=fun ob => heap_past ob q0
  have hcq:∀ ob (i:Nat) (v:Value),(stC t l (.slice D ps.length d))[i]? = some v→(W0.alloc ob).cell? ⟨q,i,none⟩ = some v:=fun ob i v hi => by rw [cell_of_row _ _ _ _ _ (0,0) (b0 ob)];exact hi
  have k0:∀ ob,(W0.alloc ob).cell? ⟨q,0,none⟩ = some (.pointer (rootP t.o)):=fun ob => hcq ob 0 _ rfl
  have k1:∀ ob,(W0.alloc ob).cell? ⟨q,1,none⟩ = some (.bool (sdK t.o l)):=fun ob => hcq ob 1 _ rfl
  have k2:∀ ob,(W0.alloc ob).cell? ⟨q,2,none⟩ = some (.int .i64 (sdA t.o l:Int)):=fun ob => hcq ob 2 _ rfl
  have k3:∀ ob,(W0.alloc ob).cell? ⟨q,3,none⟩ = some (.pointer (rootP t.a)):=fun ob => hcq ob 3 _ rfl
  have k4:∀ ob,(W0.alloc ob).cell? ⟨q,4,none⟩ = some (.bool (sdK t.a l)):=fun ob => hcq ob 4 _ rfl
  have k5:∀ ob,(W0.alloc ob).cell? ⟨q,5,none⟩ = some (.int .i64 (sdA t.a l:Int)):=fun ob => hcq ob 5 _ rfl
  have k6:∀ ob,(W0.alloc ob).cell? ⟨q,6,none⟩ = some (.pointer (rootP t.b)):=fun ob => hcq ob 6 _ rfl
  have k7:∀ ob,(W0.alloc ob).cell? ⟨q,7,none⟩ = some (.bool (sdK t.b l)):=fun ob => hcq ob 7 _ rfl
  have k8:∀ ob,(W0.alloc ob).cell? ⟨q,8,none⟩ = some (.int .i64 (sdA t.b l:Int)):=fun ob => hcq ob 8 _ rfl
  have hstart:HereAt (W0.alloc (.cells #[.int .i64 65536,.pointer none,.pointer none,.pointer none,.pointer none] 186)) W0.heap.size (f3 x0 x1 x2) (f3 (rootP u0) (rootP u1) (rootP u2)) 0:=by
    unfold HereAt
    have e:∀ i,cM (f3 x0 x1 x2) (f3 (rootP u0) (rootP u1) (rootP u2)) 0 i = none:=fun i => by unfold cM;rw [if_neg (by omega)]
    rw [e,e,e]
    exact heap_at W0 _ _ rfl
  have HS:=Lib.hid (And.intro hstart (below_alloc W0 (.cells #[.int .i64 65536,.pointer none,.pointer none,.pointer none,.pointer none] 186)))
  clear q0 b0 hcq hstart
  obtain ⟨po,hpo⟩:∃ v,rootP t.o = v:=⟨_,rfl⟩
  obtain ⟨pa,hpa⟩:∃ v,rootP t.a = v:=⟨_,rfl⟩
  obtain ⟨pb,hpb⟩:∃ v,rootP t.b = v:=⟨_,rfl⟩
  obtain ⟨ko,hko⟩:∃ v,sdK t.o l = v:=⟨_,rfl⟩
  obtain ⟨ka,hka⟩:∃ v,sdK t.a l = v:=⟨_,rfl⟩
  obtain ⟨kb,hkb⟩:∃ v,sdK t.b l = v:=⟨_,rfl⟩
  obtain ⟨ao,hao⟩:∃ v,sdA t.o l = v:=⟨_,rfl⟩
  obtain ⟨aa,haa⟩:∃ v,sdA t.a l = v:=⟨_,rfl⟩
  obtain ⟨ab,hab⟩:∃ v,sdA t.b l = v:=⟨_,rfl⟩
  rw [hpo] at k0 HO
  rw [hpa] at k3 HA
  rw [hpb] at k6 HBb
  rw [hko] at k1 HO
  rw [hka] at k4 HA
  rw [hkb] at k7 HBb
  rw [hao] at k2 HO
  rw [haa] at k5 HA
  rw [hab] at k8 HBb
  clear hpo hpa hpb hko hka hkb hao haa hab
  rcases List.eq_nil_or_concat ps with rfl | ⟨ps',x,rfl⟩
  · have hn':n = 0:=hn.symm
    subst hn'
    have z0:=True.intro
    have e4:=True.intro
    have m1:=True.intro
    have m2:=True.intro
    have m3:=True.intro
    have m4:=True.intro
    have m5:=True.intro
    simp only [List.length_nil] at c9 hv0 hl
    clear hn
    go_enter Tryz.func113,Tryz.ntmps113
    go_upto_region 1 with fail
    rw [← HW.out.1]
    go_upto_region 6 with fail
    clear z0 e4 m1 m2 m3 m4 m5
    go_wp2_with fail
    obtain ⟨hd,hhd⟩:∃ hd,f3 x0 x1 x2 = hd:=⟨_,rfl⟩
    obtain ⟨hp,hhp⟩:∃ hp,f3 (rootP u0) (rootP u1) (rootP u2) = hp:=⟨_,rfl⟩
    have h0:x0 = hd 0∧x1 = hd 1∧x2 = hd 2∧rootP u0 = hp 0∧rootP u1 = hp 1∧rootP u2 = hp 2:=by rw [← hhd,← hhp];exact ⟨rfl,rfl,rfl,rfl,rfl,rfl⟩
    rw [hhd,hhp] at HS
    have HDP:=Lib.hid (And.intro hhd (And.intro hhp h0))
    rw [h0.1,h0.2.2.2.1] at HO
    rw [h0.2.1,h0.2.2.2.2.1] at HA
    rw [h0.2.2.1,h0.2.2.2.2.2] at HBb
    clear hhd hhp h0 k0 k1 k2 k3 k4 k5 k6 k7 k8 c9 hv0 hl
    go_loopw [33] (fun i wr => ∃ j:Nat,j≤3∧i = .int .i64 (j:Int)∧HereAt wr W0.heap.size hd hp j∧Below W0.heap.size W0 wr) (fun i _ => 3 - (intOf i).toNat)
    case atStart => exact ⟨0,by omega,rfl,HS.out.1,HS.out.2⟩
    case round =>
      clear HS
      obtain ⟨j,hj,rfl,hh,hbr⟩:=hrel
      have HR:=Lib.hid (And.intro hh hbr)
      have HS:=Lib.hid (And.intro hbr.size (Array.getElem?_eq_some_iff.1 hh).1)
      clear hh hbr
      rcases (show j = 0∨j = 1∨j = 2∨j = 3 by omega) with rfl | rfl | rfl | rfl
      · have i0:∀ w:World,(Instr.index 190 (.agg #[.pointer po,.bool ko,.int .i64 (ao:Int),.pointer pa,.bool ka,.int .i64 (aa:Int),.pointer pb,.bool kb,.int .i64 (ab:Int)]) (.int .i64 0)).run Tryz.prog w = .ok (sdV po ko ao) w:=fun _ => by kernel_rfl
        simp only [show ((0:Nat):Int) = 0 from rfl] at *
        go_wp2_with fail
        refine (HO.out _ (Below.andThen HW.out.2.1 (Below.andThen HR.out.2 (below_alloc wr _)))).mono ?_
        rintro e w2 ⟨rfl,hb2⟩
        have hbx:Below wr.heap.size wr w2:=Below.andThen (below_alloc wr _) hb2
        have hh2:HereAt w2 W0.heap.size hd hp 0:=(hbx.block _ HS.out.2).trans HR.out.1
        obtain ⟨y0,y1,y2,y3,y4,yf⟩:=hh2.cells
        have HX:=Lib.hid (And.intro hh2 (Below.andThen HR.out.2 hbx))
        clear hb2 hbx hh2 i0
        obtain ⟨m,hm⟩:∃ m,mM hd 0 = m:=⟨_,rfl⟩
        rw [hm] at y0
        have HM:=Lib.hid hm
        clear hm
        obtain ⟨x,hx⟩:∃ x,hd 0 = x:=⟨_,rfl⟩
        obtain ⟨pj,hpj⟩:∃ x,hp 0 = x:=⟨_,rfl⟩
        rw [hx,hpj]
        have HXX:=Lib.hid (And.intro hx hpj)
        clear hx hpj
        rcases Nat.lt_trichotomy x m with c | c | c
        · have d1:decide ((x:Int) < (m:Int)) = true:=decide_eq_true (by omega)
          have d1':decide (x < m) = true:=decide_eq_true c
          have d2:((x:Int) == (x:Int)) = true:=by simp
          have HC:=Lib.hid c
          clear c
          go_wp2_with fail
          go_roundw
          case rel =>
            obtain ⟨r1,r2⟩:=cM_lt (hd:=hd) (hp:=hp) (j:=0) (by rw [HM.out,HXX.out.1];exact HC.out)
            refine ⟨0 + 1,by omega,by first | rfl | go_num,?_,?_⟩
            · have hh5:=set5 (.int .i64 (x:Int)) (.pointer none) (.pointer none) (.pointer none) (.pointer none) HX.out.1
              have hh6:=heap_setCell_same _ W0.heap.size 1 _ _ (.pointer pj) hh5
              unfold HereAt
              rw [r1,r2 0,r2 1,r2 2,HXX.out.1,HXX.out.2]
              simpa using hh6
            · exact (((((HX.out.2.setCell (p:=⟨W0.heap.size,0,none⟩) (Nat.le_refl _) _).setCell (p:=⟨W0.heap.size,1,none⟩) (Nat.le_refl _) _).setCell (p:=⟨W0.heap.size,2,none⟩) (Nat.le_refl _) _).setCell (p:=⟨W0.heap.size,3,none⟩) (Nat.le_refl _) _).setCell (p:=⟨W0.heap.size,4,none⟩) (Nat.le_refl _) _).setCell (p:=⟨W0.heap.size,1,none⟩) (Nat.le_refl _) _
          case measure =>
            show 3 - ((0:Int) + 1).toNat < 3 - (0:Int).toNat
            omega
        · have d1:decide ((x:Int) < (m:Int)) = false:=decide_eq_false (by omega)
          have d1':decide (x < m) = false:=decide_eq_false (by omega)
          have d2:((x:Int) == (m:Int)) = true:=by rw [beq_iff_eq];omega
          have d2':(x == m) = true:=by rw [beq_iff_eq];exact c
          have HC:=Lib.hid c
          clear c
          go_wp2_with fail
          go_roundw
          case rel =>
            obtain ⟨r1,r2⟩:=cM_eq (hd:=hd) (hp:=hp) (j:=0) (by rw [HM.out,HXX.out.1];exact HC.out)
            refine ⟨0 + 1,by omega,by first | rfl | go_num,?_,?_⟩
            · have hh6:=heap_setCell_same _ W0.heap.size 1 _ _ (.pointer pj) HX.out.1
              unfold HereAt
              rw [r1,r2 0,r2 1,r2 2,HXX.out.2]
              simpa using hh6
            · exact HX.out.2.setCell (p:=⟨W0.heap.size,1,none⟩) (Nat.le_refl _) _
          case measure =>
            show 3 - ((0:Int) + 1).toNat < 3 - (0:Int).toNat
            omega
        · have d1:decide ((x:Int) < (m:Int)) = false:=decide_eq_false (by omega)
          have d1':decide (x < m) = false:=decide_eq_false (by omega)
          have d2:((x:Int) == (m:Int)) = false:=beq_eq_false_iff_ne.2 (by omega)
          have d2':(x == m) = false:=beq_eq_false_iff_ne.2 (by omega)
          have HC:=Lib.hid c
          clear c
          go_wp2_with fail
          go_roundw
          case rel =>
            obtain ⟨r1,r2⟩:=cM_gt (hd:=hd) (hp:=hp) (j:=0) (by rw [HM.out,HXX.out.1];exact HC.out)
            refine ⟨0 + 1,by omega,by first | rfl | go_num,?_,HX.out.2⟩
            unfold HereAt
            rw [r1,r2 0,r2 1,r2 2]
            exact HX.out.1
          case measure =>
            show 3 - ((0:Int) + 1).toNat < 3 - (0:Int).toNat
            omega
      · have i0:∀ w:World,(Instr.index 190 (.agg #[.pointer po,.bool ko,.int .i64 (ao:Int),.pointer pa,.bool ka,.int .i64 (aa:Int),.pointer pb,.bool kb,.int .i64 (ab:Int)]) (.int .i64 1)).run Tryz.prog w = .ok (sdV pa ka aa) w:=fun _ => by kernel_rfl
        simp only [show ((1:Nat):Int) = 1 from rfl] at *
        go_wp2_with fail
        refine (HA.out _ (Below.andThen HW.out.2.1 (Below.andThen HR.out.2 (below_alloc wr _)))).mono ?_
        rintro e w2 ⟨rfl,hb2⟩
        have hbx:Below wr.heap.size wr w2:=Below.andThen (below_alloc wr _) hb2
        have hh2:HereAt w2 W0.heap.size hd hp 1:=(hbx.block _ HS.out.2).trans HR.out.1
        obtain ⟨y0,y1,y2,y3,y4,yf⟩:=hh2.cells
        have HX:=Lib.hid (And.intro hh2 (Below.andThen HR.out.2 hbx))
        clear hb2 hbx hh2 i0
        obtain ⟨m,hm⟩:∃ m,mM hd 1 = m:=⟨_,rfl⟩
        rw [hm] at y0
        have HM:=Lib.hid hm
        clear hm
        obtain ⟨x,hx⟩:∃ x,hd 1 = x:=⟨_,rfl⟩
        obtain ⟨pj,hpj⟩:∃ x,hp 1 = x:=⟨_,rfl⟩
        rw [hx,hpj]
        have HXX:=Lib.hid (And.intro hx hpj)
        clear hx hpj
        rcases Nat.lt_trichotomy x m with c | c | c
        · have d1:decide ((x:Int) < (m:Int)) = true:=decide_eq_true (by omega)
          have d1':decide (x < m) = true:=decide_eq_true c
          have d2:((x:Int) == (x:Int)) = true:=by simp
          have HC:=Lib.hid c
          clear c
          go_wp2_with fail
          go_roundw
          case rel =>
            obtain ⟨r1,r2⟩:=cM_lt (hd:=hd) (hp:=hp) (j:=1) (by rw [HM.out,HXX.out.1];exact HC.out)
            refine ⟨1 + 1,by omega,by first | rfl | go_num,?_,?_⟩
            · have hh5:=set5 (.int .i64 (x:Int)) (.pointer none) (.pointer none) (.pointer none) (.pointer none) HX.out.1
              have hh6:=heap_setCell_same _ W0.heap.size 2 _ _ (.pointer pj) hh5
              unfold HereAt
              rw [r1,r2 0,r2 1,r2 2,HXX.out.1,HXX.out.2]
              simpa using hh6
            · exact (((((HX.out.2.setCell (p:=⟨W0.heap.size,0,none⟩) (Nat.le_refl _) _).setCell (p:=⟨W0.heap.size,1,none⟩) (Nat.le_refl _) _).setCell (p:=⟨W0.heap.size,2,none⟩) (Nat.le_refl _) _).setCell (p:=⟨W0.heap.size,3,none⟩) (Nat.le_refl _) _).setCell (p:=⟨W0.heap.size,4,none⟩) (Nat.le_refl _) _).setCell (p:=⟨W0.heap.size,2,none⟩) (Nat.le_refl _) _
          case measure =>
            show 3 - ((1:Int) + 1).toNat < 3 - (1:Int).toNat
            omega
        · have d1:decide ((x:Int) < (m:Int)) = false:=decide_eq_false (by omega)
          have d1':decide (x < m) = false:=decide_eq_false (by omega)
          have d2:((x:Int) == (m:Int)) = true:=by rw [beq_iff_eq];omega
          have d2':(x == m) = true:=by rw [beq_iff_eq];exact c
          have HC:=Lib.hid c
          clear c
          go_wp2_with fail
          go_roundw
          case rel =>
            obtain ⟨r1,r2⟩:=cM_eq (hd:=hd) (hp:=hp) (j:=1) (by rw [HM.out,HXX.out.1];exact HC.out)
            refine ⟨1 + 1,by omega,by first | rfl | go_num,?_,?_⟩
            · have hh6:=heap_setCell_same _ W0.heap.size 2 _ _ (.pointer pj) HX.out.1
              unfold HereAt
              rw [r1,r2 0,r2 1,r2 2,HXX.out.2]
              simpa using hh6
            · exact HX.out.2.setCell (p:=⟨W0.heap.size,2,none⟩) (Nat.le_refl _) _
          case measure =>
            show 3 - ((1:Int) + 1).toNat < 3 - (1:Int).toNat
            omega
        · have d1:decide ((x:Int) < (m:Int)) = false:=decide_eq_false (by omega)
          have d1':decide (x < m) = false:=decide_eq_false (by omega)
          have d2:((x:Int) == (m:Int)) = false:=beq_eq_false_iff_ne.2 (by omega)
          have d2':(x == m) = false:=beq_eq_false_iff_ne.2 (by omega)
          have HC:=Lib.hid c
          clear c
          go_wp2_with fail
          go_roundw
          case rel =>
            obtain ⟨r1,r2⟩:=cM_gt (hd:=hd) (hp:=hp) (j:=1) (by rw [HM.out,HXX.out.1];exact HC.out)
            refine ⟨1 + 1,by omega,by first | rfl | go_num,?_,HX.out.2⟩
            unfold HereAt
            rw [r1,r2 0,r2 1,r2 2]
            exact HX.out.1
          case measure =>
            show 3 - ((1:Int) + 1).toNat < 3 - (1:Int).toNat
            omega
      · have i0:∀ w:World,(Instr.index 190 (.agg #[.pointer po,.bool ko,.int .i64 (ao:Int),.pointer pa,.bool ka,.int .i64 (aa:Int),.pointer pb,.bool kb,.int .i64 (ab:Int)]) (.int .i64 2)).run Tryz.prog w = .ok (sdV pb kb ab) w:=fun _ => by kernel_rfl
        simp only [show ((2:Nat):Int) = 2 from rfl] at *
        go_wp2_with fail
        refine (HBb.out _ (Below.andThen HW.out.2.1 (Below.andThen HR.out.2 (below_alloc wr _)))).mono ?_
        rintro e w2 ⟨rfl,hb2⟩
        have hbx:Below wr.heap.size wr w2:=Below.andThen (below_alloc wr _) hb2
        have hh2:HereAt w2 W0.heap.size hd hp 2:=(hbx.block _ HS.out.2).trans HR.out.1
        obtain ⟨y0,y1,y2,y3,y4,yf⟩:=hh2.cells
        have HX:=Lib.hid (And.intro hh2 (Below.andThen HR.out.2 hbx))
        clear hb2 hbx hh2 i0
        obtain ⟨m,hm⟩:∃ m,mM hd 2 = m:=⟨_,rfl⟩
        rw [hm] at y0
        have HM:=Lib.hid hm
        clear hm
        obtain ⟨x,hx⟩:∃ x,hd 2 = x:=⟨_,rfl⟩
        obtain ⟨pj,hpj⟩:∃ x,hp 2 = x:=⟨_,rfl⟩
        rw [hx,hpj]
        have HXX:=Lib.hid (And.intro hx hpj)
        clear hx hpj
        rcases Nat.lt_trichotomy x m with c | c | c
        · have d1:decide ((x:Int) < (m:Int)) = true:=decide_eq_true (by omega)
          have d1':decide (x < m) = true:=decide_eq_true c
          have d2:((x:Int) == (x:Int)) = true:=by simp
          have HC:=Lib.hid c
          clear c
          go_wp2_with fail
          go_roundw
          case rel =>
            obtain ⟨r1,r2⟩:=cM_lt (hd:=hd) (hp:=hp) (j:=2) (by rw [HM.out,HXX.out.1];exact HC.out)
            refine ⟨2 + 1,by omega,by first | rfl | go_num,?_,?_⟩
            · have hh5:=set5 (.int .i64 (x:Int)) (.pointer none) (.pointer none) (.pointer none) (.pointer none) HX.out.1
              have hh6:=heap_setCell_same _ W0.heap.size 3 _ _ (.pointer pj) hh5
              unfold HereAt
              rw [r1,r2 0,r2 1,r2 2,HXX.out.1,HXX.out.2]
              simpa using hh6
            · exact (((((HX.out.2.setCell (p:=⟨W0.heap.size,0,none⟩) (Nat.le_refl _) _).setCell (p:=⟨W0.heap.size,1,none⟩) (Nat.le_refl _) _).setCell (p:=⟨W0.heap.size,2,none⟩) (Nat.le_refl _) _).setCell (p:=⟨W0.heap.size,3,none⟩) (Nat.le_refl _) _).setCell (p:=⟨W0.heap.size,4,none⟩) (Nat.le_refl _) _).setCell (p:=⟨W0.heap.size,3,none⟩) (Nat.le_refl _) _
          case measure =>
            show 3 - ((2:Int) + 1).toNat < 3 - (2:Int).toNat
            omega
        · have d1:decide ((x:Int) < (m:Int)) = false:=decide_eq_false (by omega)
          have d1':decide (x < m) = false:=decide_eq_false (by omega)
          have d2:((x:Int) == (m:Int)) = true:=by rw [beq_iff_eq];omega
          have d2':(x == m) = true:=by rw [beq_iff_eq];exact c
          have HC:=Lib.hid c
          clear c
          go_wp2_with fail
          go_roundw
          case rel =>
            obtain ⟨r1,r2⟩:=cM_eq (hd:=hd) (hp:=hp) (j:=2) (by rw [HM.out,HXX.out.1];exact HC.out)
            refine ⟨2 + 1,by omega,by first | rfl | go_num,?_,?_⟩
            · have hh6:=heap_setCell_same _ W0.heap.size 3 _ _ (.pointer pj) HX.out.1
              unfold HereAt
              rw [r1,r2 0,r2 1,r2 2,HXX.out.2]
              simpa using hh6
            · exact HX.out.2.setCell (p:=⟨W0.heap.size,3,none⟩) (Nat.le_refl _) _
          case measure =>
            show 3 - ((2:Int) + 1).toNat < 3 - (2:Int).toNat
            omega
        · have d1:decide ((x:Int) < (m:Int)) = false:=decide_eq_false (by omega)
          have d1':decide (x < m) = false:=decide_eq_false (by omega)
          have d2:((x:Int) == (m:Int)) = false:=beq_eq_false_iff_ne.2 (by omega)
          have d2':(x == m) = false:=beq_eq_false_iff_ne.2 (by omega)
          have HC:=Lib.hid c
          clear c
          go_wp2_with fail
          go_roundw
          case rel =>
            obtain ⟨r1,r2⟩:=cM_gt (hd:=hd) (hp:=hp) (j:=2) (by rw [HM.out,HXX.out.1];exact HC.out)
            refine ⟨2 + 1,by omega,by first | rfl | go_num,?_,HX.out.2⟩
            unfold HereAt
            rw [r1,r2 0,r2 1,r2 2]
            exact HX.out.1
          case measure =>
            show 3 - ((2:Int) + 1).toNat < 3 - (2:Int).toNat
            omega
      · obtain ⟨y0,y1,y2,y3,y4,yf⟩:=HR.out.1.cells
        have hbw:Below w.heap.size w wr:=Below.andThen HW.out.2.1 HR.out.2
        have hsz:=hbw.size
        have rr:=keepz HW.out.2.2.1 HR.out.2
        have z0:wr.cell? ⟨w.heap.size,0,none⟩ = some (.pointer none):=by rw [cell_of_row wr _ _ _ _ (0,0) rr];rfl
        have z1:wr.cell? ⟨w.heap.size,1,none⟩ = some (.pointer none):=by rw [cell_of_row wr _ _ _ _ (0,0) rr];rfl
        have z2:wr.cell? ⟨w.heap.size,2,none⟩ = some (.pointer none):=by rw [cell_of_row wr _ _ _ _ (0,0) rr];rfl
        have zf:∀ i,wr.frozen? ⟨w.heap.size,i,none⟩ = false:=fun i => frozen_of_row wr _ i _ _ rr
        have HB:=Lib.hid (And.intro hbw rr)
        obtain ⟨i,hi⟩:∃ i,mM hd 3 = i:=⟨_,rfl⟩
        rw [hi] at y0
        have hrem:=HH.out.2.2.2.2.2
        rw [HDP.out.1,hi] at hrem
        have HI:=Lib.hid hi
        clear hi
        rcases hrem with ⟨rfl,hr⟩ | ⟨hi5,hni,hr⟩
        · have Hr:=Lib.hid hr
          clear hr
          simp only [show ((65536:Nat):Int) = 65536 from rfl,show ((3:Nat):Int) = 3 from rfl] at *
          go_wp2_with fail
          refine bodyPost_ret (v:=.tuple #[p3V none none none,.bool false]) (by simp [results,Tryz.results113,go_sem,z0,z1,z2]) rfl ?_
          refine .inl ⟨Hr.out,rfl,?_⟩
          exact ((HB.out.1.setCell (p:=⟨w.heap.size,0,none⟩) (Nat.le_refl _) _).setCell (p:=⟨w.heap.size,1,none⟩) (Nat.le_refl _) _).setCell (p:=⟨w.heap.size,2,none⟩) (Nat.le_refl _) _
        · have d1:((i:Int) == 65536) = false:=beq_eq_false_iff_ne.2 (by omega)
          have qq:=keepz HW.out.2.2.2.1 HR.out.2
          have c9:wr.cell? ⟨q,9,none⟩ = some (.slice D 0 d):=by rw [cell_of_row wr _ _ _ _ (0,0) qq];rfl
          have c9a:∀ ob,(wr.alloc ob).cell? ⟨q,9,none⟩ = some (.slice D 0 d):=fun ob => by rw [cell_of_row _ _ _ _ _ (0,0) (heap_past ob qq)];rfl
          have HI2:=Lib.hid (And.intro hi5 (And.intro hni (And.intro hr qq)))
          clear hi5 hni hr qq
          obtain ⟨U,hU⟩:∃ U:Tri,U = ⟨if x0 = i then u0 else none,if x1 = i then u1 else none,if x2 = i then u2 else none⟩:=⟨_,rfl⟩
          have hcm:∀ (a:Nat) (xa:Nat) (ua:Option T),a < 3→hd a = xa→hp a = rootP ua→cM hd hp 3 a = rootP (if xa = i then ua else none):=fun a xa ua ha e1 e2 => by
            unfold cM
            rw [HI.out,e1,e2]
            by_cases c:xa = i
            · rw [if_pos ⟨ha,c⟩,if_pos c]
            · rw [if_neg (fun h => c h.2),if_neg c];rfl
          have hv3:=HDP.out.2.2
          rw [hcm 0 x0 u0 (by omega) hv3.1.symm hv3.2.2.2.1.symm,show (if x0 = i then u0 else none) = U.o by rw [hU]] at y1
          rw [hcm 1 x1 u1 (by omega) hv3.2.1.symm hv3.2.2.2.2.1.symm,show (if x1 = i then u1 else none) = U.a by rw [hU]] at y2
          rw [hcm 2 x2 u2 (by omega) hv3.2.2.1.symm hv3.2.2.2.2.2.symm,show (if x2 = i then u2 else none) = U.b by rw [hU]] at y3
          have HU:=Lib.hid hU
          clear hcm hv3 hU
          obtain ⟨v0,hv0⟩:∃ v,rootP U.o = v:=⟨_,rfl⟩
          obtain ⟨v1,hv1⟩:∃ v,rootP U.a = v:=⟨_,rfl⟩
          obtain ⟨v2,hv2⟩:∃ v,rootP U.b = v:=⟨_,rfl⟩
          have hpq:PlQ (fun j => [Value.int .i64 (i:Int),.pointer v0,.pointer v1,.pointer v2,.pointer none][j]?) ⟨i,U,none⟩:=⟨rfl,by rw [← hv0];rfl,by rw [← hv1];rfl,by rw [← hv2];rfl,rfl⟩
          rw [hv0] at y1
          rw [hv1] at y2
          rw [hv2] at y3
          have hrow:PRow w base (.slice D 0 d) ([]:List Pl):=by exact HH.out.1
          have hlw:W0.heap.size < wr.heap.size∧w.heap.size < W0.heap.size∧q < w.heap.size:=⟨HS.out.2,(Array.getElem?_eq_some_iff.1 HW.out.2.2.1).1,HW.out.2.2.2.2⟩
          have hnq:(Value.slice D 0 d).ownBlock≠some q:=by exact HH.out.2.1
          have HV:=Lib.hid (And.intro hv0 (And.intro hv1 (And.intro hv2 (And.intro hpq (And.intro hrow (And.intro hlw hnq))))))
          have hlen5:([]:List Pl).length≤65536:=by simp
          have HL5:=Lib.hid hlen5
          clear hv0 hv1 hv2 hpq hrow hlw hnq hlen5
          simp only [show ((3:Nat):Int) = 3 from rfl] at *
          go_upto_region 17 with fail
          go_region_law ((refine step_append_rowZ (Q:=PlQ) (Z:=ZPl) 183 186 pl0V 40 Tryz.underlying183 infoPl (by rfl) (by omega) (by omega) plQ_ok zPl_ok (by rfl) _ _ (by rfl) base (.slice D 0 d) ([]:List Pl) (0 + 1) (by rfl) (by rfl) (RowZ.below (C:=w.heap.size) HV.out.2.2.2.2.1 (show Below w.heap.size w _ by ((repeat first | refine bD ?_ | with_reducible refine bN ?_ | refine bA ?_ | refine bS ?_);first | exact bR | assumption | exact bN bR | exact bN (bN bR))) (Nat.le_refl _)) ⟨i,U,none⟩ [.int .i64 (i:Int),.pointer v0,.pointer v1,.pointer v2,.pointer none] (by rfl) HV.out.2.2.2.1 ⟨wr.heap.size,0,none⟩ 1 (by rfl) (by exact news_at _ _ _) (by have:=HL5.out;omega) (by have:=HH.out.2.2.1;have:=HB.out.1.size;simp;omega) ?_;intro D5 d5 w5 hown5 hgrow5 hat5 hch5;have hall:=app_all (k:=k) HB.out.1 (by ((repeat first | refine bD ?_ | with_reducible refine bN ?_ | refine bA ?_ | refine bS ?_);first | exact bR | assumption | exact bN bR | exact bN (bN bR))) HV.out.2.2.2.2.1 hgrow5 hch5;have hz5:=hall.2.2.2;have h5q:=(hall.1 q (Nat.lt_trans HV.out.2.2.2.2.2.1.2.2 (Nat.lt_trans HV.out.2.2.2.2.2.1.2.1 HV.out.2.2.2.2.2.1.1)) HV.out.2.2.2.2.2.2).trans HI2.out.2.2.2;have c5:w5.cell? ⟨q,9,none⟩ = some (.slice D 0 d):=(by rw [cell_of_row w5 _ _ _ _ (0,0) h5q];rfl);have f5:w5.frozen? ⟨q,9,none⟩ = false:=frozen_of_row w5 _ 9 _ _ h5q;have HG:=Lib.hid (And.intro hown5 (And.intro hat5 (And.intro hall h5q)));clear hown5 hgrow5 hat5 hch5 hall h5q))
          all_goals (
            obtain ⟨hown5,hat5,hall,h5q⟩:=HG.out
            have hlts:=HV.out.2.2.2.2.2.1
            have hvl:∀ b,(Value.slice D 0 d).ownBlock = some b→b < w.heap.size:=fun b hb => (RowZ.lt HV.out.2.2.2.2.1 b hb).2
            have hn1:(Value.slice D 0 d).ownBlock≠some W0.heap.size:=fun e => by have:=hvl _ e;omega
            have hn2:(Value.slice D 0 d).ownBlock≠some w.heap.size:=fun e => by have:=hvl _ e;omega
            have hh5:=hall.1 W0.heap.size hlts.1 hn1
            have hr5:=(hall.1 w.heap.size (Nat.lt_trans hlts.2.1 hlts.1) hn2).trans HB.out.2
            obtain ⟨W6,hW6⟩:∃ W6,W6 = w5.setCell ⟨q,9,none⟩ (.slice D5 (0 + 1) d5):=⟨_,rfl⟩
            have hb6:∀ b,b≠q→W6.heap[b]? = w5.heap[b]?:=fun b hb => by rw [hW6];exact Below.heap_setCell w5 ⟨q,9,none⟩ _ b hb
            have hh6:=(hb6 W0.heap.size (by omega)).trans hh5
            have hr6:=(hb6 w.heap.size (by omega)).trans hr5
            have t1:=(World.cell?_of_block (a:=⟨W0.heap.size,1,none⟩) hh6).trans y1
            have t2:=(World.cell?_of_block (a:=⟨W0.heap.size,2,none⟩) hh6).trans y2
            have t3:=(World.cell?_of_block (a:=⟨W0.heap.size,3,none⟩) hh6).trans y3
            have s0:W6.cell? ⟨w.heap.size,0,none⟩ = some (.pointer none):=by rw [cell_of_row W6 _ _ _ _ (0,0) hr6];rfl
            have s1:W6.cell? ⟨w.heap.size,1,none⟩ = some (.pointer none):=by rw [cell_of_row W6 _ _ _ _ (0,0) hr6];rfl
            have s2:W6.cell? ⟨w.heap.size,2,none⟩ = some (.pointer none):=by rw [cell_of_row W6 _ _ _ _ (0,0) hr6];rfl
            have sf:∀ i,W6.frozen? ⟨w.heap.size,i,none⟩ = false:=fun i => frozen_of_row W6 _ i _ _ hr6
            have HE:=Lib.hid (And.intro hown5 (And.intro hat5 (And.intro hall (And.intro h5q (And.intro hW6 (And.intro hvl hlts))))))
            rw [← hW6]
            clear hown5 hat5 hall h5q hW6 hvl hlts hn1 hn2 hh5 hr5 hb6 hh6 hr6 HG c5 f5 hz5 y0 y1 y2 y3 y4 yf c9 c9a z0 z1 z2 zf
            go_wp2_with fail
            refine bodyPost_ret (v:=.tuple #[p3V v0 v1 v2,.bool true]) (by simp [results,Tryz.results113,go_sem,s0,s1,s2]) rfl ?_
            obtain ⟨hown5,hat5,hall,h5q,hW6,hvl,hlts⟩:=HE.out
            have hfin:=on_end (L:=([]:List Pl) ++ [⟨i,U,none⟩]) (p0:=.pointer v0) (p1:=.pointer v1) (p2:=.pointer v2) (Nat.lt_trans hlts.2.1 hlts.1) hlts.2.2 hvl HV.out.2.2.2.2.2.2 hown5 hat5 (by simp) hall h5q rfl
            rw [← hW6] at hfin
            refine .inr ⟨i,U,D5,d5,?_,HI2.out.1,?_,?_⟩
            · rw [HU.out];exact HI2.out.2.2.1
            · rw [← HV.out.1,← HV.out.2.1,← HV.out.2.2.1]
            · exact hfin)
  · have hn':n = x.a + 1:=by rw [← hn];simp [nextOf]
    obtain ⟨g,d',cur,hv',-,-,hh,hc0⟩:=RowZ.at plQ_ok hv0 (i:=ps'.length) (x:=x) (by simp)
    have hlen:(ps'.concat x).length = ps'.length + 1:=by simp
    rw [hlen] at c9 hl hv'
    simp only [Value.slice.injEq,true_and] at hv'
    obtain ⟨rfl,rfl⟩:=hv'
    have z0:W0.cell? ⟨g,ps'.length * 5,none⟩ = some (.int .i64 (x.a:Int)):=by rw [cell_of_row W0 _ _ _ _ (0,0) hh];exact hc0.1
    have e4:((ps'.length + 1:Nat):Int) - 1 = (ps'.length:Int):=by omega
    have m1:(0:Int)≤(ps'.length:Int):=by omega
    have m2:(ps'.length:Int) < ((ps'.length + 1:Nat):Int):=by omega
    have m3:(ps'.length:Int)≤65536:=by omega
    have m4:(x.a:Int)≤65535:=by omega
    have m5:(0:Int)≤(x.a:Int):=by omega
    subst hn'
    clear hh hc0 hlen hn
    generalize hps:ps'.concat x = ps at *
    have hpl:ps.length = ps'.length + 1:=by rw [← hps];simp
    generalize ps'.length = pl at *
    go_enter Tryz.func113,Tryz.ntmps113
    go_upto_region 1 with fail
    rw [← HW.out.1]
    go_upto_region 6 with fail
    clear z0 e4 m1 m2 m3 m4 m5
    go_wp2_with fail
    obtain ⟨hd,hhd⟩:∃ hd,f3 x0 x1 x2 = hd:=⟨_,rfl⟩
    obtain ⟨hp,hhp⟩:∃ hp,f3 (rootP u0) (rootP u1) (rootP u2) = hp:=⟨_,rfl⟩
    have h0:x0 = hd 0∧x1 = hd 1∧x2 = hd 2∧rootP u0 = hp 0∧rootP u1 = hp 1∧rootP u2 = hp 2:=by rw [← hhd,← hhp];exact ⟨rfl,rfl,rfl,rfl,rfl,rfl⟩
    rw [hhd,hhp] at HS
    have HDP:=Lib.hid (And.intro hhd (And.intro hhp h0))
    rw [h0.1,h0.2.2.2.1] at HO
    rw [h0.2.1,h0.2.2.2.2.1] at HA
    rw [h0.2.2.1,h0.2.2.2.2.2] at HBb
    clear hhd hhp h0 k0 k1 k2 k3 k4 k5 k6 k7 k8 c9 hv0 hl
    go_loopw [33] (fun i wr => ∃ j:Nat,j≤3∧i = .int .i64 (j:Int)∧HereAt wr W0.heap.size hd hp j∧Below W0.heap.size W0 wr) (fun i _ => 3 - (intOf i).toNat)
    case atStart => exact ⟨0,by omega,rfl,HS.out.1,HS.out.2⟩
    case round =>
      clear HS
      obtain ⟨j,hj,rfl,hh,hbr⟩:=hrel
      have HR:=Lib.hid (And.intro hh hbr)
      have HS:=Lib.hid (And.intro hbr.size (Array.getElem?_eq_some_iff.1 hh).1)
      clear hh hbr
      rcases (show j = 0∨j = 1∨j = 2∨j = 3 by omega) with rfl | rfl | rfl | rfl
      · have i0:∀ w:World,(Instr.index 190 (.agg #[.pointer po,.bool ko,.int .i64 (ao:Int),.pointer pa,.bool ka,.int .i64 (aa:Int),.pointer pb,.bool kb,.int .i64 (ab:Int)]) (.int .i64 0)).run Tryz.prog w = .ok (sdV po ko ao) w:=fun _ => by kernel_rfl
        simp only [show ((0:Nat):Int) = 0 from rfl] at *
        go_wp2_with fail
        refine (HO.out _ (Below.andThen HW.out.2.1 (Below.andThen HR.out.2 (below_alloc wr _)))).mono ?_
        rintro e w2 ⟨rfl,hb2⟩
        have hbx:Below wr.heap.size wr w2:=Below.andThen (below_alloc wr _) hb2
        have hh2:HereAt w2 W0.heap.size hd hp 0:=(hbx.block _ HS.out.2).trans HR.out.1
        obtain ⟨y0,y1,y2,y3,y4,yf⟩:=hh2.cells
        have HX:=Lib.hid (And.intro hh2 (Below.andThen HR.out.2 hbx))
        clear hb2 hbx hh2 i0
        obtain ⟨m,hm⟩:∃ m,mM hd 0 = m:=⟨_,rfl⟩
        rw [hm] at y0
        have HM:=Lib.hid hm
        clear hm
        obtain ⟨x,hx⟩:∃ x,hd 0 = x:=⟨_,rfl⟩
        obtain ⟨pj,hpj⟩:∃ x,hp 0 = x:=⟨_,rfl⟩
        rw [hx,hpj]
        have HXX:=Lib.hid (And.intro hx hpj)
        clear hx hpj
        rcases Nat.lt_trichotomy x m with c | c | c
        · have d1:decide ((x:Int) < (m:Int)) = true:=decide_eq_true (by omega)
          have d1':decide (x < m) = true:=decide_eq_true c
          have d2:((x:Int) == (x:Int)) = true:=by simp
          have HC:=Lib.hid c
          clear c
          go_wp2_with fail
          go_roundw
          case rel =>
            obtain ⟨r1,r2⟩:=cM_lt (hd:=hd) (hp:=hp) (j:=0) (by rw [HM.out,HXX.out.1];exact HC.out)
            refine ⟨0 + 1,by omega,by first | rfl | go_num,?_,?_⟩
            · have hh5:=set5 (.int .i64 (x:Int)) (.pointer none) (.pointer none) (.pointer none) (.pointer none) HX.out.1
              have hh6:=heap_setCell_same _ W0.heap.size 1 _ _ (.pointer pj) hh5
              unfold HereAt
              rw [r1,r2 0,r2 1,r2 2,HXX.out.1,HXX.out.2]
              simpa using hh6
            · exact (((((HX.out.2.setCell (p:=⟨W0.heap.size,0,none⟩) (Nat.le_refl _) _).setCell (p:=⟨W0.heap.size,1,none⟩) (Nat.le_refl _) _).setCell (p:=⟨W0.heap.size,2,none⟩) (Nat.le_refl _) _).setCell (p:=⟨W0.heap.size,3,none⟩) (Nat.le_refl _) _).setCell (p:=⟨W0.heap.size,4,none⟩) (Nat.le_refl _) _).setCell (p:=⟨W0.heap.size,1,none⟩) (Nat.le_refl _) _
          case measure =>
            show 3 - ((0:Int) + 1).toNat < 3 - (0:Int).toNat
            omega
        · have d1:decide ((x:Int) < (m:Int)) = false:=decide_eq_false (by omega)
          have d1':decide (x < m) = false:=decide_eq_false (by omega)
          have d2:((x:Int) == (m:Int)) = true:=by rw [beq_iff_eq];omega
          have d2':(x == m) = true:=by rw [beq_iff_eq];exact c
          have HC:=Lib.hid c
          clear c
          go_wp2_with fail
          go_roundw
          case rel =>
            obtain ⟨r1,r2⟩:=cM_eq (hd:=hd) (hp:=hp) (j:=0) (by rw [HM.out,HXX.out.1];exact HC.out)
            refine ⟨0 + 1,by omega,by first | rfl | go_num,?_,?_⟩
            · have hh6:=heap_setCell_same _ W0.heap.size 1 _ _ (.pointer pj) HX.out.1
              unfold HereAt
              rw [r1,r2 0,r2 1,r2 2,HXX.out.2]
              simpa using hh6
            · exact HX.out.2.setCell (p:=⟨W0.heap.size,1,none⟩) (Nat.le_refl _) _
          case measure =>
            show 3 - ((0:Int) + 1).toNat < 3 - (0:Int).toNat
            omega
        · have d1:decide ((x:Int) < (m:Int)) = false:=decide_eq_false (by omega)
          have d1':decide (x < m) = false:=decide_eq_false (by omega)
          have d2:((x:Int) == (m:Int)) = false:=beq_eq_false_iff_ne.2 (by omega)
          have d2':(x == m) = false:=beq_eq_false_iff_ne.2 (by omega)
          have HC:=Lib.hid c
          clear c
          go_wp2_with fail
          go_roundw
          case rel =>
            obtain ⟨r1,r2⟩:=cM_gt (hd:=hd) (hp:=hp) (j:=0) (by rw [HM.out,HXX.out.1];exact HC.out)
            refine ⟨0 + 1,by omega,by first | rfl | go_num,?_,HX.out.2⟩
            unfold HereAt
            rw [r1,r2 0,r2 1,r2 2]
            exact HX.out.1
          case measure =>
            show 3 - ((0:Int) + 1).toNat < 3 - (0:Int).toNat
            omega
      · have i0:∀ w:World,(Instr.index 190 (.agg #[.pointer po,.bool ko,.int .i64 (ao:Int),.pointer pa,.bool ka,.int .i64 (aa:Int),.pointer pb,.bool kb,.int .i64 (ab:Int)]) (.int .i64 1)).run Tryz.prog w = .ok (sdV pa ka aa) w:=fun _ => by kernel_rfl
        simp only [show ((1:Nat):Int) = 1 from rfl] at *
        go_wp2_with fail
        refine (HA.out _ (Below.andThen HW.out.2.1 (Below.andThen HR.out.2 (below_alloc wr _)))).mono ?_
        rintro e w2 ⟨rfl,hb2⟩
        have hbx:Below wr.heap.size wr w2:=Below.andThen (below_alloc wr _) hb2
        have hh2:HereAt w2 W0.heap.size hd hp 1:=(hbx.block _ HS.out.2).trans HR.out.1
        obtain ⟨y0,y1,y2,y3,y4,yf⟩:=hh2.cells
        have HX:=Lib.hid (And.intro hh2 (Below.andThen HR.out.2 hbx))
        clear hb2 hbx hh2 i0
        obtain ⟨m,hm⟩:∃ m,mM hd 1 = m:=⟨_,rfl⟩
        rw [hm] at y0
        have HM:=Lib.hid hm
        clear hm
        obtain ⟨x,hx⟩:∃ x,hd 1 = x:=⟨_,rfl⟩
        obtain ⟨pj,hpj⟩:∃ x,hp 1 = x:=⟨_,rfl⟩
        rw [hx,hpj]
        have HXX:=Lib.hid (And.intro hx hpj)
        clear hx hpj
        rcases Nat.lt_trichotomy x m with c | c | c
        · have d1:decide ((x:Int) < (m:Int)) = true:=decide_eq_true (by omega)
          have d1':decide (x < m) = true:=decide_eq_true c
          have d2:((x:Int) == (x:Int)) = true:=by simp
          have HC:=Lib.hid c
          clear c
          go_wp2_with fail
          go_roundw
          case rel =>
            obtain ⟨r1,r2⟩:=cM_lt (hd:=hd) (hp:=hp) (j:=1) (by rw [HM.out,HXX.out.1];exact HC.out)
            refine ⟨1 + 1,by omega,by first | rfl | go_num,?_,?_⟩
            · have hh5:=set5 (.int .i64 (x:Int)) (.pointer none) (.pointer none) (.pointer none) (.pointer none) HX.out.1
              have hh6:=heap_setCell_same _ W0.heap.size 2 _ _ (.pointer pj) hh5
              unfold HereAt
              rw [r1,r2 0,r2 1,r2 2,HXX.out.1,HXX.out.2]
              simpa using hh6
            · exact (((((HX.out.2.setCell (p:=⟨W0.heap.size,0,none⟩) (Nat.le_refl _) _).setCell (p:=⟨W0.heap.size,1,none⟩) (Nat.le_refl _) _).setCell (p:=⟨W0.heap.size,2,none⟩) (Nat.le_refl _) _).setCell (p:=⟨W0.heap.size,3,none⟩) (Nat.le_refl _) _).setCell (p:=⟨W0.heap.size,4,none⟩) (Nat.le_refl _) _).setCell (p:=⟨W0.heap.size,2,none⟩) (Nat.le_refl _) _
          case measure =>
            show 3 - ((1:Int) + 1).toNat < 3 - (1:Int).toNat
            omega
        · have d1:decide ((x:Int) < (m:Int)) = false:=decide_eq_false (by omega)
          have d1':decide (x < m) = false:=decide_eq_false (by omega)
          have d2:((x:Int) == (m:Int)) = true:=by rw [beq_iff_eq];omega
          have d2':(x == m) = true:=by rw [beq_iff_eq];exact c
          have HC:=Lib.hid c
          clear c
          go_wp2_with fail
          go_roundw
          case rel =>
            obtain ⟨r1,r2⟩:=cM_eq (hd:=hd) (hp:=hp) (j:=1) (by rw [HM.out,HXX.out.1];exact HC.out)
            refine ⟨1 + 1,by omega,by first | rfl | go_num,?_,?_⟩
            · have hh6:=heap_setCell_same _ W0.heap.size 2 _ _ (.pointer pj) HX.out.1
              unfold HereAt
              rw [r1,r2 0,r2 1,r2 2,HXX.out.2]
              simpa using hh6
            · exact HX.out.2.setCell (p:=⟨W0.heap.size,2,none⟩) (Nat.le_refl _) _
          case measure =>
            show 3 - ((1:Int) + 1).toNat < 3 - (1:Int).toNat
            omega
        · have d1:decide ((x:Int) < (m:Int)) = false:=decide_eq_false (by omega)
          have d1':decide (x < m) = false:=decide_eq_false (by omega)
          have d2:((x:Int) == (m:Int)) = false:=beq_eq_false_iff_ne.2 (by omega)
          have d2':(x == m) = false:=beq_eq_false_iff_ne.2 (by omega)
          have HC:=Lib.hid c
          clear c
          go_wp2_with fail
          go_roundw
          case rel =>
            obtain ⟨r1,r2⟩:=cM_gt (hd:=hd) (hp:=hp) (j:=1) (by rw [HM.out,HXX.out.1];exact HC.out)
            refine ⟨1 + 1,by omega,by first | rfl | go_num,?_,HX.out.2⟩
            unfold HereAt
            rw [r1,r2 0,r2 1,r2 2]
            exact HX.out.1
          case measure =>
            show 3 - ((1:Int) + 1).toNat < 3 - (1:Int).toNat
            omega
      · have i0:∀ w:World,(Instr.index 190 (.agg #[.pointer po,.bool ko,.int .i64 (ao:Int),.pointer pa,.bool ka,.int .i64 (aa:Int),.pointer pb,.bool kb,.int .i64 (ab:Int)]) (.int .i64 2)).run Tryz.prog w = .ok (sdV pb kb ab) w:=fun _ => by kernel_rfl
        simp only [show ((2:Nat):Int) = 2 from rfl] at *
        go_wp2_with fail
        refine (HBb.out _ (Below.andThen HW.out.2.1 (Below.andThen HR.out.2 (below_alloc wr _)))).mono ?_
        rintro e w2 ⟨rfl,hb2⟩
        have hbx:Below wr.heap.size wr w2:=Below.andThen (below_alloc wr _) hb2
        have hh2:HereAt w2 W0.heap.size hd hp 2:=(hbx.block _ HS.out.2).trans HR.out.1
        obtain ⟨y0,y1,y2,y3,y4,yf⟩:=hh2.cells
        have HX:=Lib.hid (And.intro hh2 (Below.andThen HR.out.2 hbx))
        clear hb2 hbx hh2 i0
        obtain ⟨m,hm⟩:∃ m,mM hd 2 = m:=⟨_,rfl⟩
        rw [hm] at y0
        have HM:=Lib.hid hm
        clear hm
        obtain ⟨x,hx⟩:∃ x,hd 2 = x:=⟨_,rfl⟩
        obtain ⟨pj,hpj⟩:∃ x,hp 2 = x:=⟨_,rfl⟩
        rw [hx,hpj]
        have HXX:=Lib.hid (And.intro hx hpj)
        clear hx hpj
        rcases Nat.lt_trichotomy x m with c | c | c
        · have d1:decide ((x:Int) < (m:Int)) = true:=decide_eq_true (by omega)
          have d1':decide (x < m) = true:=decide_eq_true c
          have d2:((x:Int) == (x:Int)) = true:=by simp
          have HC:=Lib.hid c
          clear c
          go_wp2_with fail
          go_roundw
          case rel =>
            obtain ⟨r1,r2⟩:=cM_lt (hd:=hd) (hp:=hp) (j:=2) (by rw [HM.out,HXX.out.1];exact HC.out)
            refine ⟨2 + 1,by omega,by first | rfl | go_num,?_,?_⟩
            · have hh5:=set5 (.int .i64 (x:Int)) (.pointer none) (.pointer none) (.pointer none) (.pointer none) HX.out.1
              have hh6:=heap_setCell_same _ W0.heap.size 3 _ _ (.pointer pj) hh5
              unfold HereAt
              rw [r1,r2 0,r2 1,r2 2,HXX.out.1,HXX.out.2]
              simpa using hh6
            · exact (((((HX.out.2.setCell (p:=⟨W0.heap.size,0,none⟩) (Nat.le_refl _) _).setCell (p:=⟨W0.heap.size,1,none⟩) (Nat.le_refl _) _).setCell (p:=⟨W0.heap.size,2,none⟩) (Nat.le_refl _) _).setCell (p:=⟨W0.heap.size,3,none⟩) (Nat.le_refl _) _).setCell (p:=⟨W0.heap.size,4,none⟩) (Nat.le_refl _) _).setCell (p:=⟨W0.heap.size,3,none⟩) (Nat.le_refl _) _
          case measure =>
            show 3 - ((2:Int) + 1).toNat < 3 - (2:Int).toNat
            omega
        · have d1:decide ((x:Int) < (m:Int)) = false:=decide_eq_false (by omega)
          have d1':decide (x < m) = false:=decide_eq_false (by omega)
          have d2:((x:Int) == (m:Int)) = true:=by rw [beq_iff_eq];omega
          have d2':(x == m) = true:=by rw [beq_iff_eq];exact c
          have HC:=Lib.hid c
          clear c
          go_wp2_with fail
          go_roundw
          case rel =>
            obtain ⟨r1,r2⟩:=cM_eq (hd:=hd) (hp:=hp) (j:=2) (by rw [HM.out,HXX.out.1];exact HC.out)
            refine ⟨2 + 1,by omega,by first | rfl | go_num,?_,?_⟩
            · have hh6:=heap_setCell_same _ W0.heap.size 3 _ _ (.pointer pj) HX.out.1
              unfold HereAt
              rw [r1,r2 0,r2 1,r2 2,HXX.out.2]
              simpa using hh6
            · exact HX.out.2.setCell (p:=⟨W0.heap.size,3,none⟩) (Nat.le_refl _) _
          case measure =>
            show 3 - ((2:Int) + 1).toNat < 3 - (2:Int).toNat
            omega
        · have d1:decide ((x:Int) < (m:Int)) = false:=decide_eq_false (by omega)
          have d1':decide (x < m) = false:=decide_eq_false (by omega)
          have d2:((x:Int) == (m:Int)) = false:=beq_eq_false_iff_ne.2 (by omega)
          have d2':(x == m) = false:=beq_eq_false_iff_ne.2 (by omega)
          have HC:=Lib.hid c
          clear c
          go_wp2_with fail
          go_roundw
          case rel =>
            obtain ⟨r1,r2⟩:=cM_gt (hd:=hd) (hp:=hp) (j:=2) (by rw [HM.out,HXX.out.1];exact HC.out)
            refine ⟨2 + 1,by omega,by first | rfl | go_num,?_,HX.out.2⟩
            unfold HereAt
            rw [r1,r2 0,r2 1,r2 2]
            exact HX.out.1
          case measure =>
            show 3 - ((2:Int) + 1).toNat < 3 - (2:Int).toNat
            omega
      · obtain ⟨y0,y1,y2,y3,y4,yf⟩:=HR.out.1.cells
        have hbw:Below w.heap.size w wr:=Below.andThen HW.out.2.1 HR.out.2
        have hsz:=hbw.size
        have rr:=keepz HW.out.2.2.1 HR.out.2
        have z0:wr.cell? ⟨w.heap.size,0,none⟩ = some (.pointer none):=by rw [cell_of_row wr _ _ _ _ (0,0) rr];rfl
        have z1:wr.cell? ⟨w.heap.size,1,none⟩ = some (.pointer none):=by rw [cell_of_row wr _ _ _ _ (0,0) rr];rfl
        have z2:wr.cell? ⟨w.heap.size,2,none⟩ = some (.pointer none):=by rw [cell_of_row wr _ _ _ _ (0,0) rr];rfl
        have zf:∀ i,wr.frozen? ⟨w.heap.size,i,none⟩ = false:=fun i => frozen_of_row wr _ i _ _ rr
        have HB:=Lib.hid (And.intro hbw rr)
        obtain ⟨i,hi⟩:∃ i,mM hd 3 = i:=⟨_,rfl⟩
        rw [hi] at y0
        have hrem:=HH.out.2.2.2.2.2
        rw [HDP.out.1,hi] at hrem
        have HI:=Lib.hid hi
        clear hi
        rcases hrem with ⟨rfl,hr⟩ | ⟨hi5,hni,hr⟩
        · have Hr:=Lib.hid hr
          clear hr
          simp only [show ((65536:Nat):Int) = 65536 from rfl,show ((3:Nat):Int) = 3 from rfl] at *
          go_wp2_with fail
          refine bodyPost_ret (v:=.tuple #[p3V none none none,.bool false]) (by simp [results,Tryz.results113,go_sem,z0,z1,z2]) rfl ?_
          refine .inl ⟨Hr.out,rfl,?_⟩
          exact ((HB.out.1.setCell (p:=⟨w.heap.size,0,none⟩) (Nat.le_refl _) _).setCell (p:=⟨w.heap.size,1,none⟩) (Nat.le_refl _) _).setCell (p:=⟨w.heap.size,2,none⟩) (Nat.le_refl _) _
        · have d1:((i:Int) == 65536) = false:=beq_eq_false_iff_ne.2 (by omega)
          have qq:=keepz HW.out.2.2.2.1 HR.out.2
          have c9:wr.cell? ⟨q,9,none⟩ = some (.slice (some ⟨g,0,none⟩) (pl + 1) d):=by rw [cell_of_row wr _ _ _ _ (0,0) qq];rw [← hpl];rfl
          have c9a:∀ ob,(wr.alloc ob).cell? ⟨q,9,none⟩ = some (.slice (some ⟨g,0,none⟩) (pl + 1) d):=fun ob => by rw [cell_of_row _ _ _ _ _ (0,0) (heap_past ob qq)];rw [← hpl];rfl
          have HI2:=Lib.hid (And.intro hi5 (And.intro hni (And.intro hr qq)))
          clear hi5 hni hr qq
          obtain ⟨U,hU⟩:∃ U:Tri,U = ⟨if x0 = i then u0 else none,if x1 = i then u1 else none,if x2 = i then u2 else none⟩:=⟨_,rfl⟩
          have hcm:∀ (a:Nat) (xa:Nat) (ua:Option T),a < 3→hd a = xa→hp a = rootP ua→cM hd hp 3 a = rootP (if xa = i then ua else none):=fun a xa ua ha e1 e2 => by
            unfold cM
            rw [HI.out,e1,e2]
            by_cases c:xa = i
            · rw [if_pos ⟨ha,c⟩,if_pos c]
            · rw [if_neg (fun h => c h.2),if_neg c];rfl
          have hv3:=HDP.out.2.2
          rw [hcm 0 x0 u0 (by omega) hv3.1.symm hv3.2.2.2.1.symm,show (if x0 = i then u0 else none) = U.o by rw [hU]] at y1
          rw [hcm 1 x1 u1 (by omega) hv3.2.1.symm hv3.2.2.2.2.1.symm,show (if x1 = i then u1 else none) = U.a by rw [hU]] at y2
          rw [hcm 2 x2 u2 (by omega) hv3.2.2.1.symm hv3.2.2.2.2.2.symm,show (if x2 = i then u2 else none) = U.b by rw [hU]] at y3
          have HU:=Lib.hid hU
          clear hcm hv3 hU
          obtain ⟨v0,hv0⟩:∃ v,rootP U.o = v:=⟨_,rfl⟩
          obtain ⟨v1,hv1⟩:∃ v,rootP U.a = v:=⟨_,rfl⟩
          obtain ⟨v2,hv2⟩:∃ v,rootP U.b = v:=⟨_,rfl⟩
          have hpq:PlQ (fun j => [Value.int .i64 (i:Int),.pointer v0,.pointer v1,.pointer v2,.pointer none][j]?) ⟨i,U,none⟩:=⟨rfl,by rw [← hv0];rfl,by rw [← hv1];rfl,by rw [← hv2];rfl,rfl⟩
          rw [hv0] at y1
          rw [hv1] at y2
          rw [hv2] at y3
          have hrow:PRow w base (.slice (some ⟨g,0,none⟩) (pl + 1) d) ps:=by rw [← hpl];exact HH.out.1
          have hlw:W0.heap.size < wr.heap.size∧w.heap.size < W0.heap.size∧q < w.heap.size:=⟨HS.out.2,(Array.getElem?_eq_some_iff.1 HW.out.2.2.1).1,HW.out.2.2.2.2⟩
          have hnq:(Value.slice (some ⟨g,0,none⟩) (pl + 1) d).ownBlock≠some q:=by rw [← hpl];exact HH.out.2.1
          have HV:=Lib.hid (And.intro hv0 (And.intro hv1 (And.intro hv2 (And.intro hpq (And.intro hrow (And.intro hlw hnq))))))
          have hlen5:ps.length≤65536:=by exact HH.out.2.2.2.1
          have HL5:=Lib.hid hlen5
          clear hv0 hv1 hv2 hpq hrow hlw hnq hlen5
          simp only [show ((3:Nat):Int) = 3 from rfl] at *
          go_upto_region 17 with fail
          go_region_law ((refine step_append_rowZ (Q:=PlQ) (Z:=ZPl) 183 186 pl0V 40 Tryz.underlying183 infoPl (by rfl) (by omega) (by omega) plQ_ok zPl_ok (by rfl) _ _ (by rfl) base (.slice (some ⟨g,0,none⟩) (pl + 1) d) ps ((pl + 1) + 1) (by rw [hpl]) (by rfl) (RowZ.below (C:=w.heap.size) HV.out.2.2.2.2.1 (show Below w.heap.size w _ by ((repeat first | refine bD ?_ | with_reducible refine bN ?_ | refine bA ?_ | refine bS ?_);first | exact bR | assumption | exact bN bR | exact bN (bN bR))) (Nat.le_refl _)) ⟨i,U,none⟩ [.int .i64 (i:Int),.pointer v0,.pointer v1,.pointer v2,.pointer none] (by rfl) HV.out.2.2.2.1 ⟨wr.heap.size,0,none⟩ 1 (by rfl) (by exact news_at _ _ _) (by have:=HL5.out;omega) (by have:=HH.out.2.2.1;have:=HB.out.1.size;simp;omega) ?_;intro D5 d5 w5 hown5 hgrow5 hat5 hch5;have hall:=app_all (k:=k) HB.out.1 (by ((repeat first | refine bD ?_ | with_reducible refine bN ?_ | refine bA ?_ | refine bS ?_);first | exact bR | assumption | exact bN bR | exact bN (bN bR))) HV.out.2.2.2.2.1 hgrow5 hch5;have hz5:=hall.2.2.2;have h5q:=(hall.1 q (Nat.lt_trans HV.out.2.2.2.2.2.1.2.2 (Nat.lt_trans HV.out.2.2.2.2.2.1.2.1 HV.out.2.2.2.2.2.1.1)) HV.out.2.2.2.2.2.2).trans HI2.out.2.2.2;have c5:w5.cell? ⟨q,9,none⟩ = some (.slice (some ⟨g,0,none⟩) (pl + 1) d):=(by rw [cell_of_row w5 _ _ _ _ (0,0) h5q];rw [← hpl];rfl);have f5:w5.frozen? ⟨q,9,none⟩ = false:=frozen_of_row w5 _ 9 _ _ h5q;have HG:=Lib.hid (And.intro hown5 (And.intro hat5 (And.intro hall h5q)));clear hown5 hgrow5 hat5 hch5 hall h5q))
          all_goals (
            obtain ⟨hown5,hat5,hall,h5q⟩:=HG.out
            have hlts:=HV.out.2.2.2.2.2.1
            have hvl:∀ b,(Value.slice (some ⟨g,0,none⟩) (pl + 1) d).ownBlock = some b→b < w.heap.size:=fun b hb => (RowZ.lt HV.out.2.2.2.2.1 b hb).2
            have hn1:(Value.slice (some ⟨g,0,none⟩) (pl + 1) d).ownBlock≠some W0.heap.size:=fun e => by have:=hvl _ e;omega
            have hn2:(Value.slice (some ⟨g,0,none⟩) (pl + 1) d).ownBlock≠some w.heap.size:=fun e => by have:=hvl _ e;omega
            have hh5:=hall.1 W0.heap.size hlts.1 hn1
            have hr5:=(hall.1 w.heap.size (Nat.lt_trans hlts.2.1 hlts.1) hn2).trans HB.out.2
            obtain ⟨W6,hW6⟩:∃ W6,W6 = w5.setCell ⟨q,9,none⟩ (.slice D5 ((pl + 1) + 1) d5):=⟨_,rfl⟩
            have hb6:∀ b,b≠q→W6.heap[b]? = w5.heap[b]?:=fun b hb => by rw [hW6];exact Below.heap_setCell w5 ⟨q,9,none⟩ _ b hb
            have hh6:=(hb6 W0.heap.size (by omega)).trans hh5
            have hr6:=(hb6 w.heap.size (by omega)).trans hr5
            have t1:=(World.cell?_of_block (a:=⟨W0.heap.size,1,none⟩) hh6).trans y1
            have t2:=(World.cell?_of_block (a:=⟨W0.heap.size,2,none⟩) hh6).trans y2
            have t3:=(World.cell?_of_block (a:=⟨W0.heap.size,3,none⟩) hh6).trans y3
            have s0:W6.cell? ⟨w.heap.size,0,none⟩ = some (.pointer none):=by rw [cell_of_row W6 _ _ _ _ (0,0) hr6];rfl
            have s1:W6.cell? ⟨w.heap.size,1,none⟩ = some (.pointer none):=by rw [cell_of_row W6 _ _ _ _ (0,0) hr6];rfl
            have s2:W6.cell? ⟨w.heap.size,2,none⟩ = some (.pointer none):=by rw [cell_of_row W6 _ _ _ _ (0,0) hr6];rfl
            have sf:∀ i,W6.frozen? ⟨w.heap.size,i,none⟩ = false:=fun i => frozen_of_row W6 _ i _ _ hr6
            have HE:=Lib.hid (And.intro hown5 (And.intro hat5 (And.intro hall (And.intro h5q (And.intro hW6 (And.intro hvl hlts))))))
            rw [← hW6]
            clear hown5 hat5 hall h5q hW6 hvl hlts hn1 hn2 hh5 hr5 hb6 hh6 hr6 HG c5 f5 hz5 y0 y1 y2 y3 y4 yf c9 c9a z0 z1 z2 zf
            go_wp2_with fail
            refine bodyPost_ret (v:=.tuple #[p3V v0 v1 v2,.bool true]) (by simp [results,Tryz.results113,go_sem,s0,s1,s2]) rfl ?_
            obtain ⟨hown5,hat5,hall,h5q,hW6,hvl,hlts⟩:=HE.out
            have hfin:=on_end (L:=ps ++ [⟨i,U,none⟩]) (p0:=.pointer v0) (p1:=.pointer v1) (p2:=.pointer v2) (Nat.lt_trans hlts.2.1 hlts.1) hlts.2.2 hvl HV.out.2.2.2.2.2.2 hown5 hat5 (by simp) hall (by rw [← hpl];exact h5q) rfl
            rw [← hW6] at hfin
            refine .inr ⟨i,U,D5,d5,?_,HI2.out.1,?_,?_⟩
            · rw [HU.out];exact HI2.out.2.2.1
            · rw [← HV.out.1,← HV.out.2.1,← HV.out.2.2.1]
            · rw [hpl];exact hfin)
end Go.Proofs.YtmkejbfgdmbejaaGreatDoor
