import Derived.Test.YtdpbcfjhljgicaaGreatDoorM56
import Derived.Test.YtdpbcfjhljgicaaGreatDoorM22
import Derived.Test.YtdpbcfjhljgicaaGreatDoorM57
/-
  PLAIN MATHEMATICS of layer 9, third part: the stack of the guide: what is left to be met, and how much there is to be done.
-/
namespace Go.Proofs.YtdpbcfjhljgicaaGreatDoor
open Go.ChangeShapes
open Tr (T S4 Ent)

/-- who is met until somebody says no -/
def metTo (go : List T → Bool) : List T → List T → List T
  | us, [] => us
  | us, t :: r => if go (us ++ [t]) = true then metTo go (us ++ [t]) r else us ++ [t]
theorem metTo_on {go : List T → Bool} {us r : List T} {t : T} (h : go (us ++ [t]) = true) : metTo go us (t :: r) = metTo go (us ++ [t]) r := by simp [metTo, h]
theorem metTo_off {go : List T → Bool} {us r : List T} {t : T} (h : go (us ++ [t]) = false) : metTo go us (t :: r) = us ++ [t] := by simp [metTo, h]
theorem metTo_all {go : List T → Bool} (h : ∀ us, go us = true) : ∀ (L us : List T), metTo go us L = us ++ L
  | [], us => by simp [metTo]
  | t :: L, us => by rw [metTo_on (h _), metTo_all h L]; simp

/-- the mask of a node on the stack -/
def mk1 : Option T → Nat
  | some (.br _ _ pre _) => pre.length
  | _ => 0
def mk2 (lo hi : List Nat) : Option T → Nat
  | some (.br _ l pre _) => Mk.lowM pre l lo hi
  | _ => 0
def mk3 (lo hi : List Nat) : Option T → Nat
  | some (.br _ l pre _) => Mk.highM pre l lo hi
  | _ => 0
def ksO : Option T → List (Nat × T)
  | some t => t.ks
  | none => []
def leftO (lo hi : List Nat) (o : Option T) : Value := maskV (mk1 o : Int) (mk2 lo hi o : Int) (mk3 lo hi o : Int)
theorem leftO_some (lo hi : List Nat) (t : T) : leftO lo hi (some t) = leftV lo hi t := by cases t <;> rfl
/-- the kids to which the guide still goes -/
def beyO (lo hi : List Nat) (o : Option T) (a : Int) : List (Nat × T) := bey (mk1 o) (mk2 lo hi o) (mk3 lo hi o) (ksO o) a
def wholesO (lo hi : List Nat) : Option T → List T
  | some t => Tr.wholes lo hi t
  | none => []
/-- is it met at once? -/
def whO (lo hi : List Nat) : Option T → Bool
  | some t => Tr.whB lo hi t
  | none => false

/-- A NODE ON THE STACK: which one, the address to which the guide went last, the kid there; its row of kids. -/
structure WFr where
  o : Option T
  a : Int
  p : Option Addr
  A : Option Addr
  m : Nat
  c : Nat
def WFr.own (x : WFr) : Option Nat := x.A.map (·.block)
def pend (lo hi : List Nat) (x : WFr) : List T := (beyO lo hi x.o x.a).flatMap fun y => Tr.wholes lo hi y.2
def restW (lo hi : List Nat) (S : List WFr) : List T := S.flatMap (pend lo hi)
theorem restW_nil (lo hi : List Nat) : restW lo hi [] = [] := rfl
theorem restW_cons (lo hi : List Nat) (x : WFr) (S : List WFr) : restW lo hi (x :: S) = pend lo hi x ++ restW lo hi S := rfl
/-- how much is left to be done -/
def todo (lo hi : List Nat) (x : WFr) : Nat := (Tr.allK (beyO lo hi x.o x.a)).length
def todoW (lo hi : List Nat) (S : List WFr) : Nat := (S.map (todo lo hi)).sum
theorem todoW_cons (lo hi : List Nat) (x : WFr) (S : List WFr) : todoW lo hi (x :: S) = todo lo hi x + todoW lo hi S := by simp [todoW]
def todoO (o : Option T) : Nat := (Tr.allO o).length
theorem allK_filter (f : Nat × T → Bool) : ∀ ks : List (Nat × T), (Tr.allK (ks.filter f)).length ≤ (Tr.allK ks).length
  | [] => Nat.le_refl _
  | x :: ks => by
    have ih := allK_filter f ks
    rw [List.filter_cons]
    split
    · rw [Tr.allK_cons, Tr.allK_cons, List.length_append, List.length_append]; omega
    · rw [Tr.allK_cons, List.length_append]; omega
theorem bey_first {k l h : Nat} (ks : List (Nat × T)) : bey k l h ks (-1) = ks.filter fun x => Mk.has k l h x.1 := by
  refine List.filter_congr fun x _ => ?_
  have : (-1 : Int) < (x.1 : Int) := by omega
  simp [this]
/-- pushed -/
theorem pend_push {lo hi : List Nat} {o : Option T} {p A : Option Addr} {m c : Nat} (h : whO lo hi o = false) : pend lo hi ⟨o, -1, p, A, m, c⟩ = wholesO lo hi o := by
  cases o with
  | none => rfl
  | some t =>
    cases t with
    | ent g q v =>
      have : Tr.wholes lo hi (.ent g q v) = [] := Tr.wholes_ent h
      simp only [wholesO, this]
      rfl
    | br g l pre ks =>
      have e : Tr.wholes lo hi (.br g l pre ks) = Tr.wholesK lo hi (.br g l pre ks) ks := Tr.wholes_br h
      simp only [wholesO, e]
      unfold pend beyO Tr.wholesK
      simp only [mk1, mk2, mk3, ksO, T.ks]
      rw [bey_first]
      rfl
theorem todo_push {lo hi : List Nat} {o : Option T} {p A : Option Addr} {m c : Nat} : todo lo hi ⟨o, -1, p, A, m, c⟩ ≤ todoO o - 1 := by
  cases o with
  | none => exact Nat.le_refl _
  | some t =>
    unfold todo todoO
    simp only [Tr.allO]
    rw [Tr.all_eq]
    simp only [List.length_cons, beyO, ksO]
    unfold bey
    have := allK_filter (fun x => decide (-1 < (x.1 : Int)) && Mk.has (mk1 (some t)) (mk2 lo hi (some t)) (mk3 lo hi (some t)) x.1) t.ks
    omega
theorem todoO_pos (t : T) : 1 ≤ todoO (some t) := by
  unfold todoO
  simp only [Tr.allO]
  rw [Tr.all_eq]
  simp
/-- on to the next kid -/
theorem pend_step {lo hi : List Nat} {o : Option T} {a : Int} {p p' A : Option Addr} {m c : Nat} {x : Nat × T} {r : List (Nat × T)} (h : beyO lo hi o a = x :: r) (h2 : beyO lo hi o (x.1 : Int) = r) :
    pend lo hi ⟨o, a, p, A, m, c⟩ = Tr.wholes lo hi x.2 ++ pend lo hi ⟨o, (x.1 : Int), p', A, m, c⟩ ∧ todo lo hi ⟨o, a, p, A, m, c⟩ = todoO (some x.2) + todo lo hi ⟨o, (x.1 : Int), p', A, m, c⟩ := by
  unfold pend todo
  simp only
  rw [h, h2, List.flatMap_cons, Tr.allK_cons, List.length_append]
  exact ⟨rfl, rfl⟩
theorem pend_done {lo hi : List Nat} {x : WFr} (h : beyO lo hi x.o x.a = []) : pend lo hi x = [] ∧ todo lo hi x = 0 := by
  unfold pend todo
  rw [h]
  exact ⟨rfl, rfl⟩

/-! ### the stack in memory -/
/-- the cells of a step -/
def FrQ (lo hi : List Nat) (f : Nat → Option Value) (x : WFr) : Prop :=
  f 0 = some (.pointer (rootP x.o)) ∧ f 1 = some (.int .i64 (mk1 x.o : Int)) ∧ f 2 = some (.int .i64 (mk2 lo hi x.o : Int)) ∧ f 3 = some (.int .i64 (mk3 lo hi x.o : Int)) ∧ f 4 = some (.int .i64 x.a) ∧ f 5 = some (.pointer x.p) ∧ f 6 = some (.slice x.A x.m x.c)
theorem frQ_ok (lo hi : List Nat) : QOk 7 (FrQ lo hi) where
  ext := by
    rintro f g s h ⟨h0, h1, h2, h3, h4, h5, h6⟩
    exact ⟨(h 0 (by omega)).symm.trans h0, (h 1 (by omega)).symm.trans h1, (h 2 (by omega)).symm.trans h2, (h 3 (by omega)).symm.trans h3, (h 4 (by omega)).symm.trans h4, (h 5 (by omega)).symm.trans h5, (h 6 (by omega)).symm.trans h6⟩
  has := by
    rintro f s ⟨h0, h1, h2, h3, h4, h5, h6⟩ j hj
    match j, hj with
    | 0, _ => exact ⟨_, h0, rfl⟩
    | 1, _ => exact ⟨_, h1, rfl⟩
    | 2, _ => exact ⟨_, h2, rfl⟩
    | 3, _ => exact ⟨_, h3, rfl⟩
    | 4, _ => exact ⟨_, h4, rfl⟩
    | 5, _ => exact ⟨_, h5, rfl⟩
    | 6, _ => exact ⟨_, h6, rfl⟩
/-- what has become of a kid: where it stood, what it was, what it is -/
abbrev Met := Int × Option Addr × Option Addr
def MeQ (f : Nat → Option Value) (x : Met) : Prop := f 0 = some (.int .i64 x.1) ∧ f 1 = some (.pointer x.2.1) ∧ f 2 = some (.pointer x.2.2)
theorem meQ_ok : QOk 3 MeQ where
  ext := by
    rintro f g s h ⟨h0, h1, h2⟩
    exact ⟨(h 0 (by omega)).symm.trans h0, (h 1 (by omega)).symm.trans h1, (h 2 (by omega)).symm.trans h2⟩
  has := by
    rintro f s ⟨h0, h1, h2⟩ j hj
    match j, hj with
    | 0, _ => exact ⟨_, h0, rfl⟩
    | 1, _ => exact ⟨_, h1, rfl⟩
    | 2, _ => exact ⟨_, h2, rfl⟩
abbrev StkW (lo hi : List Nat) (w : World) (base : Nat) (v : Value) (S : List WFr) : Prop := OwnL 209 7 (FrQ lo hi) w base v S.reverse
theorem own_blockW (A : Option Addr) (n c : Nat) : (Value.slice A n c).ownBlock = A.map (·.block) := by cases A <;> rfl
/-- the rows of kids -/
def RowK (w : World) (base : Nat) (x : WFr) : Prop := ∃ L : List Met, L.length = x.m ∧ OwnL 150 3 MeQ w base (.slice x.A x.m x.c) L
theorem RowK.block {w w' : World} {base : Nat} {x : WFr} (h : RowK w base x) (hb : ∀ q, x.own = some q → w'.heap[q]? = w.heap[q]?) : RowK w' base x := by
  obtain ⟨L, h1, h2⟩ := h
  exact ⟨L, h1, h2.block fun q hq => hb q (by rw [own_blockW] at hq; exact hq)⟩
theorem RowK.lt {w : World} {base : Nat} {x : WFr} (h : RowK w base x) : ∀ q, x.own = some q → base ≤ q ∧ q < w.heap.size := fun q hq => by
  obtain ⟨L, h1, h2⟩ := h
  exact h2.lt q (by rw [own_blockW]; exact hq)
end Go.Proofs.YtdpbcfjhljgicaaGreatDoor

/-
  CONTRACTS of package window, sixth part: step.next of any node; the guide on its way ('ThrW'); scopes with several labels.
-/
namespace Go.Proofs.YtdpbcfjhljgicaaGreatDoor
open Go.ChangeShapes Go.WideShapes Go.ChangeAt Go.RowKit
open Tr (T S4 Ent)

/-! ### a scope with several labels -/
/-- what holds behind a jump, by its label -/
def jumpsTo (J : Nat → Act → World → Prop) (Q : Exit → Act → World → Prop) : Exit → Act → World → Prop := fun e a w => match e with
  | .goto l => J l a w
  | e => Q e a w
theorem wp_scope_labels {P : Program} {c : Code} {Q : Exit → Act → World → Prop} {a : Act} {w : World} (rest : Nat → Code) (J : Nat → Nat → Act → World → Prop) (hf : ∀ l m a w, J l m a w → findLabel c l = some (rest l))
    (first : c.wp P (jumpsTo (fun l a' w' => ∃ m, J l m a' w') Q) a w)
    (pass : ∀ l m a w, J l m a w → (rest l).wp P (jumpsTo (fun l' a' w' => ∃ m', m' < m ∧ J l' m' a' w') Q) a w) : (Code.scope c).wp P Q a w := by
  intro b k cs
  have key : ∀ m l a w, J l m a w → ∃ e a' w', Q e a' w' ∧ Arrives P (lone (b.at a (.code (rest l) :: .inScope c :: k)) cs w) b k cs e a' w' := by
    intro m
    induction m using Nat.strongRecOn with
    | _ m ih =>
      intro l a w hJ
      obtain ⟨e, a₁, w₁, hq, harr⟩ := pass l m a w hJ b (.inScope c :: k) cs
      cases e with
      | normal => exact ⟨.normal, a₁, w₁, hq, Steps.trans harr (.one step_inScope)⟩
      | exit id => exact ⟨.exit id, a₁, w₁, hq, fun k' hk => harr k' (by simp [exitTo, hk])⟩
      | goto l' =>
        obtain ⟨m', hlt, hJ'⟩ := hq
        have hg : gotoIn l' (.inScope c :: k) = some (.code (rest l') :: .inScope c :: k) := by simp [gotoIn, hf l' m' _ _ hJ']
        obtain ⟨e₂, a₂, w₂, hq₂, harr₂⟩ := ih m' hlt l' a₁ w₁ hJ'
        exact ⟨e₂, a₂, w₂, hq₂, .of_steps (harr _ hg) harr₂⟩
      | ret => exact ⟨_, a₁, w₁, hq, harr⟩
      | panic ch => exact ⟨_, a₁, w₁, hq, harr⟩
      | outgrown => exact ⟨_, a₁, w₁, hq, harr⟩
  obtain ⟨e, a₁, w₁, hq, harr⟩ := first b (.inScope c :: k) cs
  cases e with
  | normal => exact ⟨.normal, a₁, w₁, hq, .head step_scope (Steps.trans harr (.one step_inScope))⟩
  | exit id => exact ⟨.exit id, a₁, w₁, hq, fun k' hk => .head step_scope (harr k' (by simp [exitTo, hk]))⟩
  | goto l =>
    obtain ⟨m, hJ'⟩ := hq
    have hg : gotoIn l (.inScope c :: k) = some (.code (rest l) :: .inScope c :: k) := by simp [gotoIn, hf l m _ _ hJ']
    obtain ⟨e₂, a₂, w₂, hq₂, harr₂⟩ := key m l a₁ w₁ hJ'
    exact ⟨e₂, a₂, w₂, hq₂, .of_steps (.head step_scope (harr _ hg)) harr₂⟩
  | ret => exact ⟨_, a₁, w₁, hq, .of_steps (.one step_scope) harr⟩
  | panic ch => exact ⟨_, a₁, w₁, hq, .of_steps (.one step_scope) harr⟩
  | outgrown => exact ⟨_, a₁, w₁, hq, .of_steps (.one step_scope) harr⟩
/-- less is left than was allowed -/
theorem jumps_le {P : Program} {c : Code} {Q : Exit → Act → World → Prop} {a : Act} {w : World} {J : Nat → Nat → Act → World → Prop} {m n : Nat} (h : c.wp P (jumpsTo (fun l' a' w' => ∃ m', m' < m ∧ J l' m' a' w') Q) a w) (hm : m ≤ n) :
    c.wp P (jumpsTo (fun l' a' w' => ∃ m', m' < n ∧ J l' m' a' w') Q) a w := Code.wp_mono (by
  intro e a' w' h'
  cases e <;> first | exact h' | (obtain ⟨m', h1, h2⟩ := h'; exact ⟨m', Nat.lt_of_lt_of_le h1 hm, h2⟩)) h
theorem jumps_any {P : Program} {c : Code} {Q : Exit → Act → World → Prop} {a : Act} {w : World} {J : Nat → Nat → Act → World → Prop} {m : Nat} (h : c.wp P (jumpsTo (fun l' a' w' => ∃ m', m' < m ∧ J l' m' a' w') Q) a w) :
    c.wp P (jumpsTo (fun l' a' w' => ∃ m', J l' m' a' w') Q) a w := Code.wp_mono (by
  intro e a' w' h'
  cases e <;> first | exact h' | (obtain ⟨m', h1, h2⟩ := h'; exact ⟨m', h2⟩)) h

/-! ### step.next where nothing is left -/
theorem stepTo_self {cs : Array Value} {off : Nat} {a : Int} {p : Option Addr} (c4 : cs[off + 4]? = some (.int .i64 a)) (c5 : cs[off + 5]? = some (.pointer p)) : stepTo cs off a p = cs := by
  have h4 := Array.getElem?_eq_some_iff.1 c4
  have h5 := Array.getElem?_eq_some_iff.1 c5
  unfold stepTo
  apply Array.ext_getElem?
  intro i
  simp only [Array.getElem?_setIfInBounds, Array.size_setIfInBounds]
  split
  · subst_vars; rw [if_pos h5.1, c5]
  · split
    · subst_vars; rw [if_pos h4.1, c4]
    · rfl
set_option maxRecDepth 1000000 in
set_option maxHeartbeats 2000000 in
theorem stepNext_zero {w : World} {q off : Nat} {cs : Array Value} {ty : TypeId} (hq : w.heap[q]? = some (.cells cs ty (0, 0))) {a : Int} (c1 : cs[off + 1]? = some (.int .i64 0)) (c2 : cs[off + 2]? = some (.int .i64 0)) (c3 : cs[off + 3]? = some (.int .i64 0)) (c4 : cs[off + 4]? = some (.int .i64 a)) :
    Calls Tryz.prog 145 #[.pointer (some ⟨q, off, none⟩)] w fun e w' => e = .returned (.bool false) ∧ Below w.heap.size w w' := by
  have hqs : q < w.heap.size := (Array.getElem?_eq_some_iff.1 hq).1
  have hc : ∀ (w2 : World) (j : Nat) (v : Value), Below w.heap.size w w2 → cs[j]? = some v → w2.cell? ⟨q, j, none⟩ = some v := fun w2 j v hb hj => by rw [cell_of_row w2 _ _ _ _ (0, 0) ((hb.block q hqs).trans hq)]; exact hj
  have m0 : ∀ w2, Below w.heap.size w w2 → w2.cell? ⟨q, off + 1, none⟩ = some (.int .i64 0) := fun w2 hb => hc w2 _ _ hb c1
  have m1 : ∀ w2, Below w.heap.size w w2 → w2.cell? ⟨q, off + 1 + 1, none⟩ = some (.int .i64 0) := fun w2 hb => hc w2 _ _ hb c2
  have m2 : ∀ w2, Below w.heap.size w w2 → w2.cell? ⟨q, off + 1 + 2, none⟩ = some (.int .i64 0) := fun w2 hb => hc w2 _ _ hb c3
  have m3 : ∀ w2, Below w.heap.size w w2 → w2.cell? ⟨q, off + 4, none⟩ = some (.int .i64 a) := fun w2 hb => hc w2 _ _ hb c4
  have HNx := Lib.hid fun w2 : World => mnext_no 0 0 0 a w2 (by unfold MRight; omega) (by unfold I64; omega) (by unfold I64; omega) (by unfold I64; omega)
  have hbb := Below.refl w.heap.size w
  clear hc hq c1 c2 c3 c4 hqs
  go_enter Tryz.func145, Tryz.ntmps145
  go_wp2_with fail
  refine wp_scope_straight ?_
  refine wp_seq (wp_label ?_)
  go_wp2_with fail
  go_region_held3 (fun w2 => Below w.heap.size w w2) (((repeat (first | refine Below.drew ?_ | (with_reducible refine below_drewN _ ?_) | refine Below.alloc ?_ (by first | omega | (simp; done) | (simp; omega)) _ | refine Below.setCell ?_ (by first | omega | (simp; done) | (simp; omega)) _)); first | exact Below.refl _ _ | assumption | exact below_drewN _ (Below.refl _ _) | exact below_drewN _ (below_drewN _ (Below.refl _ _))))
    ((go_at_call 171; refine (HNx.out _).mono ?_; rintro e wc ⟨rfl, hbc⟩; have hBc := Below.trans (show Below w.heap.size w _ by ((repeat (first | refine Below.drew ?_ | (with_reducible refine below_drewN _ ?_) | refine Below.alloc ?_ (by first | omega | (simp; done) | (simp; omega)) _ | refine Below.setCell ?_ (by first | omega | (simp; done) | (simp; omega)) _)); first | exact Below.refl _ _ | assumption | exact below_drewN _ (Below.refl _ _) | exact below_drewN _ (below_drewN _ (Below.refl _ _)))) (hbc.mono (Below.size (show Below w.heap.size w _ by ((repeat (first | refine Below.drew ?_ | (with_reducible refine below_drewN _ ?_) | refine Below.alloc ?_ (by first | omega | (simp; done) | (simp; omega)) _ | refine Below.setCell ?_ (by first | omega | (simp; done) | (simp; omega)) _)); first | exact Below.refl _ _ | assumption | exact below_drewN _ (Below.refl _ _) | exact below_drewN _ (below_drewN _ (Below.refl _ _)))))); clear hbc))
  clear m0 m1 m2 m3
  go_wp2_with fail
  simp only [Exit.noGoto]
  go_ret
  exact ⟨rfl, hBc⟩

/-! ### whoever is told -/
/-- WHOEVER IS TOLD WHAT LIES IN A BOX: a function fid with one captured variable in block h; 'W' is all that lies there, 'go' tells whether to go on; 'Inv us w F': it has been told us, its memory lies in the blocks F. -/
structure VisitW (fid h B k : Nat) (W : List T) (go : List T → Bool) (Inv : List T → World → (Nat → Prop) → Prop) : Prop where
  ent : ∀ args w, (callFunc fid args).run Tryz.prog w = .ok (.enter fid args) w
  frame : ∀ us w w' F, Inv us w F → w.heap.size ≤ w'.heap.size → (∀ b, F b → w'.heap[b]? = w.heap[b]?) → Inv us w' F
  inb : ∀ us w F, Inv us w F → ∀ b, F b → b < w.heap.size ∧ B ≤ b
  call : ∀ us w F t r on, Inv us w F → Node w B k t → B ≤ w.heap.size → (∀ w', Below B w w' → Tz w') → W = us ++ t :: r → go us = true → go (us ++ [t]) = on → Calls Tryz.prog fid #[.pointer (some ⟨t.blk, 0, none⟩), .pointer (some ⟨h, 0, none⟩)] w fun e w' =>
    e = .returned (.tuple #[.pointer (some ⟨t.blk, 0, none⟩), .bool on]) ∧ ∃ F', Inv (us ++ [t]) w' F' ∧ (∀ b, F' b → F b ∨ w.heap.size ≤ b) ∧ Foot F w w'
def lvO : Option T → Nat
  | some t => t.lv
  | none => 0
def Lev : List WFr → Prop
  | [] => True
  | x :: S => lvO x.o + (S.length + 1) ≤ 65 ∧ Lev S
/-- WHAT HOLDS ON THE GUIDE's WAY: 'L' is what is met of the node at hand, 'S' the stack. -/
structure ThrW (h B k : Nat) (W : List T) (go : List T → Bool) (Inv : List T → World → (Nat → Prop) → Prop) (lo hi : List Nat) (gc : Array Value) (w : World) (F : Nat → Prop) (L : List T) (S : List WFr) (D : Option Addr) (d : Nat) (w' : World) : Prop where
  us : ∃ us F', W = us ++ (L ++ restW lo hi S) ∧ go us = true ∧ metTo go [] W = metTo go us (L ++ restW lo hi S) ∧ Inv us w' F' ∧ (∀ b, F' b → F b ∨ w.heap.size ≤ b) ∧ ¬ F' w.heap.size ∧ (∀ q, D.map (·.block) = some q → ¬ F' q) ∧ (∀ x ∈ S, ∀ q, x.own = some q → ¬ F' q)
  fr : ∀ x ∈ S, NodeO w B k x.o ∧ -1 ≤ x.a ∧ x.a ≤ 65536
  foot : Foot F w w'
  box : w'.heap[w.heap.size]? = some (.cells gc 90 (0, 0))
  stk : StkW lo hi w' (w.heap.size + 1) (.slice D S.length d) S
  rows : ∀ x ∈ S, RowK w' (w.heap.size + 1) x
  dis : S.Pairwise fun x y => ∀ q, x.own = some q → y.own ≠ some q
  sep : ∀ x ∈ S, ∀ q, x.own = some q → D.map (·.block) ≠ some q
  lev : Lev S
section
variable {fid h B k : Nat} {W : List T} {go : List T → Bool} {Inv : List T → World → (Nat → Prop) → Prop} {lo hi : List Nat} {gc : Array Value} {w : World} {F : Nat → Prop} {L : List T} {S : List WFr} {D : Option Addr} {d : Nat} {w1 w2 : World}
theorem ThrW.lt (s : ThrW h B k W go Inv lo hi gc w F L S D d w1) : w.heap.size < w1.heap.size := (Array.getElem?_eq_some_iff.1 s.box).1
theorem ThrW.below (hv : VisitW fid h B k W go Inv) (s : ThrW h B k W go Inv lo hi gc w F L S D d w1) (hb : Below w1.heap.size w1 w2) : ThrW h B k W go Inv lo hi gc w F L S D d w2 := by
  obtain ⟨us, F', e1, e2, e3, e4, e5, e6, e7, e8⟩ := s.us
  exact ⟨⟨us, F', e1, e2, e3, hv.frame _ _ _ _ e4 hb.size (fun b hF => hb.block b (hv.inb _ _ _ e4 b hF).1), e5, e6, e7, e8⟩, s.fr, s.foot.trans (Foot.of_below (F := F) hb) (fun b hb => .inl hb), (hb.block _ s.lt).trans s.box,
    OwnL.below s.stk hb (Nat.le_refl _), fun x hx => (s.rows x hx).block fun q hq => hb.block q ((s.rows x hx).lt q hq).2, s.dis, s.sep, s.lev⟩
/-- told of a node -/
theorem ThrW.told {t : T} (hv : VisitW fid h B k W go Inv) (s : ThrW h B k W go Inv lo hi gc w F [t] S D d w1) (hn : Node w1 B k t) (hB : B ≤ w1.heap.size) (hT : ∀ w', Below B w1 w' → Tz w') :
    ∃ on, Calls Tryz.prog fid #[.pointer (some ⟨t.blk, 0, none⟩), .pointer (some ⟨h, 0, none⟩)] w1 fun e w2 => e = .returned (.tuple #[.pointer (some ⟨t.blk, 0, none⟩), .bool on]) ∧
      (on = true → ThrW h B k W go Inv lo hi gc w F [] S D d w2) ∧ (on = false → ∃ F', Inv (metTo go [] W) w2 F' ∧ (∀ b, F' b → F b ∨ w.heap.size ≤ b) ∧ Foot F w w2) := by
  obtain ⟨us, F', e1, e2, e3, e4, e5, e6, e7, e8⟩ := s.us
  refine ⟨go (us ++ [t]), (hv.call us w1 F' t _ _ e4 hn hB hT e1 e2 rfl).mono ?_⟩
  rintro e w2 ⟨rfl, F2, i2, hF2, hfo⟩
  have hlt := s.lt
  have hsz := hfo.size
  have hF2' : ∀ b, F2 b → F b ∨ w.heap.size ≤ b := fun b hb => by
    rcases hF2 b hb with c | c
    · exact e5 b c
    · exact .inr (by omega)
  have hft : Foot F w w2 := s.foot.trans hfo e5
  refine ⟨rfl, fun hon => ?_, fun hon => ⟨F2, ?_, hF2', hft⟩⟩
  · have hold : ∀ q, q < w1.heap.size → ¬ F' q → ¬ F2 q := fun q hq hn hh => by
      rcases hF2 q hh with c | c
      · exact hn c
      · omega
    have hstk := s.stk.lt
    refine ⟨⟨us ++ [t], F2, by rw [e1]; simp, hon, by rw [e3]; exact metTo_on hon, i2, hF2', hold _ hlt e6, fun q hq => hold q (hstk q (by rw [own_block]; exact hq)).2 (e7 q hq), fun x hx q hq => hold q ((s.rows x hx).lt q hq).2 (e8 x hx q hq)⟩, s.fr, hft, (hfo.block _ hlt e6).trans s.box,
      s.stk.block fun q hq => hfo.block q (hstk q hq).2 (e7 q (by rw [own_block] at hq; exact hq)), fun x hx => (s.rows x hx).block fun q hq => hfo.block q ((s.rows x hx).lt q hq).2 (e8 x hx q hq), s.dis, s.sep, s.lev⟩
  · rw [e3, List.cons_append, metTo_off hon]
    exact i2
/-- pushed -/
theorem ThrW.push {o : Option T} (hv : VisitW fid h B k W go Inv) (s : ThrW h B k W go Inv lo hi gc w F (wholesO lo hi o) S D d w1) (hn : NodeO w B k o) (hw : whO lo hi o = false) (hl : lvO o + (S.length + 1) ≤ 65) {ob : Obj} {D2 : Option Addr} {d2 : Nat}
    (hown : OwnL 209 7 (FrQ lo hi) w2 (w.heap.size + 1) (.slice D2 (S.length + 1) d2) (S.reverse ++ [⟨o, -1, none, none, 0, 0⟩])) (hgr : (w1.alloc ob).grownBy w2 (D.map (·.block)))
    (hat : D2.map (·.block) = D.map (·.block) ∨ D2.map (·.block) = some (w1.heap.size + 1)) : ThrW h B k W go Inv lo hi gc w F [] (⟨o, -1, none, none, 0, 0⟩ :: S) D2 d2 w2 := by
  obtain ⟨us, F', e1, e2, e3, e4, e5, e6, e7, e8⟩ := s.us
  have hlt := s.lt
  have hblk : ∀ b, b < w1.heap.size → D.map (·.block) ≠ some b → w2.heap[b]? = w1.heap[b]? := fun b hb hne => by
    rw [hgr.block b (by simp; omega) (fun e => hne e.symm), Below.heap_alloc _ _ _ (by omega)]
  have hsz : w1.heap.size ≤ w2.heap.size := Nat.le_trans (by simp) hgr.size
  have hDlt : ∀ q, D.map (·.block) = some q → w.heap.size + 1 ≤ q ∧ q < w1.heap.size := fun q hq => s.stk.lt q (by rw [own_block]; exact hq)
  have hinb := hv.inb _ _ _ e4
  have hft : Foot F w w2 := by
    refine s.foot.trans (F1 := fun b => D.map (·.block) = some b) ⟨?_, ?_, ?_, hsz, fun b hb hne => hblk b hb hne⟩ (fun b hb => .inr (by have := hDlt b hb; omega))
    · exact hgr.os
    · exact hgr.tape
    · exact hgr.output
  have hp := pend_push (p := none) (A := none) (m := 0) (c := 0) hw
  refine ⟨⟨us, F', ?_, e2, ?_, hv.frame _ _ _ _ e4 hsz (fun b hF => hblk b (hinb b hF).1 (fun e => e7 b e hF)), e5, e6, fun q hq hF => ?_, fun x hx q hq => ?_⟩, fun x hx => ?_, hft, ?_, ?_, fun x hx => ?_, ?_, fun x hx q hq => ?_, hl, s.lev⟩
  · rw [e1, restW_cons, hp, List.nil_append]
  · rw [e3, restW_cons, hp, List.nil_append]
  · rcases hat with c | c
    · exact e7 q (by rw [← c]; exact hq) hF
    · rw [c] at hq
      cases hq
      have := (hinb _ hF).1
      omega
  · rcases List.mem_cons.1 hx with rfl | hx
    · cases hq
    · exact e8 x hx q hq
  · rcases List.mem_cons.1 hx with rfl | hx
    · exact ⟨hn, by show (-1 : Int) ≤ -1; omega, by show (-1 : Int) ≤ 65536; omega⟩
    · exact s.fr x hx
  · rw [hblk _ hlt (fun e => by have := hDlt _ e; omega)]
    exact s.box
  · show OwnL _ _ _ _ _ _ _
    rw [List.reverse_cons]
    exact hown
  · rcases List.mem_cons.1 hx with rfl | hx
    · exact ⟨[], rfl, ownL_none _ _ _⟩
    · exact (s.rows x hx).block fun q hq => hblk q ((s.rows x hx).lt q hq).2 (s.sep x hx q hq)
  · refine List.pairwise_cons.2 ⟨fun y _ q hq => ?_, s.dis⟩
    cases hq
  · rcases List.mem_cons.1 hx with rfl | hx
    · cases hq
    · intro e
      rcases hat with c | c
      · exact s.sep x hx q hq (by rw [← c]; exact e)
      · rw [c] at e
        cases e
        have := ((s.rows x hx).lt _ hq).2
        omega
/-- the top of the stack -/
theorem ThrW.top {x : WFr} (s : ThrW h B k W go Inv lo hi gc w F L (x :: S) D d w1) : ∃ q cs, D = some ⟨q, 0, none⟩ ∧ w.heap.size + 1 ≤ q ∧ q < w1.heap.size ∧ S.length + 1 ≤ d ∧ w1.heap[q]? = some (.cells cs 209 (0, 0)) ∧ FrQ lo hi (fun j => cs[S.length * 7 + j]?) x := by
  have hg : (x :: S).reverse[S.length]? = some x := by rw [List.reverse_cons, List.getElem?_append_right (by simp)]; simp
  obtain ⟨vs, h1, h2⟩ := s.stk
  rcases h2.2 with ⟨hv', hn⟩ | ⟨q, cap, cur, hv', hge, hh, hnc, hcm, hsz, hcur⟩
  · simp at hn
  · simp only [Value.slice.injEq] at hv'
    obtain ⟨rfl, -, rfl⟩ := hv'
    refine ⟨q, cur, rfl, hge, (Array.getElem?_eq_some_iff.1 hh).1, by simpa using hnc, hh, ?_⟩
    refine (frQ_ok lo hi).ext _ _ _ (fun j hj => ?_) (h1.2 S.length x hg)
    rw [← hcur, List.getElem?_take_of_lt (by simp; omega), Array.getElem?_toList]
/-- on to another kid -/
theorem ThrW.on {o : Option T} {a a' : Int} {p p' A : Option Addr} {m c q : Nat} {cs : Array Value} {L' : List T} (hv : VisitW fid h B k W go Inv) (s : ThrW h B k W go Inv lo hi gc w F [] (⟨o, a, p, A, m, c⟩ :: S) (some ⟨q, 0, none⟩) d w1)
    (hcs : w1.heap[q]? = some (.cells cs 209 (0, 0))) (hq2 : w2.heap[q]? = some (.cells (stepTo cs (S.length * 7) a' p') 209 (0, 0))) (hf : Foot (fun b => b = q) w1 w2) (ha1 : -1 ≤ a') (ha2 : a' ≤ 65536)
    (hL : pend lo hi ⟨o, a, p, A, m, c⟩ = L' ++ pend lo hi ⟨o, a', p', A, m, c⟩) : ThrW h B k W go Inv lo hi gc w F L' (⟨o, a', p', A, m, c⟩ :: S) (some ⟨q, 0, none⟩) d w2 := by
  obtain ⟨us, F', e1, e2, e3, e4, e5, e6, e7, e8⟩ := s.us
  have hlt := s.lt
  have hqF : ¬ F' q := e7 q rfl
  have hqlt := (s.stk.lt q rfl)
  have hinb := hv.inb _ _ _ e4
  have hall : ∀ x ∈ (⟨o, a', p', A, m, c⟩ : WFr) :: S, ∃ y ∈ (⟨o, a, p, A, m, c⟩ : WFr) :: S, x.own = y.own ∧ x.A = y.A ∧ x.m = y.m ∧ x.c = y.c ∧ x.o = y.o := fun x hx => by
    rcases List.mem_cons.1 hx with rfl | hx
    · exact ⟨_, List.mem_cons_self, rfl, rfl, rfl, rfl, rfl⟩
    · exact ⟨x, List.mem_cons_of_mem _ hx, rfl, rfl, rfl, rfl, rfl⟩
  have hset : OwnL 209 7 (FrQ lo hi) ((w1.setCell ⟨q, S.length * 7 + 4, none⟩ (.int .i64 a')).setCell ⟨q, S.length * 7 + 5, none⟩ (.pointer p')) (w.heap.size + 1) (.slice (some ⟨q, 0, none⟩) (S.length + 1) d) ((⟨o, a', p', A, m, c⟩ :: S).reverse) := by
    have hlen : S.length < ((⟨o, a, p, A, m, c⟩ :: S : List WFr).reverse).length := by simp
    obtain ⟨g1, hg1, r1⟩ := OwnL.set (i := S.length) (j := 4) (x := (⟨o, a', p, A, m, c⟩ : WFr)) (u := .int .i64 a') s.stk (frQ_ok lo hi) hlen (by omega) (by
      intro f y hy hf
      rw [List.reverse_cons, List.getElem?_append_right (by simp)] at hy
      simp at hy
      subst hy
      exact ⟨hf.1, hf.2.1, hf.2.2.1, hf.2.2.2.1, rfl, hf.2.2.2.2.2.1, hf.2.2.2.2.2.2⟩)
    have hq1 : q = g1 := by simp only [Option.some.injEq, Addr.mk.injEq] at hg1; exact hg1.1
    subst hq1
    rw [show ((⟨o, a, p, A, m, c⟩ :: S : List WFr).reverse).set S.length (⟨o, a', p, A, m, c⟩ : WFr) = (⟨o, a', p, A, m, c⟩ :: S : List WFr).reverse by
      simp only [List.reverse_cons]
      rw [List.set_append_right _ _ (by simp)]
      simp] at r1
    obtain ⟨g2, hg2, r2⟩ := OwnL.set (i := S.length) (j := 5) (x := (⟨o, a', p', A, m, c⟩ : WFr)) (u := .pointer p') r1 (frQ_ok lo hi) (by simp) (by omega) (by
      intro f y hy hf
      rw [List.reverse_cons, List.getElem?_append_right (by simp)] at hy
      simp at hy
      subst hy
      exact ⟨hf.1, hf.2.1, hf.2.2.1, hf.2.2.2.1, hf.2.2.2.2.1, rfl, hf.2.2.2.2.2.2⟩)
    have hq2 : q = g2 := by simp only [Option.some.injEq, Addr.mk.injEq] at hg2; exact hg2.1
    subst hq2
    rw [show ((⟨o, a', p, A, m, c⟩ :: S : List WFr).reverse).set S.length (⟨o, a', p', A, m, c⟩ : WFr) = (⟨o, a', p', A, m, c⟩ :: S : List WFr).reverse by
      simp only [List.reverse_cons]
      rw [List.set_append_right _ _ (by simp)]
      simp] at r2
    exact r2
  have hsame : w2.heap[q]? = ((w1.setCell ⟨q, S.length * 7 + 4, none⟩ (.int .i64 a')).setCell ⟨q, S.length * 7 + 5, none⟩ (.pointer p')).heap[q]? := by
    rw [hq2, block_set (block_set hcs _) _]
    rfl
  refine ⟨⟨us, F', ?_, e2, ?_, hv.frame _ _ _ _ e4 hf.size (fun b hF => hf.block b (hinb b hF).1 (fun e => hqF (e ▸ hF))), e5, e6, e7, fun x hx r hr => ?_⟩, fun x hx => ?_, s.foot.trans hf (fun b hb => .inr (by subst hb; omega)), ?_, ?_, fun x hx => ?_, ?_, fun x hx r hr => ?_, s.lev⟩
  · rw [e1, restW_cons, restW_cons, hL]; simp
  · rw [e3, restW_cons, restW_cons, hL]; simp
  · obtain ⟨y, hy, ey, -⟩ := hall x hx
    exact e8 y hy r (ey ▸ hr)
  · rcases List.mem_cons.1 hx with rfl | hx
    · exact ⟨(s.fr _ List.mem_cons_self).1, ha1, ha2⟩
    · exact s.fr x (List.mem_cons_of_mem _ hx)
  · rw [hf.block _ hlt (by omega)]
    exact s.box
  · refine hset.block fun r hr => ?_
    rw [own_block] at hr
    simp only [Option.map_some, Option.some.injEq] at hr
    subst hr
    exact hsame
  · obtain ⟨y, hy, ey, eA, em, ec, -⟩ := hall x hx
    have hr := s.rows y hy
    have hne : ∀ r, y.own = some r → r ≠ q := fun r hr e => s.sep y hy r hr (by rw [e]; rfl)
    have := hr.block fun r h2 => hf.block r (hr.lt r h2).2 (hne r h2)
    obtain ⟨l, l1, l2⟩ := this
    exact ⟨l, by rw [em]; exact l1, by rw [eA, em, ec]; exact l2⟩
  · exact List.pairwise_cons.2 ⟨(List.pairwise_cons.1 s.dis).1, (List.pairwise_cons.1 s.dis).2⟩
  · obtain ⟨y, hy, ey, -⟩ := hall x hx
    exact s.sep y hy r (ey ▸ hr)
/-- popped -/
theorem ThrW.pop {x : WFr} (s : ThrW h B k W go Inv lo hi gc w F [] (x :: S) D d w1) (hx : pend lo hi x = []) : ThrW h B k W go Inv lo hi gc w F [] S D d w1 := by
  obtain ⟨us, F', e1, e2, e3, e4, e5, e6, e7, e8⟩ := s.us
  refine ⟨⟨us, F', by rw [e1, restW_cons, hx, List.nil_append], e2, by rw [e3, restW_cons, hx, List.nil_append], e4, e5, e6, e7, fun y hy => e8 y (List.mem_cons_of_mem _ hy)⟩, fun y hy => s.fr y (List.mem_cons_of_mem _ hy), s.foot, s.box, ?_, fun y hy => s.rows y (List.mem_cons_of_mem _ hy), (List.pairwise_cons.1 s.dis).2, fun y hy => s.sep y (List.mem_cons_of_mem _ hy), s.lev.2⟩
  have h7 := OwnL.take (frQ_ok lo hi) s.stk S.length (by simp)
  rw [show ((x :: S).reverse).take S.length = S.reverse by rw [List.reverse_cons, List.take_append_of_le_length (by simp), List.take_of_length_le (by simp)]] at h7
  exact h7
/-- what has become of a kid is kept -/
theorem ThrW.app {o : Option T} {a : Int} {p A A2 : Option Addr} {m c c2 q : Nat} {M : List Met} (hv : VisitW fid h B k W go Inv) (s : ThrW h B k W go Inv lo hi gc w F [] (⟨o, a, p, A, m, c⟩ :: S) (some ⟨q, 0, none⟩) d w1) {ob : Obj} (hM : M.length = m + 1)
    (hown : OwnL 150 3 MeQ w2 (w.heap.size + 1) (.slice A2 (m + 1) c2) M) (hgr : (w1.alloc ob).grownBy w2 (A.map (·.block))) (hat : A2.map (·.block) = A.map (·.block) ∨ A2.map (·.block) = some (w1.heap.size + 1)) :
    ThrW h B k W go Inv lo hi gc w F [] (⟨o, a, p, A2, m + 1, c2⟩ :: S) (some ⟨q, 0, none⟩) d (w2.setCell ⟨q, S.length * 7 + 6, none⟩ (.slice A2 (m + 1) c2)) := by
  obtain ⟨us, F', e1, e2, e3, e4, e5, e6, e7, e8⟩ := s.us
  have hlt := s.lt
  have hqF : ¬ F' q := e7 q rfl
  have hqlt := (s.stk.lt q rfl)
  have hinb := hv.inb _ _ _ e4
  have hsz : w1.heap.size ≤ w2.heap.size := Nat.le_trans (by simp) hgr.size
  have hAlt : ∀ r, A.map (·.block) = some r → w.heap.size + 1 ≤ r ∧ r < w1.heap.size := fun r hr => (s.rows _ List.mem_cons_self).lt r hr
  have hAq : A.map (·.block) ≠ some q := fun e => s.sep _ List.mem_cons_self q e rfl
  have hAF : ∀ r, A.map (·.block) = some r → ¬ F' r := fun r hr => e8 _ List.mem_cons_self r hr
  have hblk : ∀ b, b < w1.heap.size → A.map (·.block) ≠ some b → w2.heap[b]? = w1.heap[b]? := fun b hb hne => by
    rw [hgr.block b (by simp; omega) (fun e => hne e.symm), Below.heap_alloc _ _ _ (by omega)]
  have hblk2 : ∀ b, b < w1.heap.size → A.map (·.block) ≠ some b → b ≠ q → (w2.setCell ⟨q, S.length * 7 + 6, none⟩ (.slice A2 (m + 1) c2)).heap[b]? = w1.heap[b]? := fun b hb hne hq => by
    rw [Below.heap_setCell _ _ _ _ (by simpa using hq)]
    exact hblk b hb hne
  have hA2q : A2.map (·.block) ≠ some q := by
    rcases hat with e | e
    · rw [e]; exact hAq
    · rw [e]; simp only [ne_eq, Option.some.injEq]; omega
  have hft : Foot F w (w2.setCell ⟨q, S.length * 7 + 6, none⟩ (.slice A2 (m + 1) c2)) := by
    refine s.foot.trans (F1 := fun b => A.map (·.block) = some b ∨ b = q) ⟨?_, ?_, ?_, by simpa using hsz, fun b hb hne => hblk2 b hb (fun e => hne (.inl e)) (fun e => hne (.inr e))⟩ (fun b hb => .inr ?_)
    · exact hgr.os
    · exact hgr.tape
    · exact hgr.output
    · rcases hb with hb | hb
      · have := hAlt b hb; omega
      · subst hb; omega
  have hstk : OwnL 209 7 (FrQ lo hi) (w2.setCell ⟨q, S.length * 7 + 6, none⟩ (.slice A2 (m + 1) c2)) (w.heap.size + 1) (.slice (some ⟨q, 0, none⟩) (S.length + 1) d) ((⟨o, a, p, A2, m + 1, c2⟩ :: S).reverse) := by
    have h0 : StkW lo hi w2 (w.heap.size + 1) (.slice (some ⟨q, 0, none⟩) (S.length + 1) d) (⟨o, a, p, A, m, c⟩ :: S) := s.stk.block fun r hr => by
      rw [own_block] at hr
      simp only [Option.map_some, Option.some.injEq] at hr
      subst hr
      exact hblk _ hqlt.2 hAq
    obtain ⟨g1, hg1, r1⟩ := OwnL.set (i := S.length) (j := 6) (x := (⟨o, a, p, A2, m + 1, c2⟩ : WFr)) (u := .slice A2 (m + 1) c2) h0 (frQ_ok lo hi) (by simp) (by omega) (by
      intro f y hy hf
      rw [List.reverse_cons, List.getElem?_append_right (by simp)] at hy
      simp at hy
      subst hy
      exact ⟨hf.1, hf.2.1, hf.2.2.1, hf.2.2.2.1, hf.2.2.2.2.1, hf.2.2.2.2.2.1, rfl⟩)
    have hq1 : q = g1 := by simp only [Option.some.injEq, Addr.mk.injEq] at hg1; exact hg1.1
    subst hq1
    rw [show ((⟨o, a, p, A, m, c⟩ :: S : List WFr).reverse).set S.length (⟨o, a, p, A2, m + 1, c2⟩ : WFr) = (⟨o, a, p, A2, m + 1, c2⟩ :: S : List WFr).reverse by
      simp only [List.reverse_cons]
      rw [List.set_append_right _ _ (by simp)]
      simp] at r1
    exact r1
  refine ⟨⟨us, F', e1, e2, e3, hv.frame _ _ _ _ e4 (by simpa using hsz) (fun b hF => hblk2 b (hinb b hF).1 (fun e => hAF b e hF) (fun e => hqF (e ▸ hF))), e5, e6, e7, fun x hx r hr hF => ?_⟩, fun x hx => ?_, hft, ?_, hstk, fun x hx => ?_, ?_, fun x hx r hr => ?_, s.lev⟩
  · rcases List.mem_cons.1 hx with rfl | hx
    · have hr : A2.map (·.block) = some r := hr
      rcases hat with e | e
      · rw [e] at hr; exact hAF r hr hF
      · rw [e] at hr
        cases hr
        have := (hinb _ hF).1
        omega
    · exact e8 x (List.mem_cons_of_mem _ hx) r hr hF
  · rcases List.mem_cons.1 hx with rfl | hx
    · exact (show NodeO w B k o ∧ -1 ≤ a ∧ a ≤ 65536 from s.fr ⟨o, a, p, A, m, c⟩ List.mem_cons_self)
    · exact s.fr x (List.mem_cons_of_mem _ hx)
  · rw [hblk2 _ hlt (fun e => by have := hAlt _ e; omega) (by omega)]
    exact s.box
  · rcases List.mem_cons.1 hx with rfl | hx
    · refine ⟨M, hM, hown.block fun r hr => ?_⟩
      rw [own_block] at hr
      exact Below.heap_setCell _ _ _ _ (fun e => hA2q (by rw [hr, e]))
    · refine (s.rows x (List.mem_cons_of_mem _ hx)).block fun r hr => ?_
      refine hblk2 r ((s.rows x (List.mem_cons_of_mem _ hx)).lt r hr).2 (fun e => ?_) (fun e => ?_)
      · exact (List.pairwise_cons.1 s.dis).1 x hx r e hr
      · exact s.sep x (List.mem_cons_of_mem _ hx) r hr (by rw [e]; rfl)
  · refine List.pairwise_cons.2 ⟨fun y hy r hr hy2 => ?_, (List.pairwise_cons.1 s.dis).2⟩
    have hr : A2.map (·.block) = some r := hr
    rcases hat with e | e
    · rw [e] at hr
      exact (List.pairwise_cons.1 s.dis).1 y hy r hr hy2
    · rw [e] at hr
      cases hr
      have := ((s.rows y (List.mem_cons_of_mem _ hy)).lt _ hy2).2
      omega
  · rcases List.mem_cons.1 hx with rfl | hx
    · intro e
      have hr : A2.map (·.block) = some r := hr
      rw [hr] at hA2q
      exact hA2q e.symm
    · exact s.sep x (List.mem_cons_of_mem _ hx) r hr
end
end Go.Proofs.YtdpbcfjhljgicaaGreatDoor

/-
  CONTRACTS of package window, seventh part: guide.through where each node stays. Laid by wip/gen35.py.
-/
namespace Go.Proofs.YtdpbcfjhljgicaaGreatDoor
open Go.ChangeShapes Go.WideShapes Go.ChangeAt Go.RowKit
open Tr (T S4 Ent)

/-- the cells of a guide -/
abbrev gdC (C : Option Addr) (m n : Nat) (C' : Option Addr) (m' n' : Nat) (fid h : Nat) : Array Value := #[.slice C m n, .slice C' m' n', .func (.func fid) #[] #[.pointer (some ⟨h, 0, none⟩)], .func (.func 93) #[] #[]]
/-- what holds at each of three labels -/
def J3 (J0 J1 J2 : Nat → Act → World → Prop) : Nat → Nat → Act → World → Prop
  | 0 => J0
  | 1 => J1
  | 2 => J2
  | _ => fun _ _ _ => False
theorem wp_scope_three {P : Program} {c r0 r1 r2 : Code} {Q : Exit → Act → World → Prop} {a : Act} {w : World} (J0 J1 J2 : Nat → Act → World → Prop)
    (h0 : findLabel c 0 = some (Code.skip.seq r0)) (h1 : findLabel c 1 = some (Code.skip.seq r1)) (h2 : findLabel c 2 = some (Code.skip.seq r2))
    (up : ∀ m a w, J1 m a w → r1.wp P (jumpsTo (fun l a' w' => ∃ m', m' < m ∧ J3 J0 J1 J2 l m' a' w') Q) a w)
    (next : ∀ m, (∀ m' a w, m' ≤ m → J1 m' a w → r1.wp P (jumpsTo (fun l a' w' => ∃ m', m' < m ∧ J3 J0 J1 J2 l m' a' w') Q) a w) →
      ∀ a w, J2 m a w → r2.wp P (jumpsTo (fun l a' w' => ∃ m', m' < m ∧ J3 J0 J1 J2 l m' a' w') Q) a w)
    (down : ∀ m, (∀ m' a w, m' ≤ m → J2 m' a w → r2.wp P (jumpsTo (fun l a' w' => ∃ m', m' < m ∧ J3 J0 J1 J2 l m' a' w') Q) a w) →
      ∀ a w, J0 m a w → r0.wp P (jumpsTo (fun l a' w' => ∃ m', m' < m ∧ J3 J0 J1 J2 l m' a' w') Q) a w)
    (first : (∀ m a w, J0 m a w → r0.wp P (jumpsTo (fun l a' w' => ∃ m', J3 J0 J1 J2 l m' a' w') Q) a w) → c.wp P (jumpsTo (fun l a' w' => ∃ m', J3 J0 J1 J2 l m' a' w') Q) a w) : (Code.scope c).wp P Q a w := by
  have nx : ∀ m a w, J2 m a w → r2.wp P (jumpsTo (fun l a' w' => ∃ m', m' < m ∧ J3 J0 J1 J2 l m' a' w') Q) a w :=
    fun m a w h => next m (fun m' a w hm h => jumps_le (up m' a w h) hm) a w h
  have dn : ∀ m a w, J0 m a w → r0.wp P (jumpsTo (fun l a' w' => ∃ m', m' < m ∧ J3 J0 J1 J2 l m' a' w') Q) a w :=
    fun m a w h => down m (fun m' a w hm h => jumps_le (nx m' a w h) hm) a w h
  refine wp_scope_labels (fun l => match l with | 0 => Code.skip.seq r0 | 1 => Code.skip.seq r1 | _ => Code.skip.seq r2) (J3 J0 J1 J2) ?_ (first fun m a w h => jumps_any (dn m a w h)) ?_
  · intro l m a w h
    match l, h with
    | 0, _ => exact h0
    | 1, _ => exact h1
    | 2, _ => exact h2
  · intro l m a w h
    match l, h with
    | 0, h => exact wp_seq (wp_skip (dn m a w h))
    | 1, h => exact wp_seq (wp_skip (up m a w h))
    | 2, h => exact wp_seq (wp_skip (nx m a w h))

/-- a row of slots, one by one -/
theorem slots_list (l : List Value) : l = (List.range l.length).map fun i => l.getD i undef := by
  apply List.ext_getElem
  · simp
  · intro i h1 h2
    simp only [List.getElem_map, List.getElem_range]
    rw [List.getD_eq_getElem?_getD, List.getElem?_eq_getElem h1]
    rfl
theorem slots_some {a : Array Value} {i : Nat} {x : Value} (h : a[i]? = some x) : a.toList.getD i undef = x := by
  rw [List.getD_eq_getElem?_getD, Array.getElem?_toList, h]
  rfl
theorem slots_arr {a : Array Value} {n : Nat} (h : a.size = n) : a = ((List.range n).map fun i => a.toList.getD i undef).toArray := by
  subst h
  have := slots_list a.toList
  rw [Array.length_toList] at this
  rw [← this]
/-- through's slots, as far as they are told -/
structure Slo (a : Act) (x0 x1 x2 x5 : Value) : Prop where
  d : a.defers = []
  n : a.tmps.size = 87
  s0 : a.tmps[0]? = some x0
  s1 : a.tmps[1]? = some x1
  s2 : a.tmps[2]? = some x2
  s5 : a.tmps[5]? = some x5
theorem Slo.lit {a : Act} {x0 x1 x2 x5 : Value} (h : Slo a x0 x1 x2 x5) : ∃ V : Nat → Value, a = { tmps := #[x0, x1, x2, V 3, V 4, x5, V 6, V 7, V 8, V 9, V 10, V 11, V 12, V 13, V 14, V 15, V 16, V 17, V 18, V 19, V 20, V 21, V 22, V 23, V 24, V 25, V 26, V 27, V 28, V 29, V 30, V 31, V 32, V 33, V 34, V 35, V 36, V 37, V 38, V 39, V 40, V 41, V 42, V 43, V 44, V 45, V 46, V 47, V 48, V 49, V 50, V 51, V 52, V 53, V 54, V 55, V 56, V 57, V 58, V 59, V 60, V 61, V 62, V 63, V 64, V 65, V 66, V 67, V 68, V 69, V 70, V 71, V 72, V 73, V 74, V 75, V 76, V 77, V 78, V 79, V 80, V 81, V 82, V 83, V 84, V 85, V 86], defers := [] } := by
  refine ⟨fun i => a.tmps.toList.getD i undef, ?_⟩
  have e := slots_arr h.n
  obtain ⟨t, d⟩ := a
  have hd : d = [] := h.d
  have h0 := slots_some h.s0
  have h1 := slots_some h.s1
  have h2 := slots_some h.s2
  have h5 := slots_some h.s5
  simp only at h0 h1 h2 h5 e
  subst hd
  rw [← h0, ← h1, ← h2, ← h5]
  congr 1

/-- how much there is to be done of the node at hand -/
def todoN : Option T → Nat
  | some t => todoO (some t)
  | none => 1
theorem todoN_pos (o : Option T) : 1 ≤ todoN o := by
  cases o with
  | none => exact Nat.le_refl _
  | some t => exact todoO_pos t
theorem todoN_push (lo hi : List Nat) (o : Option T) (p A : Option Addr) (m c : Nat) : todo lo hi ⟨o, -1, p, A, m, c⟩ + 1 ≤ todoN o := by
  have h1 := todo_push (lo := lo) (hi := hi) (o := o) (p := p) (A := A) (m := m) (c := c)
  cases o with
  | none => have : todo lo hi ⟨none, -1, p, A, m, c⟩ = 0 := rfl; simp only [todoN]; omega
  | some t => have h2 := todoO_pos t; simp only [todoN]; omega
section
variable (h B k : Nat) (W : List T) (go : List T → Bool) (Inv : List T → World → (Nat → Prop) → Prop) (lo hi : List Nat) (gc : Array Value) (w : World) (F : Nat → Prop)
/-- ahead of a node -/
structure DownI (o : Option T) (S : List WFr) (D : Option Addr) (d : Nat) (w' : World) (m : Nat) : Prop where
  thr : ThrW h B k W go Inv lo hi gc w F (wholesO lo hi o) S D d w'
  nd : NodeO w B k o
  lv : lvO o + (S.length + 1) ≤ 65
  ms : ∀ x ∈ S, (x.m : Int) ≤ x.a
  cnt : m = 4 * (todoN o + todoW lo hi S) + 2 * S.length
/-- ahead of the next kid -/
structure NextI (S : List WFr) (D : Option Addr) (d : Nat) (w' : World) (m : Nat) : Prop where
  thr : ThrW h B k W go Inv lo hi gc w F [] S D d w'
  ne : S ≠ []
  ms : ∀ x ∈ S.tail, (x.m : Int) ≤ x.a
  mt : ∀ x, S.head? = some x → (x.m : Int) ≤ x.a + 1
  cnt : m = 4 * todoW lo hi S + 2 * S.length + 1
/-- behind a node -/
structure UpI (S : List WFr) (D : Option Addr) (d : Nat) (w' : World) (m : Nat) : Prop where
  thr : ThrW h B k W go Inv lo hi gc w F [] S D d w'
  ms : ∀ x ∈ S, (x.m : Int) ≤ x.a
  cnt : m = 4 * todoW lo hi S + 2 * S.length + 2
end
/-- a node is looked at -/
theorem look_o_no {w : World} {B k : Nat} {o : Option T} {C C' : Option Addr} {lo hi : List Nat} (d d' : Nat) (fi fp : Value) (hN : NodeO w B k o) (hX : BoxP w B k C lo C' hi) (hB : B ≤ w.heap.size) (hw : whO lo hi o = false) :
    Calls Tryz.prog 144 #[gdV C lo.length d C' hi.length d' fi fp, .pointer (rootP o)] w fun e w' => e = .returned (.tuple #[.bool false, leftO lo hi o]) ∧ Below w.heap.size w w' := by
  cases o with
  | none => exact look_nil C C' lo.length d hi.length d' fi fp w
  | some t => rw [leftO_some]; exact look_no d d' fi fp (hN t rfl) hX hB hw
theorem infoWStep : (Tryz.prog.info? 209).map (fun i => (i.zero, i.size, i.bytes)) = some (some (.agg #[.pointer none, .int .i64 0, .int .i64 0, .int .i64 0, .int .i64 0, .pointer none, .slice none 0 0]), 7, 72) := by kernel_rfl
theorem infoWMet : (Tryz.prog.info? 150).map (fun i => (i.zero, i.size, i.bytes)) = some (some (.agg #[.int .i64 0, .pointer none, .pointer none]), 3, 24) := by kernel_rfl
theorem slice_topW (w : World) (b off n c i : Nat) (h2 : i ≤ n) (h3 : n ≤ c) :
    (Instr.sliceAt 201 (.slice (some ⟨b, off, none⟩) n c) none (some (.int .i64 (i : Int))) none).run Tryz.prog w = .ok (.slice (some ⟨b, off, none⟩) i c) w := by
  have ht : Tryz.prog.underlying 201 = some (.slice 209) := Tryz.underlying201
  have hel : Tryz.prog.elem 201 = 209 := by simp [Program.elem, ht]
  have hs : Tryz.prog.underlying 201 = some (.slice (Tryz.prog.elem 201)) := by rw [hel]; exact ht
  have hsz : ∀ w, (sizeOf 209).run Tryz.prog w = .ok 7 w := fun w => by
    have h : (Tryz.prog.info? 209).map (·.size) = some 7 := by kernel_rfl
    obtain ⟨i0, hi0, hz⟩ := Option.map_eq_some_iff.1 h
    simp [sizeOf, typeInfo, hi0, hz]
  rw [run_sliceAt_slice w _ _ _ _ _ hs, run_slice_h w _ _ _ _ hs .i64 (i : Int) (by omega) (by omega), hel, hsz]
  simp [Result.andThen, sliced]
  intro _
  rw [Go.WideShapes.add_plain, Nat.add_zero]
/-- step.next of any node -/
theorem stepNext_o {w : World} {B k : Nat} {o : Option T} {lo hi : List Nat} (hN : NodeO w B k o) (hT : ∀ w', Below B w w' → Tz w') {q off : Nat} {cs : Array Value} {ty : TypeId} (hB : B ≤ q)
    (hq : w.heap[q]? = some (.cells cs ty (0, 0))) {a : Int} {p A : Option Addr} {m c : Nat} (hc : FrQ lo hi (fun j => cs[off + j]?) ⟨o, a, p, A, m, c⟩) (ha : -1 ≤ a) (ha2 : a ≤ 65536) :
    Calls Tryz.prog 145 #[.pointer (some ⟨q, off, none⟩)] w fun e w' => ∃ (a' : Int) (p' : Option Addr), -1 ≤ a' ∧ a' ≤ 65536 ∧
      e = .returned (.bool (!(beyO lo hi o a).isEmpty)) ∧ (∀ x r, beyO lo hi o a = x :: r → a' = (x.1 : Int) ∧ p' = some ⟨x.2.blk, 0, none⟩ ∧ x ∈ ksO o ∧ beyO lo hi o (x.1 : Int) = r) ∧
      w'.heap[q]? = some (.cells (stepTo cs off a' p') ty (0, 0)) ∧ Foot (fun b => b = q) w w' := by
  obtain ⟨c0, c1, c2, c3, c4, c5, c6⟩ := hc
  have c0' : cs[off]? = some (.pointer (rootP o)) := c0
  have zero : (mk1 o = 0 ∧ mk2 lo hi o = 0 ∧ mk3 lo hi o = 0) → beyO lo hi o a = [] → Calls Tryz.prog 145 #[.pointer (some ⟨q, off, none⟩)] w fun e w' => ∃ (a' : Int) (p' : Option Addr), -1 ≤ a' ∧ a' ≤ 65536 ∧
      e = .returned (.bool (!(beyO lo hi o a).isEmpty)) ∧ (∀ x r, beyO lo hi o a = x :: r → a' = (x.1 : Int) ∧ p' = some ⟨x.2.blk, 0, none⟩ ∧ x ∈ ksO o ∧ beyO lo hi o (x.1 : Int) = r) ∧
      w'.heap[q]? = some (.cells (stepTo cs off a' p') ty (0, 0)) ∧ Foot (fun b => b = q) w w' := fun hz hb => by
    have k1 : cs[off + 1]? = some (.int .i64 0) := by have := c1; simp only [hz.1] at this; exact this
    have k2 : cs[off + 2]? = some (.int .i64 0) := by have := c2; simp only [hz.2.1] at this; exact this
    have k3 : cs[off + 3]? = some (.int .i64 0) := by have := c3; simp only [hz.2.2] at this; exact this
    refine (stepNext_zero hq k1 k2 k3 c4).mono ?_
    rintro e w2 ⟨rfl, hb2⟩
    refine ⟨a, p, ha, ha2, ?_, ?_, ?_, Foot.of_below hb2⟩
    · rw [hb]; rfl
    · intro x r hx
      rw [hb] at hx
      cases hx
    · rw [stepTo_self c4 c5]
      exact (hb2.block q (Array.getElem?_eq_some_iff.1 hq).1).trans hq
  cases o with
  | none => exact zero ⟨rfl, rfl, rfl⟩ rfl
  | some t =>
    cases t with
    | ent g e v => exact zero ⟨rfl, rfl, rfl⟩ rfl
    | br g l pre ks =>
      have hn := hN _ rfl
      have hk : pre.length = k := hn.1.len
      subst hk
      exact stepNext_c hn hT hB hq ⟨c0, c1, c2, c3, c4, c5⟩ ha ha2 (Mk.lowM_lt pre l lo hi) (Mk.highM_lt pre l lo hi)

theorem stepTo_other {cs : Array Value} {off j : Nat} {a : Int} {p : Option Addr} (h4 : j ≠ off + 4) (h5 : j ≠ off + 5) : (stepTo cs off a p)[j]? = cs[j]? := by
  unfold stepTo
  rw [Array.getElem?_setIfInBounds, if_neg (by omega), Array.getElem?_setIfInBounds, if_neg (by omega)]
section
variable {fid h B k : Nat} {W : List T} {go : List T → Bool} {Inv : List T → World → (Nat → Prop) → Prop} {lo hi : List Nat} {gc : Array Value} {w : World} {F : Nat → Prop} {L : List T} {S : List WFr} {D : Option Addr} {d : Nat} {w1 w2 : World}
/-- the step's row behind another kid -/
theorem ThrW.row {o : Option T} {a a' : Int} {p p' A : Option Addr} {m c q : Nat} {cs : Array Value} (s : ThrW h B k W go Inv lo hi gc w F L (⟨o, a, p, A, m, c⟩ :: S) (some ⟨q, 0, none⟩) d w1)
    (hcs : w1.heap[q]? = some (.cells cs 209 (0, 0))) (hq2 : w2.heap[q]? = some (.cells (stepTo cs (S.length * 7) a' p') 209 (0, 0))) :
    StkW lo hi w2 (w.heap.size + 1) (.slice (some ⟨q, 0, none⟩) (S.length + 1) d) (⟨o, a', p', A, m, c⟩ :: S) := by
  have hset : OwnL 209 7 (FrQ lo hi) ((w1.setCell ⟨q, S.length * 7 + 4, none⟩ (.int .i64 a')).setCell ⟨q, S.length * 7 + 5, none⟩ (.pointer p')) (w.heap.size + 1) (.slice (some ⟨q, 0, none⟩) (S.length + 1) d) ((⟨o, a', p', A, m, c⟩ :: S).reverse) := by
    have hlen : S.length < ((⟨o, a, p, A, m, c⟩ :: S : List WFr).reverse).length := by simp
    obtain ⟨g1, hg1, r1⟩ := OwnL.set (i := S.length) (j := 4) (x := (⟨o, a', p, A, m, c⟩ : WFr)) (u := .int .i64 a') s.stk (frQ_ok lo hi) hlen (by omega) (by
      intro f y hy hf
      rw [List.reverse_cons, List.getElem?_append_right (by simp)] at hy
      simp at hy
      subst hy
      exact ⟨hf.1, hf.2.1, hf.2.2.1, hf.2.2.2.1, rfl, hf.2.2.2.2.2.1, hf.2.2.2.2.2.2⟩)
    have hq1 : q = g1 := by simp only [Option.some.injEq, Addr.mk.injEq] at hg1; exact hg1.1
    subst hq1
    rw [show ((⟨o, a, p, A, m, c⟩ :: S : List WFr).reverse).set S.length (⟨o, a', p, A, m, c⟩ : WFr) = (⟨o, a', p, A, m, c⟩ :: S : List WFr).reverse by
      simp only [List.reverse_cons]
      rw [List.set_append_right _ _ (by simp)]
      simp] at r1
    obtain ⟨g2, hg2, r2⟩ := OwnL.set (i := S.length) (j := 5) (x := (⟨o, a', p', A, m, c⟩ : WFr)) (u := .pointer p') r1 (frQ_ok lo hi) (by simp) (by omega) (by
      intro f y hy hf
      rw [List.reverse_cons, List.getElem?_append_right (by simp)] at hy
      simp at hy
      subst hy
      exact ⟨hf.1, hf.2.1, hf.2.2.1, hf.2.2.2.1, hf.2.2.2.2.1, rfl, hf.2.2.2.2.2.2⟩)
    have hq2 : q = g2 := by simp only [Option.some.injEq, Addr.mk.injEq] at hg2; exact hg2.1
    subst hq2
    rw [show ((⟨o, a', p, A, m, c⟩ :: S : List WFr).reverse).set S.length (⟨o, a', p', A, m, c⟩ : WFr) = (⟨o, a', p', A, m, c⟩ :: S : List WFr).reverse by
      simp only [List.reverse_cons]
      rw [List.set_append_right _ _ (by simp)]
      simp] at r2
    exact r2
  have hsame : w2.heap[q]? = ((w1.setCell ⟨q, S.length * 7 + 4, none⟩ (.int .i64 a')).setCell ⟨q, S.length * 7 + 5, none⟩ (.pointer p')).heap[q]? := by
    rw [hq2, block_set (block_set hcs _) _]
    rfl
  refine hset.block fun r hr => ?_
  rw [own_block] at hr
  simp only [Option.map_some, Option.some.injEq] at hr
  subst hr
  exact hsame
/-- no kid is left: the step is let go -/
theorem ThrW.off {o : Option T} {a a' : Int} {p p' A : Option Addr} {m c q : Nat} {cs : Array Value} (hv : VisitW fid h B k W go Inv) (s : ThrW h B k W go Inv lo hi gc w F [] (⟨o, a, p, A, m, c⟩ :: S) (some ⟨q, 0, none⟩) d w1)
    (hcs : w1.heap[q]? = some (.cells cs 209 (0, 0))) (hq2 : w2.heap[q]? = some (.cells (stepTo cs (S.length * 7) a' p') 209 (0, 0))) (hf : Foot (fun b => b = q) w1 w2) (hx : pend lo hi ⟨o, a, p, A, m, c⟩ = []) :
    ThrW h B k W go Inv lo hi gc w F [] S (some ⟨q, 0, none⟩) d w2 := by
  have hrow := s.row (a' := a') (p' := p') hcs hq2
  have hqlt := (s.stk.lt q rfl)
  have s2 := s.pop hx
  obtain ⟨us, F', e1, e2, e3, e4, e5, e6, e7, e8⟩ := s2.us
  have hlt := s.lt
  have hqF : ¬ F' q := e7 q rfl
  have hinb := hv.inb _ _ _ e4
  refine ⟨⟨us, F', e1, e2, e3, hv.frame _ _ _ _ e4 hf.size (fun b hF => hf.block b (hinb b hF).1 (fun e => hqF (e ▸ hF))), e5, e6, e7, e8⟩, s2.fr, s2.foot.trans hf (fun b hb => .inr (by subst hb; omega)), ?_, ?_, fun x hx => ?_, s2.dis, s2.sep, s2.lev⟩
  · rw [hf.block _ hlt (by omega)]
    exact s2.box
  · have h7 := OwnL.take (frQ_ok lo hi) hrow S.length (by simp)
    rw [show ((⟨o, a', p', A, m, c⟩ :: S : List WFr).reverse).take S.length = S.reverse by rw [List.reverse_cons, List.take_append_of_le_length (by simp), List.take_of_length_le (by simp)]] at h7
    exact h7
  · have hne : ∀ r, x.own = some r → r ≠ q := fun r hr e => s2.sep x hx r hr (by rw [e]; rfl)
    exact (s2.rows x hx).block fun r hr => hf.block r ((s2.rows x hx).lt r hr).2 (hne r hr)
end
theorem row_after {w1 w2 : World} {ob : Obj} {q : Nat} {cs : Array Value} {ty : TypeId} {A : Option Addr} {m c : Nat} (hcs : w1.heap[q]? = some (.cells cs ty (0, 0))) (hA : A.map (·.block) ≠ some q) (hgr : (w1.alloc ob).grownBy w2 (Value.slice A m c).ownBlock) : w2.heap[q]? = some (.cells cs ty (0, 0)) := by
  have hq := (Array.getElem?_eq_some_iff.1 hcs).1
  rw [hgr.block q (by simp; omega) (by rw [own_blockW]; exact fun e => hA e.symm), Below.heap_alloc _ _ _ hq]
  exact hcs
/-- from behind a node to ahead of the next kid -/
theorem up_next {fid h B k : Nat} {W : List T} {go : List T → Bool} {Inv : List T → World → (Nat → Prop) → Prop} {lo hi : List Nat} {gc : Array Value} {w : World} {F : Nat → Prop} {S : List WFr} {d : Nat} {w1 w2 : World} {mm : Nat} {o : Option T} {a : Int} {p A A2 : Option Addr} {m c c2 q : Nat} {M : List Met} (hv : VisitW fid h B k W go Inv)
    (s : UpI h B k W go Inv lo hi gc w F (⟨o, a, p, A, m, c⟩ :: S) (some ⟨q, 0, none⟩) d w1 mm) {ob : Obj} (hM : M.length = m + 1)
    (hown : OwnL 150 3 MeQ w2 (w.heap.size + 1) (.slice A2 (m + 1) c2) M) (hgr : (w1.alloc ob).grownBy w2 (Value.slice A m c).ownBlock) (hat : (Value.slice A2 (m + 1) c2).ownBlock = (Value.slice A m c).ownBlock ∨ (Value.slice A2 (m + 1) c2).ownBlock = some (w1.alloc ob).heap.size) :
    ∃ mm', mm' < mm ∧ NextI h B k W go Inv lo hi gc w F (⟨o, a, p, A2, m + 1, c2⟩ :: S) (some ⟨q, 0, none⟩) d (w2.setCell ⟨q, S.length * 7 + 6, none⟩ (.slice A2 (m + 1) c2)) mm' := by
  rw [own_blockW] at hgr
  rw [own_blockW, own_blockW] at hat
  have hsz : (w1.alloc ob).heap.size = w1.heap.size + 1 := by simp
  rw [hsz] at hat
  have ht := s.thr.app hv hM hown hgr hat
  have hc := s.cnt
  refine ⟨4 * todoW lo hi (⟨o, a, p, A2, m + 1, c2⟩ :: S) + 2 * (S.length + 1) + 1, ?_, ht, by simp, fun x hx => s.ms x (List.mem_cons_of_mem _ hx), fun x hx => ?_, by simp⟩
  · rw [todoW_cons] at hc ⊢
    have : todo lo hi ⟨o, a, p, A2, m + 1, c2⟩ = todo lo hi ⟨o, a, p, A, m, c⟩ := rfl
    rw [this]
    simp only [List.length_cons] at hc
    omega
  · have h1 := s.ms ⟨o, a, p, A, m, c⟩ List.mem_cons_self
    simp only [List.head?_cons, Option.some.injEq] at hx
    subst hx
    simp only at h1 ⊢
    omega
theorem mem_beyO {lo hi : List Nat} {o : Option T} {a : Int} {x : Nat × T} (h : x ∈ beyO lo hi o a) : x ∈ ksO o ∧ a < (x.1 : Int) := by
  unfold beyO bey at h
  rw [List.mem_filter] at h
  refine ⟨h.1, ?_⟩
  have := h.2
  simp only [Bool.and_eq_true, decide_eq_true_eq] at this
  exact this.1
theorem kid_o {w : World} {B k : Nat} {o : Option T} (h : NodeO w B k o) {x : Nat × T} (hx : x ∈ ksO o) : Node w B k x.2 ∧ x.2.lv + 1 ≤ lvO o ∧ x.1 < 65536 := by
  cases o with
  | none => cases hx
  | some t =>
    have hn := h t rfl
    cases t with
    | ent g p v => cases hx
    | br g l pre ks =>
      refine ⟨hn.kid hx, ?_, ?_⟩
      · cases hn.1 with
        | br _ _ _ _ _ _ _ _ _ _ hc => have := (hc x hx).1; show x.2.lv + 1 ≤ l + 1; omega
      · cases hn.1 with
        | br _ _ _ _ _ hw => exact hw.lt16 x hx

theorem wbox_cells {w' : World} {q : Nat} {gc : Array Value} {ty : TypeId} (hbox : w'.heap[q]? = some (.cells gc ty (0, 0))) {j : Nat} {v : Value} (hj : gc[j]? = some v) : w'.cell? ⟨q, j, none⟩ = some v := by
  rw [cell_of_row w' _ _ _ _ (0, 0) hbox]; exact hj
theorem down_start {fid h B k : Nat} {W : List T} {go : List T → Bool} {Inv : List T → World → (Nat → Prop) → Prop} (hv : VisitW fid h B k W go Inv) {w : World} {F : Nat → Prop} (hI : Inv [] w F) (hgo : go [] = true) {o : Option T} (hn : NodeO w B k o)
    {lo hi : List Nat} (gc : Array Value) (hW : W = wholesO lo hi o) (hlen : lvO o ≤ 64) :
    DownI h B k W go Inv lo hi gc w F o [] none 0 (w.alloc (.cells gc 90)) (4 * (todoN o + todoW lo hi []) + 2 * 0) := by
  have hal := below_alloc w (.cells gc 90)
  have hFlt : ∀ b, F b → b < w.heap.size ∧ B ≤ b := hv.inb _ _ _ hI
  refine ⟨⟨⟨[], F, by rw [hW]; simp [restW_nil], hgo, by rw [hW]; simp [restW_nil], hv.frame _ _ _ _ hI hal.size (fun b hb => hal.block b (hFlt b hb).1), fun b hb => .inl hb, fun hb => ?_, fun q hq => ?_, fun x hx => ?_⟩, fun x hx => ?_, Foot.of_below hal, heap_at w _ _ rfl, ownL_none _ _ _, fun x hx => ?_, List.Pairwise.nil, fun x hx => ?_, trivial⟩, hn, by simp; omega, fun x hx => ?_, rfl⟩
  · have := (hFlt _ hb).1; omega
  · cases hq
  all_goals cases hx
end Go.Proofs.YtdpbcfjhljgicaaGreatDoor
