import Derived.Test.YtjcmehplcagejaaGreatDoorM06
import Derived.Test.YtjcmehplcagejaaGreatDoorM23
import Derived.Test.YtjcmehplcagejaaGreatDoorM28
import Derived.Test.YtjcmehplcagejaaGreatDoorM24
import Derived.Test.YtjcmehplcagejaaGreatDoorM30
import Derived.Test.YtjcmehplcagejaaGreatDoorM12
/-
  CONTRACTS of package rank, third part: refusal, isAhead, what guide.down does.
-/
namespace Go.Proofs.YtjcmehplcagejaaGreatDoor
open Go.ChangeShapes Go.WideShapes Go.ChangeAt Go.RowKit
open Tr (T S4 Ent)

/-! ### refusal -/
/-! ### isAhead -/
/-! ### guide.down -/
/-- A WAY DOWN, whoever tells it: 'St us t a' says that behind us the way goes on at t's address a. -/
inductive WayS (St : List (T × Nat) → T → Nat → Prop) (o : Option T) : List (T × Nat) → Option T → Prop
  | start : WayS St o [] o
  | step {us : List (T × Nat)} {t : T} {a : Nat} (h : WayS St o us (some t)) (hl : t.lv ≠ 0) (hs : St us t a) : WayS St o ((t, a) :: us) (Sl.get t.ks (a : Int))
theorem get_kid {t s : T} {a : Nat} (h : Sl.get t.ks (a : Int) = some s) : (a, s) ∈ t.ks := by
  obtain ⟨n, hn, hm⟩ := Sl.get_mem _ _ _ h
  have : n = a := by omega
  subst this
  exact hm
theorem WayS.steps {St : List (T × Nat) → T → Nat → Prop} {o o' : Option T} {us : List (T × Nat)} (h : WayS St o us o') : (∀ s n, o' = some s → Tr.Steps o ((s, n) :: us)) ∧ (o' = none → Tr.Steps o us) := by
  induction h with
  | start => exact ⟨fun s n e => e, fun e => e⟩
  | @step us t a h hl hc ih =>
    have h1 := ih.1 t a rfl
    exact ⟨fun s n e => ⟨get_kid e, h1⟩, fun _ => h1⟩
theorem WayS.node {w : World} {B k : Nat} {St : List (T × Nat) → T → Nat → Prop} {o o' : Option T} {us : List (T × Nat)} (ho : NodeO w B k o) (h : WayS St o us o') : NodeO w B k o' ∧ ∀ x ∈ us, Node w B k x.1 := by
  induction h with
  | start => exact ⟨ho, fun x hx => by cases hx⟩
  | @step us t a h hl hc ih =>
    have ht := ih.1 t rfl
    refine ⟨fun s hs => ?_, fun x hx => ?_⟩
    · have hm := get_kid hs
      obtain ⟨g', l, pre, ks, rfl⟩ := Tr.ks_br hm
      exact ht.kid hm
    · rcases List.mem_cons.1 hx with rfl | hx
      · exact ht
      · exact ih.2 x hx
theorem WayS.len {k : Nat} {St : List (T × Nat) → T → Nat → Prop} {o o' : Option T} {us : List (T × Nat)} (h : WayS St o us o') (ho : ∀ t, o = some t → Tr.Wf k t) : us.length ≤ 64 ∧ ∀ t, o' = some t → t.lv + us.length ≤ 64 := by
  have hw : (∀ t, o' = some t → Tr.Wf k t) ∧ ∀ x ∈ us, Tr.Wf k x.1 := by
    induction h with
    | start => exact ⟨ho, fun x hx => by cases hx⟩
    | @step us t a h hl hc ih =>
      have ht := ih.1 t rfl
      refine ⟨fun s hs => (ht.sub (get_kid hs)).1, fun x hx => ?_⟩
      rcases List.mem_cons.1 hx with rfl | hx
      · exact ht
      · exact ih.2 x hx
  have hc := h.steps
  cases h with
  | start =>
    refine ⟨by simp, fun t e => ?_⟩
    have := Tr.steps_lv (hc.1 t 0 e) (fun x hx => by
      rcases List.mem_cons.1 hx with rfl | hx
      · exact hw.1 t e
      · exact hw.2 x hx)
    simpa using this
  | @step us t a h hl hs =>
    have h1 := Tr.steps_lv (h.steps.1 t a rfl) (fun x hx => by
      rcases List.mem_cons.1 hx with rfl | hx
      · exact hw.2 (t, a) List.mem_cons_self
      · exact hw.2 x (List.mem_cons_of_mem _ hx))
    refine ⟨by rw [List.length_cons]; omega, fun s e => ?_⟩
    have := Tr.steps_lv (hc.1 s 0 e) (fun x hx => by
      rcases List.mem_cons.1 hx with rfl | hx
      · exact hw.1 s e
      · exact hw.2 x hx)
    exact this
end Go.Proofs.YtjcmehplcagejaaGreatDoor

/-
  CONTRACTS of package rank, fifth part: wayTo.
-/
namespace Go.Proofs.YtjcmehplcagejaaGreatDoor
open Go.ChangeShapes Go.WideShapes Go.ChangeAt Go.RowKit
open Tr (T S4 Ent)

/-- what wayTo keeps: the point in block g1, the way in g2 -/
structure WayM (w : World) (B g1 g2 : Nat) (A : Option Addr) (n c : Nat) (us : List (T × Nat)) (D : Option Addr) (d : Nat) : Prop where
  c1 : w.heap[g1]? = some (.cells #[.slice A n c] 23 (0, 0))
  c2 : w.heap[g2]? = some (.cells #[.slice D us.length d] 96 (0, 0))
  ge : B ≤ g1 ∧ B ≤ g2 ∧ g1 ≠ g2
  row : OwnL 104 2 StQ w B (.slice D us.length d) us.reverse
  ne : D.map (·.block) ≠ some g1 ∧ D.map (·.block) ≠ some g2
def WayF (g1 g2 : Nat) (D : Option Addr) : Nat → Prop := fun b => b = g1 ∨ b = g2 ∨ D.map (·.block) = some b
section
variable {w w' : World} {B g1 g2 : Nat} {A : Option Addr} {n c : Nat} {us : List (T × Nat)} {D : Option Addr} {d : Nat}
theorem WayM.lt (h : WayM w B g1 g2 A n c us D d) : ∀ b, WayF g1 g2 D b → b < w.heap.size ∧ B ≤ b := by
  rintro b (rfl | rfl | hb)
  · exact ⟨(Array.getElem?_eq_some_iff.1 h.c1).1, h.ge.1⟩
  · exact ⟨(Array.getElem?_eq_some_iff.1 h.c2).1, h.ge.2.1⟩
  · have := h.row.lt b (by rw [own_block]; exact hb)
    exact ⟨this.2, this.1⟩
theorem WayM.keep (h : WayM w B g1 g2 A n c us D d) (hk : ∀ b, WayF g1 g2 D b → w'.heap[b]? = w.heap[b]?) : WayM w' B g1 g2 A n c us D d :=
  ⟨(hk _ (.inl rfl)).trans h.c1, (hk _ (.inr (.inl rfl))).trans h.c2, h.ge, h.row.block fun q hq => hk q (.inr (.inr (by rw [own_block] at hq; exact hq))), h.ne⟩
theorem WayM.below (h : WayM w B g1 g2 A n c us D d) (hb : Below w.heap.size w w') : WayM w' B g1 g2 A n c us D d :=
  h.keep fun b hb' => hb.block b (h.lt b hb').1
end
/-! ### wayTo -/
end Go.Proofs.YtjcmehplcagejaaGreatDoor

/-
  CONTRACTS of package rank, seventh part: Nth's closure. Laid by wip/gen40.py.
-/
namespace Go.Proofs.YtjcmehplcagejaaGreatDoor
open Go.RowKit Go.Shelf
open Tr (T S4 Ent)
attribute [local go_sem] Oper.semAt_some

theorem Foot.wide {F G : Nat → Prop} {w w' : World} (h : Foot F w w') (hF : ∀ b, F b → G b) : Foot G w w' := ⟨h.os, h.tape, h.output, h.size, fun k hk hn => h.block k hk fun c => hn (hF k c)⟩
end Go.Proofs.YtjcmehplcagejaaGreatDoor

/-
  CONTRACTS of package rank, eighth part: Nth.
-/
namespace Go.Proofs.YtjcmehplcagejaaGreatDoor
open Go.ChangeShapes Go.WideShapes Go.ChangeAt Go.RowKit
open Tr (T S4 Ent)

theorem get_at {ks : List (Nat × T)} (hs : Sl.Srt ks) {i a : Nat} {s : T} (h : ks[i]? = some (a, s)) : Sl.get ks (a : Int) = some s := Sl.get_of_mem hs (p := (a, s)) (List.mem_of_getElem? h)
end Go.Proofs.YtjcmehplcagejaaGreatDoor
