import Derived.Test.YtjcmehplcagejaaGreatDoorM64
import Derived.Test.YtjcmehplcagejaaGreatDoorM28
/-
  CONTRACTS of package rank, fifth part: wayTo.
-/
namespace Go.Proofs.YtjcmehplcagejaaGreatDoor
open Go.ChangeShapes Go.WideShapes Go.ChangeAt Go.RowKit
open Tr (T S4 Ent)

/-- what wayTo keeps: the point in block g1, the way in g2 -/
structure WayM (w : World) (B g1 g2 : Nat) (A : Option Addr) (n c : Nat) (us : List (T × Nat)) (D : Option Addr) (d : Nat) : Prop where
  c1 : w.heap[g1]? = some (.cells #[.slice A n c] 23 (0, 0))
  c2 : w.heap[g2]? = some (.cells #[.slice D us.length d] 96 (0, 0))
  ge : B ≤ g1 ∧ B ≤ g2 ∧ g1 ≠ g2
  row : OwnL 104 2 StQ w B (.slice D us.length d) us.reverse
  ne : D.map (·.block) ≠ some g1 ∧ D.map (·.block) ≠ some g2
def WayF (g1 g2 : Nat) (D : Option Addr) : Nat → Prop := fun b => b = g1 ∨ b = g2 ∨ D.map (·.block) = some b
section
variable {w w' : World} {B g1 g2 : Nat} {A : Option Addr} {n c : Nat} {us : List (T × Nat)} {D : Option Addr} {d : Nat}
theorem WayM.lt (h : WayM w B g1 g2 A n c us D d) : ∀ b, WayF g1 g2 D b → b < w.heap.size ∧ B ≤ b := by
  rintro b (rfl | rfl | hb)
  · exact ⟨(Array.getElem?_eq_some_iff.1 h.c1).1, h.ge.1⟩
  · exact ⟨(Array.getElem?_eq_some_iff.1 h.c2).1, h.ge.2.1⟩
  · have := h.row.lt b (by rw [own_block]; exact hb)
    exact ⟨this.2, this.1⟩
theorem WayM.keep (h : WayM w B g1 g2 A n c us D d) (hk : ∀ b, WayF g1 g2 D b → w'.heap[b]? = w.heap[b]?) : WayM w' B g1 g2 A n c us D d :=
  ⟨(hk _ (.inl rfl)).trans h.c1, (hk _ (.inr (.inl rfl))).trans h.c2, h.ge, h.row.block fun q hq => hk q (.inr (.inr (by rw [own_block] at hq; exact hq))), h.ne⟩
theorem WayM.below (h : WayM w B g1 g2 A n c us D d) (hb : Below w.heap.size w w') : WayM w' B g1 g2 A n c us D d :=
  h.keep fun b hb' => hb.block b (h.lt b hb').1
end
/-! ### wayTo -/
end Go.Proofs.YtjcmehplcagejaaGreatDoor
