import Derived.Test.YtjcmehplcagejaaGreatDoorM16
/-
  CONTRACTS of package pantileref06, second part: Dense, Level, Sums.
-/
namespace Go.Proofs.YtjcmehplcagejaaGreatDoor
open Go.ChangeShapes Go.WideShapes Go.ChangeAt Go.RowKit
open Tr (T S4 Ent)

/-! ### Sums -/
theorem Q4.one {w : World} {g : Nat} {s : S4} (h : Q4 w g s) (i a : Nat) (hi : i < 4) : Q4 (w.setCell ⟨g, i, none⟩ (.int .u64 (a : Int))) g ⟨if i = 0 then a else s.c, if i = 1 then a else s.s, if i = 2 then a else s.lo, if i = 3 then a else s.hi⟩ := by
  obtain ⟨⟨h0, h1, h2, h3⟩, ⟨f0, f1, f2, f3⟩, hs⟩ := h
  have e : ∀ j, i ≠ j → (w.setCell ⟨g, i, none⟩ (.int .u64 (a : Int))).cell? ⟨g, j, none⟩ = w.cell? ⟨g, j, none⟩ := fun j hij => World.cell?_setCell_other _ _ _ _ (by first | (simp; done) | (simp; omega))
  have f : ∀ j, (w.setCell ⟨g, i, none⟩ (.int .u64 (a : Int))).frozen? ⟨g, j, none⟩ = w.frozen? ⟨g, j, none⟩ := fun j => World.frozen?_setCell _ _ _ _
  have s : ∀ v, w.cell? ⟨g, i, none⟩ = some v → (w.setCell ⟨g, i, none⟩ (.int .u64 (a : Int))).cell? ⟨g, i, none⟩ = some (.int .u64 (a : Int)) := fun v hv => World.cell?_setCell_same _ _ _ hv
  refine ⟨⟨?_, ?_, ?_, ?_⟩, ⟨(f 0).trans f0, (f 1).trans f1, (f 2).trans f2, (f 3).trans f3⟩, by simpa using hs⟩
  · by_cases c : i = 0
    · subst c; exact s _ h0
    · rw [e 0 c, h0]; simp only [if_neg c]
  · by_cases c : i = 1
    · subst c; exact s _ h1
    · rw [e 1 c, h1]; simp only [if_neg c]
  · by_cases c : i = 2
    · subst c; exact s _ h2
    · rw [e 2 c, h2]; simp only [if_neg c]
  · by_cases c : i = 3
    · subst c; exact s _ h3
    · rw [e 3 c, h3]; simp only [if_neg c]
end Go.Proofs.YtjcmehplcagejaaGreatDoor
