import Derived.Test.YtpgkfccfabnjdaaM01
import Derived.Test.YtpgkfccfabnjdaaM04
import Derived.BigQuiet
import Derived.Lib.Mul64
import Derived.Laws.Bits64b
import Derived.Deep.Cut
import Derived.Deep.RegionHeld
import Derived.Shelf.Abstract
import Derived.BigRegion
/-
  CONTRACTS of package mask, first part: right, Has, None, First of a mask.
-/
namespace Go.Proofs.Ytpgkfccfabnjdaa
open Go.ChangeShapes Go.WideShapes Go.ChangeAt Go.RowKit

def MRight (k lo hi : Int) : Prop := (1 ≤ k ∧ k ≤ 16) ∧ (0 ≤ lo ∧ lo < ((2 ^ k.toNat : Nat) : Int)) ∧ (0 ≤ hi ∧ hi < ((2 ^ k.toNat : Nat) : Int))
instance mright_dec (k lo hi : Int) : Decidable (MRight k lo hi) := by unfold MRight; infer_instance
/-! ### Has -/
/-! ### None, First -/
end Go.Proofs.Ytpgkfccfabnjdaa

/-
  CONTRACTS of package box, second part: isEmpty, Empty, Volume.
-/
namespace Go.Proofs.Ytpgkfccfabnjdaa
open Go.ChangeShapes Go.WideShapes Go.ChangeAt Go.RowKit

theorem Pts.at {w : World} {B : Nat} {A : Option Addr} {us : List Nat} (h : Pts w B A us) (h1 : 1 ≤ us.length) :
    ∃ b off, A = some ⟨b, off, none⟩ ∧ b < B ∧ ∀ i, i < us.length → w.cell? ⟨b, off + i, none⟩ = some (.int .u64 (Bx.g us i : Int)) := by
  obtain ⟨b, off, hA, hb, hc⟩ := h.open_ (by rintro rfl; simp at h1)
  exact ⟨b, off, hA, hb, fun i hi => hc i _ (Bx.g_get hi)⟩

/-! ### the same, said of what is left of the world -/
/-! ### Empty -/
/-! ### Volume -/
end Go.Proofs.Ytpgkfccfabnjdaa
