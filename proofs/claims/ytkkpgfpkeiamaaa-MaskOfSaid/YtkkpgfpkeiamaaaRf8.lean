/-
  CONTRACTS of package pantileref03 (the document's answers for layer 3), second part: Volume, Nearest, Same.
-/
import Derived.Test.YtkkpgfpkeiamaaaRf7
namespace Go.Proofs.Ytkkpgfpkeiamaaa
open Go.ChangeShapes Go.WideShapes Go.ChangeAt Go.RowKit

/-! ### Volume -/
theorem r3_div (x y v : Nat) (h : x ≤ y) : (18446744073709551615 / ((y : Int) - (x : Int) + 1) < (v : Int)) ↔ 18446744073709551615 < v * (y - x + 1) := by
  have e : (y : Int) - (x : Int) + 1 = ((y - x + 1 : Nat) : Int) := by omega
  rw [e, ← Nat.div_lt_iff_lt_mul (by omega)]
  have : (18446744073709551615 : Int) / ((y - x + 1 : Nat) : Int) = ((18446744073709551615 / (y - x + 1) : Nat) : Int) := by simp
  rw [this]
  omega
/-! ### Same -/
end Go.Proofs.Ytkkpgfpkeiamaaa
