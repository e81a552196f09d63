/-
  CONTRACTS of package box, third part: In, Far, FarBox.
-/
import Derived.Test.YtkkpgfpkeiamaaaBx2
namespace Go.Proofs.Ytkkpgfpkeiamaaa
open Go.ChangeShapes Go.WideShapes Go.ChangeAt Go.RowKit

/-! ### In -/
/-! ### Far -/
theorem max_cast (a b : Nat) : max (a : Int) (b : Int) = ((max a b : Nat) : Int) := by omega
theorem min_cast (a b : Nat) : min (a : Int) (b : Int) = ((min a b : Nat) : Int) := by omega
/-! ### FarBox -/
end Go.Proofs.Ytkkpgfpkeiamaaa
