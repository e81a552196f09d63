import Derived.Test.YtpgkfccfabnjdaaM02
import Derived.ScopeJumps
import Derived.WalkMore
import Derived.Deep.Cut
import Derived.BigQuiet
/-
  SLOTS IN MEMORY ('Sp': sparse, 'De': dense), and CONTRACTS of package slots, first part: K, Dense, Len, isAddr, New.
-/
namespace Go.Proofs.Ytpgkfccfabnjdaa.Sn
open Go.ChangeShapes Go.WideShapes Go.ChangeAt Go.RowKit

abbrev Al := List (Nat × Option Addr)
/-! ### K, Dense -/
/-! ### isAddr -/
/-! ### New -/
end Go.Proofs.Ytpgkfccfabnjdaa.Sn
