import Derived.Test.YtpgkfccfabnjdaaM07
import Derived.Test.YtpgkfccfabnjdaaM05
/-
  CONTRACTS of package node, fourth part: Shape.
-/
namespace Go.Proofs.Ytpgkfccfabnjdaa
open Go.ChangeShapes Go.WideShapes Go.ChangeAt Go.RowKit
open Tr (T S4)

def denseT (k : Nat) (t : T) : Bool := Sl.dense k (kidL t.ks)
end Go.Proofs.Ytpgkfccfabnjdaa
