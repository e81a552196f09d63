import Derived.Test.YtpgkfccfabnjdaaM28
import Derived.Test.YtpgkfccfabnjdaaM01
import Derived.Test.YtpgkfccfabnjdaaM50
import Derived.Test.YtpgkfccfabnjdaaM23
import Derived.Test.YtpgkfccfabnjdaaM24
import Derived.Test.YtpgkfccfabnjdaaM22
import Derived.Test.YtpgkfccfabnjdaaM06
import Derived.Test.YtpgkfccfabnjdaaM05
/-
  PLAIN MATHEMATICS of layer 9, third part: the stack of the guide: what is left to be met, and how much there is to be done.
-/
namespace Go.Proofs.Ytpgkfccfabnjdaa
open Go.ChangeShapes
open Tr (T S4 Ent)

structure WFr where
  o : Option T
  a : Int
  p : Option Addr
  A : Option Addr
  m : Nat
  c : Nat
def WFr.own (x : WFr) : Option Nat := x.A.map (·.block)
/-! ### the stack in memory -/
end Go.Proofs.Ytpgkfccfabnjdaa
