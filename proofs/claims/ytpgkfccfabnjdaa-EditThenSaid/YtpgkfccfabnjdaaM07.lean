import Derived.Test.YtpgkfccfabnjdaaM02
import Derived.Lib.AppendZeros
import Derived.Lib.Hide
import Derived.Test.YtpgkfccfabnjdaaM03
import Derived.Shelf.Abstract
import Derived.Deep.RegionHeld
import Derived.Deep.Cut
import Derived.BigRegion
/-
  CONTRACTS of package slots, sixth part: Places, All.
-/
namespace Go.Proofs.Ytpgkfccfabnjdaa.Sn
open Go.ChangeShapes Go.WideShapes Go.ChangeAt Go.RowKit

def Lst (e : TypeId) (w : World) (B g : Nat) (xs : List Value) : Prop :=
  B ≤ g ∧ g < w.heap.size ∧ w.frozen? ⟨g, 0, none⟩ = false ∧ ∃ v, w.cell? ⟨g, 0, none⟩ = some v ∧ OwnV e w B v xs ∧ v.ownBlock ≠ some g
end Go.Proofs.Ytpgkfccfabnjdaa.Sn
