/-
  CONTRACTS of package slots, eleventh part: Del.
-/
import Derived.Test.YtgplbbmenmbaaaaS9n
namespace Go.Proofs.Ytgplbbmenmbaaaa.Sn
open Go.ChangeShapes Go.WideShapes Go.ChangeAt Go.RowKit

end Go.Proofs.Ytgplbbmenmbaaaa.Sn
