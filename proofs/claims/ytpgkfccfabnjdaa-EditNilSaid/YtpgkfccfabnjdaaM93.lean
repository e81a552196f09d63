import Derived.Test.YtpgkfccfabnjdaaM92
import Derived.Test.YtpgkfccfabnjdaaM30
import Derived.Test.YtpgkfccfabnjdaaM64
/-
  CONTRACTS of package diff, fifth part: rows of changes ('ChRow'), appendChanges.
-/
namespace Go.Proofs.Ytpgkfccfabnjdaa
open Go.ChangeShapes Go.WideShapes Go.ChangeAt Go.RowKit
open Tr (T S4 Ent Sd Fl Chg)

theorem infoChg : (Try.prog.info? 43).map (fun i => (i.zero, i.size, i.bytes)) = some (some (.agg #[.slice none 0 0, .bool false, .bool false, .int .u64 0, .int .u64 0]), 5, 48) := by kernel_rfl
end Go.Proofs.Ytpgkfccfabnjdaa
