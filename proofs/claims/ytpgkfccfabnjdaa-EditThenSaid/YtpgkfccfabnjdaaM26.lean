import Derived.Test.YtpgkfccfabnjdaaM13
import Derived.Test.YtpgkfccfabnjdaaM16
import Derived.LaidEqlPtr
/-
  THE CONTRACT of pantilelaw06.awake: the chapter's example is met: it returns true.
-/
namespace Go.Proofs.Ytpgkfccfabnjdaa
open Go.ChangeShapes Go.WideShapes Go.ChangeAt Go.RowKit
open Tr (T S4 Ent)

theorem pts_list {w : World} {g : Nat} {t : TypeId} {us : List Nat} (ho : Z.Ok us) (h : w.heap[g]? = some (.cells (vals us).toArray t (0, 0))) : Pts w w.heap.size (some ⟨g, 0, none⟩) us := by
  refine ⟨ho, fun _ => ⟨g, 0, rfl, (Array.getElem?_eq_some_iff.1 h).1, fun i u hu => ?_⟩⟩
  rw [Nat.zero_add, cell_of_row w g _ _ t (0, 0) h]
  simpa using vals_get hu
end Go.Proofs.Ytpgkfccfabnjdaa
