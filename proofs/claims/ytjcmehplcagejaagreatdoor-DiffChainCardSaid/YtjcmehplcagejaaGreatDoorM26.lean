import Derived.Test.YtjcmehplcagejaaGreatDoorM13
import Derived.Test.YtjcmehplcagejaaGreatDoorM16
import Derived.LaidEqlPtr
import Derived.Test.YtjcmehplcagejaaGreatDoorM20
import Derived.Test.YtjcmehplcagejaaGreatDoorM06
/-
  THE CONTRACT of pantilelaw06.awake: the chapter's example is met: it returns true.
-/
namespace Go.Proofs.YtjcmehplcagejaaGreatDoor
open Go.ChangeShapes Go.WideShapes Go.ChangeAt Go.RowKit
open Tr (T S4 Ent)

/-- one node is itself -/
theorem ptr_eq (w : World) (a : Addr) : (binOp .eql 81 (.pointer (some a)) (.pointer (some a))).run Tryz.prog w = .ok (.bool true) w := by
  have h : (Tryz.prog.info? 197).isSome = true := by kernel_rfl
  obtain ⟨j, hj⟩ := Option.isSome_iff_exists.1 h
  exact run_eql_ptr_same w a Tryz.underlying81 hj
theorem pts_list {w : World} {g : Nat} {t : TypeId} {us : List Nat} (ho : Z.Ok us) (h : w.heap[g]? = some (.cells (vals us).toArray t (0, 0))) : Pts w w.heap.size (some ⟨g, 0, none⟩) us := by
  refine ⟨ho, fun _ => ⟨g, 0, rfl, (Array.getElem?_eq_some_iff.1 h).1, fun i u hu => ?_⟩⟩
  rw [Nat.zero_add, cell_of_row w g _ _ t (0, 0) h]
  simpa using vals_get hu
end Go.Proofs.YtjcmehplcagejaaGreatDoor
