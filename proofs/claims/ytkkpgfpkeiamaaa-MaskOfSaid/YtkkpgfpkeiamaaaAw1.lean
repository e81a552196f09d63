/-
  THE CONTRACT of pantilelaw01.awake: the chapter's example is met: it returns true.
-/
import Derived.Test.YtkkpgfpkeiamaaaZb
import Derived.Test.YtkkpgfpkeiamaaaRf1
namespace Go.Proofs.Ytkkpgfpkeiamaaa
open Go.ChangeShapes Go.WideShapes Go.ChangeAt Go.RowKit

theorem two_pts {w : World} {g : Nat} {x y : Nat} {e : TypeId} (hx : x < 18446744073709551616) (hy : y < 18446744073709551616) (h : w.heap[g]? = some (.cells #[.int .u64 (x : Int), .int .u64 (y : Int)] e (0, 0))) :
    Pts w (g + 1) (some ⟨g, 0, none⟩) [x, y] := by
  refine ⟨by intro u hu; simp at hu; rcases hu with rfl | rfl <;> assumption, fun _ => ⟨g, 0, rfl, by omega, fun i u hi => ?_⟩⟩
  rw [cell_of_row w g _ _ e (0, 0) h]
  match i, hi with
  | 0, hi => simp at hi; subst hi; rfl
  | 1, hi => simp at hi; subst hi; rfl

theorem heap_at (w : World) (o : Obj) (k : Nat) (h : k = w.heap.size) : (w.alloc o).heap[k]? = some o := by rw [h]; exact heap_alloc_new w o
theorem heap_past {w : World} (o : Obj) {k : Nat} {x : Obj} (h : w.heap[k]? = some x) : (w.alloc o).heap[k]? = some x := by
  rw [Below.heap_alloc w o k (Array.getElem?_eq_some_iff.1 h).1]; exact h

end Go.Proofs.Ytkkpgfpkeiamaaa
