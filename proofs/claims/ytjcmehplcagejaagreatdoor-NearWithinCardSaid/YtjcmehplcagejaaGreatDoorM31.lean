import Derived.Test.YtjcmehplcagejaaGreatDoorM30
/-
  CONTRACTS of package walk: over, New, isPoint, side, First, Last. Laid by wip/gen21.py.
-/
namespace Go.Proofs.YtjcmehplcagejaaGreatDoor
open Go.ChangeShapes Go.WideShapes Go.ChangeAt Go.RowKit
open Tr (T S4 Ent)

/-! ### isPoint, side -/
/-! ### First, Last -/
/-- on the way to an end: the node at which it stands tells what the first one tells -/
structure Way1 (w : World) (B k : Nat) (f : List Ent → Option Ent) (t s : T) (w' : World) : Prop where
  node : Node w B k s
  ends : f s.ents = f t.ents
  bel : Below w.heap.size w w'
  box : w'.heap[w.heap.size]? = some (.cells #[.slice none 0 0, .int .u64 0] 53 (0, 0))
theorem Way1.lt {w : World} {B k : Nat} {f : List Ent → Option Ent} {t s : T} {w' : World} (h : Way1 w B k f t s w') : w.heap.size < w'.heap.size := (Array.getElem?_eq_some_iff.1 h.box).1
/-! ### over, New -/
end Go.Proofs.YtjcmehplcagejaaGreatDoor
