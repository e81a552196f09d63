import Derived.Laws.StructEq
import Derived.Test.YtkeepngaaleakaaGreatDoorM9A
namespace Go.Proofs.YtkeepngaaleakaaGreatDoor
open Go.ChangeShapes Go.WideShapes Go.ChangeAt Go.RowKit
open Tr (T S4 Ent Tri)
section
variable {p:List Nat} {t:Tri}
end
abbrev z4:Array Value:=#[.int .u64 0,.int .u64 0,.int .u64 0,.int .u64 0]
theorem keepz {w2 w3:World} {q:Nat} {c:Array Value} {ty:TypeId} (h:w2.heap[q]? = some (.cells c ty (0,0))) (hb:Below w2.heap.size w2 w3):w3.heap[q]? = some (.cells c ty (0,0)) :=
  (hb.block q (Array.getElem?_eq_some_iff.1 h).1).trans h
end Go.Proofs.YtkeepngaaleakaaGreatDoor
