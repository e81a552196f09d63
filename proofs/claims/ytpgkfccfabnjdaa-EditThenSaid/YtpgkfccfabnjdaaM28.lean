import Derived.Test.YtpgkfccfabnjdaaM22
import Derived.Test.YtpgkfccfabnjdaaM24
import Derived.Test.YtpgkfccfabnjdaaM23
/-
  PLAIN MATHEMATICS of layer 8: a cursor as a stack of nodes and gaps, what stands ahead of it and behind it, how much is left to walk; the way down to a point.
-/
namespace Go.Proofs.Ytpgkfccfabnjdaa.Tr
open Go.Proofs.Ytpgkfccfabnjdaa.Z
open Go.Proofs.Ytpgkfccfabnjdaa (levI)

/-! ### ahead of a gap, behind it -/
theorem Wf.srt {k : Nat} {t : T} (h : Wf k t) : Sl.Srt t.ks := by
  cases h with
  | ent => exact Sl.srt_nil
  | br _ _ _ _ _ hw => exact hw.srt
/-! ### steps -/
/-! ### how much is left -/
/-! ### the way down to a point -/
end Go.Proofs.Ytpgkfccfabnjdaa.Tr

/-
  CURSORS IN MEMORY ('CurM': its block, the row of its steps; 'CurAt': with the tree's nodes), and CONTRACTS of package walk, first part: last, step, up.
-/
namespace Go.Proofs.Ytpgkfccfabnjdaa
open Go.ChangeShapes Go.WideShapes Go.ChangeAt Go.RowKit
open Tr (T S4 Ent)

def Cf (g : Nat) (D : Option Addr) : Nat → Prop := fun b => b = g ∨ D.map (·.block) = some b
theorem block_set {w : World} {g i : Nat} {cs : Array Value} {t : TypeId} {fr : Nat × Nat} (h : w.heap[g]? = some (.cells cs t fr)) (v : Value) :
    (w.setCell ⟨g, i, none⟩ v).heap[g]? = some (.cells (cs.setIfInBounds i v) t fr) := by
  simp [World.setCell, Array.getElem?_modify, h]
/-! ### last, up, step -/
end Go.Proofs.Ytpgkfccfabnjdaa
