import Derived.Test.YtmdohckoegpgkaaGreatDoorM68
import Derived.Test.YtmdohckoegpgkaaGreatDoorM35
import Derived.Test.YtmdohckoegpgkaaGreatDoorM37
/-
  THE LAW RankRows. Laid by wip/gen42.py.
-/
namespace Go.Proofs.YtmdohckoegpgkaaGreatDoor
open Go.ChangeShapes Go.WideShapes Go.ChangeAt Go.RowKit
open Tr (T S4 Ent)

theorem NewR.below {base : Nat} {w w' : World} {A : Option Addr} {c : Nat} {L : List Ent} (h : NewR base w A c L) (hb : Below w.heap.size w w') : NewR base w' A c L :=
  (OwnL.below h hb (Nat.le_refl _)).imp (EntG.step hb.size fun b hlt hG => ⟨hb.block b hlt, hG⟩)
end Go.Proofs.YtmdohckoegpgkaaGreatDoor
