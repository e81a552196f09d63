import Derived.Test.YtpgkfccfabnjdaaGreatDoorM95
import Derived.Test.YtpgkfccfabnjdaaGreatDoorM16
/-
  DIFF: pantileref12.Changes, Swapped.
-/
namespace Go.Proofs.YtpgkfccfabnjdaaGreatDoor
open Go.ChangeShapes Go.WideShapes Go.ChangeAt Go.RowKit
open Tr (T S4 Ent Sd Fl Chg)

theorem ptsG_of {w : World} {B : Nat} {A : Option Addr} {us : List Nat} (h : Pts w B A us) (hB : B ≤ w.heap.size) : PtsG w (fun b => b < B) A us :=
  ⟨h.1, fun hn => by obtain ⟨b, off, h1, h3, h4⟩ := h.2 hn; exact ⟨b, off, h1, h3, Nat.lt_of_lt_of_le h3 hB, h4⟩⟩
end Go.Proofs.YtpgkfccfabnjdaaGreatDoor
