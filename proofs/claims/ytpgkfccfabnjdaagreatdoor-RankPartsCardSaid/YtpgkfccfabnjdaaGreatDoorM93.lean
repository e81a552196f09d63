import Derived.Test.YtpgkfccfabnjdaaGreatDoorM91
import Derived.Test.YtpgkfccfabnjdaaGreatDoorM30
import Derived.Test.YtpgkfccfabnjdaaGreatDoorM64
/-
  CONTRACTS of package diff, fifth part: rows of changes ('ChRow'), appendChanges.
-/
namespace Go.Proofs.YtpgkfccfabnjdaaGreatDoor
open Go.ChangeShapes Go.WideShapes Go.ChangeAt Go.RowKit
open Tr (T S4 Ent Sd Fl Chg)

theorem map_take {α β : Type} (f : α → β) {X : List α} {j : Nat} {e : α} (h : X[j]? = some e) (L : List β) : L ++ (X.take (j + 1)).map f = L ++ (X.take j).map f ++ [f e] := by
  rw [List.take_add_one, h]
  simp
end Go.Proofs.YtpgkfccfabnjdaaGreatDoor
