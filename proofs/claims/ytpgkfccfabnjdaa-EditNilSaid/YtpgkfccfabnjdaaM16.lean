import Derived.Test.YtpgkfccfabnjdaaM15
import Derived.Test.YtpgkfccfabnjdaaM14
import Derived.Test.YtpgkfccfabnjdaaM06
import Derived.Deep.RegionLaw
/-
  ENTRIES IN MEMORY ('Ents'), and CONTRACTS of package pantileref06 (the document's answers for layer 6), first part: SameShape, Dense, Level.
-/
namespace Go.Proofs.Ytpgkfccfabnjdaa
open Go.ChangeShapes Go.WideShapes Go.ChangeAt Go.RowKit
open Tr (T S4 Ent)

theorem rsame_self (A A' : Option Addr) (c c' : Nat) (us : List Nat) (B : Nat) (w : World) (hp : Pts w B A us) (hq : Pts w B A' us) (hB : B ≤ w.heap.size) (hm : us.length ≤ maxLen) :
    Calls Try.prog 28 #[.slice A us.length c, .slice A' us.length c'] w fun e w' => e = .returned (.bool true) ∧ Below w.heap.size w w' :=
  (rsame_c A A' c c' us us B w hp hq hB hm).mono fun _ _ ⟨he, hw⟩ => ⟨by rw [he, decide_eq_true rfl], hw⟩
end Go.Proofs.Ytpgkfccfabnjdaa
