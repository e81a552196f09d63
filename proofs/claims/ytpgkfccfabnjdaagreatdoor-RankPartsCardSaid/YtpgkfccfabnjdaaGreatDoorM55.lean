import Derived.Test.YtpgkfccfabnjdaaGreatDoorM28
import Derived.Test.YtpgkfccfabnjdaaGreatDoorM01
import Derived.Test.YtpgkfccfabnjdaaGreatDoorM50
import Derived.Test.YtpgkfccfabnjdaaGreatDoorM23
import Derived.Test.YtpgkfccfabnjdaaGreatDoorM24
import Derived.Test.YtpgkfccfabnjdaaGreatDoorM22
import Derived.Test.YtpgkfccfabnjdaaGreatDoorM06
import Derived.Test.YtpgkfccfabnjdaaGreatDoorM05
/-
  PLAIN MATHEMATICS of layer 9: what of a node lies in a box: nodes wholly in it, kids that the box leaves.
-/
namespace Go.Proofs.YtpgkfccfabnjdaaGreatDoor.Tr
open Go.Proofs.YtpgkfccfabnjdaaGreatDoor.Z

def inB (lo hi : List Nat) (e : Ent) : Bool := Bx.isin lo hi e.1 e.1.length
/-! ### what a guide meets -/
end Go.Proofs.YtpgkfccfabnjdaaGreatDoor.Tr

/-
  CONTRACTS of package window, first part: guide.look.
-/
namespace Go.Proofs.YtpgkfccfabnjdaaGreatDoor
open Go.ChangeShapes Go.WideShapes Go.ChangeAt Go.RowKit

theorem lst_new (w : World) (A : Option Addr) (n c : Nat) (A' : Option Addr) (n' c' : Nat) (fi fp : Value) : OSt0 w ((w.alloc (.cells #[.slice A n c, .slice A' n' c', fi, fp] 79)).alloc (.cells #[.int .i64 0, .int .i64 0, .int .i64 0] 215)) A n c A' n' c' :=
  ⟨(below_alloc _ _).alloc (by simp) _, BoxAt.below (w := w.alloc (.cells #[.slice A n c, .slice A' n' c', fi, fp] 79)) ⟨by rw [World.cell?_alloc_new]; rfl, by rw [World.cell?_alloc_new]; rfl⟩ (below_alloc _ _) (by simp), m0_at (heap_at _ _ _ (by simp)), by simp⟩
end Go.Proofs.YtpgkfccfabnjdaaGreatDoor

/-
  PLAIN MATHEMATICS of layer 9, third part: the stack of the guide: what is left to be met, and how much there is to be done.
-/
namespace Go.Proofs.YtpgkfccfabnjdaaGreatDoor
open Go.ChangeShapes
open Tr (T S4 Ent)

structure WFr where
  o : Option T
  a : Int
  p : Option Addr
  A : Option Addr
  m : Nat
  c : Nat
def WFr.own (x : WFr) : Option Nat := x.A.map (·.block)
/-! ### the stack in memory -/
end Go.Proofs.YtpgkfccfabnjdaaGreatDoor
