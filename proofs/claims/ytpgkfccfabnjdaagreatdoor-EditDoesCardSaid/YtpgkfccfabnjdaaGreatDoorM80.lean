import Derived.Test.YtpgkfccfabnjdaaGreatDoorM06
import Derived.Test.YtpgkfccfabnjdaaGreatDoorM01
import Derived.Test.YtpgkfccfabnjdaaGreatDoorM30
import Derived.Test.YtpgkfccfabnjdaaGreatDoorM12
import Derived.Test.YtpgkfccfabnjdaaGreatDoorM50
import Derived.Test.YtpgkfccfabnjdaaGreatDoorM05
/-
  NEAR, MATHEMATICS: heaps (the least one first).
-/
namespace Go.Proofs.YtpgkfccfabnjdaaGreatDoor.Hp

variable {α : Type}
def fo (o : α → Nat) (xs : List α) (i : Nat) : Nat := match xs[i]? with | some x => o x | none => 0
end Go.Proofs.YtpgkfccfabnjdaaGreatDoor.Hp

/-
  NEAR, MATHEMATICS: entries by their distance.
-/
namespace Go.Proofs.YtpgkfccfabnjdaaGreatDoor.Nr
open Z
open Tr (T Ent Wf ZS Dim key keyN)

def distT (p : List Nat) (t : T) : Nat := Bx.far p (Bx.near t.pre (Bx.cellHi t.pre t.lv) p) p.length
def lex (k d x : Nat) : Nat := d * (2 ^ k) ^ 64 + x
def ordT (p : List Nat) (t : T) : Nat := lex p.length (distT p t) (key t.pre)
end Go.Proofs.YtpgkfccfabnjdaaGreatDoor.Nr

/-
  CONTRACTS of package container/heap over a search: up, down.
-/
namespace Go.Proofs.YtpgkfccfabnjdaaGreatDoor
open Go.RowKit Go.Shelf
open Tr (T S4 Ent)
attribute [local go_sem] Oper.semAt_some

abbrev qo (p : List Nat) (qs : List T) : Nat → Nat := Hp.fo (Nr.ordT p) qs
end Go.Proofs.YtpgkfccfabnjdaaGreatDoor
