import Derived.Test.YtpgkfccfabnjdaaM91
import Derived.Test.YtpgkfccfabnjdaaM80
import Derived.Test.YtpgkfccfabnjdaaM26
/-
  CONTRACTS of package diff, fourth part: lockstep.through. Laid by wip/gen51.py.
-/
namespace Go.Proofs.Ytpgkfccfabnjdaa
open Go.ChangeShapes Go.WideShapes Go.ChangeAt Go.RowKit
open Tr (T S4 Ent Sd Fl Chg)

theorem lst_next2 {α : Type} {n : Nat} {Q : (Nat → Option Value) → α → Prop} {e : TypeId} {w : World} (hQ : QOk n Q) (ob : Obj) (vs : Array Value) (x : α) (hs : vs.size = n) (hx : Q (fun j => vs[j]?) x) :
    Lst n Q ((w.alloc ob).alloc (.cells vs e)) (w.heap.size + 1 + 1) (some ⟨w.heap.size + 1, 0, none⟩) [x] := by
  have h := lst_at (e := e) (w := w.alloc ob) hQ vs x hs hx
  rw [World.size_alloc] at h
  exact h
section
variable (B k : Nat) (C : List Chg) (go : Bool) (Inv : List Chg → World → (Nat → Prop) → Prop) (fv : Value) (w : World) (F : Nat → Prop)
end
end Go.Proofs.Ytpgkfccfabnjdaa
