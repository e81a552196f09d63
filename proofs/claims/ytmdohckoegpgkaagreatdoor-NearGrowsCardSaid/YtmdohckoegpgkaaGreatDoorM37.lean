import Derived.Test.YtmdohckoegpgkaaGreatDoorM35
/-
  CONTRACTS of packages pantileref08 (From, UpTo) and pantilelaw08 (at, of any entry); From, UpTo of package walk at any root.
-/
namespace Go.Proofs.YtmdohckoegpgkaaGreatDoor
open Go.ChangeShapes Go.WideShapes Go.ChangeAt Go.RowKit
open Tr (T S4 Ent)

/-! ### at, of any entry -/
/-- an entry, or none, as it can be read -/
def RdX (w : World) (x : Option Ent) (P : Option Addr) (n v : Nat) : Prop := match x with
  | none => n = 0 ∧ v = 0
  | some y => n = y.1.length ∧ v = y.2 ∧ Pts w w.heap.size P y.1
theorem RdX.below {w w' : World} {x : Option Ent} {P : Option Addr} {n v : Nat} (h : RdX w x P n v) (hb : Below w.heap.size w w') : RdX w' x P n v := by
  cases x with
  | none => exact h
  | some y => exact ⟨h.1, h.2.1, (h.2.2.below' hb (Nat.le_refl _)).keep hb.size (fun _ _ => rfl)⟩
theorem TelE.rd {w w' : World} {x : Option Ent} {P : Option Addr} {n dd v : Nat} (h : TelE w w' x P n dd v) : RdX w' x P n v := by
  cases x with
  | none => exact ⟨h.2.1, h.2.2.2⟩
  | some y =>
    obtain ⟨rfl, rfl, hh, rfl, ho⟩ := h
    obtain ⟨A, c, hv, hp⟩ := ho.pts
    simp only [Value.slice.injEq] at hv
    obtain ⟨rfl, -, -⟩ := hv
    exact ⟨rfl, rfl, hp⟩
/-! ### From, UpTo, at any root -/
end Go.Proofs.YtmdohckoegpgkaaGreatDoor
