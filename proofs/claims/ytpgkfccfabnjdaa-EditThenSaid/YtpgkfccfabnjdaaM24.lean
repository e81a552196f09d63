import Derived.Test.YtpgkfccfabnjdaaM22
import Derived.Test.YtpgkfccfabnjdaaM23
import Derived.Test.YtpgkfccfabnjdaaM20
/-
  CONTRACTS of package tree: through, the way through all nodes.
-/
namespace Go.Proofs.Ytpgkfccfabnjdaa
open Go.ChangeShapes Go.WideShapes Go.ChangeAt Go.RowKit
open Tr (T S4 Ent Shp)

theorem own_block (A : Option Addr) (n c : Nat) : (Value.slice A n c).ownBlock = A.map (·.block) := by cases A <;> rfl
theorem ownL_one {α : Type} {n : Nat} {Q : (Nat → Option Value) → α → Prop} {e : TypeId} {w : World} {base : Nat} (vs : Array Value) (x : α) (hb : base ≤ w.heap.size) (hs : vs.size = n) (hx : Q (fun j => vs[j]?) x) :
    OwnL e n Q (w.alloc (.cells vs e)) base (.slice (some ⟨w.heap.size, 0, none⟩) 1 1) [x] := by
  refine ⟨vs.toList, ⟨by simp [hs], fun i a ha => ?_⟩, by simp [hs], .inr ⟨w.heap.size, 1, vs, rfl, hb, heap_at w _ _ rfl, Nat.le_refl _, by unfold maxLen; omega, by simp [hs], List.take_of_length_le (by simp [hs])⟩⟩
  match i with
  | 0 =>
    simp at ha
    subst ha
    simpa using hx
  | i + 1 => simp at ha
theorem lst_at {α : Type} {n : Nat} {Q : (Nat → Option Value) → α → Prop} {e : TypeId} {w : World} (hQ : QOk n Q) (vs : Array Value) (x : α) (hs : vs.size = n) (hx : Q (fun j => vs[j]?) x) :
    Lst n Q (w.alloc (.cells vs e)) (w.heap.size + 1) (some ⟨w.heap.size, 0, none⟩) [x] := by
  obtain ⟨A, c, hv, _, hl⟩ := OwnL.rd hQ (ownL_one (e := e) (w := w) (base := w.heap.size) vs x (Nat.le_refl _) hs hx)
  simp only [Value.slice.injEq] at hv
  obtain ⟨hv, -, -⟩ := hv
  subst hv
  intro hn
  obtain ⟨b, off, hA, hb, hq⟩ := hl hn
  exact ⟨b, off, hA, by simp at hb; exact hb, hq⟩
end Go.Proofs.Ytpgkfccfabnjdaa
