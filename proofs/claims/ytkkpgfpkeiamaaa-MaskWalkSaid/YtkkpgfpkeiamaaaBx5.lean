/-
  CONTRACTS of package box, fifth part: the functions that tell the ends, and Meet.
-/
import Derived.Test.YtkkpgfpkeiamaaaBx4
namespace Go.Proofs.Ytkkpgfpkeiamaaa
open Go.ChangeShapes Go.WideShapes Go.ChangeAt Go.RowKit

theorem enters_at {fid : Nat} {fn : Func} {c : Code} (hf : Try.prog.funcs[fid]? = some fn) (hname : (fn.name == "runtime.NumGoroutine") = false) (hb : fn.body = some c) : ∀ args w, (callFunc fid args).run Try.prog w = .ok (.enter fid args) w :=
  fun args w => enters_of hf hname hb args w

/-- the memory of Meet: the two boxes, and the result's block -/
def MSt (A : Option Addr) (n c : Nat) (A' : Option Addr) (n' c' : Nat) (C : Option Addr) (m d : Nat) (C' : Option Addr) (m' d' : Nat) (w wr : World) : Prop :=
  Below w.heap.size w wr ∧ w.heap.size + 3 ≤ wr.heap.size ∧ BoxAt wr w.heap.size A n c A' n' c' ∧ BoxAt wr (w.heap.size + 1) C m d C' m' d' ∧ Bx0 wr (w.heap.size + 2) (.slice none 0 0) (.slice none 0 0)
theorem MSt.new (A : Option Addr) (n c : Nat) (A' : Option Addr) (n' c' : Nat) (C : Option Addr) (m d : Nat) (C' : Option Addr) (m' d' : Nat) (w : World) :
    MSt A n c A' n' c' C m d C' m' d' w (((w.alloc (.cells #[.slice A n c, .slice A' n' c'] 24)).alloc (.cells #[.slice C m d, .slice C' m' d'] 24)).alloc (.cells #[.slice none 0 0, .slice none 0 0] 24)) := by
  refine ⟨((below_alloc _ _).alloc (by simp) _).alloc (by simp; omega) _, by simp, ?_, ?_, ?_⟩
  · have h := bx0_at (heap_past (.cells #[.slice none 0 0, .slice none 0 0] 24) (heap_past (.cells #[.slice C m d, .slice C' m' d'] 24) (heap_at w (.cells #[.slice A n c, .slice A' n' c'] 24) _ rfl)))
    exact ⟨h.1, h.2.1⟩
  · have h := bx0_at (heap_past (.cells #[.slice none 0 0, .slice none 0 0] 24) (heap_at (w.alloc (.cells #[.slice A n c, .slice A' n' c'] 24)) (.cells #[.slice C m d, .slice C' m' d'] 24) (w.heap.size + 1) (by simp)))
    exact ⟨h.1, h.2.1⟩
  · exact bx0_at (heap_at _ _ _ (by simp))
theorem MSt.step {A : Option Addr} {n c : Nat} {A' : Option Addr} {n' c' : Nat} {C : Option Addr} {m d : Nat} {C' : Option Addr} {m' d' : Nat} {w wr wx : World} (h : MSt A n c A' n' c' C m d C' m' d' w wr) (hb : Below wr.heap.size wr wx) : MSt A n c A' n' c' C m d C' m' d' w wx := by
  obtain ⟨h1, h2, h3, h4, h5⟩ := h
  exact ⟨Below.andThen h1 hb, Nat.le_trans h2 hb.size, h3.below hb (by omega), h4.below hb (by omega), bx0_block h5 (hb.block _ (by omega))⟩

/-- what a call that makes a box leaves, once the box is stored in the result's block -/
theorem box_out {w wr : World} {r base gl gh k : Nat} {us vs : List Nat} {x y : Value} (hr : w.heap.size ≤ r) (hrb : r < base) (h0 : Bx0 wr r x y) (hb : Below w.heap.size w wr)
    (o1 : Own wr base (.slice (some ⟨gl, 0, none⟩) k k) us) (o2 : Own wr base (.slice (some ⟨gh, 0, none⟩) k k) vs) :
    ((wr.setCell ⟨r, 0, none⟩ (.slice (some ⟨gl, 0, none⟩) k k)).setCell ⟨r, 1, none⟩ (.slice (some ⟨gh, 0, none⟩) k k)).cell? ⟨r, 0, none⟩ = some (.slice (some ⟨gl, 0, none⟩) k k) ∧
    ((wr.setCell ⟨r, 0, none⟩ (.slice (some ⟨gl, 0, none⟩) k k)).setCell ⟨r, 1, none⟩ (.slice (some ⟨gh, 0, none⟩) k k)).cell? ⟨r, 1, none⟩ = some (.slice (some ⟨gh, 0, none⟩) k k) ∧
    Own ((wr.setCell ⟨r, 0, none⟩ (.slice (some ⟨gl, 0, none⟩) k k)).setCell ⟨r, 1, none⟩ (.slice (some ⟨gh, 0, none⟩) k k)) base (.slice (some ⟨gl, 0, none⟩) k k) us ∧
    Own ((wr.setCell ⟨r, 0, none⟩ (.slice (some ⟨gl, 0, none⟩) k k)).setCell ⟨r, 1, none⟩ (.slice (some ⟨gh, 0, none⟩) k k)) base (.slice (some ⟨gh, 0, none⟩) k k) vs ∧
    Below w.heap.size w ((wr.setCell ⟨r, 0, none⟩ (.slice (some ⟨gl, 0, none⟩) k k)).setCell ⟨r, 1, none⟩ (.slice (some ⟨gh, 0, none⟩) k k)) := by
  obtain ⟨k0, k1⟩ := bx0_two h0 (.slice (some ⟨gl, 0, none⟩) k k) (.slice (some ⟨gh, 0, none⟩) k k)
  have l1 := (o1.2.lt gl rfl).1
  have l2 := (o2.2.lt gh rfl).1
  have n1 : gl ≠ r := by omega
  have n2 : gh ≠ r := by omega
  exact ⟨k0, k1, own_store (own_store o1 (by simpa [Value.ownBlock] using n1) _) (by simpa [Value.ownBlock] using n1) _, own_store (own_store o2 (by simpa [Value.ownBlock] using n2) _) (by simpa [Value.ownBlock] using n2) _,
    (hb.setCell (p := ⟨r, 0, none⟩) hr _).setCell (p := ⟨r, 1, none⟩) hr _⟩

end Go.Proofs.Ytkkpgfpkeiamaaa