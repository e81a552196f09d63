/-
  CONTRACTS of package box, fourth part: boxOf, whatever function tells the ends.
-/
import Derived.Test.YtkkpgfpkeiamaaaBx3
import Derived.Test.YtkkpgfpkeiamaaaAw1
import Derived.Deep.Cut
import Derived.Deep.RegionHeld
import Derived.Shelf.Abstract
import Derived.BigRegion
namespace Go.Proofs.Ytkkpgfpkeiamaaa
open Go.ChangeShapes Go.WideShapes Go.ChangeAt Go.RowKit

/-- block b holds x and y, and may be written -/
def Bx0 (w : World) (b : Nat) (x y : Value) : Prop := w.cell? ⟨b, 0, none⟩ = some x ∧ w.cell? ⟨b, 1, none⟩ = some y ∧ w.frozen? ⟨b, 0, none⟩ = false ∧ w.frozen? ⟨b, 1, none⟩ = false
theorem bx0_at {w : World} {b : Nat} {x y : Value} {e : TypeId} (h : w.heap[b]? = some (.cells #[x, y] e (0, 0))) : Bx0 w b x y :=
  ⟨by rw [cell_of_row w b _ _ e (0, 0) h]; rfl, by rw [cell_of_row w b _ _ e (0, 0) h]; rfl, frozen_of_row w b _ _ e h, frozen_of_row w b _ _ e h⟩
theorem bx0_block {w w' : World} {b : Nat} {x y : Value} (h : Bx0 w b x y) (hb : w'.heap[b]? = w.heap[b]?) : Bx0 w' b x y :=
  ⟨(World.cell?_of_block (w := w) (a := ⟨b, 0, none⟩) hb).trans h.1, (World.cell?_of_block (w := w) (a := ⟨b, 1, none⟩) hb).trans h.2.1, (World.frozen?_of_block (w := w) (a := ⟨b, 0, none⟩) hb).trans h.2.2.1, (World.frozen?_of_block (w := w) (a := ⟨b, 1, none⟩) hb).trans h.2.2.2⟩
theorem bx0_two {w : World} {b : Nat} {u v : Value} (h : Bx0 w b u v) (x y : Value) :
    ((w.setCell ⟨b, 0, none⟩ x).setCell ⟨b, 1, none⟩ y).cell? ⟨b, 0, none⟩ = some x ∧ ((w.setCell ⟨b, 0, none⟩ x).setCell ⟨b, 1, none⟩ y).cell? ⟨b, 1, none⟩ = some y := by
  have h1 : (w.setCell ⟨b, 0, none⟩ x).cell? ⟨b, 1, none⟩ = some v := by rw [World.cell?_setCell_other _ _ _ _ (by simp)]; exact h.2.1
  refine ⟨?_, World.cell?_setCell_same _ _ _ h1⟩
  rw [World.cell?_setCell_other _ _ _ _ (by simp)]
  exact World.cell?_setCell_same _ _ _ h.1
theorem bx0_below {w w' : World} (h : Below w.heap.size w w') (x y : Value) :
    Below w.heap.size w ((w'.setCell ⟨w.heap.size, 0, none⟩ x).setCell ⟨w.heap.size, 1, none⟩ y) :=
  (h.setCell (p := ⟨w.heap.size, 0, none⟩) (Nat.le_refl _) x).setCell (p := ⟨w.heap.size, 1, none⟩) (Nat.le_refl _) y

/-- a row of the call's own in block g: the first j numbers told by f -/
def Row (w : World) (base g k j : Nat) (f : Nat → Nat) (Zs : List Value) : Prop :=
  base ≤ g ∧ g < w.heap.size ∧ w.ownsRow base 47 1 (.slice (some ⟨g, 0, none⟩) k k) k ((vals (Bx.tab k f)).take j ++ Zs.drop j)
theorem row_new {w : World} {base g k : Nat} {f : Nat → Nat} {Zs : Array Value} (hb : base ≤ g) (hk : k ≤ maxLen) (hz : Zs.size = k) (h : w.heap[g]? = some (.cells Zs 47 (0, 0))) : Row w base g k 0 f Zs.toList := by
  refine ⟨hb, (Array.getElem?_eq_some_iff.1 h).1, ?_⟩
  rw [List.take_zero, List.nil_append, List.drop_zero]
  exact ⟨by simpa using hz, .inr ⟨g, k, Zs, rfl, hb, h, Nat.le_refl _, hk, by simpa using hz, List.take_of_length_le (by simp [hz])⟩⟩
theorem row_block {w w' : World} {base g k j : Nat} {f : Nat → Nat} {Zs : List Value} (h : Row w base g k j f Zs) (hs : w.heap.size ≤ w'.heap.size) (hb : w'.heap[g]? = w.heap[g]?) : Row w' base g k j f Zs := by
  refine ⟨h.1, Nat.lt_of_lt_of_le h.2.1 hs, h.2.2.1, ?_⟩
  rcases h.2.2.2 with h2 | ⟨g', cap, cur, hv, hg, hh, r⟩
  · exact .inl h2
  · simp only [Value.slice.injEq, Option.some.injEq, Addr.mk.injEq, and_true, true_and] at hv
    obtain ⟨rfl, rfl⟩ := hv
    exact .inr ⟨g, k, cur, rfl, hg, hb.trans hh, r⟩
theorem row_cell {w : World} {base g k j : Nat} {f : Nat → Nat} {Zs : List Value} (h : Row w base g k j f Zs) {i : Nat} (hi : i < k) : ∃ x, w.cell? ⟨g, i, none⟩ = some x := by
  rw [h.2.2.cellAt i (by omega)]
  exact get_lt (by have := h.2.2.1; omega)
theorem row_store {w : World} {base g k j : Nat} {f : Nat → Nat} {Zs : List Value} (h : Row w base g k j f Zs) (hz : Zs.length = k) (hj : j < k) : Row (w.setCell ⟨g, j, none⟩ (.int .u64 (f j : Int))) base g k (j + 1) f Zs := by
  refine ⟨h.1, by simpa using h.2.1, ?_⟩
  rw [← Z.set_front' (vals (Bx.tab k f)) Zs (by rw [vals_length, Bx.tab_length, hz]) j (.int .u64 (f j : Int)) (vals_get (Bx.tab_get f hj))]
  exact (h.2.2.stored j _).1
theorem row_done {w : World} {base g k j : Nat} {f : Nat → Nat} {Zs : List Value} (h : Row w base g k j f Zs) (hz : Zs.length = k) (hj : j = k) (hf : ∀ i, i < k → f i < 18446744073709551616) : Own w base (.slice (some ⟨g, 0, none⟩) k k) (Bx.tab k f) := by
  subst hj
  refine ⟨Bx.tab_ok hf, ?_⟩
  rw [Bx.tab_length]
  have h2 := h.2.2
  rw [List.take_of_length_le (by rw [vals_length, Bx.tab_length]; omega), List.drop_of_length_le (by omega), List.append_nil] at h2
  exact h2

theorem own_store {w : World} {base : Nat} {v : Value} {us : List Nat} (h : Own w base v us) {a : Addr} (ha : v.ownBlock ≠ some a.block) (u : Value) : Own (w.setCell a u) base v us :=
  ⟨h.1, ownsRow_setCell_other h.2 ha u⟩
/-- the memory of boxOf: the result's block, its box in block gb, its rows in gl and gh, j of them told -/
def Lay (w wr : World) (gb gl gh k j : Nat) (f h : Nat → Nat) (Zs : List Value) : Prop :=
  Below w.heap.size w wr ∧ Bx0 wr w.heap.size (.slice none 0 0) (.slice none 0 0) ∧ BoxAt wr gb (some ⟨gl, 0, none⟩) k k (some ⟨gh, 0, none⟩) k k ∧ Row wr w.heap.size gl k j f Zs ∧ Row wr w.heap.size gh k j h Zs ∧
    gl ≠ gh ∧ gb ≠ gl ∧ gb ≠ gh ∧ gl ≠ w.heap.size ∧ gh ≠ w.heap.size
theorem lay_start {w wr : World} {gb gl gh k : Nat} {f h : Nat → Nat} {Zs : Array Value} (hk : k ≤ maxLen) (hz : Zs.size = k) (hb : Below w.heap.size w wr)
    (h0 : wr.heap[w.heap.size]? = some (.cells #[.slice none 0 0, .slice none 0 0] 24 (0, 0))) (h1 : wr.heap[gb]? = some (.cells #[.slice (some ⟨gl, 0, none⟩) k k, .slice (some ⟨gh, 0, none⟩) k k] 24 (0, 0)))
    (h2 : wr.heap[gl]? = some (.cells Zs 47 (0, 0))) (h3 : wr.heap[gh]? = some (.cells Zs 47 (0, 0))) (n1 : gl ≠ gh) (n2 : gb ≠ gl) (n3 : gb ≠ gh) (n4 : w.heap.size < gl) (n5 : w.heap.size < gh) : Lay w wr gb gl gh k 0 f h Zs.toList :=
  ⟨hb, bx0_at h0, ⟨(bx0_at h1).1, (bx0_at h1).2.1⟩, row_new (by omega) hk hz h2, row_new (by omega) hk hz h3, n1, n2, n3, by omega, by omega⟩
theorem lay_first {w wr : World} {gb gl gh k : Nat} {f h : Nat → Nat} {Zs : Array Value} (hk : k ≤ maxLen) (hz : Zs.size = k) (hb : Below w.heap.size w wr)
    (h1 : wr.heap[gb]? = some (.cells #[.slice (some ⟨gl, 0, none⟩) k k, .slice (some ⟨gh, 0, none⟩) k k] 24 (0, 0))) (h0 : wr.heap[w.heap.size]? = some (.cells #[.slice none 0 0, .slice none 0 0] 24 (0, 0)))
    (h2 : wr.heap[gl]? = some (.cells Zs 47 (0, 0))) (h3 : wr.heap[gh]? = some (.cells Zs 47 (0, 0))) (n1 : gl ≠ gh) (n2 : gb ≠ gl) (n3 : gb ≠ gh) (n4 : w.heap.size < gl) (n5 : w.heap.size < gh) :
    ∃ gb' gl' gh', Value.pointer (some ⟨gb, 0, none⟩) = .pointer (some ⟨gb', 0, none⟩) ∧ Lay w wr.drew gb' gl' gh' k 0 f h Zs.toList := by
  obtain ⟨x0, x1, x2, x3, x4, x5⟩ := lay_start (f := f) (h := h) hk hz hb h0 h1 h2 h3 n1 n2 n3 n4 n5
  exact ⟨gb, gl, gh, rfl, x0.drew, x1, x2, x3, x4, x5⟩
theorem lay_drew {w wr : World} {gb gl gh k j : Nat} {f h : Nat → Nat} {Zs : List Value} (H : Lay w wr gb gl gh k j f h Zs) : Lay w wr.drew gb gl gh k j f h Zs :=
  ⟨H.1.drew, H.2.1, H.2.2.1, H.2.2.2.1, H.2.2.2.2⟩
theorem lay_drewN {w wr : World} {gb gl gh k j : Nat} {f h : Nat → Nat} {Zs : List Value} (n : Nat) (H : Lay w wr gb gl gh k j f h Zs) : Lay w (wr.drewN n) gb gl gh k j f h Zs :=
  ⟨below_drewN n H.1, H.2.1, H.2.2.1, H.2.2.2.1, H.2.2.2.2⟩
theorem lay_step {w wr : World} {gb gl gh k j : Nat} {f h : Nat → Nat} {Zs : List Value} (hz : Zs.length = k) (hj : j < k) (H : Lay w wr gb gl gh k j f h Zs) :
    Lay w ((wr.setCell ⟨gl, j, none⟩ (.int .u64 (f j : Int))).setCell ⟨gh, j, none⟩ (.int .u64 (h j : Int))) gb gl gh k (j + 1) f h Zs := by
  obtain ⟨hb, h0, h1, h2, h3, n1, n2, n3, n4, n5⟩ := H
  have e : ∀ b, b ≠ gl → b ≠ gh → ((wr.setCell ⟨gl, j, none⟩ (.int .u64 (f j : Int))).setCell ⟨gh, j, none⟩ (.int .u64 (h j : Int))).heap[b]? = wr.heap[b]? := fun b x y => by
    rw [Below.heap_setCell _ _ _ _ y, Below.heap_setCell _ _ _ _ x]
  have h1' : BoxAt ((wr.setCell ⟨gl, j, none⟩ (.int .u64 (f j : Int))).setCell ⟨gh, j, none⟩ (.int .u64 (h j : Int))) gb (some ⟨gl, 0, none⟩) k k (some ⟨gh, 0, none⟩) k k :=
    ⟨(World.cell?_of_block (w := wr) (a := ⟨gb, 0, none⟩) (e gb n2 n3)).trans h1.1, (World.cell?_of_block (w := wr) (a := ⟨gb, 1, none⟩) (e gb n2 n3)).trans h1.2⟩
  refine ⟨(hb.setCell (p := ⟨gl, j, none⟩) h2.1 _).setCell (p := ⟨gh, j, none⟩) h3.1 _, bx0_block h0 (e _ (Ne.symm n4) (Ne.symm n5)), h1', ?_, ?_, n1, n2, n3, n4, n5⟩
  · exact row_block (row_store h2 hz hj) (by simp) (Below.heap_setCell _ _ _ _ n1)
  · exact row_store (row_block h3 (by simp) (Below.heap_setCell _ _ _ _ (Ne.symm n1))) hz hj

end Go.Proofs.Ytkkpgfpkeiamaaa
