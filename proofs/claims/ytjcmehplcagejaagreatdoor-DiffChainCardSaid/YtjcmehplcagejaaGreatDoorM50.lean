import Derived.Test.YtjcmehplcagejaaGreatDoorM01
import Derived.Test.YtjcmehplcagejaaGreatDoorM04
import Derived.BigQuiet
import Derived.Lib.Mul64
import Derived.Laws.Bits64b
import Derived.Deep.Cut
import Derived.Deep.RegionHeld
import Derived.Shelf.Abstract
import Derived.BigRegion
/-
  CONTRACTS of package box, first part: alike, Right, isEmpty, Empty, sum, product, difference.
-/
namespace Go.Proofs.YtjcmehplcagejaaGreatDoor
open Go.ChangeShapes Go.WideShapes Go.ChangeAt Go.RowKit

/-- a box as a value -/
abbrev boxV (A : Option Addr) (n c : Nat) (A' : Option Addr) (n' c' : Nat) : Value := .agg #[.slice A n c, .slice A' n' c']
/-- block b holds the box -/
def BoxAt (w : World) (b : Nat) (A : Option Addr) (n c : Nat) (A' : Option Addr) (n' c' : Nat) : Prop :=
  w.cell? ⟨b, 0, none⟩ = some (.slice A n c) ∧ w.cell? ⟨b, 1, none⟩ = some (.slice A' n' c')
theorem boxAt_new (w : World) (A : Option Addr) (n c : Nat) (A' : Option Addr) (n' c' : Nat) : BoxAt (w.alloc (.cells #[.slice A n c, .slice A' n' c'] 25)) w.heap.size A n c A' n' c' :=
  ⟨by rw [World.cell?_alloc_new]; rfl, by rw [World.cell?_alloc_new]; rfl⟩
theorem BoxAt.below {w w' : World} {b C : Nat} {A : Option Addr} {n c : Nat} {A' : Option Addr} {n' c' : Nat} (h : BoxAt w b A n c A' n' c') (hb : Below C w w') (hC : b < C) : BoxAt w' b A n c A' n' c' :=
  ⟨(hb.cell (p := ⟨b, 0, none⟩) hC).trans h.1, (hb.cell (p := ⟨b, 1, none⟩) hC).trans h.2⟩

/-! ### alike -/
/-! ### Right -/
/-! ### sum, product, difference -/
end Go.Proofs.YtjcmehplcagejaaGreatDoor

/-
  CONTRACTS of package mask, first part: right, Has, None, First of a mask.
-/
namespace Go.Proofs.YtjcmehplcagejaaGreatDoor
open Go.ChangeShapes Go.WideShapes Go.ChangeAt Go.RowKit

/-- block b holds the mask -/
def MaskAt (w : World) (b : Nat) (k lo hi : Int) : Prop :=
  w.cell? ⟨b, 0, none⟩ = some (.int .i64 k) ∧ w.cell? ⟨b, 1, none⟩ = some (.int .i64 lo) ∧ w.cell? ⟨b, 2, none⟩ = some (.int .i64 hi)
theorem MaskAt.below {w w' : World} {b C : Nat} {k lo hi : Int} (h : MaskAt w b k lo hi) (hb : Below C w w') (hC : b < C) : MaskAt w' b k lo hi :=
  ⟨(hb.cell (p := ⟨b, 0, none⟩) hC).trans h.1, (hb.cell (p := ⟨b, 1, none⟩) hC).trans h.2.1, (hb.cell (p := ⟨b, 2, none⟩) hC).trans h.2.2⟩
theorem MaskAt.drew {w : World} {b : Nat} {k lo hi : Int} (h : MaskAt w b k lo hi) : MaskAt w.drew b k lo hi := h

/-- may a mask be? -/
def MRight (k lo hi : Int) : Prop := (1 ≤ k ∧ k ≤ 16) ∧ (0 ≤ lo ∧ lo < ((2 ^ k.toNat : Nat) : Int)) ∧ (0 ≤ hi ∧ hi < ((2 ^ k.toNat : Nat) : Int))
instance mright_dec (k lo hi : Int) : Decidable (MRight k lo hi) := by unfold MRight; infer_instance
/-! ### Has -/
/-! ### None, First -/
end Go.Proofs.YtjcmehplcagejaaGreatDoor

/-
  CONTRACTS of package box, second part: isEmpty, Empty, Volume.
-/
namespace Go.Proofs.YtjcmehplcagejaaGreatDoor
open Go.ChangeShapes Go.WideShapes Go.ChangeAt Go.RowKit

/-- a point that can be read, not empty: its cells -/
theorem Pts.at {w : World} {B : Nat} {A : Option Addr} {us : List Nat} (h : Pts w B A us) (h1 : 1 ≤ us.length) :
    ∃ b off, A = some ⟨b, off, none⟩ ∧ b < B ∧ ∀ i, i < us.length → w.cell? ⟨b, off + i, none⟩ = some (.int .u64 (Bx.g us i : Int)) := by
  obtain ⟨b, off, hA, hb, hc⟩ := h.open_ (by rintro rfl; simp at h1)
  exact ⟨b, off, hA, hb, fun i hi => hc i _ (Bx.g_get hi)⟩

/-! ### the same, said of what is left of the world -/
/-! ### Empty -/
/-! ### Volume -/
end Go.Proofs.YtjcmehplcagejaaGreatDoor

/-
  CONTRACTS of package box, fourth part: boxOf, whatever function tells the ends.
-/
namespace Go.Proofs.YtjcmehplcagejaaGreatDoor
open Go.ChangeShapes Go.WideShapes Go.ChangeAt Go.RowKit

/-- block b holds x and y, and may be written -/
def Bx0 (w : World) (b : Nat) (x y : Value) : Prop := w.cell? ⟨b, 0, none⟩ = some x ∧ w.cell? ⟨b, 1, none⟩ = some y ∧ w.frozen? ⟨b, 0, none⟩ = false ∧ w.frozen? ⟨b, 1, none⟩ = false
theorem bx0_at {w : World} {b : Nat} {x y : Value} {e : TypeId} (h : w.heap[b]? = some (.cells #[x, y] e (0, 0))) : Bx0 w b x y :=
  ⟨by rw [cell_of_row w b _ _ e (0, 0) h]; rfl, by rw [cell_of_row w b _ _ e (0, 0) h]; rfl, frozen_of_row w b _ _ e h, frozen_of_row w b _ _ e h⟩
theorem bx0_block {w w' : World} {b : Nat} {x y : Value} (h : Bx0 w b x y) (hb : w'.heap[b]? = w.heap[b]?) : Bx0 w' b x y :=
  ⟨(World.cell?_of_block (w := w) (a := ⟨b, 0, none⟩) hb).trans h.1, (World.cell?_of_block (w := w) (a := ⟨b, 1, none⟩) hb).trans h.2.1, (World.frozen?_of_block (w := w) (a := ⟨b, 0, none⟩) hb).trans h.2.2.1, (World.frozen?_of_block (w := w) (a := ⟨b, 1, none⟩) hb).trans h.2.2.2⟩
end Go.Proofs.YtjcmehplcagejaaGreatDoor

/-
  CONTRACTS of package box, fifth part: the functions that tell the ends, and Meet.
-/
namespace Go.Proofs.YtjcmehplcagejaaGreatDoor
open Go.ChangeShapes Go.WideShapes Go.ChangeAt Go.RowKit

theorem enters_at {fid : Nat} {fn : Func} {c : Code} (hf : Tryz.prog.funcs[fid]? = some fn) (hname : (fn.name == "runtime.NumGoroutine") = false) (hb : fn.body = some c) : ∀ args w, (callFunc fid args).run Tryz.prog w = .ok (.enter fid args) w :=
  fun args w => enters_of hf hname hb args w

/-- the memory of Meet: the two boxes, and the result's block -/
def MSt (A : Option Addr) (n c : Nat) (A' : Option Addr) (n' c' : Nat) (C : Option Addr) (m d : Nat) (C' : Option Addr) (m' d' : Nat) (w wr : World) : Prop :=
  Below w.heap.size w wr ∧ w.heap.size + 3 ≤ wr.heap.size ∧ BoxAt wr w.heap.size A n c A' n' c' ∧ BoxAt wr (w.heap.size + 1) C m d C' m' d' ∧ Bx0 wr (w.heap.size + 2) (.slice none 0 0) (.slice none 0 0)
theorem MSt.new (A : Option Addr) (n c : Nat) (A' : Option Addr) (n' c' : Nat) (C : Option Addr) (m d : Nat) (C' : Option Addr) (m' d' : Nat) (w : World) :
    MSt A n c A' n' c' C m d C' m' d' w (((w.alloc (.cells #[.slice A n c, .slice A' n' c'] 25)).alloc (.cells #[.slice C m d, .slice C' m' d'] 25)).alloc (.cells #[.slice none 0 0, .slice none 0 0] 25)) := by
  refine ⟨((below_alloc _ _).alloc (by simp) _).alloc (by simp; omega) _, by simp, ?_, ?_, ?_⟩
  · have h := bx0_at (heap_past (.cells #[.slice none 0 0, .slice none 0 0] 25) (heap_past (.cells #[.slice C m d, .slice C' m' d'] 25) (heap_at w (.cells #[.slice A n c, .slice A' n' c'] 25) _ rfl)))
    exact ⟨h.1, h.2.1⟩
  · have h := bx0_at (heap_past (.cells #[.slice none 0 0, .slice none 0 0] 25) (heap_at (w.alloc (.cells #[.slice A n c, .slice A' n' c'] 25)) (.cells #[.slice C m d, .slice C' m' d'] 25) (w.heap.size + 1) (by simp)))
    exact ⟨h.1, h.2.1⟩
  · exact bx0_at (heap_at _ _ _ (by simp))
theorem MSt.step {A : Option Addr} {n c : Nat} {A' : Option Addr} {n' c' : Nat} {C : Option Addr} {m d : Nat} {C' : Option Addr} {m' d' : Nat} {w wr wx : World} (h : MSt A n c A' n' c' C m d C' m' d' w wr) (hb : Below wr.heap.size wr wx) : MSt A n c A' n' c' C m d C' m' d' w wx := by
  obtain ⟨h1, h2, h3, h4, h5⟩ := h
  exact ⟨Below.andThen h1 hb, Nat.le_trans h2 hb.size, h3.below hb (by omega), h4.below hb (by omega), bx0_block h5 (hb.block _ (by omega))⟩

end Go.Proofs.YtjcmehplcagejaaGreatDoor
/-
  CONTRACTS of package box, sixth part: Around and Cell.
-/
namespace Go.Proofs.YtjcmehplcagejaaGreatDoor
open Go.ChangeShapes Go.WideShapes Go.ChangeAt Go.RowKit

/-! ### Around -/
/-- the memory of Around: the point, the number, and the result's block -/
def ASt (A : Option Addr) (n c m : Nat) (w wr : World) : Prop :=
  Below w.heap.size w wr ∧ w.heap.size + 3 ≤ wr.heap.size ∧ wr.cell? ⟨w.heap.size, 0, none⟩ = some (.slice A n c) ∧ wr.cell? ⟨w.heap.size + 1, 0, none⟩ = some (.int .u64 (m : Int)) ∧ Bx0 wr (w.heap.size + 2) (.slice none 0 0) (.slice none 0 0)
theorem ASt.new (A : Option Addr) (n c m : Nat) (w : World) :
    ASt A n c m w (((w.alloc (.cells #[.slice A n c] 23)).alloc (.cells #[.int .u64 (m : Int)] 46)).alloc (.cells #[.slice none 0 0, .slice none 0 0] 25)) := by
  refine ⟨((below_alloc _ _).alloc (by simp) _).alloc (by simp; omega) _, by simp, ?_, ?_, ?_⟩
  · exact cell_of_one (heap_past (.cells #[.slice none 0 0, .slice none 0 0] 25) (heap_past (.cells #[.int .u64 (m : Int)] 46) (heap_at w (.cells #[.slice A n c] 23) _ rfl)))
  · exact cell_of_one (heap_past (.cells #[.slice none 0 0, .slice none 0 0] 25) (heap_at (w.alloc (.cells #[.slice A n c] 23)) (.cells #[.int .u64 (m : Int)] 46) (w.heap.size + 1) (by simp)))
  · exact bx0_at (heap_at _ _ _ (by simp))
theorem ASt.step {A : Option Addr} {n c m : Nat} {w wr wx : World} (h : ASt A n c m w wr) (hb : Below wr.heap.size wr wx) : ASt A n c m w wx := by
  obtain ⟨h1, h2, h3, h4, h5⟩ := h
  exact ⟨Below.andThen h1 hb, Nat.le_trans h2 hb.size, (hb.cell (p := ⟨w.heap.size, 0, none⟩) (by show w.heap.size < _; omega)).trans h3, (hb.cell (p := ⟨w.heap.size + 1, 0, none⟩) (by show w.heap.size + 1 < _; omega)).trans h4, bx0_block h5 (hb.block _ (by omega))⟩

/-! ### Cell -/
/-- the memory of Cell: the result's block, the cut point, and what is cut -/
def CSt (A : Option Addr) (n c q b : Nat) (us : List Nat) (w wr : World) : Prop :=
  Below w.heap.size w wr ∧ w.heap.size < b ∧ b + 2 ≤ wr.heap.size ∧ wr.cell? ⟨b, 0, none⟩ = some (.slice A n c) ∧ wr.cell? ⟨b + 1, 0, none⟩ = some (.int .u64 (q : Int)) ∧ Bx0 wr w.heap.size (.slice none 0 0) (.slice none 0 0) ∧ Pts wr b A us
theorem CSt.new {A : Option Addr} {n c q : Nat} {us : List Nat} {w w2 : World} (hb : Below (w.alloc (.cells #[.slice none 0 0, .slice none 0 0] 25)).heap.size (w.alloc (.cells #[.slice none 0 0, .slice none 0 0] 25)) w2) (hp : Pts w2 w2.heap.size A us) :
    CSt A n c q w2.heap.size us w ((w2.alloc (.cells #[.slice A n c] 23)).alloc (.cells #[.int .u64 (q : Int)] 46)) := by
  have hs := hb.size
  rw [World.size_alloc] at hs
  have hbx : w2.heap[w.heap.size]? = some (.cells #[.slice none 0 0, .slice none 0 0] 25) := (hb.block w.heap.size (by simp)).trans (heap_at _ _ _ rfl)
  refine ⟨((Below.andThen (below_alloc _ _) hb).alloc (by omega) _).alloc (by simp; omega) _, by omega, by simp, ?_, ?_, ?_, ?_⟩
  · exact cell_of_one (heap_past (.cells #[.int .u64 (q : Int)] 46) (heap_at w2 (.cells #[.slice A n c] 23) _ rfl))
  · exact cell_of_one (heap_at (w2.alloc (.cells #[.slice A n c] 23)) (.cells #[.int .u64 (q : Int)] 46) (w2.heap.size + 1) (by simp))
  · exact bx0_at (heap_past _ (heap_past _ hbx))
  · exact hp.below' ((below_alloc _ _).alloc (by simp) _) (Nat.le_refl _)
theorem CSt.step {A : Option Addr} {n c q b : Nat} {us : List Nat} {w wr wx : World} (h : CSt A n c q b us w wr) (hb : Below wr.heap.size wr wx) : CSt A n c q b us w wx := by
  obtain ⟨h1, h2, h3, h4, h5, h6, h7⟩ := h
  exact ⟨Below.andThen h1 hb, h2, Nat.le_trans h3 hb.size, (hb.cell (p := ⟨b, 0, none⟩) (by show b < _; omega)).trans h4, (hb.cell (p := ⟨b + 1, 0, none⟩) (by show b + 1 < _; omega)).trans h5, bx0_block h6 (hb.block _ (by omega)), h7.below' hb (by omega)⟩

end Go.Proofs.YtjcmehplcagejaaGreatDoor

/-
  CONTRACTS of package mask, fourth part: Of and Whole.
-/
namespace Go.Proofs.YtjcmehplcagejaaGreatDoor
open Go.ChangeShapes Go.WideShapes Go.ChangeAt Go.RowKit

/-- block b holds the mask, and may be written -/
def M0 (w : World) (b : Nat) (x y z : Int) : Prop := MaskAt w b x y z ∧ w.frozen? ⟨b, 0, none⟩ = false ∧ w.frozen? ⟨b, 1, none⟩ = false ∧ w.frozen? ⟨b, 2, none⟩ = false
theorem m0_at {w : World} {b : Nat} {x y z : Int} (h : w.heap[b]? = some (.cells #[.int .i64 x, .int .i64 y, .int .i64 z] 211 (0, 0))) : M0 w b x y z :=
  ⟨⟨by rw [cell_of_row w b _ _ 211 (0, 0) h]; rfl, by rw [cell_of_row w b _ _ 211 (0, 0) h]; rfl, by rw [cell_of_row w b _ _ 211 (0, 0) h]; rfl⟩, frozen_of_row w b _ _ 211 h, frozen_of_row w b _ _ 211 h, frozen_of_row w b _ _ 211 h⟩
theorem m0_block {w w' : World} {b : Nat} {x y z : Int} (h : M0 w b x y z) (hb : w'.heap[b]? = w.heap[b]?) : M0 w' b x y z :=
  ⟨⟨(World.cell?_of_block (w := w) (a := ⟨b, 0, none⟩) hb).trans h.1.1, (World.cell?_of_block (w := w) (a := ⟨b, 1, none⟩) hb).trans h.1.2.1, (World.cell?_of_block (w := w) (a := ⟨b, 2, none⟩) hb).trans h.1.2.2⟩,
    (World.frozen?_of_block (w := w) (a := ⟨b, 0, none⟩) hb).trans h.2.1, (World.frozen?_of_block (w := w) (a := ⟨b, 1, none⟩) hb).trans h.2.2.1, (World.frozen?_of_block (w := w) (a := ⟨b, 2, none⟩) hb).trans h.2.2.2⟩
/-- the memory of Of: the box, the result's block, and the mask that is made -/
def OSt (w wr : World) (mb : Nat) (A : Option Addr) (n c : Nat) (A' : Option Addr) (n' c' : Nat) (x y z : Int) : Prop :=
  Below w.heap.size w wr ∧ BoxAt wr w.heap.size A n c A' n' c' ∧ M0 wr (w.heap.size + 1) 0 0 0 ∧ M0 wr mb x y z ∧ w.heap.size + 1 < mb ∧ mb < wr.heap.size
theorem OSt.step {w wr wx : World} {mb : Nat} {A : Option Addr} {n c : Nat} {A' : Option Addr} {n' c' : Nat} {x y z : Int} (h : OSt w wr mb A n c A' n' c' x y z) (hb : Below wr.heap.size wr wx) : OSt w wx mb A n c A' n' c' x y z := by
  obtain ⟨h1, h2, h3, h4, h5, h6⟩ := h
  exact ⟨Below.andThen h1 hb, h2.below hb (by omega), m0_block h3 (hb.block _ (by omega)), m0_block h4 (hb.block _ h6), h5, Nat.lt_of_lt_of_le h6 hb.size⟩
theorem OSt.drew {w wr : World} {mb : Nat} {A : Option Addr} {n c : Nat} {A' : Option Addr} {n' c' : Nat} {x y z : Int} (h : OSt w wr mb A n c A' n' c' x y z) : OSt w wr.drew mb A n c A' n' c' x y z :=
  ⟨h.1.drew, h.2.1, h.2.2.1, h.2.2.2.1, h.2.2.2.2⟩
/-- the box and the result's block, ahead of the mask that is made -/
def OSt0 (w wr : World) (A : Option Addr) (n c : Nat) (A' : Option Addr) (n' c' : Nat) : Prop :=
  Below w.heap.size w wr ∧ BoxAt wr w.heap.size A n c A' n' c' ∧ M0 wr (w.heap.size + 1) 0 0 0 ∧ w.heap.size + 2 ≤ wr.heap.size
theorem OSt0.new (w : World) (A : Option Addr) (n c : Nat) (A' : Option Addr) (n' c' : Nat) : OSt0 w ((w.alloc (.cells #[.slice A n c, .slice A' n' c'] 25)).alloc (.cells #[.int .i64 0, .int .i64 0, .int .i64 0] 211)) A n c A' n' c' :=
  ⟨(below_alloc _ _).alloc (by simp) _, (boxAt_new w A n c A' n' c').below (below_alloc _ _) (by simp), m0_at (heap_at _ _ _ (by simp)), by simp⟩
theorem OSt0.step {w wr wx : World} {A : Option Addr} {n c : Nat} {A' : Option Addr} {n' c' : Nat} (h : OSt0 w wr A n c A' n' c') (hb : Below wr.heap.size wr wx) : OSt0 w wx A n c A' n' c' := by
  obtain ⟨h1, h2, h3, h4⟩ := h
  exact ⟨Below.andThen h1 hb, h2.below hb (by omega), m0_block h3 (hb.block _ (by omega)), Nat.le_trans h4 hb.size⟩
theorem OSt0.mask {w wr : World} {A : Option Addr} {n c : Nat} {A' : Option Addr} {n' c' : Nat} (h : OSt0 w wr A n c A' n' c') (x y z : Int) : OSt w (wr.alloc (.cells #[.int .i64 x, .int .i64 y, .int .i64 z] 211)) wr.heap.size A n c A' n' c' x y z := by
  obtain ⟨h1, h2, h3, h4⟩ := h.step (below_alloc wr (.cells #[.int .i64 x, .int .i64 y, .int .i64 z] 211))
  exact ⟨h1, h2, h3, m0_at (heap_at _ _ _ rfl), by have := h.2.2.2; omega, by simp⟩
/-! ### Of -/
end Go.Proofs.YtjcmehplcagejaaGreatDoor
