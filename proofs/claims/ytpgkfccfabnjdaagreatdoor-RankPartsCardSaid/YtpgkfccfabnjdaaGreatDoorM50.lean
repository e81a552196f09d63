import Derived.Test.YtpgkfccfabnjdaaGreatDoorM01
import Derived.Test.YtpgkfccfabnjdaaGreatDoorM04
import Derived.BigQuiet
import Derived.Lib.Mul64
import Derived.Laws.Bits64b
import Derived.Deep.Cut
import Derived.Deep.RegionHeld
import Derived.Shelf.Abstract
import Derived.BigRegion
/-
  CONTRACTS of package box, first part: alike, Right, isEmpty, Empty, sum, product, difference.
-/
namespace Go.Proofs.YtpgkfccfabnjdaaGreatDoor
open Go.ChangeShapes Go.WideShapes Go.ChangeAt Go.RowKit

def BoxAt (w : World) (b : Nat) (A : Option Addr) (n c : Nat) (A' : Option Addr) (n' c' : Nat) : Prop :=
  w.cell? ⟨b, 0, none⟩ = some (.slice A n c) ∧ w.cell? ⟨b, 1, none⟩ = some (.slice A' n' c')
theorem BoxAt.below {w w' : World} {b C : Nat} {A : Option Addr} {n c : Nat} {A' : Option Addr} {n' c' : Nat} (h : BoxAt w b A n c A' n' c') (hb : Below C w w') (hC : b < C) : BoxAt w' b A n c A' n' c' :=
  ⟨(hb.cell (p := ⟨b, 0, none⟩) hC).trans h.1, (hb.cell (p := ⟨b, 1, none⟩) hC).trans h.2⟩

/-! ### alike -/
/-! ### Right -/
/-! ### sum, product, difference -/
end Go.Proofs.YtpgkfccfabnjdaaGreatDoor

/-
  CONTRACTS of package mask, first part: right, Has, None, First of a mask.
-/
namespace Go.Proofs.YtpgkfccfabnjdaaGreatDoor
open Go.ChangeShapes Go.WideShapes Go.ChangeAt Go.RowKit

def MaskAt (w : World) (b : Nat) (k lo hi : Int) : Prop :=
  w.cell? ⟨b, 0, none⟩ = some (.int .i64 k) ∧ w.cell? ⟨b, 1, none⟩ = some (.int .i64 lo) ∧ w.cell? ⟨b, 2, none⟩ = some (.int .i64 hi)
theorem MaskAt.below {w w' : World} {b C : Nat} {k lo hi : Int} (h : MaskAt w b k lo hi) (hb : Below C w w') (hC : b < C) : MaskAt w' b k lo hi :=
  ⟨(hb.cell (p := ⟨b, 0, none⟩) hC).trans h.1, (hb.cell (p := ⟨b, 1, none⟩) hC).trans h.2.1, (hb.cell (p := ⟨b, 2, none⟩) hC).trans h.2.2⟩
theorem MaskAt.drew {w : World} {b : Nat} {k lo hi : Int} (h : MaskAt w b k lo hi) : MaskAt w.drew b k lo hi := h

def MRight (k lo hi : Int) : Prop := (1 ≤ k ∧ k ≤ 16) ∧ (0 ≤ lo ∧ lo < ((2 ^ k.toNat : Nat) : Int)) ∧ (0 ≤ hi ∧ hi < ((2 ^ k.toNat : Nat) : Int))
instance mright_dec (k lo hi : Int) : Decidable (MRight k lo hi) := by unfold MRight; infer_instance
/-! ### Has -/
/-! ### None, First -/
end Go.Proofs.YtpgkfccfabnjdaaGreatDoor

/-
  CONTRACTS of package box, second part: isEmpty, Empty, Volume.
-/
namespace Go.Proofs.YtpgkfccfabnjdaaGreatDoor
open Go.ChangeShapes Go.WideShapes Go.ChangeAt Go.RowKit

theorem Pts.at {w : World} {B : Nat} {A : Option Addr} {us : List Nat} (h : Pts w B A us) (h1 : 1 ≤ us.length) :
    ∃ b off, A = some ⟨b, off, none⟩ ∧ b < B ∧ ∀ i, i < us.length → w.cell? ⟨b, off + i, none⟩ = some (.int .u64 (Bx.g us i : Int)) := by
  obtain ⟨b, off, hA, hb, hc⟩ := h.open_ (by rintro rfl; simp at h1)
  exact ⟨b, off, hA, hb, fun i hi => hc i _ (Bx.g_get hi)⟩

/-! ### the same, said of what is left of the world -/
/-! ### Empty -/
/-! ### Volume -/
end Go.Proofs.YtpgkfccfabnjdaaGreatDoor

/-
  CONTRACTS of package box, fifth part: the functions that tell the ends, and Meet.
-/
namespace Go.Proofs.YtpgkfccfabnjdaaGreatDoor
open Go.ChangeShapes Go.WideShapes Go.ChangeAt Go.RowKit

theorem enters_at {fid : Nat} {fn : Func} {c : Code} (hf : Tryz.prog.funcs[fid]? = some fn) (hname : (fn.name == "runtime.NumGoroutine") = false) (hb : fn.body = some c) : ∀ args w, (callFunc fid args).run Tryz.prog w = .ok (.enter fid args) w :=
  fun args w => enters_of hf hname hb args w

end Go.Proofs.YtpgkfccfabnjdaaGreatDoor
/-
  CONTRACTS of package mask, fourth part: Of and Whole.
-/
namespace Go.Proofs.YtpgkfccfabnjdaaGreatDoor
open Go.ChangeShapes Go.WideShapes Go.ChangeAt Go.RowKit

def M0 (w : World) (b : Nat) (x y z : Int) : Prop := MaskAt w b x y z ∧ w.frozen? ⟨b, 0, none⟩ = false ∧ w.frozen? ⟨b, 1, none⟩ = false ∧ w.frozen? ⟨b, 2, none⟩ = false
theorem m0_at {w : World} {b : Nat} {x y z : Int} (h : w.heap[b]? = some (.cells #[.int .i64 x, .int .i64 y, .int .i64 z] 215 (0, 0))) : M0 w b x y z :=
  ⟨⟨by rw [cell_of_row w b _ _ 215 (0, 0) h]; rfl, by rw [cell_of_row w b _ _ 215 (0, 0) h]; rfl, by rw [cell_of_row w b _ _ 215 (0, 0) h]; rfl⟩, frozen_of_row w b _ _ 215 h, frozen_of_row w b _ _ 215 h, frozen_of_row w b _ _ 215 h⟩
theorem m0_block {w w' : World} {b : Nat} {x y z : Int} (h : M0 w b x y z) (hb : w'.heap[b]? = w.heap[b]?) : M0 w' b x y z :=
  ⟨⟨(World.cell?_of_block (w := w) (a := ⟨b, 0, none⟩) hb).trans h.1.1, (World.cell?_of_block (w := w) (a := ⟨b, 1, none⟩) hb).trans h.1.2.1, (World.cell?_of_block (w := w) (a := ⟨b, 2, none⟩) hb).trans h.1.2.2⟩,
    (World.frozen?_of_block (w := w) (a := ⟨b, 0, none⟩) hb).trans h.2.1, (World.frozen?_of_block (w := w) (a := ⟨b, 1, none⟩) hb).trans h.2.2.1, (World.frozen?_of_block (w := w) (a := ⟨b, 2, none⟩) hb).trans h.2.2.2⟩
def OSt (w wr : World) (mb : Nat) (A : Option Addr) (n c : Nat) (A' : Option Addr) (n' c' : Nat) (x y z : Int) : Prop :=
  Below w.heap.size w wr ∧ BoxAt wr w.heap.size A n c A' n' c' ∧ M0 wr (w.heap.size + 1) 0 0 0 ∧ M0 wr mb x y z ∧ w.heap.size + 1 < mb ∧ mb < wr.heap.size
theorem OSt.step {w wr wx : World} {mb : Nat} {A : Option Addr} {n c : Nat} {A' : Option Addr} {n' c' : Nat} {x y z : Int} (h : OSt w wr mb A n c A' n' c' x y z) (hb : Below wr.heap.size wr wx) : OSt w wx mb A n c A' n' c' x y z := by
  obtain ⟨h1, h2, h3, h4, h5, h6⟩ := h
  exact ⟨Below.andThen h1 hb, h2.below hb (by omega), m0_block h3 (hb.block _ (by omega)), m0_block h4 (hb.block _ h6), h5, Nat.lt_of_lt_of_le h6 hb.size⟩
theorem OSt.drew {w wr : World} {mb : Nat} {A : Option Addr} {n c : Nat} {A' : Option Addr} {n' c' : Nat} {x y z : Int} (h : OSt w wr mb A n c A' n' c' x y z) : OSt w wr.drew mb A n c A' n' c' x y z :=
  ⟨h.1.drew, h.2.1, h.2.2.1, h.2.2.2.1, h.2.2.2.2⟩
def OSt0 (w wr : World) (A : Option Addr) (n c : Nat) (A' : Option Addr) (n' c' : Nat) : Prop :=
  Below w.heap.size w wr ∧ BoxAt wr w.heap.size A n c A' n' c' ∧ M0 wr (w.heap.size + 1) 0 0 0 ∧ w.heap.size + 2 ≤ wr.heap.size
theorem OSt0.step {w wr wx : World} {A : Option Addr} {n c : Nat} {A' : Option Addr} {n' c' : Nat} (h : OSt0 w wr A n c A' n' c') (hb : Below wr.heap.size wr wx) : OSt0 w wx A n c A' n' c' := by
  obtain ⟨h1, h2, h3, h4⟩ := h
  exact ⟨Below.andThen h1 hb, h2.below hb (by omega), m0_block h3 (hb.block _ (by omega)), Nat.le_trans h4 hb.size⟩
theorem OSt0.mask {w wr : World} {A : Option Addr} {n c : Nat} {A' : Option Addr} {n' c' : Nat} (h : OSt0 w wr A n c A' n' c') (x y z : Int) : OSt w (wr.alloc (.cells #[.int .i64 x, .int .i64 y, .int .i64 z] 215)) wr.heap.size A n c A' n' c' x y z := by
  obtain ⟨h1, h2, h3, h4⟩ := h.step (below_alloc wr (.cells #[.int .i64 x, .int .i64 y, .int .i64 z] 215))
  exact ⟨h1, h2, h3, m0_at (heap_at _ _ _ rfl), by have := h.2.2.2; omega, by simp⟩
/-! ### Of -/
end Go.Proofs.YtpgkfccfabnjdaaGreatDoor
