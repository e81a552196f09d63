import Derived.Test.YtdpbcfjhljgicaaGreatDoorM01
import Derived.Test.YtdpbcfjhljgicaaGreatDoorM04
import Derived.BigQuiet
import Derived.Lib.Mul64
import Derived.Laws.Bits64b
import Derived.Deep.Cut
import Derived.Deep.RegionHeld
import Derived.Shelf.Abstract
import Derived.BigRegion
/-
  CONTRACTS of package box, first part: alike, Right, isEmpty, Empty, sum, product, difference.
-/
namespace Go.Proofs.YtdpbcfjhljgicaaGreatDoor
open Go.ChangeShapes Go.WideShapes Go.ChangeAt Go.RowKit

/-- a box as a value -/
abbrev boxV (A : Option Addr) (n c : Nat) (A' : Option Addr) (n' c' : Nat) : Value := .agg #[.slice A n c, .slice A' n' c']
/-- block b holds the box -/
def BoxAt (w : World) (b : Nat) (A : Option Addr) (n c : Nat) (A' : Option Addr) (n' c' : Nat) : Prop :=
  w.cell? ⟨b, 0, none⟩ = some (.slice A n c) ∧ w.cell? ⟨b, 1, none⟩ = some (.slice A' n' c')
theorem boxAt_new (w : World) (A : Option Addr) (n c : Nat) (A' : Option Addr) (n' c' : Nat) : BoxAt (w.alloc (.cells #[.slice A n c, .slice A' n' c'] 25)) w.heap.size A n c A' n' c' :=
  ⟨by rw [World.cell?_alloc_new]; rfl, by rw [World.cell?_alloc_new]; rfl⟩
theorem BoxAt.below {w w' : World} {b C : Nat} {A : Option Addr} {n c : Nat} {A' : Option Addr} {n' c' : Nat} (h : BoxAt w b A n c A' n' c') (hb : Below C w w') (hC : b < C) : BoxAt w' b A n c A' n' c' :=
  ⟨(hb.cell (p := ⟨b, 0, none⟩) hC).trans h.1, (hb.cell (p := ⟨b, 1, none⟩) hC).trans h.2⟩

/-! ### alike -/
theorem balike_c (A A' : Option Addr) (n c n' c' : Nat) (w : World) (hn : n ≤ maxLen) :
    Calls Tryz.prog 143 #[.slice A n c, .slice A' n' c'] w fun e w' => e = .returned (.bool (decide ((1 ≤ n ∧ n ≤ 16) ∧ n = n'))) ∧ w = w' := by
  by_cases h : 1 ≤ n ∧ n ≤ 16
  · obtain ⟨h1, h2⟩ := h
    unfold maxLen at hn
    go_enter Tryz.func143, Tryz.ntmps143
    go_wp2_with (go_at_call 112; refine (right_yes _ _ _ _ h1 h2).mono ?_; rintro e w' ⟨rfl, rfl⟩)
    all_goals go_ret
    all_goals refine ⟨ret_bool ?_, rfl⟩
    all_goals rw [Bool.eq_iff_iff]
    all_goals simp
    all_goals omega
  · have Hn := Lib.hid hn
    have H := Lib.hid h
    clear h
    unfold maxLen at hn
    go_enter Tryz.func143, Tryz.ntmps143
    go_wp2_with (go_at_call 112; refine (right_no _ _ _ _ Hn.out H.out).mono ?_; rintro e w' ⟨rfl, rfl⟩)
    all_goals go_ret
    all_goals refine ⟨ret_bool ?_, rfl⟩
    have := H.out
    rw [Bool.eq_iff_iff]
    simp
    omega
theorem balike_yes (A A' : Option Addr) (n c n' c' : Nat) (w : World) (h1 : 1 ≤ n) (h16 : n ≤ 16) (h : n = n') :
    Calls Tryz.prog 143 #[.slice A n c, .slice A' n' c'] w fun e w' => e = .returned (.bool true) ∧ w = w' :=
  (balike_c A A' n c n' c' w (by unfold maxLen; omega)).mono fun _ _ ⟨he, hw⟩ => ⟨by rw [he, decide_eq_true ⟨⟨h1, h16⟩, h⟩], hw⟩
/-! ### Right -/
theorem bright_yes (A A' : Option Addr) (n c n' c' : Nat) (w : World) (h1 : 1 ≤ n) (h16 : n ≤ 16) (h : n = n') :
    Calls Tryz.prog 91 #[boxV A n c A' n' c'] w fun e w' => e = .returned (.bool true) ∧ w' = w.alloc (.cells #[.slice A n c, .slice A' n' c'] 25) := by
  have H := Lib.hid h
  clear h
  go_enter Tryz.func91, Tryz.ntmps91
  go_wp2_with (go_at_call 143; refine (balike_yes _ _ _ _ _ _ _ h1 h16 H.out).mono ?_; rintro e w' ⟨rfl, rfl⟩)
  go_ret
  exact ⟨rfl, rfl⟩
/-! ### sum, product, difference -/
end Go.Proofs.YtdpbcfjhljgicaaGreatDoor

/-
  CONTRACTS of package box, second part: isEmpty, Empty, Volume.
-/
namespace Go.Proofs.YtdpbcfjhljgicaaGreatDoor
open Go.ChangeShapes Go.WideShapes Go.ChangeAt Go.RowKit

/-- a point that can be read, not empty: its cells -/
theorem Pts.at {w : World} {B : Nat} {A : Option Addr} {us : List Nat} (h : Pts w B A us) (h1 : 1 ≤ us.length) :
    ∃ b off, A = some ⟨b, off, none⟩ ∧ b < B ∧ ∀ i, i < us.length → w.cell? ⟨b, off + i, none⟩ = some (.int .u64 (Bx.g us i : Int)) := by
  obtain ⟨b, off, hA, hb, hc⟩ := h.open_ (by rintro rfl; simp at h1)
  exact ⟨b, off, hA, hb, fun i hi => hc i _ (Bx.g_get hi)⟩

/-! ### the same, said of what is left of the world -/
theorem bright_y (A A' : Option Addr) (n c n' c' : Nat) (w : World) (h1 : 1 ≤ n) (h16 : n ≤ 16) (h : n = n') :
    Calls Tryz.prog 91 #[boxV A n c A' n' c'] w fun e w' => e = .returned (.bool true) ∧ Below w.heap.size w w' :=
  (bright_yes A A' n c n' c' w h1 h16 h).mono fun _ _ ⟨he, hw⟩ => ⟨he, by rw [hw]; exact below_alloc _ _⟩
/-! ### Empty -/
/-! ### Volume -/
end Go.Proofs.YtdpbcfjhljgicaaGreatDoor

/-
  CONTRACTS of package box, fourth part: boxOf, whatever function tells the ends.
-/
namespace Go.Proofs.YtdpbcfjhljgicaaGreatDoor
open Go.ChangeShapes Go.WideShapes Go.ChangeAt Go.RowKit

/-- block b holds x and y, and may be written -/
def Bx0 (w : World) (b : Nat) (x y : Value) : Prop := w.cell? ⟨b, 0, none⟩ = some x ∧ w.cell? ⟨b, 1, none⟩ = some y ∧ w.frozen? ⟨b, 0, none⟩ = false ∧ w.frozen? ⟨b, 1, none⟩ = false
theorem bx0_at {w : World} {b : Nat} {x y : Value} {e : TypeId} (h : w.heap[b]? = some (.cells #[x, y] e (0, 0))) : Bx0 w b x y :=
  ⟨by rw [cell_of_row w b _ _ e (0, 0) h]; rfl, by rw [cell_of_row w b _ _ e (0, 0) h]; rfl, frozen_of_row w b _ _ e h, frozen_of_row w b _ _ e h⟩
theorem bx0_block {w w' : World} {b : Nat} {x y : Value} (h : Bx0 w b x y) (hb : w'.heap[b]? = w.heap[b]?) : Bx0 w' b x y :=
  ⟨(World.cell?_of_block (w := w) (a := ⟨b, 0, none⟩) hb).trans h.1, (World.cell?_of_block (w := w) (a := ⟨b, 1, none⟩) hb).trans h.2.1, (World.frozen?_of_block (w := w) (a := ⟨b, 0, none⟩) hb).trans h.2.2.1, (World.frozen?_of_block (w := w) (a := ⟨b, 1, none⟩) hb).trans h.2.2.2⟩
theorem bx0_two {w : World} {b : Nat} {u v : Value} (h : Bx0 w b u v) (x y : Value) :
    ((w.setCell ⟨b, 0, none⟩ x).setCell ⟨b, 1, none⟩ y).cell? ⟨b, 0, none⟩ = some x ∧ ((w.setCell ⟨b, 0, none⟩ x).setCell ⟨b, 1, none⟩ y).cell? ⟨b, 1, none⟩ = some y := by
  have h1 : (w.setCell ⟨b, 0, none⟩ x).cell? ⟨b, 1, none⟩ = some v := by rw [World.cell?_setCell_other _ _ _ _ (by simp)]; exact h.2.1
  refine ⟨?_, World.cell?_setCell_same _ _ _ h1⟩
  rw [World.cell?_setCell_other _ _ _ _ (by simp)]
  exact World.cell?_setCell_same _ _ _ h.1
end Go.Proofs.YtdpbcfjhljgicaaGreatDoor

/-
  CONTRACTS of package pantileref03 (the document's answers for layer 3), first part: Right, Empty, In, Volume, Far.
-/
namespace Go.Proofs.YtdpbcfjhljgicaaGreatDoor
open Go.ChangeShapes Go.WideShapes Go.ChangeAt Go.RowKit

/-! ### Right -/
theorem r3right_y (A A' : Option Addr) (n c n' c' : Nat) (w : World) (h1 : 1 ≤ n) (h16 : n ≤ 16) (h : n = n') :
    Calls Tryz.prog 19 #[boxV A n c A' n' c'] w fun e w' => e = .returned (.bool true) ∧ Below w.heap.size w w' := by
  have H := Lib.hid h
  clear h
  go_enter Tryz.func19, Tryz.ntmps19
  go_wp2_with (go_at_call 46; refine (ralike_yes _ _ _ _ _ _ _ h1 h16 H.out).mono ?_; rintro e w' ⟨rfl, rfl⟩)
  go_ret
  exact ⟨rfl, below_alloc _ _⟩
theorem r3right_n (A A' : Option Addr) (n c n' c' : Nat) (w : World) (hn : n ≤ maxLen) (h : ¬ ((1 ≤ n ∧ n ≤ 16) ∧ n = n')) :
    Calls Tryz.prog 19 #[boxV A n c A' n' c'] w fun e w' => e = .returned (.bool false) ∧ Below w.heap.size w w' := by
  have H := Lib.hid h
  have Hn := Lib.hid hn
  clear h hn
  go_enter Tryz.func19, Tryz.ntmps19
  go_wp2_with (go_at_call 46; refine (ralike_no _ _ _ _ _ _ _ Hn.out H.out).mono ?_; rintro e w' ⟨rfl, rfl⟩)
  go_ret
  exact ⟨rfl, below_alloc _ _⟩

/-! ### Empty -/
/-! ### In -/
/-! ### Far -/
end Go.Proofs.YtdpbcfjhljgicaaGreatDoor
