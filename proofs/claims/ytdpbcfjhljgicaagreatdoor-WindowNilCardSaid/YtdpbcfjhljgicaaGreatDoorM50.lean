import Derived.Test.YtdpbcfjhljgicaaGreatDoorM01
import Derived.Test.YtdpbcfjhljgicaaGreatDoorM04
import Derived.BigQuiet
import Derived.Lib.Mul64
import Derived.Laws.Bits64b
import Derived.Deep.Cut
import Derived.Deep.RegionHeld
import Derived.Shelf.Abstract
import Derived.BigRegion
/-
  CONTRACTS of package box, first part: alike, Right, isEmpty, Empty, sum, product, difference.
-/
namespace Go.Proofs.YtdpbcfjhljgicaaGreatDoor
open Go.ChangeShapes Go.WideShapes Go.ChangeAt Go.RowKit

/-- a box as a value -/
abbrev boxV (A : Option Addr) (n c : Nat) (A' : Option Addr) (n' c' : Nat) : Value := .agg #[.slice A n c, .slice A' n' c']
/-- block b holds the box -/
def BoxAt (w : World) (b : Nat) (A : Option Addr) (n c : Nat) (A' : Option Addr) (n' c' : Nat) : Prop :=
  w.cell? ⟨b, 0, none⟩ = some (.slice A n c) ∧ w.cell? ⟨b, 1, none⟩ = some (.slice A' n' c')
theorem boxAt_new (w : World) (A : Option Addr) (n c : Nat) (A' : Option Addr) (n' c' : Nat) : BoxAt (w.alloc (.cells #[.slice A n c, .slice A' n' c'] 25)) w.heap.size A n c A' n' c' :=
  ⟨by rw [World.cell?_alloc_new]; rfl, by rw [World.cell?_alloc_new]; rfl⟩
theorem BoxAt.below {w w' : World} {b C : Nat} {A : Option Addr} {n c : Nat} {A' : Option Addr} {n' c' : Nat} (h : BoxAt w b A n c A' n' c') (hb : Below C w w') (hC : b < C) : BoxAt w' b A n c A' n' c' :=
  ⟨(hb.cell (p := ⟨b, 0, none⟩) hC).trans h.1, (hb.cell (p := ⟨b, 1, none⟩) hC).trans h.2⟩

/-! ### alike -/
theorem balike_c (A A' : Option Addr) (n c n' c' : Nat) (w : World) (hn : n ≤ maxLen) :
    Calls Tryz.prog 143 #[.slice A n c, .slice A' n' c'] w fun e w' => e = .returned (.bool (decide ((1 ≤ n ∧ n ≤ 16) ∧ n = n'))) ∧ w = w' := by
  by_cases h : 1 ≤ n ∧ n ≤ 16
  · obtain ⟨h1, h2⟩ := h
    unfold maxLen at hn
    go_enter Tryz.func143, Tryz.ntmps143
    go_wp2_with (go_at_call 112; refine (right_yes _ _ _ _ h1 h2).mono ?_; rintro e w' ⟨rfl, rfl⟩)
    all_goals go_ret
    all_goals refine ⟨ret_bool ?_, rfl⟩
    all_goals rw [Bool.eq_iff_iff]
    all_goals simp
    all_goals omega
  · have Hn := Lib.hid hn
    have H := Lib.hid h
    clear h
    unfold maxLen at hn
    go_enter Tryz.func143, Tryz.ntmps143
    go_wp2_with (go_at_call 112; refine (right_no _ _ _ _ Hn.out H.out).mono ?_; rintro e w' ⟨rfl, rfl⟩)
    all_goals go_ret
    all_goals refine ⟨ret_bool ?_, rfl⟩
    have := H.out
    rw [Bool.eq_iff_iff]
    simp
    omega
theorem balike_yes (A A' : Option Addr) (n c n' c' : Nat) (w : World) (h1 : 1 ≤ n) (h16 : n ≤ 16) (h : n = n') :
    Calls Tryz.prog 143 #[.slice A n c, .slice A' n' c'] w fun e w' => e = .returned (.bool true) ∧ w = w' :=
  (balike_c A A' n c n' c' w (by unfold maxLen; omega)).mono fun _ _ ⟨he, hw⟩ => ⟨by rw [he, decide_eq_true ⟨⟨h1, h16⟩, h⟩], hw⟩
theorem balike_no (A A' : Option Addr) (n c n' c' : Nat) (w : World) (hn : n ≤ maxLen) (h : ¬ ((1 ≤ n ∧ n ≤ 16) ∧ n = n')) :
    Calls Tryz.prog 143 #[.slice A n c, .slice A' n' c'] w fun e w' => e = .returned (.bool false) ∧ w = w' :=
  (balike_c A A' n c n' c' w hn).mono fun _ _ ⟨he, hw⟩ => ⟨by rw [he, decide_eq_false h], hw⟩

/-! ### Right -/
theorem bright_yes (A A' : Option Addr) (n c n' c' : Nat) (w : World) (h1 : 1 ≤ n) (h16 : n ≤ 16) (h : n = n') :
    Calls Tryz.prog 91 #[boxV A n c A' n' c'] w fun e w' => e = .returned (.bool true) ∧ w' = w.alloc (.cells #[.slice A n c, .slice A' n' c'] 25) := by
  have H := Lib.hid h
  clear h
  go_enter Tryz.func91, Tryz.ntmps91
  go_wp2_with (go_at_call 143; refine (balike_yes _ _ _ _ _ _ _ h1 h16 H.out).mono ?_; rintro e w' ⟨rfl, rfl⟩)
  go_ret
  exact ⟨rfl, rfl⟩
theorem bright_no (A A' : Option Addr) (n c n' c' : Nat) (w : World) (hn : n ≤ maxLen) (h : ¬ ((1 ≤ n ∧ n ≤ 16) ∧ n = n')) :
    Calls Tryz.prog 91 #[boxV A n c A' n' c'] w fun e w' => e = .returned (.bool false) ∧ w' = w.alloc (.cells #[.slice A n c, .slice A' n' c'] 25) := by
  have H := Lib.hid h
  have Hn := Lib.hid hn
  clear h hn
  go_enter Tryz.func91, Tryz.ntmps91
  go_wp2_with (go_at_call 143; refine (balike_no _ _ _ _ _ _ _ Hn.out H.out).mono ?_; rintro e w' ⟨rfl, rfl⟩)
  go_ret
  exact ⟨rfl, rfl⟩

/-! ### sum, product, difference -/
end Go.Proofs.YtdpbcfjhljgicaaGreatDoor

/-
  CONTRACTS of package box, second part: isEmpty, Empty, Volume.
-/
namespace Go.Proofs.YtdpbcfjhljgicaaGreatDoor
open Go.ChangeShapes Go.WideShapes Go.ChangeAt Go.RowKit

/-- a point that can be read, not empty: its cells -/
theorem Pts.at {w : World} {B : Nat} {A : Option Addr} {us : List Nat} (h : Pts w B A us) (h1 : 1 ≤ us.length) :
    ∃ b off, A = some ⟨b, off, none⟩ ∧ b < B ∧ ∀ i, i < us.length → w.cell? ⟨b, off + i, none⟩ = some (.int .u64 (Bx.g us i : Int)) := by
  obtain ⟨b, off, hA, hb, hc⟩ := h.open_ (by rintro rfl; simp at h1)
  exact ⟨b, off, hA, hb, fun i hi => hc i _ (Bx.g_get hi)⟩

/-! ### the same, said of what is left of the world -/
theorem bright_y (A A' : Option Addr) (n c n' c' : Nat) (w : World) (h1 : 1 ≤ n) (h16 : n ≤ 16) (h : n = n') :
    Calls Tryz.prog 91 #[boxV A n c A' n' c'] w fun e w' => e = .returned (.bool true) ∧ Below w.heap.size w w' :=
  (bright_yes A A' n c n' c' w h1 h16 h).mono fun _ _ ⟨he, hw⟩ => ⟨he, by rw [hw]; exact below_alloc _ _⟩
theorem bright_n (A A' : Option Addr) (n c n' c' : Nat) (w : World) (hn : n ≤ maxLen) (h : ¬ ((1 ≤ n ∧ n ≤ 16) ∧ n = n')) :
    Calls Tryz.prog 91 #[boxV A n c A' n' c'] w fun e w' => e = .returned (.bool false) ∧ Below w.heap.size w w' :=
  (bright_no A A' n c n' c' w hn h).mono fun _ _ ⟨he, hw⟩ => ⟨he, by rw [hw]; exact below_alloc _ _⟩
/-! ### Empty -/
/-! ### Volume -/
end Go.Proofs.YtdpbcfjhljgicaaGreatDoor

/-
  CONTRACTS of package box, fourth part: boxOf, whatever function tells the ends.
-/
namespace Go.Proofs.YtdpbcfjhljgicaaGreatDoor
open Go.ChangeShapes Go.WideShapes Go.ChangeAt Go.RowKit

/-- block b holds x and y, and may be written -/
def Bx0 (w : World) (b : Nat) (x y : Value) : Prop := w.cell? ⟨b, 0, none⟩ = some x ∧ w.cell? ⟨b, 1, none⟩ = some y ∧ w.frozen? ⟨b, 0, none⟩ = false ∧ w.frozen? ⟨b, 1, none⟩ = false
theorem bx0_at {w : World} {b : Nat} {x y : Value} {e : TypeId} (h : w.heap[b]? = some (.cells #[x, y] e (0, 0))) : Bx0 w b x y :=
  ⟨by rw [cell_of_row w b _ _ e (0, 0) h]; rfl, by rw [cell_of_row w b _ _ e (0, 0) h]; rfl, frozen_of_row w b _ _ e h, frozen_of_row w b _ _ e h⟩
theorem bx0_block {w w' : World} {b : Nat} {x y : Value} (h : Bx0 w b x y) (hb : w'.heap[b]? = w.heap[b]?) : Bx0 w' b x y :=
  ⟨(World.cell?_of_block (w := w) (a := ⟨b, 0, none⟩) hb).trans h.1, (World.cell?_of_block (w := w) (a := ⟨b, 1, none⟩) hb).trans h.2.1, (World.frozen?_of_block (w := w) (a := ⟨b, 0, none⟩) hb).trans h.2.2.1, (World.frozen?_of_block (w := w) (a := ⟨b, 1, none⟩) hb).trans h.2.2.2⟩
theorem bx0_two {w : World} {b : Nat} {u v : Value} (h : Bx0 w b u v) (x y : Value) :
    ((w.setCell ⟨b, 0, none⟩ x).setCell ⟨b, 1, none⟩ y).cell? ⟨b, 0, none⟩ = some x ∧ ((w.setCell ⟨b, 0, none⟩ x).setCell ⟨b, 1, none⟩ y).cell? ⟨b, 1, none⟩ = some y := by
  have h1 : (w.setCell ⟨b, 0, none⟩ x).cell? ⟨b, 1, none⟩ = some v := by rw [World.cell?_setCell_other _ _ _ _ (by simp)]; exact h.2.1
  refine ⟨?_, World.cell?_setCell_same _ _ _ h1⟩
  rw [World.cell?_setCell_other _ _ _ _ (by simp)]
  exact World.cell?_setCell_same _ _ _ h.1
end Go.Proofs.YtdpbcfjhljgicaaGreatDoor

/-
  CONTRACTS of package pantileref03 (the document's answers for layer 3), first part: Right, Empty, In, Volume, Far.
-/
namespace Go.Proofs.YtdpbcfjhljgicaaGreatDoor
open Go.ChangeShapes Go.WideShapes Go.ChangeAt Go.RowKit

/-! ### Right -/
theorem r3right_y (A A' : Option Addr) (n c n' c' : Nat) (w : World) (h1 : 1 ≤ n) (h16 : n ≤ 16) (h : n = n') :
    Calls Tryz.prog 19 #[boxV A n c A' n' c'] w fun e w' => e = .returned (.bool true) ∧ Below w.heap.size w w' := by
  have H := Lib.hid h
  clear h
  go_enter Tryz.func19, Tryz.ntmps19
  go_wp2_with (go_at_call 46; refine (ralike_yes _ _ _ _ _ _ _ h1 h16 H.out).mono ?_; rintro e w' ⟨rfl, rfl⟩)
  go_ret
  exact ⟨rfl, below_alloc _ _⟩
theorem r3right_n (A A' : Option Addr) (n c n' c' : Nat) (w : World) (hn : n ≤ maxLen) (h : ¬ ((1 ≤ n ∧ n ≤ 16) ∧ n = n')) :
    Calls Tryz.prog 19 #[boxV A n c A' n' c'] w fun e w' => e = .returned (.bool false) ∧ Below w.heap.size w w' := by
  have H := Lib.hid h
  have Hn := Lib.hid hn
  clear h hn
  go_enter Tryz.func19, Tryz.ntmps19
  go_wp2_with (go_at_call 46; refine (ralike_no _ _ _ _ _ _ _ Hn.out H.out).mono ?_; rintro e w' ⟨rfl, rfl⟩)
  go_ret
  exact ⟨rfl, below_alloc _ _⟩

/-! ### Empty -/
/-! ### In -/
set_option maxRecDepth 100000 in
theorem r3in_c (A A' C : Option Addr) (c c' d : Nat) (lo hi us : List Nat) (B : Nat) (w : World) (r : Bool) (hr : Bx.isin lo hi us lo.length = r) (hp : Pts w B A lo) (hq : Pts w B A' hi) (hu : Pts w B C us) (hB : B ≤ w.heap.size) (h1 : 1 ≤ lo.length) (h16 : lo.length ≤ 16) (hlen : lo.length = hi.length) (hlen2 : lo.length = us.length) :
    Calls Tryz.prog 47 #[boxV A lo.length c A' hi.length c', .slice C us.length d] w fun e w' => e = .returned (.bool r) ∧ Below w.heap.size w w' := by
  have Hl := Lib.hid hlen
  have Hl2 := Lib.hid hlen2
  have Hr := Lib.hid hr
  have hbel := below_alloc w (.cells #[.slice A lo.length c, .slice A' hi.length c'] 25)
  have hbx := boxAt_new w A lo.length c A' hi.length c'
  have hp0 := hp.below' hbel hB
  have hq0 := hq.below' hbel hB
  have hu0 := hu.below' hbel hB
  have h2 : 1 ≤ hi.length := by omega
  have h26 : hi.length ≤ 16 := by omega
  have h3 : 1 ≤ us.length := by omega
  have h36 : us.length ≤ 16 := by omega
  have hlg := fun i => Bx.g_lt hp.ok i
  have hhg := fun i => Bx.g_lt hq.ok i
  have hug := fun i => Bx.g_lt hu.ok i
  obtain ⟨k0, k1⟩ := hbx
  obtain ⟨b, off, hA, hb, hc⟩ := hp0.at h1
  obtain ⟨b', off', hA', hb', hc'⟩ := hq0.at h2
  obtain ⟨b2, off2, hA2, hb2, hc2⟩ := hu0.at h3
  subst hA hA' hA2
  clear hlen hlen2 hr hp hq hu hp0 hq0 hu0
  go_enter Tryz.func47, Tryz.ntmps47
  go_wp2
  generalize hW : w.alloc _ = W at *
  go_loopw [5] (fun i wr => ∃ k : Nat, k ≤ us.length ∧ i = .int .i64 k ∧ Bx.isin lo hi us k = true ∧ ∃ nd, wr = W.drewN nd) (fun i _ => us.length - (intOf i).toNat)
  case atStart => exact ⟨0, Nat.zero_le _, rfl, rfl, 0, rfl⟩
  case round =>
    obtain ⟨k, hk, rfl, hin, nd, rfl⟩ := hrel
    have Hin := Lib.hid hin
    clear hin
    by_cases hlt : k < us.length
    · have hl1 : k < lo.length := by have := Hl2.out; omega
      have hl2 : k < hi.length := by have := Hl2.out; have := Hl.out; omega
      have hcell := hc k hl1
      have hcell' := hc' k hl2
      have hcell2 := hc2 k hlt
      have b1 := hlg k
      have b2 := hhg k
      have b3 := hug k
      clear hc hc' hc2 hlg hhg hug
      by_cases hok : Bx.g lo k ≤ Bx.g us k ∧ Bx.g us k ≤ Bx.g hi k
      · have hst : Hid (Bx.isin lo hi us (k + 1) = true) := Lib.hid (by simp [Bx.isin, Hin.out, hok.1, hok.2])
        generalize Bx.g lo k = x at *
        generalize Bx.g hi k = y at *
        generalize Bx.g us k = z at *
        obtain ⟨o1, o2⟩ := hok
        have d1 : decide ((z : Int) < (x : Int)) = false := decide_eq_false (by omega)
        have d2 : decide ((y : Int) < (z : Int)) = false := decide_eq_false (by omega)
        have d3 : decide (z < x) = false := decide_eq_false (by omega)
        have d4 : decide (y < z) = false := decide_eq_false (by omega)
        go_wp2
        go_quiet (fail)
        go_wp2
        go_roundw
        case rel => exact ⟨k + 1, by omega, by go_num, hst.out, _, rfl⟩
        case measure => simp [intOf]; omega
      · have hfin : Hid (r = false) := Lib.hid (by
          rw [← Hr.out]
          refine Bx.isin_at (j := k + 1) ?_ (by omega)
          rw [Bool.eq_false_iff]
          intro h
          have := Bx.isin_true.1 h k (by omega)
          exact hok this)
        by_cases hlow : Bx.g us k < Bx.g lo k
        · generalize Bx.g lo k = x at *
          generalize Bx.g hi k = y at *
          generalize Bx.g us k = z at *
          clear hok
          have d1 : decide ((z : Int) < (x : Int)) = true := decide_eq_true (by omega)
          have d3 : decide (z < x) = true := decide_eq_true (by omega)
          go_wp2
          go_quiet (fail)
          go_wp2
          go_ret
          exact ⟨by rw [hfin.out]; rfl, by first | exact below_drewN _ hbel | exact below_drewN _ (below_drewN _ hbel)⟩
        · have hhigh : Bx.g hi k < Bx.g us k := by omega
          generalize Bx.g lo k = x at *
          generalize Bx.g hi k = y at *
          generalize Bx.g us k = z at *
          clear hok
          have d1 : decide ((z : Int) < (x : Int)) = false := decide_eq_false (by omega)
          have d2 : decide ((y : Int) < (z : Int)) = true := decide_eq_true (by omega)
          have d3 : decide (z < x) = false := decide_eq_false (by omega)
          have d4 : decide (y < z) = true := decide_eq_true (by omega)
          go_wp2
          go_quiet (fail)
          go_wp2
          go_ret
          exact ⟨by rw [hfin.out]; rfl, by first | exact below_drewN _ hbel | exact below_drewN _ (below_drewN _ hbel)⟩
    · have hfin : Hid (r = true) := Lib.hid (by rw [← Hr.out, show lo.length = k by have := Hl2.out; omega]; exact Hin.out)
      clear hc hc' hc2 hlg hhg hug
      go_wp2
      go_ret
      exact ⟨by rw [hfin.out]; rfl, by first | exact below_drewN _ hbel | exact below_drewN _ (below_drewN _ hbel)⟩

/-! ### Far -/
end Go.Proofs.YtdpbcfjhljgicaaGreatDoor
