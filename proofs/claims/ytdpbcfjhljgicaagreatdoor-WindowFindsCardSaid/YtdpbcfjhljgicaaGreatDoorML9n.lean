import Derived.Test.YtdpbcfjhljgicaaGreatDoorM62
/-
  THE LAW WindowNil.
-/
namespace Go.Proofs.YtdpbcfjhljgicaaGreatDoor
open Go.ChangeShapes Go.WideShapes Go.ChangeAt Go.RowKit
open Tr (T S4 Ent)

set_option maxRecDepth 100000 in
theorem wbig_c (A : Option Addr) (n c : Nat) (A' : Option Addr) (n' c' : Nat) (w : World) (r : Bool) (hr : decide (40 < n ∨ 40 < n') = r) :
    Calls Tryz.prog 14 #[boxV A n c A' n' c'] w fun e w' => e = .returned (.bool r) ∧ Below w.heap.size w w' := by
  by_cases h1 : 40 < n
  · have d1 : decide ((40 : Int) < (n : Int)) = true := decide_eq_true (by omega)
    have d1' : decide (40 < n) = true := decide_eq_true h1
    have hr : r = true := by rw [← hr]; exact decide_eq_true (.inl h1)
    subst hr
    go_enter Tryz.func14, Tryz.ntmps14
    go_wp2_with fail
    go_ret
    exact ⟨rfl, below_alloc _ _⟩
  · have d1 : decide ((40 : Int) < (n : Int)) = false := decide_eq_false (by omega)
    have d1' : decide (40 < n) = false := decide_eq_false h1
    have d2 : decide ((40 : Int) < (n' : Int)) = r := by rw [← hr]; simp only [decide_eq_decide]; omega
    have d2' : decide (40 < n') = r := by rw [← hr]; simp only [decide_eq_decide]; omega
    clear hr h1
    go_enter Tryz.func14, Tryz.ntmps14
    go_wp2_with fail
    go_ret
    exact ⟨by first | rfl | rw [d2'] | rw [d2], below_alloc _ _⟩
theorem windowNil_big {w : World} (hT : Tz w) (A : Option Addr) (n c : Nat) (A' : Option Addr) (n' c' : Nat) (m : Int) (h : 40 < n ∨ 40 < n') :
    Calls Tryz.prog 5 #[boxV A n c A' n' c', .int .i64 m] w fun e w' => e = .returned (.bool true) ∧ Below w.heap.size w w' := by
  have HB := Lib.hid fun w1 : World => wbig_c A n c A' n' c' w1 true (decide_eq_true h)
  have HT := Lib.hid fun w1 (hb : Below w.heap.size w w1) => awake9_c w1 (hT.on hb)
  clear hT h
  have hbx : (w.alloc (.cells #[.slice A n c, .slice A' n' c'] 25)).heap[w.heap.size]? = some (.cells #[.slice A n c, .slice A' n' c'] 25 (0, 0)) := heap_at w _ _ rfl
  go_enter Tryz.func5, Tryz.ntmps5
  go_wp2_with (first
    | (go_at_call 12; refine (HT.out _ (by ((repeat (first | refine Below.drew ?_ | (with_reducible refine below_drewN _ ?_) | refine Below.alloc ?_ (by first | omega | (simp; done) | (simp; omega)) _ | refine Below.setCell ?_ (by first | omega | (simp; done) | (simp; omega)) _)); first | exact Below.refl _ _ | assumption | exact below_drewN _ (Below.refl _ _) | exact below_drewN _ (below_drewN _ (Below.refl _ _))))).mono ?_; rintro e w1 ⟨rfl, hb1⟩; have hbx1 := (hb1.block w.heap.size (by simp)).trans hbx; obtain ⟨c0, c1, -, -⟩ := box_cells hbx1)
    | (go_at_call 14; refine (HB.out _).mono ?_; rintro e w2 ⟨rfl, hb2⟩))
  go_ret
  exact ⟨rfl, Below.andThen (below_alloc w _) (Below.andThen hb1 hb2)⟩
set_option maxRecDepth 100000 in
set_option maxHeartbeats 4000000 in
theorem windowNil_go {w : World} (hT : Tz w) (A : Option Addr) (n c : Nat) (A' : Option Addr) (n' c' : Nat) (m : Int) (h : ¬ (40 < n ∨ 40 < n')) :
    Calls Tryz.prog 5 #[boxV A n c A' n' c', .int .i64 m] w fun e w' => e = .returned (.bool true) ∧ Below w.heap.size w w' := by
  have HB := Lib.hid fun w1 : World => wbig_c A n c A' n' c' w1 false (decide_eq_false h)
  have HT := Lib.hid fun w1 (hb : Below w.heap.size w w1) => awake9_c w1 (hT.on hb)
  clear hT h
  obtain ⟨W, hW⟩ : ∃ W, W = w.alloc (.cells #[.slice A n c, .slice A' n' c'] 25) := ⟨_, rfl⟩
  have hbw : Below w.heap.size w W := by rw [hW]; exact below_alloc _ _
  have HC : Hid (∀ w1, Below W.heap.size W w1 → w1.heap[w.heap.size]? = some (.cells #[.slice A n c, .slice A' n' c'] 25 (0, 0))) := Lib.hid fun w1 hb => (hb.block w.heap.size (by rw [hW]; simp)).trans (by rw [hW]; exact heap_at w _ _ rfl)
  obtain ⟨c0, c1, -, -⟩ := box_cells (HC.out W (Below.refl _ _))
  have hB := Below.refl W.heap.size W
  go_enter Tryz.func5, Tryz.ntmps5
  go_upto_region 1 with fail
  rw [← hW]
  have HW := Lib.hid (And.intro hW hbw)
  clear hW hbw
  go_upto_region 8 with (first
    | (go_at_call 12; refine (HT.out _ (HW.out.2)).mono ?_; rintro e w1 ⟨rfl, hb1⟩; have hB1 := hB.trans (hb1.mono hB.size); clear hB c0 c1; obtain ⟨c0, c1, -, -⟩ := box_cells (HC.out _ hB1))
    | (go_at_call 14; refine (HB.out _).mono ?_; rintro e w2 ⟨rfl, hb2⟩; have hB2 := hB1.trans (hb2.mono hB1.size); clear hB1 c0 c1; obtain ⟨c0, c1, -, -⟩ := box_cells (HC.out _ hB2))
    | (go_at_call 16; refine (wfind_no (refd_nil _ _ _ _ _ _ _) (by decide)).mono ?_; rintro e w3 ⟨rfl, hb3⟩; have hB3 := hB2.trans (hb3.mono hB2.size); clear hB2 c0 c1; obtain ⟨c0, c1, -, -⟩ := box_cells (HC.out _ hB3))
    | (go_at_call 17; refine (wsome_no (refd_nil _ _ _ _ _ _ _) (by decide) _).mono ?_; rintro e w4 ⟨rfl, hb4⟩; have hB4 := hB3.trans (hb4.mono hB3.size); clear hB3 c0 c1; obtain ⟨c0, c1, -, -⟩ := box_cells (HC.out _ hB4))
    | (go_at_call 18; refine (wsums_no (refd_nil _ _ _ _ _ _ _) (by decide)).mono ?_; rintro e w5 ⟨rfl, hb5⟩; have hB5 := hB4.trans (hb5.mono hB4.size); clear hB4 c0 c1; obtain ⟨c0, c1, -, -⟩ := box_cells (HC.out _ hB5)))
  have hq : ∀ (a b c d : Int), (w5.alloc (.cells #[.int .u64 a, .int .u64 b, .int .u64 c, .int .u64 d] 40)).heap[w5.heap.size]? = some (.cells #[.int .u64 a, .int .u64 b, .int .u64 c, .int .u64 d] 40 (0, 0)) := fun a b c d => heap_at w5 _ _ rfl
  have hb6 : ∀ ob, Below W.heap.size W (w5.alloc ob) := fun ob => hB5.trans ((below_alloc w5 ob).mono hB5.size)
  have hq0 := hq 0 0 0 0
  have h6 := hb6 (.cells #[.int .u64 0, .int .u64 0, .int .u64 0, .int .u64 0] 40)
  obtain ⟨W6, hW6⟩ : ∃ W6, W6 = w5.alloc (.cells #[.int .u64 0, .int .u64 0, .int .u64 0, .int .u64 0] 40) := ⟨_, rfl⟩
  rw [show w5.alloc (.cells #[.int .u64 (Tr.s0.c : Int), .int .u64 (Tr.s0.s : Int), .int .u64 (Tr.s0.lo : Int), .int .u64 (Tr.s0.hi : Int)] 40) = W6 from hW6.symm]
  rw [← hW6] at hq0 h6
  clear hq hb6 hW6 hB5 c0 c1
  generalize w5.heap.size = g at *
  obtain ⟨c0, c1, -, -⟩ := box_cells (HC.out _ h6)
  go_upto_region 10 with (first
    | (go_at_call 23; refine (wclear_no (refd_nil _ _ _ _ _ _ _) (by decide)).mono ?_; rintro e w7 ⟨rfl, hb7⟩; have h7 := h6.trans (hb7.mono h6.size); clear h6 c0 c1; have hq7 := (hb7.block g (Array.getElem?_eq_some_iff.1 hq0).1).trans hq0; obtain ⟨c0, c1, -, -⟩ := box_cells (HC.out _ h7))
    | (go_at_call 24; refine (wkeep_no (refd_nil _ _ _ _ _ _ _) (by decide)).mono ?_; rintro e w8 ⟨rfl, hb8⟩; have h8 := h7.trans (hb8.mono h7.size); clear h7 c0 c1; have hq8 := (hb8.block g (Array.getElem?_eq_some_iff.1 hq7).1).trans hq7))
  have q0 : w8.cell? ⟨g, 0, none⟩ = some (.int .u64 0) := by rw [cell_of_row w8 g _ _ _ (0, 0) hq8]; rfl
  have q1 : w8.cell? ⟨g, 1, none⟩ = some (.int .u64 0) := by rw [cell_of_row w8 g _ _ _ (0, 0) hq8]; rfl
  have q2 : w8.cell? ⟨g, 2, none⟩ = some (.int .u64 0) := by rw [cell_of_row w8 g _ _ _ (0, 0) hq8]; rfl
  have q3 : w8.cell? ⟨g, 3, none⟩ = some (.int .u64 0) := by rw [cell_of_row w8 g _ _ _ (0, 0) hq8]; rfl
  have HF := Lib.hid (HW.out.2.trans (h8.mono HW.out.2.size))
  clear hq0 hq7 hq8 h8 HC HB HT
  go_wp2_with fail
  go_ret
  exact ⟨rfl, HF.out⟩
theorem windowNil_c {w : World} (hT : Tz w) (A : Option Addr) (n c : Nat) (A' : Option Addr) (n' c' : Nat) (m : Int) :
    Calls Tryz.prog 5 #[boxV A n c A' n' c', .int .i64 m] w fun e w' => e = .returned (.bool true) ∧ Below w.heap.size w w' := by
  by_cases h : 40 < n ∨ 40 < n'
  · exact windowNil_big hT A n c A' n' c' m h
  · exact windowNil_go hT A n c A' n' c' m h
end Go.Proofs.YtdpbcfjhljgicaaGreatDoor
