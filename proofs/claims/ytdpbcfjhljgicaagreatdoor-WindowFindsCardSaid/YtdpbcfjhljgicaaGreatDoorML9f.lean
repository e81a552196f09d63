import Derived.Test.YtdpbcfjhljgicaaGreatDoorML9n
import Derived.Test.YtdpbcfjhljgicaaGreatDoorM62
import Derived.Test.YtdpbcfjhljgicaaGreatDoorM35
/-
  THE LAW WindowFinds. Laid by wip/gen37.py.
-/
namespace Go.Proofs.YtdpbcfjhljgicaaGreatDoor
open Go.ChangeShapes Go.WideShapes Go.ChangeAt Go.RowKit
open Tr (T S4 Ent)

theorem windowFinds_skip {w : World} {A : Option Addr} {c : Nat} {l : List ActT} (k : Int) (hT : Tz w) (hA : ActsT w w.heap.size A l) (hl : l.length ≤ maxLen) (hh : heavyA 50 l = true) (A2 : Option Addr) (n2 c2 : Nat) (A3 : Option Addr) (n3 c3 : Nat) (m : Int) :
    Calls Tryz.prog 3 #[.int .i64 k, .slice A l.length c, boxV A2 n2 c2 A3 n3 c3, .int .i64 m] w fun e w' => e = .returned (.bool true) ∧ Below w.heap.size w w' := by
  have HX := Lib.hid (And.intro hA (And.intro hl (And.intro hh hT)))
  clear hA hl hh hT
  obtain ⟨W, hW⟩ : ∃ W, W = w.alloc (.cells #[.slice A2 n2 c2, .slice A3 n3 c3] 25) := ⟨_, rfl⟩
  have hbw : Below w.heap.size w W := by rw [hW]; exact below_alloc _ _
  have HC : Hid (∀ w1, Below W.heap.size W w1 → w1.heap[w.heap.size]? = some (.cells #[.slice A2 n2 c2, .slice A3 n3 c3] 25 (0, 0))) := Lib.hid fun w1 hb => (hb.block w.heap.size (by rw [hW]; simp)).trans (by rw [hW]; exact heap_at w _ _ rfl)
  have HW := Lib.hid (And.intro hW hbw)
  clear hW hbw
  go_enter Tryz.func3, Tryz.ntmps3
  go_upto_region 1 with fail
  rw [← HW.out.1]
  go_wp2_with fail
  refine (awake9_c W (HX.out.2.2.2.on HW.out.2)).mono ?_
  rintro e w1 ⟨rfl, hb1⟩
  have HB := Lib.hid (Below.andThen HW.out.2 hb1)
  have hbx := HC.out w1 hb1
  obtain ⟨c0, c1, -, -⟩ := box_cells hbx
  clear hb1 hbx
  have HH := Lib.hid (rheavy7_c (c := c) (HX.out.1.below HB.out (Nat.le_refl _) (Nat.le_refl _)) HX.out.2.1 50 true HX.out.2.2.1)
  go_wp2_with (first
    | (go_at_call 13; refine HH.out.mono ?_; rintro e w' ⟨rfl, rfl⟩))
  go_ret
  exact ⟨rfl, HB.out⟩
theorem windowFinds_low {w : World} {A : Option Addr} {c : Nat} {l : List ActT} (k : Int) (hT : Tz w) (hA : ActsT w w.heap.size A l) (hl : l.length ≤ maxLen) (hh : heavyA 50 l = false) (hk : k < 1) (A2 : Option Addr) (n2 c2 : Nat) (A3 : Option Addr) (n3 c3 : Nat) (m : Int) :
    Calls Tryz.prog 3 #[.int .i64 k, .slice A l.length c, boxV A2 n2 c2 A3 n3 c3, .int .i64 m] w fun e w' => e = .returned (.bool true) ∧ Below w.heap.size w w' := by
  have d1 : decide (k < 1) = true := decide_eq_true hk
  clear hk
  have HX := Lib.hid (And.intro hA (And.intro hl (And.intro hh hT)))
  clear hA hl hh hT
  obtain ⟨W, hW⟩ : ∃ W, W = w.alloc (.cells #[.slice A2 n2 c2, .slice A3 n3 c3] 25) := ⟨_, rfl⟩
  have hbw : Below w.heap.size w W := by rw [hW]; exact below_alloc _ _
  have HC : Hid (∀ w1, Below W.heap.size W w1 → w1.heap[w.heap.size]? = some (.cells #[.slice A2 n2 c2, .slice A3 n3 c3] 25 (0, 0))) := Lib.hid fun w1 hb => (hb.block w.heap.size (by rw [hW]; simp)).trans (by rw [hW]; exact heap_at w _ _ rfl)
  have HW := Lib.hid (And.intro hW hbw)
  clear hW hbw
  go_enter Tryz.func3, Tryz.ntmps3
  go_upto_region 1 with fail
  rw [← HW.out.1]
  go_wp2_with fail
  refine (awake9_c W (HX.out.2.2.2.on HW.out.2)).mono ?_
  rintro e w1 ⟨rfl, hb1⟩
  have HB := Lib.hid (Below.andThen HW.out.2 hb1)
  have hbx := HC.out w1 hb1
  obtain ⟨c0, c1, -, -⟩ := box_cells hbx
  clear hb1 hbx
  have HH := Lib.hid (rheavy7_c (c := c) (HX.out.1.below HB.out (Nat.le_refl _) (Nat.le_refl _)) HX.out.2.1 50 false HX.out.2.2.1)
  go_wp2_with (first
    | (go_at_call 13; refine HH.out.mono ?_; rintro e w' ⟨rfl, rfl⟩))
  go_ret
  exact ⟨rfl, HB.out⟩
theorem windowFinds_high {w : World} {A : Option Addr} {c : Nat} {l : List ActT} (k : Int) (hT : Tz w) (hA : ActsT w w.heap.size A l) (hl : l.length ≤ maxLen) (hh : heavyA 50 l = false) (hk : 16 < k) (A2 : Option Addr) (n2 c2 : Nat) (A3 : Option Addr) (n3 c3 : Nat) (m : Int) :
    Calls Tryz.prog 3 #[.int .i64 k, .slice A l.length c, boxV A2 n2 c2 A3 n3 c3, .int .i64 m] w fun e w' => e = .returned (.bool true) ∧ Below w.heap.size w w' := by
  have d1 : decide (k < 1) = false := decide_eq_false (by omega)
  have d2 : decide (16 < k) = true := decide_eq_true hk
  clear hk
  have HX := Lib.hid (And.intro hA (And.intro hl (And.intro hh hT)))
  clear hA hl hh hT
  obtain ⟨W, hW⟩ : ∃ W, W = w.alloc (.cells #[.slice A2 n2 c2, .slice A3 n3 c3] 25) := ⟨_, rfl⟩
  have hbw : Below w.heap.size w W := by rw [hW]; exact below_alloc _ _
  have HC : Hid (∀ w1, Below W.heap.size W w1 → w1.heap[w.heap.size]? = some (.cells #[.slice A2 n2 c2, .slice A3 n3 c3] 25 (0, 0))) := Lib.hid fun w1 hb => (hb.block w.heap.size (by rw [hW]; simp)).trans (by rw [hW]; exact heap_at w _ _ rfl)
  have HW := Lib.hid (And.intro hW hbw)
  clear hW hbw
  go_enter Tryz.func3, Tryz.ntmps3
  go_upto_region 1 with fail
  rw [← HW.out.1]
  go_wp2_with fail
  refine (awake9_c W (HX.out.2.2.2.on HW.out.2)).mono ?_
  rintro e w1 ⟨rfl, hb1⟩
  have HB := Lib.hid (Below.andThen HW.out.2 hb1)
  have hbx := HC.out w1 hb1
  obtain ⟨c0, c1, -, -⟩ := box_cells hbx
  clear hb1 hbx
  have HH := Lib.hid (rheavy7_c (c := c) (HX.out.1.below HB.out (Nat.le_refl _) (Nat.le_refl _)) HX.out.2.1 50 false HX.out.2.2.1)
  go_wp2_with (first
    | (go_at_call 13; refine HH.out.mono ?_; rintro e w' ⟨rfl, rfl⟩))
  go_ret
  exact ⟨rfl, HB.out⟩
theorem windowFinds_big {w : World} {A : Option Addr} {c : Nat} {l : List ActT} (k : Int) (hT : Tz w) (hA : ActsT w w.heap.size A l) (hl : l.length ≤ maxLen) (hh : heavyA 50 l = false) (hk : 1 ≤ k ∧ k ≤ 16) (A2 : Option Addr) (n2 c2 : Nat) (A3 : Option Addr) (n3 c3 : Nat) (m : Int) (hbig : 40 < n2 ∨ 40 < n3) :
    Calls Tryz.prog 3 #[.int .i64 k, .slice A l.length c, boxV A2 n2 c2 A3 n3 c3, .int .i64 m] w fun e w' => e = .returned (.bool true) ∧ Below w.heap.size w w' := by
  have d1 : decide (k < 1) = false := decide_eq_false (by omega)
  have d2 : decide (16 < k) = false := decide_eq_false (by omega)
  clear hk
  have HX := Lib.hid (And.intro hA (And.intro hl (And.intro hh hT)))
  clear hA hl hh hT
  obtain ⟨W, hW⟩ : ∃ W, W = w.alloc (.cells #[.slice A2 n2 c2, .slice A3 n3 c3] 25) := ⟨_, rfl⟩
  have hbw : Below w.heap.size w W := by rw [hW]; exact below_alloc _ _
  have HC : Hid (∀ w1, Below W.heap.size W w1 → w1.heap[w.heap.size]? = some (.cells #[.slice A2 n2 c2, .slice A3 n3 c3] 25 (0, 0))) := Lib.hid fun w1 hb => (hb.block w.heap.size (by rw [hW]; simp)).trans (by rw [hW]; exact heap_at w _ _ rfl)
  have HW := Lib.hid (And.intro hW hbw)
  clear hW hbw
  go_enter Tryz.func3, Tryz.ntmps3
  go_upto_region 1 with fail
  rw [← HW.out.1]
  go_wp2_with fail
  refine (awake9_c W (HX.out.2.2.2.on HW.out.2)).mono ?_
  rintro e w1 ⟨rfl, hb1⟩
  have HB := Lib.hid (Below.andThen HW.out.2 hb1)
  have hbx := HC.out w1 hb1
  obtain ⟨c0, c1, -, -⟩ := box_cells hbx
  clear hb1 hbx
  have HH := Lib.hid (rheavy7_c (c := c) (HX.out.1.below HB.out (Nat.le_refl _) (Nat.le_refl _)) HX.out.2.1 50 false HX.out.2.2.1)
  go_wp2_with (first
    | (go_at_call 13; refine HH.out.mono ?_; rintro e w' ⟨rfl, rfl⟩)
    | (go_at_call 14; refine (wbig_c A2 n2 c2 A3 n3 c3 _ true (decide_eq_true hbig)).mono ?_; rintro e w2 ⟨rfl, hb2⟩))
  go_ret
  exact ⟨rfl, Below.andThen HB.out hb2⟩
set_option maxRecDepth 1000000 in
set_option maxHeartbeats 4000000 in
theorem windowFindsD_go {w : World} {A : Option Addr} {c : Nat} {l : List ActT} (k : Nat) (hT : Tz w) (hA : ActsT w w.heap.size A l) (hl : l.length ≤ maxLen) (hh : heavyA 50 l = false) (h1 : 1 ≤ k) (h16 : k ≤ 16) (A2 : Option Addr) (n2 c2 : Nat) (A3 : Option Addr) (n3 c3 : Nat) (m : Int) (hbig : ¬ (40 < n2 ∨ 40 < n3)) (hr : ¬ ((1 ≤ n2 ∧ n2 ≤ 16) ∧ n2 = n3) ∨ (((1 ≤ n2 ∧ n2 ≤ 16) ∧ n2 = n3) ∧ n2 ≠ k)) :
    Calls Tryz.prog 3 #[.int .i64 (k : Int), .slice A l.length c, boxV A2 n2 c2 A3 n3 c3, .int .i64 m] w fun e w' => e = .returned (.bool true) ∧ Below w.heap.size w w' := by
  have hfew := heavyA_few hh
  have d1 : decide ((k : Int) < 1) = false := decide_eq_false (by omega)
  have d2 : decide ((16 : Int) < (k : Int)) = false := decide_eq_false (by omega)
  have HX := Lib.hid (And.intro hA (And.intro hl (And.intro hh hT)))
  have HK := Lib.hid (And.intro h1 (And.intro h16 (And.intro hfew (And.intro hbig hr))))
  clear hA hl hh hT h1 h16 hfew hbig hr
  obtain ⟨W, hW⟩ : ∃ W, W = w.alloc (.cells #[.slice A2 n2 c2, .slice A3 n3 c3] 25) := ⟨_, rfl⟩
  have hbw : Below w.heap.size w W := by rw [hW]; exact below_alloc _ _
  have HC : Hid (∀ w1, Below W.heap.size W w1 → w1.heap[w.heap.size]? = some (.cells #[.slice A2 n2 c2, .slice A3 n3 c3] 25 (0, 0))) := Lib.hid fun w1 hb => (hb.block w.heap.size (by rw [hW]; simp)).trans (by rw [hW]; exact heap_at w _ _ rfl)
  have HW := Lib.hid (And.intro hW hbw)
  clear hW hbw
  go_enter Tryz.func3, Tryz.ntmps3
  go_upto_region 1 with fail
  rw [← HW.out.1]
  go_wp2_with fail
  refine (awake9_c W (HX.out.2.2.2.on HW.out.2)).mono ?_
  rintro e w0 ⟨rfl, hb0⟩
  obtain ⟨c0, c1, -, -⟩ := box_cells (HC.out w0 hb0)
  have HB0 := Lib.hid hb0
  have hbw0 := Below.andThen HW.out.2 hb0
  clear hb0
  have HH := Lib.hid (rheavy7_c (c := c) (HX.out.1.below hbw0 (Nat.le_refl _) (Nat.le_refl _)) HX.out.2.1 50 false HX.out.2.2.1)
  have HG := Lib.hid fun w1 (hb : Below w0.heap.size w0 w1) => grown_c (c := c) HK.out.1 HK.out.2.1 (HX.out.1.below (Below.andThen hbw0 hb) (Nat.le_refl _) (Nat.le_refl _)) (Below.andThen hbw0 hb).size (by have := HK.out.2.2.1; omega)
  clear hbw0
  go_upto_region 8 with (first
    | (go_at_call 13; refine HH.out.mono ?_; rintro e w' ⟨rfl, rfl⟩)
    | (go_at_call 14; refine (wbig_c A2 n2 c2 A3 n3 c3 _ false (decide_eq_false HK.out.2.2.2.1)).mono ?_; rintro e w1 ⟨rfl, hb1⟩; have hB1 := HB0.out.trans (hb1.mono HB0.out.size); have HB1 := Lib.hid hB1; clear hB1)
    | (go_at_call 15; refine (HG.out _ hb1).mono ?_; rintro e w2 ⟨tb, o, D2, d2c, rfl, hd2, -, hb2⟩; have hB2 := HB1.out.trans (hb2.mono HB1.out.size); have HD := Lib.hid hd2; have HB2 := Lib.hid hB2; clear hd2 hb2 hB2 hb1 c0 c1 HG HH HB1 HB0))
  have hRef : Refd w2 (some ⟨tb, 0, none⟩) A2 n2 c2 A3 n3 c3 2 := by
    rcases HK.out.2.2.2.2 with h | h
    · exact refd_right w2 tb A2 n2 c2 A3 n3 c3 (by have := HK.out.2.2.2.1; unfold maxLen; omega) h
    · exact refd_k HD.out.tree.1.2.2.2.1 HD.out.tree.1.1 A2 n2 c2 A3 n3 c3 h.1.1.1 h.1.1.2 h.1.2 h.2
  have HRf := Lib.hid hRef
  obtain ⟨c0, c1, -, -⟩ := box_cells (HC.out w2 HB2.out)
  have hB := Below.refl w2.heap.size w2
  have HC2 : Hid (∀ w1, Below w2.heap.size w2 w1 → w1.heap[w.heap.size]? = some (.cells #[.slice A2 n2 c2, .slice A3 n3 c3] 25 (0, 0))) := Lib.hid fun w1 hb => HC.out w1 (HB2.out.trans (hb.mono HB2.out.size))
  clear hRef HC
  go_upto_region 11 with (first
    | (go_at_call 16; refine (wfind_no (HRf.out.on hB) (by decide)).mono ?_; rintro e w3 ⟨rfl, hb3⟩; have hB3 := hB.trans (hb3.mono hB.size); clear hB c0 c1 hb3; obtain ⟨c0, c1, -, -⟩ := box_cells (HC2.out _ hB3))
    | (go_at_call 17; refine (wsome_no (HRf.out.on hB3) (by decide) _).mono ?_; rintro e w4 ⟨rfl, hb4⟩; have hB4 := hB3.trans (hb4.mono hB3.size); clear hB3 c0 c1 hb4; obtain ⟨c0, c1, -, -⟩ := box_cells (HC2.out _ hB4))
    | (go_at_call 18; refine (wsums_no (HRf.out.on hB4) (by decide)).mono ?_; rintro e w5 ⟨rfl, hb5⟩; have hB5 := hB4.trans (hb5.mono hB4.size); clear hB4 c0 c1 hb5))
  have hq : ∀ (a b c d : Int), (w5.alloc (.cells #[.int .u64 a, .int .u64 b, .int .u64 c, .int .u64 d] 40)).heap[w5.heap.size]? = some (.cells #[.int .u64 a, .int .u64 b, .int .u64 c, .int .u64 d] 40 (0, 0)) := fun a b c d => heap_at w5 _ _ rfl
  have hb6 : ∀ ob, Below w2.heap.size w2 (w5.alloc ob) := fun ob => hB5.trans ((below_alloc w5 ob).mono hB5.size)
  have hq0 := hq 0 0 0 0
  have h6 := hb6 (.cells #[.int .u64 0, .int .u64 0, .int .u64 0, .int .u64 0] 40)
  obtain ⟨W6, hW6⟩ : ∃ W6, W6 = w5.alloc (.cells #[.int .u64 0, .int .u64 0, .int .u64 0, .int .u64 0] 40) := ⟨_, rfl⟩
  rw [show w5.alloc (.cells #[.int .u64 (Tr.s0.c : Int), .int .u64 (Tr.s0.s : Int), .int .u64 (Tr.s0.lo : Int), .int .u64 (Tr.s0.hi : Int)] 40) = W6 from hW6.symm]
  rw [← hW6] at hq0 h6
  clear hq hb6 hW6 hB5
  generalize w5.heap.size = g at *
  obtain ⟨c0, c1, -, -⟩ := box_cells (HC2.out _ h6)
  have hmx : n2 ≤ maxLen := by have := HK.out.2.2.2.1; unfold maxLen; omega
  rcases HK.out.2.2.2.2 with hr | hr
  · have HRn := Lib.hid fun w1 => r3right_n A2 A3 n2 c2 n3 c3 w1 hmx hr
    clear hmx hr
    go_wp2_with (go_at_call 19; refine (HRn.out _).mono ?_; rintro e w7 ⟨rfl, hb7⟩; have hq7 := (hb7.block g (Array.getElem?_eq_some_iff.1 hq0).1).trans hq0; have q0 : w7.cell? ⟨g, 0, none⟩ = some (.int .u64 0) := (by rw [cell_of_row w7 g _ _ _ (0, 0) hq7]; rfl); have q1 : w7.cell? ⟨g, 1, none⟩ = some (.int .u64 0) := (by rw [cell_of_row w7 g _ _ _ (0, 0) hq7]; rfl); have q2 : w7.cell? ⟨g, 2, none⟩ = some (.int .u64 0) := (by rw [cell_of_row w7 g _ _ _ (0, 0) hq7]; rfl); have q3 : w7.cell? ⟨g, 3, none⟩ = some (.int .u64 0) := (by rw [cell_of_row w7 g _ _ _ (0, 0) hq7]; rfl))
    go_ret
    exact ⟨rfl, Below.andThen HW.out.2 (Below.andThen HB2.out (Below.andThen h6 hb7))⟩
  · have d5 : ((n2 : Int) != (k : Int)) = true := by rw [bne_iff_ne]; have := hr.2; omega
    have HRn := Lib.hid fun w1 => r3right_y A2 A3 n2 c2 n3 c3 w1 hr.1.1.1 hr.1.1.2 hr.1.2
    clear hmx hr
    go_wp2_with (go_at_call 19; refine (HRn.out _).mono ?_; rintro e w7 ⟨rfl, hb7⟩; have hq7 := (hb7.block g (Array.getElem?_eq_some_iff.1 hq0).1).trans hq0; have q0 : w7.cell? ⟨g, 0, none⟩ = some (.int .u64 0) := (by rw [cell_of_row w7 g _ _ _ (0, 0) hq7]; rfl); have q1 : w7.cell? ⟨g, 1, none⟩ = some (.int .u64 0) := (by rw [cell_of_row w7 g _ _ _ (0, 0) hq7]; rfl); have q2 : w7.cell? ⟨g, 2, none⟩ = some (.int .u64 0) := (by rw [cell_of_row w7 g _ _ _ (0, 0) hq7]; rfl); have q3 : w7.cell? ⟨g, 3, none⟩ = some (.int .u64 0) := (by rw [cell_of_row w7 g _ _ _ (0, 0) hq7]; rfl); have c0' : w7.cell? ⟨w.heap.size, 0, none⟩ = some (.slice A2 n2 c2) := (box_cells (HC2.out _ (h6.trans (hb7.mono h6.size)))).1)
    go_ret
    exact ⟨rfl, Below.andThen HW.out.2 (Below.andThen HB2.out (Below.andThen h6 hb7))⟩
set_option maxRecDepth 1000000 in
set_option maxHeartbeats 8000000 in
theorem windowFindsE_go {w : World} {A : Option Addr} {c : Nat} {l : List ActT} (k : Nat) (hT : Tz w) (hA : ActsT w w.heap.size A l) (hl : l.length ≤ maxLen) (hh : heavyA 50 l = false) (h1 : 1 ≤ k) (h16 : k ≤ 16) {A2 : Option Addr} {c2 : Nat} {A3 : Option Addr} {c3 : Nat} {lo hi : List Nat} (hp : Pts w w.heap.size A2 lo) (hq : Pts w w.heap.size A3 hi) (hlo : lo.length = k) (hhi : hi.length = k) (m : Int) (hm : m ≤ 9223372036854775807) :
    Calls Tryz.prog 3 #[.int .i64 (k : Int), .slice A l.length c, boxV A2 lo.length c2 A3 hi.length c3, .int .i64 m] w fun e w' => e = .returned (.bool true) ∧ Below w.heap.size w w' := by
  have hfew := heavyA_few hh
  have d1 : decide ((k : Int) < 1) = false := decide_eq_false (by omega)
  have d2 : decide ((16 : Int) < (k : Int)) = false := decide_eq_false (by omega)
  have d5 : ((lo.length : Int) != (k : Int)) = false := by rw [hlo]; simp
  have hbig : ¬ (40 < lo.length ∨ 40 < hi.length) := by omega
  have HX := Lib.hid (And.intro hA (And.intro hl (And.intro hh hT)))
  have HK := Lib.hid (And.intro h1 (And.intro h16 (And.intro hfew hbig)))
  have HP := Lib.hid (And.intro hp (And.intro hq (And.intro hlo (And.intro hhi hm))))
  clear hA hl hh hT h1 h16 hfew hbig hp hq hlo hhi hm
  obtain ⟨W, hW⟩ : ∃ W, W = w.alloc (.cells #[.slice A2 lo.length c2, .slice A3 hi.length c3] 25) := ⟨_, rfl⟩
  have hbw : Below w.heap.size w W := by rw [hW]; exact below_alloc _ _
  have HC : Hid (∀ w1, Below W.heap.size W w1 → w1.heap[w.heap.size]? = some (.cells #[.slice A2 lo.length c2, .slice A3 hi.length c3] 25 (0, 0))) := Lib.hid fun w1 hb => (hb.block w.heap.size (by rw [hW]; simp)).trans (by rw [hW]; exact heap_at w _ _ rfl)
  have HW := Lib.hid (And.intro hW hbw)
  clear hW hbw
  go_enter Tryz.func3, Tryz.ntmps3
  go_upto_region 1 with fail
  rw [← HW.out.1]
  go_wp2_with fail
  refine (awake9_c W (HX.out.2.2.2.on HW.out.2)).mono ?_
  rintro e w0 ⟨rfl, hb0⟩
  obtain ⟨c0, c1, -, -⟩ := box_cells (HC.out w0 hb0)
  have HB0 := Lib.hid hb0
  have hbw0 := Below.andThen HW.out.2 hb0
  clear hb0
  have HH := Lib.hid (rheavy7_c (c := c) (HX.out.1.below hbw0 (Nat.le_refl _) (Nat.le_refl _)) HX.out.2.1 50 false HX.out.2.2.1)
  have HG := Lib.hid fun w1 (hb : Below w0.heap.size w0 w1) => grown_c (c := c) HK.out.1 HK.out.2.1 (HX.out.1.below (Below.andThen hbw0 hb) (Nat.le_refl _) (Nat.le_refl _)) (Below.andThen hbw0 hb).size (by have := HK.out.2.2.1; omega)
  clear hbw0
  go_upto_region 8 with (first
    | (go_at_call 13; refine HH.out.mono ?_; rintro e w' ⟨rfl, rfl⟩)
    | (go_at_call 14; refine (wbig_c A2 lo.length c2 A3 hi.length c3 _ false (decide_eq_false HK.out.2.2.2)).mono ?_; rintro e w1 ⟨rfl, hb1⟩; have hB1 := HB0.out.trans (hb1.mono HB0.out.size); have HB1 := Lib.hid hB1; clear hB1)
    | (go_at_call 15; refine (HG.out _ hb1).mono ?_; rintro e w2 ⟨tb, o, D2, d2c, rfl, hd2, -, hb2⟩; have hB2 := HB1.out.trans (hb2.mono HB1.out.size); have HD := Lib.hid hd2; have HB2 := Lib.hid hB2; clear hd2 hb2 hB2 hb1 c0 c1 HG HH HB1 HB0))
  have hlenE : (Tr.entsO o).length ≤ 50 := by have := HD.out.few; have := HK.out.2.2.1; omega
  have hbw2 : Below w.heap.size w w2 := Below.andThen HW.out.2 HB2.out
  have hT2 : ∀ w', Below w2.heap.size w2 w' → Tz w' := fun w' hb => (HX.out.2.2.2.on hbw2).on hb
  have hX2 : BoxP w2 w2.heap.size k A2 lo A3 hi := ⟨(HP.out.1.below' hbw2 (Nat.le_refl _)).keep hbw2.size (fun _ _ => rfl), (HP.out.2.1.below' hbw2 (Nat.le_refl _)).keep hbw2.size (fun _ _ => rfl), HK.out.1, HK.out.2.1, HP.out.2.2.1, HP.out.2.2.2.1⟩
  have hdim : ∀ e ∈ Tr.entsO o, e.1.length = k := by
    cases o with
    | none => intro e he; cases he
    | some t => intro e he; exact ((HD.out.wf t rfl).each e he).1
  obtain ⟨mx, hmx⟩ : ∃ mx : Nat, max m 0 = (mx : Int) := ⟨(max m 0).toNat, by omega⟩
  have hm63 : mx < 9223372036854775808 := by have := HP.out.2.2.2.2; omega
  obtain ⟨R, hR⟩ : ∃ R, (Tr.entsO o).filter (Tr.inB lo hi) = R := ⟨_, rfl⟩
  have hR' : (Tr.entsO o).filter (fun e => Tr.inB lo hi e == true) = R := by rw [← hR]; exact List.filter_congr fun x _ => by simp
  have hRl : R.length ≤ 50 := by rw [← hR]; exact Nat.le_trans (List.length_filter_le _ _) hlenE
  obtain ⟨s, hs⟩ : ∃ s, Tr.sums R = s := ⟨_, rfl⟩
  obtain ⟨nn, hnn⟩ : ∃ nn, nn = min mx R.length := ⟨_, rfl⟩
  obtain ⟨L2, hL2⟩ : ∃ L2, R.take mx = L2 := ⟨_, rfl⟩
  have hl2 : L2.length = nn := by rw [← hL2, List.length_take, hnn]
  have hL3 : R.take nn = L2 := by
    rw [← hL2, hnn]
    rcases Nat.le_total mx R.length with h | h
    · rw [Nat.min_eq_left h]
    · rw [Nat.min_eq_right h, List.take_of_length_le (Nat.le_refl _), List.take_of_length_le h]
  obtain ⟨r, hr⟩ : ∃ r, decide (mx < R.length) = r := ⟨_, rfl⟩
  have dr : decide ((nn : Int) < (R.length : Int)) = r := by rw [← hr]; simp only [decide_eq_decide]; omega
  have HFi : Hid (∀ w1, Below w2.heap.size w2 w1 → Calls Tryz.prog 16 #[.pointer (some ⟨tb, 0, none⟩), boxV A2 lo.length c2 A3 hi.length c3] w1 fun e w' => ∃ A c, e = .returned (.tuple #[.slice A R.length c, .int .i64 0]) ∧ Ents w' w'.heap.size A R ∧ Below w1.heap.size w1 w') := Lib.hid fun w1 hb => by
    refine (wfind_c (HD.out.tree.1.below hb (Nat.le_refl _) (Nat.le_refl _)) hb.size (fun w' h => hT2 w' (hb.trans h)) (hX2.below hb (Nat.le_refl _) (Nat.le_refl _)) (by omega) hR).mono ?_
    rintro e w' ⟨A, c, rfl, h1, h2⟩
    exact ⟨A, c, rfl, h1.ents, h2⟩
  have HSo : Hid (∀ w1, Below w2.heap.size w2 w1 → Calls Tryz.prog 17 #[.pointer (some ⟨tb, 0, none⟩), boxV A2 lo.length c2 A3 hi.length c3, .int .i64 m] w1 fun e w' => ∃ A c, e = .returned (.tuple #[.slice A nn c, .bool r, .int .i64 0]) ∧ Ents w' w'.heap.size A L2 ∧ Below w1.heap.size w1 w') := Lib.hid fun w1 hb => by
    refine (wsome_c (HD.out.tree.1.below hb (Nat.le_refl _) (Nat.le_refl _)) hb.size (fun w' h => hT2 w' (hb.trans h)) (hX2.below hb (Nat.le_refl _) (Nat.le_refl _)) (by omega) hmx hm63 hR).mono ?_
    rintro e w' ⟨A, c, rfl, h1, h2⟩
    rw [hL2] at h1
    rw [hL2, hl2, hr]
    exact ⟨A, c, rfl, h1.ents, h2⟩
  have HSu : Hid (∀ w1, Below w2.heap.size w2 w1 → Calls Tryz.prog 18 #[.pointer (some ⟨tb, 0, none⟩), boxV A2 lo.length c2 A3 hi.length c3] w1 fun e w' => e = .returned (.tuple #[sumsV s, .int .i64 0]) ∧ Below w1.heap.size w1 w') := Lib.hid fun w1 hb => by
    have := wsums_c (n := c2) (n' := c3) (HD.out.tree.1.below hb (Nat.le_refl _) (Nat.le_refl _)) hb.size (fun w' h => hT2 w' (hb.trans h)) (hX2.below hb (Nat.le_refl _) (Nat.le_refl _)) (by omega)
    rw [hR, hs] at this
    exact this
  have HQ : Hid (∀ w1, Below w2.heap.size w2 w1 → Calls Tryz.prog 20 #[.slice D2 (Tr.entsO o).length d2c, boxV A2 lo.length c2 A3 hi.length c3, .bool true] w1 fun e w' => ∃ A' c', e = .returned (.slice A' R.length c') ∧ OwnE w' w1.heap.size w1.heap.size (.slice A' R.length c') R ∧ Below w1.heap.size w1 w') := Lib.hid fun w1 hb =>
    r9find_c (HD.out.ents hb) (Nat.le_refl _) (hX2.below hb (Nat.le_refl _) hb.size) hdim (by omega) true hR'
  have HRn := Lib.hid fun w1 => r3right_y A2 A3 lo.length c2 hi.length c3 w1 (by rw [HP.out.2.2.1]; exact HK.out.1) (by rw [HP.out.2.2.1]; exact HK.out.2.1) (by rw [HP.out.2.2.1, HP.out.2.2.2.1])
  have HSS : Hid (∀ (w1 : World) (A' : Option Addr) (c' : Nat), Ents w1 w1.heap.size A' R → Calls Tryz.prog 22 #[.slice A' R.length c'] w1 fun e w' => e = .returned (sumsV s) ∧ Below w1.heap.size w1 w') := Lib.hid fun w1 A' c' h => by
    have := rsums_c (c := c') h (Nat.le_refl _) (by omega)
    rw [hs] at this
    exact this
  have HN := Lib.hid (And.intro hRl (And.intro hmx (And.intro hnn (And.intro hl2 (And.intro hL3 (And.intro hbw2 dr))))))
  obtain ⟨c0, c1, -, -⟩ := box_cells (HC.out w2 HB2.out)
  have hB := Below.refl w2.heap.size w2
  have HC2 : Hid (∀ w1, Below w2.heap.size w2 w1 → w1.heap[w.heap.size]? = some (.cells #[.slice A2 lo.length c2, .slice A3 hi.length c3] 25 (0, 0))) := Lib.hid fun w1 hb => HC.out w1 (HB2.out.trans (hb.mono HB2.out.size))
  clear hlenE hbw2 hT2 hX2 hdim hmx hm63 hR hR' hRl hs hnn hL2 hl2 hL3 hr dr HC
  go_upto_region 11 with (first
    | (go_at_call 16; refine (HFi.out _ hB).mono ?_; rintro e w3 ⟨A4, c4, rfl, hE3, hb3⟩; have hB3 := hB.trans (hb3.mono hB.size); have HE3 := Lib.hid hE3; clear hB c0 c1 hE3; obtain ⟨c0, c1, -, -⟩ := box_cells (HC2.out _ hB3))
    | (go_at_call 17; refine (HSo.out _ hB3).mono ?_; rintro e w4 ⟨A5, c5, rfl, hE4, hb4⟩; have hB4 := hB3.trans (hb4.mono hB3.size); have HE4 := Lib.hid hE4; have HE3' := Lib.hid (HE3.out.below hb4 (Nat.le_refl _) hb4.size); clear hB3 c0 c1 hb3 hb4 hE4 HE3; obtain ⟨c0, c1, -, -⟩ := box_cells (HC2.out _ hB4))
    | (go_at_call 18; refine (HSu.out _ hB4).mono ?_; rintro e w5 ⟨rfl, hb5⟩; have hB5 := hB4.trans (hb5.mono hB4.size); have HL5 := Lib.hid (And.intro (HE3'.out.below hb5 (Nat.le_refl _) hb5.size) (HE4.out.below hb5 (Nat.le_refl _) hb5.size)); clear hB4 c0 c1 hb5 HE3' HE4))
  have hq := heap_at w5 (.cells #[.int .u64 (s.c : Int), .int .u64 (s.s : Int), .int .u64 (s.lo : Int), .int .u64 (s.hi : Int)] 40) w5.heap.size rfl
  have hal := below_alloc w5 (.cells #[.int .u64 (s.c : Int), .int .u64 (s.s : Int), .int .u64 (s.lo : Int), .int .u64 (s.hi : Int)] 40)
  have h6 := hB5.trans (hal.mono hB5.size)
  have hL6 := And.intro (HL5.out.1.below hal (Nat.le_refl _) hal.size) (HL5.out.2.below hal (Nat.le_refl _) hal.size)
  obtain ⟨W6, hW6⟩ : ∃ W6, W6 = w5.alloc (.cells #[.int .u64 (s.c : Int), .int .u64 (s.s : Int), .int .u64 (s.lo : Int), .int .u64 (s.hi : Int)] 40) := ⟨_, rfl⟩
  rw [← hW6] at hq h6 hL6 ⊢
  have HL6 := Lib.hid hL6
  clear hW6 hB5 hal HL5 hL6
  generalize w5.heap.size = g at *
  obtain ⟨c0, c1, -, -⟩ := box_cells (HC2.out _ h6)
  go_upto_region 14 with (first
    | (go_at_call 19; refine (HRn.out _).mono ?_; rintro e w7 ⟨rfl, hb7⟩; have h7 := h6.trans (hb7.mono h6.size); have hq7 := (hb7.block g (Array.getElem?_eq_some_iff.1 hq).1).trans hq; have HL7 := Lib.hid (And.intro (HL6.out.1.below hb7 (Nat.le_refl _) hb7.size) (HL6.out.2.below hb7 (Nat.le_refl _) hb7.size)); clear hb7 h6 hq HL6 c0 c1; obtain ⟨c0, c1, -, -⟩ := box_cells (HC2.out _ h7))
    | (go_at_call 20; refine (HQ.out _ h7).mono ?_; rintro e w8 ⟨A8, c8, rfl, ho8, hb8⟩; have h8 := h7.trans (hb8.mono h7.size); have hq8 := (hb8.block g (Array.getElem?_eq_some_iff.1 hq7).1).trans hq7; have HL8 := Lib.hid (And.intro (HL7.out.1.below hb8 (Nat.le_refl _) hb8.size) (HL7.out.2.below hb8 (Nat.le_refl _) hb8.size)); have HO8 := Lib.hid (And.intro ho8 hb8.size); clear hb8 h7 hq7 HL7 c0 c1 ho8))
  obtain ⟨A9, c9, hv9, hc9, hl9⟩ := HO8.out.1.entL
  simp only [Value.slice.injEq] at hv9
  obtain ⟨rfl, -, rfl⟩ := hv9
  have hE9 : Ents w8 w8.heap.size A8 R := hl9.ents HO8.out.2 (Nat.le_refl _)
  obtain ⟨Ah, hcut, hlh⟩ := lst_hi (Q := EntQ w8 w8.heap.size) 30 54 Tryz.underlying30 infoE2 A8 R.length c8 nn (by have := HN.out.2.2.1; omega) hc9
  have hEh : Ents w8 w8.heap.size Ah L2 := by
    have := hlh w8 w8.heap.size R rfl hE9
    rw [HN.out.2.2.2.2.1] at this
    exact this
  have HE9 := Lib.hid (And.intro hE9 hEh)
  have HZ := Lib.hid (Below.andThen HN.out.2.2.2.2.2.1 h8)
  have q0 : w8.cell? ⟨g, 0, none⟩ = some (.int .u64 (s.c : Int)) := by rw [cell_of_row w8 g _ _ _ (0, 0) hq8]; rfl
  have q1 : w8.cell? ⟨g, 1, none⟩ = some (.int .u64 (s.s : Int)) := by rw [cell_of_row w8 g _ _ _ (0, 0) hq8]; rfl
  have q2 : w8.cell? ⟨g, 2, none⟩ = some (.int .u64 (s.lo : Int)) := by rw [cell_of_row w8 g _ _ _ (0, 0) hq8]; rfl
  have q3 : w8.cell? ⟨g, 3, none⟩ = some (.int .u64 (s.hi : Int)) := by rw [cell_of_row w8 g _ _ _ (0, 0) hq8]; rfl
  have hg8 := (Array.getElem?_eq_some_iff.1 hq8).1
  have a0 : ∀ w', Below w8.heap.size w8 w' → w'.cell? ⟨g, 0, none⟩ = some (.int .u64 (s.c : Int)) := fun w' h => (h.cell (p := ⟨g, 0, none⟩) hg8).trans q0
  have a1 : ∀ w', Below w8.heap.size w8 w' → w'.cell? ⟨g, 1, none⟩ = some (.int .u64 (s.s : Int)) := fun w' h => (h.cell (p := ⟨g, 1, none⟩) hg8).trans q1
  have a2 : ∀ w', Below w8.heap.size w8 w' → w'.cell? ⟨g, 2, none⟩ = some (.int .u64 (s.lo : Int)) := fun w' h => (h.cell (p := ⟨g, 2, none⟩) hg8).trans q2
  have a3 : ∀ w', Below w8.heap.size w8 w' → w'.cell? ⟨g, 3, none⟩ = some (.int .u64 (s.hi : Int)) := fun w' h => (h.cell (p := ⟨g, 3, none⟩) hg8).trans q3
  have HS1 : Hid (∀ w1, Below w8.heap.size w8 w1 → Calls Tryz.prog 21 #[.slice A4 R.length c4, .slice A8 R.length c8] w1 fun e w' => e = .returned (.bool true) ∧ Below w1.heap.size w1 w') := Lib.hid fun w1 hb => rsameEnts_c (HL8.out.1.below hb (Nat.le_refl _) hb.size) (HE9.out.1.below hb (Nat.le_refl _) hb.size) (by have := HN.out.1; omega)
  have HS2 : Hid (∀ w1, Below w8.heap.size w8 w1 → Calls Tryz.prog 21 #[.slice A5 nn c5, .slice Ah nn c8] w1 fun e w' => e = .returned (.bool true) ∧ Below w1.heap.size w1 w') := Lib.hid fun w1 hb => by
    have := rsameEnts_c (c := c5) (c' := c8) (HL8.out.2.below hb (Nat.le_refl _) hb.size) (HE9.out.2.below hb (Nat.le_refl _) hb.size) (by have := HN.out.1; have := HN.out.2.2.1; have := HN.out.2.2.2.1; omega)
    rw [HN.out.2.2.2.1] at this
    exact this
  have HS3 : Hid (∀ w1, Below w8.heap.size w8 w1 → Calls Tryz.prog 22 #[.slice A8 R.length c8] w1 fun e w' => e = .returned (sumsV s) ∧ Below w1.heap.size w1 w') := Lib.hid fun w1 hb => HSS.out w1 A8 c8 (HE9.out.1.below hb (Nat.le_refl _) hb.size)
  have hb0 : Below w8.heap.size w8 w8 := Below.refl _ _
  have HCut := Lib.hid hcut
  have dr := HN.out.2.2.2.2.2.2
  have nr : (nn : Int) ≤ (R.length : Int) := by have := HN.out.2.2.1; omega
  have n0 : (0 : Int) ≤ (nn : Int) := by omega
  have hrr : (r == r) = true := by cases r <;> rfl
  clear hc9 hl9 hE9 hEh hlh hcut h8 hq8 q0 q1 q2 q3 hg8 HFi HSo HSu HQ HRn HSS HC2
  by_cases hgt : (R.length : Int) < m
  · have d6 : decide ((R.length : Int) < m) = true := decide_eq_true hgt
    have d7 : decide ((R.length : Int) < 0) = false := decide_eq_false (by omega)
    have hnr : nn = R.length := by have := HN.out.2.2.1; have := HN.out.2.1; omega
    have hrf : r = false := by rw [← dr, hnr]; exact decide_eq_false (by omega)
    subst hrf
    subst hnr
    clear hgt hrr
    have hst := HCut.out
    clear HCut
    go_upto_region 19 with fail
    go_region_held3 (fun w' => Below w8.heap.size w8 w') (((repeat (first | refine Below.drew ?_ | (with_reducible refine below_drewN _ ?_) | refine Below.alloc ?_ (by first | omega | (simp; done) | (simp; omega)) _ | refine Below.setCell ?_ (by first | omega | (simp; done) | (simp; omega)) _)); first | exact Below.refl _ _ | assumption | exact below_drewN _ (Below.refl _ _) | exact below_drewN _ (below_drewN _ (Below.refl _ _))))
      (first
       | (go_at_call 21; with_reducible refine (HS1.out _ (show Below w8.heap.size w8 _ by ((repeat (first | refine Below.drew ?_ | (with_reducible refine below_drewN _ ?_) | refine Below.alloc ?_ (by first | omega | (simp; done) | (simp; omega)) _ | refine Below.setCell ?_ (by first | omega | (simp; done) | (simp; omega)) _)); first | exact Below.refl _ _ | assumption | exact below_drewN _ (Below.refl _ _) | exact below_drewN _ (below_drewN _ (Below.refl _ _))))).mono ?_; rintro e v1 ⟨rfl, hb9⟩; have hbD := Below.trans (show Below w8.heap.size w8 _ by ((repeat (first | refine Below.drew ?_ | (with_reducible refine below_drewN _ ?_) | refine Below.alloc ?_ (by first | omega | (simp; done) | (simp; omega)) _ | refine Below.setCell ?_ (by first | omega | (simp; done) | (simp; omega)) _)); first | exact Below.refl _ _ | assumption | exact below_drewN _ (Below.refl _ _) | exact below_drewN _ (below_drewN _ (Below.refl _ _)))) (hb9.mono (Below.size (show Below w8.heap.size w8 _ by ((repeat (first | refine Below.drew ?_ | (with_reducible refine below_drewN _ ?_) | refine Below.alloc ?_ (by first | omega | (simp; done) | (simp; omega)) _ | refine Below.setCell ?_ (by first | omega | (simp; done) | (simp; omega)) _)); first | exact Below.refl _ _ | assumption | exact below_drewN _ (Below.refl _ _) | exact below_drewN _ (below_drewN _ (Below.refl _ _)))))); clear hb9 hb0 HS1)
       | (go_at_call 21; with_reducible refine (HS2.out _ (show Below w8.heap.size w8 _ by ((repeat (first | refine Below.drew ?_ | (with_reducible refine below_drewN _ ?_) | refine Below.alloc ?_ (by first | omega | (simp; done) | (simp; omega)) _ | refine Below.setCell ?_ (by first | omega | (simp; done) | (simp; omega)) _)); first | exact Below.refl _ _ | assumption | exact below_drewN _ (Below.refl _ _) | exact below_drewN _ (below_drewN _ (Below.refl _ _))))).mono ?_; rintro e v2 ⟨rfl, hb9⟩; have hbE := Below.trans (show Below w8.heap.size w8 _ by ((repeat (first | refine Below.drew ?_ | (with_reducible refine below_drewN _ ?_) | refine Below.alloc ?_ (by first | omega | (simp; done) | (simp; omega)) _ | refine Below.setCell ?_ (by first | omega | (simp; done) | (simp; omega)) _)); first | exact Below.refl _ _ | assumption | exact below_drewN _ (Below.refl _ _) | exact below_drewN _ (below_drewN _ (Below.refl _ _)))) (hb9.mono (Below.size (show Below w8.heap.size w8 _ by ((repeat (first | refine Below.drew ?_ | (with_reducible refine below_drewN _ ?_) | refine Below.alloc ?_ (by first | omega | (simp; done) | (simp; omega)) _ | refine Below.setCell ?_ (by first | omega | (simp; done) | (simp; omega)) _)); first | exact Below.refl _ _ | assumption | exact below_drewN _ (Below.refl _ _) | exact below_drewN _ (below_drewN _ (Below.refl _ _)))))); clear hb9 hbD)
       | (go_at_call 22; with_reducible refine (HS3.out _ (show Below w8.heap.size w8 _ by ((repeat (first | refine Below.drew ?_ | (with_reducible refine below_drewN _ ?_) | refine Below.alloc ?_ (by first | omega | (simp; done) | (simp; omega)) _ | refine Below.setCell ?_ (by first | omega | (simp; done) | (simp; omega)) _)); first | exact Below.refl _ _ | assumption | exact below_drewN _ (Below.refl _ _) | exact below_drewN _ (below_drewN _ (Below.refl _ _))))).mono ?_; rintro e v3 ⟨rfl, hb9⟩; have hbF := Below.trans (show Below w8.heap.size w8 _ by ((repeat (first | refine Below.drew ?_ | (with_reducible refine below_drewN _ ?_) | refine Below.alloc ?_ (by first | omega | (simp; done) | (simp; omega)) _ | refine Below.setCell ?_ (by first | omega | (simp; done) | (simp; omega)) _)); first | exact Below.refl _ _ | assumption | exact below_drewN _ (Below.refl _ _) | exact below_drewN _ (below_drewN _ (Below.refl _ _)))) (hb9.mono (Below.size (show Below w8.heap.size w8 _ by ((repeat (first | refine Below.drew ?_ | (with_reducible refine below_drewN _ ?_) | refine Below.alloc ?_ (by first | omega | (simp; done) | (simp; omega)) _ | refine Below.setCell ?_ (by first | omega | (simp; done) | (simp; omega)) _)); first | exact Below.refl _ _ | assumption | exact below_drewN _ (Below.refl _ _) | exact below_drewN _ (below_drewN _ (Below.refl _ _)))))); clear hb9))
    clear a0 a1 a2 a3
    go_wp2_with fail
    go_ret
    exact ⟨rfl, Below.andThen HZ.out hbF⟩
  · by_cases hneg : m < 0
    · have d6 : decide ((R.length : Int) < m) = false := decide_eq_false hgt
      have d7 : decide (m < 0) = true := decide_eq_true hneg
      have hnr : nn = 0 := by have := HN.out.2.2.1; have := HN.out.2.1; omega
      have dr' : decide (0 < R.length) = r := by rw [← dr, hnr]; simp only [decide_eq_decide]; omega
      have dr2 : decide ((0 : Int) < (R.length : Int)) = r := by rw [← dr, hnr]; simp only [decide_eq_decide]; omega
      subst hnr
      clear hgt hneg hrr dr
      simp only [show ((0 : Nat) : Int) = 0 from rfl] at nr n0 HCut
      cases r
      all_goals (
        have hst := HCut.out
        clear HCut
        go_upto_region 19 with fail
        go_region_held3 (fun w' => Below w8.heap.size w8 w') (((repeat (first | refine Below.drew ?_ | (with_reducible refine below_drewN _ ?_) | refine Below.alloc ?_ (by first | omega | (simp; done) | (simp; omega)) _ | refine Below.setCell ?_ (by first | omega | (simp; done) | (simp; omega)) _)); first | exact Below.refl _ _ | assumption | exact below_drewN _ (Below.refl _ _) | exact below_drewN _ (below_drewN _ (Below.refl _ _))))
          (first
           | (go_at_call 21; with_reducible refine (HS1.out _ (show Below w8.heap.size w8 _ by ((repeat (first | refine Below.drew ?_ | (with_reducible refine below_drewN _ ?_) | refine Below.alloc ?_ (by first | omega | (simp; done) | (simp; omega)) _ | refine Below.setCell ?_ (by first | omega | (simp; done) | (simp; omega)) _)); first | exact Below.refl _ _ | assumption | exact below_drewN _ (Below.refl _ _) | exact below_drewN _ (below_drewN _ (Below.refl _ _))))).mono ?_; rintro e v1 ⟨rfl, hb9⟩; have hbD := Below.trans (show Below w8.heap.size w8 _ by ((repeat (first | refine Below.drew ?_ | (with_reducible refine below_drewN _ ?_) | refine Below.alloc ?_ (by first | omega | (simp; done) | (simp; omega)) _ | refine Below.setCell ?_ (by first | omega | (simp; done) | (simp; omega)) _)); first | exact Below.refl _ _ | assumption | exact below_drewN _ (Below.refl _ _) | exact below_drewN _ (below_drewN _ (Below.refl _ _)))) (hb9.mono (Below.size (show Below w8.heap.size w8 _ by ((repeat (first | refine Below.drew ?_ | (with_reducible refine below_drewN _ ?_) | refine Below.alloc ?_ (by first | omega | (simp; done) | (simp; omega)) _ | refine Below.setCell ?_ (by first | omega | (simp; done) | (simp; omega)) _)); first | exact Below.refl _ _ | assumption | exact below_drewN _ (Below.refl _ _) | exact below_drewN _ (below_drewN _ (Below.refl _ _)))))); clear hb9 hb0 HS1)
           | (go_at_call 21; with_reducible refine (HS2.out _ (show Below w8.heap.size w8 _ by ((repeat (first | refine Below.drew ?_ | (with_reducible refine below_drewN _ ?_) | refine Below.alloc ?_ (by first | omega | (simp; done) | (simp; omega)) _ | refine Below.setCell ?_ (by first | omega | (simp; done) | (simp; omega)) _)); first | exact Below.refl _ _ | assumption | exact below_drewN _ (Below.refl _ _) | exact below_drewN _ (below_drewN _ (Below.refl _ _))))).mono ?_; rintro e v2 ⟨rfl, hb9⟩; have hbE := Below.trans (show Below w8.heap.size w8 _ by ((repeat (first | refine Below.drew ?_ | (with_reducible refine below_drewN _ ?_) | refine Below.alloc ?_ (by first | omega | (simp; done) | (simp; omega)) _ | refine Below.setCell ?_ (by first | omega | (simp; done) | (simp; omega)) _)); first | exact Below.refl _ _ | assumption | exact below_drewN _ (Below.refl _ _) | exact below_drewN _ (below_drewN _ (Below.refl _ _)))) (hb9.mono (Below.size (show Below w8.heap.size w8 _ by ((repeat (first | refine Below.drew ?_ | (with_reducible refine below_drewN _ ?_) | refine Below.alloc ?_ (by first | omega | (simp; done) | (simp; omega)) _ | refine Below.setCell ?_ (by first | omega | (simp; done) | (simp; omega)) _)); first | exact Below.refl _ _ | assumption | exact below_drewN _ (Below.refl _ _) | exact below_drewN _ (below_drewN _ (Below.refl _ _)))))); clear hb9 hbD)
           | (go_at_call 22; with_reducible refine (HS3.out _ (show Below w8.heap.size w8 _ by ((repeat (first | refine Below.drew ?_ | (with_reducible refine below_drewN _ ?_) | refine Below.alloc ?_ (by first | omega | (simp; done) | (simp; omega)) _ | refine Below.setCell ?_ (by first | omega | (simp; done) | (simp; omega)) _)); first | exact Below.refl _ _ | assumption | exact below_drewN _ (Below.refl _ _) | exact below_drewN _ (below_drewN _ (Below.refl _ _))))).mono ?_; rintro e v3 ⟨rfl, hb9⟩; have hbF := Below.trans (show Below w8.heap.size w8 _ by ((repeat (first | refine Below.drew ?_ | (with_reducible refine below_drewN _ ?_) | refine Below.alloc ?_ (by first | omega | (simp; done) | (simp; omega)) _ | refine Below.setCell ?_ (by first | omega | (simp; done) | (simp; omega)) _)); first | exact Below.refl _ _ | assumption | exact below_drewN _ (Below.refl _ _) | exact below_drewN _ (below_drewN _ (Below.refl _ _)))) (hb9.mono (Below.size (show Below w8.heap.size w8 _ by ((repeat (first | refine Below.drew ?_ | (with_reducible refine below_drewN _ ?_) | refine Below.alloc ?_ (by first | omega | (simp; done) | (simp; omega)) _ | refine Below.setCell ?_ (by first | omega | (simp; done) | (simp; omega)) _)); first | exact Below.refl _ _ | assumption | exact below_drewN _ (Below.refl _ _) | exact below_drewN _ (below_drewN _ (Below.refl _ _)))))); clear hb9))
        clear a0 a1 a2 a3
        go_wp2_with fail
        go_ret
        exact ⟨rfl, Below.andThen HZ.out hbF⟩)
    · have d6 : decide ((R.length : Int) < m) = false := decide_eq_false hgt
      have d7 : decide (m < 0) = false := decide_eq_false hneg
      have hnr : m = (nn : Int) := by have := HN.out.2.2.1; have := HN.out.2.1; omega
      have dr' : decide (nn < R.length) = r := by rw [← dr]; simp only [decide_eq_decide]; omega
      subst hnr
      clear hgt hneg hrr
      cases r
      all_goals (
        have hst := HCut.out
        clear HCut
        go_upto_region 19 with fail
        go_region_held3 (fun w' => Below w8.heap.size w8 w') (((repeat (first | refine Below.drew ?_ | (with_reducible refine below_drewN _ ?_) | refine Below.alloc ?_ (by first | omega | (simp; done) | (simp; omega)) _ | refine Below.setCell ?_ (by first | omega | (simp; done) | (simp; omega)) _)); first | exact Below.refl _ _ | assumption | exact below_drewN _ (Below.refl _ _) | exact below_drewN _ (below_drewN _ (Below.refl _ _))))
          (first
           | (go_at_call 21; with_reducible refine (HS1.out _ (show Below w8.heap.size w8 _ by ((repeat (first | refine Below.drew ?_ | (with_reducible refine below_drewN _ ?_) | refine Below.alloc ?_ (by first | omega | (simp; done) | (simp; omega)) _ | refine Below.setCell ?_ (by first | omega | (simp; done) | (simp; omega)) _)); first | exact Below.refl _ _ | assumption | exact below_drewN _ (Below.refl _ _) | exact below_drewN _ (below_drewN _ (Below.refl _ _))))).mono ?_; rintro e v1 ⟨rfl, hb9⟩; have hbD := Below.trans (show Below w8.heap.size w8 _ by ((repeat (first | refine Below.drew ?_ | (with_reducible refine below_drewN _ ?_) | refine Below.alloc ?_ (by first | omega | (simp; done) | (simp; omega)) _ | refine Below.setCell ?_ (by first | omega | (simp; done) | (simp; omega)) _)); first | exact Below.refl _ _ | assumption | exact below_drewN _ (Below.refl _ _) | exact below_drewN _ (below_drewN _ (Below.refl _ _)))) (hb9.mono (Below.size (show Below w8.heap.size w8 _ by ((repeat (first | refine Below.drew ?_ | (with_reducible refine below_drewN _ ?_) | refine Below.alloc ?_ (by first | omega | (simp; done) | (simp; omega)) _ | refine Below.setCell ?_ (by first | omega | (simp; done) | (simp; omega)) _)); first | exact Below.refl _ _ | assumption | exact below_drewN _ (Below.refl _ _) | exact below_drewN _ (below_drewN _ (Below.refl _ _)))))); clear hb9 hb0 HS1)
           | (go_at_call 21; with_reducible refine (HS2.out _ (show Below w8.heap.size w8 _ by ((repeat (first | refine Below.drew ?_ | (with_reducible refine below_drewN _ ?_) | refine Below.alloc ?_ (by first | omega | (simp; done) | (simp; omega)) _ | refine Below.setCell ?_ (by first | omega | (simp; done) | (simp; omega)) _)); first | exact Below.refl _ _ | assumption | exact below_drewN _ (Below.refl _ _) | exact below_drewN _ (below_drewN _ (Below.refl _ _))))).mono ?_; rintro e v2 ⟨rfl, hb9⟩; have hbE := Below.trans (show Below w8.heap.size w8 _ by ((repeat (first | refine Below.drew ?_ | (with_reducible refine below_drewN _ ?_) | refine Below.alloc ?_ (by first | omega | (simp; done) | (simp; omega)) _ | refine Below.setCell ?_ (by first | omega | (simp; done) | (simp; omega)) _)); first | exact Below.refl _ _ | assumption | exact below_drewN _ (Below.refl _ _) | exact below_drewN _ (below_drewN _ (Below.refl _ _)))) (hb9.mono (Below.size (show Below w8.heap.size w8 _ by ((repeat (first | refine Below.drew ?_ | (with_reducible refine below_drewN _ ?_) | refine Below.alloc ?_ (by first | omega | (simp; done) | (simp; omega)) _ | refine Below.setCell ?_ (by first | omega | (simp; done) | (simp; omega)) _)); first | exact Below.refl _ _ | assumption | exact below_drewN _ (Below.refl _ _) | exact below_drewN _ (below_drewN _ (Below.refl _ _)))))); clear hb9 hbD)
           | (go_at_call 22; with_reducible refine (HS3.out _ (show Below w8.heap.size w8 _ by ((repeat (first | refine Below.drew ?_ | (with_reducible refine below_drewN _ ?_) | refine Below.alloc ?_ (by first | omega | (simp; done) | (simp; omega)) _ | refine Below.setCell ?_ (by first | omega | (simp; done) | (simp; omega)) _)); first | exact Below.refl _ _ | assumption | exact below_drewN _ (Below.refl _ _) | exact below_drewN _ (below_drewN _ (Below.refl _ _))))).mono ?_; rintro e v3 ⟨rfl, hb9⟩; have hbF := Below.trans (show Below w8.heap.size w8 _ by ((repeat (first | refine Below.drew ?_ | (with_reducible refine below_drewN _ ?_) | refine Below.alloc ?_ (by first | omega | (simp; done) | (simp; omega)) _ | refine Below.setCell ?_ (by first | omega | (simp; done) | (simp; omega)) _)); first | exact Below.refl _ _ | assumption | exact below_drewN _ (Below.refl _ _) | exact below_drewN _ (below_drewN _ (Below.refl _ _)))) (hb9.mono (Below.size (show Below w8.heap.size w8 _ by ((repeat (first | refine Below.drew ?_ | (with_reducible refine below_drewN _ ?_) | refine Below.alloc ?_ (by first | omega | (simp; done) | (simp; omega)) _ | refine Below.setCell ?_ (by first | omega | (simp; done) | (simp; omega)) _)); first | exact Below.refl _ _ | assumption | exact below_drewN _ (Below.refl _ _) | exact below_drewN _ (below_drewN _ (Below.refl _ _)))))); clear hb9))
        clear a0 a1 a2 a3
        go_wp2_with fail
        go_ret
        exact ⟨rfl, Below.andThen HZ.out hbF⟩)
theorem windowFinds_c {w : World} {A : Option Addr} {c : Nat} {l : List ActT} (k : Int) (hT : Tz w) (hA : ActsT w w.heap.size A l) (hl : l.length ≤ maxLen) {A2 : Option Addr} {c2 : Nat} {A3 : Option Addr} {c3 : Nat} {lo hi : List Nat} (hp : Pts w w.heap.size A2 lo) (hq : Pts w w.heap.size A3 hi) (m : Int) (hm : m ≤ 9223372036854775807) :
    Calls Tryz.prog 3 #[.int .i64 k, .slice A l.length c, boxV A2 lo.length c2 A3 hi.length c3, .int .i64 m] w fun e w' => e = .returned (.bool true) ∧ Below w.heap.size w w' := by
  rcases hh : heavyA 50 l with _ | _
  · by_cases hk1 : k < 1
    · exact windowFinds_low k hT hA hl hh hk1 A2 lo.length c2 A3 hi.length c3 m
    · by_cases hk2 : 16 < k
      · exact windowFinds_high k hT hA hl hh hk2 A2 lo.length c2 A3 hi.length c3 m
      · by_cases hbig : 40 < lo.length ∨ 40 < hi.length
        · exact windowFinds_big k hT hA hl hh ⟨by omega, by omega⟩ A2 lo.length c2 A3 hi.length c3 m hbig
        · obtain ⟨n, rfl⟩ : ∃ n : Nat, k = (n : Int) := ⟨k.toNat, by omega⟩
          by_cases hr : (1 ≤ lo.length ∧ lo.length ≤ 16) ∧ lo.length = hi.length
          · by_cases hn : lo.length = n
            · exact windowFindsE_go n hT hA hl hh (by omega) (by omega) hp hq hn (by rw [← hr.2, hn]) m hm
            · exact windowFindsD_go n hT hA hl hh (by omega) (by omega) A2 lo.length c2 A3 hi.length c3 m hbig (.inr ⟨hr, hn⟩)
          · exact windowFindsD_go n hT hA hl hh (by omega) (by omega) A2 lo.length c2 A3 hi.length c3 m hbig (.inl hr)
  · exact windowFinds_skip k hT hA hl hh A2 lo.length c2 A3 hi.length c3 m
end Go.Proofs.YtdpbcfjhljgicaaGreatDoor
