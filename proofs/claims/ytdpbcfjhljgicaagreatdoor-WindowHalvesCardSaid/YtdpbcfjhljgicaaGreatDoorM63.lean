import Derived.Test.YtdpbcfjhljgicaaGreatDoorM62
import Derived.Test.YtdpbcfjhljgicaaGreatDoorML9n
import Derived.Test.YtdpbcfjhljgicaaGreatDoorM35
/-
  THE LAW WindowHalves. Laid by wip/gen38.py.
-/
namespace Go.Proofs.YtdpbcfjhljgicaaGreatDoor
open Go.ChangeShapes Go.WideShapes Go.ChangeAt Go.RowKit
open Tr (T S4 Ent)

set_option maxRecDepth 100000 in
set_option maxHeartbeats 2000000 in
theorem windowHalves_heavy {w : World} {A : Option Addr} {c : Nat} {l : List ActT} (k : Int) (hT : Tz w) (hA : ActsT w w.heap.size A l) (hl : l.length ≤ maxLen) {A2 : Option Addr} {c2 : Nat} {A3 : Option Addr} {c3 : Nat} {lo hi : List Nat} (m : Int) (a : Nat) (hh : heavyA 40 l = true) :
    Calls Tryz.prog 6 #[.int .i64 k, .slice A l.length c, boxV A2 lo.length c2 A3 hi.length c3, .int .i64 m, .int .u64 (a : Int)] w fun e w' => e = .returned (.bool true) ∧ Below w.heap.size w w' := by
  have HX := Lib.hid (And.intro hA (And.intro hl (And.intro hh hT)))
  clear hA hl hh hT
  obtain ⟨W, hW⟩ : ∃ W, W = w.alloc (.cells #[.slice A2 lo.length c2, .slice A3 hi.length c3] 25) := ⟨_, rfl⟩
  have hbw : Below w.heap.size w W := by rw [hW]; exact below_alloc _ _
  have HC : Hid (∀ w1, Below W.heap.size W w1 → w1.heap[w.heap.size]? = some (.cells #[.slice A2 lo.length c2, .slice A3 hi.length c3] 25 (0, 0))) := Lib.hid fun w1 hb => (hb.block w.heap.size (by rw [hW]; simp)).trans (by rw [hW]; exact heap_at w _ _ rfl)
  have HW := Lib.hid (And.intro hW hbw)
  clear hW hbw
  go_enter Tryz.func6, Tryz.ntmps6
  go_upto_region 1 with fail
  rw [← HW.out.1]
  go_wp2_with fail
  refine (awake9_c W (HX.out.2.2.2.on HW.out.2)).mono ?_
  rintro e w1 ⟨rfl, hb1⟩
  have HB1 := Lib.hid hb1
  have HB := Lib.hid (Below.andThen HW.out.2 hb1)
  have hbx := HC.out w1 hb1
  obtain ⟨c0, c1, -, -⟩ := box_cells hbx
  clear hb1 hbx
  have HH := Lib.hid (rheavy7_c (c := c) (HX.out.1.below HB.out (Nat.le_refl _) (Nat.le_refl _)) HX.out.2.1 40 true HX.out.2.2.1)
  go_wp2_with (first
    | (go_at_call 13; refine HH.out.mono ?_; rintro e w' ⟨rfl, rfl⟩))
  go_ret
  exact ⟨rfl, HB.out⟩
set_option maxRecDepth 100000 in
set_option maxHeartbeats 2000000 in
theorem windowHalves_low {w : World} {A : Option Addr} {c : Nat} {l : List ActT} (k : Int) (hT : Tz w) (hA : ActsT w w.heap.size A l) (hl : l.length ≤ maxLen) {A2 : Option Addr} {c2 : Nat} {A3 : Option Addr} {c3 : Nat} {lo hi : List Nat} (m : Int) (a : Nat) (hh : heavyA 40 l = false) (hk : k < 1) :
    Calls Tryz.prog 6 #[.int .i64 k, .slice A l.length c, boxV A2 lo.length c2 A3 hi.length c3, .int .i64 m, .int .u64 (a : Int)] w fun e w' => e = .returned (.bool true) ∧ Below w.heap.size w w' := by
  have d1 : decide (k < 1) = true := decide_eq_true hk
  clear hk
  have HX := Lib.hid (And.intro hA (And.intro hl (And.intro hh hT)))
  clear hA hl hh hT
  obtain ⟨W, hW⟩ : ∃ W, W = w.alloc (.cells #[.slice A2 lo.length c2, .slice A3 hi.length c3] 25) := ⟨_, rfl⟩
  have hbw : Below w.heap.size w W := by rw [hW]; exact below_alloc _ _
  have HC : Hid (∀ w1, Below W.heap.size W w1 → w1.heap[w.heap.size]? = some (.cells #[.slice A2 lo.length c2, .slice A3 hi.length c3] 25 (0, 0))) := Lib.hid fun w1 hb => (hb.block w.heap.size (by rw [hW]; simp)).trans (by rw [hW]; exact heap_at w _ _ rfl)
  have HW := Lib.hid (And.intro hW hbw)
  clear hW hbw
  go_enter Tryz.func6, Tryz.ntmps6
  go_upto_region 1 with fail
  rw [← HW.out.1]
  go_wp2_with fail
  refine (awake9_c W (HX.out.2.2.2.on HW.out.2)).mono ?_
  rintro e w1 ⟨rfl, hb1⟩
  have HB1 := Lib.hid hb1
  have HB := Lib.hid (Below.andThen HW.out.2 hb1)
  have hbx := HC.out w1 hb1
  obtain ⟨c0, c1, -, -⟩ := box_cells hbx
  clear hb1 hbx
  have HH := Lib.hid (rheavy7_c (c := c) (HX.out.1.below HB.out (Nat.le_refl _) (Nat.le_refl _)) HX.out.2.1 40 false HX.out.2.2.1)
  go_wp2_with (first
    | (go_at_call 13; refine HH.out.mono ?_; rintro e w' ⟨rfl, rfl⟩))
  go_ret
  exact ⟨rfl, HB.out⟩
set_option maxRecDepth 100000 in
set_option maxHeartbeats 2000000 in
theorem windowHalves_high {w : World} {A : Option Addr} {c : Nat} {l : List ActT} (k : Int) (hT : Tz w) (hA : ActsT w w.heap.size A l) (hl : l.length ≤ maxLen) {A2 : Option Addr} {c2 : Nat} {A3 : Option Addr} {c3 : Nat} {lo hi : List Nat} (m : Int) (a : Nat) (hh : heavyA 40 l = false) (hk : 16 < k) :
    Calls Tryz.prog 6 #[.int .i64 k, .slice A l.length c, boxV A2 lo.length c2 A3 hi.length c3, .int .i64 m, .int .u64 (a : Int)] w fun e w' => e = .returned (.bool true) ∧ Below w.heap.size w w' := by
  have d1 : decide (k < 1) = false := decide_eq_false (by omega)
  have d2 : decide (16 < k) = true := decide_eq_true hk
  clear hk
  have HX := Lib.hid (And.intro hA (And.intro hl (And.intro hh hT)))
  clear hA hl hh hT
  obtain ⟨W, hW⟩ : ∃ W, W = w.alloc (.cells #[.slice A2 lo.length c2, .slice A3 hi.length c3] 25) := ⟨_, rfl⟩
  have hbw : Below w.heap.size w W := by rw [hW]; exact below_alloc _ _
  have HC : Hid (∀ w1, Below W.heap.size W w1 → w1.heap[w.heap.size]? = some (.cells #[.slice A2 lo.length c2, .slice A3 hi.length c3] 25 (0, 0))) := Lib.hid fun w1 hb => (hb.block w.heap.size (by rw [hW]; simp)).trans (by rw [hW]; exact heap_at w _ _ rfl)
  have HW := Lib.hid (And.intro hW hbw)
  clear hW hbw
  go_enter Tryz.func6, Tryz.ntmps6
  go_upto_region 1 with fail
  rw [← HW.out.1]
  go_wp2_with fail
  refine (awake9_c W (HX.out.2.2.2.on HW.out.2)).mono ?_
  rintro e w1 ⟨rfl, hb1⟩
  have HB1 := Lib.hid hb1
  have HB := Lib.hid (Below.andThen HW.out.2 hb1)
  have hbx := HC.out w1 hb1
  obtain ⟨c0, c1, -, -⟩ := box_cells hbx
  clear hb1 hbx
  have HH := Lib.hid (rheavy7_c (c := c) (HX.out.1.below HB.out (Nat.le_refl _) (Nat.le_refl _)) HX.out.2.1 40 false HX.out.2.2.1)
  go_wp2_with (first
    | (go_at_call 13; refine HH.out.mono ?_; rintro e w' ⟨rfl, rfl⟩))
  go_ret
  exact ⟨rfl, HB.out⟩
set_option maxRecDepth 100000 in
set_option maxHeartbeats 2000000 in
theorem windowHalves_right {w : World} {A : Option Addr} {c : Nat} {l : List ActT} (k : Int) (hT : Tz w) (hA : ActsT w w.heap.size A l) (hl : l.length ≤ maxLen) {A2 : Option Addr} {c2 : Nat} {A3 : Option Addr} {c3 : Nat} {lo hi : List Nat} (hlm : lo.length ≤ maxLen) (m : Int) (a : Nat) (hh : heavyA 40 l = false) (hk : 1 ≤ k ∧ k ≤ 16) (hr : ¬ ((1 ≤ lo.length ∧ lo.length ≤ 16) ∧ lo.length = hi.length)) :
    Calls Tryz.prog 6 #[.int .i64 k, .slice A l.length c, boxV A2 lo.length c2 A3 hi.length c3, .int .i64 m, .int .u64 (a : Int)] w fun e w' => e = .returned (.bool true) ∧ Below w.heap.size w w' := by
  have d1 : decide (k < 1) = false := decide_eq_false (by have := hk.1; omega)
  have d2 : decide (16 < k) = false := decide_eq_false (by have := hk.2; omega)
  clear hk
  have HX := Lib.hid (And.intro hA (And.intro hl (And.intro hh hT)))
  clear hA hl hh hT
  obtain ⟨W, hW⟩ : ∃ W, W = w.alloc (.cells #[.slice A2 lo.length c2, .slice A3 hi.length c3] 25) := ⟨_, rfl⟩
  have hbw : Below w.heap.size w W := by rw [hW]; exact below_alloc _ _
  have HC : Hid (∀ w1, Below W.heap.size W w1 → w1.heap[w.heap.size]? = some (.cells #[.slice A2 lo.length c2, .slice A3 hi.length c3] 25 (0, 0))) := Lib.hid fun w1 hb => (hb.block w.heap.size (by rw [hW]; simp)).trans (by rw [hW]; exact heap_at w _ _ rfl)
  have HE : Hid (∀ w1, Below W.heap.size W w1 → True ∧ True) := Lib.hid fun _ _ => ⟨trivial, trivial⟩
  have HW := Lib.hid (And.intro hW hbw)
  clear hW hbw
  go_enter Tryz.func6, Tryz.ntmps6
  go_upto_region 1 with fail
  rw [← HW.out.1]
  go_wp2_with fail
  refine (awake9_c W (HX.out.2.2.2.on HW.out.2)).mono ?_
  rintro e w1 ⟨rfl, hb1⟩
  have HB1 := Lib.hid hb1
  have HB := Lib.hid (Below.andThen HW.out.2 hb1)
  have hbx := HC.out w1 hb1
  obtain ⟨c0, c1, -, -⟩ := box_cells hbx
  clear hb1 hbx
  have HH := Lib.hid (rheavy7_c (c := c) (HX.out.1.below HB.out (Nat.le_refl _) (Nat.le_refl _)) HX.out.2.1 40 false HX.out.2.2.1)
  go_wp2_with (first
    | (go_at_call 13; refine HH.out.mono ?_; rintro e w' ⟨rfl, rfl⟩)
    | (go_at_call 19; refine (r3right_n A2 A3 lo.length c2 hi.length c3 _ hlm hr).mono ?_; rintro e w2 ⟨rfl, hb2⟩; have hB2 := HB1.out.trans (hb2.mono HB1.out.size); obtain ⟨b0, b1, -, -⟩ := box_cells (HC.out _ hB2); obtain ⟨p0, p1⟩ := HE.out _ hB2))
  go_ret
  exact ⟨rfl, Below.andThen HB.out hb2⟩
set_option maxRecDepth 100000 in
set_option maxHeartbeats 2000000 in
theorem windowHalves_k {w : World} {A : Option Addr} {c : Nat} {l : List ActT} (k : Int) (hT : Tz w) (hA : ActsT w w.heap.size A l) (hl : l.length ≤ maxLen) {A2 : Option Addr} {c2 : Nat} {A3 : Option Addr} {c3 : Nat} {lo hi : List Nat} (m : Int) (a : Nat) (hh : heavyA 40 l = false) (hk : 1 ≤ k ∧ k ≤ 16) (hr : (1 ≤ lo.length ∧ lo.length ≤ 16) ∧ lo.length = hi.length) (hn : (lo.length : Int) ≠ k) :
    Calls Tryz.prog 6 #[.int .i64 k, .slice A l.length c, boxV A2 lo.length c2 A3 hi.length c3, .int .i64 m, .int .u64 (a : Int)] w fun e w' => e = .returned (.bool true) ∧ Below w.heap.size w w' := by
  have d1 : decide (k < 1) = false := decide_eq_false (by have := hk.1; omega)
  have d2 : decide (16 < k) = false := decide_eq_false (by have := hk.2; omega)
  have d5 : ((lo.length : Int) != k) = true := by rw [bne_iff_ne]; exact hn
  have HRy := Lib.hid fun w1 => r3right_y A2 A3 lo.length c2 hi.length c3 w1 hr.1.1 hr.1.2 hr.2
  clear hk hn hr
  have HX := Lib.hid (And.intro hA (And.intro hl (And.intro hh hT)))
  clear hA hl hh hT
  obtain ⟨W, hW⟩ : ∃ W, W = w.alloc (.cells #[.slice A2 lo.length c2, .slice A3 hi.length c3] 25) := ⟨_, rfl⟩
  have hbw : Below w.heap.size w W := by rw [hW]; exact below_alloc _ _
  have HC : Hid (∀ w1, Below W.heap.size W w1 → w1.heap[w.heap.size]? = some (.cells #[.slice A2 lo.length c2, .slice A3 hi.length c3] 25 (0, 0))) := Lib.hid fun w1 hb => (hb.block w.heap.size (by rw [hW]; simp)).trans (by rw [hW]; exact heap_at w _ _ rfl)
  have HE : Hid (∀ w1, Below W.heap.size W w1 → True ∧ True) := Lib.hid fun _ _ => ⟨trivial, trivial⟩
  have HW := Lib.hid (And.intro hW hbw)
  clear hW hbw
  go_enter Tryz.func6, Tryz.ntmps6
  go_upto_region 1 with fail
  rw [← HW.out.1]
  go_wp2_with fail
  refine (awake9_c W (HX.out.2.2.2.on HW.out.2)).mono ?_
  rintro e w1 ⟨rfl, hb1⟩
  have HB1 := Lib.hid hb1
  have HB := Lib.hid (Below.andThen HW.out.2 hb1)
  have hbx := HC.out w1 hb1
  obtain ⟨c0, c1, -, -⟩ := box_cells hbx
  clear hb1 hbx
  have HH := Lib.hid (rheavy7_c (c := c) (HX.out.1.below HB.out (Nat.le_refl _) (Nat.le_refl _)) HX.out.2.1 40 false HX.out.2.2.1)
  go_wp2_with (first
    | (go_at_call 13; refine HH.out.mono ?_; rintro e w' ⟨rfl, rfl⟩)
    | (go_at_call 19; refine (HRy.out _).mono ?_; rintro e w2 ⟨rfl, hb2⟩; have hB2 := HB1.out.trans (hb2.mono HB1.out.size); obtain ⟨b0, b1, -, -⟩ := box_cells (HC.out _ hB2); obtain ⟨p0, p1⟩ := HE.out _ hB2))
  go_ret
  exact ⟨rfl, Below.andThen HB.out hb2⟩
set_option maxRecDepth 100000 in
set_option maxHeartbeats 2000000 in
theorem windowHalves_neg {w : World} {A : Option Addr} {c : Nat} {l : List ActT} (k : Int) (hT : Tz w) (hA : ActsT w w.heap.size A l) (hl : l.length ≤ maxLen) {A2 : Option Addr} {c2 : Nat} {A3 : Option Addr} {c3 : Nat} {lo hi : List Nat} (m : Int) (a : Nat) (hh : heavyA 40 l = false) (hk : 1 ≤ k ∧ k ≤ 16) (hr : (1 ≤ lo.length ∧ lo.length ≤ 16) ∧ lo.length = hi.length) (hn : (lo.length : Int) = k) (hm : m < 0) :
    Calls Tryz.prog 6 #[.int .i64 k, .slice A l.length c, boxV A2 lo.length c2 A3 hi.length c3, .int .i64 m, .int .u64 (a : Int)] w fun e w' => e = .returned (.bool true) ∧ Below w.heap.size w w' := by
  have d1 : decide (k < 1) = false := decide_eq_false (by have := hk.1; omega)
  have d2 : decide (16 < k) = false := decide_eq_false (by have := hk.2; omega)
  have d5 : ((lo.length : Int) != k) = false := by rw [bne_eq_false_iff_eq]; exact hn
  have d6 : decide (m < 0) = true := decide_eq_true hm
  have HRy := Lib.hid fun w1 => r3right_y A2 A3 lo.length c2 hi.length c3 w1 hr.1.1 hr.1.2 hr.2
  clear hk hn hm hr
  have HX := Lib.hid (And.intro hA (And.intro hl (And.intro hh hT)))
  clear hA hl hh hT
  obtain ⟨W, hW⟩ : ∃ W, W = w.alloc (.cells #[.slice A2 lo.length c2, .slice A3 hi.length c3] 25) := ⟨_, rfl⟩
  have hbw : Below w.heap.size w W := by rw [hW]; exact below_alloc _ _
  have HC : Hid (∀ w1, Below W.heap.size W w1 → w1.heap[w.heap.size]? = some (.cells #[.slice A2 lo.length c2, .slice A3 hi.length c3] 25 (0, 0))) := Lib.hid fun w1 hb => (hb.block w.heap.size (by rw [hW]; simp)).trans (by rw [hW]; exact heap_at w _ _ rfl)
  have HE : Hid (∀ w1, Below W.heap.size W w1 → True ∧ True) := Lib.hid fun _ _ => ⟨trivial, trivial⟩
  have HW := Lib.hid (And.intro hW hbw)
  clear hW hbw
  go_enter Tryz.func6, Tryz.ntmps6
  go_upto_region 1 with fail
  rw [← HW.out.1]
  go_wp2_with fail
  refine (awake9_c W (HX.out.2.2.2.on HW.out.2)).mono ?_
  rintro e w1 ⟨rfl, hb1⟩
  have HB1 := Lib.hid hb1
  have HB := Lib.hid (Below.andThen HW.out.2 hb1)
  have hbx := HC.out w1 hb1
  obtain ⟨c0, c1, -, -⟩ := box_cells hbx
  clear hb1 hbx
  have HH := Lib.hid (rheavy7_c (c := c) (HX.out.1.below HB.out (Nat.le_refl _) (Nat.le_refl _)) HX.out.2.1 40 false HX.out.2.2.1)
  go_wp2_with (first
    | (go_at_call 13; refine HH.out.mono ?_; rintro e w' ⟨rfl, rfl⟩)
    | (go_at_call 19; refine (HRy.out _).mono ?_; rintro e w2 ⟨rfl, hb2⟩; have hB2 := HB1.out.trans (hb2.mono HB1.out.size); obtain ⟨b0, b1, -, -⟩ := box_cells (HC.out _ hB2); obtain ⟨p0, p1⟩ := HE.out _ hB2))
  go_ret
  exact ⟨rfl, Below.andThen HB.out hb2⟩
set_option maxRecDepth 100000 in
set_option maxHeartbeats 2000000 in
theorem windowHalves_far {w : World} {A : Option Addr} {c : Nat} {l : List ActT} (k : Int) (hT : Tz w) (hA : ActsT w w.heap.size A l) (hl : l.length ≤ maxLen) {A2 : Option Addr} {c2 : Nat} {A3 : Option Addr} {c3 : Nat} {lo hi : List Nat} (m : Int) (a : Nat) (hh : heavyA 40 l = false) (hk : 1 ≤ k ∧ k ≤ 16) (hr : (1 ≤ lo.length ∧ lo.length ≤ 16) ∧ lo.length = hi.length) (hn : (lo.length : Int) = k) (hm : k ≤ m) :
    Calls Tryz.prog 6 #[.int .i64 k, .slice A l.length c, boxV A2 lo.length c2 A3 hi.length c3, .int .i64 m, .int .u64 (a : Int)] w fun e w' => e = .returned (.bool true) ∧ Below w.heap.size w w' := by
  have d1 : decide (k < 1) = false := decide_eq_false (by have := hk.1; omega)
  have d2 : decide (16 < k) = false := decide_eq_false (by have := hk.2; omega)
  have d5 : ((lo.length : Int) != k) = false := by rw [bne_eq_false_iff_eq]; exact hn
  have d6 : decide (m < 0) = false := decide_eq_false (by omega)
  have d7 : decide (k ≤ m) = true := decide_eq_true hm
  have HRy := Lib.hid fun w1 => r3right_y A2 A3 lo.length c2 hi.length c3 w1 hr.1.1 hr.1.2 hr.2
  clear hk hn hm hr
  have HX := Lib.hid (And.intro hA (And.intro hl (And.intro hh hT)))
  clear hA hl hh hT
  obtain ⟨W, hW⟩ : ∃ W, W = w.alloc (.cells #[.slice A2 lo.length c2, .slice A3 hi.length c3] 25) := ⟨_, rfl⟩
  have hbw : Below w.heap.size w W := by rw [hW]; exact below_alloc _ _
  have HC : Hid (∀ w1, Below W.heap.size W w1 → w1.heap[w.heap.size]? = some (.cells #[.slice A2 lo.length c2, .slice A3 hi.length c3] 25 (0, 0))) := Lib.hid fun w1 hb => (hb.block w.heap.size (by rw [hW]; simp)).trans (by rw [hW]; exact heap_at w _ _ rfl)
  have HE : Hid (∀ w1, Below W.heap.size W w1 → True ∧ True) := Lib.hid fun _ _ => ⟨trivial, trivial⟩
  have HW := Lib.hid (And.intro hW hbw)
  clear hW hbw
  go_enter Tryz.func6, Tryz.ntmps6
  go_upto_region 1 with fail
  rw [← HW.out.1]
  go_wp2_with fail
  refine (awake9_c W (HX.out.2.2.2.on HW.out.2)).mono ?_
  rintro e w1 ⟨rfl, hb1⟩
  have HB1 := Lib.hid hb1
  have HB := Lib.hid (Below.andThen HW.out.2 hb1)
  have hbx := HC.out w1 hb1
  obtain ⟨c0, c1, -, -⟩ := box_cells hbx
  clear hb1 hbx
  have HH := Lib.hid (rheavy7_c (c := c) (HX.out.1.below HB.out (Nat.le_refl _) (Nat.le_refl _)) HX.out.2.1 40 false HX.out.2.2.1)
  go_wp2_with (first
    | (go_at_call 13; refine HH.out.mono ?_; rintro e w' ⟨rfl, rfl⟩)
    | (go_at_call 19; refine (HRy.out _).mono ?_; rintro e w2 ⟨rfl, hb2⟩; have hB2 := HB1.out.trans (hb2.mono HB1.out.size); obtain ⟨b0, b1, -, -⟩ := box_cells (HC.out _ hB2); obtain ⟨p0, p1⟩ := HE.out _ hB2))
  go_ret
  exact ⟨rfl, Below.andThen HB.out hb2⟩
set_option maxRecDepth 100000 in
set_option maxHeartbeats 2000000 in
theorem windowHalves_below {w : World} {A : Option Addr} {c : Nat} {l : List ActT} (k : Int) (hT : Tz w) (hA : ActsT w w.heap.size A l) (hl : l.length ≤ maxLen) {A2 : Option Addr} {c2 : Nat} {A3 : Option Addr} {c3 : Nat} {lo hi : List Nat} (hp : Pts w w.heap.size A2 lo) (hq : Pts w w.heap.size A3 hi) (m : Int) (a : Nat) (hh : heavyA 40 l = false) (hk : 1 ≤ k ∧ k ≤ 16) (hr : (1 ≤ lo.length ∧ lo.length ≤ 16) ∧ lo.length = hi.length) (hn : (lo.length : Int) = k) (hm : 0 ≤ m ∧ m < k) (ha : a < Bx.g lo m.toNat) :
    Calls Tryz.prog 6 #[.int .i64 k, .slice A l.length c, boxV A2 lo.length c2 A3 hi.length c3, .int .i64 m, .int .u64 (a : Int)] w fun e w' => e = .returned (.bool true) ∧ Below w.heap.size w w' := by
  have d1 : decide (k < 1) = false := decide_eq_false (by have := hk.1; omega)
  have d2 : decide (16 < k) = false := decide_eq_false (by have := hk.2; omega)
  have d5 : ((lo.length : Int) != k) = false := by rw [bne_eq_false_iff_eq]; exact hn
  have ha0 := ha
  have d6 : decide (m < 0) = false := decide_eq_false (by omega)
  have d7 : decide (k ≤ m) = false := decide_eq_false (by omega)
  obtain ⟨i, rfl⟩ : ∃ i : Nat, m = (i : Int) := ⟨m.toNat, by omega⟩
  have hi1 : i < lo.length := by omega
  have hi2 : i < hi.length := by omega
  have j1 : (0 : Int) ≤ (i : Int) := by omega
  have j2 : (i : Int) < (lo.length : Int) := by omega
  have j3 : (i : Int) < (hi.length : Int) := by omega
  obtain ⟨bl, ol, rfl, hbl, hel⟩ := hp.2 (by intro e; rw [e] at hi1; simp at hi1)
  obtain ⟨bh, oh, rfl, hbh, heh⟩ := hq.2 (by intro e; rw [e] at hi2; simp at hi2)
  have ha1 : a < Bx.g lo i := by simpa using ha
  have d8 : decide ((a : Int) < (Bx.g lo i : Int)) = true := decide_eq_true (by omega)
  have d8' : decide (a < Bx.g lo i) = true := decide_eq_true ha1
  have HRy := Lib.hid fun w1 => r3right_y (some ⟨bl, ol, none⟩) (some ⟨bh, oh, none⟩) lo.length c2 hi.length c3 w1 hr.1.1 hr.1.2 hr.2
  clear hk hn hm ha ha0 ha1 hr
  have HX := Lib.hid (And.intro hA (And.intro hl (And.intro hh hT)))
  clear hA hl hh hT
  obtain ⟨W, hW⟩ : ∃ W, W = w.alloc (.cells #[.slice (some ⟨bl, ol, none⟩) lo.length c2, .slice (some ⟨bh, oh, none⟩) hi.length c3] 25) := ⟨_, rfl⟩
  have hbw : Below w.heap.size w W := by rw [hW]; exact below_alloc _ _
  have HC : Hid (∀ w1, Below W.heap.size W w1 → w1.heap[w.heap.size]? = some (.cells #[.slice (some ⟨bl, ol, none⟩) lo.length c2, .slice (some ⟨bh, oh, none⟩) hi.length c3] 25 (0, 0))) := Lib.hid fun w1 hb => (hb.block w.heap.size (by rw [hW]; simp)).trans (by rw [hW]; exact heap_at w _ _ rfl)
  have HE : Hid (∀ w1, Below W.heap.size W w1 → w1.cell? ⟨bl, ol + i, none⟩ = some (.int .u64 (Bx.g lo i : Int)) ∧ w1.cell? ⟨bh, oh + i, none⟩ = some (.int .u64 (Bx.g hi i : Int))) := Lib.hid fun w1 hb => ⟨((Below.andThen hbw hb).cell (p := ⟨bl, ol + i, none⟩) hbl).trans (hel i _ (Bx.g_get hi1)), ((Below.andThen hbw hb).cell (p := ⟨bh, oh + i, none⟩) hbh).trans (heh i _ (Bx.g_get hi2))⟩
  clear hbl hel hbh heh hi1 hi2 hp hq
  have HW := Lib.hid (And.intro hW hbw)
  clear hW hbw
  go_enter Tryz.func6, Tryz.ntmps6
  go_upto_region 1 with fail
  rw [← HW.out.1]
  go_wp2_with fail
  refine (awake9_c W (HX.out.2.2.2.on HW.out.2)).mono ?_
  rintro e w1 ⟨rfl, hb1⟩
  have HB1 := Lib.hid hb1
  have HB := Lib.hid (Below.andThen HW.out.2 hb1)
  have hbx := HC.out w1 hb1
  obtain ⟨c0, c1, -, -⟩ := box_cells hbx
  clear hb1 hbx
  have HH := Lib.hid (rheavy7_c (c := c) (HX.out.1.below HB.out (Nat.le_refl _) (Nat.le_refl _)) HX.out.2.1 40 false HX.out.2.2.1)
  go_wp2_with (first
    | (go_at_call 13; refine HH.out.mono ?_; rintro e w' ⟨rfl, rfl⟩)
    | (go_at_call 19; refine (HRy.out _).mono ?_; rintro e w2 ⟨rfl, hb2⟩; have hB2 := HB1.out.trans (hb2.mono HB1.out.size); obtain ⟨b0, b1, -, -⟩ := box_cells (HC.out _ hB2); obtain ⟨p0, p1⟩ := HE.out _ hB2))
  go_ret
  exact ⟨rfl, Below.andThen HB.out hb2⟩
set_option maxRecDepth 100000 in
set_option maxHeartbeats 2000000 in
theorem windowHalves_above {w : World} {A : Option Addr} {c : Nat} {l : List ActT} (k : Int) (hT : Tz w) (hA : ActsT w w.heap.size A l) (hl : l.length ≤ maxLen) {A2 : Option Addr} {c2 : Nat} {A3 : Option Addr} {c3 : Nat} {lo hi : List Nat} (hp : Pts w w.heap.size A2 lo) (hq : Pts w w.heap.size A3 hi) (m : Int) (a : Nat) (hh : heavyA 40 l = false) (hk : 1 ≤ k ∧ k ≤ 16) (hr : (1 ≤ lo.length ∧ lo.length ≤ 16) ∧ lo.length = hi.length) (hn : (lo.length : Int) = k) (hm : 0 ≤ m ∧ m < k) (ha : Bx.g lo m.toNat ≤ a) (hb : Bx.g hi m.toNat ≤ a) :
    Calls Tryz.prog 6 #[.int .i64 k, .slice A l.length c, boxV A2 lo.length c2 A3 hi.length c3, .int .i64 m, .int .u64 (a : Int)] w fun e w' => e = .returned (.bool true) ∧ Below w.heap.size w w' := by
  have d1 : decide (k < 1) = false := decide_eq_false (by have := hk.1; omega)
  have d2 : decide (16 < k) = false := decide_eq_false (by have := hk.2; omega)
  have d5 : ((lo.length : Int) != k) = false := by rw [bne_eq_false_iff_eq]; exact hn
  have d6 : decide (m < 0) = false := decide_eq_false (by omega)
  have d7 : decide (k ≤ m) = false := decide_eq_false (by omega)
  obtain ⟨i, rfl⟩ : ∃ i : Nat, m = (i : Int) := ⟨m.toNat, by omega⟩
  have hi1 : i < lo.length := by omega
  have hi2 : i < hi.length := by omega
  have j1 : (0 : Int) ≤ (i : Int) := by omega
  have j2 : (i : Int) < (lo.length : Int) := by omega
  have j3 : (i : Int) < (hi.length : Int) := by omega
  obtain ⟨bl, ol, rfl, hbl, hel⟩ := hp.2 (by intro e; rw [e] at hi1; simp at hi1)
  obtain ⟨bh, oh, rfl, hbh, heh⟩ := hq.2 (by intro e; rw [e] at hi2; simp at hi2)
  have ha1 : Bx.g lo i ≤ a := by simpa using ha
  have hb1' : Bx.g hi i ≤ a := by simpa using hb
  have d8 : decide ((a : Int) < (Bx.g lo i : Int)) = false := decide_eq_false (by omega)
  have d8' : decide (a < Bx.g lo i) = false := decide_eq_false (by omega)
  have d9 : decide ((Bx.g hi i : Int) ≤ (a : Int)) = true := decide_eq_true (by omega)
  have d9' : decide (Bx.g hi i ≤ a) = true := decide_eq_true hb1'
  have HRy := Lib.hid fun w1 => r3right_y (some ⟨bl, ol, none⟩) (some ⟨bh, oh, none⟩) lo.length c2 hi.length c3 w1 hr.1.1 hr.1.2 hr.2
  clear hk hn hm ha ha1 hb hb1' hr
  have HX := Lib.hid (And.intro hA (And.intro hl (And.intro hh hT)))
  clear hA hl hh hT
  obtain ⟨W, hW⟩ : ∃ W, W = w.alloc (.cells #[.slice (some ⟨bl, ol, none⟩) lo.length c2, .slice (some ⟨bh, oh, none⟩) hi.length c3] 25) := ⟨_, rfl⟩
  have hbw : Below w.heap.size w W := by rw [hW]; exact below_alloc _ _
  have HC : Hid (∀ w1, Below W.heap.size W w1 → w1.heap[w.heap.size]? = some (.cells #[.slice (some ⟨bl, ol, none⟩) lo.length c2, .slice (some ⟨bh, oh, none⟩) hi.length c3] 25 (0, 0))) := Lib.hid fun w1 hb => (hb.block w.heap.size (by rw [hW]; simp)).trans (by rw [hW]; exact heap_at w _ _ rfl)
  have HE : Hid (∀ w1, Below W.heap.size W w1 → w1.cell? ⟨bl, ol + i, none⟩ = some (.int .u64 (Bx.g lo i : Int)) ∧ w1.cell? ⟨bh, oh + i, none⟩ = some (.int .u64 (Bx.g hi i : Int))) := Lib.hid fun w1 hb => ⟨((Below.andThen hbw hb).cell (p := ⟨bl, ol + i, none⟩) hbl).trans (hel i _ (Bx.g_get hi1)), ((Below.andThen hbw hb).cell (p := ⟨bh, oh + i, none⟩) hbh).trans (heh i _ (Bx.g_get hi2))⟩
  clear hbl hel hbh heh hi1 hi2 hp hq
  have HW := Lib.hid (And.intro hW hbw)
  clear hW hbw
  go_enter Tryz.func6, Tryz.ntmps6
  go_upto_region 1 with fail
  rw [← HW.out.1]
  go_wp2_with fail
  refine (awake9_c W (HX.out.2.2.2.on HW.out.2)).mono ?_
  rintro e w1 ⟨rfl, hb1⟩
  have HB1 := Lib.hid hb1
  have HB := Lib.hid (Below.andThen HW.out.2 hb1)
  have hbx := HC.out w1 hb1
  obtain ⟨c0, c1, -, -⟩ := box_cells hbx
  clear hb1 hbx
  have HH := Lib.hid (rheavy7_c (c := c) (HX.out.1.below HB.out (Nat.le_refl _) (Nat.le_refl _)) HX.out.2.1 40 false HX.out.2.2.1)
  go_wp2_with (first
    | (go_at_call 13; refine HH.out.mono ?_; rintro e w' ⟨rfl, rfl⟩)
    | (go_at_call 19; refine (HRy.out _).mono ?_; rintro e w2 ⟨rfl, hb2⟩; have hB2 := HB1.out.trans (hb2.mono HB1.out.size); obtain ⟨b0, b1, -, -⟩ := box_cells (HC.out _ hB2); obtain ⟨p0, p1⟩ := HE.out _ hB2))
  go_ret
  exact ⟨rfl, Below.andThen HB.out hb2⟩
end Go.Proofs.YtdpbcfjhljgicaaGreatDoor

/-
  THE LAW WindowHalves where it is not skipped. Laid by wip/gen38.py.
-/
namespace Go.Proofs.YtdpbcfjhljgicaaGreatDoor
open Go.ChangeShapes Go.WideShapes Go.ChangeAt Go.RowKit
open Tr (T S4 Ent)

theorem own_e1 (w : World) : OwnV 38 (w.alloc (.cells #[] 38)) w.heap.size (.slice (some ⟨w.heap.size, 0, none⟩) 0 0) [] := ownV_nil _ _
theorem own_e2 (w : World) (ob : Obj) : OwnV 38 ((w.alloc (.cells #[] 38)).alloc ob) w.heap.size (.slice (some ⟨w.heap.size, 0, none⟩) 0 0) [] := (ownV_nil _ _).below (below_alloc _ _) (Nat.le_refl _)
theorem own_e3 (w : World) (ob : Obj) : OwnV 38 ((w.alloc ob).alloc (.cells #[] 38)) w.heap.size (.slice (some ⟨w.heap.size + 1, 0, none⟩) 0 0) [] := by
  have h := ownV_nil 38 (w.alloc ob)
  have hs : (w.alloc ob).heap.size = w.heap.size + 1 := by simp
  rw [hs] at h
  refine ⟨h.1, h.2.1, ?_⟩
  rcases h.2.2 with h2 | ⟨g, cap, cur, hv, hg, r⟩
  · exact .inl h2
  · exact .inr ⟨g, cap, cur, hv, by omega, r⟩
/-- a side of a box in a row of its own -/
theorem side_own {w w3 : World} {us : List Nat} {D : Option Addr} {d : Nat} (hne : us ≠ []) (hok : Z.Ok us) (h : OwnV 38 w3 w.heap.size (.slice D ([] ++ vals us).length d) ([] ++ vals us)) : ∃ q, D = some ⟨q, 0, none⟩ ∧ Own w3 w.heap.size (.slice (some ⟨q, 0, none⟩) us.length d) us := by
  rw [List.nil_append, vals_length] at h
  obtain ⟨g, d', hv⟩ := h.row (by intro e; apply hne; simpa [vals] using e)
  simp only [Value.slice.injEq] at hv
  obtain ⟨rfl, -, rfl⟩ := hv
  refine ⟨g, rfl, hok, ?_⟩
  have := h.2
  rw [vals_length] at this
  exact this
/-- a part of a box: its own block g, one side of it in a row q of its own -/
structure Hf (w0 : Nat) (w wx : World) (g q d : Nat) (x y : Value) (us : List Nat) : Prop where
  blk : wx.heap[g]? = some (.cells #[x, y] 25 (0, 0))
  own : Own wx w0 (.slice (some ⟨q, 0, none⟩) us.length d) us
  ge : w0 ≤ g
  ne : g ≠ q
  bel : Below w0 w wx
theorem own_ty {w : World} {base q n d : Nat} {us : List Nat} (h : Own w base (.slice (some ⟨q, 0, none⟩) n d) us) (hne : us ≠ []) : ∃ cur, w.heap[q]? = some (.cells cur 38 (0, 0)) := by
  rcases h.2.2 with ⟨hv, hn⟩ | ⟨g, cap, cur, hv, hg, hh, r⟩
  · exact absurd (List.eq_nil_of_length_eq_zero hn) hne
  · simp only [Value.slice.injEq, Option.some.injEq, Addr.mk.injEq] at hv
    obtain ⟨⟨rfl, -⟩, -⟩ := hv
    exact ⟨cur, hh⟩
theorem hf_alloc {w0 : Nat} {w w3 : World} {q d : Nat} {us : List Nat} (x y : Value) (ho : Own w3 w0 (.slice (some ⟨q, 0, none⟩) us.length d) us) (h0 : w0 ≤ w.heap.size) (hb : Below w0 w w3) : Hf w0 w (w3.alloc (.cells #[x, y] 25)) w3.heap.size q d x y us where
  blk := heap_at _ _ _ rfl
  own := ho.below (below_alloc _ _) (Nat.le_refl _)
  ge := Nat.le_trans h0 hb.size
  ne := fun e => by have := (ho.2.lt q rfl).2; omega
  bel := hb.trans ((below_alloc _ _).mono (Nat.le_trans h0 hb.size))
theorem hf_set {w0 : Nat} {w w3 : World} {g q d : Nat} {us : List Nat} {x0 y0 : Value} (x y : Value) (hz : w3.heap[g]? = some (.cells #[x0, y0] 25 (0, 0))) (hne : us ≠ []) (ho : Own w3 w0 (.slice (some ⟨q, 0, none⟩) us.length d) us) (hg : w0 ≤ g) (hb : Below w0 w w3) : Hf w0 w ((w3.setCell ⟨g, 0, none⟩ x).setCell ⟨g, 1, none⟩ y) g q d x y us := by
  have hn : g ≠ q := fun e => by
    obtain ⟨cur, hc⟩ := own_ty ho hne
    rw [← e, hz] at hc
    simp at hc
  refine ⟨?_, own_set (own_set ho ?_ _) ?_ _, hg, hn, (hb.setCell (p := ⟨g, 0, none⟩) hg _).setCell (p := ⟨g, 1, none⟩) hg _⟩
  · rw [block_set (block_set hz _) _]; rfl
  · simpa [Value.ownBlock] using fun e => hn e.symm
  · simpa [Value.ownBlock] using fun e => hn e.symm
/-- a number of an own row is written -/
theorem own_put {w : World} {base q d i : Nat} {us : List Nat} (h : Own w base (.slice (some ⟨q, 0, none⟩) us.length d) us) (hi : i < us.length) {x : Nat} (hx : x < 18446744073709551616) :
    (∃ y, w.cell? ⟨q, i, none⟩ = some y) ∧ w.frozen? ⟨q, i, none⟩ = false ∧ Own (w.setCell ⟨q, i, none⟩ (.int .u64 (x : Int))) base (.slice (some ⟨q, 0, none⟩) us.length d) (us.set i x) := by
  have o := h.2
  have hvl := vals_length us
  refine ⟨?_, o.frozenAt i, ok_set h.1 hx, ?_⟩
  · rw [o.cellAt i (by omega)]
    exact get_lt (by rw [hvl]; exact hi)
  · have o3 := (o.stored i (.int .u64 (x : Int))).1
    rw [vals_set] at o3
    rw [List.length_set]
    exact o3
theorem NewE.cap {base : Nat} {w : World} {A : Option Addr} {c : Nat} {L : List Ent} (h : NewE base w A c L) : L.length ≤ c := by
  obtain ⟨A', c', hv, hc, -⟩ := OwnL.rd (entG_ok _ _) h
  simp only [Value.slice.injEq] at hv
  obtain ⟨-, -, rfl⟩ := hv
  exact hc
set_option maxRecDepth 1000000 in
set_option maxHeartbeats 8000000 in
theorem windowHalves_go {w : World} {A : Option Addr} {c : Nat} {l : List ActT} (k : Nat) (hT : Tz w) (hA : ActsT w w.heap.size A l) (hl : l.length ≤ maxLen) (hh : heavyA 40 l = false) (h1 : 1 ≤ k) (h16 : k ≤ 16) {A2 : Option Addr} {c2 : Nat} {A3 : Option Addr} {c3 : Nat} {lo hi : List Nat} (hp : Pts w w.heap.size A2 lo) (hq : Pts w w.heap.size A3 hi) (hlo : lo.length = k) (hhi : hi.length = k) (i a : Nat) (hik : i < k) (hl1 : Bx.g lo i ≤ a) (hh1 : a < Bx.g hi i) :
    Calls Tryz.prog 6 #[.int .i64 (k : Int), .slice A l.length c, boxV A2 lo.length c2 A3 hi.length c3, .int .i64 (i : Int), .int .u64 (a : Int)] w fun e w' => e = .returned (.bool true) ∧ Below w.heap.size w w' := by
  have hfew := heavyA_few hh
  have d1 : decide ((k : Int) < 1) = false := decide_eq_false (by omega)
  have d2 : decide ((16 : Int) < (k : Int)) = false := decide_eq_false (by omega)
  have d5 : ((lo.length : Int) != (k : Int)) = false := by rw [hlo]; simp
  have d6 : decide ((i : Int) < 0) = false := decide_eq_false (by omega)
  have d7 : decide ((k : Int) ≤ (i : Int)) = false := decide_eq_false (by omega)
  have d7' : decide (k ≤ i) = false := decide_eq_false (by omega)
  have d8 : decide ((a : Int) < (Bx.g lo i : Int)) = false := decide_eq_false (by omega)
  have d8' : decide (a < Bx.g lo i) = false := decide_eq_false (by omega)
  have d9 : decide ((Bx.g hi i : Int) ≤ (a : Int)) = false := decide_eq_false (by omega)
  have d9' : decide (Bx.g hi i ≤ a) = false := decide_eq_false (by omega)
  have j1 : (0 : Int) ≤ (i : Int) := by omega
  have j2 : (i : Int) < (lo.length : Int) := by omega
  have j3 : (i : Int) < (hi.length : Int) := by omega
  have hi1 : i < lo.length := by omega
  have hi2 : i < hi.length := by omega
  have HX := Lib.hid (And.intro hA (And.intro hl (And.intro hh hT)))
  have HK := Lib.hid (And.intro h1 (And.intro h16 (And.intro hfew (And.intro hik (And.intro hl1 hh1)))))
  have HP := Lib.hid (And.intro hp (And.intro hq (And.intro hlo hhi)))
  obtain ⟨bl, ol, rfl, hbl, hel⟩ := hp.2 (by intro e; rw [e] at hi1; simp at hi1)
  obtain ⟨bh, oh, rfl, hbh, heh⟩ := hq.2 (by intro e; rw [e] at hi2; simp at hi2)
  have HRy := Lib.hid fun w1 => r3right_y (some ⟨bl, ol, none⟩) (some ⟨bh, oh, none⟩) lo.length c2 hi.length c3 w1 (by omega) (by omega) (by omega)
  obtain ⟨W, hW⟩ : ∃ W, W = w.alloc (.cells #[.slice (some ⟨bl, ol, none⟩) lo.length c2, .slice (some ⟨bh, oh, none⟩) hi.length c3] 25) := ⟨_, rfl⟩
  have hbw : Below w.heap.size w W := by rw [hW]; exact below_alloc _ _
  have HC : Hid (∀ w1, Below W.heap.size W w1 → w1.heap[w.heap.size]? = some (.cells #[.slice (some ⟨bl, ol, none⟩) lo.length c2, .slice (some ⟨bh, oh, none⟩) hi.length c3] 25 (0, 0))) := Lib.hid fun w1 hb => (hb.block w.heap.size (by rw [hW]; simp)).trans (by rw [hW]; exact heap_at w _ _ rfl)
  have HE : Hid (∀ w1, Below W.heap.size W w1 → w1.cell? ⟨bl, ol + i, none⟩ = some (.int .u64 (Bx.g lo i : Int)) ∧ w1.cell? ⟨bh, oh + i, none⟩ = some (.int .u64 (Bx.g hi i : Int))) := Lib.hid fun w1 hb => ⟨((Below.andThen hbw hb).cell (p := ⟨bl, ol + i, none⟩) hbl).trans (hel i _ (Bx.g_get hi1)), ((Below.andThen hbw hb).cell (p := ⟨bh, oh + i, none⟩) hbh).trans (heh i _ (Bx.g_get hi2))⟩
  have HW := Lib.hid (And.intro hW hbw)
  clear hbl hel hbh heh hi1 hi2 hp hq hA hl hh hT h1 h16 hfew hik hl1 hh1 hlo hhi hW hbw
  go_enter Tryz.func6, Tryz.ntmps6
  go_upto_region 1 with fail
  rw [← HW.out.1]
  go_wp2_with fail
  refine (awake9_c W (HX.out.2.2.2.on HW.out.2)).mono ?_
  rintro e w0 ⟨rfl, hb0⟩
  obtain ⟨c0, c1, -, -⟩ := box_cells (HC.out w0 hb0)
  have HB0 := Lib.hid hb0
  have hbw0 := Below.andThen HW.out.2 hb0
  clear hb0
  have HH := Lib.hid (rheavy7_c (c := c) (HX.out.1.below hbw0 (Nat.le_refl _) (Nat.le_refl _)) HX.out.2.1 40 false HX.out.2.2.1)
  have HG := Lib.hid fun w1 (hb : Below w0.heap.size w0 w1) => grown_c (c := c) HK.out.1 HK.out.2.1 (HX.out.1.below (Below.andThen hbw0 hb) (Nat.le_refl _) (Nat.le_refl _)) (Below.andThen hbw0 hb).size (by have := HK.out.2.2.1; omega)
  clear hbw0
  go_upto_region 8 with (first
    | (go_at_call 13; refine HH.out.mono ?_; rintro e w' ⟨rfl, rfl⟩)
    | (go_at_call 19; refine (HRy.out _).mono ?_; rintro e w1 ⟨rfl, hb1⟩; have hB1 := HB0.out.trans (hb1.mono HB0.out.size); clear c0 c1; obtain ⟨c0, c1, -, -⟩ := box_cells (HC.out _ hB1); obtain ⟨p0, p1⟩ := HE.out _ hB1; have HB1 := Lib.hid hB1; clear hB1)
    | (go_at_call 15; refine (HG.out _ hb1).mono ?_; rintro e w2 ⟨tb, o, D2, d2c, rfl, hd2, -, hb2⟩; have hB2 := HB1.out.trans (hb2.mono HB1.out.size); have HD := Lib.hid hd2; have HB2 := Lib.hid hB2; clear hd2 hb2 hB2 hb1 c0 c1 p0 p1 HG HH HB1 HB0))
  have hbw2 : Below w.heap.size w w2 := Below.andThen HW.out.2 HB2.out
  have HQ2 := Lib.hid (And.intro ((HP.out.1.below' hbw2 (Nat.le_refl _)).keep hbw2.size (fun _ _ => rfl)) ((HP.out.2.1.below' hbw2 (Nat.le_refl _)).keep hbw2.size (fun _ _ => rfl)))
  obtain ⟨c0, c1, -, -⟩ := box_cells (HC.out w2 HB2.out)
  clear hbw2
  have c0a : ∀ ob, (w2.alloc ob).cell? ⟨w.heap.size, 0, none⟩ = some (.slice (some ⟨bl, ol, none⟩) lo.length c2) := fun ob => (box_cells (HC.out _ (HB2.out.trans ((below_alloc w2 ob).mono HB2.out.size)))).1
  have c1a : ∀ ob, (w2.alloc ob).cell? ⟨w.heap.size, 1, none⟩ = some (.slice (some ⟨bh, oh, none⟩) hi.length c3) := fun ob => (box_cells (HC.out _ (HB2.out.trans ((below_alloc w2 ob).mono HB2.out.size)))).2.1
  have c0b : ∀ ob oc, ((w2.alloc ob).alloc oc).cell? ⟨w.heap.size, 0, none⟩ = some (.slice (some ⟨bl, ol, none⟩) lo.length c2) := fun ob oc => (box_cells (HC.out _ (HB2.out.trans (Below.mono (by ((repeat (first | refine Below.drew ?_ | (with_reducible refine below_drewN _ ?_) | refine Below.alloc ?_ (by first | omega | (simp; done) | (simp; omega)) _ | refine Below.setCell ?_ (by first | omega | (simp; done) | (simp; omega)) _)); first | exact Below.refl _ _ | assumption | exact below_drewN _ (Below.refl _ _) | exact below_drewN _ (below_drewN _ (Below.refl _ _)))) HB2.out.size)))).1
  have c1b : ∀ ob oc, ((w2.alloc ob).alloc oc).cell? ⟨w.heap.size, 1, none⟩ = some (.slice (some ⟨bh, oh, none⟩) hi.length c3) := fun ob oc => (box_cells (HC.out _ (HB2.out.trans (Below.mono (by ((repeat (first | refine Below.drew ?_ | (with_reducible refine below_drewN _ ?_) | refine Below.alloc ?_ (by first | omega | (simp; done) | (simp; omega)) _ | refine Below.setCell ?_ (by first | omega | (simp; done) | (simp; omega)) _)); first | exact Below.refl _ _ | assumption | exact below_drewN _ (Below.refl _ _) | exact below_drewN _ (below_drewN _ (Below.refl _ _)))) HB2.out.size)))).2.1
  have hlen : hi.length ≤ 1000000 := by have := HP.out.2.2.2; have := HK.out.2.1; omega
  have HRd := Lib.hid (pts_rdV HQ2.out.2)
  have hne : hi ≠ [] := by intro e; rw [e] at j3; simp at j3; omega
  have hne' : lo ≠ [] := by intro e; rw [e] at j2; simp at j2; omega
  have HNE := Lib.hid (And.intro hne hne')
  clear hne hne'
  go_cut [14] from 88 (fun v wx => ∃ g q d, v = .pointer (some ⟨g, 0, none⟩) ∧ Hf w2.heap.size w2 wx g q d (.slice (some ⟨bl, ol, none⟩) lo.length c2) (.slice (some ⟨q, 0, none⟩) hi.length d) hi)
  case first =>
    as_aux_lemma =>
      go_region_law ((refine step_append_vals 23 38 (Value.int .u64 0) 8 Tryz.underlying23 info_u64 (by rfl) (by omega) (by rfl) _ _ (by rfl) w2.heap.size _ [] (vals hi) (by rfl) (by first | exact own_e1 _ | exact own_e2 _ _ | exact own_e3 _ _ | exact OwnV.drew (own_e1 _) | exact OwnV.drew (own_e2 _ _) | exact OwnV.drew (own_e3 _ _)) w2.heap.size (some ⟨bh, oh, none⟩) hi.length c3 (vals_length hi) (by rfl) (by exact HRd.out.below (by ((repeat (first | refine Below.drew ?_ | (with_reducible refine below_drewN _ ?_) | refine Below.alloc ?_ (by first | omega | (simp; done) | (simp; omega)) _ | refine Below.setCell ?_ (by first | omega | (simp; done) | (simp; omega)) _)); first | exact Below.refl _ _ | assumption | exact below_drewN _ (Below.refl _ _) | exact below_drewN _ (below_drewN _ (Below.refl _ _)))) (Nat.le_refl _) (Nat.le_refl _)) (vals_one hi) (by rw [vals_length]; simp; omega) (by (first | omega | (simp; done) | (simp; omega))) ?_; intro D3 d3 w3 hown3 hgrow3 hat3; first | (have hg3 : ((w2.alloc (.cells #[] 38)).alloc (.cells #[.slice none 0 0, .slice none 0 0] 25)).grownBy w3 (some (w2.heap.size)) := ⟨hgrow3.os, hgrow3.tape, hgrow3.output, hgrow3.size, hgrow3.block⟩; have hz : w3.heap[w2.heap.size + 1]? = some (.cells #[.slice none 0 0, .slice none 0 0] 25 (0, 0)) := (hg3.block _ (by (first | omega | (simp; done) | (simp; omega))) (by simp)).trans (by (first | (refine heap_at _ _ _ ?_; simp; done) | (refine heap_past _ (heap_at _ _ _ ?_); simp; done) | (refine heap_past _ (heap_past _ (heap_at _ _ _ ?_)); simp; done) | (refine heap_past _ (heap_past _ (heap_past _ (heap_at _ _ _ ?_))); simp; done))); obtain ⟨z0, z1, z2, z3⟩ := box_cells hz; have hb3 : Below w2.heap.size w2 w3 := Below.grown (show Below w2.heap.size w2 _ by ((repeat (first | refine Below.drew ?_ | (with_reducible refine below_drewN _ ?_) | refine Below.alloc ?_ (by first | omega | (simp; done) | (simp; omega)) _ | refine Below.setCell ?_ (by first | omega | (simp; done) | (simp; omega)) _)); first | exact Below.refl _ _ | assumption | exact below_drewN _ (Below.refl _ _) | exact below_drewN _ (below_drewN _ (Below.refl _ _)))) hg3 (by (first | omega | (simp; done) | (simp; omega))) (fun q hq => by simp only [Option.some.injEq] at hq; omega); have c0c : w3.cell? ⟨w.heap.size, 0, none⟩ = some (.slice (some ⟨bl, ol, none⟩) lo.length c2) := (box_cells (HC.out _ (HB2.out.trans (hb3.mono HB2.out.size)))).1; have c0d : ∀ ob, (w3.alloc ob).cell? ⟨w.heap.size, 0, none⟩ = some (.slice (some ⟨bl, ol, none⟩) lo.length c2) := fun ob => (box_cells (HC.out _ (HB2.out.trans (Below.mono (hb3.trans ((below_alloc w3 ob).mono hb3.size)) HB2.out.size)))).1; clear hgrow3 hat3) | (have hg3 : ((w2.alloc (.cells #[.slice none 0 0, .slice none 0 0] 25)).alloc (.cells #[] 38)).grownBy w3 (some (w2.heap.size + 1)) := ⟨hgrow3.os, hgrow3.tape, hgrow3.output, hgrow3.size, hgrow3.block⟩; have hz : w3.heap[w2.heap.size]? = some (.cells #[.slice none 0 0, .slice none 0 0] 25 (0, 0)) := (hg3.block _ (by (first | omega | (simp; done) | (simp; omega))) (by simp)).trans (by (first | (refine heap_at _ _ _ ?_; simp; done) | (refine heap_past _ (heap_at _ _ _ ?_); simp; done) | (refine heap_past _ (heap_past _ (heap_at _ _ _ ?_)); simp; done) | (refine heap_past _ (heap_past _ (heap_past _ (heap_at _ _ _ ?_))); simp; done))); obtain ⟨z0, z1, z2, z3⟩ := box_cells hz; have hb3 : Below w2.heap.size w2 w3 := Below.grown (show Below w2.heap.size w2 _ by ((repeat (first | refine Below.drew ?_ | (with_reducible refine below_drewN _ ?_) | refine Below.alloc ?_ (by first | omega | (simp; done) | (simp; omega)) _ | refine Below.setCell ?_ (by first | omega | (simp; done) | (simp; omega)) _)); first | exact Below.refl _ _ | assumption | exact below_drewN _ (Below.refl _ _) | exact below_drewN _ (below_drewN _ (Below.refl _ _)))) hg3 (by (first | omega | (simp; done) | (simp; omega))) (fun q hq => by simp only [Option.some.injEq] at hq; omega); have c0c : w3.cell? ⟨w.heap.size, 0, none⟩ = some (.slice (some ⟨bl, ol, none⟩) lo.length c2) := (box_cells (HC.out _ (HB2.out.trans (hb3.mono HB2.out.size)))).1; have c0d : ∀ ob, (w3.alloc ob).cell? ⟨w.heap.size, 0, none⟩ = some (.slice (some ⟨bl, ol, none⟩) lo.length c2) := fun ob => (box_cells (HC.out _ (HB2.out.trans (Below.mono (hb3.trans ((below_alloc w3 ob).mono hb3.size)) HB2.out.size)))).1; clear hgrow3 hat3) | (have hg3 : (w2.alloc (.cells #[] 38)).grownBy w3 (some (w2.heap.size)) := ⟨hgrow3.os, hgrow3.tape, hgrow3.output, hgrow3.size, hgrow3.block⟩; have hb3 : Below w2.heap.size w2 w3 := Below.grown (show Below w2.heap.size w2 _ by ((repeat (first | refine Below.drew ?_ | (with_reducible refine below_drewN _ ?_) | refine Below.alloc ?_ (by first | omega | (simp; done) | (simp; omega)) _ | refine Below.setCell ?_ (by first | omega | (simp; done) | (simp; omega)) _)); first | exact Below.refl _ _ | assumption | exact below_drewN _ (Below.refl _ _) | exact below_drewN _ (below_drewN _ (Below.refl _ _)))) hg3 (by (first | omega | (simp; done) | (simp; omega))) (fun q hq => by simp only [Option.some.injEq] at hq; omega); have c0c : w3.cell? ⟨w.heap.size, 0, none⟩ = some (.slice (some ⟨bl, ol, none⟩) lo.length c2) := (box_cells (HC.out _ (HB2.out.trans (hb3.mono HB2.out.size)))).1; have c0d : ∀ ob, (w3.alloc ob).cell? ⟨w.heap.size, 0, none⟩ = some (.slice (some ⟨bl, ol, none⟩) lo.length c2) := fun ob => (box_cells (HC.out _ (HB2.out.trans (Below.mono (hb3.trans ((below_alloc w3 ob).mono hb3.size)) HB2.out.size)))).1; clear hgrow3 hat3)))
      all_goals (
        obtain ⟨q, rfl, ho⟩ := side_own HNE.out.1 HQ2.out.2.1 hown3
        simp only [vals_length]
        go_wp2_with fail
        go_meet
        first
          | exact ⟨_, q, d3, rfl, hf_alloc _ _ ho (Nat.le_refl _) hb3⟩
          | exact ⟨_, q, d3, rfl, hf_set _ _ hz HNE.out.1 ho (by omega) hb3⟩)
  case rest =>
    obtain ⟨g4, q4, dq4, rfl, hf4⟩ := hcut
    obtain ⟨W4, hW4⟩ : ∃ W4, W4 = wc := ⟨_, rfl⟩
    rw [← hW4] at hf4 ⊢
    have HB4 := Lib.hid (HB2.out.trans (hf4.bel.mono HB2.out.size))
    have HQ4 := Lib.hid (And.intro ((HQ2.out.1.below' hf4.bel (Nat.le_refl _)).keep hf4.bel.size (fun _ _ => rfl)) ((HQ2.out.2.below' hf4.bel (Nat.le_refl _)).keep hf4.bel.size (fun _ _ => rfl)))
    have HF4 := Lib.hid hf4
    clear c0 c1 c0a c1a c0b c1b hW4 hf4 HRd
    obtain ⟨c0, c1, -, -⟩ := box_cells (HC.out W4 HB4.out)
    go_upto_region 9 with fail
    have c0a : ∀ ob, (W4.alloc ob).cell? ⟨w.heap.size, 0, none⟩ = some (.slice (some ⟨bl, ol, none⟩) lo.length c2) := fun ob => (box_cells (HC.out _ (HB4.out.trans ((below_alloc W4 ob).mono HB4.out.size)))).1
    have c1a : ∀ ob, (W4.alloc ob).cell? ⟨w.heap.size, 1, none⟩ = some (.slice (some ⟨bh, oh, none⟩) hi.length c3) := fun ob => (box_cells (HC.out _ (HB4.out.trans ((below_alloc W4 ob).mono HB4.out.size)))).2.1
    have c0b : ∀ ob oc, ((W4.alloc ob).alloc oc).cell? ⟨w.heap.size, 0, none⟩ = some (.slice (some ⟨bl, ol, none⟩) lo.length c2) := fun ob oc => (box_cells (HC.out _ (HB4.out.trans (Below.mono (by ((repeat (first | refine Below.drew ?_ | (with_reducible refine below_drewN _ ?_) | refine Below.alloc ?_ (by first | omega | (simp; done) | (simp; omega)) _ | refine Below.setCell ?_ (by first | omega | (simp; done) | (simp; omega)) _)); first | exact Below.refl _ _ | assumption | exact below_drewN _ (Below.refl _ _) | exact below_drewN _ (below_drewN _ (Below.refl _ _)))) HB4.out.size)))).1
    have c1b : ∀ ob oc, ((W4.alloc ob).alloc oc).cell? ⟨w.heap.size, 1, none⟩ = some (.slice (some ⟨bh, oh, none⟩) hi.length c3) := fun ob oc => (box_cells (HC.out _ (HB4.out.trans (Below.mono (by ((repeat (first | refine Below.drew ?_ | (with_reducible refine below_drewN _ ?_) | refine Below.alloc ?_ (by first | omega | (simp; done) | (simp; omega)) _ | refine Below.setCell ?_ (by first | omega | (simp; done) | (simp; omega)) _)); first | exact Below.refl _ _ | assumption | exact below_drewN _ (Below.refl _ _) | exact below_drewN _ (below_drewN _ (Below.refl _ _)))) HB4.out.size)))).2.1
    have hlen' : lo.length ≤ 1000000 := by have := HP.out.2.2.1; have := HK.out.2.1; omega
    have HRd := Lib.hid (pts_rdV HQ4.out.1)
    go_cut [15] from 95 (fun v wx => ∃ g q d, v = .pointer (some ⟨g, 0, none⟩) ∧ Hf W4.heap.size W4 wx g q d (.slice (some ⟨q, 0, none⟩) lo.length d) (.slice (some ⟨bh, oh, none⟩) hi.length c3) lo)
    case first =>
      as_aux_lemma =>
        go_region_law ((refine step_append_vals 23 38 (Value.int .u64 0) 8 Tryz.underlying23 info_u64 (by rfl) (by omega) (by rfl) _ _ (by rfl) W4.heap.size _ [] (vals lo) (by rfl) (by first | exact own_e1 _ | exact own_e2 _ _ | exact own_e3 _ _ | exact OwnV.drew (own_e1 _) | exact OwnV.drew (own_e2 _ _) | exact OwnV.drew (own_e3 _ _)) W4.heap.size (some ⟨bl, ol, none⟩) lo.length c2 (vals_length lo) (by rfl) (by exact HRd.out.below (by ((repeat (first | refine Below.drew ?_ | (with_reducible refine below_drewN _ ?_) | refine Below.alloc ?_ (by first | omega | (simp; done) | (simp; omega)) _ | refine Below.setCell ?_ (by first | omega | (simp; done) | (simp; omega)) _)); first | exact Below.refl _ _ | assumption | exact below_drewN _ (Below.refl _ _) | exact below_drewN _ (below_drewN _ (Below.refl _ _)))) (Nat.le_refl _) (Nat.le_refl _)) (vals_one lo) (by rw [vals_length]; simp; omega) (by (first | omega | (simp; done) | (simp; omega))) ?_; intro D5 d5x w5 hown5 hgrow5 hat5; first | (have hg5 : ((W4.alloc (.cells #[] 38)).alloc (.cells #[.slice none 0 0, .slice none 0 0] 25)).grownBy w5 (some (W4.heap.size)) := ⟨hgrow5.os, hgrow5.tape, hgrow5.output, hgrow5.size, hgrow5.block⟩; have hz : w5.heap[W4.heap.size + 1]? = some (.cells #[.slice none 0 0, .slice none 0 0] 25 (0, 0)) := (hg5.block _ (by (first | omega | (simp; done) | (simp; omega))) (by simp)).trans (by (first | (refine heap_at _ _ _ ?_; simp; done) | (refine heap_past _ (heap_at _ _ _ ?_); simp; done) | (refine heap_past _ (heap_past _ (heap_at _ _ _ ?_)); simp; done) | (refine heap_past _ (heap_past _ (heap_past _ (heap_at _ _ _ ?_))); simp; done))); obtain ⟨z0, z1, z2, z3⟩ := box_cells hz; have hb5 : Below W4.heap.size W4 w5 := Below.grown (show Below W4.heap.size W4 _ by ((repeat (first | refine Below.drew ?_ | (with_reducible refine below_drewN _ ?_) | refine Below.alloc ?_ (by first | omega | (simp; done) | (simp; omega)) _ | refine Below.setCell ?_ (by first | omega | (simp; done) | (simp; omega)) _)); first | exact Below.refl _ _ | assumption | exact below_drewN _ (Below.refl _ _) | exact below_drewN _ (below_drewN _ (Below.refl _ _)))) hg5 (by (first | omega | (simp; done) | (simp; omega))) (fun q hq => by simp only [Option.some.injEq] at hq; omega); have c0c : w5.cell? ⟨w.heap.size, 1, none⟩ = some (.slice (some ⟨bh, oh, none⟩) hi.length c3) := (box_cells (HC.out _ (HB4.out.trans (hb5.mono HB4.out.size)))).2.1; have c0d : ∀ ob, (w5.alloc ob).cell? ⟨w.heap.size, 1, none⟩ = some (.slice (some ⟨bh, oh, none⟩) hi.length c3) := fun ob => (box_cells (HC.out _ (HB4.out.trans (Below.mono (hb5.trans ((below_alloc w5 ob).mono hb5.size)) HB4.out.size)))).2.1; clear hgrow5 hat5) | (have hg5 : ((W4.alloc (.cells #[.slice none 0 0, .slice none 0 0] 25)).alloc (.cells #[] 38)).grownBy w5 (some (W4.heap.size + 1)) := ⟨hgrow5.os, hgrow5.tape, hgrow5.output, hgrow5.size, hgrow5.block⟩; have hz : w5.heap[W4.heap.size]? = some (.cells #[.slice none 0 0, .slice none 0 0] 25 (0, 0)) := (hg5.block _ (by (first | omega | (simp; done) | (simp; omega))) (by simp)).trans (by (first | (refine heap_at _ _ _ ?_; simp; done) | (refine heap_past _ (heap_at _ _ _ ?_); simp; done) | (refine heap_past _ (heap_past _ (heap_at _ _ _ ?_)); simp; done) | (refine heap_past _ (heap_past _ (heap_past _ (heap_at _ _ _ ?_))); simp; done))); obtain ⟨z0, z1, z2, z3⟩ := box_cells hz; have hb5 : Below W4.heap.size W4 w5 := Below.grown (show Below W4.heap.size W4 _ by ((repeat (first | refine Below.drew ?_ | (with_reducible refine below_drewN _ ?_) | refine Below.alloc ?_ (by first | omega | (simp; done) | (simp; omega)) _ | refine Below.setCell ?_ (by first | omega | (simp; done) | (simp; omega)) _)); first | exact Below.refl _ _ | assumption | exact below_drewN _ (Below.refl _ _) | exact below_drewN _ (below_drewN _ (Below.refl _ _)))) hg5 (by (first | omega | (simp; done) | (simp; omega))) (fun q hq => by simp only [Option.some.injEq] at hq; omega); have c0c : w5.cell? ⟨w.heap.size, 1, none⟩ = some (.slice (some ⟨bh, oh, none⟩) hi.length c3) := (box_cells (HC.out _ (HB4.out.trans (hb5.mono HB4.out.size)))).2.1; have c0d : ∀ ob, (w5.alloc ob).cell? ⟨w.heap.size, 1, none⟩ = some (.slice (some ⟨bh, oh, none⟩) hi.length c3) := fun ob => (box_cells (HC.out _ (HB4.out.trans (Below.mono (hb5.trans ((below_alloc w5 ob).mono hb5.size)) HB4.out.size)))).2.1; clear hgrow5 hat5) | (have hg5 : (W4.alloc (.cells #[] 38)).grownBy w5 (some (W4.heap.size)) := ⟨hgrow5.os, hgrow5.tape, hgrow5.output, hgrow5.size, hgrow5.block⟩; have hb5 : Below W4.heap.size W4 w5 := Below.grown (show Below W4.heap.size W4 _ by ((repeat (first | refine Below.drew ?_ | (with_reducible refine below_drewN _ ?_) | refine Below.alloc ?_ (by first | omega | (simp; done) | (simp; omega)) _ | refine Below.setCell ?_ (by first | omega | (simp; done) | (simp; omega)) _)); first | exact Below.refl _ _ | assumption | exact below_drewN _ (Below.refl _ _) | exact below_drewN _ (below_drewN _ (Below.refl _ _)))) hg5 (by (first | omega | (simp; done) | (simp; omega))) (fun q hq => by simp only [Option.some.injEq] at hq; omega); have c0c : w5.cell? ⟨w.heap.size, 1, none⟩ = some (.slice (some ⟨bh, oh, none⟩) hi.length c3) := (box_cells (HC.out _ (HB4.out.trans (hb5.mono HB4.out.size)))).2.1; have c0d : ∀ ob, (w5.alloc ob).cell? ⟨w.heap.size, 1, none⟩ = some (.slice (some ⟨bh, oh, none⟩) hi.length c3) := fun ob => (box_cells (HC.out _ (HB4.out.trans (Below.mono (hb5.trans ((below_alloc w5 ob).mono hb5.size)) HB4.out.size)))).2.1; clear hgrow5 hat5)))
        all_goals (
          obtain ⟨q, rfl, ho⟩ := side_own HNE.out.2 HQ4.out.1.1 hown5
          simp only [vals_length]
          go_wp2_with fail
          go_meet
          first
            | exact ⟨_, q, d5x, rfl, hf_alloc _ _ ho (Nat.le_refl _) hb5⟩
            | exact ⟨_, q, d5x, rfl, hf_set _ _ hz HNE.out.2 ho (by omega) hb5⟩)
    case rest =>
      obtain ⟨g5, q5, dq5, rfl, hf5⟩ := hcut
      obtain ⟨W5, hW5⟩ : ∃ W5, W5 = wc := ⟨_, rfl⟩
      rw [← hW5] at hf5 ⊢
      have hil : i < lo.length := by omega
      have hih : i < hi.length := by omega
      have ha64 : a + 1 < 18446744073709551616 := by
        have h1 := HQ2.out.2.1 (Bx.g hi i) (List.mem_of_getElem? (Bx.g_get hih))
        have h2 := HK.out.2.2.2.2.2
        omega
      have hg4 : g4 < W4.heap.size := (Array.getElem?_eq_some_iff.1 HF4.out.blk).1
      have hq4 : q4 < W4.heap.size := (HF4.out.own.2.lt q4 rfl).2
      have hg5 := hf5.ge
      have hq5 : W4.heap.size ≤ q5 := (hf5.own.2.lt q5 rfl).1
      have own4 : Own W5 w2.heap.size (.slice (some ⟨q4, 0, none⟩) hi.length dq4) hi := HF4.out.own.below hf5.bel (Nat.le_refl _)
      have blk4 := (hf5.bel.block g4 hg4).trans HF4.out.blk
      obtain ⟨⟨y4, e4⟩, f4, own4'⟩ := own_put own4 hih (x := a) (by omega)
      have blk5 := hf5.blk
      obtain ⟨b4a, b4b, -, -⟩ := box_cells blk4
      have HF5 := Lib.hid (And.intro hf5 (And.intro own4' (And.intro blk4 (And.intro hg4 (And.intro hq4 (And.intro hg5 (And.intro hq5 ha64)))))))
      have n1 : q4 ≠ g5 := by omega
      have n2 : q4 ≠ q5 := by omega
      have n3 : g4 ≠ q5 := by omega
      have HN := Lib.hid (And.intro n1 (And.intro n2 (And.intro n3 (And.intro hil hih))))
      clear c0 c1 c0a c1a c0b c1b hW5 hf5 hil hih hg4 hq4 hg5 hq5 own4 own4' blk4 blk5 ha64 n1 n2 n3 HRd
      go_upto_region 11 with fail
      obtain ⟨hf5, own4, blk4, hg4, hq4, hg5, hq5, ha64⟩ := HF5.out
      obtain ⟨n1, n2, n3, hil, hih⟩ := HN.out
      have blk5 := (Below.heap_setCell W5 ⟨q4, i, none⟩ (.int .u64 (a : Int)) g5 (fun e => n1 e.symm)).trans hf5.blk
      have own5 := own_set (a := ⟨q4, i, none⟩) hf5.own (by simpa [Value.ownBlock] using fun e : q5 = q4 => n2 e.symm) (.int .u64 (a : Int))
      obtain ⟨⟨y5, e5⟩, f5, own5'⟩ := own_put own5 hil (x := a + 1) ha64
      obtain ⟨b5a, b5b, -, -⟩ := box_cells blk5
      have hb6 : Below w2.heap.size w2 (W5.setCell ⟨q4, i, none⟩ (.int .u64 (a : Int))) := ((HF4.out.bel.trans (hf5.bel.mono HF4.out.bel.size))).setCell (p := ⟨q4, i, none⟩) (HF4.out.own.2.lt q4 rfl).1 _
      have hgq : g4 ≠ q4 := HF4.out.ne
      have blk4' := (Below.heap_setCell W5 ⟨q4, i, none⟩ (.int .u64 (a : Int)) g4 (fun e => hgq e)).trans blk4
      obtain ⟨W6, hW6⟩ : ∃ W6, W6 = W5.setCell ⟨q4, i, none⟩ (.int .u64 (a : Int)) := ⟨_, rfl⟩
      rw [← hW6] at blk5 own5' own4 b5a b5b e5 f5 hb6 blk4' ⊢
      have hsz6 : W6.heap.size = W5.heap.size := by rw [hW6]; simp
      have own4f := own_set (a := ⟨q5, i, none⟩) own4 (by simpa [Value.ownBlock] using n2) (.int .u64 ((a + 1 : Nat) : Int))
      have blk4f := (Below.heap_setCell W6 ⟨q5, i, none⟩ (.int .u64 ((a + 1 : Nat) : Int)) g4 n3).trans blk4'
      have blk5f := (Below.heap_setCell W6 ⟨q5, i, none⟩ (.int .u64 ((a + 1 : Nat) : Int)) g5 hf5.ne).trans blk5
      have hb7 := hb6.setCell (p := ⟨q5, i, none⟩) (Nat.le_trans HF4.out.bel.size hq5) (.int .u64 ((a + 1 : Nat) : Int))
      have hbw2 : Below w.heap.size w w2 := Below.andThen HW.out.2 HB2.out
      have HW7 := Lib.hid (And.intro own4f (And.intro own5' (And.intro blk4f (And.intro blk5f hb7))))
      have ha1 : (a : Int) + 1 < 18446744073709551616 := by omega
      have ha0 : (0 : Int) ≤ (a : Int) := by omega
      clear b4a b4b e4 f4 hf5 own4 blk4 hg4 hq4 hg5 hq5 ha64 n1 n2 n3 hil hih blk5 own5 own5' hb6 hgq blk4' hW6 hsz6 own4f blk4f blk5f hb7 HF5
      go_upto_region 12 with fail
      have h7 := HW7.out
      clear HW7 HF4 HQ4 HN ha1 ha0 e5 f5 b5a b5b HE
      rw [show ((a + 1 : Nat) : Int) = (a : Int) + 1 by omega] at h7
      obtain ⟨W7, hW7⟩ : ∃ W7, W7 = W6.setCell ⟨q5, i, none⟩ (.int .u64 ((a : Int) + 1)) := ⟨_, rfl⟩
      rw [← hW7] at h7 ⊢
      clear hW7
      obtain ⟨own4, own5, blk4, blk5, hb7⟩ := h7
      have hs7 := hb7.size
      have hbw7 : Below w.heap.size w W7 := hbw2.trans (hb7.mono hbw2.size)
      have hT7 : ∀ w', Below W7.heap.size W7 w' → Tz w' := fun w' hb => (HX.out.2.2.2.on hbw7).on hb
      have HD7 := Lib.hid (HD.out.below hb7)
      obtain ⟨A4, e4, hv4, hp4⟩ := own4.pts
      simp only [Value.slice.injEq, List.length_set] at hv4
      obtain ⟨rfl, -, rfl⟩ := hv4
      obtain ⟨A5, e5, hv5, hp5⟩ := own5.pts
      simp only [Value.slice.injEq, List.length_set] at hv5
      obtain ⟨rfl, -, rfl⟩ := hv5
      have hpl := (HQ2.out.1.below' hb7 (Nat.le_refl _)).keep hs7 (fun _ _ => rfl)
      have hph := (HQ2.out.2.below' hb7 (Nat.le_refl _)).keep hs7 (fun _ _ => rfl)
      have X0 : BoxP W7 W7.heap.size k (some ⟨bl, ol, none⟩) lo (some ⟨bh, oh, none⟩) hi := ⟨hpl, hph, HK.out.1, HK.out.2.1, HP.out.2.2.1, HP.out.2.2.2⟩
      have X1 : BoxP W7 W7.heap.size k (some ⟨bl, ol, none⟩) lo (some ⟨q4, 0, none⟩) (hi.set i a) := ⟨hpl, hp4, HK.out.1, HK.out.2.1, HP.out.2.2.1, by rw [List.length_set]; exact HP.out.2.2.2⟩
      have X2 : BoxP W7 W7.heap.size k (some ⟨q5, 0, none⟩) (lo.set i (a + 1)) (some ⟨bh, oh, none⟩) hi := ⟨hp5, hph, HK.out.1, HK.out.2.1, by rw [List.length_set]; exact HP.out.2.2.1, HP.out.2.2.2⟩
      have hlenE : (Tr.entsO o).length ≤ 40 := by have := HD.out.few; have := HK.out.2.2.1; omega
      have hzd : Tr.ZS (Tr.entsO o) ∧ Tr.Dim k (Tr.entsO o) := entsO_zs HD.out.wf
      have hparts : ∀ e ∈ Tr.entsO o, (Tr.inB lo hi e = true ↔ Tr.inB lo (hi.set i a) e = true ∨ Tr.inB (lo.set i (a + 1)) hi e = true) ∧ ¬ (Tr.inB lo (hi.set i a) e = true ∧ Tr.inB (lo.set i (a + 1)) hi e = true) := fun e he =>
        halves_in (by rw [HP.out.2.2.1]; exact HK.out.2.2.2.1) (by rw [HP.out.2.2.2]; exact HK.out.2.2.2.1) HK.out.2.2.2.2.1 HK.out.2.2.2.2.2 e (by rw [(hzd.2 e he).1]; exact HK.out.2.2.2.1)
      obtain ⟨R0, hR0⟩ : ∃ R, (Tr.entsO o).filter (Tr.inB lo hi) = R := ⟨_, rfl⟩
      obtain ⟨R1, hR1⟩ : ∃ R, (Tr.entsO o).filter (Tr.inB lo (hi.set i a)) = R := ⟨_, rfl⟩
      obtain ⟨R2, hR2⟩ : ∃ R, (Tr.entsO o).filter (Tr.inB (lo.set i (a + 1)) hi) = R := ⟨_, rfl⟩
      have hlenp : R0.length = R1.length + R2.length := by rw [← hR0, ← hR1, ← hR2]; exact len_parts hparts
      have hputs : putsE R1 R2 = R0 := by rw [← hR0, ← hR1, ← hR2]; exact putsE_parts hzd.1 hparts
      have hz1 : Tr.ZS R1 := by rw [← hR1]; exact zs_filter hzd.1 _
      have hd1 : Tr.Dim k R1 := fun e he => hzd.2 e (by rw [← hR1] at he; exact (List.mem_filter.1 he).1)
      have hd2 : Tr.Dim k R2 := fun e he => hzd.2 e (by rw [← hR2] at he; exact (List.mem_filter.1 he).1)
      have hl0 : R0.length ≤ 40 := by rw [← hR0]; exact Nat.le_trans (List.length_filter_le _ _) hlenE
      obtain ⟨s1, hs1⟩ : ∃ s, Tr.sums R1 = s := ⟨_, rfl⟩
      obtain ⟨s2, hs2⟩ : ∃ s, Tr.sums R2 = s := ⟨_, rfl⟩
      have hc1 : s1.c = R1.length := by rw [← hs1, Tr.sums_c]
      have hc2 : s2.c = R2.length := by rw [← hs2, Tr.sums_c]
      have HFa : Hid (∀ w1, Below W7.heap.size W7 w1 → Calls Tryz.prog 16 #[.pointer (some ⟨tb, 0, none⟩), boxV (some ⟨bl, ol, none⟩) lo.length c2 (some ⟨bh, oh, none⟩) hi.length c3] w1 fun e w' => ∃ A c, e = .returned (.tuple #[.slice A R0.length c, .int .i64 0]) ∧ NewE w1.heap.size w' A c R0 ∧ Below w1.heap.size w1 w') := Lib.hid fun w1 hb =>
        wfind_c (HD7.out.tree.1.below hb (Nat.le_refl _) (Nat.le_refl _)) hb.size (fun w' h => hT7 w' (hb.trans h)) (X0.below hb (Nat.le_refl _) (Nat.le_refl _)) (by omega) hR0
      have HFb : Hid (∀ w1, Below W7.heap.size W7 w1 → Calls Tryz.prog 16 #[.pointer (some ⟨tb, 0, none⟩), boxV (some ⟨bl, ol, none⟩) lo.length c2 (some ⟨q4, 0, none⟩) hi.length dq4] w1 fun e w' => ∃ A c, e = .returned (.tuple #[.slice A R1.length c, .int .i64 0]) ∧ NewE w1.heap.size w' A c R1 ∧ Below w1.heap.size w1 w') := Lib.hid fun w1 hb => by
        have := wfind_c (n := c2) (n' := dq4) (HD7.out.tree.1.below hb (Nat.le_refl _) (Nat.le_refl _)) hb.size (fun w' h => hT7 w' (hb.trans h)) (X1.below hb (Nat.le_refl _) (Nat.le_refl _)) (by omega) hR1
        rw [List.length_set] at this
        exact this
      have HFc : Hid (∀ w1, Below W7.heap.size W7 w1 → Calls Tryz.prog 16 #[.pointer (some ⟨tb, 0, none⟩), boxV (some ⟨q5, 0, none⟩) lo.length dq5 (some ⟨bh, oh, none⟩) hi.length c3] w1 fun e w' => ∃ A c, e = .returned (.tuple #[.slice A R2.length c, .int .i64 0]) ∧ NewE w1.heap.size w' A c R2 ∧ Below w1.heap.size w1 w') := Lib.hid fun w1 hb => by
        have := wfind_c (n := dq5) (n' := c3) (HD7.out.tree.1.below hb (Nat.le_refl _) (Nat.le_refl _)) hb.size (fun w' h => hT7 w' (hb.trans h)) (X2.below hb (Nat.le_refl _) (Nat.le_refl _)) (by omega) hR2
        rw [List.length_set] at this
        exact this
      have HSa : Hid (∀ w1, Below W7.heap.size W7 w1 → Calls Tryz.prog 18 #[.pointer (some ⟨tb, 0, none⟩), boxV (some ⟨bl, ol, none⟩) lo.length c2 (some ⟨q4, 0, none⟩) hi.length dq4] w1 fun e w' => e = .returned (.tuple #[sumsV s1, .int .i64 0]) ∧ Below w1.heap.size w1 w') := Lib.hid fun w1 hb => by
        have := wsums_c (n := c2) (n' := dq4) (HD7.out.tree.1.below hb (Nat.le_refl _) (Nat.le_refl _)) hb.size (fun w' h => hT7 w' (hb.trans h)) (X1.below hb (Nat.le_refl _) (Nat.le_refl _)) (by omega)
        rw [List.length_set, hR1, hs1] at this
        exact this
      have HSb : Hid (∀ w1, Below W7.heap.size W7 w1 → Calls Tryz.prog 18 #[.pointer (some ⟨tb, 0, none⟩), boxV (some ⟨q5, 0, none⟩) lo.length dq5 (some ⟨bh, oh, none⟩) hi.length c3] w1 fun e w' => e = .returned (.tuple #[sumsV s2, .int .i64 0]) ∧ Below w1.heap.size w1 w') := Lib.hid fun w1 hb => by
        have := wsums_c (n := dq5) (n' := c3) (HD7.out.tree.1.below hb (Nat.le_refl _) (Nat.le_refl _)) hb.size (fun w' h => hT7 w' (hb.trans h)) (X2.below hb (Nat.le_refl _) (Nat.le_refl _)) (by omega)
        rw [List.length_set, hR2, hs2] at this
        exact this
      have hg4 := (Array.getElem?_eq_some_iff.1 blk4).1
      have hg5 := (Array.getElem?_eq_some_iff.1 blk5).1
      have hBW7 : Below W.heap.size W W7 := HB2.out.trans (hb7.mono HB2.out.size)
      have HB : Hid (∀ w1, Below W7.heap.size W7 w1 → w1.heap[w.heap.size]? = some (.cells #[.slice (some ⟨bl, ol, none⟩) lo.length c2, .slice (some ⟨bh, oh, none⟩) hi.length c3] 25 (0, 0)) ∧ w1.heap[g4]? = some (.cells #[.slice (some ⟨bl, ol, none⟩) lo.length c2, .slice (some ⟨q4, 0, none⟩) hi.length dq4] 25 (0, 0)) ∧ w1.heap[g5]? = some (.cells #[.slice (some ⟨q5, 0, none⟩) lo.length dq5, .slice (some ⟨bh, oh, none⟩) hi.length c3] 25 (0, 0))) := Lib.hid fun w1 hb =>
        ⟨HC.out w1 (hBW7.trans (hb.mono hBW7.size)), (hb.block g4 hg4).trans blk4, (hb.block g5 hg5).trans blk5⟩
      have HZ := Lib.hid (And.intro hlenp (And.intro hputs (And.intro hz1 (And.intro hd1 (And.intro hd2 (And.intro hl0 (And.intro hc1 (And.intro hc2 hbw7))))))))
      have hB := Below.refl W7.heap.size W7
      obtain ⟨c0, c1, -, -⟩ := box_cells (HB.out W7 hB).1
      clear hlenp hputs hz1 hd1 hd2 hl0 hc1 hc2 hbw7 hR0 hR1 hR2 hs1 hs2 hparts hzd hlenE X0 X1 X2 hpl hph hp4 hp5 own4 own5 blk4 blk5 hg4 hg5 hBW7 hT7 hb7 hs7 hbw2 HD7 HRy
      go_upto_region 16 with (first
        | (go_at_call 16; with_reducible refine (HFa.out _ hB).mono ?_; rintro e w8 ⟨A8, k8, rfl, hE8, hb8⟩; have hB8 := hB.trans (hb8.mono hB.size); have HE8 := Lib.hid hE8.ents; clear hB c0 c1 hE8 HFa; obtain ⟨c0, c1, -, -⟩ := box_cells (HB.out _ hB8).2.1)
        | (go_at_call 16; with_reducible refine (HFb.out _ hB8).mono ?_; rintro e w9 ⟨A9, k9, rfl, hE9, hb9⟩; have hB9 := hB8.trans (hb9.mono hB8.size); have HE9 := Lib.hid (And.intro (HE8.out.below hb9 (Nat.le_refl _) hb9.size) hE9); clear hB8 c0 c1 hE9 HFb; obtain ⟨c0, c1, -, -⟩ := box_cells (HB.out _ hB9).2.2)
        | (go_at_call 16; with_reducible refine (HFc.out _ hB9).mono ?_; rintro e wa ⟨Aa, ka, rfl, hEa, hba⟩; have hBa := hB9.trans (hba.mono hB9.size); have HEa := Lib.hid (And.intro (HE9.out.1.below hba (Nat.le_refl _) hba.size) (And.intro (HE9.out.2.ents.below hba (Nat.le_refl _) hba.size) (And.intro hEa.ents (And.intro HE9.out.2.cap hEa.cap)))); clear hB9 c0 c1 hEa HFc HE8 HE9; obtain ⟨c0, c1, -, -⟩ := box_cells (HB.out _ hBa).2.1)
        | (go_at_call 18; with_reducible refine (HSa.out _ hBa).mono ?_; rintro e wb ⟨rfl, hbb⟩; have hBb := hBa.trans (hbb.mono hBa.size)))
      have hal := below_alloc wb (.cells #[.int .u64 (s1.c : Int), .int .u64 (s1.s : Int), .int .u64 (s1.lo : Int), .int .u64 (s1.hi : Int)] 40)
      have qs1 := heap_at wb (.cells #[.int .u64 (s1.c : Int), .int .u64 (s1.s : Int), .int .u64 (s1.lo : Int), .int .u64 (s1.hi : Int)] 40) wb.heap.size rfl
      have hBc := hBb.trans (hal.mono hBb.size)
      have hbc := hbb.trans (hal.mono hbb.size)
      obtain ⟨Wc, hWc⟩ : ∃ Wc, Wc = wb.alloc (.cells #[.int .u64 (s1.c : Int), .int .u64 (s1.s : Int), .int .u64 (s1.lo : Int), .int .u64 (s1.hi : Int)] 40) := ⟨_, rfl⟩
      rw [← hWc] at qs1 hBc hbc ⊢
      clear hal hWc hBb hbb c0 c1 hBa HSa
      generalize wb.heap.size = h1 at *
      obtain ⟨c0, c1, -, -⟩ := box_cells (HB.out _ hBc).2.2
      go_upto_region 17 with (go_at_call 18; refine (HSb.out _ hBc).mono ?_; rintro e wd ⟨rfl, hbd⟩; have hBd := hBc.trans (hbd.mono hBc.size))
      have hal := below_alloc wd (.cells #[.int .u64 (s2.c : Int), .int .u64 (s2.s : Int), .int .u64 (s2.lo : Int), .int .u64 (s2.hi : Int)] 40)
      have qs2 := heap_at wd (.cells #[.int .u64 (s2.c : Int), .int .u64 (s2.s : Int), .int .u64 (s2.lo : Int), .int .u64 (s2.hi : Int)] 40) wd.heap.size rfl
      have hBe := hBd.trans (hal.mono hBd.size)
      have hde := hbd.trans (hal.mono hbd.size)
      have qs1' := (hde.block h1 (Array.getElem?_eq_some_iff.1 qs1).1).trans qs1
      have hbe := hbc.trans (hde.mono hbc.size)
      obtain ⟨We, hWe⟩ : ∃ We, We = wd.alloc (.cells #[.int .u64 (s2.c : Int), .int .u64 (s2.s : Int), .int .u64 (s2.lo : Int), .int .u64 (s2.hi : Int)] 40) := ⟨_, rfl⟩
      rw [← hWe] at qs2 hBe qs1' hbe ⊢
      have HL := Lib.hid (And.intro (HEa.out.1.below hbe (Nat.le_refl _) hbe.size) (And.intro (HEa.out.2.1.below hbe (Nat.le_refl _) hbe.size) (And.intro (HEa.out.2.2.1.below hbe (Nat.le_refl _) hbe.size) (And.intro HEa.out.2.2.2.1 HEa.out.2.2.2.2))))
      have HS := Lib.hid (And.intro qs1' (And.intro qs2 hBe))
      clear hal hWe hBd hde hBc hbc hbd c0 c1 qs1 qs2 qs1' hBe hbe HSb HEa HB HC
      generalize wd.heap.size = h2 at *
      go_upto_region 19 with fail
      go_loopw [26, 27] (fun b n wr => ∃ (j : Nat) (D : Option Addr) (d : Nat) (M : List Ent), b = .slice D M.length d ∧ n = .int .i64 (j : Int) ∧ j ≤ R2.length ∧ M = putsE R1 (R2.take j) ∧ M.length ≤ d ∧ M.length ≤ R1.length + j ∧ Tr.ZS M ∧ Tr.Dim k M ∧ EntL wr We.heap.size wr.heap.size D M ∧ Below We.heap.size We wr) (fun _ n _ => R2.length - lenN n)
      case atStart => exact ⟨0, _, _, R1, rfl, rfl, Nat.zero_le _, by simp [putsE], HL.out.2.2.2.1, by omega, HZ.out.2.2.1, HZ.out.2.2.2.1, HL.out.2.1.entL, Below.refl _ _⟩
      case round =>
        obtain ⟨j, D, d, M, rfl, rfl, hj, hM, hcap, hMl, hzM, hdM, hEM, hbe⟩ := hrel
        by_cases hlt : j < R2.length
        · have dl : decide ((j : Int) < (R2.length : Int)) = true := decide_eq_true (by omega)
          obtain ⟨e, he⟩ : ∃ e, R2[j]? = some e := ⟨_, List.getElem?_eq_getElem hlt⟩
          obtain ⟨eb, eo, P, dp, hA, hbB, p0, p1, hp, hpm, hv⟩ := HL.out.2.2.1.entL.at he
          subst hA
          have hek := HZ.out.2.2.2.2.1 e (List.mem_of_getElem? he)
          have m0 : ∀ w2, Below wr.heap.size wr w2 → w2.cell? ⟨eb, eo + j * 2, none⟩ = some (.slice P e.1.length dp) := fun w2 h2 => ((hbe.trans (h2.mono hbe.size)).cell (p := ⟨eb, _, none⟩) hbB).trans p0
          have m1 : ∀ w2, Below wr.heap.size wr w2 → w2.cell? ⟨eb, eo + j * 2 + 1, none⟩ = some (.int .u64 (e.2 : Int)) := fun w2 h2 => ((hbe.trans (h2.mono hbe.size)).cell (p := ⟨eb, _, none⟩) hbB).trans p1
          have hl0 := HZ.out.2.2.2.2.2.1
          have hlp := HZ.out.1
          have HPut : Hid (∀ w2, Below wr.heap.size wr w2 → Calls Tryz.prog 26 #[.slice D M.length d, .slice P e.1.length dp, .int .u64 (e.2 : Int)] w2 fun x w' => ∃ D' d', x = .returned (.slice D' (Tr.putE e.1 e.2 M).length d') ∧ EntL w' We.heap.size w'.heap.size D' (Tr.putE e.1 e.2 M) ∧ (Tr.putE e.1 e.2 M).length ≤ d' ∧ Below w2.heap.size w2 w') := Lib.hid fun w2 h2 => by
            have hbb : Below We.heap.size We w2 := hbe.trans (h2.mono hbe.size)
            exact rput6_c hzM hdM (hEM.below h2 hbe.size (Nat.le_refl _) h2.size) (hp.below' hbb (Nat.le_refl _)) hek.1 HK.out.1 HK.out.2.1 (by omega) (Nat.le_refl _) hbb.size hcap e.2 hv
          have i1 : (0 : Int) ≤ (j : Int) := by omega
          have i2 : (j : Int) < (R2.length : Int) := by omega
          have hj1 : j + 1 ≤ R2.length := hlt
          have hsn : putsE R1 (R2.take (j + 1)) = Tr.putE e.1 e.2 M := by rw [List.take_add_one, he, hM]; exact putsE_snoc _ _ _
          have hlenM := Tr.length_putE hzM e.1 e.2
          have hdM' : Tr.Dim k (Tr.putE e.1 e.2 M) := Tr.Dim.put hzM hdM hek.1 hek.2.1 hv
          have hb1000 : j + 1 ≤ 1000 := by omega
          have HE := Lib.hid (And.intro hj1 (And.intro hsn (And.intro (show (Tr.putE e.1 e.2 M).length ≤ R1.length + (j + 1) by omega) (And.intro (hzM.put e.1 e.2) (And.intro hdM' hbe)))))
          have hbb0 := Below.refl wr.heap.size wr
          clear p0 p1 hp hpm hv hM hbe he hek hlt hj hMl hzM hdM hEM hcap hsn hlenM hdM' hl0 hlp hj1
          go_wp2_with fail
          go_region_held3 (fun w2 => Below wr.heap.size wr w2) (((repeat (first | refine Below.drew ?_ | (with_reducible refine below_drewN _ ?_) | refine Below.alloc ?_ (by first | omega | (simp; done) | (simp; omega)) _ | refine Below.setCell ?_ (by first | omega | (simp; done) | (simp; omega)) _)); first | exact Below.refl _ _ | assumption | exact below_drewN _ (Below.refl _ _) | exact below_drewN _ (below_drewN _ (Below.refl _ _))))
            ((go_at_call 26; refine (HPut.out _ (by ((repeat (first | refine Below.drew ?_ | (with_reducible refine below_drewN _ ?_) | refine Below.alloc ?_ (by first | omega | (simp; done) | (simp; omega)) _ | refine Below.setCell ?_ (by first | omega | (simp; done) | (simp; omega)) _)); first | exact Below.refl _ _ | assumption | exact below_drewN _ (Below.refl _ _) | exact below_drewN _ (below_drewN _ (Below.refl _ _))))).mono ?_; rintro x w3 ⟨D', d', rfl, hE', hc', hb3⟩; have hB3 := Below.trans (show Below wr.heap.size wr _ by ((repeat (first | refine Below.drew ?_ | (with_reducible refine below_drewN _ ?_) | refine Below.alloc ?_ (by first | omega | (simp; done) | (simp; omega)) _ | refine Below.setCell ?_ (by first | omega | (simp; done) | (simp; omega)) _)); first | exact Below.refl _ _ | assumption | exact below_drewN _ (Below.refl _ _) | exact below_drewN _ (below_drewN _ (Below.refl _ _)))) (hb3.mono (Below.size (show Below wr.heap.size wr _ by ((repeat (first | refine Below.drew ?_ | (with_reducible refine below_drewN _ ?_) | refine Below.alloc ?_ (by first | omega | (simp; done) | (simp; omega)) _ | refine Below.setCell ?_ (by first | omega | (simp; done) | (simp; omega)) _)); first | exact Below.refl _ _ | assumption | exact below_drewN _ (Below.refl _ _) | exact below_drewN _ (below_drewN _ (Below.refl _ _)))))); clear hb3))
          clear m0 m1
          go_wp2_with fail
          go_roundw
          all_goals (first
            | exact ⟨j + 1, D', d', _, rfl, by push_cast; rfl, HE.out.1, HE.out.2.1.symm, hc', HE.out.2.2.1, HE.out.2.2.2.1, HE.out.2.2.2.2.1, hE', HE.out.2.2.2.2.2.trans (hB3.mono HE.out.2.2.2.2.2.size)⟩
            | (have := HE.out.1; simp only [lenN]; omega))
        · have dl : decide ((j : Int) < (R2.length : Int)) = false := decide_eq_false (by omega)
          have hjl : j = R2.length := by omega
          subst hjl
          rw [List.take_length, HZ.out.2.1] at hM
          subst hM
          have hq1 := (hbe.block h1 (Array.getElem?_eq_some_iff.1 HS.out.1).1).trans HS.out.1
          have hq2 := (hbe.block h2 (Array.getElem?_eq_some_iff.1 HS.out.2.1).1).trans HS.out.2.1
          have hg1 := (Array.getElem?_eq_some_iff.1 hq1).1
          have hg2 := (Array.getElem?_eq_some_iff.1 hq2).1
          have a1 : ∀ w', Below wr.heap.size wr w' → w'.cell? ⟨h1, 0, none⟩ = some (.int .u64 (s1.c : Int)) := fun w' h => (h.cell (p := ⟨h1, 0, none⟩) hg1).trans (by rw [cell_of_row wr h1 _ _ _ (0, 0) hq1]; rfl)
          have a2 : ∀ w', Below wr.heap.size wr w' → w'.cell? ⟨h2, 0, none⟩ = some (.int .u64 (s2.c : Int)) := fun w' h => (h.cell (p := ⟨h2, 0, none⟩) hg2).trans (by rw [cell_of_row wr h2 _ _ _ (0, 0) hq2]; rfl)
          have z1 := HZ.out.1
          have z2 := HZ.out.2.2.2.2.2.1
          have z3 := HZ.out.2.2.2.2.2.2.1
          have z4 := HZ.out.2.2.2.2.2.2.2.1
          have HSE := Lib.hid (rsameEnts_c (c := d) (c' := k8) (hEM.ents hbe.size (Nat.le_refl _)) (HL.out.1.below hbe (Nat.le_refl _) hbe.size) (by omega))
          have HFin := Lib.hid (Below.andThen HZ.out.2.2.2.2.2.2.2.2 (HS.out.2.2.trans (hbe.mono HS.out.2.2.size)))
          have b1 : (R1.length : Int) ≤ 40 := by omega
          have b2 : (R2.length : Int) ≤ 40 := by omega
          have b3 : (s1.c : Int) ≤ 40 := by omega
          have b4 : (s2.c : Int) ≤ 40 := by omega
          have dle : ((M.length : Int) == (R1.length : Int) + (R2.length : Int)) = true := by rw [beq_iff_eq]; omega
          have dce : ((s1.c : Int) + (s2.c : Int) == (M.length : Int)) = true := by rw [beq_iff_eq]; omega
          have dlt : (M.length : Int) ≤ 40 := by omega
          clear hq1 hq2 hg1 hg2 z1 z2 z3 z4 hEM hbe hzM hdM hcap hMl hlt hj
          go_wp2_with (go_at_call 21; refine HSE.out.mono ?_; rintro e w9 ⟨rfl, hb9⟩; have e1 := a1 w9 hb9; have e2 := a2 w9 hb9)
          go_ret
          exact ⟨rfl, Below.andThen HFin.out hb9⟩
end Go.Proofs.YtdpbcfjhljgicaaGreatDoor

/-
  THE LAW WindowHalves.
-/
namespace Go.Proofs.YtdpbcfjhljgicaaGreatDoor
open Go.ChangeShapes Go.WideShapes Go.ChangeAt Go.RowKit
open Tr (T S4 Ent)

theorem windowHalves_c {w : World} {A : Option Addr} {c : Nat} {l : List ActT} (k : Int) (hT : Tz w) (hA : ActsT w w.heap.size A l) (hl : l.length ≤ maxLen) {A2 : Option Addr} {c2 : Nat} {A3 : Option Addr} {c3 : Nat} {lo hi : List Nat} (hp : Pts w w.heap.size A2 lo) (hq : Pts w w.heap.size A3 hi) (hlm : lo.length ≤ maxLen) (m x : Int) (hx : 0 ≤ x) :
    Calls Tryz.prog 6 #[.int .i64 k, .slice A l.length c, boxV A2 lo.length c2 A3 hi.length c3, .int .i64 m, .int .u64 x] w fun e w' => e = .returned (.bool true) ∧ Below w.heap.size w w' := by
  obtain ⟨a, rfl⟩ : ∃ a : Nat, x = (a : Int) := ⟨x.toNat, by omega⟩
  rcases hh : heavyA 40 l with _ | _
  · by_cases hk1 : k < 1
    · exact windowHalves_low k hT hA hl m a hh hk1
    · by_cases hk2 : 16 < k
      · exact windowHalves_high k hT hA hl m a hh hk2
      · have hk : 1 ≤ k ∧ k ≤ 16 := by omega
        by_cases hr : (1 ≤ lo.length ∧ lo.length ≤ 16) ∧ lo.length = hi.length
        · by_cases hn : (lo.length : Int) = k
          · by_cases hm : m < 0
            · exact windowHalves_neg k hT hA hl m a hh hk hr hn hm
            · by_cases hm2 : k ≤ m
              · exact windowHalves_far k hT hA hl m a hh hk hr hn hm2
              · by_cases ha : a < Bx.g lo m.toNat
                · exact windowHalves_below k hT hA hl hp hq m a hh hk hr hn ⟨by omega, by omega⟩ ha
                · by_cases hb : Bx.g hi m.toNat ≤ a
                  · exact windowHalves_above k hT hA hl hp hq m a hh hk hr hn ⟨by omega, by omega⟩ (by omega) hb
                  · obtain ⟨n, rfl⟩ : ∃ n : Nat, k = (n : Int) := ⟨k.toNat, by omega⟩
                    obtain ⟨i, rfl⟩ : ∃ i : Nat, m = (i : Int) := ⟨m.toNat, by omega⟩
                    rw [show ((i : Nat) : Int).toNat = i by omega] at ha hb
                    exact windowHalves_go n hT hA hl hh (by omega) (by omega) hp hq (by omega) (by omega) i a (by omega) (by omega) (by omega)
          · exact windowHalves_k k hT hA hl m a hh hk hr hn
        · exact windowHalves_right k hT hA hl hlm m a hh hk hr
  · exact windowHalves_heavy k hT hA hl m a hh
end Go.Proofs.YtdpbcfjhljgicaaGreatDoor
