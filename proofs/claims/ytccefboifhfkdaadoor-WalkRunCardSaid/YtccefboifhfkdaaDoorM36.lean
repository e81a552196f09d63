import Derived.Test.YtccefboifhfkdaaDoorM35
/-
  THE LAW WalkRun. Laid by wip/gen27.py.
-/
namespace Go.Proofs.YtccefboifhfkdaaDoor
open Go.ChangeShapes Go.WideShapes Go.ChangeAt Go.RowKit
open Tr (T S4 Ent)

theorem walkRun_skip {w : World} {A : Option Addr} {c : Nat} {l : List ActT} (k : Int) (hT : Tz w) (hA : ActsT w w.heap.size A l) (hl : l.length ≤ maxLen) (hh : heavyA 50 l = true) :
    Calls Tryd.prog 5 #[.int .i64 k, .slice A l.length c] w fun e w' => e = .returned (.bool true) ∧ Below w.heap.size w w' := by
  have HX := Lib.hid (And.intro hA (And.intro hl (And.intro hh hT)))
  clear hA hl hh hT
  go_enter Tryd.func5, Tryd.ntmps5
  go_wp2_with fail
  refine (awake8_c w HX.out.2.2.2).mono ?_
  rintro e w1 ⟨rfl, hb1⟩
  have HH := Lib.hid (rheavy7_c (c := c) (HX.out.1.below hb1 (Nat.le_refl _) (Nat.le_refl _)) HX.out.2.1 50 true HX.out.2.2.1)
  have HB := Lib.hid hb1
  clear hb1
  go_wp2_with (go_at_call 30; refine HH.out.mono ?_; rintro e w' ⟨rfl, rfl⟩)
  go_ret
  exact ⟨rfl, HB.out⟩
theorem walkRun_arg {w : World} {A : Option Addr} {c : Nat} {l : List ActT} (k : Int) (hT : Tz w) (hA : ActsT w w.heap.size A l) (hl : l.length ≤ maxLen) (hh : heavyA 50 l = false) (hk : ¬ (1 ≤ k ∧ k ≤ 16)) :
    Calls Tryd.prog 5 #[.int .i64 k, .slice A l.length c] w fun e w' => e = .returned (.bool true) ∧ Below w.heap.size w w' := by
  have HX := Lib.hid (And.intro hA (And.intro hl (And.intro hh hT)))
  clear hA hl hh hT
  by_cases d0 : k < 1
  · have d1 : decide (k < 1) = true := decide_eq_true d0
    clear hk d0
    go_enter Tryd.func5, Tryd.ntmps5
    go_wp2_with fail
    refine (awake8_c w HX.out.2.2.2).mono ?_
    rintro e w1 ⟨rfl, hb1⟩
    have HH := Lib.hid (rheavy7_c (c := c) (HX.out.1.below hb1 (Nat.le_refl _) (Nat.le_refl _)) HX.out.2.1 50 false HX.out.2.2.1)
    have HB := Lib.hid hb1
    clear hb1
    go_wp2_with (go_at_call 30; refine HH.out.mono ?_; rintro e w' ⟨rfl, rfl⟩)
    go_ret
    exact ⟨rfl, HB.out⟩
  · have d1 : decide (k < 1) = false := decide_eq_false d0
    have d2 : decide (16 < k) = true := decide_eq_true (by omega)
    clear hk d0
    go_enter Tryd.func5, Tryd.ntmps5
    go_wp2_with fail
    refine (awake8_c w HX.out.2.2.2).mono ?_
    rintro e w1 ⟨rfl, hb1⟩
    have HH := Lib.hid (rheavy7_c (c := c) (HX.out.1.below hb1 (Nat.le_refl _) (Nat.le_refl _)) HX.out.2.1 50 false HX.out.2.2.1)
    have HB := Lib.hid hb1
    clear hb1
    go_wp2_with (go_at_call 30; refine HH.out.mono ?_; rintro e w' ⟨rfl, rfl⟩)
    go_ret
    exact ⟨rfl, HB.out⟩

set_option maxRecDepth 1000000 in
set_option maxHeartbeats 4000000 in
theorem walkRun_go {w : World} {A : Option Addr} {c : Nat} {l : List ActT} (k : Nat) (hT : Tz w) (hA : ActsT w w.heap.size A l) (hl : l.length ≤ maxLen) (hh : heavyA 50 l = false) (h1 : 1 ≤ k) (h16 : k ≤ 16) :
    Calls Tryd.prog 5 #[.int .i64 (k : Int), .slice A l.length c] w fun e w' => e = .returned (.bool true) ∧ Below w.heap.size w w' := by
  have hfew := heavyA_few hh
  have HX := Lib.hid (And.intro hA (And.intro hl (And.intro hh hT)))
  have HK := Lib.hid (And.intro h1 (And.intro h16 hfew))
  have d1 : decide ((k : Int) < 1) = false := decide_eq_false (by omega)
  have d2 : decide ((16 : Int) < (k : Int)) = false := decide_eq_false (by omega)
  clear hA hl hh hT h1 h16 hfew
  go_enter Tryd.func5, Tryd.ntmps5
  go_wp2_with fail
  refine (awake8_c w HX.out.2.2.2).mono ?_
  rintro e w0 ⟨rfl, hb0⟩
  have HH := Lib.hid (rheavy7_c (c := c) (HX.out.1.below hb0 (Nat.le_refl _) (Nat.le_refl _)) HX.out.2.1 50 false HX.out.2.2.1)
  have HG := Lib.hid (grown_c (c := c) HK.out.1 HK.out.2.1 (HX.out.1.below hb0 (Nat.le_refl _) (Nat.le_refl _)) hb0.size (by have := HK.out.2.2; omega))
  have HB0 := Lib.hid hb0
  clear hb0
  go_upto_region 9 with (first
    | (go_at_call 30; refine HH.out.mono ?_; rintro e w' ⟨rfl, rfl⟩)
    | (go_at_call 31; refine HG.out.mono ?_; rintro e w2 ⟨tb, o, D2, d2c, rfl, hd2, -, hb2⟩; have HD := Lib.hid hd2; have HB2 := Lib.hid (Below.andThen HB0.out hb2); clear hd2 hb2)
    | (go_at_call 27; refine (run_new HD.out.tree).mono ?_; rintro e w3 ⟨g, rfl, hr3⟩; have H3 := Lib.hid hr3; clear hr3))
  have hlenE : (Tr.entsO o).length ≤ 50 := by have := HD.out.few; have := HK.out.2.2; omega
  have HT2 : Hid (∀ w', Below w2.heap.size w2 w' → Tz w') := Lib.hid fun w' hb => (HX.out.2.2.2.on HB2.out).on hb
  obtain ⟨N, hN⟩ : ∃ N, (Tr.entsO o).length = N := ⟨_, rfl⟩
  have HN := Lib.hid hN
  rw [hN] at hlenE ⊢
  clear hN
  go_wp2_with fail
  go_loopw [9] (fun i wr => ∃ j : Nat, j ≤ N ∧ i = .int .i64 j ∧ RunI w2 g k o j wr) (fun i _ => N - (intOf i).toNat)
  case atStart => exact ⟨0, Nat.zero_le _, rfl, H3.out⟩
  case round =>
    obtain ⟨j, hj, rfl, hR⟩ := hrel
    have HR := Lib.hid hR
    clear hR
    by_cases hlt : j < N
    · obtain ⟨y, hy⟩ := get_lt (us := Tr.entsO o) (k := j) (by rw [HN.out]; exact hlt)
      have HY := Lib.hid hy
      have HNx := Lib.hid (HR.out.next HT2.out hy)
      clear hy
      have m1 : (0 : Int) ≤ (j : Int) := by omega
      have m2 : (j : Int) < (N : Int) := by omega
      go_wp2_with (first
        | (go_at_call 21; refine HNx.out.mono ?_; rintro e w5 ⟨hh, dd, rfl, hR5, hp5⟩; have hal5 := below_alloc w5 (.cells #[.slice (some ⟨hh, 0, none⟩) y.1.length dd, .int .u64 (y.2 : Int)] 31); have H5 := Lib.hid (And.intro hR5 hp5); clear hR5 hp5)
        | (go_at_call 32; refine (rat_at HN.out (HD.out.ents (Below.andThen H5.out.1.bel hal5)) HY.out ((H5.out.2.below' hal5 (Nat.le_refl _)).keep hal5.size (fun _ _ => rfl))).mono ?_; rintro e w6 ⟨rfl, hb6⟩; have H6 := Lib.hid (Below.andThen hal5 hb6); clear hb6))
      go_roundw
      case rel => exact ⟨j + 1, by omega, by go_num, H5.out.1.below H6.out⟩
      case measure => simp [intOf]; omega
    · have hjN : j = N := by omega
      subst hjN
      go_wp2_with fail
      generalize wr = W4 at *
      have HW4 := HR
      clear hlt hj
      go_loopw [12] (fun i wr => ∃ q : Nat, q ≤ 2 ∧ i = .int .i64 q ∧ RunI w2 g k o j wr) (fun i _ => 2 - (intOf i).toNat)
      case atStart => exact ⟨0, by omega, rfl, HW4.out⟩
      case round =>
        obtain ⟨q, hq, rfl, hR⟩ := hrel
        have HR := Lib.hid hR
        clear hR
        by_cases hlt : q < 2
        · have d3 : decide ((q : Int) < 2) = true := decide_eq_true (by omega)
          have HNx := Lib.hid (HR.out.past HT2.out (by rw [HN.out]; exact Nat.le_refl _))
          go_wp2_with (first
            | (go_at_call 21; refine HNx.out.mono ?_; rintro e w5 ⟨rfl, hR5⟩; have hal5 := below_alloc w5 (.cells #[.slice none 0 0, .int .u64 0] 31); have H5 := Lib.hid hR5; clear hR5)
            | (go_at_call 32; refine (rat_none (.inr (Int.le_refl _))).mono ?_; rintro e w6 ⟨rfl, hb6⟩; have H6 := Lib.hid (Below.andThen hal5 hb6); clear hb6))
          go_roundw
          case rel => exact ⟨q + 1, by omega, by go_num, H5.out.below H6.out⟩
          case measure => simp [intOf]; omega
        · have d3 : decide ((q : Int) < 2) = false := decide_eq_false (by omega)
          clear hlt hq
          go_wp2_with fail
          generalize wr = W5 at *
          have HW5 := HR
          have hj50 : (j : Int) ≤ 50 := by omega
          clear HR HW4
          go_loopw [15] (fun i wr => ∃ (q : Nat) (v : Int), q ≤ j ∧ i = .int .i64 v ∧ v + 1 = (q : Int) ∧ RunI w2 g k o q wr) (fun i _ => (intOf i + 1).toNat)
          case atStart => exact ⟨j, _, Nat.le_refl _, rfl, by omega, HW5.out⟩
          case round =>
            obtain ⟨q, v, hq, rfl, hv, hR⟩ := hrel
            have HR := Lib.hid hR
            clear hR
            cases q with
            | zero =>
              obtain rfl : v = -1 := by omega
              have d4 : decide ((0 : Int) ≤ -1) = false := by decide
              have HNx := Lib.hid (HR.out.stop HT2.out)
              clear hv hq hlenE hj50
              go_wp2_with (first
                | (go_at_call 22; refine HNx.out.mono ?_; rintro e w5 ⟨rfl, hR5⟩; have hal5 := below_alloc w5 (.cells #[.slice none 0 0, .int .u64 0] 31); have H5 := Lib.hid hR5; clear hR5)
                | (go_at_call 32; refine (rat_none (.inl (by omega))).mono ?_; rintro e w6 ⟨rfl, hb6⟩; have H6 := Lib.hid (Below.andThen hal5 hb6); clear hb6))
              go_ret
              exact ⟨rfl, Below.andThen HB2.out (H5.out.below H6.out).bel⟩
            | succ n =>
              obtain rfl : v = (n : Int) := by omega
              obtain ⟨y, hy⟩ := get_lt (us := Tr.entsO o) (k := n) (by rw [HN.out]; omega)
              have HY := Lib.hid hy
              have HNx := Lib.hid (HR.out.back HT2.out hy)
              have d4 : decide ((0 : Int) ≤ (n : Int)) = true := decide_eq_true (by omega)
              have hn0 : (0 : Int) ≤ (n : Int) := by omega
              have hn50 : (n : Int) ≤ 50 := by omega
              have HQ := Lib.hid hq
              clear hy hv hq hj50 hlenE
              go_wp2_with (first
                | (go_at_call 22; refine HNx.out.mono ?_; rintro e w5 ⟨hh, dd, rfl, hR5, hp5⟩; have hal5 := below_alloc w5 (.cells #[.slice (some ⟨hh, 0, none⟩) y.1.length dd, .int .u64 (y.2 : Int)] 31); have H5 := Lib.hid (And.intro hR5 hp5); clear hR5 hp5)
                | (go_at_call 32; refine (rat_at HN.out (HD.out.ents (Below.andThen H5.out.1.bel hal5)) HY.out ((H5.out.2.below' hal5 (Nat.le_refl _)).keep hal5.size (fun _ _ => rfl))).mono ?_; rintro e w6 ⟨rfl, hb6⟩; have H6 := Lib.hid (Below.andThen hal5 hb6); clear hb6))
              go_roundw
              case rel => exact ⟨n, _, by have := HQ.out; omega, rfl, by omega, H5.out.1.below H6.out⟩
              case measure => simp [intOf]

theorem walkRun_c {w : World} {A : Option Addr} {c : Nat} {l : List ActT} (k : Int) (hT : Tz w) (hA : ActsT w w.heap.size A l) (hl : l.length ≤ maxLen) :
    Calls Tryd.prog 5 #[.int .i64 k, .slice A l.length c] w fun e w' => e = .returned (.bool true) ∧ Below w.heap.size w w' := by
  rcases hh : heavyA 50 l with _ | _
  · by_cases hk : 1 ≤ k ∧ k ≤ 16
    · obtain ⟨n, rfl⟩ : ∃ n : Nat, k = (n : Int) := ⟨k.toNat, by omega⟩
      exact walkRun_go n hT hA hl hh (by omega) (by omega)
    · exact walkRun_arg k hT hA hl hh hk
  · exact walkRun_skip k hT hA hl hh
end Go.Proofs.YtccefboifhfkdaaDoor
