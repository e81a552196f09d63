import Derived.Test.YtccefboifhfkdaaGreatDoorM37
import Derived.Test.YtccefboifhfkdaaGreatDoorM35
import Derived.Test.YtccefboifhfkdaaGreatDoorM27
import Derived.Test.YtccefboifhfkdaaGreatDoorM38
/-
  THE LAW WalkMoves. Laid by wip/gen29.py.
-/
namespace Go.Proofs.YtccefboifhfkdaaGreatDoor
open Go.ChangeShapes Go.WideShapes Go.ChangeAt Go.RowKit
open Tr (T S4 Ent)

theorem walkMoves_skip {w : World} {A : Option Addr} {c : Nat} {l : List ActT} (k : Int) (hT : Tz w) (hA : ActsT w w.heap.size A l) (hl : l.length ≤ maxLen) (hh : heavyA 40 l = true) (A2 : Option Addr) (n c2 : Nat) :
    Calls Tryz.prog 4 #[.int .i64 k, .slice A l.length c, .slice A2 n c2] w fun e w' => e = .returned (.bool true) ∧ Below w.heap.size w w' := by
  have HX := Lib.hid (And.intro hA (And.intro hl (And.intro hh hT)))
  clear hA hl hh hT
  go_enter Tryz.func4, Tryz.ntmps4
  go_wp2_with fail
  refine (awake8_c w HX.out.2.2.2).mono ?_
  rintro e w1 ⟨rfl, hb1⟩
  have HH := Lib.hid (rheavy7_c (c := c) (HX.out.1.below hb1 (Nat.le_refl _) (Nat.le_refl _)) HX.out.2.1 40 true HX.out.2.2.1)
  have HB := Lib.hid hb1
  clear hb1
  go_wp2_with (go_at_call 10; refine HH.out.mono ?_; rintro e w' ⟨rfl, rfl⟩)
  go_ret
  exact ⟨rfl, HB.out⟩
theorem walkMoves_arg {w : World} {A : Option Addr} {c : Nat} {l : List ActT} (k : Int) (hT : Tz w) (hA : ActsT w w.heap.size A l) (hl : l.length ≤ maxLen) (hh : heavyA 40 l = false) (hk : ¬ (1 ≤ k ∧ k ≤ 16)) (A2 : Option Addr) (n c2 : Nat) :
    Calls Tryz.prog 4 #[.int .i64 k, .slice A l.length c, .slice A2 n c2] w fun e w' => e = .returned (.bool true) ∧ Below w.heap.size w w' := by
  have HX := Lib.hid (And.intro hA (And.intro hl (And.intro hh hT)))
  clear hA hl hh hT
  by_cases d0 : k < 1
  · have d1 : decide (k < 1) = true := decide_eq_true d0
    clear hk d0
    go_enter Tryz.func4, Tryz.ntmps4
    go_wp2_with fail
    refine (awake8_c w HX.out.2.2.2).mono ?_
    rintro e w1 ⟨rfl, hb1⟩
    have HH := Lib.hid (rheavy7_c (c := c) (HX.out.1.below hb1 (Nat.le_refl _) (Nat.le_refl _)) HX.out.2.1 40 false HX.out.2.2.1)
    have HB := Lib.hid hb1
    clear hb1
    go_wp2_with (go_at_call 10; refine HH.out.mono ?_; rintro e w' ⟨rfl, rfl⟩)
    go_ret
    exact ⟨rfl, HB.out⟩
  · have d1 : decide (k < 1) = false := decide_eq_false d0
    have d2 : decide (16 < k) = true := decide_eq_true (by omega)
    clear hk d0
    go_enter Tryz.func4, Tryz.ntmps4
    go_wp2_with fail
    refine (awake8_c w HX.out.2.2.2).mono ?_
    rintro e w1 ⟨rfl, hb1⟩
    have HH := Lib.hid (rheavy7_c (c := c) (HX.out.1.below hb1 (Nat.le_refl _) (Nat.le_refl _)) HX.out.2.1 40 false HX.out.2.2.1)
    have HB := Lib.hid hb1
    clear hb1
    go_wp2_with (go_at_call 10; refine HH.out.mono ?_; rintro e w' ⟨rfl, rfl⟩)
    go_ret
    exact ⟨rfl, HB.out⟩

theorem walkMoves_big {w : World} {A : Option Addr} {c : Nat} {l : List ActT} (k : Nat) (hT : Tz w) (hA : ActsT w w.heap.size A l) (hl : l.length ≤ maxLen) (hh : heavyA 40 l = false) (h1 : 1 ≤ k) (h16 : k ≤ 16) (A2 : Option Addr) (n c2 : Nat) (hn : 100 < n) :
    Calls Tryz.prog 4 #[.int .i64 (k : Int), .slice A l.length c, .slice A2 n c2] w fun e w' => e = .returned (.bool true) ∧ Below w.heap.size w w' := by
  have HX := Lib.hid (And.intro hA (And.intro hl (And.intro hh hT)))
  have d1 : decide ((k : Int) < 1) = false := decide_eq_false (by omega)
  have d2 : decide ((16 : Int) < (k : Int)) = false := decide_eq_false (by omega)
  have d3 : decide ((100 : Int) < (n : Int)) = true := decide_eq_true (by omega)
  have d3' : decide (100 < n) = true := decide_eq_true hn
  clear hA hl hh hT h1 h16 hn
  go_enter Tryz.func4, Tryz.ntmps4
  go_wp2_with fail
  refine (awake8_c w HX.out.2.2.2).mono ?_
  rintro e w1 ⟨rfl, hb1⟩
  have HH := Lib.hid (rheavy7_c (c := c) (HX.out.1.below hb1 (Nat.le_refl _) (Nat.le_refl _)) HX.out.2.1 40 false HX.out.2.2.1)
  have HB := Lib.hid hb1
  clear hb1
  go_wp2_with (go_at_call 10; refine HH.out.mono ?_; rintro e w' ⟨rfl, rfl⟩)
  go_ret
  exact ⟨rfl, HB.out⟩

theorem RunI.seek {w2 : World} {g k : Nat} {o : Option T} {j : Nat} {wr : World} (h : RunI w2 g k o j wr) (hn : NodeO w2 w2.heap.size k o) {p : List Nat} {A : Option Addr} {c : Nat} (hp : Pts wr w2.heap.size A p) (hl : p.length = k) (h1 : 1 ≤ k) (h16 : k ≤ 16) :
    Calls Tryz.prog 25 #[.pointer (some ⟨g, 0, none⟩), .slice A p.length c] wr fun e w' => e = .returned (.int .i64 0) ∧ ∃ j, j ≤ (Tr.entsO o).length ∧ RunI w2 g k o j w' ∧ Ahead p ((Tr.entsO o).take j) ∧ Past p ((Tr.entsO o).drop j) := by
  obtain ⟨S, D, d, hc, h2, h3, h4⟩ := h
  refine (seek_c hc (hn.below h4 (Nat.le_refl _) (Nat.le_refl _)) hp hl h1 h16).mono ?_
  rintro e w' ⟨rfl, S', D', d', hc', hf, _, ha, hb⟩
  have hall := Tr.bef_aft hc'.chain hc'.wf
  have e1 : (Tr.entsO o).take (Tr.bef S').length = Tr.bef S' := by rw [← hall, List.take_append_of_le_length (Nat.le_refl _), List.take_length]
  have e2 : (Tr.entsO o).drop (Tr.bef S').length = Tr.aft S' := by rw [← hall, List.drop_append_of_le_length (Nat.le_refl _), List.drop_length, List.nil_append]
  refine ⟨rfl, (Tr.bef S').length, by rw [← hall, List.length_append]; omega, ⟨S', D', d', hc', e1.symm, e2.symm, h4.trans (cur_below hc hf)⟩, ?_, ?_⟩
  · rw [e1]; exact ha
  · rw [e2]; exact hb
theorem RunI.seekD {w2 : World} {g k : Nat} {o : Option T} {j : Nat} {wr : World} (h : RunI w2 g k o j wr) (h16 : k ≤ 16) (A : Option Addr) (n c : Nat) (hn : n ≤ maxLen) (hne : n ≠ k) :
    Calls Tryz.prog 25 #[.pointer (some ⟨g, 0, none⟩), .slice A n c] wr fun e w' => e = .returned (.int .i64 2) ∧ wr = w' := by
  obtain ⟨S, D, d, hc, h2, h3, h4⟩ := h
  exact seek_dim hc.mem h16 A n c hn hne

theorem from8_at {w2 wr : World} {C tb k : Nat} {o : Option T} {A A' : Option Addr} {c c' M N B : Nat} {p : List Nat} (hN : (Tr.entsO o).length = N) (hD : Hand w2 C tb k o A c M) (hb : Below w2.heap.size w2 wr) (h1 : 1 ≤ k) (h16 : k ≤ 16) (hl : N ≤ 50)
    (hp : Pts wr B A' p) (hB : B ≤ wr.heap.size) (hpl : p.length = k) {j : Nat} (hj : j ≤ (Tr.entsO o).length) (ha : Ahead p ((Tr.entsO o).take j)) (hq : Past p ((Tr.entsO o).drop j)) :
    Calls Tryz.prog 20 #[.slice A N c, .slice A' p.length c'] wr fun e w' => e = .returned (.int .i64 (j : Int)) ∧ wr = w' := by
  subst hN
  have hdim : Tr.Dim k (Tr.entsO o) := by
    cases o with
    | none => intro e he; cases he
    | some t => exact (hD.wf t rfl).dim
  have := rfrom8_c (c := c) (c' := c') hdim (hD.ents hb) (hp.keep hB (fun _ _ => rfl)) hpl h1 h16 (by omega) (List.take_append_drop j _).symm ha hq
  rw [List.length_take, Nat.min_eq_left hj] at this
  exact this
theorem is7_at {w2 wr : World} {C tb k : Nat} {o : Option T} {A : Option Addr} {c M N : Nat} (hN : (Tr.entsO o).length = N) (hD : Hand w2 C tb k o A c M) (hb : Below w2.heap.size w2 wr) (hT : ∀ w', Below w2.heap.size w2 w' → Tz w') :
    Calls Tryz.prog 26 #[.pointer (some ⟨tb, 0, none⟩), .int .i64 (k : Int), .slice A N c] wr fun e w' => e = .returned (.bool true) ∧ Below wr.heap.size wr w' := by
  subst hN
  exact is7_c (hD.tree.below hb (Nat.le_refl _)).1 (fun w' h => hT w' (Below.andThen hb h)) (hD.ents hb) hD.cap (by have := hD.few; have := hD.most; omega)

set_option maxRecDepth 1000000 in
set_option maxHeartbeats 4000000 in
theorem walkMoves_go {w : World} {A : Option Addr} {c : Nat} {l : List ActT} (k : Nat) (hT : Tz w) (hA : ActsT w w.heap.size A l) (hl : l.length ≤ maxLen) (hh : heavyA 40 l = false) (h1 : 1 ≤ k) (h16 : k ≤ 16) {A2 : Option Addr} {c2 : Nat} {M : List MoveT} (hM : MovesT w w.heap.size A2 M) (hMl : M.length ≤ 100) :
    Calls Tryz.prog 4 #[.int .i64 (k : Int), .slice A l.length c, .slice A2 M.length c2] w fun e w' => e = .returned (.bool true) ∧ Below w.heap.size w w' := by
  have hfew := heavyA_few hh
  have HX := Lib.hid (And.intro hA (And.intro hl (And.intro hh hT)))
  have HK := Lib.hid (And.intro h1 (And.intro h16 hfew))
  have d1 : decide ((k : Int) < 1) = false := decide_eq_false (by omega)
  have d2 : decide ((16 : Int) < (k : Int)) = false := decide_eq_false (by omega)
  have d3 : decide ((100 : Int) < (M.length : Int)) = false := decide_eq_false (by omega)
  have d3' : decide (100 < M.length) = false := decide_eq_false (by omega)
  have HM := Lib.hid (And.intro hM hMl)
  clear hA hl hh hT h1 h16 hfew hM hMl
  go_enter Tryz.func4, Tryz.ntmps4
  go_wp2_with fail
  refine (awake8_c w HX.out.2.2.2).mono ?_
  rintro e w0 ⟨rfl, hb0⟩
  have HH := Lib.hid (rheavy7_c (c := c) (HX.out.1.below hb0 (Nat.le_refl _) (Nat.le_refl _)) HX.out.2.1 40 false HX.out.2.2.1)
  have HG := Lib.hid (grown_c (c := c) HK.out.1 HK.out.2.1 (HX.out.1.below hb0 (Nat.le_refl _) (Nat.le_refl _)) hb0.size (by have := HK.out.2.2; omega))
  have HB0 := Lib.hid hb0
  clear hb0
  obtain ⟨q0, hq0⟩ : ∃ q, M.length = q := ⟨_, rfl⟩
  have HQ := Lib.hid hq0
  rw [hq0] at d3 d3' ⊢
  clear hq0
  go_upto_region 9 with (first
    | (go_at_call 10; refine HH.out.mono ?_; rintro e w' ⟨rfl, rfl⟩)
    | (go_at_call 11; refine HG.out.mono ?_; rintro e w2 ⟨tb, o, D2, d2c, rfl, hd2, -, hb2⟩; have HD := Lib.hid hd2; have HB2 := Lib.hid (Below.andThen HB0.out hb2); clear hd2 hb2)
    | (go_at_call 22; refine (run_new HD.out.tree).mono ?_; rintro e w3 ⟨g, rfl, hr3⟩; have H3 := Lib.hid hr3; clear hr3))
  have hlenE : (Tr.entsO o).length ≤ 50 := by have := HD.out.few; have := HK.out.2.2; omega
  have HT2 : Hid (∀ w', Below w2.heap.size w2 w' → Tz w') := Lib.hid fun w' hb => (HX.out.2.2.2.on HB2.out).on hb
  obtain ⟨N, hN⟩ : ∃ N, (Tr.entsO o).length = N := ⟨_, rfl⟩
  have HN := Lib.hid hN
  rw [hN] at hlenE ⊢
  clear hN
  have hq1 : q0 ≤ 100 := by have := HM.out.2; have := HQ.out; omega
  go_wp2_with fail
  go_loopw [11, 12] (fun i u wr => ∃ j m : Nat, j ≤ N ∧ m ≤ q0 ∧ i = .int .i64 j ∧ u = .int .i64 m ∧ RunI w2 g k o j wr) (fun _ u _ => q0 - (intOf u).toNat)
  case atStart => exact ⟨0, 0, Nat.zero_le _, Nat.zero_le _, rfl, rfl, H3.out⟩
  case round =>
    obtain ⟨j, m, hj, hm, rfl, rfl, hR⟩ := hrel
    have HR := Lib.hid hR
    clear hR
    by_cases hlt : m < q0
    · obtain ⟨mv, hmv⟩ := get_lt (us := M) (k := m) (by rw [HQ.out]; exact hlt)
      have hbw : Below w.heap.size w wr := Below.andThen HB2.out HR.out.bel
      obtain ⟨mb, mo, A', c', hA', hmb, x0, x1, hp, hpm⟩ := HM.out.1.at hmv
      subst hA'
      have y0 : ∀ w', Below w.heap.size w w' → w'.cell? ⟨mb, mo + m * 2, none⟩ = some (.int .u8 (mv.kind : Int)) := fun w' hb => (hb.cell (p := ⟨mb, mo + m * 2, none⟩) hmb).trans x0
      have y1 : ∀ w', Below w.heap.size w w' → w'.cell? ⟨mb, mo + m * 2 + 1, none⟩ = some (.slice A' mv.p.length c') := fun w' hb => (hb.cell (p := ⟨mb, mo + m * 2 + 1, none⟩) hmb).trans x1
      have z0 := y0 wr hbw
      have z1 := y1 wr hbw
      have m1 : (0 : Int) ≤ (m : Int) := by omega
      have m2 : (m : Int) < (q0 : Int) := by omega
      have hj0 : (0 : Int) ≤ (j : Int) := by omega
      have hj50 : (j : Int) ≤ 50 := by omega
      have hm50 : (m : Int) ≤ 100 := by omega
      have HV := Lib.hid (And.intro hp (And.intro hpm (And.intro hmv hbw)))
      have HJ := Lib.hid (And.intro hj hlt)
      clear hmv x0 x1 hp hpm hbw hmb hm hj hlt
      by_cases hbig : 40 < mv.p.length
      · have e1 : decide ((40 : Int) < (mv.p.length : Int)) = true := decide_eq_true (by omega)
        have e1' : decide (40 < mv.p.length) = true := decide_eq_true hbig
        clear hbig
        go_wp2_with fail
        go_roundw
        case rel => exact ⟨j, m + 1, HJ.out.1, by have := HJ.out.2; omega, rfl, by go_num, HR.out⟩
        case measure => simp [intOf]; have := HJ.out.2; omega
      · have e1 : decide ((40 : Int) < (mv.p.length : Int)) = false := decide_eq_false (by omega)
        have e1' : decide (40 < mv.p.length) = false := decide_eq_false hbig
        obtain ⟨kd, hkd⟩ : ∃ kd, mv.kind = kd := ⟨_, rfl⟩
        rw [hkd] at z0 y0
        have HKD := Lib.hid hkd
        clear hkd
        have HPL := Lib.hid (show mv.p.length ≤ 40 by omega)
        clear hbig
        by_cases k0 : kd = 0
        · subst k0
          by_cases hlt : j < N
          · obtain ⟨y, hy⟩ := get_lt (us := Tr.entsO o) (k := j) (by rw [HN.out]; exact hlt)
            have HY := Lib.hid hy
            have HNx := Lib.hid (HR.out.next HT2.out hy)
            clear hy
            have n1 : (j : Int) < (N : Int) := by omega
            have n2 : decide ((j : Int) < (N : Int)) = true := decide_eq_true n1
            have n3 : decide (j < N) = true := decide_eq_true hlt
            have HLT := Lib.hid hlt
            clear hlt
            go_wp2_with (first
              | (go_at_call 23; refine HNx.out.mono ?_; rintro e w5 ⟨hh, dd, rfl, hR5, hp5⟩; have hal5 := below_alloc w5 (.cells #[.slice (some ⟨hh, 0, none⟩) y.1.length dd, .int .u64 (y.2 : Int)] 36); have H5 := Lib.hid (And.intro hR5 hp5); clear hR5 hp5) | (go_at_call 19; refine (rat_at HN.out (HD.out.ents (Below.andThen H5.out.1.bel hal5)) HY.out ((H5.out.2.below' hal5 (Nat.le_refl _)).keep hal5.size (fun _ _ => rfl))).mono ?_; rintro e w6 ⟨rfl, hb6⟩; have H6 := Lib.hid (Below.andThen hal5 hb6); clear hb6))
            go_roundw
            case rel => exact ⟨j + 1, m + 1, by have := HLT.out; omega, by have := HJ.out.2; omega, by go_num, by go_num, H5.out.1.below H6.out⟩
            case measure => simp [intOf]; have := HJ.out.2; omega
          · have HNx := Lib.hid (HR.out.past HT2.out (by rw [HN.out]; omega))
            have n1 : (N : Int) ≤ (j : Int) := by omega
            have n2 : decide ((j : Int) < (N : Int)) = false := decide_eq_false (by omega)
            have n3 : decide (j < N) = false := decide_eq_false hlt
            have HNJ := Lib.hid n1
            clear hlt
            go_wp2_with (first
              | (go_at_call 23; refine HNx.out.mono ?_; rintro e w5 ⟨rfl, hR5⟩; have hal5 := below_alloc w5 (.cells #[.slice none 0 0, .int .u64 0] 36); have H5 := Lib.hid hR5; clear hR5) | (go_at_call 19; refine (rat_none (.inr HNJ.out)).mono ?_; rintro e w6 ⟨rfl, hb6⟩; have H6 := Lib.hid (Below.andThen hal5 hb6); clear hb6))
            go_roundw
            case rel => exact ⟨j, m + 1, HJ.out.1, by have := HJ.out.2; omega, rfl, by go_num, H5.out.below H6.out⟩
            case measure => simp [intOf]; have := HJ.out.2; omega
        · by_cases k1 : kd = 1
          · subst k1
            clear k0
            cases j with
            | zero =>
              have HNx := Lib.hid (HR.out.stop HT2.out)
              go_wp2_with (first
                | (go_at_call 24; refine HNx.out.mono ?_; rintro e w5 ⟨rfl, hR5⟩; have hal5 := below_alloc w5 (.cells #[.slice none 0 0, .int .u64 0] 36); have H5 := Lib.hid hR5; clear hR5) | (go_at_call 19; refine (rat_none (.inl (by decide))).mono ?_; rintro e w6 ⟨rfl, hb6⟩; have H6 := Lib.hid (Below.andThen hal5 hb6); clear hb6))
              go_roundw
              case rel => exact ⟨0, m + 1, Nat.zero_le _, by have := HJ.out.2; omega, rfl, by go_num, H5.out.below H6.out⟩
              case measure => simp [intOf]; have := HJ.out.2; omega
            | succ n =>
              obtain ⟨y, hy⟩ := get_lt (us := Tr.entsO o) (k := n) (by rw [HN.out]; have := HJ.out.1; omega)
              have HY := Lib.hid hy
              have HNx := Lib.hid (HR.out.back HT2.out hy)
              clear hy
              have g1 : ((n + 1 : Nat) : Int) - 1 = (n : Int) := by omega
              have g2 : (n : Int) + 1 - 1 = (n : Int) := by omega
              have g3 : decide ((0 : Int) < ((n + 1 : Nat) : Int)) = true := decide_eq_true (by omega)
              have g4 : decide ((0 : Int) < (n : Int) + 1) = true := decide_eq_true (by omega)
              have g5 : decide (0 < n + 1) = true := decide_eq_true (by omega)
              have hn0 : (0 : Int) ≤ (n : Int) := by omega
              have hn50 : (n : Int) ≤ 50 := by omega
              go_wp2_with (first
                | (go_at_call 24; refine HNx.out.mono ?_; rintro e w5 ⟨hh, dd, rfl, hR5, hp5⟩; have hal5 := below_alloc w5 (.cells #[.slice (some ⟨hh, 0, none⟩) y.1.length dd, .int .u64 (y.2 : Int)] 36); have H5 := Lib.hid (And.intro hR5 hp5); clear hR5 hp5) | (go_at_call 19; refine (rat_at HN.out (HD.out.ents (Below.andThen H5.out.1.bel hal5)) HY.out ((H5.out.2.below' hal5 (Nat.le_refl _)).keep hal5.size (fun _ _ => rfl))).mono ?_; rintro e w6 ⟨rfl, hb6⟩; have H6 := Lib.hid (Below.andThen hal5 hb6); clear hb6))
              go_roundw
              case rel => exact ⟨n, m + 1, by have := HJ.out.1; omega, by have := HJ.out.2; omega, by go_num, by go_num, H5.out.1.below H6.out⟩
              case measure => simp [intOf]; have := HJ.out.2; omega
          · by_cases k2 : kd = 2
            · subst k2
              clear k0 k1
              by_cases hpk : mv.p.length = k
              · have f1 : ((mv.p.length : Int) != (k : Int)) = false := by rw [hpk]; simp
                have HPK := Lib.hid hpk
                have HSk := Lib.hid (HR.out.seek HD.out.tree.1.2.2.2.2 (c := c') ((HV.out.1.below' HV.out.2.2.2 (Nat.le_refl _)).keep HB2.out.size (fun _ _ => rfl)) hpk HK.out.1 HK.out.2.1)
                clear hpk
                go_wp2_with (first
                  | (go_at_call 25; refine HSk.out.mono ?_; rintro e w5 ⟨rfl, j', hj', hR5, ha, hb⟩; have H5 := Lib.hid (And.intro hR5 (And.intro hj' (And.intro ha hb))); have z0 := y0 w5 (Below.andThen HB2.out hR5.bel); have z1 := y1 w5 (Below.andThen HB2.out hR5.bel); clear hR5 hj' ha hb)
                  | (go_at_call 20; refine (from8_at HN.out HD.out H5.out.1.bel HK.out.1 HK.out.2.1 (by omega) (HV.out.1.below' (Below.andThen HB2.out H5.out.1.bel) (Nat.le_refl _)) (Nat.le_trans HB2.out.size H5.out.1.bel.size) HPK.out H5.out.2.1 H5.out.2.2.1 H5.out.2.2.2).mono ?_; rintro e w6 ⟨rfl, rfl⟩))
                go_roundw
                case rel => exact ⟨j', m + 1, by have := H5.out.2.1; have := HN.out; omega, by have := HJ.out.2; omega, rfl, by go_num, H5.out.1⟩
                case measure => simp [intOf]; have := HJ.out.2; omega
              · have f1 : ((mv.p.length : Int) != (k : Int)) = true := by simp; omega
                have HSk := Lib.hid (HR.out.seekD HK.out.2.1 A' mv.p.length c' HV.out.2.1 hpk)
                clear hpk
                go_wp2_with (go_at_call 25; refine HSk.out.mono ?_; rintro e w5 ⟨rfl, rfl⟩)
                go_roundw
                case rel => exact ⟨j, m + 1, HJ.out.1, by have := HJ.out.2; omega, rfl, by go_num, HR.out⟩
                case measure => simp [intOf]; have := HJ.out.2; omega
            · have g0 : ((kd : Int) == 0) = false := by simp; omega
              have g1 : ((kd : Int) == 1) = false := by simp; omega
              have g2 : ((kd : Int) == 2) = false := by simp; omega
              have g0' : (kd == 0) = false := by simp; omega
              have g1' : (kd == 1) = false := by simp; omega
              have g2' : (kd == 2) = false := by simp; omega
              go_wp2_with fail
              go_roundw
              case rel => exact ⟨j, m + 1, HJ.out.1, by have := HJ.out.2; omega, rfl, by go_num, HR.out⟩
              case measure => simp [intOf]; have := HJ.out.2; omega
    · have HI := Lib.hid (is7_at HN.out HD.out HR.out.bel HT2.out)
      have HZ := Lib.hid (Below.andThen HB2.out HR.out.bel)
      have d5 : decide ((m : Int) < (q0 : Int)) = false := decide_eq_false (by omega)
      have d5' : decide (m < q0) = false := decide_eq_false hlt
      clear hlt hj hm
      go_wp2_with (go_at_call 26; refine HI.out.mono ?_; rintro e w5 ⟨rfl, hb5⟩)
      go_ret
      exact ⟨rfl, Below.andThen HZ.out hb5⟩

theorem walkMoves_c {w : World} {A : Option Addr} {c : Nat} {l : List ActT} (k : Int) (hT : Tz w) (hA : ActsT w w.heap.size A l) (hl : l.length ≤ maxLen) {A2 : Option Addr} {c2 : Nat} {M : List MoveT} (hM : MovesT w w.heap.size A2 M) :
    Calls Tryz.prog 4 #[.int .i64 k, .slice A l.length c, .slice A2 M.length c2] w fun e w' => e = .returned (.bool true) ∧ Below w.heap.size w w' := by
  rcases hh : heavyA 40 l with _ | _
  · by_cases hk : 1 ≤ k ∧ k ≤ 16
    · obtain ⟨n, rfl⟩ : ∃ n : Nat, k = (n : Int) := ⟨k.toNat, by omega⟩
      by_cases hbig : 100 < M.length
      · exact walkMoves_big n hT hA hl hh (by omega) (by omega) A2 M.length c2 hbig
      · exact walkMoves_go n hT hA hl hh (by omega) (by omega) hM (by omega)
    · exact walkMoves_arg k hT hA hl hh hk A2 M.length c2
  · exact walkMoves_skip k hT hA hl hh A2 M.length c2
end Go.Proofs.YtccefboifhfkdaaGreatDoor
