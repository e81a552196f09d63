/-
  THE WALK of the law BoxNest: whatever the point and the two levels, the law's call returns true, and what was there stays.
-/
import Derived.Test.YtiifggchnpdonaaAw3
namespace Go.Proofs.Ytiifggchnpdonaa
open Go.ChangeShapes Go.WideShapes Go.ChangeAt Go.RowKit

set_option maxRecDepth 100000 in
theorem boxNest_dim (A : Option Addr) (c n : Nat) (l h : Int) (w : World) (hn : n ≤ maxLen) (hr : ¬ (1 ≤ n ∧ n ≤ 16)) :
    Calls Try.prog 6 #[.slice A n c, .int .i64 l, .int .i64 h] w fun e w' => e = .returned (.bool true) ∧ Below w.heap.size w w' := by
  have H := Lib.hid hr
  have Hn := Lib.hid hn
  clear hr hn
  go_enter Try.func6, Try.ntmps6
  go_wp2_with (first
    | (go_at_call 7; refine (awake3_c _).mono ?_; rintro e w1 ⟨rfl, hb1⟩)
    | (go_at_call 24; refine (rright_no _ _ _ _ Hn.out H.out).mono ?_; rintro e w' ⟨rfl, rfl⟩))
  go_ret
  exact ⟨rfl, hb1⟩
set_option maxRecDepth 100000 in
theorem boxNest_lev (A : Option Addr) (c n : Nat) (l h : Int) (w : World) (h1 : 1 ≤ n) (h16 : n ≤ 16) (hl : l < -1 ∨ h < l ∨ 63 < h) :
    Calls Try.prog 6 #[.slice A n c, .int .i64 l, .int .i64 h] w fun e w' => e = .returned (.bool true) ∧ Below w.heap.size w w' := by
  by_cases d1 : l < -1
  · clear hl
    go_enter Try.func6, Try.ntmps6
    go_wp2_with (first
      | (go_at_call 7; refine (awake3_c _).mono ?_; rintro e w1 ⟨rfl, hb1⟩)
      | (go_at_call 24; refine (rright_yes _ _ _ _ h1 h16).mono ?_; rintro e w' ⟨rfl, rfl⟩))
    go_ret
    exact ⟨rfl, hb1⟩
  · by_cases d2 : h < l
    · clear hl
      go_enter Try.func6, Try.ntmps6
      go_wp2_with (first
        | (go_at_call 7; refine (awake3_c _).mono ?_; rintro e w1 ⟨rfl, hb1⟩)
        | (go_at_call 24; refine (rright_yes _ _ _ _ h1 h16).mono ?_; rintro e w' ⟨rfl, rfl⟩))
      go_ret
      exact ⟨rfl, hb1⟩
    · have d3 : 63 < h := by omega
      clear hl
      go_enter Try.func6, Try.ntmps6
      go_wp2_with (first
        | (go_at_call 7; refine (awake3_c _).mono ?_; rintro e w1 ⟨rfl, hb1⟩)
        | (go_at_call 24; refine (rright_yes _ _ _ _ h1 h16).mono ?_; rintro e w' ⟨rfl, rfl⟩))
      go_ret
      exact ⟨rfl, hb1⟩

set_option maxRecDepth 100000 in
set_option maxHeartbeats 1600000 in
theorem boxNest_yes (A : Option Addr) (c k1 k2 : Nat) (us : List Nat) (w : World) (hp : Pts w w.heap.size A us) (h1 : 1 ≤ us.length) (h16 : us.length ≤ 16) (h12 : k1 ≤ k2) (h264 : k2 ≤ 64) :
    Calls Try.prog 6 #[.slice A us.length c, .int .i64 ((k1 : Int) - 1), .int .i64 ((k2 : Int) - 1)] w fun e w' => e = .returned (.bool true) ∧ Below w.heap.size w w' := by
  obtain ⟨L1, hL1⟩ : ∃ L, Z.cut us k1 = L := ⟨_, rfl⟩
  obtain ⟨H1, hH1⟩ : ∃ L, Bx.cellHi us k1 = L := ⟨_, rfl⟩
  obtain ⟨L2, hL2⟩ : ∃ L, Z.cut us k2 = L := ⟨_, rfl⟩
  obtain ⟨H2, hH2⟩ : ∃ L, Bx.cellHi us k2 = L := ⟨_, rfl⟩
  obtain ⟨V1, hV1⟩ : ∃ v, Bx.volume L1 H1 = v := ⟨_, rfl⟩
  obtain ⟨V2, hV2⟩ : ∃ v, Bx.volume L2 H2 = v := ⟨_, rfl⟩
  have n1 : L1.length = us.length := by rw [← hL1, Z.cut_length]
  have n2 : H1.length = us.length := by rw [← hH1, Bx.cellHi_length]
  have n3 : L2.length = us.length := by rw [← hL2, Z.cut_length]
  have n4 : H2.length = us.length := by rw [← hH2, Bx.cellHi_length]
  have hm := Bx.meet_cells (p := us) h12
  rw [hL1, hL2, hH1, hH2] at hm
  have hW1 : V1 = Bx.pw (k1 * us.length) := by rw [← hV1, ← hL1, ← hH1, Bx.cell_volume]
  have hW2 : V2 = Bx.pw (k2 * us.length) := by rw [← hV2, ← hL2, ← hH2, Bx.cell_volume]
  have v1 : V1 < 18446744073709551616 := by rw [hW1]; exact Bx.pw_lt _
  have v2 : V2 < 18446744073709551616 := by rw [hW2]; exact Bx.pw_lt _
  have D : Hid ((Z.cut us k1 = L1 ∧ Bx.cellHi us k1 = H1 ∧ Z.cut us k2 = L2 ∧ Bx.cellHi us k2 = H2) ∧ (Bx.volume L1 H1 = V1 ∧ Bx.volume L2 H2 = V2) ∧ (1 ≤ L1.length ∧ L1.length ≤ 16 ∧ L1.length = H1.length ∧ L1.length = L2.length ∧ L2.length = H2.length ∧ 1 ≤ L2.length ∧ L2.length ≤ 16 ∧ H1.length ≤ 16) ∧ (Bx.meetLo L1 L2 = L1 ∧ Bx.meetHi H1 H2 = H1) ∧ V1 = Bx.pw (k1 * us.length) ∧ V2 = Bx.pw (k2 * us.length)) :=
    Lib.hid ⟨⟨hL1, hH1, hL2, hH2⟩, ⟨hV1, hV2⟩, ⟨by omega, by omega, by omega, by omega, by omega, by omega, by omega, by omega⟩, hm, hW1, hW2⟩
  clear hL1 hH1 hL2 hH2 hV1 hV2 n1 n2 n3 n4 hm hW1 hW2
  go_enter Try.func6, Try.ntmps6
  go_wp2_with (first
    | (go_at_call 7; refine (awake3_c _).mono ?_; rintro e w1 ⟨rfl, hb1⟩; have hp1 := hp.below' hb1 (Nat.le_refl _))
    | (go_at_call 24; refine (rright_yes _ _ _ _ h1 h16).mono ?_; rintro e w' ⟨rfl, rfl⟩))
  refine (bcell_yes A c k1 us L1 H1 _ w1 D.out.1.1 D.out.1.2.1 hp1 hb1.size h1 h16 (Nat.le_trans h12 h264)).mono ?_
  rintro e w2 ⟨A1, c1, A2, c2, rfl, p1, p2, hb2⟩
  have hs1 := hb1.size
  have hs2 := hb2.size
  have hp2 := (hp1.below' hb2 hb1.size).below' (below_alloc w2 (.cells #[.slice A1 L1.length c1, .slice A2 H1.length c2] 24)) (Nat.le_trans hb1.size hb2.size)
  go_wp2_with fail
  refine (bcell_yes A c k2 us L2 H2 _ _ D.out.1.2.2.1 D.out.1.2.2.2 hp2 (by simp; omega) h1 h16 h264).mono ?_
  rintro e w3 ⟨A3, c3, A4, c4, rfl, p3, p4, hb3⟩
  have hbA : Below w.heap.size w w2 := Below.andThen hb1 hb2
  have hbB : Below w2.heap.size w2 w3 := Below.andThen (below_alloc _ _) hb3
  have hs3 := hb3.size
  rw [World.size_alloc] at hs3
  have x1 := (boxAt_new w2 A1 L1.length c1 A2 H1.length c2).below hb3 (by simp)
  have q1 := p1.below hbB hbB.size
  have q2 := p2.below hbB hbB.size
  obtain ⟨k0, k1'⟩ := x1.below (below_alloc w3 (.cells #[.slice A3 L2.length c3, .slice A4 H2.length c4] 24)) (by omega)
  clear hp2 p1 p2
  go_wp2_with fail
  refine (bmeet_yes A1 A2 A3 A4 c1 c2 c3 c4 L1 H1 L2 H2 L1 H1 w3.heap.size _ D.out.2.2.2.1.1 D.out.2.2.2.1.2 (q1.below' (below_alloc _ _) (Nat.le_refl _)) (q2.below' (below_alloc _ _) (Nat.le_refl _)) (p3.below' (below_alloc _ _) (Nat.le_refl _)) (p4.below' (below_alloc _ _) (Nat.le_refl _)) (by simp) D.out.2.2.1.1 D.out.2.2.1.2.1 D.out.2.2.1.2.2.1 D.out.2.2.1.2.2.2.1 D.out.2.2.1.2.2.2.2.1).mono ?_
  rintro e w4 ⟨A5, c5, A6, c6, rfl, p5, p6, hb4⟩
  have hbC : Below w3.heap.size w3 w4 := Below.andThen (below_alloc _ _) hb4
  have hs4 := hb4.size
  rw [World.size_alloc] at hs4
  have y1 := x1.below hbC (by omega)
  have y2 := (boxAt_new w3 A3 L2.length c3 A4 H2.length c4).below hb4 (by simp)
  have r1 := q1.below hbC hbC.size
  have r2 := q2.below hbC hbC.size
  have r3 := p3.below hbC hbC.size
  have r4 := p4.below hbC hbC.size
  have hal := below_alloc w4 (.cells #[.slice A5 L1.length c5, .slice A6 H1.length c6] 24)
  obtain ⟨k2, k3⟩ := y1.below hal (by omega)
  obtain ⟨k4, k5⟩ := y2.below hal (by omega)
  clear q1 q2 p3 p4 k0 k1' x1
  go_wp2_with fail
  refine (bvolume_yes A1 A2 c1 c2 L1 H1 w4.heap.size _ V1 D.out.2.1.1 (r1.below' hal (Nat.le_refl _)) (r2.below' hal (Nat.le_refl _)) (by simp) D.out.2.2.1.1 D.out.2.2.1.2.1 D.out.2.2.1.2.2.1).mono ?_
  rintro e w5 ⟨rfl, hb5⟩
  have hbD : Below w4.heap.size w4 w5 := Below.andThen hal hb5
  have hs5 := hb5.size
  rw [World.size_alloc] at hs5
  have z3 := (boxAt_new w4 A5 L1.length c5 A6 H1.length c6).below hb5 (by simp)
  obtain ⟨m0, m1⟩ := y1.below hbD (by omega)
  obtain ⟨m2, m3⟩ := y2.below hbD (by omega)
  clear k2 k3 k4 k5
  go_wp2_with fail
  refine (bvolume_yes A3 A4 c3 c4 L2 H2 w4.heap.size _ V2 D.out.2.1.2 (r3.below' hbD (Nat.le_refl _)) (r4.below' hbD (Nat.le_refl _)) (by omega) D.out.2.2.1.2.2.2.2.2.1 D.out.2.2.1.2.2.2.2.2.2.1 D.out.2.2.1.2.2.2.2.1).mono ?_
  rintro e w6 ⟨rfl, hb6⟩
  have hbE : Below w4.heap.size w4 w6 := hbD.trans (hb6.mono (by omega))
  have hs6 := hb6.size
  obtain ⟨o0, o1⟩ := y1.below hbE (by omega)
  obtain ⟨o2, o3⟩ := z3.below hb6 (by omega)
  clear m0 m1 m2 m3
  go_wp2_with fail
  refine (r3same_c A5 A6 A1 A2 c5 c6 c1 c2 L1 H1 L1 H1 w4.heap.size _ (p5.below' hbE (Nat.le_refl _)) (p6.below' hbE (Nat.le_refl _)) (r1.below' hbE (Nat.le_refl _)) (r2.below' hbE (Nat.le_refl _)) (by omega) D.out.2.2.1.2.1 D.out.2.2.1.2.2.2.2.2.2.2 rfl rfl).mono ?_
  rintro e w7 ⟨rfl, hb7⟩
  have hfin : Below w.heap.size w w7 := Below.andThen (Below.andThen (Below.andThen (Below.andThen hbA hbB) hbC) hbE) hb7
  clear o0 o1 o2 o3 r1 r2 r3 r4 p5 p6 y1 y2 z3
  go_wp2_with fail
  have HV1 := Lib.hid D.out.2.2.2.2.1
  have HV2 := Lib.hid D.out.2.2.2.2.2
  have hN : ∃ N, us.length = N := ⟨_, rfl⟩
  obtain ⟨N, hN⟩ := hN
  rw [hN] at HV1 HV2 h1 h16 ⊢
  clear D hbA hbB hbC hbE hb7 hp1
  go_loop [13, 17, 18] (fun v n _ => ∃ a : Nat, k1 ≤ a ∧ a ≤ k2 ∧ n = .int .i64 ((a : Int) - 1) ∧ v = .int .u64 (Bx.pw (a * N) : Int)) (fun _ n _ => (k2 - 1 - intOf n).toNat)
  case atStart => exact ⟨k1, Nat.le_refl _, h12, rfl, by rw [HV1.out]⟩
  case round =>
    obtain ⟨a, ha1, ha2, rfl, rfl⟩ := hrel
    by_cases hlt : a < k2
    · go_wp2_with fail
      go_loop [13, 18] (fun v k => ∃ j : Nat, j ≤ N ∧ k = .int .i64 j ∧ v = .int .u64 (Bx.pw (a * N + j) : Int)) (fun _ k => N - (intOf k).toNat)
      case atStart => exact ⟨0, Nat.zero_le _, rfl, rfl⟩
      case round =>
        obtain ⟨j, hj, rfl, rfl⟩ := hrel
        by_cases hlt2 : j < N
        · obtain ⟨s1, s2⟩ := Bx.pw_step (a * N + j)
          have S1 := Lib.hid s1
          have S2 := Lib.hid s2
          have b1 := Bx.pw_lt (a * N + j)
          clear s1 s2
          obtain ⟨x', hx'⟩ : ∃ x', Bx.pw (a * N + j + 1) = x' := ⟨_, rfl⟩
          rw [hx'] at S1 S2
          have Hx' : Hid (Bx.pw (a * N + (j + 1)) = x') := Lib.hid hx'
          clear hx'
          generalize Bx.pw (a * N + j) = x at *
          by_cases hbig : 9223372036854775807 < x
          · have e1 := Lib.hid (S1.out hbig)
            go_wp2_with fail
            go_round
            case rel => exact ⟨j + 1, by omega, by go_num, by rw [Hx'.out]; refine congrArg (Value.int .u64) ?_; have := e1.out; omega⟩
            case measure => simp [intOf]; omega
          · have e1 := Lib.hid (S2.out (by omega))
            go_wp2_with fail
            go_round
            case rel => exact ⟨j + 1, by omega, by go_num, by rw [Hx'.out]; refine congrArg (Value.int .u64) ?_; have := e1.out; omega⟩
            case measure => simp [intOf]; omega
        · have hjN : Hid (a * N + j = (a + 1) * N) := Lib.hid (by rw [Nat.succ_mul, show j = N by omega])
          go_wp2_with fail
          go_round
          case rel => exact ⟨a + 1, by omega, by omega, by go_num, by rw [hjN.out]⟩
          case measure => simp [intOf]; omega
    · have hak : Hid (a = k2) := Lib.hid (by omega)
      have hv : (Bx.pw (a * N) == V2) = true := by rw [HV2.out, beq_iff_eq, hak.out]
      go_wp2_with fail
      go_ret
      exact ⟨ret_bool (by have e := HV2.out; rw [hak.out, ← e]; simp), hfin⟩
/-- THE LAW's CALL, AT EVERY INPUT -/
theorem boxNest_w (A : Option Addr) (c : Nat) (us : List Nat) (l h : Int) (w : World) (hp : Pts w w.heap.size A us) (hm : us.length ≤ maxLen) :
    Calls Try.prog 6 #[.slice A us.length c, .int .i64 l, .int .i64 h] w fun e w' => e = .returned (.bool true) ∧ Below w.heap.size w w' := by
  by_cases hr : 1 ≤ us.length ∧ us.length ≤ 16
  case neg => exact boxNest_dim A c _ l h w hm hr
  by_cases hl : l < -1 ∨ h < l ∨ 63 < h
  · exact boxNest_lev A c _ l h w hr.1 hr.2 hl
  · have e1 : l = (((l + 1).toNat : Nat) : Int) - 1 := by omega
    have e2 : h = (((h + 1).toNat : Nat) : Int) - 1 := by omega
    rw [e1, e2]
    exact boxNest_yes A c (l + 1).toNat (h + 1).toNat us w hp hr.1 hr.2 (by omega) (by omega)

end Go.Proofs.Ytiifggchnpdonaa
