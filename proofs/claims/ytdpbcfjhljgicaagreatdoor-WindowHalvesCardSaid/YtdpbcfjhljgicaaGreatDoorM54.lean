import Derived.Test.YtdpbcfjhljgicaaGreatDoorM53
/-
  CONTRACTS of package mask, fifth part: Whole.
-/
namespace Go.Proofs.YtdpbcfjhljgicaaGreatDoor
open Go.ChangeShapes Go.WideShapes Go.ChangeAt Go.RowKit

/-! ### Whole -/
set_option maxRecDepth 100000 in
theorem mwhole_dim (A C C' : Option Addr) (n c m d m' d' : Nat) (l : Int) (w : World) (hn : n ≤ maxLen) (h : ¬ ((1 ≤ n ∧ n ≤ 16) ∧ m = n ∧ m' = n)) :
    Calls Tryz.prog 169 #[.slice A n c, .int .i64 l, boxV C m d C' m' d'] w fun e w' => e = .returned (.tuple #[.bool false, .int .i64 2]) ∧ Below w.heap.size w w' := by
  have H := Lib.hid h
  have Hn := Lib.hid hn
  clear h hn
  have hbel := below_alloc w (.cells #[.slice C m d, .slice C' m' d'] 25)
  obtain ⟨k0, k1⟩ := boxAt_new w C m d C' m' d'
  go_enter Tryz.func169, Tryz.ntmps169
  go_wp2_with fail
  refine (malike_no A C C' n c m d m' d' _ Hn.out H.out).mono ?_
  rintro e w1 ⟨rfl, hb1⟩
  go_wp2_with fail
  go_ret2
  exact ⟨rfl, Below.andThen hbel hb1⟩
set_option maxRecDepth 100000 in
set_option maxHeartbeats 1600000 in
theorem mwhole_yes (A C C' : Option Addr) (c d d' : Nat) (us lo hi : List Nat) (l : Int) (K B : Nat) (w : World) (r : Bool) (hr : Mk.whole us K lo hi us.length = r) (pu : Pts w B A us) (pl : Pts w B C lo) (ph : Pts w B C' hi) (hB : B ≤ w.heap.size)
    (h1 : 1 ≤ us.length) (h16 : us.length ≤ 16) (e1 : lo.length = us.length) (e2 : hi.length = us.length) (hl : l = (K : Int) - 1) (hK : K ≤ 64) :
    Calls Tryz.prog 169 #[.slice A us.length c, .int .i64 l, boxV C lo.length d C' hi.length d'] w fun e w' =>
      e = .returned (.tuple #[.bool r, .int .i64 0]) ∧ Below w.heap.size w w' := by
  obtain ⟨b, off, hA, hb, hc⟩ := pu.at h1
  obtain ⟨b1, off1, hA1, hb1', hc1⟩ := pl.at (by omega)
  obtain ⟨b2, off2, hA2, hb2', hc2⟩ := ph.at (by omega)
  subst hA hA1 hA2
  have hug := fun i => Bx.g_lt pu.ok i
  have hlg := fun i => Bx.g_lt pl.ok i
  have hhg := fun i => Bx.g_lt ph.ok i
  have E1 := Lib.hid e1
  have E2 := Lib.hid e2
  have HR := Lib.hid hr
  have g1 : 1 ≤ lo.length := by omega
  have g16 : lo.length ≤ 16 := by omega
  have k1 : 1 ≤ hi.length := by omega
  have k16 : hi.length ≤ 16 := by omega
  clear e1 e2 pu pl ph hr
  have hbel := below_alloc w (.cells #[.slice (some ⟨b1, off1, none⟩) lo.length d, .slice (some ⟨b2, off2, none⟩) hi.length d'] 25)
  have hbx := boxAt_new w (some ⟨b1, off1, none⟩) lo.length d (some ⟨b2, off2, none⟩) hi.length d'
  have hbx' := hbx
  obtain ⟨q0, q1⟩ := hbx'
  have hl0 : -1 ≤ l := by omega
  have hl1 : l ≤ 63 := by omega
  have hl2 : l + 1 = (K : Int) := by omega
  clear hl
  go_enter Tryz.func169, Tryz.ntmps169
  go_wp2_with fail
  refine (malike_yes _ _ _ us.length c lo.length d hi.length d' _ h1 h16 E1.out E2.out).mono ?_
  rintro e w1 ⟨rfl, hb1⟩
  have hx1 := hbx.below hb1 (by simp)
  have hB1 := Below.andThen hbel hb1
  clear q0 q1 hbel hbx hb1
  go_wp2_with fail
  rw [show IntKind.u64.max = 18446744073709551615 from rfl, not_keep K hK]
  obtain ⟨q0, q1⟩ := hx1
  have hac := fun u (hu : u < 18446744073709551616) => Mk.andNot_u64 u (2 ^ K - 1) hu (by have := Bx.pow_le_64 hK; omega)
  have hoc := fun u (hu : u < 18446744073709551616) => bits_or_u64_nat u (2 ^ K - 1) hu (by have := Bx.pow_le_64 hK; omega)
  have hcl := fun u (hu : u < 18446744073709551616) => Bx.cell_lt (u := u) hu hK
  have HF : Hid ((∀ u : Nat, u < 18446744073709551616 → bits .andNot .u64 (u : Int) ((2 ^ K - 1 : Nat) : Int) = (Z.cutN u K : Int)) ∧ (∀ u : Nat, u < 18446744073709551616 → bits .or .u64 (u : Int) ((2 ^ K - 1 : Nat) : Int) = ((Z.cutN u K + (2 ^ K - 1) : Nat) : Int)) ∧ (∀ u : Nat, u < 18446744073709551616 → Z.cutN u K + (2 ^ K - 1) < 18446744073709551616)) :=
    Lib.hid ⟨fun u hu => by rw [hac u hu, Mk.less_cut], fun u hu => by rw [hoc u hu, Mk.or_low], hcl⟩
  clear hac hoc hcl
  have HW : Hid (∀ j, Mk.whole us K lo hi (j + 1) = (Mk.whole us K lo hi j && (decide (Bx.g lo j ≤ Z.cutN (Bx.g us j) K) && decide (Z.cutN (Bx.g us j) K + (2 ^ K - 1) ≤ Bx.g hi j)))) := Lib.hid (fun _ => rfl)
  generalize 2 ^ K - 1 = F at *
  go_loop [9, 10, 27] (fun _ _ i => ∃ j : Nat, j ≤ us.length ∧ i = .int .i64 j ∧ Mk.whole us K lo hi j = true) (fun _ _ i => us.length - (intOf i).toNat)
  case atStart => exact ⟨0, Nat.zero_le _, rfl, rfl⟩
  case round =>
    obtain ⟨j, hj, rfl, hwh⟩ := hrel
    have Hwh := Lib.hid hwh
    clear hwh
    by_cases hlt : j < us.length
    · have j1 : j < lo.length := by have := E1.out; omega
      have j2 : j < hi.length := by have := E2.out; omega
      have hBs := hB1.size
      have hcell := (hB1.cell (p := ⟨b, off + j, none⟩) (by show b < _; omega)).trans (hc j hlt)
      have hcell1 := (hB1.cell (p := ⟨b1, off1 + j, none⟩) (by show b1 < _; omega)).trans (hc1 j j1)
      have hcell2 := (hB1.cell (p := ⟨b2, off2 + j, none⟩) (by show b2 < _; omega)).trans (hc2 j j2)
      have hu := hug j
      have hlu := hlg j
      have hhu := hhg j
      have ha := HF.out.1 _ hu
      have ho := HF.out.2.1 _ hu
      have hpl := HF.out.2.2 _ hu
      have hnext := HW.out j
      rw [Hwh.out, Bool.true_and] at hnext
      clear hc hc1 hc2 hug hlg hhg
      generalize Z.cutN (Bx.g us j) K = p at *
      generalize Bx.g us j = u at *
      generalize Bx.g lo j = x at *
      generalize Bx.g hi j = y at *
      generalize p + F = q at *
      by_cases ca : p < x
      · have d1 : decide ((p : Int) < (x : Int)) = true := decide_eq_true (by omega)
        have d3 : decide (p < x) = true := decide_eq_true (by omega)
        have hfin : Hid (r = false) := Lib.hid (by
          rw [← HR.out]
          refine Mk.whole_at (j := j + 1) ?_ (by omega)
          rw [hnext, decide_eq_false (by omega)]; rfl)
        clear hnext ca
        go_wp2
        go_ret2
        exact ⟨by rw [hfin.out]; rfl, hB1⟩
      · have d1 : decide ((p : Int) < (x : Int)) = false := decide_eq_false (by omega)
        have d3 : decide (p < x) = false := decide_eq_false (by omega)
        by_cases cb : y < q
        · have d2 : decide ((y : Int) < (q : Int)) = true := decide_eq_true (by omega)
          have d4 : decide (y < q) = true := decide_eq_true (by omega)
          have hfin : Hid (r = false) := Lib.hid (by
            rw [← HR.out]
            refine Mk.whole_at (j := j + 1) ?_ (by omega)
            rw [hnext, decide_eq_false (show ¬ q ≤ y by omega), Bool.and_false])
          clear hnext ca cb
          go_wp2
          go_ret2
          exact ⟨by rw [hfin.out]; rfl, hB1⟩
        · have d2 : decide ((y : Int) < (q : Int)) = false := decide_eq_false (by omega)
          have d4 : decide (y < q) = false := decide_eq_false (by omega)
          have hst : Hid (Mk.whole us K lo hi (j + 1) = true) := Lib.hid (by rw [hnext, decide_eq_true (by omega), decide_eq_true (by omega)]; rfl)
          clear hnext ca cb
          go_wp2
          go_round
          case rel => exact ⟨j + 1, by omega, by go_num, hst.out⟩
          case measure => simp [intOf]; omega
    · have hfin : Hid (r = true) := Lib.hid (by rw [← HR.out, show us.length = j by omega]; exact Hwh.out)
      clear hc hc1 hc2 hug hlg hhg
      go_wp2
      go_ret2
      exact ⟨by rw [hfin.out]; rfl, hB1⟩
end Go.Proofs.YtdpbcfjhljgicaaGreatDoor
