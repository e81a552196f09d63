/-
  CONTRACTS of package box, second part: isEmpty, Empty, Volume.
-/
import Derived.Test.YtiifggchnpdonaaBx1
namespace Go.Proofs.Ytiifggchnpdonaa
open Go.ChangeShapes Go.WideShapes Go.ChangeAt Go.RowKit

/-- a point that can be read, not empty: its cells -/
theorem Pts.at {w : World} {B : Nat} {A : Option Addr} {us : List Nat} (h : Pts w B A us) (h1 : 1 ≤ us.length) :
    ∃ b off, A = some ⟨b, off, none⟩ ∧ b < B ∧ ∀ i, i < us.length → w.cell? ⟨b, off + i, none⟩ = some (.int .u64 (Bx.g us i : Int)) := by
  obtain ⟨b, off, hA, hb, hc⟩ := h.open_ (by rintro rfl; simp at h1)
  exact ⟨b, off, hA, hb, fun i hi => hc i _ (Bx.g_get hi)⟩

theorem bisEmpty_c (A A' : Option Addr) (c c' : Nat) (lo hi : List Nat) (B : Nat) (w : World) (hp : Pts w B A lo) (hq : Pts w B A' hi) (hB : B ≤ w.heap.size) (h1 : 1 ≤ lo.length) (h16 : lo.length ≤ 16) (hlen : lo.length = hi.length) :
    Calls Try.prog 29 #[boxV A lo.length c A' hi.length c'] w fun e w' => e = .returned (.bool (Bx.emp lo hi lo.length)) ∧ w' = w.alloc (.cells #[.slice A lo.length c, .slice A' hi.length c'] 24) := by
  have hp1 := hp.below' (below_alloc w (.cells #[.slice A lo.length c, .slice A' hi.length c'] 24)) hB
  have hq1 := hq.below' (below_alloc w (.cells #[.slice A lo.length c, .slice A' hi.length c'] 24)) hB
  obtain ⟨b, off, hA, hb, hc⟩ := hp1.at h1
  obtain ⟨b', off', hA', hb', hc'⟩ := hq1.at (by omega)
  have hbx := boxAt_new w A lo.length c A' hi.length c'
  have hlg := fun i => Bx.g_lt hp.ok i
  have hhg := fun i => Bx.g_lt hq.ok i
  have h2 : 1 ≤ hi.length := by omega
  have h26 : hi.length ≤ 16 := by omega
  have Hl := Lib.hid hlen
  obtain ⟨k0, k1⟩ := hbx
  subst hA hA'
  clear hp hq hp1 hq1 hlen
  go_enter Try.func29, Try.ntmps29
  go_wp2
  generalize hW : w.alloc _ = W at *
  go_loop [3, 4, 8] (fun _ _ i => ∃ k : Nat, k ≤ lo.length ∧ i = .int .i64 k ∧ Bx.emp lo hi k = false) (fun _ _ i => lo.length - (intOf i).toNat)
  case atStart => exact ⟨0, Nat.zero_le _, rfl, rfl⟩
  case round =>
    obtain ⟨k, hk, rfl, hem⟩ := hrel
    have Hem := Lib.hid hem
    clear hem
    by_cases hlt : k < lo.length
    · have hcell := hc k hlt
      have hcell' := hc' k (by have := Hl.out; omega)
      have b1 := hlg k
      have b2 := hhg k
      have hlt' : k < hi.length := by have := Hl.out; omega
      clear hc hc' hlg hhg
      by_cases hcmp : Bx.g hi k < Bx.g lo k
      · have hfin : Hid (Bx.emp lo hi lo.length = true) := Lib.hid (Bx.emp_at (j := k + 1) (by simp [Bx.emp, hcmp]) (by omega))
        generalize Bx.g lo k = x at *
        generalize Bx.g hi k = y at *
        go_wp2
        go_ret
        exact ⟨by rw [hfin.out]; rfl, rfl⟩
      · have hst : Hid (Bx.emp lo hi (k + 1) = false) := Lib.hid (by simp [Bx.emp, Hem.out]; omega)
        generalize Bx.g lo k = x at *
        generalize Bx.g hi k = y at *
        go_wp2
        go_round
        case rel => exact ⟨k + 1, by omega, by go_num, hst.out⟩
        case measure => simp [intOf]; omega
    · have hfin : Hid (Bx.emp lo hi lo.length = false) := Lib.hid (by rw [show lo.length = k by omega]; exact Hem.out)
      clear hc hc' hlg hhg
      go_wp2
      go_ret
      exact ⟨by rw [hfin.out]; rfl, rfl⟩

/-! ### the same, said of what is left of the world -/
theorem bright_y (A A' : Option Addr) (n c n' c' : Nat) (w : World) (h1 : 1 ≤ n) (h16 : n ≤ 16) (h : n = n') :
    Calls Try.prog 15 #[boxV A n c A' n' c'] w fun e w' => e = .returned (.bool true) ∧ Below w.heap.size w w' :=
  (bright_yes A A' n c n' c' w h1 h16 h).mono fun _ _ ⟨he, hw⟩ => ⟨he, by rw [hw]; exact below_alloc _ _⟩
theorem bright_n (A A' : Option Addr) (n c n' c' : Nat) (w : World) (hn : n ≤ maxLen) (h : ¬ ((1 ≤ n ∧ n ≤ 16) ∧ n = n')) :
    Calls Try.prog 15 #[boxV A n c A' n' c'] w fun e w' => e = .returned (.bool false) ∧ Below w.heap.size w w' :=
  (bright_no A A' n c n' c' w hn h).mono fun _ _ ⟨he, hw⟩ => ⟨he, by rw [hw]; exact below_alloc _ _⟩
theorem bisEmpty_b (A A' : Option Addr) (c c' : Nat) (lo hi : List Nat) (B : Nat) (w : World) (r : Bool) (hr : Bx.emp lo hi lo.length = r) (hp : Pts w B A lo) (hq : Pts w B A' hi) (hB : B ≤ w.heap.size) (h1 : 1 ≤ lo.length) (h16 : lo.length ≤ 16) (hlen : lo.length = hi.length) :
    Calls Try.prog 29 #[boxV A lo.length c A' hi.length c'] w fun e w' => e = .returned (.bool r) ∧ Below w.heap.size w w' :=
  (bisEmpty_c A A' c c' lo hi B w hp hq hB h1 h16 hlen).mono fun _ _ ⟨he, hw⟩ => ⟨by rw [he, hr], by rw [hw]; exact below_alloc _ _⟩

/-! ### Empty -/
theorem bempty_no (A A' : Option Addr) (n c n' c' : Nat) (w : World) (hn : n ≤ maxLen) (h : ¬ ((1 ≤ n ∧ n ≤ 16) ∧ n = n')) :
    Calls Try.prog 9 #[boxV A n c A' n' c'] w fun e w' => e = .returned (.tuple #[.bool false, .int .i64 2]) ∧ Below w.heap.size w w' := by
  have H := Lib.hid h
  have Hn := Lib.hid hn
  clear h hn
  have hw0 := below_alloc w (.cells #[.slice A n c, .slice A' n' c'] 24)
  go_enter Try.func9, Try.ntmps9
  go_wp2_with (go_at_call 15; refine (bright_n _ _ _ _ _ _ _ Hn.out H.out).mono ?_; rintro e w1 ⟨rfl, hb1⟩)
  go_ret2
  exact ⟨rfl, Below.andThen hw0 hb1⟩
theorem bempty_yes (A A' : Option Addr) (c c' : Nat) (lo hi : List Nat) (B : Nat) (w : World) (r : Bool) (hr : Bx.emp lo hi lo.length = r) (hp : Pts w B A lo) (hq : Pts w B A' hi) (hB : B ≤ w.heap.size) (h1 : 1 ≤ lo.length) (h16 : lo.length ≤ 16) (hlen : lo.length = hi.length) :
    Calls Try.prog 9 #[boxV A lo.length c A' hi.length c'] w fun e w' => e = .returned (.tuple #[.bool r, .int .i64 0]) ∧ Below w.heap.size w w' := by
  have Hl := Lib.hid hlen
  have Hr := Lib.hid hr
  have hw0 := below_alloc w (.cells #[.slice A lo.length c, .slice A' hi.length c'] 24)
  have hbx := boxAt_new w A lo.length c A' hi.length c'
  have hp0 := hp.below' hw0 hB
  have hq0 := hq.below' hw0 hB
  have hB0 := Nat.le_trans hB hw0.size
  clear hlen hr
  go_enter Try.func9, Try.ntmps9
  go_wp2_with (first
    | (go_at_call 15; refine (bright_y _ _ _ _ _ _ _ h1 h16 Hl.out).mono ?_; rintro e w1 ⟨rfl, hb1⟩; have hp1 := hp0.below' hb1 hB0; have hq1 := hq0.below' hb1 hB0; obtain ⟨k0, k1⟩ := hbx.below hb1 (by simp))
    | (go_at_call 29; refine (bisEmpty_b _ _ _ _ lo hi _ _ r Hr.out hp1 hq1 (Nat.le_trans hB0 hb1.size) h1 h16 Hl.out).mono ?_; rintro e w2 ⟨rfl, hb2⟩))
  go_ret2
  exact ⟨rfl, Below.andThen (Below.andThen hw0 hb1) hb2⟩

/-! ### Volume -/
theorem bsum_one (x : Nat) (w : World) (hx : x < 18446744073709551616) :
    Calls Try.prog 31 #[.int .u64 (x : Int), .int .u64 1] w fun e w' => e = .returned (.int .u64 ((min 18446744073709551615 (x + 1) : Nat) : Int)) ∧ w = w' := bsum_c x 1 w hx (by omega)
theorem bvolume_no (A A' : Option Addr) (n c n' c' : Nat) (w : World) (hn : n ≤ maxLen) (h : ¬ ((1 ≤ n ∧ n ≤ 16) ∧ n = n')) :
    Calls Try.prog 10 #[boxV A n c A' n' c'] w fun e w' => e = .returned (.tuple #[.int .u64 0, .int .i64 2]) ∧ Below w.heap.size w w' := by
  have H := Lib.hid h
  have Hn := Lib.hid hn
  clear h hn
  have hw0 := below_alloc w (.cells #[.slice A n c, .slice A' n' c'] 24)
  go_enter Try.func10, Try.ntmps10
  go_wp2_with (go_at_call 15; refine (bright_n _ _ _ _ _ _ _ Hn.out H.out).mono ?_; rintro e w1 ⟨rfl, hb1⟩)
  go_ret2
  exact ⟨rfl, Below.andThen hw0 hb1⟩
theorem bvolume_emp (A A' : Option Addr) (c c' : Nat) (lo hi : List Nat) (B : Nat) (w : World) (hr : Bx.emp lo hi lo.length = true) (hp : Pts w B A lo) (hq : Pts w B A' hi) (hB : B ≤ w.heap.size) (h1 : 1 ≤ lo.length) (h16 : lo.length ≤ 16) (hlen : lo.length = hi.length) :
    Calls Try.prog 10 #[boxV A lo.length c A' hi.length c'] w fun e w' => e = .returned (.tuple #[.int .u64 0, .int .i64 0]) ∧ Below w.heap.size w w' := by
  have Hl := Lib.hid hlen
  have Hr := Lib.hid hr
  have hw0 := below_alloc w (.cells #[.slice A lo.length c, .slice A' hi.length c'] 24)
  have hbx := boxAt_new w A lo.length c A' hi.length c'
  have hp0 := hp.below' hw0 hB
  have hq0 := hq.below' hw0 hB
  have hB0 := Nat.le_trans hB hw0.size
  clear hlen hr
  go_enter Try.func10, Try.ntmps10
  go_wp2_with (first
    | (go_at_call 15; refine (bright_y _ _ _ _ _ _ _ h1 h16 Hl.out).mono ?_; rintro e w1 ⟨rfl, hb1⟩; have hp1 := hp0.below' hb1 hB0; have hq1 := hq0.below' hb1 hB0; obtain ⟨k0, k1⟩ := hbx.below hb1 (by simp))
    | (go_at_call 29; refine (bisEmpty_b _ _ _ _ lo hi _ _ true Hr.out hp1 hq1 (Nat.le_trans hB0 hb1.size) h1 h16 Hl.out).mono ?_; rintro e w2 ⟨rfl, hb2⟩))
  go_ret2
  exact ⟨rfl, Below.andThen (Below.andThen hw0 hb1) hb2⟩
set_option maxRecDepth 100000 in
theorem bvolume_some (A A' : Option Addr) (c c' : Nat) (lo hi : List Nat) (B : Nat) (w : World) (hr : Bx.emp lo hi lo.length = false) (hp : Pts w B A lo) (hq : Pts w B A' hi) (hB : B ≤ w.heap.size) (h1 : 1 ≤ lo.length) (h16 : lo.length ≤ 16) (hlen : lo.length = hi.length) :
    Calls Try.prog 10 #[boxV A lo.length c A' hi.length c'] w fun e w' => e = .returned (.tuple #[.int .u64 (Bx.vol lo hi lo.length : Int), .int .i64 0]) ∧ Below w.heap.size w w' := by
  have Hl := Lib.hid hlen
  have Hr := Lib.hid hr
  have Hle := Lib.hid (Bx.emp_false.1 hr)
  have hw0 := below_alloc w (.cells #[.slice A lo.length c, .slice A' hi.length c'] 24)
  have hbx := boxAt_new w A lo.length c A' hi.length c'
  have hp0 := hp.below' hw0 hB
  have hq0 := hq.below' hw0 hB
  have hB0 := Nat.le_trans hB hw0.size
  have h2 : 1 ≤ hi.length := by omega
  have h26 : hi.length ≤ 16 := by omega
  have hlg := fun i => Bx.g_lt hp.ok i
  have hhg := fun i => Bx.g_lt hq.ok i
  clear hlen hr
  go_enter Try.func10, Try.ntmps10
  go_wp2_with (first
    | (go_at_call 15; refine (bright_y _ _ _ _ _ _ _ h1 h16 Hl.out).mono ?_; rintro e w1 ⟨rfl, hb1⟩; have hp1 := hp0.below' hb1 hB0; have hq1 := hq0.below' hb1 hB0; have hbx1 := hbx.below hb1 (by simp); obtain ⟨k0, k1⟩ := hbx1)
    | (go_at_call 29; refine (bisEmpty_b _ _ _ _ lo hi _ _ false Hr.out hp1 hq1 (Nat.le_trans hB0 hb1.size) h1 h16 Hl.out).mono ?_; rintro e w2 ⟨rfl, hb2⟩; have hp2 := hp1.below' hb2 (Nat.le_trans hB0 hb1.size); have hq2 := hq1.below' hb2 (Nat.le_trans hB0 hb1.size); have hbx2 := BoxAt.below ⟨k0, k1⟩ hb2 (Nat.lt_of_lt_of_le (by simp) hb1.size); obtain ⟨j0, j1⟩ := hbx2))
  have hbel := Below.andThen (Below.andThen hw0 hb1) hb2
  obtain ⟨b, off, hA, hb, hc⟩ := hp2.at h1
  obtain ⟨b', off', hA', hb', hc'⟩ := hq2.at (by have := Hl.out; omega)
  subst hA hA'
  clear hp hq hp0 hq0 hp1 hq1 hp2 hq2 hb1 hb2 k0 k1 hbx hw0
  go_loop [4, 5, 6, 15] (fun v _ _ i => ∃ k : Nat, k ≤ lo.length ∧ i = .int .i64 k ∧ v = .int .u64 (Bx.vol lo hi k : Int)) (fun _ _ _ i => lo.length - (intOf i).toNat)
  case atStart => exact ⟨0, Nat.zero_le _, rfl, rfl⟩
  case round =>
    obtain ⟨k, hk, rfl, rfl⟩ := hrel
    have v1 := Bx.vol_le lo hi k
    have v0 := Bx.vol_pos lo hi k
    by_cases hlt : k < lo.length
    · have hcell := hc k hlt
      have hcell' := hc' k (by have := Hl.out; omega)
      have b1 := hlg k
      have b2 := hhg k
      have ble := Hle.out k hlt
      have hlt' : k < hi.length := by have := Hl.out; omega
      have hst := Lib.hid (Bx.vol_step (Bx.vol lo hi k) (Bx.g hi k - Bx.g lo k) v0)
      have hst2 : Hid (min 18446744073709551615 (Bx.vol lo hi k * (Bx.g hi k - Bx.g lo k + 1)) = Bx.vol lo hi (k + 1)) := Lib.hid rfl
      have hsub : Hid ((Bx.g hi k : Int) - (Bx.g lo k : Int) = ((Bx.g hi k - Bx.g lo k : Nat) : Int)) := Lib.hid (by omega)
      clear hc hc' hlg hhg
      generalize Bx.g lo k = x at *
      generalize Bx.g hi k = y at *
      generalize Bx.vol lo hi k = v at *
      go_wp2_with (first
        | (go_at_call 31; rw [hsub.out]; refine (bsum_one (y - x) _ (by omega)).mono ?_; rintro e w' ⟨rfl, rfl⟩)
        | (go_at_call 30; refine (bproduct_c v (min 18446744073709551615 (y - x + 1)) _ (by omega) (by omega)).mono ?_; rintro e w' ⟨rfl, rfl⟩))
      go_round
      case rel => exact ⟨k + 1, by omega, by go_num, by rw [hst.out, hst2.out]⟩
      case measure => simp [intOf]; omega
    · have hfin : Hid (k = lo.length) := Lib.hid (by omega)
      clear hc hc' hlg hhg
      go_wp2
      go_ret2
      exact ⟨by rw [← hfin.out]; rfl, hbel⟩
theorem bvolume_yes (A A' : Option Addr) (c c' : Nat) (lo hi : List Nat) (B : Nat) (w : World) (v : Nat) (hv : Bx.volume lo hi = v) (hp : Pts w B A lo) (hq : Pts w B A' hi) (hB : B ≤ w.heap.size) (h1 : 1 ≤ lo.length) (h16 : lo.length ≤ 16) (hlen : lo.length = hi.length) :
    Calls Try.prog 10 #[boxV A lo.length c A' hi.length c'] w fun e w' => e = .returned (.tuple #[.int .u64 (v : Int), .int .i64 0]) ∧ Below w.heap.size w w' := by
  unfold Bx.volume at hv
  by_cases h : Bx.emp lo hi lo.length = true
  · rw [if_pos h] at hv
    subst hv
    exact bvolume_emp A A' c c' lo hi B w h hp hq hB h1 h16 hlen
  · rw [if_neg h] at hv
    subst hv
    exact bvolume_some A A' c c' lo hi B w (by simpa using h) hp hq hB h1 h16 hlen

end Go.Proofs.Ytiifggchnpdonaa
