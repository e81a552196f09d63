/-
  CONTRACTS of package box, third part: In, Far, FarBox.
-/
import Derived.Test.YtiifggchnpdonaaBx2
namespace Go.Proofs.Ytiifggchnpdonaa
open Go.ChangeShapes Go.WideShapes Go.ChangeAt Go.RowKit

/-! ### In -/
theorem bin_no (A A' C : Option Addr) (n c n' c' m d : Nat) (w : World) (hn : n ≤ maxLen) (h : ¬ ((1 ≤ n ∧ n ≤ 16) ∧ n = n')) :
    Calls Try.prog 11 #[boxV A n c A' n' c', .slice C m d] w fun e w' => e = .returned (.tuple #[.bool false, .int .i64 2]) ∧ Below w.heap.size w w' := by
  have H := Lib.hid h
  have Hn := Lib.hid hn
  clear h hn
  have hw0 := below_alloc w (.cells #[.slice A n c, .slice A' n' c'] 24)
  go_enter Try.func11, Try.ntmps11
  go_wp2_with (go_at_call 15; refine (bright_n _ _ _ _ _ _ _ Hn.out H.out).mono ?_; rintro e w1 ⟨rfl, hb1⟩)
  go_ret2
  exact ⟨rfl, Below.andThen hw0 hb1⟩
theorem bin_len (A A' C : Option Addr) (n c n' c' m d : Nat) (w : World) (h1 : 1 ≤ n) (h16 : n ≤ 16) (h : n = n') (hm : n ≠ m) :
    Calls Try.prog 11 #[boxV A n c A' n' c', .slice C m d] w fun e w' => e = .returned (.tuple #[.bool false, .int .i64 2]) ∧ Below w.heap.size w w' := by
  have H := Lib.hid h
  have Hn : Hid (n ≤ maxLen) := Lib.hid (by unfold maxLen; omega)
  have Hm : Hid (¬ ((1 ≤ n ∧ n ≤ 16) ∧ n = m)) := Lib.hid (by omega)
  clear h hm
  have hw0 := below_alloc w (.cells #[.slice A n c, .slice A' n' c'] 24)
  have hbx := boxAt_new w A n c A' n' c'
  go_enter Try.func11, Try.ntmps11
  go_wp2_with (first
    | (go_at_call 15; refine (bright_y _ _ _ _ _ _ _ h1 h16 H.out).mono ?_; rintro e w1 ⟨rfl, hb1⟩; obtain ⟨k0, k1⟩ := hbx.below hb1 (by simp))
    | (go_at_call 32; refine (balike_no _ _ _ _ _ _ _ Hn.out Hm.out).mono ?_; rintro e w' ⟨rfl, rfl⟩))
  go_ret2
  exact ⟨rfl, Below.andThen hw0 hb1⟩
set_option maxRecDepth 100000 in
theorem bin_yes (A A' C : Option Addr) (c c' d : Nat) (lo hi us : List Nat) (B : Nat) (w : World) (r : Bool) (hr : Bx.isin lo hi us lo.length = r) (hp : Pts w B A lo) (hq : Pts w B A' hi) (hu : Pts w B C us) (hB : B ≤ w.heap.size) (h1 : 1 ≤ lo.length) (h16 : lo.length ≤ 16) (hlen : lo.length = hi.length) (hlen2 : lo.length = us.length) :
    Calls Try.prog 11 #[boxV A lo.length c A' hi.length c', .slice C us.length d] w fun e w' => e = .returned (.tuple #[.bool r, .int .i64 0]) ∧ Below w.heap.size w w' := by
  have Hl := Lib.hid hlen
  have Hl2 := Lib.hid hlen2
  have Hr := Lib.hid hr
  have hw0 := below_alloc w (.cells #[.slice A lo.length c, .slice A' hi.length c'] 24)
  have hbx := boxAt_new w A lo.length c A' hi.length c'
  have hp0 := hp.below' hw0 hB
  have hq0 := hq.below' hw0 hB
  have hu0 := hu.below' hw0 hB
  have hB0 := Nat.le_trans hB hw0.size
  have h2 : 1 ≤ hi.length := by omega
  have h26 : hi.length ≤ 16 := by omega
  have h3 : 1 ≤ us.length := by omega
  have h36 : us.length ≤ 16 := by omega
  have hlg := fun i => Bx.g_lt hp.ok i
  have hhg := fun i => Bx.g_lt hq.ok i
  have hug := fun i => Bx.g_lt hu.ok i
  clear hlen hlen2 hr
  go_enter Try.func11, Try.ntmps11
  go_wp2_with (first
    | (go_at_call 15; refine (bright_y _ _ _ _ _ _ _ h1 h16 Hl.out).mono ?_; rintro e w1 ⟨rfl, hb1⟩; have hp1 := hp0.below' hb1 hB0; have hq1 := hq0.below' hb1 hB0; have hu1 := hu0.below' hb1 hB0; have hbx1 := hbx.below hb1 (by simp); obtain ⟨k0, k1⟩ := hbx1)
    | (go_at_call 32; refine (balike_yes _ _ _ _ _ _ _ h1 h16 Hl2.out).mono ?_; rintro e w' ⟨rfl, rfl⟩))
  have hbel := Below.andThen hw0 hb1
  obtain ⟨b, off, hA, hb, hc⟩ := hp1.at h1
  obtain ⟨b', off', hA', hb', hc'⟩ := hq1.at h2
  obtain ⟨b2, off2, hA2, hb2, hc2⟩ := hu1.at h3
  subst hA hA' hA2
  clear hp hq hu hp0 hq0 hu0 hp1 hq1 hu1 hb1 hbx hw0
  go_loop [6, 7, 20] (fun _ _ i => ∃ k : Nat, k ≤ us.length ∧ i = .int .i64 k ∧ Bx.isin lo hi us k = true) (fun _ _ i => us.length - (intOf i).toNat)
  case atStart => exact ⟨0, Nat.zero_le _, rfl, rfl⟩
  case round =>
    obtain ⟨k, hk, rfl, hin⟩ := hrel
    have Hin := Lib.hid hin
    clear hin
    by_cases hlt : k < us.length
    · have hl1 : k < lo.length := by have := Hl2.out; omega
      have hl2 : k < hi.length := by have := Hl2.out; have := Hl.out; omega
      have hcell := hc k hl1
      have hcell' := hc' k hl2
      have hcell2 := hc2 k hlt
      have b1 := hlg k
      have b2 := hhg k
      have b3 := hug k
      clear hc hc' hc2 hlg hhg hug
      by_cases hok : Bx.g lo k ≤ Bx.g us k ∧ Bx.g us k ≤ Bx.g hi k
      · have hst : Hid (Bx.isin lo hi us (k + 1) = true) := Lib.hid (by simp [Bx.isin, Hin.out, hok.1, hok.2])
        generalize Bx.g lo k = x at *
        generalize Bx.g hi k = y at *
        generalize Bx.g us k = z at *
        obtain ⟨o1, o2⟩ := hok
        go_wp2
        go_round
        case rel => exact ⟨k + 1, by omega, by go_num, hst.out⟩
        case measure => simp [intOf]; omega
      · have hfin : Hid (r = false) := Lib.hid (by
          rw [← Hr.out]
          refine Bx.isin_at (j := k + 1) ?_ (by omega)
          rw [Bool.eq_false_iff]
          intro h
          have := Bx.isin_true.1 h k (by omega)
          exact hok this)
        by_cases hlow : Bx.g us k < Bx.g lo k
        · generalize Bx.g lo k = x at *
          generalize Bx.g hi k = y at *
          generalize Bx.g us k = z at *
          clear hok
          go_wp2
          go_ret2
          exact ⟨by rw [hfin.out]; rfl, hbel⟩
        · have hhigh : Bx.g hi k < Bx.g us k := by omega
          generalize Bx.g lo k = x at *
          generalize Bx.g hi k = y at *
          generalize Bx.g us k = z at *
          clear hok
          go_wp2
          go_ret2
          exact ⟨by rw [hfin.out]; rfl, hbel⟩
    · have hfin : Hid (r = true) := Lib.hid (by rw [← Hr.out, show lo.length = k by have := Hl2.out; omega]; exact Hin.out)
      clear hc hc' hc2 hlg hhg hug
      go_wp2
      go_ret2
      exact ⟨by rw [hfin.out]; rfl, hbel⟩

/-! ### Far -/
theorem bfar_no (A C : Option Addr) (n c m d : Nat) (w : World) (hn : n ≤ maxLen) (h : ¬ ((1 ≤ n ∧ n ≤ 16) ∧ n = m)) :
    Calls Try.prog 23 #[.slice A n c, .slice C m d] w fun e w' => e = .returned (.tuple #[.int .u64 0, .int .i64 2]) ∧ w = w' := by
  have H := Lib.hid h
  have Hn := Lib.hid hn
  clear h hn
  go_enter Try.func23, Try.ntmps23
  go_wp2_with (go_at_call 32; refine (balike_no _ _ _ _ _ _ _ Hn.out H.out).mono ?_; rintro e w1 ⟨rfl, rfl⟩)
  go_ret2
  exact ⟨rfl, rfl⟩
theorem max_cast (a b : Nat) : max (a : Int) (b : Int) = ((max a b : Nat) : Int) := by omega
theorem min_cast (a b : Nat) : min (a : Int) (b : Int) = ((min a b : Nat) : Int) := by omega
set_option maxRecDepth 100000 in
theorem bfar_yes (A C : Option Addr) (c d : Nat) (us vs : List Nat) (B : Nat) (w : World) (n : Nat) (hn : Bx.far us vs us.length = n) (hp : Pts w B A us) (hq : Pts w B C vs) (h1 : 1 ≤ us.length) (h16 : us.length ≤ 16) (hlen : us.length = vs.length) :
    Calls Try.prog 23 #[.slice A us.length c, .slice C vs.length d] w fun e w' => e = .returned (.tuple #[.int .u64 (n : Int), .int .i64 0]) ∧ w = w' := by
  have Hl := Lib.hid hlen
  have Hn := Lib.hid hn
  have h2 : 1 ≤ vs.length := by omega
  have h26 : vs.length ≤ 16 := by omega
  have hlg := fun i => Bx.g_lt hp.ok i
  have hhg := fun i => Bx.g_lt hq.ok i
  have hfg := fun i => Bx.far_lt hp.ok hq.ok i
  obtain ⟨b, off, hA, hb, hc⟩ := hp.at h1
  obtain ⟨b', off', hA', hb', hc'⟩ := hq.at h2
  subst hA hA'
  clear hlen hn hp hq
  go_enter Try.func23, Try.ntmps23
  go_wp2_with (go_at_call 32; refine (balike_yes _ _ _ _ _ _ _ h1 h16 Hl.out).mono ?_; rintro e w1 ⟨rfl, rfl⟩)
  go_loop [6, 7, 8, 15] (fun v _ _ i => ∃ k : Nat, k ≤ us.length ∧ i = .int .i64 k ∧ v = .int .u64 (Bx.far us vs k : Int)) (fun _ _ _ i => us.length - (intOf i).toNat)
  case atStart => exact ⟨0, Nat.zero_le _, rfl, rfl⟩
  case round =>
    obtain ⟨k, hk, rfl, rfl⟩ := hrel
    have v1 := hfg k
    by_cases hlt : k < us.length
    · have hl2 : k < vs.length := by have := Hl.out; omega
      have hcell := hc k hlt
      have hcell' := hc' k hl2
      have b1 := hlg k
      have b2 := hhg k
      have b3 := Bx.dif_lt b1 b2
      have hst : Hid (max (Bx.far us vs k) (Bx.dif (Bx.g us k) (Bx.g vs k)) = Bx.far us vs (k + 1)) := Lib.hid rfl
      clear hc hc' hlg hhg hfg
      generalize Bx.g us k = x at *
      generalize Bx.g vs k = y at *
      generalize Bx.far us vs k = v at *
      go_wp2_with (go_at_call 35; refine (bdif_c x y _ b1 b2).mono ?_; rintro e w' ⟨rfl, rfl⟩)
      go_round
      case rel => exact ⟨k + 1, by omega, by go_num, by rw [← hst.out, max_cast]⟩
      case measure => simp [intOf]; omega
    · have hfin : Hid (Bx.far us vs k = n) := Lib.hid (by rw [← Hn.out, show us.length = k by omega])
      clear hc hc' hlg hhg hfg
      go_wp2
      go_ret2
      exact ⟨by rw [hfin.out]; rfl, rfl⟩

/-! ### FarBox -/
theorem bfarBox_no (A A' C : Option Addr) (n c n' c' m d : Nat) (w : World) (hn : n ≤ maxLen) (h : ¬ ((1 ≤ n ∧ n ≤ 16) ∧ n = n')) :
    Calls Try.prog 13 #[boxV A n c A' n' c', .slice C m d] w fun e w' => e = .returned (.tuple #[.int .u64 0, .int .i64 2]) ∧ Below w.heap.size w w' := by
  have H := Lib.hid h
  have Hn := Lib.hid hn
  clear h hn
  have hw0 := below_alloc w (.cells #[.slice A n c, .slice A' n' c'] 24)
  go_enter Try.func13, Try.ntmps13
  go_wp2_with (go_at_call 15; refine (bright_n _ _ _ _ _ _ _ Hn.out H.out).mono ?_; rintro e w1 ⟨rfl, hb1⟩)
  go_ret2
  exact ⟨rfl, Below.andThen hw0 hb1⟩
theorem bfarBox_len (A A' C : Option Addr) (n c n' c' m d : Nat) (w : World) (h1 : 1 ≤ n) (h16 : n ≤ 16) (h : n = n') (hm : n ≠ m) :
    Calls Try.prog 13 #[boxV A n c A' n' c', .slice C m d] w fun e w' => e = .returned (.tuple #[.int .u64 0, .int .i64 2]) ∧ Below w.heap.size w w' := by
  have H := Lib.hid h
  have Hn : Hid (n ≤ maxLen) := Lib.hid (by unfold maxLen; omega)
  have Hm : Hid (¬ ((1 ≤ n ∧ n ≤ 16) ∧ n = m)) := Lib.hid (by omega)
  clear h hm
  have hw0 := below_alloc w (.cells #[.slice A n c, .slice A' n' c'] 24)
  have hbx := boxAt_new w A n c A' n' c'
  go_enter Try.func13, Try.ntmps13
  go_wp2_with (first
    | (go_at_call 15; refine (bright_y _ _ _ _ _ _ _ h1 h16 H.out).mono ?_; rintro e w1 ⟨rfl, hb1⟩; obtain ⟨k0, k1⟩ := hbx.below hb1 (by simp))
    | (go_at_call 32; refine (balike_no _ _ _ _ _ _ _ Hn.out Hm.out).mono ?_; rintro e w' ⟨rfl, rfl⟩))
  go_ret2
  exact ⟨rfl, Below.andThen hw0 hb1⟩
theorem bfarBox_emp (A A' C : Option Addr) (c c' m d : Nat) (lo hi : List Nat) (B : Nat) (w : World) (hr : Bx.emp lo hi lo.length = true) (hp : Pts w B A lo) (hq : Pts w B A' hi) (hB : B ≤ w.heap.size) (h1 : 1 ≤ lo.length) (h16 : lo.length ≤ 16) (hlen : lo.length = hi.length) (hlen2 : lo.length = m) :
    Calls Try.prog 13 #[boxV A lo.length c A' hi.length c', .slice C m d] w fun e w' => e = .returned (.tuple #[.int .u64 0, .int .i64 3]) ∧ Below w.heap.size w w' := by
  have Hl := Lib.hid hlen
  have Hl2 := Lib.hid hlen2
  have Hr := Lib.hid hr
  have hw0 := below_alloc w (.cells #[.slice A lo.length c, .slice A' hi.length c'] 24)
  have hbx := boxAt_new w A lo.length c A' hi.length c'
  have hp0 := hp.below' hw0 hB
  have hq0 := hq.below' hw0 hB
  have hB0 := Nat.le_trans hB hw0.size
  clear hlen hlen2 hr
  go_enter Try.func13, Try.ntmps13
  go_wp2_with (first
    | (go_at_call 15; refine (bright_y _ _ _ _ _ _ _ h1 h16 Hl.out).mono ?_; rintro e w1 ⟨rfl, hb1⟩; have hp1 := hp0.below' hb1 hB0; have hq1 := hq0.below' hb1 hB0; obtain ⟨k0, k1⟩ := hbx.below hb1 (by simp))
    | (go_at_call 32; refine (balike_yes _ _ _ _ _ _ _ h1 h16 Hl2.out).mono ?_; rintro e w' ⟨rfl, rfl⟩)
    | (go_at_call 29; refine (bisEmpty_b _ _ _ _ lo hi _ _ true Hr.out hp1 hq1 (Nat.le_trans hB0 hb1.size) h1 h16 Hl.out).mono ?_; rintro e w2 ⟨rfl, hb2⟩))
  go_ret2
  exact ⟨rfl, Below.andThen (Below.andThen hw0 hb1) hb2⟩
set_option maxRecDepth 100000 in
set_option maxHeartbeats 400000 in
theorem bfarBox_yes (A A' C : Option Addr) (c c' d : Nat) (lo hi us : List Nat) (B : Nat) (w : World) (n : Nat) (hn : Bx.far us (Bx.near lo hi us) us.length = n) (hr : Bx.emp lo hi lo.length = false) (hp : Pts w B A lo) (hq : Pts w B A' hi) (hu : Pts w B C us) (hB : B ≤ w.heap.size) (h1 : 1 ≤ lo.length) (h16 : lo.length ≤ 16) (hlen : lo.length = hi.length) (hlen2 : lo.length = us.length) :
    Calls Try.prog 13 #[boxV A lo.length c A' hi.length c', .slice C us.length d] w fun e w' => e = .returned (.tuple #[.int .u64 (n : Int), .int .i64 0]) ∧ Below w.heap.size w w' := by
  have Hl := Lib.hid hlen
  have Hl2 := Lib.hid hlen2
  have Hr := Lib.hid hr
  have Hn := Lib.hid hn
  have hw0 := below_alloc w (.cells #[.slice A lo.length c, .slice A' hi.length c'] 24)
  have hbx := boxAt_new w A lo.length c A' hi.length c'
  have hp0 := hp.below' hw0 hB
  have hq0 := hq.below' hw0 hB
  have hu0 := hu.below' hw0 hB
  have hB0 := Nat.le_trans hB hw0.size
  have h2 : 1 ≤ hi.length := by omega
  have h26 : hi.length ≤ 16 := by omega
  have h3 : 1 ≤ us.length := by omega
  have h36 : us.length ≤ 16 := by omega
  have hlg := fun i => Bx.g_lt hp.ok i
  have hhg := fun i => Bx.g_lt hq.ok i
  have hug := fun i => Bx.g_lt hu.ok i
  have hfg := fun i => Bx.far_lt hu.ok (Bx.near_ok (lo := lo) (p := us) hq.ok) i
  clear hlen hlen2 hr hn
  go_enter Try.func13, Try.ntmps13
  go_wp2_with (first
    | (go_at_call 15; refine (bright_y _ _ _ _ _ _ _ h1 h16 Hl.out).mono ?_; rintro e w1 ⟨rfl, hb1⟩; have hp1 := hp0.below' hb1 hB0; have hq1 := hq0.below' hb1 hB0; have hu1 := hu0.below' hb1 hB0; have hbx1 := hbx.below hb1 (by simp); obtain ⟨k0, k1⟩ := hbx1)
    | (go_at_call 32; refine (balike_yes _ _ _ _ _ _ _ h1 h16 Hl2.out).mono ?_; rintro e w' ⟨rfl, rfl⟩)
    | (go_at_call 29; refine (bisEmpty_b _ _ _ _ lo hi _ _ false Hr.out hp1 hq1 (Nat.le_trans hB0 hb1.size) h1 h16 Hl.out).mono ?_; rintro e w2 ⟨rfl, hb2⟩; have hp2 := hp1.below' hb2 (Nat.le_trans hB0 hb1.size); have hq2 := hq1.below' hb2 (Nat.le_trans hB0 hb1.size); have hu2 := hu1.below' hb2 (Nat.le_trans hB0 hb1.size); have hbx2 := BoxAt.below ⟨k0, k1⟩ hb2 (Nat.lt_of_lt_of_le (by simp) hb1.size); obtain ⟨j0, j1⟩ := hbx2))
  have hbel := Below.andThen (Below.andThen hw0 hb1) hb2
  obtain ⟨b, off, hA, hb, hc⟩ := hp2.at h1
  obtain ⟨b', off', hA', hb', hc'⟩ := hq2.at h2
  obtain ⟨b2, off2, hA2, hb2', hc2⟩ := hu2.at h3
  subst hA hA' hA2
  clear hp hq hu hp0 hq0 hu0 hp1 hq1 hu1 hp2 hq2 hu2 hb1 hb2 hbx hw0 k0 k1
  go_loopw [6, 7, 8, 9, 24] (fun v _ _ _ i wr => ∃ k : Nat, k ≤ us.length ∧ i = .int .i64 k ∧ v = .int .u64 (Bx.far us (Bx.near lo hi us) k : Int) ∧ ∃ nd, wr = w2.drewN nd) (fun _ _ _ _ i _ => us.length - (intOf i).toNat)
  case atStart => exact ⟨0, Nat.zero_le _, rfl, rfl, 0, rfl⟩
  case round =>
    obtain ⟨k, hk, rfl, rfl, nd, rfl⟩ := hrel
    have v1 := hfg k
    by_cases hlt : k < us.length
    · have hl1 : k < lo.length := by have := Hl2.out; omega
      have hl2 : k < hi.length := by have := Hl2.out; have := Hl.out; omega
      have hcell := hc k hl1
      have hcell' := hc' k hl2
      have hcell2 := hc2 k hlt
      have b1 := hlg k
      have b2 := hhg k
      have b3 := hug k
      have b4 : Hid (Bx.nearG lo hi us k < 18446744073709551616) := Lib.hid (by unfold Bx.nearG; omega)
      have b5 : Hid (Bx.dif (Bx.g us k) (Bx.nearG lo hi us k) < 18446744073709551616) := Lib.hid (Bx.dif_lt b3 b4.out)
      have hst := Lib.hid (Bx.far_near_succ lo hi us k hlt)
      have hnear : Hid (min (max (Bx.g us k : Int) (Bx.g lo k : Int)) (Bx.g hi k : Int) = (Bx.nearG lo hi us k : Int)) := Lib.hid (by unfold Bx.nearG; omega)
      clear hc hc' hc2 hlg hhg hug hfg
      generalize Bx.nearG lo hi us k = t at *
      generalize Bx.g lo k = x at *
      generalize Bx.g hi k = y at *
      generalize Bx.g us k = z at *
      generalize Bx.far us (Bx.near lo hi us) k = v at *
      go_wp2
      go_quiet (fail)
      go_wp2_with (go_at_call 35; rw [hnear.out]; refine (bdif_c z t _ b3 b4.out).mono ?_; rintro e w' ⟨rfl, rfl⟩)
      go_roundw
      case rel => exact ⟨k + 1, by omega, by go_num, by rw [hst.out, max_cast], _, rfl⟩
      case measure => simp [intOf]; omega
    · have hfin : Hid (Bx.far us (Bx.near lo hi us) k = n) := Lib.hid (by rw [← Hn.out, show us.length = k by omega])
      clear hc hc' hc2 hlg hhg hug hfg
      go_wp2
      go_ret2
      exact ⟨by rw [hfin.out]; rfl, below_drewN _ hbel⟩

end Go.Proofs.Ytiifggchnpdonaa
