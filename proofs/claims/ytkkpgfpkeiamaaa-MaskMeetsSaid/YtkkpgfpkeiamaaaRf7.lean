/-
  CONTRACTS of package pantileref03 (the document's answers for layer 3), first part: Right, Empty, In, Volume, Far.
-/
import Derived.Test.YtkkpgfpkeiamaaaRf1
import Derived.Test.YtkkpgfpkeiamaaaBx3
namespace Go.Proofs.Ytkkpgfpkeiamaaa
open Go.ChangeShapes Go.WideShapes Go.ChangeAt Go.RowKit

/-! ### Right -/
theorem r3right_y (A A' : Option Addr) (n c n' c' : Nat) (w : World) (h1 : 1 ≤ n) (h16 : n ≤ 16) (h : n = n') :
    Calls Try.prog 10 #[boxV A n c A' n' c'] w fun e w' => e = .returned (.bool true) ∧ Below w.heap.size w w' := by
  have H := Lib.hid h
  clear h
  go_enter Try.func10, Try.ntmps10
  go_wp2_with (go_at_call 28; refine (ralike_yes _ _ _ _ _ _ _ h1 h16 H.out).mono ?_; rintro e w' ⟨rfl, rfl⟩)
  go_ret
  exact ⟨rfl, below_alloc _ _⟩
theorem r3right_n (A A' : Option Addr) (n c n' c' : Nat) (w : World) (hn : n ≤ maxLen) (h : ¬ ((1 ≤ n ∧ n ≤ 16) ∧ n = n')) :
    Calls Try.prog 10 #[boxV A n c A' n' c'] w fun e w' => e = .returned (.bool false) ∧ Below w.heap.size w w' := by
  have H := Lib.hid h
  have Hn := Lib.hid hn
  clear h hn
  go_enter Try.func10, Try.ntmps10
  go_wp2_with (go_at_call 28; refine (ralike_no _ _ _ _ _ _ _ Hn.out H.out).mono ?_; rintro e w' ⟨rfl, rfl⟩)
  go_ret
  exact ⟨rfl, below_alloc _ _⟩

/-! ### Empty -/
set_option maxRecDepth 100000 in
theorem r3empty_c (A A' : Option Addr) (c c' : Nat) (lo hi : List Nat) (B : Nat) (w : World) (r : Bool) (hr : Bx.emp lo hi lo.length = r) (hp : Pts w B A lo) (hq : Pts w B A' hi) (hB : B ≤ w.heap.size) (h1 : 1 ≤ lo.length) (h16 : lo.length ≤ 16) (hlen : lo.length = hi.length) :
    Calls Try.prog 24 #[boxV A lo.length c A' hi.length c'] w fun e w' => e = .returned (.bool r) ∧ Below w.heap.size w w' := by
  have hbel := below_alloc w (.cells #[.slice A lo.length c, .slice A' hi.length c'] 24)
  have hp1 := hp.below' hbel hB
  have hq1 := hq.below' hbel hB
  obtain ⟨b, off, hA, hb, hc⟩ := hp1.at h1
  obtain ⟨b', off', hA', hb', hc'⟩ := hq1.at (by omega)
  have hbx := boxAt_new w A lo.length c A' hi.length c'
  have hlg := fun i => Bx.g_lt hp.ok i
  have hhg := fun i => Bx.g_lt hq.ok i
  have h2 : 1 ≤ hi.length := by omega
  have h26 : hi.length ≤ 16 := by omega
  have Hl := Lib.hid hlen
  have Hr := Lib.hid hr
  obtain ⟨k0, k1⟩ := hbx
  subst hA hA'
  clear hp hq hp1 hq1 hlen hr
  go_enter Try.func24, Try.ntmps24
  go_wp2
  generalize hW : w.alloc _ = W at *
  go_loopw [3] (fun i wr => ∃ k : Nat, k ≤ lo.length ∧ i = .int .i64 k ∧ Bx.emp lo hi k = false ∧ ∃ nd, wr = W.drewN nd) (fun i _ => lo.length - (intOf i).toNat)
  case atStart => exact ⟨0, Nat.zero_le _, rfl, rfl, 0, rfl⟩
  case round =>
    obtain ⟨k, hk, rfl, hem, nd, rfl⟩ := hrel
    have Hem := Lib.hid hem
    clear hem
    by_cases hlt : k < lo.length
    · have hcell := hc k hlt
      have hcell' := hc' k (by have := Hl.out; omega)
      have b1 := hlg k
      have b2 := hhg k
      have hlt' : k < hi.length := by have := Hl.out; omega
      clear hc hc' hlg hhg
      by_cases hcmp : Bx.g hi k < Bx.g lo k
      · have hfin : Hid (Bx.emp lo hi lo.length = true) := Lib.hid (Bx.emp_at (j := k + 1) (by simp [Bx.emp, hcmp]) (by omega))
        generalize Bx.g lo k = x at *
        generalize Bx.g hi k = y at *
        go_wp2
        go_quiet (fail)
        go_wp2
        go_ret
        exact ⟨by rw [← Hr.out, hfin.out]; rfl, by first | exact below_drewN _ hbel | exact below_drewN _ (below_drewN _ hbel)⟩
      · have hst : Hid (Bx.emp lo hi (k + 1) = false) := Lib.hid (by simp [Bx.emp, Hem.out]; omega)
        generalize Bx.g lo k = x at *
        generalize Bx.g hi k = y at *
        go_wp2
        go_quiet (fail)
        go_wp2
        go_roundw
        case rel => exact ⟨k + 1, by omega, by go_num, hst.out, _, rfl⟩
        case measure => simp [intOf]; omega
    · have hfin : Hid (Bx.emp lo hi lo.length = false) := Lib.hid (by rw [show lo.length = k by omega]; exact Hem.out)
      clear hc hc' hlg hhg
      go_wp2
      go_ret
      exact ⟨by rw [← Hr.out, hfin.out]; rfl, by first | exact below_drewN _ hbel | exact below_drewN _ (below_drewN _ hbel)⟩

/-! ### In -/
set_option maxRecDepth 100000 in
theorem r3in_c (A A' C : Option Addr) (c c' d : Nat) (lo hi us : List Nat) (B : Nat) (w : World) (r : Bool) (hr : Bx.isin lo hi us lo.length = r) (hp : Pts w B A lo) (hq : Pts w B A' hi) (hu : Pts w B C us) (hB : B ≤ w.heap.size) (h1 : 1 ≤ lo.length) (h16 : lo.length ≤ 16) (hlen : lo.length = hi.length) (hlen2 : lo.length = us.length) :
    Calls Try.prog 29 #[boxV A lo.length c A' hi.length c', .slice C us.length d] w fun e w' => e = .returned (.bool r) ∧ Below w.heap.size w w' := by
  have Hl := Lib.hid hlen
  have Hl2 := Lib.hid hlen2
  have Hr := Lib.hid hr
  have hbel := below_alloc w (.cells #[.slice A lo.length c, .slice A' hi.length c'] 24)
  have hbx := boxAt_new w A lo.length c A' hi.length c'
  have hp0 := hp.below' hbel hB
  have hq0 := hq.below' hbel hB
  have hu0 := hu.below' hbel hB
  have h2 : 1 ≤ hi.length := by omega
  have h26 : hi.length ≤ 16 := by omega
  have h3 : 1 ≤ us.length := by omega
  have h36 : us.length ≤ 16 := by omega
  have hlg := fun i => Bx.g_lt hp.ok i
  have hhg := fun i => Bx.g_lt hq.ok i
  have hug := fun i => Bx.g_lt hu.ok i
  obtain ⟨k0, k1⟩ := hbx
  obtain ⟨b, off, hA, hb, hc⟩ := hp0.at h1
  obtain ⟨b', off', hA', hb', hc'⟩ := hq0.at h2
  obtain ⟨b2, off2, hA2, hb2, hc2⟩ := hu0.at h3
  subst hA hA' hA2
  clear hlen hlen2 hr hp hq hu hp0 hq0 hu0
  go_enter Try.func29, Try.ntmps29
  go_wp2
  generalize hW : w.alloc _ = W at *
  go_loopw [5] (fun i wr => ∃ k : Nat, k ≤ us.length ∧ i = .int .i64 k ∧ Bx.isin lo hi us k = true ∧ ∃ nd, wr = W.drewN nd) (fun i _ => us.length - (intOf i).toNat)
  case atStart => exact ⟨0, Nat.zero_le _, rfl, rfl, 0, rfl⟩
  case round =>
    obtain ⟨k, hk, rfl, hin, nd, rfl⟩ := hrel
    have Hin := Lib.hid hin
    clear hin
    by_cases hlt : k < us.length
    · have hl1 : k < lo.length := by have := Hl2.out; omega
      have hl2 : k < hi.length := by have := Hl2.out; have := Hl.out; omega
      have hcell := hc k hl1
      have hcell' := hc' k hl2
      have hcell2 := hc2 k hlt
      have b1 := hlg k
      have b2 := hhg k
      have b3 := hug k
      clear hc hc' hc2 hlg hhg hug
      by_cases hok : Bx.g lo k ≤ Bx.g us k ∧ Bx.g us k ≤ Bx.g hi k
      · have hst : Hid (Bx.isin lo hi us (k + 1) = true) := Lib.hid (by simp [Bx.isin, Hin.out, hok.1, hok.2])
        generalize Bx.g lo k = x at *
        generalize Bx.g hi k = y at *
        generalize Bx.g us k = z at *
        obtain ⟨o1, o2⟩ := hok
        have d1 : decide ((z : Int) < (x : Int)) = false := decide_eq_false (by omega)
        have d2 : decide ((y : Int) < (z : Int)) = false := decide_eq_false (by omega)
        have d3 : decide (z < x) = false := decide_eq_false (by omega)
        have d4 : decide (y < z) = false := decide_eq_false (by omega)
        go_wp2
        go_quiet (fail)
        go_wp2
        go_roundw
        case rel => exact ⟨k + 1, by omega, by go_num, hst.out, _, rfl⟩
        case measure => simp [intOf]; omega
      · have hfin : Hid (r = false) := Lib.hid (by
          rw [← Hr.out]
          refine Bx.isin_at (j := k + 1) ?_ (by omega)
          rw [Bool.eq_false_iff]
          intro h
          have := Bx.isin_true.1 h k (by omega)
          exact hok this)
        by_cases hlow : Bx.g us k < Bx.g lo k
        · generalize Bx.g lo k = x at *
          generalize Bx.g hi k = y at *
          generalize Bx.g us k = z at *
          clear hok
          have d1 : decide ((z : Int) < (x : Int)) = true := decide_eq_true (by omega)
          have d3 : decide (z < x) = true := decide_eq_true (by omega)
          go_wp2
          go_quiet (fail)
          go_wp2
          go_ret
          exact ⟨by rw [hfin.out]; rfl, by first | exact below_drewN _ hbel | exact below_drewN _ (below_drewN _ hbel)⟩
        · have hhigh : Bx.g hi k < Bx.g us k := by omega
          generalize Bx.g lo k = x at *
          generalize Bx.g hi k = y at *
          generalize Bx.g us k = z at *
          clear hok
          have d1 : decide ((z : Int) < (x : Int)) = false := decide_eq_false (by omega)
          have d2 : decide ((y : Int) < (z : Int)) = true := decide_eq_true (by omega)
          have d3 : decide (z < x) = false := decide_eq_false (by omega)
          have d4 : decide (y < z) = true := decide_eq_true (by omega)
          go_wp2
          go_quiet (fail)
          go_wp2
          go_ret
          exact ⟨by rw [hfin.out]; rfl, by first | exact below_drewN _ hbel | exact below_drewN _ (below_drewN _ hbel)⟩
    · have hfin : Hid (r = true) := Lib.hid (by rw [← Hr.out, show lo.length = k by have := Hl2.out; omega]; exact Hin.out)
      clear hc hc' hc2 hlg hhg hug
      go_wp2
      go_ret
      exact ⟨by rw [hfin.out]; rfl, by first | exact below_drewN _ hbel | exact below_drewN _ (below_drewN _ hbel)⟩

/-! ### Far -/
end Go.Proofs.Ytkkpgfpkeiamaaa
