/-
  CONTRACTS of package pantileref03 (the document's answers for layer 3), second part: Volume, Nearest, Same.
-/
import Derived.Test.YtiifggchnpdonaaRf7
namespace Go.Proofs.Ytiifggchnpdonaa
open Go.ChangeShapes Go.WideShapes Go.ChangeAt Go.RowKit

/-! ### Volume -/
theorem r3_div (x y v : Nat) (h : x ≤ y) : (18446744073709551615 / ((y : Int) - (x : Int) + 1) < (v : Int)) ↔ 18446744073709551615 < v * (y - x + 1) := by
  have e : (y : Int) - (x : Int) + 1 = ((y - x + 1 : Nat) : Int) := by omega
  rw [e, ← Nat.div_lt_iff_lt_mul (by omega)]
  have : (18446744073709551615 : Int) / ((y - x + 1 : Nat) : Int) = ((18446744073709551615 / (y - x + 1) : Nat) : Int) := by simp
  rw [this]
  omega
set_option maxRecDepth 100000 in
theorem r3volume_emp (A A' : Option Addr) (c c' : Nat) (lo hi : List Nat) (B : Nat) (w : World) (hr : Bx.emp lo hi lo.length = true) (hp : Pts w B A lo) (hq : Pts w B A' hi) (hB : B ≤ w.heap.size) (h1 : 1 ≤ lo.length) (h16 : lo.length ≤ 16) (hlen : lo.length = hi.length) :
    Calls Try.prog 17 #[boxV A lo.length c A' hi.length c'] w fun e w' => e = .returned (.int .u64 0) ∧ Below w.heap.size w w' := by
  have Hl := Lib.hid hlen
  have Hr := Lib.hid hr
  have hw0 := below_alloc w (.cells #[.slice A lo.length c, .slice A' hi.length c'] 24)
  have hp0 := hp.below' hw0 hB
  have hq0 := hq.below' hw0 hB
  have hB0 := Nat.le_trans hB hw0.size
  clear hlen hr
  go_enter Try.func17, Try.ntmps17
  go_wp2_with (go_at_call 16; refine (r3empty_c _ _ _ _ lo hi _ _ true Hr.out hp0 hq0 hB0 h1 h16 Hl.out).mono ?_; rintro e w2 ⟨rfl, hb2⟩)
  go_ret
  exact ⟨rfl, Below.andThen hw0 hb2⟩
set_option maxRecDepth 100000 in
set_option maxHeartbeats 400000 in
theorem r3volume_some (A A' : Option Addr) (c c' : Nat) (lo hi : List Nat) (B : Nat) (w : World) (hr : Bx.emp lo hi lo.length = false) (hp : Pts w B A lo) (hq : Pts w B A' hi) (hB : B ≤ w.heap.size) (h1 : 1 ≤ lo.length) (h16 : lo.length ≤ 16) (hlen : lo.length = hi.length) :
    Calls Try.prog 17 #[boxV A lo.length c A' hi.length c'] w fun e w' => e = .returned (.int .u64 (Bx.vol lo hi lo.length : Int)) ∧ Below w.heap.size w w' := by
  have Hl := Lib.hid hlen
  have Hr := Lib.hid hr
  have Hle := Lib.hid (Bx.emp_false.1 hr)
  have hw0 := below_alloc w (.cells #[.slice A lo.length c, .slice A' hi.length c'] 24)
  have hbx := boxAt_new w A lo.length c A' hi.length c'
  have hp0 := hp.below' hw0 hB
  have hq0 := hq.below' hw0 hB
  have hB0 := Nat.le_trans hB hw0.size
  have h2 : 1 ≤ hi.length := by omega
  have h26 : hi.length ≤ 16 := by omega
  have hlg := fun i => Bx.g_lt hp.ok i
  have hhg := fun i => Bx.g_lt hq.ok i
  clear hlen hr
  go_enter Try.func17, Try.ntmps17
  go_wp2_with (go_at_call 16; refine (r3empty_c _ _ _ _ lo hi _ _ false Hr.out hp0 hq0 hB0 h1 h16 Hl.out).mono ?_; rintro e w2 ⟨rfl, hb2⟩; have hp2 := hp0.below' hb2 hB0; have hq2 := hq0.below' hb2 hB0; have hbx2 := hbx.below hb2 (by simp); obtain ⟨j0, j1⟩ := hbx2)
  have hbel := Below.andThen hw0 hb2
  obtain ⟨b, off, hA, hb, hc⟩ := hp2.at h1
  obtain ⟨b', off', hA', hb', hc'⟩ := hq2.at h2
  subst hA hA'
  clear hp hq hp0 hq0 hp2 hq2 hb2 hbx hw0
  go_loopw [3, 4, 5] (fun v i _ wr => ∃ k : Nat, k ≤ lo.length ∧ i = .int .i64 k ∧ v = .int .u64 (Bx.vol lo hi k : Int) ∧ ∃ nd, wr = w2.drewN nd) (fun _ i _ _ => lo.length - (intOf i).toNat)
  case atStart => exact ⟨0, Nat.zero_le _, rfl, rfl, 0, rfl⟩
  case round =>
    obtain ⟨k, hk, rfl, rfl, nd, rfl⟩ := hrel
    have v1 := Bx.vol_le lo hi k
    have v0 := Bx.vol_pos lo hi k
    by_cases hlt : k < lo.length
    · have hcell := hc k hlt
      have hcell' := hc' k (by have := Hl.out; omega)
      have b1 := hlg k
      have b2 := hhg k
      have ble := Hle.out k hlt
      have hlt' : k < hi.length := by have := Hl.out; omega
      have hst : Hid (min 18446744073709551615 (Bx.vol lo hi k * (Bx.g hi k - Bx.g lo k + 1)) = Bx.vol lo hi (k + 1)) := Lib.hid rfl
      have hat : Hid (Bx.vol lo hi (k + 1) = 18446744073709551615 → Bx.vol lo hi lo.length = 18446744073709551615) := Lib.hid (fun h => Bx.vol_at h (by omega))
      clear hc hc' hlg hhg
      have hsub : Hid ((Bx.g hi k : Int) - (Bx.g lo k : Int) = ((Bx.g hi k - Bx.g lo k : Nat) : Int)) := Lib.hid (by omega)
      generalize Bx.g lo k = x at *
      generalize Bx.g hi k = y at *
      obtain ⟨v', hv'⟩ : ∃ v', Bx.vol lo hi (k + 1) = v' := ⟨_, rfl⟩
      have HV' := Lib.hid hv'
      rw [hv'] at hst hat
      clear hv'
      generalize Bx.vol lo hi k = v at *
      by_cases hs : y - x = 18446744073709551615
      · have hx0 : x = 0 := by omega
        have hy0 : y = 18446744073709551615 := by omega
        subst hx0 hy0
        have hfin : Hid (Bx.vol lo hi lo.length = 18446744073709551615) := Lib.hid (hat.out (by have := hst.out; omega))
        go_wp2
        go_quiet (fail)
        go_wp2
        go_ret
        exact ⟨by rw [hfin.out]; rfl, by first | exact below_drewN _ hbel | exact below_drewN _ (below_drewN _ hbel)⟩
      · have hs2 : (y : Int) - (x : Int) ≠ 18446744073709551615 := by omega
        have hs3 : ((y : Int) - (x : Int) == 18446744073709551615) = false := by rw [beq_eq_false_iff_ne]; exact hs2
        have hx1 : x ≤ y := ble
        by_cases hbig : 18446744073709551615 < v * (y - x + 1)
        · have hdiv : 18446744073709551615 / ((y : Int) - (x : Int) + 1) < (v : Int) := (r3_div x y v hx1).2 hbig
          have hfin : Hid (Bx.vol lo hi lo.length = 18446744073709551615) := Lib.hid (hat.out (by have := hst.out; omega))
          clear hbig
          go_wp2
          go_quiet (fail)
          go_wp2
          go_ret
          exact ⟨by rw [hfin.out]; rfl, by first | exact below_drewN _ hbel | exact below_drewN _ (below_drewN _ hbel)⟩
        · have hdiv : ¬ (18446744073709551615 / ((y : Int) - (x : Int) + 1) < (v : Int)) := fun h => hbig ((r3_div x y v hx1).1 h)
          have hmul : Hid (IntKind.u64.wrap ((v : Int) * ((y : Int) - (x : Int) + 1)) = (v' : Int)) := Lib.hid (by
            have e : (y : Int) - (x : Int) + 1 = ((y - x + 1 : Nat) : Int) := by omega
            rw [e, ← Int.natCast_mul, IntWalk.u64_in _ (by omega), ← hst.out]
            omega)
          clear hbig
          go_wp2
          go_quiet (fail)
          go_wp2
          go_roundw
          case rel => exact ⟨k + 1, by omega, by go_num, by rw [hmul.out, HV'.out], _, rfl⟩
          case measure => simp [intOf]; omega
    · have hfin : Hid (k = lo.length) := Lib.hid (by omega)
      clear hc hc' hlg hhg
      go_wp2
      go_ret
      exact ⟨by rw [← hfin.out]; rfl, by first | exact below_drewN _ hbel | exact below_drewN _ (below_drewN _ hbel)⟩
theorem r3volume_c (A A' : Option Addr) (c c' : Nat) (lo hi : List Nat) (B : Nat) (w : World) (v : Nat) (hv : Bx.volume lo hi = v) (hp : Pts w B A lo) (hq : Pts w B A' hi) (hB : B ≤ w.heap.size) (h1 : 1 ≤ lo.length) (h16 : lo.length ≤ 16) (hlen : lo.length = hi.length) :
    Calls Try.prog 17 #[boxV A lo.length c A' hi.length c'] w fun e w' => e = .returned (.int .u64 (v : Int)) ∧ Below w.heap.size w w' := by
  unfold Bx.volume at hv
  by_cases h : Bx.emp lo hi lo.length = true
  · rw [if_pos h] at hv
    subst hv
    exact r3volume_emp A A' c c' lo hi B w h hp hq hB h1 h16 hlen
  · rw [if_neg h] at hv
    subst hv
    exact r3volume_some A A' c c' lo hi B w (by simpa using h) hp hq hB h1 h16 hlen

/-! ### Same -/
set_option maxRecDepth 100000 in
theorem r3same_c (A A' C C' : Option Addr) (c c' d d' : Nat) (al ah bl bh : List Nat) (B : Nat) (w : World) (p1 : Pts w B A al) (p2 : Pts w B A' ah) (p3 : Pts w B C bl) (p4 : Pts w B C' bh) (hB : B ≤ w.heap.size)
    (h16 : al.length ≤ 16) (h17 : ah.length ≤ 16) (e1 : al = bl) (e2 : ah = bh) :
    Calls Try.prog 25 #[boxV A al.length c A' ah.length c', boxV C bl.length d C' bh.length d'] w fun e w' => e = .returned (.bool true) ∧ Below w.heap.size w w' := by
  have hbel : Below w.heap.size w ((w.alloc (.cells #[.slice A al.length c, .slice A' ah.length c'] 24)).alloc (.cells #[.slice C bl.length d, .slice C' bh.length d'] 24)) := (below_alloc _ _).alloc (by simp) _
  have hx1 : BoxAt ((w.alloc (.cells #[.slice A al.length c, .slice A' ah.length c'] 24)).alloc (.cells #[.slice C bl.length d, .slice C' bh.length d'] 24)) w.heap.size A al.length c A' ah.length c' := (boxAt_new w A al.length c A' ah.length c').below (below_alloc _ _) (by simp)
  have hx2 : BoxAt ((w.alloc (.cells #[.slice A al.length c, .slice A' ah.length c'] 24)).alloc (.cells #[.slice C bl.length d, .slice C' bh.length d'] 24)) (w.heap.size + 1) C bl.length d C' bh.length d' := by
    have h := boxAt_new (w.alloc (.cells #[.slice A al.length c, .slice A' ah.length c'] 24)) C bl.length d C' bh.length d'
    rwa [World.size_alloc] at h
  have q1 := p1.below' hbel hB
  have q2 := p2.below' hbel hB
  have q3 := p3.below' hbel hB
  have q4 := p4.below' hbel hB
  have hB0 := Nat.le_trans hB hbel.size
  have hm1 : Hid (al.length ≤ maxLen) := Lib.hid (by unfold maxLen; omega)
  have hm2 : Hid (ah.length ≤ maxLen) := Lib.hid (by unfold maxLen; omega)
  have E1 := Lib.hid e1
  have E2 := Lib.hid e2
  have Q := Lib.hid (And.intro q1 (And.intro q2 (And.intro q3 q4)))
  clear e1 e2 p1 p2 p3 p4 q1 q2 q3 q4
  go_enter Try.func25, Try.ntmps25
  go_wp2_with (first
    | (go_at_call 41; (with_reducible refine (rsame_c A C c d al bl _ _ Q.out.1 Q.out.2.2.1 hB0 hm1.out).mono ?_); rintro e w2 ⟨rfl, hb2⟩; rw [decide_eq_true E1.out]; obtain ⟨k0, k1⟩ := hx1.below hb2 (by simp; omega); obtain ⟨k2, k3⟩ := hx2.below hb2 (by simp))
    | (go_at_call 41; (with_reducible refine (rsame_c A' C' c' d' ah bh _ _ (Q.out.2.1.below' hb2 hB0) (Q.out.2.2.2.below' hb2 hB0) (Nat.le_trans hB0 hb2.size) hm2.out).mono ?_); rintro e w3 ⟨rfl, hb3⟩; rw [decide_eq_true E2.out]))
  go_ret
  exact ⟨rfl, Below.andThen (Below.andThen hbel hb2) hb3⟩

end Go.Proofs.Ytiifggchnpdonaa
