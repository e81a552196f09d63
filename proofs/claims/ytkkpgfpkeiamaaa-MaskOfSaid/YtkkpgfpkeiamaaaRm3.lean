/-
  CONTRACTS of package pantileref04 (the document's answers for layer 4), third part: Leaves, Of, Whole.
-/
import Derived.Test.YtkkpgfpkeiamaaaRfa
import Derived.Test.YtkkpgfpkeiamaaaMn
import Derived.Deep.RegionHeld
namespace Go.Proofs.Ytkkpgfpkeiamaaa
open Go.ChangeShapes Go.WideShapes Go.ChangeAt Go.RowKit

theorem one_pts {w : World} {x : Nat} (hx : x < 18446744073709551616) : Pts (w.alloc (.cells #[.int .u64 (x : Int)] 47)) (w.heap.size + 1) (some ⟨w.heap.size, 0, none⟩) [x] := by
  refine ⟨by intro u hu; simp at hu; subst hu; exact hx, fun _ => ⟨w.heap.size, 0, rfl, by omega, fun i u hi => ?_⟩⟩
  cases i with
  | zero =>
    simp at hi
    subst hi
    rw [World.cell?_alloc_new]; rfl
  | succ i => simp at hi
theorem half_sum (f l j : Nat) (hj : j < l) (hb : f + (2 ^ l - 1) < 18446744073709551616) :
    IntKind.u64.wrap ((f : Int) + ((2 ^ j - 1 : Nat) : Int) + IntKind.u64.wrap (2 ^ j)) = ((f + (2 ^ (j + 1) - 1) : Nat) : Int) := by
  have hp := Nat.two_pow_pos j
  have hm : 2 ^ (j + 1) ≤ 2 ^ l := Nat.pow_le_pow_right (by omega) (by omega)
  rw [Nat.pow_succ] at hm ⊢
  rw [show (2 : Int) ^ j = ((2 ^ j : Nat) : Int) by simp]
  generalize 2 ^ j = p at *
  generalize 2 ^ l = q at *
  have e1 : IntKind.u64.wrap (p : Int) = (p : Int) := by rw [IntKind.wrap_u64]; omega
  rw [e1, IntKind.wrap_u64]
  omega
set_option maxRecDepth 100000 in
theorem r4leaves_c (u l h lo hi : Nat) (w : World) (r : Bool) (hr : Mk.leaves u l h lo hi = r) (hu : u < 18446744073709551616) (hl : l ≤ 63) (hh : h < 2) :
    Calls Try.prog 30 #[.int .u64 (u : Int), .int .i64 (l : Int), .int .i64 (h : Int), .int .u64 (lo : Int), .int .u64 (hi : Int)] w fun e w' => e = .returned (.bool r) ∧ Below w.heap.size w w' := by
  have Hr := Lib.hid hr
  have hbel := below_alloc w (.cells #[.int .u64 (u : Int)] 47)
  have hp := one_pts (w := w) hu
  obtain ⟨f, hf⟩ : ∃ f, Mk.halfAt u l h = f := ⟨_, rfl⟩
  have hfb := Mk.half_lt hu (show l < 64 by omega) hh
  rw [hf] at hfb
  have hplace : Z.place [u] l h = [f] := by
    rw [← hf]
    have : Z.bit h 0 = h := by unfold Z.bit; rw [Nat.pow_zero, Nat.div_one]; omega
    simp [Z.place, Mk.halfAt, this]
  have Hpl := Lib.hid hplace
  have hf64 : f < 18446744073709551616 := by omega
  have Hfb := Lib.hid hfb
  have Hh2 : Hid (h < 2 ^ [u].length) := Lib.hid (by simpa using hh)
  have Hlv : Hid ((decide (lo ≤ hi) && (decide (f ≤ hi) && decide (lo ≤ f + (2 ^ l - 1)))) = r) := Lib.hid (by rw [← Hr.out, ← hf]; rfl)
  clear hr hplace hf hfb
  go_enter Try.func30, Try.ntmps30
  go_wp2_with fail
  refine (rplace_c (some ⟨w.heap.size, 0, none⟩) 1 [u] l h (w.heap.size + 1) _ hp (by simp) (by simp) (by simp) hl Hh2.out).mono ?_
  rintro e w1 ⟨v1, rfl, hown, hb1⟩
  rw [Hpl.out] at hown
  obtain ⟨g, cap, hv, hg1, hg2, hrow⟩ := hown.row (by simp)
  subst hv
  have hcell : w1.cell? ⟨g, 0, none⟩ = some (.int .u64 (f : Int)) := by
    rw [hrow.cellAt 0 (by simp)]
    rfl
  have hB := Below.andThen hbel hb1
  clear hrow hown
  go_wp2_with fail
  go_loop [12, 13] (fun t i => ∃ j : Nat, j ≤ l ∧ i = .int .i64 j ∧ t = .int .u64 ((f + (2 ^ j - 1) : Nat) : Int)) (fun _ i => l - (intOf i).toNat)
  case atStart => exact ⟨0, Nat.zero_le _, rfl, rfl⟩
  case round =>
    obtain ⟨j, hj, rfl, rfl⟩ := hrel
    by_cases hlt : j < l
    · have hst := Lib.hid (half_sum f l j hlt Hfb.out)
      go_wp2
      go_round
      case rel => exact ⟨j + 1, by omega, by go_num, by rw [hst.out]⟩
      case measure => simp [intOf]; omega
    · have hjl : j = l := by omega
      subst hjl
      have Hfb2 := Hfb.out
      generalize f + (2 ^ j - 1) = t at *
      clear hlt
      by_cases c1 : lo ≤ hi
      · have d1 : decide (lo ≤ hi) = true := decide_eq_true c1
        have d1' : decide ((lo : Int) ≤ (hi : Int)) = true := decide_eq_true (by omega)
        by_cases c2 : f ≤ hi
        · have d2 : decide (f ≤ hi) = true := decide_eq_true c2
          have d2' : decide ((f : Int) ≤ (hi : Int)) = true := decide_eq_true (by omega)
          by_cases c3 : lo ≤ t
          · have d3 : decide (lo ≤ t) = true := decide_eq_true c3
            have d3' : decide ((lo : Int) ≤ (t : Int)) = true := decide_eq_true (by omega)
            have hfin : Hid (r = true) := Lib.hid (by rw [← Hlv.out, d1, d2, d3]; rfl)
            clear c1 c2 c3
            go_wp2
            go_ret
            exact ⟨by rw [hfin.out]; rfl, hB⟩
          · have d3 : decide (lo ≤ t) = false := decide_eq_false c3
            have d3' : decide ((lo : Int) ≤ (t : Int)) = false := decide_eq_false (by omega)
            have hfin : Hid (r = false) := Lib.hid (by rw [← Hlv.out, d1, d2, d3]; rfl)
            clear c1 c2 c3
            go_wp2
            go_ret
            exact ⟨by rw [hfin.out]; rfl, hB⟩
        · have d2 : decide (f ≤ hi) = false := decide_eq_false c2
          have d2' : decide ((f : Int) ≤ (hi : Int)) = false := decide_eq_false (by omega)
          have hfin : Hid (r = false) := Lib.hid (by rw [← Hlv.out, d1, d2]; rfl)
          clear c1 c2
          go_wp2
          go_ret
          exact ⟨by rw [hfin.out]; rfl, hB⟩
      · have d1 : decide (lo ≤ hi) = false := decide_eq_false c1
        have d1' : decide ((lo : Int) ≤ (hi : Int)) = false := decide_eq_false (by omega)
        have hfin : Hid (r = false) := Lib.hid (by rw [← Hlv.out, d1]; rfl)
        clear c1
        go_wp2
        go_ret
        exact ⟨by rw [hfin.out]; rfl, hB⟩

/-! ### Of -/
theorem num_double {f : Nat → Bool} {j k : Nat} (hk : k ≤ 16) (h : j < k) : (2 * (Mk.num f j : Int) = ((2 * Mk.num f j : Nat) : Int)) ∧ 2 * Mk.num f j < 65536 ∧ (f j = true → 2 * Mk.num f j + 1 = Mk.num f (j + 1)) ∧ (f j = false → 2 * Mk.num f j = Mk.num f (j + 1)) := by
  have h1 := Mk.num_lt f j
  have h2 : 2 ^ j ≤ 2 ^ 15 := Nat.pow_le_pow_right (by omega) (by omega)
  refine ⟨by omega, by omega, fun h => by simp [Mk.num, h], fun h => by simp [Mk.num, h]⟩
/-- the four cells that a round of Of reads -/
theorem fourB {w w' : World} {C b b1 o1 b2 o2 b3 o3 : Nat} {x y u v z : Value} (h : w.cell? ⟨b, 0, none⟩ = some x ∧ w.cell? ⟨b, 1, none⟩ = some y ∧ w.cell? ⟨b1, o1, none⟩ = some u ∧ w.cell? ⟨b2, o2, none⟩ = some v ∧ w.cell? ⟨b3, o3, none⟩ = some z) (hb : Below C w w') (h0 : b < C) (h1 : b1 < C) (h2 : b2 < C) (h3 : b3 < C) :
    w'.cell? ⟨b, 0, none⟩ = some x ∧ w'.cell? ⟨b, 1, none⟩ = some y ∧ w'.cell? ⟨b1, o1, none⟩ = some u ∧ w'.cell? ⟨b2, o2, none⟩ = some v ∧ w'.cell? ⟨b3, o3, none⟩ = some z :=
  ⟨(hb.cell (p := ⟨b, 0, none⟩) h0).trans h.1, (hb.cell (p := ⟨b, 1, none⟩) h0).trans h.2.1, (hb.cell (p := ⟨b1, o1, none⟩) h1).trans h.2.2.1, (hb.cell (p := ⟨b2, o2, none⟩) h2).trans h.2.2.2.1, (hb.cell (p := ⟨b3, o3, none⟩) h3).trans h.2.2.2.2⟩
set_option maxRecDepth 100000 in
set_option maxHeartbeats 1600000 in
theorem r4of_c (A C C' : Option Addr) (c d d' : Nat) (us lo hi : List Nat) (l B : Nat) (w : World) (ml mh : Nat) (hml : Mk.lowM us l lo hi = ml) (hmh : Mk.highM us l lo hi = mh) (pu : Pts w B A us) (pl : Pts w B C lo) (ph : Pts w B C' hi) (hB : B ≤ w.heap.size)
    (h1 : 1 ≤ us.length) (h16 : us.length ≤ 16) (e1 : lo.length = us.length) (e2 : hi.length = us.length) (hl : l ≤ 63) :
    Calls Try.prog 12 #[.slice A us.length c, .int .i64 (l : Int), boxV C lo.length d C' hi.length d'] w fun e w' =>
      e = .returned (.tuple #[.int .i64 (ml : Int), .int .i64 (mh : Int)]) ∧ Below w.heap.size w w' := by
  obtain ⟨b, off, hA, hb, hc⟩ := pu.at h1
  obtain ⟨b1, off1, hA1, hb1', hc1⟩ := pl.at (by omega)
  obtain ⟨b2, off2, hA2, hb2', hc2⟩ := ph.at (by omega)
  subst hA hA1 hA2
  have hug := fun i => Bx.g_lt pu.ok i
  have hlg := fun i => Bx.g_lt pl.ok i
  have hhg := fun i => Bx.g_lt ph.ok i
  have E1 := Lib.hid e1
  have E2 := Lib.hid e2
  have HM := Lib.hid (And.intro hml hmh)
  have g1 : 1 ≤ lo.length := by omega
  have g16 : lo.length ≤ 16 := by omega
  have k1 : 1 ≤ hi.length := by omega
  have k16 : hi.length ≤ 16 := by omega
  clear e1 e2 pu pl ph hml hmh
  have hbel := below_alloc w (.cells #[.slice (some ⟨b1, off1, none⟩) lo.length d, .slice (some ⟨b2, off2, none⟩) hi.length d'] 24)
  have hbx := boxAt_new w (some ⟨b1, off1, none⟩) lo.length d (some ⟨b2, off2, none⟩) hi.length d'
  go_enter Try.func12, Try.ntmps12
  go_wp2_with fail
  generalize hW : w.alloc _ = W at *
  have hWs : W.heap.size = w.heap.size + 1 := by rw [← hW]; simp
  clear hW
  go_loopw [8, 9, 10] (fun x y i wr => ∃ j : Nat, j ≤ us.length ∧ i = .int .i64 j ∧ x = .int .i64 (Mk.num (Mk.lowF us l lo hi) j : Int) ∧ y = .int .i64 (Mk.num (Mk.highF us l lo hi) j : Int) ∧ Below W.heap.size W wr) (fun _ _ i _ => us.length - (intOf i).toNat)
  case atStart => exact ⟨0, Nat.zero_le _, rfl, rfl, rfl, Below.refl _ _⟩
  case round =>
    obtain ⟨j, hj, rfl, rfl, rfl, hbw⟩ := hrel
    have hsz := hbw.size
    by_cases hlt : j < us.length
    · have j1 : j < lo.length := by have := E1.out; omega
      have j2 : j < hi.length := by have := E2.out; omega
      have hcell := (hbel.cell (p := ⟨b, off + j, none⟩) (by show b < _; omega)).trans (hc j hlt)
      have hcell1 := (hbel.cell (p := ⟨b1, off1 + j, none⟩) (by show b1 < _; omega)).trans (hc1 j j1)
      have hcell2 := (hbel.cell (p := ⟨b2, off2 + j, none⟩) (by show b2 < _; omega)).trans (hc2 j j2)
      have hu := hug j
      have hlo := hlg j
      have hhi := hhg j
      obtain ⟨b0v, hb0⟩ : ∃ x, Mk.leaves (Bx.g us j) l 0 (Bx.g lo j) (Bx.g hi j) = x := ⟨_, rfl⟩
      obtain ⟨b1v, hb1⟩ : ∃ x, Mk.leaves (Bx.g us j) l 1 (Bx.g lo j) (Bx.g hi j) = x := ⟨_, rfl⟩
      have Hb := Lib.hid (And.intro hb0 hb1)
      have hlF : Mk.lowF us l lo hi j = !b0v := by rw [← hb0]; rfl
      have hhF : Mk.highF us l lo hi j = b1v := hb1
      obtain ⟨-, n2, n3, n4⟩ := num_double (f := Mk.lowF us l lo hi) h16 hlt
      obtain ⟨-, m2, m3, m4⟩ := num_double (f := Mk.highF us l lo hi) h16 hlt
      rw [hlF] at n3 n4
      rw [hhF] at m3 m4
      have HN := Lib.hid (And.intro (And.intro n3 n4) (And.intro m3 m4))
      have Hq : Hid (W.cell? ⟨w.heap.size, 0, none⟩ = some (.slice (some ⟨b1, off1, none⟩) lo.length d) ∧ W.cell? ⟨w.heap.size, 1, none⟩ = some (.slice (some ⟨b2, off2, none⟩) hi.length d') ∧ W.cell? ⟨b1, off1 + j, none⟩ = some (.int .u64 (Bx.g lo j : Int)) ∧ W.cell? ⟨b2, off2 + j, none⟩ = some (.int .u64 (Bx.g hi j : Int)) ∧ W.cell? ⟨b, off + j, none⟩ = some (.int .u64 (Bx.g us j : Int))) := Lib.hid ⟨hbx.1, hbx.2, hcell1, hcell2, hcell⟩
      have Hlt : Hid (w.heap.size < W.heap.size ∧ b1 < W.heap.size ∧ b2 < W.heap.size ∧ b < W.heap.size) := Lib.hid ⟨by omega, by omega, by omega, by omega⟩
      have Hbw := Lib.hid hbw
      obtain ⟨q0, q1, q2, q3, q4⟩ := fourB Hq.out hbw Hlt.out.1 Hlt.out.2.1 Hlt.out.2.2.1 Hlt.out.2.2.2
      clear hb0 hb1 hlF hhF hc hc1 hc2 hug hlg hhg hcell hcell1 hcell2 n3 n4 m3 m4 hbw
      generalize Bx.g us j = u at *
      generalize Bx.g lo j = x at *
      generalize Bx.g hi j = y at *
      generalize Mk.num (Mk.lowF us l lo hi) j = nl at *
      generalize Mk.num (Mk.highF us l lo hi) j = nh at *
      go_wp2_with fail
      go_region_held (fun w' => w'.cell? ⟨w.heap.size, 0, none⟩ = some (.slice (some ⟨b1, off1, none⟩) lo.length d) ∧ w'.cell? ⟨w.heap.size, 1, none⟩ = some (.slice (some ⟨b2, off2, none⟩) hi.length d') ∧ w'.cell? ⟨b1, off1 + j, none⟩ = some (.int .u64 (x : Int)) ∧ w'.cell? ⟨b2, off2 + j, none⟩ = some (.int .u64 (y : Int)) ∧ w'.cell? ⟨b, off + j, none⟩ = some (.int .u64 (u : Int))) (go_keep)
        (first
          | (go_at_call 30; refine (r4leaves_c u l 0 x y _ b0v Hb.out.1 hu hl (by omega)).mono ?_; rintro e w2 ⟨rfl, hb2⟩; have hB2 := Below.andThen Hbw.out.drew hb2; obtain ⟨z0, z1, z2, z3, z4⟩ := fourB Hq.out hB2 Hlt.out.1 Hlt.out.2.1 Hlt.out.2.2.1 Hlt.out.2.2.2))
      have Hz := Lib.hid hB2
      clear q0 q1 q2 q3 q4 hb2 hB2
      cases b0v
      · have Hlow := Lib.hid (HN.out.1.1 rfl)
        go_wp2_with fail
        go_region_held (fun w' => w'.cell? ⟨w.heap.size, 0, none⟩ = some (.slice (some ⟨b1, off1, none⟩) lo.length d) ∧ w'.cell? ⟨w.heap.size, 1, none⟩ = some (.slice (some ⟨b2, off2, none⟩) hi.length d') ∧ w'.cell? ⟨b1, off1 + j, none⟩ = some (.int .u64 (x : Int)) ∧ w'.cell? ⟨b2, off2 + j, none⟩ = some (.int .u64 (y : Int)) ∧ w'.cell? ⟨b, off + j, none⟩ = some (.int .u64 (u : Int))) (go_keep)
          (first
            | (go_at_call 30; refine (r4leaves_c u l 1 x y _ b1v Hb.out.2 hu hl (by omega)).mono ?_; rintro e w3 ⟨rfl, hb3⟩; have hB3 := Below.andThen Hz.out.drew hb3; obtain ⟨v0, v1, v2, v3, v4⟩ := fourB Hq.out hB3 Hlt.out.1 Hlt.out.2.1 Hlt.out.2.2.1 Hlt.out.2.2.2))
        clear z0 z1 z2 z3 z4 v0 v1 v2 v3 v4
        cases b1v
        · have Hhigh := Lib.hid (HN.out.2.2 rfl)
          go_wp2_with fail
          go_roundw
          case rel => exact ⟨j + 1, by omega, by go_num, by rw [← Hlow.out]; go_num, by rw [← Hhigh.out]; go_num, hB3⟩
          case measure => simp [intOf]; omega
        · have Hhigh := Lib.hid (HN.out.2.1 rfl)
          go_wp2_with fail
          go_roundw
          case rel => exact ⟨j + 1, by omega, by go_num, by rw [← Hlow.out]; go_num, by rw [← Hhigh.out]; go_num, hB3⟩
          case measure => simp [intOf]; omega
      · have Hlow := Lib.hid (HN.out.1.2 rfl)
        go_wp2_with fail
        go_region_held (fun w' => w'.cell? ⟨w.heap.size, 0, none⟩ = some (.slice (some ⟨b1, off1, none⟩) lo.length d) ∧ w'.cell? ⟨w.heap.size, 1, none⟩ = some (.slice (some ⟨b2, off2, none⟩) hi.length d') ∧ w'.cell? ⟨b1, off1 + j, none⟩ = some (.int .u64 (x : Int)) ∧ w'.cell? ⟨b2, off2 + j, none⟩ = some (.int .u64 (y : Int)) ∧ w'.cell? ⟨b, off + j, none⟩ = some (.int .u64 (u : Int))) (go_keep)
          (first
            | (go_at_call 30; refine (r4leaves_c u l 1 x y _ b1v Hb.out.2 hu hl (by omega)).mono ?_; rintro e w3 ⟨rfl, hb3⟩; have hB3 := Below.andThen Hz.out.drew hb3; obtain ⟨v0, v1, v2, v3, v4⟩ := fourB Hq.out hB3 Hlt.out.1 Hlt.out.2.1 Hlt.out.2.2.1 Hlt.out.2.2.2))
        clear z0 z1 z2 z3 z4 v0 v1 v2 v3 v4
        cases b1v
        · have Hhigh := Lib.hid (HN.out.2.2 rfl)
          go_wp2_with fail
          go_roundw
          case rel => exact ⟨j + 1, by omega, by go_num, by rw [← Hlow.out]; go_num, by rw [← Hhigh.out]; go_num, hB3⟩
          case measure => simp [intOf]; omega
        · have Hhigh := Lib.hid (HN.out.2.1 rfl)
          go_wp2_with fail
          go_roundw
          case rel => exact ⟨j + 1, by omega, by go_num, by rw [← Hlow.out]; go_num, by rw [← Hhigh.out]; go_num, hB3⟩
          case measure => simp [intOf]; omega
    · have hjk : j = us.length := by omega
      have hlo : Mk.num (Mk.lowF us l lo hi) j = ml := by rw [← HM.out.1, hjk]; rfl
      have hhi : Mk.num (Mk.highF us l lo hi) j = mh := by rw [← HM.out.2, hjk]; rfl
      have HL := Lib.hid (And.intro hlo hhi)
      have hfin := Below.andThen hbel hbw
      clear hlo hhi hjk hc hc1 hc2 hug hlg hhg
      go_wp2_with fail
      go_ret2
      exact ⟨by rw [HL.out.1, HL.out.2]; rfl, hfin⟩

/-! ### Whole -/
theorem r4whole_c (A C C' : Option Addr) (c d d' : Nat) (us lo hi : List Nat) (l : Int) (K B : Nat) (w : World) (r : Bool) (hr : Mk.whole us K lo hi us.length = r) (pu : Pts w B A us) (pl : Pts w B C lo) (ph : Pts w B C' hi) (hB : B ≤ w.heap.size)
    (h1 : 1 ≤ us.length) (h16 : us.length ≤ 16) (e1 : lo.length = us.length) (e2 : hi.length = us.length) (hl : l = (K : Int) - 1) (hK : K ≤ 64) :
    Calls Try.prog 11 #[.slice A us.length c, .int .i64 l, boxV C lo.length d C' hi.length d'] w fun e w' => e = .returned (.bool r) ∧ Below w.heap.size w w' := by
  obtain ⟨cl, hcl⟩ : ∃ L, Z.cut us K = L := ⟨_, rfl⟩
  obtain ⟨ch, hch⟩ : ∃ L, Bx.cellHi us K = L := ⟨_, rfl⟩
  have n1 : cl.length = us.length := by rw [← hcl, Z.cut_length]
  have n2 : ch.length = us.length := by rw [← hch, Bx.cellHi_length]
  obtain ⟨r1, hr1⟩ : ∃ r, Bx.isin lo hi cl lo.length = r := ⟨_, rfl⟩
  obtain ⟨r2, hr2⟩ : ∃ r, Bx.isin lo hi ch lo.length = r := ⟨_, rfl⟩
  have hrr : (r1 && r2) = r := by rw [← hr1, ← hr2, ← hcl, ← hch, e1, Mk.whole_isin, hr]
  have E := Lib.hid (And.intro hcl (And.intro hch (And.intro n1 (And.intro n2 (And.intro hr1 (And.intro hr2 (And.intro hrr (And.intro e1 e2))))))))
  have HP := Lib.hid (And.intro pu (And.intro pl ph))
  have g1 : 1 ≤ lo.length := by omega
  have g16 : lo.length ≤ 16 := by omega
  have E4 : Hid (lo.length = hi.length ∧ lo.length = cl.length ∧ lo.length = ch.length) := Lib.hid ⟨by omega, by omega, by omega⟩
  clear hcl hch n1 n2 hr1 hr2 hrr e1 e2 hr pu pl ph
  have hbel := below_alloc w (.cells #[.slice C lo.length d, .slice C' hi.length d'] 24)
  have hbx := boxAt_new w C lo.length d C' hi.length d'
  have hbx' := hbx
  obtain ⟨q0, q1⟩ := hbx'
  subst hl
  go_enter Try.func11, Try.ntmps11
  go_wp2_with fail
  refine (r3cell_c A c K us cl ch B _ E.out.1 E.out.2.1 (HP.out.1.below' hbel hB) (Nat.le_trans hB hbel.size) h1 h16 hK).mono ?_
  rintro e w1 ⟨A1, c1, A2, c2, rfl, p1, p2, hb1⟩
  have hal := below_alloc w1 (.cells #[.slice A1 cl.length c1, .slice A2 ch.length c2] 24)
  have hbB := Below.andThen hbel hb1
  have hbC := Below.andThen hbB hal
  have hx1 := (hbx.below hb1 (by simp)).below hal (Nat.lt_of_lt_of_le (by simp) hb1.size)
  have hx2 := boxAt_new w1 A1 cl.length c1 A2 ch.length c2
  have hx1' := hx1
  have hx2' := hx2
  clear q0 q1
  obtain ⟨q0, q1⟩ := hx1'
  obtain ⟨q2, q3⟩ := hx2'
  have u1 := HP.out.2.1.below' hbC hB
  have u2 := HP.out.2.2.below' hbC hB
  have u3 := p1.below' hal (Nat.le_refl _)
  have u4 := p2.below' hal (Nat.le_refl _)
  go_wp2_with fail
  refine (r3in_c C C' A1 d d' _ lo hi cl w1.heap.size _ r1 E.out.2.2.2.2.1 (u1.keep (Nat.le_trans hB hbB.size) (fun _ _ => rfl)) (u2.keep (Nat.le_trans hB hbB.size) (fun _ _ => rfl)) u3 (by simp) g1 g16 E4.out.1 E4.out.2.1).mono ?_
  rintro e w2 ⟨rfl, hb2⟩
  have hbD := Below.andThen hbC hb2
  cases r1
  · go_wp2_with fail
    go_ret
    exact ⟨by rw [← E.out.2.2.2.2.2.2.1]; rfl, hbD⟩
  · have hx3 := hx1.below hb2 (Nat.lt_of_lt_of_le (show w.heap.size < w1.heap.size by have := hb1.size; simp at this; omega) (by simp))
    have hx4 := hx2.below hb2 (by simp)
    clear q0 q1 q2 q3
    obtain ⟨q0, q1⟩ := hx3
    obtain ⟨q2, q3⟩ := hx4
    have v1 := HP.out.2.1.below' hbD hB
    have v2 := HP.out.2.2.below' hbD hB
    have v4 := u4.below' hb2 (by simp)
    have hsz2 : w1.heap.size ≤ w2.heap.size := by have := hb2.size; simp at this; omega
    go_wp2_with fail
    refine (r3in_c C C' A2 d d' _ lo hi ch w1.heap.size _ r2 E.out.2.2.2.2.2.1 (v1.keep (Nat.le_trans hB hbB.size) (fun _ _ => rfl)) (v2.keep (Nat.le_trans hB hbB.size) (fun _ _ => rfl)) v4 hsz2 g1 g16 E4.out.1 E4.out.2.2).mono ?_
    rintro e w3 ⟨rfl, hb3⟩
    go_wp2_with fail
    go_ret
    exact ⟨by rw [← E.out.2.2.2.2.2.2.1]; rfl, Below.andThen hbD hb3⟩
end Go.Proofs.Ytkkpgfpkeiamaaa
