/-
  THE WALK of the law MaskLeft.
-/
import Derived.Test.YtkkpgfpkeiamaaaAw4
import Derived.Test.YtkkpgfpkeiamaaaRm2
import Derived.Deep.RegionHeld
namespace Go.Proofs.Ytkkpgfpkeiamaaa
open Go.ChangeShapes Go.WideShapes Go.ChangeAt Go.RowKit

/-- the memory of a law with one mask: its block at w.heap.size -/
def NSt (x y z : Int) (w wr : World) : Prop := Below w.heap.size w wr ∧ MaskAt wr w.heap.size x y z ∧ w.heap.size < wr.heap.size
theorem NSt.new (x y z : Int) (w : World) : NSt x y z w (w.alloc (.cells #[.int .i64 x, .int .i64 y, .int .i64 z] 27)) := ⟨below_alloc _ _, maskAt_new w x y z, by simp⟩
theorem NSt.step {x y z : Int} {w wr wx : World} (h : NSt x y z w wr) (hb : Below wr.heap.size wr wx) : NSt x y z w wx := ⟨Below.andThen h.1 hb, h.2.1.below hb h.2.2, Nat.lt_of_lt_of_le h.2.2 hb.size⟩

set_option maxRecDepth 100000 in
theorem maskLeft_mid (k lo hi a : Int) (w : World) (h1 : 10 < k) (h2 : k ≤ 16) :
    Calls Try.prog 4 #[maskV k lo hi, .int .i64 a] w fun e w' => e = .returned (.bool true) ∧ Below w.heap.size w w' := by
  have s0 := NSt.new k lo hi w
  have d1 : decide (10 < k) = true := decide_eq_true h1
  have d2 : decide (k ≤ 16) = true := decide_eq_true h2
  clear h1 h2
  go_enter Try.func4, Try.ntmps4
  go_wp2_with fail
  refine (awake4_c _).mono ?_
  rintro e w1 ⟨rfl, hb1⟩
  have s1 := s0.step hb1
  have s1' := s1
  obtain ⟨-, ⟨q0, q1, q2⟩, -⟩ := s1'
  go_wp2_with fail
  go_ret
  exact ⟨rfl, s1.1⟩
theorem mid_facts {k : Int} (h : ¬ (10 < k ∧ k ≤ 16)) : ∃ x1 x2 : Bool, decide (10 < k) = x1 ∧ decide (k ≤ 16) = x2 ∧ (x1 && x2) = false := ⟨_, _, rfl, rfl, by
  by_cases c : 10 < k
  · have : ¬ k ≤ 16 := fun d => h ⟨c, d⟩
    rw [decide_eq_false this, Bool.and_false]
  · rw [decide_eq_false c, Bool.false_and]⟩
set_option maxRecDepth 100000 in
set_option maxHeartbeats 1600000 in
theorem maskLeft_no (k lo hi a : Int) (w : World) (hk : ¬ (10 < k ∧ k ≤ 16)) (h : ¬ MRight k lo hi) (bk : I64 k) (bl : I64 lo) (bh : I64 hi) :
    Calls Try.prog 4 #[maskV k lo hi, .int .i64 a] w fun e w' => e = .returned (.bool true) ∧ Below w.heap.size w w' := by
  have s0 := NSt.new k lo hi w
  obtain ⟨x1, x2, k1, k2, hx⟩ := mid_facts hk
  have B := Lib.hid (And.intro h (And.intro bk (And.intro bl bh)))
  have Hr : Hid (decide (MRight k lo hi) = false) := Lib.hid (decide_eq_false h)
  clear h bk bl bh hk
  go_enter Try.func4, Try.ntmps4
  go_wp2_with fail
  refine (awake4_c _).mono ?_
  rintro e w1 ⟨rfl, hb1⟩
  have s1 := s0.step hb1
  have s1' := s1
  obtain ⟨-, ⟨q0, q1, q2⟩, -⟩ := s1'
  cases x1 <;> cases x2
  case true.true => simp at hx
  all_goals clear hx
  all_goals (
    go_wp2_with fail
    refine (mfirst_no k lo hi _ B.out.1 B.out.2.1 B.out.2.2.1 B.out.2.2.2).mono ?_
    rintro e w2 ⟨rfl, hb2⟩
    have s2 := s1.step hb2
    have s2' := s2
    clear q0 q1 q2
    obtain ⟨-, ⟨q0, q1, q2⟩, -⟩ := s2'
    go_wp2_with fail
    refine (mnext_no k lo hi a _ B.out.1 B.out.2.1 B.out.2.2.1 B.out.2.2.2).mono ?_
    rintro e w3 ⟨rfl, hb3⟩
    have s3 := s2.step hb3
    have s3' := s3
    clear q0 q1 q2
    obtain ⟨-, ⟨q0, q1, q2⟩, -⟩ := s3'
    go_wp2_with fail
    refine (r4right_c k lo hi _ false Hr.out B.out.2.1).mono ?_
    rintro e w' ⟨rfl, rfl⟩
    go_wp2_with fail
    refine (mnone_no k lo hi _ B.out.1 B.out.2.1 B.out.2.2.1 B.out.2.2.2).mono ?_
    rintro e w4 ⟨rfl, hb4⟩
    have s4 := s3.step hb4
    have s4' := s4
    clear q0 q1 q2
    obtain ⟨-, ⟨q0, q1, q2⟩, -⟩ := s4'
    go_wp2_with fail
    refine (mcount_no k lo hi _ B.out.1 B.out.2.1 B.out.2.2.1 B.out.2.2.2).mono ?_
    rintro e w5 ⟨rfl, hb5⟩
    have s5 := s4.step hb5
    have s5' := s5
    clear q0 q1 q2
    obtain ⟨-, ⟨q0, q1, q2⟩, -⟩ := s5'
    go_wp2_with fail
    refine (mhas_no k lo hi a _ B.out.1 B.out.2.1 B.out.2.2.1 B.out.2.2.2).mono ?_
    rintro e w6 ⟨rfl, hb6⟩
    have s6 := s5.step hb6
    clear q0 q1 q2
    go_wp2_with fail
    go_ret
    exact ⟨rfl, s6.1⟩)

theorem mcells {w w' : World} {C b g : Nat} {x y z u : Value} (h : (w.cell? ⟨b, 0, none⟩ = some x ∧ w.cell? ⟨b, 1, none⟩ = some y ∧ w.cell? ⟨b, 2, none⟩ = some z) ∧ w.cell? ⟨g, 0, none⟩ = some u) (hb : Below C w w') (hl : b < C ∧ g < C) :
    (w'.cell? ⟨b, 0, none⟩ = some x ∧ w'.cell? ⟨b, 1, none⟩ = some y ∧ w'.cell? ⟨b, 2, none⟩ = some z) ∧ w'.cell? ⟨g, 0, none⟩ = some u :=
  ⟨⟨(hb.cell (p := ⟨b, 0, none⟩) hl.1).trans h.1.1, (hb.cell (p := ⟨b, 1, none⟩) hl.1).trans h.1.2.1, (hb.cell (p := ⟨b, 2, none⟩) hl.1).trans h.1.2.2⟩, (hb.cell (p := ⟨g, 0, none⟩) hl.2).trans h.2⟩
theorem mcells3 {w w' : World} {C b : Nat} {x y z : Value} (h : w.cell? ⟨b, 0, none⟩ = some x ∧ w.cell? ⟨b, 1, none⟩ = some y ∧ w.cell? ⟨b, 2, none⟩ = some z) (hb : Below C w w') (hl : b < C) :
    w'.cell? ⟨b, 0, none⟩ = some x ∧ w'.cell? ⟨b, 1, none⟩ = some y ∧ w'.cell? ⟨b, 2, none⟩ = some z :=
  ⟨(hb.cell (p := ⟨b, 0, none⟩) hl).trans h.1, (hb.cell (p := ⟨b, 1, none⟩) hl).trans h.2.1, (hb.cell (p := ⟨b, 2, none⟩) hl).trans h.2.2⟩
theorem find_at {L : List Nat} {a : Int} : ∀ {j y : Nat}, (∀ (q z : Nat), q < j → L[q]? = some z → ¬ a < (z : Int)) → L[j]? = some y → a < (y : Int) → L.find? (fun (x : Nat) => decide (a < (x : Int))) = some y := by
  induction L with
  | nil => intro j y _ h; simp at h
  | cons u us ih =>
    intro j y hno hy hlt
    rw [List.find?_cons]
    cases j with
    | zero =>
      simp at hy
      subst hy
      rw [decide_eq_true hlt]
    | succ j =>
      rw [decide_eq_false (hno 0 u (by omega) (by simp))]
      exact ih (j := j) (y := y) (fun q z hq hz => hno (q + 1) z (by omega) (by simpa using hz)) (by simpa using hy) hlt
theorem find_none {L : List Nat} {a : Int} (h : ∀ (q z : Nat), L[q]? = some z → ¬ a < (z : Int)) : L.find? (fun (x : Nat) => decide (a < (x : Int))) = none := by
  rw [List.find?_eq_none]
  intro z hz
  obtain ⟨q, hq⟩ := List.mem_iff_getElem?.1 hz
  simpa using h q z hq
set_option maxRecDepth 100000 in
set_option maxHeartbeats 6400000 in
set_option linter.unusedSimpArgs false in
theorem maskLeft_yes (k lo hi : Nat) (a : Int) (w : World) (ba : I64 a) (h1 : 1 ≤ k) (h10 : k ≤ 10) (h3 : lo < 2 ^ k) (h4 : hi < 2 ^ k) :
    Calls Try.prog 4 #[maskV (k : Int) (lo : Int) (hi : Int), .int .i64 a] w fun e w' => e = .returned (.bool true) ∧ Below w.heap.size w w' := by
  have s0 := NSt.new (k : Int) (lo : Int) (hi : Int) w
  have hp : 2 ^ k ≤ 1024 := Nat.pow_le_pow_right (n := 2) (by omega) h10
  obtain ⟨L, hL⟩ : ∃ L, Mk.left k lo hi = L := ⟨_, rfl⟩
  obtain ⟨r, hr⟩ : ∃ r, Mk.nothing lo hi = r := ⟨_, rfl⟩
  obtain ⟨o, ho⟩ : ∃ o, nextI k lo hi a = o := ⟨_, rfl⟩
  obtain ⟨x, hx⟩ : ∃ x, Mk.hasI k lo hi a = x := ⟨_, rfl⟩
  obtain ⟨fi, hfi⟩ : ∃ y : Nat, (if r = true then 0 else lo) = y := ⟨_, rfl⟩
  have hlen := Mk.left_length_le k lo hi
  rw [hL] at hlen
  have hd1 : decide ((10 : Int) < (k : Int)) = false := decide_eq_false (by omega)
  have hd2 : decide (10 < k) = false := decide_eq_false (by omega)
  have h16 : k ≤ 16 := by omega
  have B := Lib.hid (And.intro h1 (And.intro h16 (And.intro h3 (And.intro h4 (And.intro ba (And.intro (show k ≤ 12 by omega) (And.intro (i64_nat (show k < 65536 by omega)) (show L.length ≤ 1024 by omega))))))))
  have V := Lib.hid (And.intro hL (And.intro hr (And.intro ho (And.intro hx hfi))))
  have Hr : Hid (decide (MRight (k : Int) (lo : Int) (hi : Int)) = true) := Lib.hid (decide_eq_true (mright_nat h1 h16 h3 h4))
  have hcnt := Lib.hid (mcount_yes k lo hi)
  rw [hL] at hcnt
  have hnil : L = [] ↔ r = true := by rw [← hL, ← hr]; exact Mk.left_nil_iff h3
  have hhead : r = false → L[0]? = some lo := fun h => by rw [← hL]; exact Mk.left_head h3 (by rw [hr, h])
  have hNH := Lib.hid (And.intro hnil hhead)
  have hlt : L.length ≤ 1024 := by omega
  clear hL hr ho hx hfi h1 h10 h3 h4 ba hp hlen hnil hhead h16
  go_enter Try.func4, Try.ntmps4
  go_wp2_with fail
  refine (awake4_c _).mono ?_
  rintro e w1 ⟨rfl, hb1⟩
  have s1 := s0.step hb1
  have s1' := s1
  obtain ⟨-, ⟨q0, q1, q2⟩, -⟩ := s1'
  go_wp2_with fail
  refine (mfirst_yes k lo hi _ r fi V.out.2.1 V.out.2.2.2.2 B.out.1 B.out.2.1 B.out.2.2.1 B.out.2.2.2.1).mono ?_
  rintro e w2 ⟨rfl, hb2⟩
  have s2 := s1.step hb2
  have s2' := s2
  clear q0 q1 q2
  obtain ⟨-, ⟨q0, q1, q2⟩, -⟩ := s2'
  go_wp2_with fail
  refine (mnext_yes k lo hi a _ o V.out.2.2.1 B.out.2.2.2.2.1 B.out.1 B.out.2.1 B.out.2.2.1 B.out.2.2.2.1).mono ?_
  rintro e w3 ⟨rfl, hb3⟩
  have s3 := s2.step hb3
  have s3' := s3
  clear q0 q1 q2
  obtain ⟨-, ⟨q0, q1, q2⟩, -⟩ := s3'
  go_wp2_with fail
  refine (r4right_c (k : Int) (lo : Int) (hi : Int) _ true Hr.out B.out.2.2.2.2.2.2.1).mono ?_
  rintro e w' ⟨rfl, rfl⟩
  go_wp2_with fail
  refine (r4left_c k lo hi _ B.out.1 B.out.2.1 B.out.2.2.1 B.out.2.2.2.1).mono ?_
  rintro e w4 ⟨v4, rfl, own4, hb4⟩
  rw [V.out.1] at own4
  have s4 := s3.step hb4
  have s4' := s4
  clear q0 q1 q2
  obtain ⟨-, ⟨q0, q1, q2⟩, -⟩ := s4'
  clear s0 s1 s2 hb1 hb2 hb3
  obtain ⟨oi, hoi⟩ : ∃ y : Nat, o.getD 0 = y := ⟨_, rfl⟩
  obtain ⟨os, hos⟩ : ∃ y : Bool, o.isSome = y := ⟨_, rfl⟩
  rw [hoi, hos]
  have HO := Lib.hid (And.intro hoi hos)
  clear hoi hos
  cases r
  · have hhd := hNH.out.2 rfl
    have hne : L ≠ [] := by intro e; rw [e] at hhd; simp at hhd
    have hfi : fi = lo := V.out.2.2.2.2.symm
    subst hfi
    obtain ⟨g, cap, hv, hcells⟩ : ∃ g cap, v4 = .slice (some ⟨g, 0, none⟩) L.length cap ∧ ∀ (i y : Nat), L[i]? = some y → w4.cell? ⟨g, i, none⟩ = some (.int .i64 (y : Int)) := by
      rcases own4.2 with ⟨_, h0⟩ | ⟨g, cap, cur, hv, hrest⟩
      · exact absurd (List.eq_nil_of_length_eq_zero h0) hne
      · subst hv
        exact ⟨g, cap, rfl, fun i y hi => by rw [World.ownsRow.cellAt own4 i (by have := lt_get hi; omega)]; exact valsI_get hi⟩
    subst hv
    have hc0 := hcells 0 _ hhd
    have hpos : 0 < L.length := lt_get hhd
    have Hcells := Lib.hid hcells
    clear hcells own4 hne hhd
    go_wp2_with fail
    have hrr : (false != false) = false := rfl
    have hxx : (x != x) = false := by simp
    have hl0 : ((L.length : Int) == 0) = false := by rw [beq_eq_false_iff_ne]; omega
    have hl1 : decide ((0 : Int) < (L.length : Int)) = true := decide_eq_true (by omega)
    have Hq : Hid ((w4.cell? ⟨w.heap.size, 0, none⟩ = some (.int .i64 (k : Int)) ∧ w4.cell? ⟨w.heap.size, 1, none⟩ = some (.int .i64 (fi : Int)) ∧ w4.cell? ⟨w.heap.size, 2, none⟩ = some (.int .i64 (hi : Int))) ∧ w4.cell? ⟨g, 0, none⟩ = some (.int .i64 (fi : Int))) := Lib.hid ⟨⟨q0, q1, q2⟩, hc0⟩
    have Hlt : Hid (w.heap.size < w4.heap.size ∧ g < w4.heap.size) := Lib.hid ⟨World.block_lt_of_cell? w4 ⟨w.heap.size, 0, none⟩ q0, World.block_lt_of_cell? w4 ⟨g, 0, none⟩ hc0⟩
    -- REGION-A
    refine wp_region_held_drew (S := fun w' => (w'.cell? ⟨w.heap.size, 0, none⟩ = some (.int .i64 (k : Int)) ∧ w'.cell? ⟨w.heap.size, 1, none⟩ = some (.int .i64 (fi : Int)) ∧ w'.cell? ⟨w.heap.size, 2, none⟩ = some (.int .i64 (hi : Int))) ∧ w'.cell? ⟨g, 0, none⟩ = some (.int .i64 (fi : Int))) (by kernel_rfl) Hq.out (fun hHeld => ?_)
    apply wpAnyH_take (i := 0)
    case hi => simp only [List.getElem?_toArray, List.getElem?_cons_succ, List.getElem?_cons_zero]; rfl
    case hs => kernel_rfl
    case hf => kernel_rfl
    case hr => kernel_rfl
    case hQ => exact fun _ _ _ h => h
    case hS => assumption
    case hy =>
      refine Or.inl ⟨by rfl, ?_⟩
      intro w hSw
      try dsimp only at hSw
      go_simp
      try with_reducible rfl
    simp only [Act.put, List.setIfInBounds_toArray, List.set_cons_zero, List.set_cons_succ]
    apply wpAnyH_take (i := 2)
    case hi => simp only [List.getElem?_toArray, List.getElem?_cons_succ, List.getElem?_cons_zero]; rfl
    case hs => kernel_rfl
    case hf => kernel_rfl
    case hr => kernel_rfl
    case hQ => exact fun _ _ _ h => h
    case hS => assumption
    case hy =>
      refine Or.inl ⟨by rfl, ?_⟩
      intro w hSw
      try dsimp only at hSw
      go_simp
      try with_reducible rfl
    simp only [Act.put, List.setIfInBounds_toArray, List.set_cons_zero, List.set_cons_succ]
    apply wpAnyH_take (i := 3)
    case hi => simp only [List.getElem?_toArray, List.getElem?_cons_succ, List.getElem?_cons_zero]; rfl
    case hs => kernel_rfl
    case hf => kernel_rfl
    case hr => kernel_rfl
    case hQ => exact fun _ _ _ h => h
    case hS => assumption
    case hy =>
      refine Or.inl ⟨by rfl, ?_⟩
      intro w hSw
      try dsimp only at hSw
      go_simp
      try with_reducible rfl
    simp only [Act.put, List.setIfInBounds_toArray, List.set_cons_zero, List.set_cons_succ]
    apply wpAnyH_take (i := 4)
    case hi => simp only [List.getElem?_toArray, List.getElem?_cons_succ, List.getElem?_cons_zero]; rfl
    case hs => kernel_rfl
    case hf => kernel_rfl
    case hr => kernel_rfl
    case hQ => exact fun _ _ _ h => h
    case hS => assumption
    case hy =>
      refine Or.inl ⟨by rfl, ?_⟩
      intro w hSw
      try dsimp only at hSw
      go_simp
      try with_reducible rfl
    simp only [Act.put, List.setIfInBounds_toArray, List.set_cons_zero, List.set_cons_succ]
    refine wpAnyH_ready (rs := [1]) (by kernel_rfl) (by simp) ?_
    apply AllReadyH.cons
    case ho => simp only [List.getElem?_toArray, List.getElem?_cons_succ, List.getElem?_cons_zero]; rfl
    case hs => exact AllReadyH.nil
    intro K hK
    go_simp
    refine (mnone_yes k fi hi _ false V.out.2.1 B.out.1 B.out.2.1 B.out.2.2.1 B.out.2.2.2.1).mono ?_
    rintro e w5 ⟨rfl, hb5⟩
    have hB5 := Below.andThen (Below.refl w4.heap.size w4).drew hb5
    have z5 := mcells Hq.out hB5 Hlt.out
    go_wp2_with fail
    refine hK.out _ _ z5 (fun hHeld => ?_)
    clear hK K
    apply wpAnyH_take (i := 5)
    case hi => simp only [List.getElem?_toArray, List.getElem?_cons_succ, List.getElem?_cons_zero]; rfl
    case hs => kernel_rfl
    case hf => kernel_rfl
    case hr => kernel_rfl
    case hQ => exact fun _ _ _ h => h
    case hS => assumption
    case hy =>
      refine Or.inl ⟨by rfl, ?_⟩
      intro w hSw
      try dsimp only at hSw
      go_simp
      try with_reducible rfl
    simp only [Act.put, List.setIfInBounds_toArray, List.set_cons_zero, List.set_cons_succ]
    apply wpAnyH_take (i := 6)
    case hi => simp only [List.getElem?_toArray, List.getElem?_cons_succ, List.getElem?_cons_zero]; rfl
    case hs => kernel_rfl
    case hf => kernel_rfl
    case hr => kernel_rfl
    case hQ => exact fun _ _ _ h => h
    case hS => assumption
    case hy =>
      refine Or.inl ⟨by rfl, ?_⟩
      intro w hSw
      try dsimp only at hSw
      go_simp
      try with_reducible rfl
    simp only [Act.put, List.setIfInBounds_toArray, List.set_cons_zero, List.set_cons_succ]
    apply wpAnyH_take (i := 7)
    case hi => simp only [List.getElem?_toArray, List.getElem?_cons_succ, List.getElem?_cons_zero]; rfl
    case hs => kernel_rfl
    case hf => kernel_rfl
    case hr => kernel_rfl
    case hQ => exact fun _ _ _ h => h
    case hS => assumption
    case hy =>
      refine Or.inl ⟨by rfl, ?_⟩
      intro w hSw
      try dsimp only at hSw
      go_simp
      try with_reducible rfl
    simp only [Act.put, List.setIfInBounds_toArray, List.set_cons_zero, List.set_cons_succ]
    apply wpAnyH_take (i := 9)
    case hi => simp only [List.getElem?_toArray, List.getElem?_cons_succ, List.getElem?_cons_zero]; rfl
    case hs => kernel_rfl
    case hf => kernel_rfl
    case hr => kernel_rfl
    case hQ => exact fun _ _ _ h => h
    case hS => assumption
    case hy =>
      refine Or.inl ⟨by rfl, ?_⟩
      intro w hSw
      try dsimp only at hSw
      go_simp
      try with_reducible rfl
    simp only [Act.put, List.setIfInBounds_toArray, List.set_cons_zero, List.set_cons_succ]
    apply wpAnyH_take (i := 10)
    case hi => simp only [List.getElem?_toArray, List.getElem?_cons_succ, List.getElem?_cons_zero]; rfl
    case hs => kernel_rfl
    case hf => kernel_rfl
    case hr => kernel_rfl
    case hQ => exact fun _ _ _ h => h
    case hS => assumption
    case hy =>
      refine Or.inl ⟨by rfl, ?_⟩
      intro w hSw
      try dsimp only at hSw
      go_simp
      try with_reducible rfl
    simp only [Act.put, List.setIfInBounds_toArray, List.set_cons_zero, List.set_cons_succ]
    refine wpAnyH_ready (rs := [8]) (by kernel_rfl) (by simp) ?_
    apply AllReadyH.cons
    case ho => simp only [List.getElem?_toArray, List.getElem?_cons_succ, List.getElem?_cons_zero]; rfl
    case hs => exact AllReadyH.nil
    intro K hK
    go_simp
    refine (hcnt.out _ L.length rfl B.out.1 B.out.2.2.2.2.2.1 B.out.2.2.1 B.out.2.2.2.1).mono ?_
    rintro e w6 ⟨rfl, hb6⟩
    have hB6 := Below.andThen hB5 hb6
    have z6 := mcells Hq.out hB6 Hlt.out
    go_wp2_with fail
    refine hK.out _ _ z6 (fun hHeld => ?_)
    clear hK K
    apply wpAnyH_take (i := 11)
    case hi => simp only [List.getElem?_toArray, List.getElem?_cons_succ, List.getElem?_cons_zero]; rfl
    case hs => kernel_rfl
    case hf => kernel_rfl
    case hr => kernel_rfl
    case hQ => exact fun _ _ _ h => h
    case hS => assumption
    case hy =>
      refine Or.inl ⟨by rfl, ?_⟩
      intro w hSw
      try dsimp only at hSw
      go_simp
      try with_reducible rfl
    simp only [Act.put, List.setIfInBounds_toArray, List.set_cons_zero, List.set_cons_succ]
    apply wpAnyH_take (i := 12)
    case hi => simp only [List.getElem?_toArray, List.getElem?_cons_succ, List.getElem?_cons_zero]; rfl
    case hs => kernel_rfl
    case hf => kernel_rfl
    case hr => kernel_rfl
    case hQ => exact fun _ _ _ h => h
    case hS => assumption
    case hy =>
      refine Or.inl ⟨by rfl, ?_⟩
      intro w hSw
      try dsimp only at hSw
      go_simp
      try with_reducible rfl
    simp only [Act.put, List.setIfInBounds_toArray, List.set_cons_zero, List.set_cons_succ]
    apply wpAnyH_take (i := 13)
    case hi => simp only [List.getElem?_toArray, List.getElem?_cons_succ, List.getElem?_cons_zero]; rfl
    case hs => kernel_rfl
    case hf => kernel_rfl
    case hr => kernel_rfl
    case hQ => exact fun _ _ _ h => h
    case hS => assumption
    case hy =>
      refine Or.inl ⟨by rfl, ?_⟩
      intro w hSw
      try dsimp only at hSw
      go_simp
      try with_reducible rfl
    simp only [Act.put, List.setIfInBounds_toArray, List.set_cons_zero, List.set_cons_succ]
    apply wpAnyH_take (i := 14)
    case hi => simp only [List.getElem?_toArray, List.getElem?_cons_succ, List.getElem?_cons_zero]; rfl
    case hs => kernel_rfl
    case hf => kernel_rfl
    case hr => kernel_rfl
    case hQ => exact fun _ _ _ h => h
    case hS => assumption
    case hy =>
      refine Or.inl ⟨by rfl, ?_⟩
      intro w hSw
      try dsimp only at hSw
      go_simp
      try with_reducible rfl
    simp only [Act.put, List.setIfInBounds_toArray, List.set_cons_zero, List.set_cons_succ]
    apply wpAnyH_take (i := 15)
    case hi => simp only [List.getElem?_toArray, List.getElem?_cons_succ, List.getElem?_cons_zero]; rfl
    case hs => kernel_rfl
    case hf => kernel_rfl
    case hr => kernel_rfl
    case hQ => exact fun _ _ _ h => h
    case hS => assumption
    case hy =>
      refine Or.inl ⟨by rfl, ?_⟩
      intro w hSw
      try dsimp only at hSw
      go_simp
      try with_reducible rfl
    simp only [Act.put, List.setIfInBounds_toArray, List.set_cons_zero, List.set_cons_succ]
    apply wpAnyH_take (i := 17)
    case hi => simp only [List.getElem?_toArray, List.getElem?_cons_succ, List.getElem?_cons_zero]; rfl
    case hs => kernel_rfl
    case hf => kernel_rfl
    case hr => kernel_rfl
    case hQ => exact fun _ _ _ h => h
    case hS => assumption
    case hy =>
      refine Or.inl ⟨by rfl, ?_⟩
      intro w hSw
      try dsimp only at hSw
      go_simp
      try with_reducible rfl
    simp only [Act.put, List.setIfInBounds_toArray, List.set_cons_zero, List.set_cons_succ]
    apply wpAnyH_take (i := 18)
    case hi => simp only [List.getElem?_toArray, List.getElem?_cons_succ, List.getElem?_cons_zero]; rfl
    case hs => kernel_rfl
    case hf => kernel_rfl
    case hr => kernel_rfl
    case hQ => exact fun _ _ _ h => h
    case hS => assumption
    case hy =>
      refine Or.inl ⟨by rfl, ?_⟩
      intro w hSw
      try dsimp only at hSw
      go_simp
      try with_reducible rfl
    simp only [Act.put, List.setIfInBounds_toArray, List.set_cons_zero, List.set_cons_succ]
    apply wpAnyH_take (i := 19)
    case hi => simp only [List.getElem?_toArray, List.getElem?_cons_succ, List.getElem?_cons_zero]; rfl
    case hs => kernel_rfl
    case hf => kernel_rfl
    case hr => kernel_rfl
    case hQ => exact fun _ _ _ h => h
    case hS => assumption
    case hy =>
      refine Or.inl ⟨by rfl, ?_⟩
      intro w hSw
      try dsimp only at hSw
      go_simp
      try with_reducible rfl
    simp only [Act.put, List.setIfInBounds_toArray, List.set_cons_zero, List.set_cons_succ]
    apply wpAnyH_take (i := 20)
    case hi => simp only [List.getElem?_toArray, List.getElem?_cons_succ, List.getElem?_cons_zero]; rfl
    case hs => kernel_rfl
    case hf => kernel_rfl
    case hr => kernel_rfl
    case hQ => exact fun _ _ _ h => h
    case hS => assumption
    case hy =>
      refine Or.inl ⟨by rfl, ?_⟩
      intro w hSw
      try dsimp only at hSw
      go_simp
      try with_reducible rfl
    simp only [Act.put, List.setIfInBounds_toArray, List.set_cons_zero, List.set_cons_succ]
    apply wpAnyH_take (i := 21)
    case hi => simp only [List.getElem?_toArray, List.getElem?_cons_succ, List.getElem?_cons_zero]; rfl
    case hs => kernel_rfl
    case hf => kernel_rfl
    case hr => kernel_rfl
    case hQ => exact fun _ _ _ h => h
    case hS => assumption
    case hy =>
      refine Or.inl ⟨by rfl, ?_⟩
      intro w hSw
      try dsimp only at hSw
      go_simp
      try with_reducible rfl
    simp only [Act.put, List.setIfInBounds_toArray, List.set_cons_zero, List.set_cons_succ]
    apply wpAnyH_take (i := 22)
    case hi => simp only [List.getElem?_toArray, List.getElem?_cons_succ, List.getElem?_cons_zero]; rfl
    case hs => kernel_rfl
    case hf => kernel_rfl
    case hr => kernel_rfl
    case hQ => exact fun _ _ _ h => h
    case hS => assumption
    case hy =>
      refine Or.inl ⟨by rfl, ?_⟩
      intro w hSw
      try dsimp only at hSw
      go_simp
      try with_reducible rfl
    simp only [Act.put, List.setIfInBounds_toArray, List.set_cons_zero, List.set_cons_succ]
    apply wpAnyH_take (i := 23)
    case hi => simp only [List.getElem?_toArray, List.getElem?_cons_succ, List.getElem?_cons_zero]; rfl
    case hs => kernel_rfl
    case hf => kernel_rfl
    case hr => kernel_rfl
    case hQ => exact fun _ _ _ h => h
    case hS => assumption
    case hy =>
      refine Or.inl ⟨by rfl, ?_⟩
      intro w hSw
      try dsimp only at hSw
      go_simp
      try with_reducible rfl
    simp only [Act.put, List.setIfInBounds_toArray, List.set_cons_zero, List.set_cons_succ]
    refine wpAnyH_ready (rs := [16]) (by kernel_rfl) (by simp) ?_
    apply AllReadyH.cons
    case ho => simp only [List.getElem?_toArray, List.getElem?_cons_succ, List.getElem?_cons_zero]; rfl
    case hs => exact AllReadyH.nil
    intro K hK
    go_simp
    refine (mhas_yes k fi hi a _ x V.out.2.2.2.1 B.out.1 B.out.2.1 B.out.2.2.1 B.out.2.2.2.1 B.out.2.2.2.2.1).mono ?_
    rintro e w7 ⟨rfl, hb7⟩
    have hB7 := Below.andThen hB6 hb7
    have z7 := mcells Hq.out hB7 Hlt.out
    go_wp2_with fail
    refine hK.out _ _ z7 (fun hHeld => ?_)
    clear hK K
    refine wpAnyH_ready (rs := [24]) (by kernel_rfl) (by simp) ?_
    apply AllReadyH.cons
    case ho => simp only [List.getElem?_toArray, List.getElem?_cons_succ, List.getElem?_cons_zero]; rfl
    case hs => exact AllReadyH.nil
    intro K hK
    go_simp
    refine (r4has_c k fi hi a _ x V.out.2.2.2.1 B.out.1 B.out.2.1 B.out.2.2.1 B.out.2.2.2.1 B.out.2.2.2.2.1).mono ?_
    rintro e w' ⟨rfl, rfl⟩
    go_wp2_with fail
    refine hK.out _ _ z7 (fun hHeld => ?_)
    clear hK K
    apply wpAnyH_take (i := 25)
    case hi => simp only [List.getElem?_toArray, List.getElem?_cons_succ, List.getElem?_cons_zero]; rfl
    case hs => kernel_rfl
    case hf => kernel_rfl
    case hr => kernel_rfl
    case hQ => exact fun _ _ _ h => h
    case hS => assumption
    case hy =>
      refine Or.inl ⟨by rfl, ?_⟩
      intro w hSw
      try dsimp only at hSw
      go_simp
      try with_reducible rfl
    simp only [Act.put, List.setIfInBounds_toArray, List.set_cons_zero, List.set_cons_succ]
    apply wpAnyH_take (i := 26)
    case hi => simp only [List.getElem?_toArray, List.getElem?_cons_succ, List.getElem?_cons_zero]; rfl
    case hs => kernel_rfl
    case hf => kernel_rfl
    case hr => kernel_rfl
    case hQ => exact fun _ _ _ h => h
    case hS => assumption
    case hy =>
      refine Or.inl ⟨by rfl, ?_⟩
      intro w hSw
      try dsimp only at hSw
      go_simp
      try with_reducible rfl
    simp only [Act.put, List.setIfInBounds_toArray, List.set_cons_zero, List.set_cons_succ]
    apply wpAnyH_take (i := 27)
    case hi => simp only [List.getElem?_toArray, List.getElem?_cons_succ, List.getElem?_cons_zero]; rfl
    case hs => kernel_rfl
    case hf => kernel_rfl
    case hr => kernel_rfl
    case hQ => exact fun _ _ _ h => h
    case hS => assumption
    case hy =>
      refine Or.inl ⟨by rfl, ?_⟩
      intro w hSw
      try dsimp only at hSw
      go_simp
      try with_reducible rfl
    simp only [Act.put, List.setIfInBounds_toArray, List.set_cons_zero, List.set_cons_succ]
    apply wpAnyH_take (i := 28)
    case hi => simp only [List.getElem?_toArray, List.getElem?_cons_succ, List.getElem?_cons_zero]; rfl
    case hs => kernel_rfl
    case hf => kernel_rfl
    case hr => kernel_rfl
    case hQ => exact fun _ _ _ h => h
    case hS => assumption
    case hy =>
      refine Or.inl ⟨by rfl, ?_⟩
      intro w hSw
      try dsimp only at hSw
      go_simp
      try with_reducible rfl
    simp only [Act.put, List.setIfInBounds_toArray, List.set_cons_zero, List.set_cons_succ]
    apply wpAnyH_take (i := 29)
    case hi => simp only [List.getElem?_toArray, List.getElem?_cons_succ, List.getElem?_cons_zero]; rfl
    case hs => kernel_rfl
    case hf => kernel_rfl
    case hr => kernel_rfl
    case hQ => exact fun _ _ _ h => h
    case hS => assumption
    case hy =>
      refine Or.inl ⟨by rfl, ?_⟩
      intro w hSw
      try dsimp only at hSw
      go_simp
      try with_reducible rfl
    simp only [Act.put, List.setIfInBounds_toArray, List.set_cons_zero, List.set_cons_succ]
    apply wpAnyH_take (i := 30)
    case hi => simp only [List.getElem?_toArray, List.getElem?_cons_succ, List.getElem?_cons_zero]; rfl
    case hs => kernel_rfl
    case hf => kernel_rfl
    case hr => kernel_rfl
    case hQ => exact fun _ _ _ h => h
    case hS => assumption
    case hy =>
      refine Or.inl ⟨by rfl, ?_⟩
      intro w hSw
      try dsimp only at hSw
      go_simp
      try with_reducible rfl
    simp only [Act.put, List.setIfInBounds_toArray, List.set_cons_zero, List.set_cons_succ]
    apply wpAnyH_take (i := 31)
    case hi => simp only [List.getElem?_toArray, List.getElem?_cons_succ, List.getElem?_cons_zero]; rfl
    case hs => kernel_rfl
    case hf => kernel_rfl
    case hr => kernel_rfl
    case hQ => exact fun _ _ _ h => h
    case hS => assumption
    case hy =>
      refine Or.inl ⟨by rfl, ?_⟩
      intro w hSw
      try dsimp only at hSw
      go_simp
      try with_reducible rfl
    simp only [Act.put, List.setIfInBounds_toArray, List.set_cons_zero, List.set_cons_succ]
    apply wpAnyH_take (i := 32)
    case hi => simp only [List.getElem?_toArray, List.getElem?_cons_succ, List.getElem?_cons_zero]; rfl
    case hs => kernel_rfl
    case hf => kernel_rfl
    case hr => kernel_rfl
    case hQ => exact fun _ _ _ h => h
    case hS => assumption
    case hy =>
      refine Or.inl ⟨by rfl, ?_⟩
      intro w hSw
      try dsimp only at hSw
      go_simp
      try with_reducible rfl
    simp only [Act.put, List.setIfInBounds_toArray, List.set_cons_zero, List.set_cons_succ]
    apply wpAnyH_take (i := 33)
    case hi => simp only [List.getElem?_toArray, List.getElem?_cons_succ, List.getElem?_cons_zero]; rfl
    case hs => kernel_rfl
    case hf => kernel_rfl
    case hr => kernel_rfl
    case hQ => exact fun _ _ _ h => h
    case hS => assumption
    case hy =>
      refine Or.inl ⟨by rfl, ?_⟩
      intro w hSw
      try dsimp only at hSw
      go_simp
      try with_reducible rfl
    simp only [Act.put, List.setIfInBounds_toArray, List.set_cons_zero, List.set_cons_succ]
    apply wpAnyH_take (i := 34)
    case hi => simp only [List.getElem?_toArray, List.getElem?_cons_succ, List.getElem?_cons_zero]; rfl
    case hs => kernel_rfl
    case hf => kernel_rfl
    case hr => kernel_rfl
    case hQ => exact fun _ _ _ h => h
    case hS => assumption
    case hy =>
      refine Or.inl ⟨by rfl, ?_⟩
      intro w hSw
      try dsimp only at hSw
      go_simp
      try with_reducible rfl
    simp only [Act.put, List.setIfInBounds_toArray, List.set_cons_zero, List.set_cons_succ]
    apply wpAnyH_take (i := 35)
    case hi => simp only [List.getElem?_toArray, List.getElem?_cons_succ, List.getElem?_cons_zero]; rfl
    case hs => kernel_rfl
    case hf => kernel_rfl
    case hr => kernel_rfl
    case hQ => exact fun _ _ _ h => h
    case hS => assumption
    case hy =>
      refine Or.inl ⟨by rfl, ?_⟩
      intro w hSw
      try dsimp only at hSw
      go_simp
      try with_reducible rfl
    simp only [Act.put, List.setIfInBounds_toArray, List.set_cons_zero, List.set_cons_succ]
    apply wpAnyH_take (i := 36)
    case hi => simp only [List.getElem?_toArray, List.getElem?_cons_succ, List.getElem?_cons_zero]; rfl
    case hs => kernel_rfl
    case hf => kernel_rfl
    case hr => kernel_rfl
    case hQ => exact fun _ _ _ h => h
    case hS => assumption
    case hy =>
      refine Or.inl ⟨by rfl, ?_⟩
      intro w hSw
      try dsimp only at hSw
      go_simp
      try with_reducible rfl
    simp only [Act.put, List.setIfInBounds_toArray, List.set_cons_zero, List.set_cons_succ]
    apply wpAnyH_take (i := 37)
    case hi => simp only [List.getElem?_toArray, List.getElem?_cons_succ, List.getElem?_cons_zero]; rfl
    case hs => kernel_rfl
    case hf => kernel_rfl
    case hr => kernel_rfl
    case hQ => exact fun _ _ _ h => h
    case hS => assumption
    case hy =>
      refine Or.inl ⟨by rfl, ?_⟩
      intro w hSw
      try dsimp only at hSw
      go_simp
      try with_reducible rfl
    simp only [Act.put, List.setIfInBounds_toArray, List.set_cons_zero, List.set_cons_succ]
    apply wpAnyH_take (i := 38)
    case hi => simp only [List.getElem?_toArray, List.getElem?_cons_succ, List.getElem?_cons_zero]; rfl
    case hs => kernel_rfl
    case hf => kernel_rfl
    case hr => kernel_rfl
    case hQ => exact fun _ _ _ h => h
    case hS => assumption
    case hy =>
      refine Or.inl ⟨by rfl, ?_⟩
      intro w hSw
      try dsimp only at hSw
      go_simp
      try with_reducible rfl
    simp only [Act.put, List.setIfInBounds_toArray, List.set_cons_zero, List.set_cons_succ]
    apply wpAnyH_take (i := 39)
    case hi => simp only [List.getElem?_toArray, List.getElem?_cons_succ, List.getElem?_cons_zero]; rfl
    case hs => kernel_rfl
    case hf => kernel_rfl
    case hr => kernel_rfl
    case hQ => exact fun _ _ _ h => h
    case hS => assumption
    case hy =>
      refine Or.inl ⟨by rfl, ?_⟩
      intro w hSw
      try dsimp only at hSw
      go_simp
      try with_reducible rfl
    simp only [Act.put, List.setIfInBounds_toArray, List.set_cons_zero, List.set_cons_succ]
    apply wpAnyH_take (i := 40)
    case hi => simp only [List.getElem?_toArray, List.getElem?_cons_succ, List.getElem?_cons_zero]; rfl
    case hs => kernel_rfl
    case hf => kernel_rfl
    case hr => kernel_rfl
    case hQ => exact fun _ _ _ h => h
    case hS => assumption
    case hy =>
      refine Or.inl ⟨by rfl, ?_⟩
      intro w hSw
      try dsimp only at hSw
      go_simp
      try with_reducible rfl
    simp only [Act.put, List.setIfInBounds_toArray, List.set_cons_zero, List.set_cons_succ]
    apply wpAnyH_take (i := 41)
    case hi => simp only [List.getElem?_toArray, List.getElem?_cons_succ, List.getElem?_cons_zero]; rfl
    case hs => kernel_rfl
    case hf => kernel_rfl
    case hr => kernel_rfl
    case hQ => exact fun _ _ _ h => h
    case hS => assumption
    case hy =>
      refine Or.inl ⟨by rfl, ?_⟩
      intro w hSw
      try dsimp only at hSw
      go_simp
      try with_reducible rfl
    simp only [Act.put, List.setIfInBounds_toArray, List.set_cons_zero, List.set_cons_succ]
    apply wpAnyH_take (i := 42)
    case hi => simp only [List.getElem?_toArray, List.getElem?_cons_succ, List.getElem?_cons_zero]; rfl
    case hs => kernel_rfl
    case hf => kernel_rfl
    case hr => kernel_rfl
    case hQ => exact fun _ _ _ h => h
    case hS => assumption
    case hy =>
      refine Or.inl ⟨by rfl, ?_⟩
      intro w hSw
      try dsimp only at hSw
      go_simp
      try with_reducible rfl
    simp only [Act.put, List.setIfInBounds_toArray, List.set_cons_zero, List.set_cons_succ]
    apply wpAnyH_take (i := 43)
    case hi => simp only [List.getElem?_toArray, List.getElem?_cons_succ, List.getElem?_cons_zero]; rfl
    case hs => kernel_rfl
    case hf => kernel_rfl
    case hr => kernel_rfl
    case hQ => exact fun _ _ _ h => h
    case hS => assumption
    case hy =>
      refine Or.inl ⟨by rfl, ?_⟩
      intro w hSw
      try dsimp only at hSw
      go_simp
      try with_reducible rfl
    simp only [Act.put, List.setIfInBounds_toArray, List.set_cons_zero, List.set_cons_succ]
    apply wpAnyH_take (i := 44)
    case hi => simp only [List.getElem?_toArray, List.getElem?_cons_succ, List.getElem?_cons_zero]; rfl
    case hs => kernel_rfl
    case hf => kernel_rfl
    case hr => kernel_rfl
    case hQ => exact fun _ _ _ h => h
    case hS => assumption
    case hy =>
      refine Or.inl ⟨by rfl, ?_⟩
      intro w hSw
      try dsimp only at hSw
      go_simp
      try with_reducible rfl
    simp only [Act.put, List.setIfInBounds_toArray, List.set_cons_zero, List.set_cons_succ]
    apply wpAnyH_take (i := 45)
    case hi => simp only [List.getElem?_toArray, List.getElem?_cons_succ, List.getElem?_cons_zero]; rfl
    case hs => kernel_rfl
    case hf => kernel_rfl
    case hr => kernel_rfl
    case hQ => exact fun _ _ _ h => h
    case hS => assumption
    case hy =>
      refine Or.inl ⟨by rfl, ?_⟩
      intro w hSw
      try dsimp only at hSw
      go_simp
      try with_reducible rfl
    simp only [Act.put, List.setIfInBounds_toArray, List.set_cons_zero, List.set_cons_succ]
    apply wpAnyH_take (i := 46)
    case hi => simp only [List.getElem?_toArray, List.getElem?_cons_succ, List.getElem?_cons_zero]; rfl
    case hs => kernel_rfl
    case hf => kernel_rfl
    case hr => kernel_rfl
    case hQ => exact fun _ _ _ h => h
    case hS => assumption
    case hy =>
      refine Or.inl ⟨by rfl, ?_⟩
      intro w hSw
      try dsimp only at hSw
      go_simp
      try with_reducible rfl
    simp only [Act.put, List.setIfInBounds_toArray, List.set_cons_zero, List.set_cons_succ]
    apply wpAnyH_take (i := 47)
    case hi => simp only [List.getElem?_toArray, List.getElem?_cons_succ, List.getElem?_cons_zero]; rfl
    case hs => kernel_rfl
    case hf => kernel_rfl
    case hr => kernel_rfl
    case hQ => exact fun _ _ _ h => h
    case hS => assumption
    case hy =>
      refine Or.inl ⟨by rfl, ?_⟩
      intro w hSw
      try dsimp only at hSw
      go_simp
      try with_reducible rfl
    simp only [Act.put, List.setIfInBounds_toArray, List.set_cons_zero, List.set_cons_succ]
    apply wpAnyH_take (i := 48)
    case hi => simp only [List.getElem?_toArray, List.getElem?_cons_succ, List.getElem?_cons_zero]; rfl
    case hs => kernel_rfl
    case hf => kernel_rfl
    case hr => kernel_rfl
    case hQ => exact fun _ _ _ h => h
    case hS => assumption
    case hy =>
      exact Or.inr ⟨by rfl, rfl⟩
    simp only [Act.put, List.setIfInBounds_toArray, List.set_cons_zero, List.set_cons_succ]
    apply wpAnyH_take (i := 49)
    case hi => simp only [List.getElem?_toArray, List.getElem?_cons_succ, List.getElem?_cons_zero]; rfl
    case hs => kernel_rfl
    case hf => kernel_rfl
    case hr => kernel_rfl
    case hQ => exact fun _ _ _ h => h
    case hS => assumption
    case hy =>
      exact Or.inr ⟨by rfl, rfl⟩
    simp only [Act.put, List.setIfInBounds_toArray, List.set_cons_zero, List.set_cons_succ]
    apply wpAnyH_take (i := 50)
    case hi => simp only [List.getElem?_toArray, List.getElem?_cons_succ, List.getElem?_cons_zero]; rfl
    case hs => kernel_rfl
    case hf => kernel_rfl
    case hr => kernel_rfl
    case hQ => exact fun _ _ _ h => h
    case hS => assumption
    case hy =>
      refine Or.inl ⟨by rfl, ?_⟩
      intro w hSw
      try dsimp only at hSw
      go_simp
      try with_reducible rfl
    simp only [Act.put, List.setIfInBounds_toArray, List.set_cons_zero, List.set_cons_succ]
    apply wpAnyH_take (i := 51)
    case hi => simp only [List.getElem?_toArray, List.getElem?_cons_succ, List.getElem?_cons_zero]; rfl
    case hs => kernel_rfl
    case hf => kernel_rfl
    case hr => kernel_rfl
    case hQ => exact fun _ _ _ h => h
    case hS => assumption
    case hy =>
      refine Or.inl ⟨by rfl, ?_⟩
      intro w hSw
      try dsimp only at hSw
      go_simp
      try with_reducible rfl
    simp only [Act.put, List.setIfInBounds_toArray, List.set_cons_zero, List.set_cons_succ]
    refine wpAnyH_done (by kernel_rfl) ?_ _
    -- END-A
    have hB8 : Below w.heap.size w w7 := Below.andThen s4.1 hB7
    have Hcells7 : Hid (∀ (i y : Nat), L[i]? = some y → w7.cell? ⟨g, i, none⟩ = some (.int .i64 (y : Int))) := Lib.hid (fun i y hi => (hB7.cell (p := ⟨g, i, none⟩) Hlt.out.2).trans (Hcells.out i y hi))
    have Hlen : Hid (∀ i y, L[i]? = some y → y < 65536) := Lib.hid (fun i y hiy => by
      have hm : y ∈ Mk.left k fi hi := by rw [V.out.1]; exact List.mem_of_getElem? hiy
      have := (Mk.has_iff.1 (Mk.mem_left.1 hm)).1
      have := pow16 B.out.2.1
      omega)
    clear z5 z6 z7 hc0 q0 q1 q2 hb4 hb5 hb6 hb7 hB5 hB6 hB7 s3 s4 hl0 hl1
    go_wp2_with fail
    go_loop [10] (fun i => ∃ j : Nat, j ≤ L.length ∧ i = .int .i64 j ∧ ∀ (q y : Nat), q < j → L[q]? = some y → ¬ a < (y : Int)) (fun i => L.length - (intOf i).toNat)
    case atStart => exact ⟨0, Nat.zero_le _, rfl, fun q y hq => absurd hq (by omega)⟩
    case round =>
      obtain ⟨j, hj, rfl, hno⟩ := hrel
      have Hno := Lib.hid hno
      clear hno
      by_cases hj2 : j < L.length
      · obtain ⟨y, hy⟩ := get_lt hj2
        have hcell := Hcells7.out j y hy
        have hyb := Hlen.out j y hy
        have Hy := Lib.hid hy
        clear hy
        by_cases c : a < (y : Int)
        · have ho : o = some y := by rw [← V.out.2.2.1]; unfold nextI; rw [V.out.1]; exact find_at Hno.out Hy.out c
          obtain rfl : os = true := by rw [← HO.out.2, ho]; rfl
          obtain rfl : oi = y := by rw [← HO.out.1, ho]; rfl
          clear ho
          have d1 : decide (a < (oi : Int)) = true := decide_eq_true c
          clear c
          go_wp2_with fail
          go_ret
          exact ⟨ret_bool (by simp), hB8⟩
        · have d1 : decide (a < (y : Int)) = false := decide_eq_false c
          have Hc := Lib.hid c
          clear c
          go_wp2_with fail
          go_round
          case rel =>
            refine ⟨j + 1, by omega, by go_num, fun q z hq hz => ?_⟩
            rcases Nat.lt_succ_iff_lt_or_eq.1 hq with e | rfl
            · exact Hno.out q z e hz
            · have h := Hy.out
              rw [hz] at h
              cases h
              exact Hc.out
          case measure => simp [intOf]; omega
      · have ho : o = none := by
          rw [← V.out.2.2.1]
          unfold nextI
          rw [V.out.1]
          exact find_none fun q z hz => Hno.out q z (by have := lt_get hz; omega) hz
        obtain rfl : os = false := by rw [← HO.out.2, ho]; rfl
        obtain rfl : oi = 0 := by rw [← HO.out.1, ho]; rfl
        clear ho
        go_wp2_with fail
        go_ret
        exact ⟨rfl, hB8⟩
  · have hLe : L = [] := hNH.out.1.2 rfl
    have hfi : fi = 0 := V.out.2.2.2.2.symm
    have ho : o = none := by rw [← V.out.2.2.1]; unfold nextI; rw [V.out.1, hLe]; rfl
    obtain rfl : os = false := by rw [← HO.out.2, ho]; rfl
    obtain rfl : oi = 0 := by rw [← HO.out.1, ho]; rfl
    obtain ⟨A4, c4, hv⟩ : ∃ A4 c4, v4 = .slice A4 0 c4 := by
      rcases own4.2 with ⟨hv, _⟩ | ⟨g, cap, cur, hv, _⟩
      · exact ⟨none, 0, hv⟩
      · exact ⟨_, cap, by rw [hv, hLe]; rfl⟩
    subst hv hfi
    have HLe := Lib.hid hLe
    clear own4 ho hLe
    go_wp2_with fail
    have hrr : (true != true) = false := rfl
    have hxx : (x != x) = false := by simp
    have Hq : Hid (w4.cell? ⟨w.heap.size, 0, none⟩ = some (.int .i64 (k : Int)) ∧ w4.cell? ⟨w.heap.size, 1, none⟩ = some (.int .i64 (lo : Int)) ∧ w4.cell? ⟨w.heap.size, 2, none⟩ = some (.int .i64 (hi : Int))) := Lib.hid ⟨q0, q1, q2⟩
    have Hlt : Hid (w.heap.size < w4.heap.size) := Lib.hid (World.block_lt_of_cell? w4 ⟨w.heap.size, 0, none⟩ q0)
    have hcnt0 : Hid (∀ wx, Calls Try.prog 17 #[maskV (k : Int) (lo : Int) (hi : Int)] wx fun e w' => e = .returned (.int .i64 0) ∧ Below wx.heap.size wx w') := Lib.hid (fun wx => hcnt.out wx 0 (by rw [HLe.out]; rfl) B.out.1 B.out.2.2.2.2.2.1 B.out.2.2.1 B.out.2.2.2.1)
    -- REGION-B
    refine wp_region_held_drew (S := fun w' => (w'.cell? ⟨w.heap.size, 0, none⟩ = some (.int .i64 (k : Int)) ∧ w'.cell? ⟨w.heap.size, 1, none⟩ = some (.int .i64 (lo : Int)) ∧ w'.cell? ⟨w.heap.size, 2, none⟩ = some (.int .i64 (hi : Int)))) (by kernel_rfl) Hq.out (fun hHeld => ?_)
    apply wpAnyH_take (i := 0)
    case hi => simp only [List.getElem?_toArray, List.getElem?_cons_succ, List.getElem?_cons_zero]; rfl
    case hs => kernel_rfl
    case hf => kernel_rfl
    case hr => kernel_rfl
    case hQ => exact fun _ _ _ h => h
    case hS => assumption
    case hy =>
      refine Or.inl ⟨by rfl, ?_⟩
      intro w hSw
      try dsimp only at hSw
      go_simp
      try with_reducible rfl
    simp only [Act.put, List.setIfInBounds_toArray, List.set_cons_zero, List.set_cons_succ]
    apply wpAnyH_take (i := 2)
    case hi => simp only [List.getElem?_toArray, List.getElem?_cons_succ, List.getElem?_cons_zero]; rfl
    case hs => kernel_rfl
    case hf => kernel_rfl
    case hr => kernel_rfl
    case hQ => exact fun _ _ _ h => h
    case hS => assumption
    case hy =>
      refine Or.inl ⟨by rfl, ?_⟩
      intro w hSw
      try dsimp only at hSw
      go_simp
      try with_reducible rfl
    simp only [Act.put, List.setIfInBounds_toArray, List.set_cons_zero, List.set_cons_succ]
    apply wpAnyH_take (i := 3)
    case hi => simp only [List.getElem?_toArray, List.getElem?_cons_succ, List.getElem?_cons_zero]; rfl
    case hs => kernel_rfl
    case hf => kernel_rfl
    case hr => kernel_rfl
    case hQ => exact fun _ _ _ h => h
    case hS => assumption
    case hy =>
      refine Or.inl ⟨by rfl, ?_⟩
      intro w hSw
      try dsimp only at hSw
      go_simp
      try with_reducible rfl
    simp only [Act.put, List.setIfInBounds_toArray, List.set_cons_zero, List.set_cons_succ]
    apply wpAnyH_take (i := 4)
    case hi => simp only [List.getElem?_toArray, List.getElem?_cons_succ, List.getElem?_cons_zero]; rfl
    case hs => kernel_rfl
    case hf => kernel_rfl
    case hr => kernel_rfl
    case hQ => exact fun _ _ _ h => h
    case hS => assumption
    case hy =>
      refine Or.inl ⟨by rfl, ?_⟩
      intro w hSw
      try dsimp only at hSw
      go_simp
      try with_reducible rfl
    simp only [Act.put, List.setIfInBounds_toArray, List.set_cons_zero, List.set_cons_succ]
    refine wpAnyH_ready (rs := [1]) (by kernel_rfl) (by simp) ?_
    apply AllReadyH.cons
    case ho => simp only [List.getElem?_toArray, List.getElem?_cons_succ, List.getElem?_cons_zero]; rfl
    case hs => exact AllReadyH.nil
    intro K hK
    go_simp
    refine (mnone_yes k lo hi _ true V.out.2.1 B.out.1 B.out.2.1 B.out.2.2.1 B.out.2.2.2.1).mono ?_
    rintro e w5 ⟨rfl, hb5⟩
    have hB5 := Below.andThen (Below.refl w4.heap.size w4).drew hb5
    have z5 := mcells3 Hq.out hB5 Hlt.out
    go_wp2_with fail
    refine hK.out _ _ z5 (fun hHeld => ?_)
    clear hK K
    apply wpAnyH_take (i := 5)
    case hi => simp only [List.getElem?_toArray, List.getElem?_cons_succ, List.getElem?_cons_zero]; rfl
    case hs => kernel_rfl
    case hf => kernel_rfl
    case hr => kernel_rfl
    case hQ => exact fun _ _ _ h => h
    case hS => assumption
    case hy =>
      refine Or.inl ⟨by rfl, ?_⟩
      intro w hSw
      try dsimp only at hSw
      go_simp
      try with_reducible rfl
    simp only [Act.put, List.setIfInBounds_toArray, List.set_cons_zero, List.set_cons_succ]
    apply wpAnyH_take (i := 6)
    case hi => simp only [List.getElem?_toArray, List.getElem?_cons_succ, List.getElem?_cons_zero]; rfl
    case hs => kernel_rfl
    case hf => kernel_rfl
    case hr => kernel_rfl
    case hQ => exact fun _ _ _ h => h
    case hS => assumption
    case hy =>
      refine Or.inl ⟨by rfl, ?_⟩
      intro w hSw
      try dsimp only at hSw
      go_simp
      try with_reducible rfl
    simp only [Act.put, List.setIfInBounds_toArray, List.set_cons_zero, List.set_cons_succ]
    apply wpAnyH_take (i := 7)
    case hi => simp only [List.getElem?_toArray, List.getElem?_cons_succ, List.getElem?_cons_zero]; rfl
    case hs => kernel_rfl
    case hf => kernel_rfl
    case hr => kernel_rfl
    case hQ => exact fun _ _ _ h => h
    case hS => assumption
    case hy =>
      refine Or.inl ⟨by rfl, ?_⟩
      intro w hSw
      try dsimp only at hSw
      go_simp
      try with_reducible rfl
    simp only [Act.put, List.setIfInBounds_toArray, List.set_cons_zero, List.set_cons_succ]
    apply wpAnyH_take (i := 9)
    case hi => simp only [List.getElem?_toArray, List.getElem?_cons_succ, List.getElem?_cons_zero]; rfl
    case hs => kernel_rfl
    case hf => kernel_rfl
    case hr => kernel_rfl
    case hQ => exact fun _ _ _ h => h
    case hS => assumption
    case hy =>
      refine Or.inl ⟨by rfl, ?_⟩
      intro w hSw
      try dsimp only at hSw
      go_simp
      try with_reducible rfl
    simp only [Act.put, List.setIfInBounds_toArray, List.set_cons_zero, List.set_cons_succ]
    apply wpAnyH_take (i := 10)
    case hi => simp only [List.getElem?_toArray, List.getElem?_cons_succ, List.getElem?_cons_zero]; rfl
    case hs => kernel_rfl
    case hf => kernel_rfl
    case hr => kernel_rfl
    case hQ => exact fun _ _ _ h => h
    case hS => assumption
    case hy =>
      refine Or.inl ⟨by rfl, ?_⟩
      intro w hSw
      try dsimp only at hSw
      go_simp
      try with_reducible rfl
    simp only [Act.put, List.setIfInBounds_toArray, List.set_cons_zero, List.set_cons_succ]
    refine wpAnyH_ready (rs := [8]) (by kernel_rfl) (by simp) ?_
    apply AllReadyH.cons
    case ho => simp only [List.getElem?_toArray, List.getElem?_cons_succ, List.getElem?_cons_zero]; rfl
    case hs => exact AllReadyH.nil
    intro K hK
    go_simp
    refine (hcnt0.out _).mono ?_
    rintro e w6 ⟨rfl, hb6⟩
    have hB6 := Below.andThen hB5 hb6
    have z6 := mcells3 Hq.out hB6 Hlt.out
    go_wp2_with fail
    refine hK.out _ _ z6 (fun hHeld => ?_)
    clear hK K
    apply wpAnyH_take (i := 11)
    case hi => simp only [List.getElem?_toArray, List.getElem?_cons_succ, List.getElem?_cons_zero]; rfl
    case hs => kernel_rfl
    case hf => kernel_rfl
    case hr => kernel_rfl
    case hQ => exact fun _ _ _ h => h
    case hS => assumption
    case hy =>
      refine Or.inl ⟨by rfl, ?_⟩
      intro w hSw
      try dsimp only at hSw
      go_simp
      try with_reducible rfl
    simp only [Act.put, List.setIfInBounds_toArray, List.set_cons_zero, List.set_cons_succ]
    apply wpAnyH_take (i := 12)
    case hi => simp only [List.getElem?_toArray, List.getElem?_cons_succ, List.getElem?_cons_zero]; rfl
    case hs => kernel_rfl
    case hf => kernel_rfl
    case hr => kernel_rfl
    case hQ => exact fun _ _ _ h => h
    case hS => assumption
    case hy =>
      refine Or.inl ⟨by rfl, ?_⟩
      intro w hSw
      try dsimp only at hSw
      go_simp
      try with_reducible rfl
    simp only [Act.put, List.setIfInBounds_toArray, List.set_cons_zero, List.set_cons_succ]
    apply wpAnyH_take (i := 13)
    case hi => simp only [List.getElem?_toArray, List.getElem?_cons_succ, List.getElem?_cons_zero]; rfl
    case hs => kernel_rfl
    case hf => kernel_rfl
    case hr => kernel_rfl
    case hQ => exact fun _ _ _ h => h
    case hS => assumption
    case hy =>
      refine Or.inl ⟨by rfl, ?_⟩
      intro w hSw
      try dsimp only at hSw
      go_simp
      try with_reducible rfl
    simp only [Act.put, List.setIfInBounds_toArray, List.set_cons_zero, List.set_cons_succ]
    apply wpAnyH_take (i := 14)
    case hi => simp only [List.getElem?_toArray, List.getElem?_cons_succ, List.getElem?_cons_zero]; rfl
    case hs => kernel_rfl
    case hf => kernel_rfl
    case hr => kernel_rfl
    case hQ => exact fun _ _ _ h => h
    case hS => assumption
    case hy =>
      refine Or.inl ⟨by rfl, ?_⟩
      intro w hSw
      try dsimp only at hSw
      go_simp
      try with_reducible rfl
    simp only [Act.put, List.setIfInBounds_toArray, List.set_cons_zero, List.set_cons_succ]
    apply wpAnyH_take (i := 15)
    case hi => simp only [List.getElem?_toArray, List.getElem?_cons_succ, List.getElem?_cons_zero]; rfl
    case hs => kernel_rfl
    case hf => kernel_rfl
    case hr => kernel_rfl
    case hQ => exact fun _ _ _ h => h
    case hS => assumption
    case hy =>
      refine Or.inl ⟨by rfl, ?_⟩
      intro w hSw
      try dsimp only at hSw
      go_simp
      try with_reducible rfl
    simp only [Act.put, List.setIfInBounds_toArray, List.set_cons_zero, List.set_cons_succ]
    apply wpAnyH_take (i := 17)
    case hi => simp only [List.getElem?_toArray, List.getElem?_cons_succ, List.getElem?_cons_zero]; rfl
    case hs => kernel_rfl
    case hf => kernel_rfl
    case hr => kernel_rfl
    case hQ => exact fun _ _ _ h => h
    case hS => assumption
    case hy =>
      refine Or.inl ⟨by rfl, ?_⟩
      intro w hSw
      try dsimp only at hSw
      go_simp
      try with_reducible rfl
    simp only [Act.put, List.setIfInBounds_toArray, List.set_cons_zero, List.set_cons_succ]
    apply wpAnyH_take (i := 18)
    case hi => simp only [List.getElem?_toArray, List.getElem?_cons_succ, List.getElem?_cons_zero]; rfl
    case hs => kernel_rfl
    case hf => kernel_rfl
    case hr => kernel_rfl
    case hQ => exact fun _ _ _ h => h
    case hS => assumption
    case hy =>
      refine Or.inl ⟨by rfl, ?_⟩
      intro w hSw
      try dsimp only at hSw
      go_simp
      try with_reducible rfl
    simp only [Act.put, List.setIfInBounds_toArray, List.set_cons_zero, List.set_cons_succ]
    apply wpAnyH_take (i := 19)
    case hi => simp only [List.getElem?_toArray, List.getElem?_cons_succ, List.getElem?_cons_zero]; rfl
    case hs => kernel_rfl
    case hf => kernel_rfl
    case hr => kernel_rfl
    case hQ => exact fun _ _ _ h => h
    case hS => assumption
    case hy =>
      refine Or.inl ⟨by rfl, ?_⟩
      intro w hSw
      try dsimp only at hSw
      go_simp
      try with_reducible rfl
    simp only [Act.put, List.setIfInBounds_toArray, List.set_cons_zero, List.set_cons_succ]
    apply wpAnyH_take (i := 20)
    case hi => simp only [List.getElem?_toArray, List.getElem?_cons_succ, List.getElem?_cons_zero]; rfl
    case hs => kernel_rfl
    case hf => kernel_rfl
    case hr => kernel_rfl
    case hQ => exact fun _ _ _ h => h
    case hS => assumption
    case hy =>
      refine Or.inl ⟨by rfl, ?_⟩
      intro w hSw
      try dsimp only at hSw
      go_simp
      try with_reducible rfl
    simp only [Act.put, List.setIfInBounds_toArray, List.set_cons_zero, List.set_cons_succ]
    apply wpAnyH_take (i := 21)
    case hi => simp only [List.getElem?_toArray, List.getElem?_cons_succ, List.getElem?_cons_zero]; rfl
    case hs => kernel_rfl
    case hf => kernel_rfl
    case hr => kernel_rfl
    case hQ => exact fun _ _ _ h => h
    case hS => assumption
    case hy =>
      refine Or.inl ⟨by rfl, ?_⟩
      intro w hSw
      try dsimp only at hSw
      go_simp
      try with_reducible rfl
    simp only [Act.put, List.setIfInBounds_toArray, List.set_cons_zero, List.set_cons_succ]
    apply wpAnyH_take (i := 22)
    case hi => simp only [List.getElem?_toArray, List.getElem?_cons_succ, List.getElem?_cons_zero]; rfl
    case hs => kernel_rfl
    case hf => kernel_rfl
    case hr => kernel_rfl
    case hQ => exact fun _ _ _ h => h
    case hS => assumption
    case hy =>
      refine Or.inl ⟨by rfl, ?_⟩
      intro w hSw
      try dsimp only at hSw
      go_simp
      try with_reducible rfl
    simp only [Act.put, List.setIfInBounds_toArray, List.set_cons_zero, List.set_cons_succ]
    apply wpAnyH_take (i := 23)
    case hi => simp only [List.getElem?_toArray, List.getElem?_cons_succ, List.getElem?_cons_zero]; rfl
    case hs => kernel_rfl
    case hf => kernel_rfl
    case hr => kernel_rfl
    case hQ => exact fun _ _ _ h => h
    case hS => assumption
    case hy =>
      refine Or.inl ⟨by rfl, ?_⟩
      intro w hSw
      try dsimp only at hSw
      go_simp
      try with_reducible rfl
    simp only [Act.put, List.setIfInBounds_toArray, List.set_cons_zero, List.set_cons_succ]
    refine wpAnyH_ready (rs := [16]) (by kernel_rfl) (by simp) ?_
    apply AllReadyH.cons
    case ho => simp only [List.getElem?_toArray, List.getElem?_cons_succ, List.getElem?_cons_zero]; rfl
    case hs => exact AllReadyH.nil
    intro K hK
    go_simp
    refine (mhas_yes k lo hi a _ x V.out.2.2.2.1 B.out.1 B.out.2.1 B.out.2.2.1 B.out.2.2.2.1 B.out.2.2.2.2.1).mono ?_
    rintro e w7 ⟨rfl, hb7⟩
    have hB7 := Below.andThen hB6 hb7
    have z7 := mcells3 Hq.out hB7 Hlt.out
    go_wp2_with fail
    refine hK.out _ _ z7 (fun hHeld => ?_)
    clear hK K
    refine wpAnyH_ready (rs := [24]) (by kernel_rfl) (by simp) ?_
    apply AllReadyH.cons
    case ho => simp only [List.getElem?_toArray, List.getElem?_cons_succ, List.getElem?_cons_zero]; rfl
    case hs => exact AllReadyH.nil
    intro K hK
    go_simp
    refine (r4has_c k lo hi a _ x V.out.2.2.2.1 B.out.1 B.out.2.1 B.out.2.2.1 B.out.2.2.2.1 B.out.2.2.2.2.1).mono ?_
    rintro e w' ⟨rfl, rfl⟩
    go_wp2_with fail
    refine hK.out _ _ z7 (fun hHeld => ?_)
    clear hK K
    apply wpAnyH_take (i := 25)
    case hi => simp only [List.getElem?_toArray, List.getElem?_cons_succ, List.getElem?_cons_zero]; rfl
    case hs => kernel_rfl
    case hf => kernel_rfl
    case hr => kernel_rfl
    case hQ => exact fun _ _ _ h => h
    case hS => assumption
    case hy =>
      refine Or.inl ⟨by rfl, ?_⟩
      intro w hSw
      try dsimp only at hSw
      go_simp
      try with_reducible rfl
    simp only [Act.put, List.setIfInBounds_toArray, List.set_cons_zero, List.set_cons_succ]
    apply wpAnyH_take (i := 26)
    case hi => simp only [List.getElem?_toArray, List.getElem?_cons_succ, List.getElem?_cons_zero]; rfl
    case hs => kernel_rfl
    case hf => kernel_rfl
    case hr => kernel_rfl
    case hQ => exact fun _ _ _ h => h
    case hS => assumption
    case hy =>
      refine Or.inl ⟨by rfl, ?_⟩
      intro w hSw
      try dsimp only at hSw
      go_simp
      try with_reducible rfl
    simp only [Act.put, List.setIfInBounds_toArray, List.set_cons_zero, List.set_cons_succ]
    apply wpAnyH_take (i := 27)
    case hi => simp only [List.getElem?_toArray, List.getElem?_cons_succ, List.getElem?_cons_zero]; rfl
    case hs => kernel_rfl
    case hf => kernel_rfl
    case hr => kernel_rfl
    case hQ => exact fun _ _ _ h => h
    case hS => assumption
    case hy =>
      refine Or.inl ⟨by rfl, ?_⟩
      intro w hSw
      try dsimp only at hSw
      go_simp
      try with_reducible rfl
    simp only [Act.put, List.setIfInBounds_toArray, List.set_cons_zero, List.set_cons_succ]
    apply wpAnyH_take (i := 28)
    case hi => simp only [List.getElem?_toArray, List.getElem?_cons_succ, List.getElem?_cons_zero]; rfl
    case hs => kernel_rfl
    case hf => kernel_rfl
    case hr => kernel_rfl
    case hQ => exact fun _ _ _ h => h
    case hS => assumption
    case hy =>
      refine Or.inl ⟨by rfl, ?_⟩
      intro w hSw
      try dsimp only at hSw
      go_simp
      try with_reducible rfl
    simp only [Act.put, List.setIfInBounds_toArray, List.set_cons_zero, List.set_cons_succ]
    apply wpAnyH_take (i := 29)
    case hi => simp only [List.getElem?_toArray, List.getElem?_cons_succ, List.getElem?_cons_zero]; rfl
    case hs => kernel_rfl
    case hf => kernel_rfl
    case hr => kernel_rfl
    case hQ => exact fun _ _ _ h => h
    case hS => assumption
    case hy =>
      refine Or.inl ⟨by rfl, ?_⟩
      intro w hSw
      try dsimp only at hSw
      go_simp
      try with_reducible rfl
    simp only [Act.put, List.setIfInBounds_toArray, List.set_cons_zero, List.set_cons_succ]
    apply wpAnyH_take (i := 30)
    case hi => simp only [List.getElem?_toArray, List.getElem?_cons_succ, List.getElem?_cons_zero]; rfl
    case hs => kernel_rfl
    case hf => kernel_rfl
    case hr => kernel_rfl
    case hQ => exact fun _ _ _ h => h
    case hS => assumption
    case hy =>
      refine Or.inl ⟨by rfl, ?_⟩
      intro w hSw
      try dsimp only at hSw
      go_simp
      try with_reducible rfl
    simp only [Act.put, List.setIfInBounds_toArray, List.set_cons_zero, List.set_cons_succ]
    apply wpAnyH_take (i := 31)
    case hi => simp only [List.getElem?_toArray, List.getElem?_cons_succ, List.getElem?_cons_zero]; rfl
    case hs => kernel_rfl
    case hf => kernel_rfl
    case hr => kernel_rfl
    case hQ => exact fun _ _ _ h => h
    case hS => assumption
    case hy =>
      refine Or.inl ⟨by rfl, ?_⟩
      intro w hSw
      try dsimp only at hSw
      go_simp
      try with_reducible rfl
    simp only [Act.put, List.setIfInBounds_toArray, List.set_cons_zero, List.set_cons_succ]
    apply wpAnyH_take (i := 32)
    case hi => simp only [List.getElem?_toArray, List.getElem?_cons_succ, List.getElem?_cons_zero]; rfl
    case hs => kernel_rfl
    case hf => kernel_rfl
    case hr => kernel_rfl
    case hQ => exact fun _ _ _ h => h
    case hS => assumption
    case hy =>
      refine Or.inl ⟨by rfl, ?_⟩
      intro w hSw
      try dsimp only at hSw
      go_simp
      try with_reducible rfl
    simp only [Act.put, List.setIfInBounds_toArray, List.set_cons_zero, List.set_cons_succ]
    apply wpAnyH_take (i := 33)
    case hi => simp only [List.getElem?_toArray, List.getElem?_cons_succ, List.getElem?_cons_zero]; rfl
    case hs => kernel_rfl
    case hf => kernel_rfl
    case hr => kernel_rfl
    case hQ => exact fun _ _ _ h => h
    case hS => assumption
    case hy =>
      refine Or.inl ⟨by rfl, ?_⟩
      intro w hSw
      try dsimp only at hSw
      go_simp
      try with_reducible rfl
    simp only [Act.put, List.setIfInBounds_toArray, List.set_cons_zero, List.set_cons_succ]
    apply wpAnyH_take (i := 34)
    case hi => simp only [List.getElem?_toArray, List.getElem?_cons_succ, List.getElem?_cons_zero]; rfl
    case hs => kernel_rfl
    case hf => kernel_rfl
    case hr => kernel_rfl
    case hQ => exact fun _ _ _ h => h
    case hS => assumption
    case hy =>
      refine Or.inl ⟨by rfl, ?_⟩
      intro w hSw
      try dsimp only at hSw
      go_simp
      try with_reducible rfl
    simp only [Act.put, List.setIfInBounds_toArray, List.set_cons_zero, List.set_cons_succ]
    apply wpAnyH_take (i := 35)
    case hi => simp only [List.getElem?_toArray, List.getElem?_cons_succ, List.getElem?_cons_zero]; rfl
    case hs => kernel_rfl
    case hf => kernel_rfl
    case hr => kernel_rfl
    case hQ => exact fun _ _ _ h => h
    case hS => assumption
    case hy =>
      refine Or.inl ⟨by rfl, ?_⟩
      intro w hSw
      try dsimp only at hSw
      go_simp
      try with_reducible rfl
    simp only [Act.put, List.setIfInBounds_toArray, List.set_cons_zero, List.set_cons_succ]
    apply wpAnyH_take (i := 36)
    case hi => simp only [List.getElem?_toArray, List.getElem?_cons_succ, List.getElem?_cons_zero]; rfl
    case hs => kernel_rfl
    case hf => kernel_rfl
    case hr => kernel_rfl
    case hQ => exact fun _ _ _ h => h
    case hS => assumption
    case hy =>
      refine Or.inl ⟨by rfl, ?_⟩
      intro w hSw
      try dsimp only at hSw
      go_simp
      try with_reducible rfl
    simp only [Act.put, List.setIfInBounds_toArray, List.set_cons_zero, List.set_cons_succ]
    apply wpAnyH_take (i := 37)
    case hi => simp only [List.getElem?_toArray, List.getElem?_cons_succ, List.getElem?_cons_zero]; rfl
    case hs => kernel_rfl
    case hf => kernel_rfl
    case hr => kernel_rfl
    case hQ => exact fun _ _ _ h => h
    case hS => assumption
    case hy =>
      exact Or.inr ⟨by rfl, rfl⟩
    simp only [Act.put, List.setIfInBounds_toArray, List.set_cons_zero, List.set_cons_succ]
    apply wpAnyH_take (i := 38)
    case hi => simp only [List.getElem?_toArray, List.getElem?_cons_succ, List.getElem?_cons_zero]; rfl
    case hs => kernel_rfl
    case hf => kernel_rfl
    case hr => kernel_rfl
    case hQ => exact fun _ _ _ h => h
    case hS => assumption
    case hy =>
      exact Or.inr ⟨by rfl, rfl⟩
    simp only [Act.put, List.setIfInBounds_toArray, List.set_cons_zero, List.set_cons_succ]
    apply wpAnyH_take (i := 39)
    case hi => simp only [List.getElem?_toArray, List.getElem?_cons_succ, List.getElem?_cons_zero]; rfl
    case hs => kernel_rfl
    case hf => kernel_rfl
    case hr => kernel_rfl
    case hQ => exact fun _ _ _ h => h
    case hS => assumption
    case hy =>
      exact Or.inr ⟨by rfl, rfl⟩
    simp only [Act.put, List.setIfInBounds_toArray, List.set_cons_zero, List.set_cons_succ]
    apply wpAnyH_take (i := 40)
    case hi => simp only [List.getElem?_toArray, List.getElem?_cons_succ, List.getElem?_cons_zero]; rfl
    case hs => kernel_rfl
    case hf => kernel_rfl
    case hr => kernel_rfl
    case hQ => exact fun _ _ _ h => h
    case hS => assumption
    case hy =>
      exact Or.inr ⟨by rfl, rfl⟩
    simp only [Act.put, List.setIfInBounds_toArray, List.set_cons_zero, List.set_cons_succ]
    apply wpAnyH_take (i := 41)
    case hi => simp only [List.getElem?_toArray, List.getElem?_cons_succ, List.getElem?_cons_zero]; rfl
    case hs => kernel_rfl
    case hf => kernel_rfl
    case hr => kernel_rfl
    case hQ => exact fun _ _ _ h => h
    case hS => assumption
    case hy =>
      exact Or.inr ⟨by rfl, rfl⟩
    simp only [Act.put, List.setIfInBounds_toArray, List.set_cons_zero, List.set_cons_succ]
    apply wpAnyH_take (i := 42)
    case hi => simp only [List.getElem?_toArray, List.getElem?_cons_succ, List.getElem?_cons_zero]; rfl
    case hs => kernel_rfl
    case hf => kernel_rfl
    case hr => kernel_rfl
    case hQ => exact fun _ _ _ h => h
    case hS => assumption
    case hy =>
      refine Or.inl ⟨by rfl, ?_⟩
      intro w hSw
      try dsimp only at hSw
      go_simp
      try with_reducible rfl
    simp only [Act.put, List.setIfInBounds_toArray, List.set_cons_zero, List.set_cons_succ]
    apply wpAnyH_take (i := 43)
    case hi => simp only [List.getElem?_toArray, List.getElem?_cons_succ, List.getElem?_cons_zero]; rfl
    case hs => kernel_rfl
    case hf => kernel_rfl
    case hr => kernel_rfl
    case hQ => exact fun _ _ _ h => h
    case hS => assumption
    case hy =>
      refine Or.inl ⟨by rfl, ?_⟩
      intro w hSw
      try dsimp only at hSw
      go_simp
      try with_reducible rfl
    simp only [Act.put, List.setIfInBounds_toArray, List.set_cons_zero, List.set_cons_succ]
    apply wpAnyH_take (i := 44)
    case hi => simp only [List.getElem?_toArray, List.getElem?_cons_succ, List.getElem?_cons_zero]; rfl
    case hs => kernel_rfl
    case hf => kernel_rfl
    case hr => kernel_rfl
    case hQ => exact fun _ _ _ h => h
    case hS => assumption
    case hy =>
      refine Or.inl ⟨by rfl, ?_⟩
      intro w hSw
      try dsimp only at hSw
      go_simp
      try with_reducible rfl
    simp only [Act.put, List.setIfInBounds_toArray, List.set_cons_zero, List.set_cons_succ]
    apply wpAnyH_take (i := 45)
    case hi => simp only [List.getElem?_toArray, List.getElem?_cons_succ, List.getElem?_cons_zero]; rfl
    case hs => kernel_rfl
    case hf => kernel_rfl
    case hr => kernel_rfl
    case hQ => exact fun _ _ _ h => h
    case hS => assumption
    case hy =>
      refine Or.inl ⟨by rfl, ?_⟩
      intro w hSw
      try dsimp only at hSw
      go_simp
      try with_reducible rfl
    simp only [Act.put, List.setIfInBounds_toArray, List.set_cons_zero, List.set_cons_succ]
    apply wpAnyH_take (i := 46)
    case hi => simp only [List.getElem?_toArray, List.getElem?_cons_succ, List.getElem?_cons_zero]; rfl
    case hs => kernel_rfl
    case hf => kernel_rfl
    case hr => kernel_rfl
    case hQ => exact fun _ _ _ h => h
    case hS => assumption
    case hy =>
      refine Or.inl ⟨by rfl, ?_⟩
      intro w hSw
      try dsimp only at hSw
      go_simp
      try with_reducible rfl
    simp only [Act.put, List.setIfInBounds_toArray, List.set_cons_zero, List.set_cons_succ]
    apply wpAnyH_take (i := 47)
    case hi => simp only [List.getElem?_toArray, List.getElem?_cons_succ, List.getElem?_cons_zero]; rfl
    case hs => kernel_rfl
    case hf => kernel_rfl
    case hr => kernel_rfl
    case hQ => exact fun _ _ _ h => h
    case hS => assumption
    case hy =>
      refine Or.inl ⟨by rfl, ?_⟩
      intro w hSw
      try dsimp only at hSw
      go_simp
      try with_reducible rfl
    simp only [Act.put, List.setIfInBounds_toArray, List.set_cons_zero, List.set_cons_succ]
    apply wpAnyH_take (i := 48)
    case hi => simp only [List.getElem?_toArray, List.getElem?_cons_succ, List.getElem?_cons_zero]; rfl
    case hs => kernel_rfl
    case hf => kernel_rfl
    case hr => kernel_rfl
    case hQ => exact fun _ _ _ h => h
    case hS => assumption
    case hy =>
      refine Or.inl ⟨by rfl, ?_⟩
      intro w hSw
      try dsimp only at hSw
      go_simp
      try with_reducible rfl
    simp only [Act.put, List.setIfInBounds_toArray, List.set_cons_zero, List.set_cons_succ]
    apply wpAnyH_take (i := 49)
    case hi => simp only [List.getElem?_toArray, List.getElem?_cons_succ, List.getElem?_cons_zero]; rfl
    case hs => kernel_rfl
    case hf => kernel_rfl
    case hr => kernel_rfl
    case hQ => exact fun _ _ _ h => h
    case hS => assumption
    case hy =>
      refine Or.inl ⟨by rfl, ?_⟩
      intro w hSw
      try dsimp only at hSw
      go_simp
      try with_reducible rfl
    simp only [Act.put, List.setIfInBounds_toArray, List.set_cons_zero, List.set_cons_succ]
    apply wpAnyH_take (i := 50)
    case hi => simp only [List.getElem?_toArray, List.getElem?_cons_succ, List.getElem?_cons_zero]; rfl
    case hs => kernel_rfl
    case hf => kernel_rfl
    case hr => kernel_rfl
    case hQ => exact fun _ _ _ h => h
    case hS => assumption
    case hy =>
      refine Or.inl ⟨by rfl, ?_⟩
      intro w hSw
      try dsimp only at hSw
      go_simp
      try with_reducible rfl
    simp only [Act.put, List.setIfInBounds_toArray, List.set_cons_zero, List.set_cons_succ]
    apply wpAnyH_take (i := 51)
    case hi => simp only [List.getElem?_toArray, List.getElem?_cons_succ, List.getElem?_cons_zero]; rfl
    case hs => kernel_rfl
    case hf => kernel_rfl
    case hr => kernel_rfl
    case hQ => exact fun _ _ _ h => h
    case hS => assumption
    case hy =>
      refine Or.inl ⟨by rfl, ?_⟩
      intro w hSw
      try dsimp only at hSw
      go_simp
      try with_reducible rfl
    simp only [Act.put, List.setIfInBounds_toArray, List.set_cons_zero, List.set_cons_succ]
    refine wpAnyH_done (by kernel_rfl) ?_ _
    -- END-B
    have hB8 : Below w.heap.size w w7 := Below.andThen s4.1 hB7
    clear z5 z6 z7 q0 q1 q2 hb4 hb5 hb6 hb7 hB5 hB6 hB7 s3 s4
    go_wp2_with fail
    refine wp_loop_rounds 1 ?_
    rw [rounds_succ]
    go_wp2_with fail
    go_ret
    exact ⟨rfl, hB8⟩

/-- THE LAW's CALL, AT EVERY INPUT -/
theorem maskLeft_w (k lo hi a : Int) (w : World) (bk : I64 k) (bl : I64 lo) (bh : I64 hi) (ba : I64 a) :
    Calls Try.prog 4 #[maskV k lo hi, .int .i64 a] w fun e w' => e = .returned (.bool true) ∧ Below w.heap.size w w' := by
  by_cases hk : 10 < k ∧ k ≤ 16
  · exact maskLeft_mid k lo hi a w hk.1 hk.2
  by_cases h : MRight k lo hi
  case neg => exact maskLeft_no k lo hi a w hk h bk bl bh
  obtain ⟨⟨h1, h2⟩, ⟨h3, h4⟩, h5, h6⟩ := h
  obtain ⟨n, rfl⟩ : ∃ n : Nat, k = (n : Int) := ⟨k.toNat, by omega⟩
  obtain ⟨l, rfl⟩ : ∃ n : Nat, lo = (n : Int) := ⟨lo.toNat, by omega⟩
  obtain ⟨m, rfl⟩ : ∃ n : Nat, hi = (n : Int) := ⟨hi.toNat, by omega⟩
  rw [Int.toNat_natCast] at h4 h6
  exact maskLeft_yes n l m a w ba (by omega) (by omega) (by omega) (by omega)
end Go.Proofs.Ytkkpgfpkeiamaaa
