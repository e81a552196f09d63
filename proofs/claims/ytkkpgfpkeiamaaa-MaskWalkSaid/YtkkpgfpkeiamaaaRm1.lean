/-
  CONTRACTS of package pantileref04 (the document's answers for layer 4), first part: bit, Right, Has.
-/
import Derived.Test.YtkkpgfpkeiamaaaRf1
import Derived.Test.YtkkpgfpkeiamaaaMk1
namespace Go.Proofs.Ytkkpgfpkeiamaaa
open Go.ChangeShapes Go.WideShapes Go.ChangeAt Go.RowKit

theorem r4bit_c (n k v : Nat) (w : World) (hk : k < 64) (hv : Z.bit n k = v) :
    Calls Try.prog 33 #[.int .i64 (n : Int), .int .i64 (k : Int)] w fun e w' => e = .returned (.int .i64 (v : Int)) ∧ w = w' := by
  have hf : Hid (((n : Int) / 2 ^ k).tmod 2 = (v : Int)) := Lib.hid (by
    rw [show (n : Int) / 2 ^ k = ((n / 2 ^ k : Nat) : Int) by simp, ← hv]
    rfl)
  clear hv
  go_enter Try.func33, Try.ntmps33
  go_wp2
  all_goals go_ret
  exact ⟨ret_int hf.out, rfl⟩

theorem rpower_Q (n P : Nat) (w : World) (hn : n ≤ 40) (hP : 2 ^ n = P) :
    Calls Try.prog 21 #[.int .i64 (n : Int)] w fun e w' => e = .returned (.int .u64 (P : Int)) ∧ w = w' := by
  subst hP; exact rpower_c n w hn
set_option maxRecDepth 100000 in
theorem r4right_c (k lo hi : Int) (w : World) (r : Bool) (hr : decide (MRight k lo hi) = r) (bk : I64 k) :
    Calls Try.prog 15 #[.int .i64 k, .int .i64 lo, .int .i64 hi] w fun e w' => e = .returned (.bool r) ∧ w = w' := by
  have Hr := Lib.hid hr
  clear hr
  obtain ⟨bk1, bk2⟩ := bk
  by_cases c : k < 1
  · have d1 : decide (k < 1) = true := decide_eq_true c
    have hf : Hid (r = false) := Lib.hid (by rw [← Hr.out]; exact decide_eq_false fun h => by have := h.1; omega)
    clear c
    go_enter Try.func15, Try.ntmps15
    go_wp2
    go_ret
    exact ⟨by rw [hf.out]; rfl, rfl⟩
  by_cases c2 : 16 < k
  · have d1 : decide (k < 1) = false := decide_eq_false c
    have d2 : decide (16 < k) = true := decide_eq_true c2
    have hf : Hid (r = false) := Lib.hid (by rw [← Hr.out]; exact decide_eq_false fun h => by have := h.1; omega)
    clear c c2
    go_enter Try.func15, Try.ntmps15
    go_wp2
    go_ret
    exact ⟨by rw [hf.out]; rfl, rfl⟩
  obtain ⟨n, rfl⟩ : ∃ n : Nat, k = (n : Int) := ⟨k.toNat, by omega⟩
  have hn : n ≤ 16 := by omega
  have hn1 : 1 ≤ n := by omega
  have hp := pow16 hn
  obtain ⟨P, hP⟩ : ∃ P, 2 ^ n = P := ⟨_, rfl⟩
  have HP := Lib.hid hP
  have hP16 : P ≤ 65536 := by omega
  have hrr : (decide ((0 ≤ lo ∧ lo < (P : Int)) ∧ (0 ≤ hi ∧ hi < (P : Int)))) = r := by
    rw [← Hr.out, Bool.eq_iff_iff, decide_eq_true_eq, decide_eq_true_eq]
    unfold MRight
    rw [Int.toNat_natCast, hP]
    constructor
    · exact fun h => ⟨⟨by omega, by omega⟩, h⟩
    · exact fun h => h.2
  clear hP hp c c2 Hr
  by_cases a1 : 0 ≤ lo
  · have e1 : decide (0 ≤ lo) = true := decide_eq_true a1
    by_cases a2 : 0 ≤ hi
    · have e2 : decide (0 ≤ hi) = true := decide_eq_true a2
      by_cases a3 : lo < (P : Int)
      · have e3 : decide (lo < (P : Int)) = true := decide_eq_true a3
        have hf : Hid (decide (hi < (P : Int)) = r) := Lib.hid (by rw [← hrr, Bool.eq_iff_iff, decide_eq_true_eq, decide_eq_true_eq]; omega)
        clear hrr a1 a2 a3
        go_enter Try.func15, Try.ntmps15
        go_wp2_with (go_at_call 21; refine (rpower_Q n P _ (by omega) HP.out).mono ?_; rintro e w' ⟨rfl, rfl⟩)
        all_goals go_ret
        all_goals exact ⟨by rw [← hf.out]; rfl, rfl⟩
      · have e3 : decide (lo < (P : Int)) = false := decide_eq_false a3
        have hf : Hid (r = false) := Lib.hid (by rw [← hrr]; exact decide_eq_false (by omega))
        clear hrr a1 a2 a3
        go_enter Try.func15, Try.ntmps15
        go_wp2_with (go_at_call 21; refine (rpower_Q n P _ (by omega) HP.out).mono ?_; rintro e w' ⟨rfl, rfl⟩)
        all_goals go_ret
        all_goals exact ⟨by rw [hf.out]; rfl, rfl⟩
    · have e2 : decide (0 ≤ hi) = false := decide_eq_false a2
      have hf : Hid (r = false) := Lib.hid (by rw [← hrr]; exact decide_eq_false (by omega))
      clear hrr a1 a2
      go_enter Try.func15, Try.ntmps15
      go_wp2_with (go_at_call 21; refine (rpower_Q n P _ (by omega) HP.out).mono ?_; rintro e w' ⟨rfl, rfl⟩)
      all_goals go_ret
      all_goals exact ⟨by rw [hf.out]; rfl, rfl⟩
  · have e1 : decide (0 ≤ lo) = false := decide_eq_false a1
    have hf : Hid (r = false) := Lib.hid (by rw [← hrr]; exact decide_eq_false (by omega))
    clear hrr a1
    go_enter Try.func15, Try.ntmps15
    go_wp2_with (go_at_call 21; refine (rpower_Q n P _ (by omega) HP.out).mono ?_; rintro e w' ⟨rfl, rfl⟩)
    all_goals go_ret
    all_goals exact ⟨by rw [hf.out]; rfl, rfl⟩

/-! ### Has -/
theorem bit_cases (n i : Nat) : (n.testBit i = true ∧ Z.bit n i = 1) ∨ (n.testBit i = false ∧ Z.bit n i = 0) := by
  have h := Z.bit_testBit n i
  rcases e : n.testBit i with _ | _
  · rw [e] at h; exact .inr ⟨rfl, by simpa using h⟩
  · rw [e] at h; exact .inl ⟨rfl, by simpa using h⟩
set_option maxRecDepth 100000 in
theorem r4has_out (k lo hi : Nat) (a : Int) (w : World) (hk1 : 1 ≤ k) (hk : k ≤ 16) (ha : a < 0 ∨ ((2 ^ k : Nat) : Int) ≤ a) (ba : I64 a) :
    Calls Try.prog 20 #[.int .i64 (k : Int), .int .i64 (lo : Int), .int .i64 (hi : Int), .int .i64 a] w fun e w' => e = .returned (.bool false) ∧ w = w' := by
  have hp := pow16 hk
  obtain ⟨P, hP⟩ : ∃ P, 2 ^ k = P := ⟨_, rfl⟩
  rw [hP] at ha hp
  have HP := Lib.hid hP
  obtain ⟨b1, b2⟩ := ba
  by_cases c : a < 0
  · have d1 : decide (a < 0) = true := decide_eq_true c
    clear c ha
    go_enter Try.func20, Try.ntmps20
    go_wp2_with (go_at_call 21; refine (rpower_Q k P _ (by omega) HP.out).mono ?_; rintro e w' ⟨rfl, rfl⟩)
    go_ret
    exact ⟨rfl, rfl⟩
  · have d1 : decide (a < 0) = false := decide_eq_false c
    have d2 : decide ((P : Int) ≤ a) = true := decide_eq_true (by omega)
    clear hP
    go_enter Try.func20, Try.ntmps20
    go_wp2_with (go_at_call 21; refine (rpower_Q k P _ (by omega) HP.out).mono ?_; rintro e w' ⟨rfl, rfl⟩)
    go_ret
    exact ⟨rfl, rfl⟩
/-- the first j bits are well -/
def HasTo (lo hi a j : Nat) : Prop := ∀ i, i < j → (lo.testBit i = true → a.testBit i = true) ∧ (a.testBit i = true → hi.testBit i = true)
theorem has_of {k lo hi a : Nat} (h : HasTo lo hi a k) (h3 : lo < 2 ^ k) (ha : a < 2 ^ k) : Mk.has k lo hi a = true := by
  refine Mk.has_iff.2 ⟨ha, (Mk.sub_iff _ _).2 fun i hi => ?_, (Mk.sub_iff _ _).2 fun i hi => ?_⟩
  · rcases Nat.lt_or_ge i k with c | c
    · exact (h i c).1 hi
    · rw [Mk.testBit_ge h3 c] at hi; simp at hi
  · rcases Nat.lt_or_ge i k with c | c
    · exact (h i c).2 hi
    · rw [Mk.testBit_ge ha c] at hi; simp at hi
theorem has_not {k lo hi a i : Nat} (h : (lo.testBit i = true ∧ a.testBit i = false) ∨ (a.testBit i = true ∧ hi.testBit i = false)) : Mk.has k lo hi a = false := by
  rcases e : Mk.has k lo hi a with _ | _
  · rfl
  · obtain ⟨_, h1, h2⟩ := Mk.has_iff.1 e
    rw [Mk.sub_iff] at h1 h2
    rcases h with ⟨c, d⟩ | ⟨c, d⟩
    · rw [h1 i c] at d; simp at d
    · rw [h2 i c] at d; simp at d
theorem hasTo_step {lo hi a j : Nat} (h : HasTo lo hi a j) (h1 : lo.testBit j = true → a.testBit j = true) (h2 : a.testBit j = true → hi.testBit j = true) : HasTo lo hi a (j + 1) := by
  intro i hi
  rcases Nat.lt_succ_iff_lt_or_eq.1 hi with c | rfl
  · exact h i c
  · exact ⟨h1, h2⟩
set_option maxRecDepth 100000 in
set_option maxHeartbeats 800000 in
theorem r4has_in (k lo hi a : Nat) (w : World) (r : Bool) (hr : Mk.has k lo hi a = r) (hk1 : 1 ≤ k) (hk : k ≤ 16) (h3 : lo < 2 ^ k) (h4 : hi < 2 ^ k) (ha : a < 2 ^ k) :
    Calls Try.prog 20 #[.int .i64 (k : Int), .int .i64 (lo : Int), .int .i64 (hi : Int), .int .i64 (a : Int)] w fun e w' => e = .returned (.bool r) ∧ w = w' := by
  have hp := pow16 hk
  have Hr := Lib.hid hr
  have H3 := Lib.hid (And.intro h3 (And.intro h4 ha))
  obtain ⟨P, hP⟩ : ∃ P, 2 ^ k = P := ⟨_, rfl⟩
  rw [hP] at ha hp
  have HP := Lib.hid hP
  have d1 : decide ((a : Int) < 0) = false := decide_eq_false (by omega)
  have d2 : decide ((P : Int) ≤ (a : Int)) = false := decide_eq_false (by omega)
  have d3 : decide (P ≤ a) = false := decide_eq_false (by omega)
  clear hr h3 h4 hP
  go_enter Try.func20, Try.ntmps20
  go_wp2_with (go_at_call 21; refine (rpower_Q k P _ (by omega) HP.out).mono ?_; rintro e w' ⟨rfl, rfl⟩)
  go_loop [9] (fun i => ∃ j : Nat, j ≤ k ∧ i = .int .i64 j ∧ HasTo lo hi a j) (fun i => k - (intOf i).toNat)
  case atStart => exact ⟨0, Nat.zero_le _, rfl, fun i hi => absurd hi (by omega)⟩
  case round =>
    obtain ⟨j, hj, rfl, hto⟩ := hrel
    have Hto := Lib.hid hto
    clear hto
    by_cases hlt : j < k
    · have hj64 : j < 64 := by omega
      rcases bit_cases lo j with ⟨tl, bl⟩ | ⟨tl, bl⟩ <;> rcases bit_cases a j with ⟨ta, ba⟩ | ⟨ta, ba⟩ <;> rcases bit_cases hi j with ⟨th, bh⟩ | ⟨th, bh⟩
      all_goals (
        have HB := Lib.hid (And.intro (And.intro tl bl) (And.intro (And.intro ta ba) (And.intro th bh)))
        clear tl bl ta ba th bh
        go_wp2_with (first
          | (go_at_call 33; (with_reducible refine (r4bit_c lo j _ _ hj64 HB.out.1.2).mono ?_); rintro e w' ⟨rfl, rfl⟩)
          | (go_at_call 33; (with_reducible refine (r4bit_c a j _ _ hj64 HB.out.2.1.2).mono ?_); rintro e w' ⟨rfl, rfl⟩)
          | (go_at_call 33; (with_reducible refine (r4bit_c hi j _ _ hj64 HB.out.2.2.2).mono ?_); rintro e w' ⟨rfl, rfl⟩)))
      all_goals first
        | (go_round
           case rel =>
             refine ⟨j + 1, by omega, by go_num, hasTo_step Hto.out ?_ ?_⟩
             · intro h
               first | exact HB.out.2.1.1 | (rw [HB.out.1.1] at h; cases h)
             · intro h
               first | exact HB.out.2.2.1 | (rw [HB.out.2.1.1] at h; cases h)
           case measure => simp [intOf]; omega)
        | skip
      all_goals first
        | (go_ret
           exact ⟨by rw [← Hr.out, has_not (i := j) (by first | exact .inl ⟨HB.out.1.1, HB.out.2.1.1⟩ | exact .inr ⟨HB.out.2.1.1, HB.out.2.2.1⟩)]; rfl, rfl⟩)
    · have hfin : Hid (r = true) := Lib.hid (by rw [← Hr.out]; exact has_of (by rw [show k = j by omega]; exact Hto.out) H3.out.1 H3.out.2.2)
      go_wp2
      go_ret
      exact ⟨by rw [hfin.out]; rfl, rfl⟩
theorem r4has_c (k lo hi : Nat) (a : Int) (w : World) (r : Bool) (hr : Mk.hasI k lo hi a = r) (hk1 : 1 ≤ k) (hk : k ≤ 16) (h3 : lo < 2 ^ k) (h4 : hi < 2 ^ k) (ba : I64 a) :
    Calls Try.prog 20 #[.int .i64 (k : Int), .int .i64 (lo : Int), .int .i64 (hi : Int), .int .i64 a] w fun e w' => e = .returned (.bool r) ∧ w = w' := by
  by_cases c : a < 0 ∨ ((2 ^ k : Nat) : Int) ≤ a
  · have e : r = false := by
      rw [← hr]
      rcases c with c | c
      · simp [Mk.hasI, show ¬ (0 ≤ a) by omega]
      · have hn : Mk.has k lo hi a.toNat = false := by
          rcases e : Mk.has k lo hi a.toNat with _ | _
          · rfl
          · have := (Mk.has_iff.1 e).1
            have : (2 ^ k : Nat) ≤ a.toNat := by omega
            omega
        simp [Mk.hasI, hn]
    subst e
    exact r4has_out k lo hi a w hk1 hk c ba
  · obtain ⟨n, rfl⟩ : ∃ n : Nat, a = (n : Int) := ⟨a.toNat, by omega⟩
    rw [Mk.hasI_nat] at hr
    exact r4has_in k lo hi n w r hr hk1 hk h3 h4 (by omega)
end Go.Proofs.Ytkkpgfpkeiamaaa
