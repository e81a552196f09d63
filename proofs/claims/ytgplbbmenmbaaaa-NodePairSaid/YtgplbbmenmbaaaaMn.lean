/-
  PLAIN MATHEMATICS of layer 4, second part: the masks that a box has at a point, which cells lie in it; and what the operations on whole numbers of 64 bits make of natural numbers.
-/
import Derived.Test.YtgplbbmenmbaaaaMm
import Derived.Test.YtgplbbmenmbaaaaBase
import Derived.Laws.Bits64b
namespace Go.Proofs.Ytgplbbmenmbaaaa.Mk
open Go.Proofs.Ytgplbbmenmbaaaa.Z Go.Proofs.Ytgplbbmenmbaaaa.Bx

/-! ### bits, coordinate by coordinate -/
def num (f : Nat → Bool) : Nat → Nat
  | 0 => 0
  | i + 1 => 2 * num f i + (if f i = true then 1 else 0)
theorem num_lt (f : Nat → Bool) : ∀ k, num f k < 2 ^ k
  | 0 => by simp [num]
  | k + 1 => by
    have := num_lt f k
    simp only [num]
    rw [Nat.pow_succ]
    split <;> omega
theorem num_testBit (f : Nat → Bool) : ∀ k i, i < k → (num f k).testBit (k - 1 - i) = f i
  | 0, i, h => absurd h (by omega)
  | k + 1, i, h => by
    simp only [num]
    by_cases e : i = k
    · subst e
      rw [show i + 1 - 1 - i = 0 by omega, Nat.testBit_zero, Nat.mul_add_mod]
      cases f i <;> rfl
    · have ih := num_testBit f k i (by omega)
      rw [show k + 1 - 1 - i = (k - 1 - i) + 1 by omega, Nat.testBit_succ, ← ih]
      congr 1
      split <;> omega
theorem has_all {k a : Nat} {f h : Nat → Bool} (ha : a < 2 ^ k) : has k (num f k) (num h k) a = true ↔ ∀ i, i < k → (f i = true → a.testBit (k - 1 - i) = true) ∧ (a.testBit (k - 1 - i) = true → h i = true) := by
  rw [has_iff, sub_iff, sub_iff]
  constructor
  · rintro ⟨_, h1, h2⟩ i hi
    have e1 := h1 (k - 1 - i)
    have e2 := h2 (k - 1 - i)
    rw [num_testBit f k i hi] at e1
    rw [num_testBit h k i hi] at e2
    exact ⟨e1, e2⟩
  · intro H
    refine ⟨ha, fun j hj => ?_, fun j hj => ?_⟩
    · by_cases c : j < k
      · have e := H (k - 1 - j) (by omega)
        have n1 := num_testBit f k (k - 1 - j) (by omega)
        rw [show k - 1 - (k - 1 - j) = j by omega] at e n1
        exact e.1 (by rw [← n1]; exact hj)
      · rw [testBit_ge (num_lt f k) (by omega)] at hj; simp at hj
    · by_cases c : j < k
      · have e := H (k - 1 - j) (by omega)
        have n1 := num_testBit h k (k - 1 - j) (by omega)
        rw [show k - 1 - (k - 1 - j) = j by omega] at e n1
        rw [n1]
        exact e.2 hj
      · rw [testBit_ge ha (by omega)] at hj; simp at hj
theorem or_add {i a b : Nat} (hb : b < 2 ^ i) : a * 2 ^ i ||| b = a * 2 ^ i + b := by
  rw [Nat.mul_comm]
  exact (Nat.two_pow_add_eq_or_of_lt hb a).symm
theorem num_or {f : Nat → Bool} {i k : Nat} (h : i < k) (hf : f i = true) : num f i * 2 ^ (k - i) ||| 2 ^ (k - 1 - i) = num f (i + 1) * 2 ^ (k - (i + 1)) := by
  have hp := Nat.two_pow_pos (k - (i + 1))
  rw [show k - i = k - (i + 1) + 1 by omega, show k - 1 - i = k - (i + 1) by omega, or_add (by rw [Nat.pow_succ]; omega), Nat.pow_succ]
  simp only [num, hf, if_true]
  rw [Nat.mul_comm _ 2, ← Nat.mul_assoc, Nat.mul_comm _ 2, Nat.add_mul, Nat.one_mul]
theorem num_same {f : Nat → Bool} {i k : Nat} (h : i < k) (hf : f i = false) : num f i * 2 ^ (k - i) = num f (i + 1) * 2 ^ (k - (i + 1)) := by
  rw [show k - i = k - (i + 1) + 1 by omega, Nat.pow_succ]
  simp only [num, hf]
  rw [Nat.mul_comm _ 2, ← Nat.mul_assoc, Nat.mul_comm _ 2]
  simp
theorem num_shift_lt (f : Nat → Bool) {i k : Nat} (h : i ≤ k) : num f i * 2 ^ (k - i) < 2 ^ k := by
  have h1 := num_lt f i
  have e : 2 ^ k = 2 ^ i * 2 ^ (k - i) := by rw [← Nat.pow_add, show i + (k - i) = k by omega]
  rw [e]
  exact Nat.mul_lt_mul_of_pos_right h1 (Nat.two_pow_pos _)

/-! ### which halves are left -/
/-- where the half h of a number begins, at a level -/
def halfAt (c l h : Nat) : Nat := cutN c (l + 1) + h * 2 ^ l
/-- a coordinate leaves its half h -/
def leaves (c l h lo hi : Nat) : Bool := decide (lo ≤ hi) && (decide (halfAt c l h ≤ hi) && decide (lo ≤ halfAt c l h + (2 ^ l - 1)))
theorem leaves_max (c l h lo hi : Nat) : leaves c l h lo hi = decide (max (halfAt c l h) lo ≤ min (halfAt c l h + (2 ^ l - 1)) hi) := by
  rw [Bool.eq_iff_iff]
  simp only [leaves, Bool.and_eq_true, decide_eq_true_eq]
  omega
def lowF (p : List Nat) (l : Nat) (lo hi : List Nat) (i : Nat) : Bool := !leaves (g p i) l 0 (g lo i) (g hi i)
def highF (p : List Nat) (l : Nat) (lo hi : List Nat) (i : Nat) : Bool := leaves (g p i) l 1 (g lo i) (g hi i)
/-- the masks -/
def lowM (p : List Nat) (l : Nat) (lo hi : List Nat) : Nat := num (lowF p l lo hi) p.length
def highM (p : List Nat) (l : Nat) (lo hi : List Nat) : Nat := num (highF p l lo hi) p.length
theorem lowM_lt (p : List Nat) (l : Nat) (lo hi : List Nat) : lowM p l lo hi < 2 ^ p.length := num_lt _ _
theorem highM_lt (p : List Nat) (l : Nat) (lo hi : List Nat) : highM p l lo hi < 2 ^ p.length := num_lt _ _
theorem mask_empty {p lo hi : List Nat} {l : Nat} (h : emp lo hi p.length = true) : nothing (lowM p l lo hi) (highM p l lo hi) = true := by
  simp only [nothing, decide_eq_true_eq]
  intro hs
  have hne : ¬ (∀ i, i < p.length → g lo i ≤ g hi i) := by
    intro c
    rw [emp_false.2 c] at h
    simp at h
  apply hne
  intro i hip
  rw [sub_iff] at hs
  have h1 := hs (p.length - 1 - i)
  unfold lowM highM at h1
  rw [num_testBit _ _ _ hip, num_testBit _ _ _ hip] at h1
  rcases Nat.lt_or_ge (g hi i) (g lo i) with c | c
  · have e : ∀ h, leaves (g p i) l h (g lo i) (g hi i) = false := fun h => by simp [leaves]; omega
    have := h1 (by simp [lowF, e])
    simp [highF, e] at this
  · exact c
/-- two boxes have a point in common, coordinate by coordinate -/
def touch (cl ch lo hi : List Nat) : Nat → Bool
  | 0 => true
  | k + 1 => touch cl ch lo hi k && (decide (g cl k ≤ g hi k) && decide (g lo k ≤ g ch k))
theorem touch_true {cl ch lo hi : List Nat} {k : Nat} : touch cl ch lo hi k = true ↔ ∀ i, i < k → g cl i ≤ g hi i ∧ g lo i ≤ g ch i := by
  induction k with
  | zero => simp [touch]
  | succ k ih =>
    simp only [touch, Bool.and_eq_true, ih, decide_eq_true_eq]
    constructor
    · rintro ⟨h1, h2⟩ i hi
      rcases Nat.lt_succ_iff_lt_or_eq.1 hi with c | rfl
      · exact h1 i c
      · exact h2
    · exact fun h => ⟨fun i hi => h i (by omega), h k (by omega)⟩
theorem g_place {p : List Nat} {l a i : Nat} (hi : i < p.length) : g (place p l a) i = halfAt (g p i) l (Z.bit a (p.length - 1 - i)) := by
  have h' : i < (place p l a).length := by rw [place_length]; exact hi
  rw [g_of (List.getElem?_eq_getElem h'), place_get p l a i h' hi]
  unfold halfAt
  rw [g_of (List.getElem?_eq_getElem hi)]
theorem half_cut (c l b : Nat) : cutN (halfAt c l b) l = halfAt c l b := by
  unfold halfAt cutN
  rw [Nat.pow_succ, Nat.mul_comm (2 ^ l) 2, ← Nat.mul_assoc, ← Nat.add_mul, Nat.mul_div_cancel _ (Nat.two_pow_pos l)]
theorem mask_touch {p lo hi : List Nat} {l a : Nat} (ha : a < 2 ^ p.length) (he : emp lo hi p.length = false) :
    has p.length (lowM p l lo hi) (highM p l lo hi) a = touch (cut (place p l a) l) (cellHi (place p l a) l) lo hi p.length := by
  have hle := emp_false.1 he
  rw [Bool.eq_iff_iff, touch_true]
  unfold lowM highM
  rw [has_all ha]
  have key : ∀ i, i < p.length → (((lowF p l lo hi i = true → a.testBit (p.length - 1 - i) = true) ∧ (a.testBit (p.length - 1 - i) = true → highF p l lo hi i = true)) ↔
      (g (cut (place p l a) l) i ≤ g hi i ∧ g lo i ≤ g (cellHi (place p l a) l) i)) := by
    intro i hi'
    have e1 : g (cut (place p l a) l) i = halfAt (g p i) l (Z.bit a (p.length - 1 - i)) := by
      rw [g_cut l (by rw [place_length]; exact hi'), g_place hi', half_cut]
    have e2 : g (cellHi (place p l a) l) i = halfAt (g p i) l (Z.bit a (p.length - 1 - i)) + (2 ^ l - 1) := by
      unfold cellHi
      rw [g_tab _ (by rw [place_length]; exact hi'), g_place hi', half_cut]
    rw [e1, e2]
    have h1 := hle i hi'
    have hb := bit_testBit a (p.length - 1 - i)
    rcases e : a.testBit (p.length - 1 - i) with _ | _
    · rw [e] at hb
      have hb0 : Z.bit a (p.length - 1 - i) = 0 := by rw [hb]; rfl
      rw [hb0]
      simp [lowF, leaves, h1]
    · rw [e] at hb
      have hb1 : Z.bit a (p.length - 1 - i) = 1 := by rw [hb]; rfl
      rw [hb1]
      simp [highF, leaves, h1]
  exact ⟨fun h i hi => (key i hi).1 (h i hi), fun h i hi => (key i hi).2 (h i hi)⟩
/-- the whole cell is in the box, coordinate by coordinate -/
def whole (p : List Nat) (K : Nat) (lo hi : List Nat) : Nat → Bool
  | 0 => true
  | k + 1 => whole p K lo hi k && (decide (g lo k ≤ cutN (g p k) K) && decide (cutN (g p k) K + (2 ^ K - 1) ≤ g hi k))
theorem whole_true {p lo hi : List Nat} {K k : Nat} : whole p K lo hi k = true ↔ ∀ i, i < k → g lo i ≤ cutN (g p i) K ∧ cutN (g p i) K + (2 ^ K - 1) ≤ g hi i := by
  induction k with
  | zero => simp [whole]
  | succ k ih =>
    simp only [whole, Bool.and_eq_true, ih, decide_eq_true_eq]
    constructor
    · rintro ⟨h1, h2⟩ i hi
      rcases Nat.lt_succ_iff_lt_or_eq.1 hi with c | rfl
      · exact h1 i c
      · exact h2
    · exact fun h => ⟨fun i hi => h i (by omega), h k (by omega)⟩
theorem whole_at {p lo hi : List Nat} {K j k : Nat} (h : whole p K lo hi j = false) (hk : j ≤ k) : whole p K lo hi k = false := by
  rcases e : whole p K lo hi k with _ | _
  · rfl
  · rw [whole_true.2 (fun i hi => whole_true.1 e i (by omega))] at h
    simp at h
theorem whole_isin {p lo hi : List Nat} {K : Nat} : (isin lo hi (cut p K) p.length && isin lo hi (cellHi p K) p.length) = whole p K lo hi p.length := by
  rw [Bool.eq_iff_iff, Bool.and_eq_true, isin_true, isin_true, whole_true]
  have e : ∀ i, i < p.length → g (cut p K) i = cutN (g p i) K ∧ g (cellHi p K) i = cutN (g p i) K + (2 ^ K - 1) := fun i hi => ⟨g_cut K hi, g_tab _ hi⟩
  constructor
  · rintro ⟨h1, h2⟩ i hi
    obtain ⟨e1, e2⟩ := e i hi
    have a1 := h1 i hi
    have a2 := h2 i hi
    rw [e1] at a1
    rw [e2] at a2
    exact ⟨a1.1, a2.2⟩
  · intro h
    refine ⟨fun i hi => ?_, fun i hi => ?_⟩
    · obtain ⟨e1, e2⟩ := e i hi
      have := h i hi
      rw [e1]
      omega
    · obtain ⟨e1, e2⟩ := e i hi
      have := h i hi
      rw [e2]
      omega

/-! ### operations on whole numbers -/
theorem less_cut (c k : Nat) : less c (2 ^ k - 1) = cutN c k := by
  apply Nat.eq_of_testBit_eq
  intro i
  rw [less_testBit, testBit_low, cutN_testBit]
  by_cases h : i < k
  · simp [h, show ¬ k ≤ i by omega]
  · simp [h, show k ≤ i by omega]
theorem or_low (c k : Nat) : c ||| (2 ^ k - 1) = cutN c k + (2 ^ k - 1) := by
  have hp := Nat.two_pow_pos k
  have e : c ||| (2 ^ k - 1) = cutN c k ||| (2 ^ k - 1) := by
    apply Nat.eq_of_testBit_eq
    intro i
    rw [Nat.testBit_or, Nat.testBit_or, testBit_low, cutN_testBit]
    by_cases h : i < k
    · simp [h]
    · simp [h, show k ≤ i by omega]
  rw [e]
  exact or_add (by omega)
theorem pow_or (l : Nat) : 2 ^ l ||| (2 ^ l - 1) = 2 ^ (l + 1) - 1 := by
  have hp := Nat.two_pow_pos l
  have := or_add (i := l) (a := 1) (b := 2 ^ l - 1) (by omega)
  rw [Nat.one_mul] at this
  rw [this, Nat.pow_succ]
  omega
theorem cut_or (c l : Nat) : cutN c (l + 1) ||| 2 ^ l = cutN c (l + 1) + 2 ^ l := by
  refine or_add ?_
  have hp := Nat.two_pow_pos l
  rw [Nat.pow_succ]
  omega
theorem half_or (c l h : Nat) : halfAt c l h ||| (2 ^ l - 1) = halfAt c l h + (2 ^ l - 1) := by
  have e : halfAt c l h = (halfAt c l h / 2 ^ l) * 2 ^ l := (half_cut c l h).symm
  rw [e]
  have hp := Nat.two_pow_pos l
  exact or_add (by omega)
theorem half_zero (c l : Nat) : halfAt c l 0 = cutN c (l + 1) := by simp [halfAt]
theorem half_one (c l : Nat) : halfAt c l 1 = cutN c (l + 1) + 2 ^ l := by simp [halfAt]
theorem half_lt {c l h : Nat} (hc : c < 18446744073709551616) (hl : l < 64) (hh : h < 2) : halfAt c l h + (2 ^ l - 1) < 18446744073709551616 := by
  have h1 := placeN_lt c l h hc hl hh
  have h2 : cutN (halfAt c l h) l + (2 ^ l - 1) < 18446744073709551616 := cell_lt h1 (by omega)
  rwa [half_cut] at h2

theorem toNat_u {a : Nat} (ha : a < 18446744073709551616) : (BitVec.ofInt 64 (a : Int)).toNat = a := by
  rw [BitVec.ofInt_natCast, BitVec.toNat_ofNat]; exact Nat.mod_eq_of_lt (by omega)
theorem toNat_andNot (x y : BitVec 64) : (x &&& ~~~y).toNat = less x.toNat y.toNat := by
  apply Nat.eq_of_testBit_eq
  intro i
  rw [less_testBit, BitVec.testBit_toNat, BitVec.testBit_toNat, BitVec.testBit_toNat, BitVec.getLsbD_and, BitVec.getLsbD_not]
  by_cases h : i < 64
  · simp [h]
  · have e : x.getLsbD i = false := BitVec.getLsbD_of_ge x i (by omega)
    simp [e]
theorem andNot_u64 (a b : Nat) (ha : a < 18446744073709551616) (hb : b < 18446744073709551616) : bits .andNot .u64 (a : Int) (b : Int) = ((less a b : Nat) : Int) := by
  show IntKind.u64.wrap ((BitVec.ofInt 64 (a : Int) &&& ~~~BitVec.ofInt 64 (b : Int)).toNat : Int) = _
  rw [toNat_andNot, toNat_u ha, toNat_u hb, IntKind.wrap_u64]
  have := less_le a b
  omega
theorem andNot_i64 (a b : Nat) (ha : a < 9223372036854775808) (hb : b < 9223372036854775808) : bits .andNot .i64 (a : Int) (b : Int) = ((less a b : Nat) : Int) := by
  show IntKind.i64.wrap ((BitVec.ofInt 64 (a : Int) &&& ~~~BitVec.ofInt 64 (b : Int)).toNat : Int) = _
  rw [toNat_andNot, toNat_u (by omega), toNat_u (by omega), IntKind.wrap_i64]
  have := less_le a b
  omega
theorem and_i64 (a b : Nat) (ha : a < 9223372036854775808) (hb : b < 9223372036854775808) : bits .and .i64 (a : Int) (b : Int) = ((a &&& b : Nat) : Int) := by
  show IntKind.i64.wrap ((BitVec.ofInt 64 (a : Int) &&& BitVec.ofInt 64 (b : Int)).toNat : Int) = _
  rw [BitVec.toNat_and, toNat_u (by omega), toNat_u (by omega), IntKind.wrap_i64]
  have : a &&& b ≤ a := Nat.and_le_left
  omega
/-- a whole number of 64 bits with its sign, as a natural number -/
def un (x : Int) : Nat := (BitVec.ofInt 64 x).toNat
theorem un_eq (x : Int) : un x = (x % 18446744073709551616).toNat := by
  unfold un
  rw [BitVec.toNat_ofInt]
  rfl
theorem un_lt (x : Int) : un x < 18446744073709551616 := (BitVec.ofInt 64 x).isLt
theorem un_small {x : Int} {k : Nat} (h1 : -9223372036854775808 ≤ x) (h2 : x ≤ 9223372036854775807) (hk : k ≤ 9223372036854775808) : un x < k ↔ 0 ≤ x ∧ x < (k : Int) := by
  rw [un_eq]; omega
theorem un_nat {a : Nat} (ha : a < 18446744073709551616) : un (a : Int) = a := toNat_u ha
theorem wrap_zero {n : Nat} (h : n < 18446744073709551616) : IntKind.i64.wrap (n : Int) = 0 ↔ n = 0 := by
  rw [IntKind.wrap_i64]; omega
theorem andNot_zero (x y : Int) : bits .andNot .i64 x y = 0 ↔ un x &&& un y = un x := by
  show IntKind.i64.wrap ((BitVec.ofInt 64 x &&& ~~~BitVec.ofInt 64 y).toNat : Int) = 0 ↔ _
  rw [wrap_zero (BitVec.isLt _), toNat_andNot]
  exact less_zero _ _
theorem un_wrap (n : Nat) (h : n < 18446744073709551616) : un (IntKind.i64.wrap (n : Int)) = n := by
  rw [un_eq, IntKind.wrap_i64]; omega
theorem un_or (x y : Int) : un (bits .or .i64 x y) = un x ||| un y := by
  show un (IntKind.i64.wrap ((BitVec.ofInt 64 x ||| BitVec.ofInt 64 y).toNat : Int)) = _
  rw [un_wrap _ (BitVec.isLt _), BitVec.toNat_or]
  rfl
theorem sub_low {n k : Nat} : n &&& (2 ^ k - 1) = n ↔ n < 2 ^ k := by
  have hp := Nat.two_pow_pos k
  constructor
  · intro h; have := sub_le h; omega
  · intro h
    rw [sub_iff]
    intro i hi
    rw [testBit_low, decide_eq_true_eq]
    rcases Nat.lt_or_ge i k with c | c
    · exact c
    · rw [testBit_ge h c] at hi; simp at hi
theorem or_lt_iff {a b k : Nat} : a ||| b < 2 ^ k ↔ a < 2 ^ k ∧ b < 2 ^ k := by
  constructor
  · intro h
    refine ⟨lt_two_pow_of fun i hi => ?_, lt_two_pow_of fun i hi => ?_⟩
    · have := testBit_ge h hi
      rw [Nat.testBit_or, Bool.or_eq_false_iff] at this
      exact this.1
    · have := testBit_ge h hi
      rw [Nat.testBit_or, Bool.or_eq_false_iff] at this
      exact this.2
  · exact fun h => or_lt h.1 h.2
/-- neither has other bits than the lowest k -/
theorem right_bits {x y : Int} {k : Nat} (hk : k ≤ 16) (h1 : -9223372036854775808 ≤ x) (h2 : x ≤ 9223372036854775807) (h3 : -9223372036854775808 ≤ y) (h4 : y ≤ 9223372036854775807) :
    bits .andNot .i64 (bits .or .i64 x y) ((2 ^ k - 1 : Nat) : Int) = 0 ↔ (0 ≤ x ∧ x < ((2 ^ k : Nat) : Int)) ∧ (0 ≤ y ∧ y < ((2 ^ k : Nat) : Int)) := by
  have hp : 2 ^ k ≤ 2 ^ 16 := Nat.pow_le_pow_right (by omega) hk
  rw [andNot_zero, un_nat (a := 2 ^ k - 1) (by omega), un_or, sub_low, or_lt_iff, un_small h1 h2 (by omega), un_small h3 h4 (by omega)]
/-- an address is left, whatever number it is -/
def hasI (k lo hi : Nat) (a : Int) : Bool := decide (0 ≤ a) && has k lo hi a.toNat
theorem hasI_nat (k lo hi a : Nat) : hasI k lo hi (a : Int) = has k lo hi a := by simp [hasI]
theorem has_bits {k lo hi : Nat} {a : Int} (hk : k ≤ 16) (hl : lo < 2 ^ k) (hh : hi < 2 ^ k) (h1 : -9223372036854775808 ≤ a) (h2 : a ≤ 9223372036854775807) :
    (decide (bits .andNot .i64 (lo : Int) a = 0) && decide (bits .andNot .i64 a (hi : Int) = 0)) = hasI k lo hi a := by
  have hp : 2 ^ k ≤ 2 ^ 16 := Nat.pow_le_pow_right (by omega) hk
  rw [Bool.eq_iff_iff, Bool.and_eq_true, decide_eq_true_eq, decide_eq_true_eq, andNot_zero, andNot_zero, un_nat (by omega), un_nat (by omega)]
  simp only [hasI, Bool.and_eq_true, decide_eq_true_eq, has_iff]
  constructor
  · rintro ⟨e1, e2⟩
    have hle := sub_le e2
    obtain ⟨h0, hlt⟩ := (un_small h1 h2 (k := 2 ^ k) (by omega)).1 (by omega)
    have : un a = a.toNat := by rw [un_eq]; omega
    rw [this] at e1 e2
    exact ⟨h0, by omega, e1, e2⟩
  · rintro ⟨h0, h3, e1, e2⟩
    have : un a = a.toNat := by rw [un_eq]; omega
    rw [this]
    exact ⟨e1, e2⟩

end Go.Proofs.Ytgplbbmenmbaaaa.Mk
