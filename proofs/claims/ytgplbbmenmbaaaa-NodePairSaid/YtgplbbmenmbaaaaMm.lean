/-
  PLAIN MATHEMATICS of layer 4: masks as natural numbers: which addresses they leave, how many, the first, the next one; the masks that a box has; which cells lie in it. Nothing of the program is named here.
-/
import Derived.Test.YtgplbbmenmbaaaaBm
namespace Go.Proofs.Ytgplbbmenmbaaaa.Mk
open Go.Proofs.Ytgplbbmenmbaaaa.Z Go.Proofs.Ytgplbbmenmbaaaa.Bx

/-- a without the bits of b -/
def less (a b : Nat) : Nat := a ^^^ (a &&& b)
theorem less_testBit (a b i : Nat) : (less a b).testBit i = (a.testBit i && !b.testBit i) := by
  unfold less
  rw [Nat.testBit_xor, Nat.testBit_and]
  cases a.testBit i <;> cases b.testBit i <;> rfl
theorem sub_iff (a b : Nat) : a &&& b = a ↔ ∀ i, a.testBit i = true → b.testBit i = true := by
  constructor
  · intro h i hi
    have := congrArg (fun x => Nat.testBit x i) h
    simp only [Nat.testBit_and] at this
    rw [hi] at this
    simpa using this
  · intro h
    apply Nat.eq_of_testBit_eq
    intro i
    rw [Nat.testBit_and]
    cases e : a.testBit i
    · rfl
    · rw [h i e]; rfl
theorem sub_le {a b : Nat} (h : a &&& b = a) : a ≤ b := by rw [← h]; exact Nat.and_le_right
theorem less_le (a b : Nat) : less a b ≤ a := by
  refine sub_le ((sub_iff _ _).2 fun i hi => ?_)
  rw [less_testBit] at hi
  cases h : a.testBit i
  · rw [h] at hi; simp at hi
  · rfl
theorem less_zero (a b : Nat) : less a b = 0 ↔ a &&& b = a := by
  rw [sub_iff]
  constructor
  · intro h i hi
    have := less_testBit a b i
    rw [h, Nat.zero_testBit, hi] at this
    simpa using this.symm
  · intro h
    apply Nat.eq_of_testBit_eq
    intro i
    rw [less_testBit, Nat.zero_testBit]
    cases e : a.testBit i
    · rfl
    · rw [h i e]; rfl

/-- an address is left -/
def has (k lo hi a : Nat) : Bool := decide (a < 2 ^ k) && (decide (lo &&& a = lo) && decide (a &&& hi = a))
theorem has_iff {k lo hi a : Nat} : has k lo hi a = true ↔ a < 2 ^ k ∧ lo &&& a = lo ∧ a &&& hi = a := by
  simp [has]
/-- all addresses that are left, rising -/
def left (k lo hi : Nat) : List Nat := (List.range (2 ^ k)).filter (has k lo hi)
theorem mem_left {k lo hi a : Nat} : a ∈ left k lo hi ↔ has k lo hi a = true := by
  simp only [left, List.mem_filter, List.mem_range]
  exact ⟨fun h => h.2, fun h => ⟨(has_iff.1 h).1, h⟩⟩
theorem left_sorted (k lo hi : Nat) : (left k lo hi).Pairwise (· < ·) := List.Pairwise.filter _ List.pairwise_lt_range
theorem left_length_le (k lo hi : Nat) : (left k lo hi).length ≤ 2 ^ k := by
  have := List.length_filter_le (has k lo hi) (List.range (2 ^ k))
  rwa [List.length_range] at this

/-- none is left -/
def nothing (lo hi : Nat) : Bool := decide (¬ lo &&& hi = lo)
theorem has_low {k lo hi : Nat} (h : lo < 2 ^ k) : has k lo hi lo = !nothing lo hi := by
  rw [Bool.eq_iff_iff, has_iff]
  simp [nothing, h]
theorem left_nil_iff {k lo hi : Nat} (h : lo < 2 ^ k) : left k lo hi = [] ↔ nothing lo hi = true := by
  constructor
  · intro e
    rcases hn : nothing lo hi with _ | _
    · have : lo ∈ left k lo hi := mem_left.2 (by rw [has_low h, hn]; rfl)
      rw [e] at this
      simp at this
    · rfl
  · intro hn
    rw [List.eq_nil_iff_forall_not_mem]
    intro a ha
    obtain ⟨_, h1, h2⟩ := has_iff.1 (mem_left.1 ha)
    simp only [nothing, decide_eq_true_eq] at hn
    refine hn ((sub_iff _ _).2 fun i hi => (sub_iff _ _).1 h2 i ((sub_iff _ _).1 h1 i hi))
theorem sorted_head {L : List Nat} {x : Nat} (hs : L.Pairwise (· < ·)) (hx : x ∈ L) (hle : ∀ y ∈ L, x ≤ y) : L[0]? = some x := by
  cases L with
  | nil => simp at hx
  | cons y ys =>
    have h1 := hle y (by simp)
    rcases List.mem_cons.1 hx with e | e
    · simp [e]
    · have := (List.pairwise_cons.1 hs).1 x e
      omega
theorem left_head {k lo hi : Nat} (h : lo < 2 ^ k) (hn : nothing lo hi = false) : (left k lo hi)[0]? = some lo := by
  refine sorted_head (left_sorted k lo hi) (mem_left.2 (by rw [has_low h, hn]; rfl)) fun y hy => ?_
  exact sub_le (has_iff.1 (mem_left.1 hy)).2.1

/-! ### the next one -/
/-- the least address that is left, and greater than n -/
def next (k lo hi n : Nat) : Option Nat := (left k lo hi).find? (fun a => decide (n < a))
theorem next_some {k lo hi n x : Nat} (hx : has k lo hi x = true) (hn : n < x) (hle : ∀ y, has k lo hi y = true → n < y → x ≤ y) : next k lo hi n = some x := by
  have H : ∀ (L : List Nat), L.Pairwise (· < ·) → x ∈ L → (∀ y ∈ L, n < y → x ≤ y) → L.find? (fun a => decide (n < a)) = some x := by
    intro L
    induction L with
    | nil => intro _ h; simp at h
    | cons y ys ih =>
      intro hs hm hl
      rw [List.find?_cons]
      by_cases c : n < y
      · rw [decide_eq_true c]
        have h1 := hl y (by simp) c
        rcases List.mem_cons.1 hm with e | e
        · simp [e]
        · have := (List.pairwise_cons.1 hs).1 x e
          omega
      · rw [decide_eq_false c]
        refine ih (List.pairwise_cons.1 hs).2 ?_ (fun z hz => hl z (by simp [hz]))
        rcases List.mem_cons.1 hm with e | e
        · subst e; exact absurd hn c
        · exact e
  exact H _ (left_sorted k lo hi) (mem_left.2 hx) (fun y hy => hle y (mem_left.1 hy))
theorem next_none {k lo hi n : Nat} (h : ∀ y, has k lo hi y = true → ¬ n < y) : next k lo hi n = none := by
  unfold next
  rw [List.find?_eq_none]
  intro y hy
  simpa using h y (mem_left.1 hy)
theorem testBit_low (p i : Nat) : (2 ^ p - 1).testBit i = decide (i < p) := Nat.testBit_two_pow_sub_one p i
theorem lt_two_pow_of {x k : Nat} (h : ∀ i, k ≤ i → x.testBit i = false) : x < 2 ^ k := Nat.lt_pow_two_of_testBit x h
theorem testBit_ge {x k i : Nat} (h : x < 2 ^ k) (hi : k ≤ i) : x.testBit i = false :=
  Nat.testBit_lt_two_pow (Nat.lt_of_lt_of_le h (Nat.pow_le_pow_right (by omega) hi))
theorem lt_of_bit {n m : Nat} (i : Nat) (hn : n.testBit i = false) (hm : m.testBit i = true) (h : ∀ j, i < j → n.testBit j = m.testBit j) : n < m := by
  have e : n / 2 ^ (i + 1) = m / 2 ^ (i + 1) := by
    apply Nat.eq_of_testBit_eq
    intro j
    rw [Nat.testBit_div_two_pow, Nat.testBit_div_two_pow]
    exact h _ (by omega)
  have b1 : n / 2 ^ i % 2 = 0 := by
    rw [Nat.testBit_eq_decide_div_mod_eq] at hn
    have := Nat.mod_lt (n / 2 ^ i) (show 0 < 2 by omega)
    have h2 : ¬ (n / 2 ^ i % 2 = 1) := by simpa using hn
    omega
  have b2 : m / 2 ^ i % 2 = 1 := by
    rw [Nat.testBit_eq_decide_div_mod_eq] at hm
    simpa using hm
  rw [Nat.pow_succ, ← Nat.div_div_eq_div_mul, ← Nat.div_div_eq_div_mul] at e
  have hlt : n / 2 ^ i < m / 2 ^ i := by omega
  rcases Nat.lt_or_ge n m with c | c
  · exact c
  · have := Nat.div_le_div_right (c := 2 ^ i) c
    omega
/-- n with the bit p, the same above it, and Low's bits below -/
def cand (lo n p : Nat) : Nat := (less n (2 ^ p - 1) ||| 2 ^ p) ||| (lo &&& (2 ^ p - 1))
theorem cand_testBit (lo n p i : Nat) : (cand lo n p).testBit i = if i < p then lo.testBit i else if i = p then true else n.testBit i := by
  unfold cand
  rw [Nat.testBit_or, Nat.testBit_or, Nat.testBit_and, less_testBit, testBit_low, Nat.testBit_two_pow]
  by_cases c : i < p
  · rw [if_pos c, decide_eq_true c, decide_eq_false (by omega)]
    simp
  · rw [if_neg c, decide_eq_false c]
    by_cases e : i = p
    · rw [if_pos e, decide_eq_true e.symm]; simp
    · rw [if_neg e, decide_eq_false (by omega)]; simp
theorem cand_gt {lo n p : Nat} (h : n.testBit p = false) : n < cand lo n p := by
  refine lt_of_bit p h ?_ fun j hj => ?_
  · rw [cand_testBit, if_neg (by omega), if_pos rfl]
  · rw [cand_testBit, if_neg (by omega), if_neg (by omega)]
/-- where two numbers part -/
theorem part_at {n a : Nat} (h : n < a) (ha : a < 2 ^ 64) : ∃ q, n.testBit q = false ∧ a.testBit q = true ∧ ∀ j, q < j → n.testBit j = a.testBit j := by
  have hx : a ^^^ n < 2 ^ 64 := Nat.xor_lt_two_pow ha (by omega)
  have h0 : a ^^^ n ≠ 0 := by
    intro e
    have : a = n := by
      apply Nat.eq_of_testBit_eq
      intro i
      have := congrArg (fun x => Nat.testBit x i) e
      simp only [Nat.testBit_xor, Nat.zero_testBit] at this
      revert this
      cases a.testBit i <;> cases n.testBit i <;> simp
    omega
  obtain ⟨l, _, _, h3, h4⟩ := Z.bitLen_top _ hx h0
  have hab : ∀ j, l < j → n.testBit j = a.testBit j := fun j hj => by
    have := h4 j hj
    rw [Nat.testBit_xor] at this
    revert this
    cases a.testBit j <;> cases n.testBit j <;> simp
  rw [Nat.testBit_xor] at h3
  rcases e : n.testBit l with _ | _
  · rw [e] at h3
    exact ⟨l, e, by simpa using h3, hab⟩
  · rw [e] at h3
    have h5 : a.testBit l = false := by simpa using h3
    have := lt_of_bit l h5 e (fun j hj => (hab j hj).symm)
    omega
theorem cand_has {k lo hi n a q : Nat} (ha : has k lo hi a = true) (hq : n.testBit q = false) (haq : a.testBit q = true) (hab : ∀ j, q < j → n.testBit j = a.testBit j) : q < k ∧ has k lo hi (cand lo n q) = true := by
  obtain ⟨h1, h2, h3⟩ := has_iff.1 ha
  rw [sub_iff] at h2 h3
  have hqk : q < k := by
    rcases Nat.lt_or_ge q k with c | c
    · exact c
    · rw [testBit_ge h1 c] at haq; simp at haq
  refine ⟨hqk, has_iff.2 ⟨lt_two_pow_of fun i hi => ?_, (sub_iff _ _).2 fun i hi => ?_, (sub_iff _ _).2 fun i hi => ?_⟩⟩
  · rw [cand_testBit, if_neg (by omega), if_neg (by omega), hab i (by omega), testBit_ge h1 hi]
  · rw [cand_testBit]
    by_cases c : i < q
    · rw [if_pos c, hi]
    · rw [if_neg c]
      by_cases e : i = q
      · rw [if_pos e]
      · rw [if_neg e, hab i (by omega)]; exact h2 i hi
  · rw [cand_testBit] at hi
    by_cases c : i < q
    · rw [if_pos c] at hi; exact h3 i (h2 i hi)
    · rw [if_neg c] at hi
      by_cases e : i = q
      · subst e; exact h3 _ haq
      · rw [if_neg e, hab i (by omega)] at hi; exact h3 i hi
/-- the first place at which a candidate is left: it is the next one -/
theorem next_found {k lo hi n p : Nat} (hk : k ≤ 16) (hp : n.testBit p = false) (hh : has k lo hi (cand lo n p) = true) (hno : ∀ q, q < p → n.testBit q = false → has k lo hi (cand lo n q) = false) : next k lo hi n = some (cand lo n p) := by
  refine next_some hh (cand_gt hp) fun a ha hna => ?_
  have h1 := (has_iff.1 ha).1
  have hpw : 2 ^ k ≤ 2 ^ 16 := Nat.pow_le_pow_right (by omega) hk
  obtain ⟨q, e1, e2, e3⟩ := part_at hna (by omega)
  obtain ⟨_, h2⟩ := cand_has ha e1 e2 e3
  have h3 := (sub_iff _ _).1 (has_iff.1 ha).2.1
  rcases Nat.lt_trichotomy q p with c | c | c
  · rw [hno q c e1] at h2; simp at h2
  · subst c
    refine sub_le ((sub_iff _ _).2 fun i hi => ?_)
    rw [cand_testBit] at hi
    by_cases c : i < q
    · rw [if_pos c] at hi; exact h3 i hi
    · rw [if_neg c] at hi
      by_cases e : i = q
      · rw [e]; exact e2
      · rw [if_neg e, e3 i (by omega)] at hi; exact hi
  · refine Nat.le_of_lt (lt_of_bit q ?_ e2 fun j hj => ?_)
    · rw [cand_testBit, if_neg (by omega), if_neg (by omega)]; exact e1
    · rw [cand_testBit, if_neg (by omega), if_neg (by omega)]; exact e3 j hj
theorem next_not {k lo hi n : Nat} (hk : k ≤ 16) (hno : ∀ q, q < k → n.testBit q = false → has k lo hi (cand lo n q) = false) : next k lo hi n = none := by
  refine next_none fun a ha hna => ?_
  have h1 := (has_iff.1 ha).1
  have hpw : 2 ^ k ≤ 2 ^ 16 := Nat.pow_le_pow_right (by omega) hk
  obtain ⟨q, e1, e2, e3⟩ := part_at hna (by omega)
  obtain ⟨hqk, h2⟩ := cand_has ha e1 e2 e3
  rw [hno q hqk e1] at h2
  simp at h2
theorem or_lt {a b k : Nat} (ha : a < 2 ^ k) (hb : b < 2 ^ k) : a ||| b < 2 ^ k := Nat.or_lt_two_pow ha hb
theorem cand_lt {lo n p : Nat} (hn : n < 9223372036854775808) (hl : lo < 65536) (hp : p < 16) : cand lo n p < 9223372036854775808 := by
  have h1 := less_le n (2 ^ p - 1)
  have h2 : 2 ^ p < 2 ^ 63 := Nat.pow_lt_pow_right (by omega) (by omega)
  have h3 : lo &&& (2 ^ p - 1) ≤ lo := Nat.and_le_left
  have : cand lo n p < 2 ^ 63 := or_lt (or_lt (by omega) h2) (by omega)
  omega
/-- in a rising list the one behind the i-th is the (i+1)-th -/
theorem find_next {L : List Nat} (hs : L.Pairwise (· < ·)) : ∀ (i x : Nat), L[i]? = some x → L.find? (fun a => decide (x < a)) = L[i + 1]? := by
  induction L with
  | nil => intro i x h; simp at h
  | cons y ys ih =>
    intro i x h
    have h1 := (List.pairwise_cons.1 hs).1
    have h2 := (List.pairwise_cons.1 hs).2
    cases i with
    | zero =>
      simp at h
      subst h
      rw [List.find?_cons, decide_eq_false (by omega)]
      simp only [List.getElem?_cons_succ]
      cases ys with
      | nil => rfl
      | cons z zs =>
        have := h1 z (by simp)
        rw [List.find?_cons, decide_eq_true this]
        rfl
    | succ i =>
      simp only [List.getElem?_cons_succ] at h ⊢
      have := h1 x (List.mem_of_getElem? h)
      rw [List.find?_cons, decide_eq_false (by omega)]
      exact ih h2 i x h

/-! ### how many -/
theorem range_two (f : Nat → Bool) : ∀ n, (List.range (2 * n)).countP f = (List.range n).countP (fun a => f (2 * a)) + (List.range n).countP (fun a => f (2 * a + 1))
  | 0 => rfl
  | n + 1 => by
    rw [show 2 * (n + 1) = 2 * n + 1 + 1 by omega, List.range_succ, List.range_succ, List.range_succ, List.countP_append, List.countP_append, List.countP_append, List.countP_append, range_two f n]
    simp only [List.countP_cons, List.countP_nil]
    omega
theorem sub_half (x y b c : Nat) (hb : b < 2) (hc : c < 2) : (2 * x + b) &&& (2 * y + c) = 2 * x + b ↔ x &&& y = x ∧ b ≤ c := by
  rw [sub_iff, sub_iff]
  have t0 : ∀ z d, d < 2 → (2 * z + d).testBit 0 = decide (d = 1) := fun z d hd => by
    rw [Nat.testBit_zero]
    congr 1
    rw [Nat.mul_add_mod]
    have : d % 2 = d := Nat.mod_eq_of_lt hd
    rw [this]
  have ts : ∀ z d i, d < 2 → (2 * z + d).testBit (i + 1) = z.testBit i := fun z d i hd => by
    rw [Nat.testBit_succ]
    congr 1
    omega
  constructor
  · intro h
    refine ⟨fun i hi => ?_, ?_⟩
    · have := h (i + 1)
      rw [ts _ _ _ hb, ts _ _ _ hc] at this
      exact this hi
    · have := h 0
      rw [t0 _ _ hb, t0 _ _ hc] at this
      simp only [decide_eq_true_eq] at this
      omega
  · rintro ⟨h1, h2⟩ i
    cases i with
    | zero =>
      rw [t0 _ _ hb, t0 _ _ hc]
      simp only [decide_eq_true_eq]
      omega
    | succ i =>
      rw [ts _ _ _ hb, ts _ _ _ hc]
      exact h1 i
theorem has_half (k l h a b c d : Nat) (hb : b < 2) (hc : c < 2) (hd : d < 2) : has (k + 1) (2 * l + c) (2 * h + d) (2 * a + b) = (has k l h a && (decide (c ≤ b) && decide (b ≤ d))) := by
  rw [Bool.eq_iff_iff, has_iff, Bool.and_eq_true, has_iff, Bool.and_eq_true, decide_eq_true_eq, decide_eq_true_eq, sub_half _ _ _ _ hc hb, sub_half _ _ _ _ hb hd, Nat.pow_succ]
  constructor
  · rintro ⟨h1, ⟨h2, h3⟩, h4, h5⟩; exact ⟨⟨by omega, h2, h4⟩, h3, h5⟩
  · rintro ⟨⟨h1, h2, h4⟩, h3, h5⟩; exact ⟨by omega, ⟨h2, h3⟩, h4, h5⟩
theorem pop_less (f l h c d : Nat) (hc : c < 2) (hd : d < 2) : Lib.popAux (f + 1) (less (2 * h + d) (2 * l + c)) = (if d = 1 ∧ c = 0 then 1 else 0) + Lib.popAux f (less h l) := by
  have e1 : less (2 * h + d) (2 * l + c) / 2 = less h l := by
    apply Nat.eq_of_testBit_eq
    intro i
    rw [← Nat.testBit_succ, less_testBit, less_testBit, Nat.testBit_succ, Nat.testBit_succ, show (2 * h + d) / 2 = h by omega, show (2 * l + c) / 2 = l by omega]
  have e2 : less (2 * h + d) (2 * l + c) % 2 = if d = 1 ∧ c = 0 then 1 else 0 := by
    have h0 := less_testBit (2 * h + d) (2 * l + c) 0
    rw [Nat.testBit_zero, Nat.testBit_zero, Nat.testBit_zero, show (2 * h + d) % 2 = d by omega, show (2 * l + c) % 2 = c by omega] at h0
    have hm := Nat.mod_lt (less (2 * h + d) (2 * l + c)) (show 0 < 2 by omega)
    by_cases e : d = 1 ∧ c = 0
    · rw [if_pos e]
      rw [e.1, e.2] at h0 ⊢
      simpa using h0
    · rw [if_neg e]
      have : ¬ (less (2 * h + d) (2 * l + c) % 2 = 1) := by
        intro e3
        rw [e3] at h0
        simp at h0
        exact e ⟨h0.1, by omega⟩
      omega
  simp only [Lib.popAux]
  rw [e1, e2]
theorem left_count : ∀ (k f lo hi : Nat), k ≤ f → lo < 2 ^ k → hi < 2 ^ k → (left k lo hi).length = if lo &&& hi = lo then 2 ^ Lib.popAux f (less hi lo) else 0
  | 0, f, lo, hi, _, h1, h2 => by
    have e1 : lo = 0 := by simpa using h1
    have e2 : hi = 0 := by simpa using h2
    subst e1 e2
    have hp : ∀ f, Lib.popAux f 0 = 0 := by
      intro f
      induction f with
      | zero => rfl
      | succ f ih => simp [Lib.popAux, ih]
    rw [if_pos (by decide), show less 0 0 = 0 from rfl, hp]
    rfl
  | k + 1, f, lo, hi, hf, h1, h2 => by
    obtain ⟨g, rfl⟩ : ∃ g, f = g + 1 := ⟨f - 1, by omega⟩
    obtain ⟨l, c, hc, rfl⟩ : ∃ l c, c < 2 ∧ lo = 2 * l + c := ⟨lo / 2, lo % 2, by omega, by omega⟩
    obtain ⟨h, d, hd, rfl⟩ : ∃ h d, d < 2 ∧ hi = 2 * h + d := ⟨hi / 2, hi % 2, by omega, by omega⟩
    have ih := left_count k g l h (by omega) (by rw [Nat.pow_succ] at h1; omega) (by rw [Nat.pow_succ] at h2; omega)
    unfold left at ih ⊢
    rw [← List.countP_eq_length_filter] at ih ⊢
    rw [Nat.pow_succ, Nat.mul_comm (2 ^ k) 2, range_two, pop_less _ _ _ _ _ hc hd]
    have f0 : (fun a => has (k + 1) (2 * l + c) (2 * h + d) (2 * a)) = fun a => has k l h a && (decide (c ≤ 0) && decide (0 ≤ d)) := by
      funext a
      exact has_half k l h a 0 c d (by omega) hc hd
    have f1 : (fun a => has (k + 1) (2 * l + c) (2 * h + d) (2 * a + 1)) = fun a => has k l h a && (decide (c ≤ 1) && decide (1 ≤ d)) := by
      funext a
      exact has_half k l h a 1 c d (by omega) hc hd
    rw [f0, f1, decide_eq_true (show 0 ≤ d by omega), decide_eq_true (show c ≤ 1 by omega)]
    have hsub := sub_half l h c d hc hd
    have z : ∀ (L : List Nat), L.countP (fun _ => false) = 0 := fun L => by simp
    rcases (show c = 0 ∨ c = 1 by omega) with rfl | rfl <;> rcases (show d = 0 ∨ d = 1 by omega) with rfl | rfl
    · simp only [Nat.le_refl, decide_true, Bool.and_true, Bool.and_false, show ¬ (1 ≤ 0) by omega, decide_false, z, ih, hsub]
      simp
    · simp only [Nat.le_refl, decide_true, Bool.and_true, ih, hsub]
      simp only [Nat.zero_le, and_true, and_self, if_true]
      split
      · rw [Nat.pow_add]; omega
      · rfl
    · simp only [show ¬ (1 ≤ 0) by omega, decide_false, Bool.false_and, Bool.and_false, z, hsub]
      simp
    · simp only [show ¬ (1 ≤ 0) by omega, Nat.le_refl, decide_false, decide_true, Bool.and_false, Bool.and_true, z, ih, hsub]
      simp
theorem left_len {k lo hi : Nat} (hk : k ≤ 16) (h1 : lo < 2 ^ k) (h2 : hi < 2 ^ k) : (left k lo hi).length = if nothing lo hi = true then 0 else 2 ^ Lib.onesCount (less hi lo) := by
  rw [left_count k 64 lo hi (by omega) h1 h2]
  unfold nothing Lib.onesCount
  by_cases h : lo &&& hi = lo <;> simp [h]

end Go.Proofs.Ytgplbbmenmbaaaa.Mk
