/-
  PLAIN MATHEMATICS of layer 2, second part: boxes' texts and names. Nothing of the program is named here.
-/
import Derived.Test.YtkhfjcaobjompaaDoorNm
namespace Go.Proofs.YtkhfjcaobjompaaDoor.T
open Go

/-! ### Boxes -/
def dots : List UInt8 := [46, 46]
/-- do two points stand at place i? -/
def occ (l : List UInt8) (i : Nat) : Bool := l[i]? == some 46 && l[i + 1]? == some 46
theorem occ_iff (l : List UInt8) (i : Nat) : occ l i = true ↔ l[i]? = some 46 ∧ l[i + 1]? = some 46 := by simp [occ]
theorem occ_eq (l : List UInt8) (i : Nat) : Lib.occAt l dots i = occ l i := by
  rw [Bool.eq_iff_iff, occ_iff]
  unfold Lib.occAt dots
  rw [List.isPrefixOf_iff_prefix]
  constructor
  · rintro ⟨r, hr⟩
    have h0 : (l.drop i)[0]? = some 46 := by rw [← hr]; rfl
    have h1 : (l.drop i)[1]? = some 46 := by rw [← hr]; rfl
    rw [List.getElem?_drop] at h0 h1
    exact ⟨by simpa using h0, h1⟩
  · rintro ⟨h0, h1⟩
    have hl : i + 1 < l.length := (List.getElem?_eq_some_iff.1 h1).1
    refine ⟨l.drop (i + 2), ?_⟩
    rw [List.drop_eq_getElem_cons (show i < l.length by omega), List.drop_eq_getElem_cons (show i + 1 < l.length by omega), (List.getElem?_eq_some_iff.1 h0).2, (List.getElem?_eq_some_iff.1 h1).2]
    rfl
theorem occ_lt {l : List UInt8} {i : Nat} (h : occ l i = true) : i + 2 ≤ l.length := by
  have := (List.getElem?_eq_some_iff.1 ((occ_iff l i).1 h).2).1
  omega
/-- how many places there are below k, and the last of them -/
def cnt (l : List UInt8) : Nat → Nat × Nat
  | 0 => (0, 0)
  | k + 1 => if occ l k = true then (k, (cnt l k).2 + 1) else cnt l k
theorem cnt_yes {l : List UInt8} {k : Nat} (h : occ l k = true) : cnt l (k + 1) = (k, (cnt l k).2 + 1) := by rw [cnt, if_pos h]
theorem cnt_no {l : List UInt8} {k : Nat} (h : ¬ occ l k = true) : cnt l (k + 1) = cnt l k := by rw [cnt, if_neg h]
theorem cnt_le (l : List UInt8) : ∀ k, (cnt l k).2 ≤ k ∧ (cnt l k).1 ≤ k
  | 0 => ⟨Nat.le_refl _, Nat.le_refl _⟩
  | k + 1 => by
    have ih := cnt_le l k
    rw [cnt]
    split
    · exact ⟨by simp only; omega, by simp only; omega⟩
    · omega
theorem cnt_spec (l : List UInt8) : ∀ k, ((cnt l k).2 = 0 ∧ ∀ i, i < k → occ l i = false) ∨ ((cnt l k).2 = 1 ∧ (cnt l k).1 < k ∧ occ l (cnt l k).1 = true ∧ ∀ i, i < k → occ l i = true → i = (cnt l k).1) ∨
    (2 ≤ (cnt l k).2 ∧ ∃ i j, i < j ∧ j < k ∧ occ l i = true ∧ occ l j = true)
  | 0 => .inl ⟨rfl, fun _ h => absurd h (Nat.not_lt_zero _)⟩
  | k + 1 => by
    by_cases h : occ l k = true
    · rw [cnt_yes h]
      rcases cnt_spec l k with ⟨e, hn⟩ | ⟨e, h1, h2, h3⟩ | ⟨e, i, j, h1, h2, h3, h4⟩
      · refine .inr (.inl ⟨by simp only; omega, by simp only; omega, h, fun i hi ho => ?_⟩)
        simp only
        rcases Nat.lt_or_ge i k with g | g
        · rw [hn i g] at ho; cases ho
        · omega
      · exact .inr (.inr ⟨by simp only; omega, _, k, h1, by omega, h2, h⟩)
      · exact .inr (.inr ⟨by simp only; omega, i, j, h1, by omega, h3, h4⟩)
    · rw [cnt_no h]
      rcases cnt_spec l k with ⟨e, hn⟩ | ⟨e, h1, h2, h3⟩ | ⟨e, i, j, h1, h2, h3, h4⟩
      · refine .inl ⟨e, fun i hi => ?_⟩
        rcases Nat.lt_or_ge i k with g | g
        · exact hn i g
        · rw [show i = k by omega]; simpa using h
      · refine .inr (.inl ⟨e, by omega, h2, fun i hi ho => ?_⟩)
        rcases Nat.lt_or_ge i k with g | g
        · exact h3 i g ho
        · rw [show i = k by omega] at ho; exact absurd ho h
      · exact .inr (.inr ⟨e, i, j, h1, by omega, h3, h4⟩)

/-- the place of the two points, where there is just one -/
def one (l : List UInt8) : Option Nat := if (cnt l l.length).2 = 1 then some (cnt l l.length).1 else none
theorem one_some {l : List UInt8} {i : Nat} (h : occ l i = true) (hu : ∀ j, occ l j = true → j = i) : one l = some i := by
  have hi := occ_lt h
  unfold one
  rcases cnt_spec l l.length with ⟨e, hn⟩ | ⟨e, h1, h2, h3⟩ | ⟨e, a, b, h1, h2, h3, h4⟩
  · rw [hn i (by omega)] at h; cases h
  · rw [if_pos e, hu _ h2]
  · have := hu a h3
    have := hu b h4
    omega
theorem one_many {l : List UInt8} {i j : Nat} (h : occ l i = true) (h' : occ l j = true) (hij : i ≠ j) : one l = none := by
  have hi := occ_lt h
  have hj := occ_lt h'
  unfold one
  rcases cnt_spec l l.length with ⟨e, hn⟩ | ⟨e, h1, h2, h3⟩ | ⟨e, a, b, h1, h2, h3, h4⟩
  · rw [hn i (by omega)] at h; cases h
  · have := h3 i (by omega) h
    have := h3 j (by omega) h'
    omega
  · rw [if_neg (by omega)]
theorem one_none {l : List UInt8} (h : ∀ i, occ l i = false) : one l = none := by
  unfold one
  rcases cnt_spec l l.length with ⟨e, hn⟩ | ⟨e, h1, h2, h3⟩ | ⟨e, a, b, h1, h2, h3, h4⟩
  · rw [if_neg (by omega)]
  · rw [h] at h2; cases h2
  · rw [h] at h3; cases h3
theorem one_occ {l : List UInt8} {i : Nat} (h : one l = some i) : occ l i = true ∧ i + 2 ≤ l.length := by
  unfold one at h
  split at h
  · rename_i e
    cases h
    rcases cnt_spec l l.length with ⟨e', hn⟩ | ⟨e', h1, h2, h3⟩ | ⟨e', a, b, h1, h2, h3, h4⟩
    · omega
    · exact ⟨h2, occ_lt h2⟩
    · omega
  · cases h
/-- Index and LastIndex tell the same -/
theorem one_index (l : List UInt8) : (Lib.index l dots = -1 ∧ one l = none) ∨
    (∃ i : Nat, Lib.index l dots = i ∧ i + 2 ≤ l.length ∧ ((Lib.lastIndex l dots = i ∧ one l = some i) ∨ (Lib.lastIndex l dots ≠ i ∧ one l = none))) := by
  by_cases h : ∃ i, occ l i = true
  · -- the first one
    obtain ⟨i, hi, hmin⟩ : ∃ i, occ l i = true ∧ ∀ j, j < i → occ l j = false := by
      obtain ⟨i, hi⟩ := h
      induction i using Nat.strongRecOn with
      | ind i ih =>
        by_cases g : ∃ j, j < i ∧ occ l j = true
        · obtain ⟨j, h1, h2⟩ := g
          exact ih j h1 h2
        · refine ⟨i, hi, fun j hj => ?_⟩
          rcases hb : occ l j with _ | _
          · rfl
          · exact absurd ⟨j, hj, hb⟩ g
    have hlt := occ_lt hi
    refine .inr ⟨i, Lib.index_first (by omega) ((occ_eq l i).trans hi) (fun j hj => (occ_eq l j).trans (hmin j hj)), hlt, ?_⟩
    have hd : dots.length = 2 := rfl
    unfold Lib.lastIndex
    rw [if_pos (by rw [hd]; omega), hd]
    rcases Lib.lastOcc_spec l dots (l.length - 2 + 1) with ⟨e, hn⟩ | ⟨j, h1, e, h2, h3⟩
    · have := hn i (by omega)
      rw [occ_eq, hi] at this
      cases this
    · rw [e]
      rw [occ_eq] at h2
      by_cases hij : i = j
      · subst hij
        refine .inl ⟨rfl, one_some hi fun k hk => ?_⟩
        rcases Nat.lt_trichotomy k i with g | g | g
        · rw [hmin k g] at hk; cases hk
        · exact g
        · have := occ_lt hk
          have h5 := h3 k g (by omega)
          rw [occ_eq, hk] at h5
          cases h5
      · exact .inr ⟨by omega, one_many hi h2 hij⟩
  · have hn : ∀ i, occ l i = false := fun i => by
      rcases hb : occ l i with _ | _
      · rfl
      · exact absurd ⟨i, hb⟩ h
    exact .inl ⟨Lib.index_none fun j _ => (occ_eq l j).trans (hn j), one_none hn⟩

/-- the box whose text l is: its corners, and the code -/
def rdBox (l : List UInt8) : (List Nat × List Nat) × Nat :=
  match one l with
  | none => (([], []), 8)
  | some i =>
    if (rdPoint (l.take i)).2 ≠ 0 then (([], []), (rdPoint (l.take i)).2)
    else if (rdPoint (l.drop (i + 2))).2 ≠ 0 then (([], []), (rdPoint (l.drop (i + 2))).2)
    else if (rdPoint (l.take i)).1.length ≠ (rdPoint (l.drop (i + 2))).1.length then (([], []), 2)
    else (((rdPoint (l.take i)).1, (rdPoint (l.drop (i + 2))).1), 0)
theorem rdBox_none {l : List UInt8} (h : one l = none) : rdBox l = (([], []), 8) := by unfold rdBox; rw [h]
theorem rdBox_lo {l : List UInt8} {i : Nat} (h : one l = some i) (h1 : (rdPoint (l.take i)).2 ≠ 0) : rdBox l = (([], []), (rdPoint (l.take i)).2) := by
  unfold rdBox; rw [h]; simp only; rw [if_pos h1]
theorem rdBox_hi {l : List UInt8} {i : Nat} (h : one l = some i) (h1 : (rdPoint (l.take i)).2 = 0) (h2 : (rdPoint (l.drop (i + 2))).2 ≠ 0) : rdBox l = (([], []), (rdPoint (l.drop (i + 2))).2) := by
  unfold rdBox; rw [h]; simp only; rw [if_neg (by rw [h1]; simp), if_pos h2]
theorem rdBox_dim {l : List UInt8} {i : Nat} (h : one l = some i) (h1 : (rdPoint (l.take i)).2 = 0) (h2 : (rdPoint (l.drop (i + 2))).2 = 0)
    (h3 : (rdPoint (l.take i)).1.length ≠ (rdPoint (l.drop (i + 2))).1.length) : rdBox l = (([], []), 2) := by
  unfold rdBox; rw [h]; simp only; rw [if_neg (by rw [h1]; simp), if_neg (by rw [h2]; simp), if_pos h3]
theorem rdBox_yes {l : List UInt8} {i : Nat} (h : one l = some i) (h1 : (rdPoint (l.take i)).2 = 0) (h2 : (rdPoint (l.drop (i + 2))).2 = 0)
    (h3 : (rdPoint (l.take i)).1.length = (rdPoint (l.drop (i + 2))).1.length) : rdBox l = (((rdPoint (l.take i)).1, (rdPoint (l.drop (i + 2))).1), 0) := by
  unfold rdBox; rw [h]; simp only; rw [if_neg (by rw [h1]; simp), if_neg (by rw [h2]; simp), if_neg (by rw [h3]; simp)]

/-- what a box's text is -/
def boxText (lo hi : List Nat) : List UInt8 := ptText lo ++ dots ++ ptText hi
theorem join_no (c : UInt8) : ∀ (ps : List (List UInt8)), (∀ p ∈ ps, ∀ b ∈ p, b ≠ c) → c ≠ 44 → ∀ b ∈ Lib.join ps [44], b ≠ c
  | [], _, _ => fun b hb => by simp [Lib.join_nil] at hb
  | [p], h, _ => by rw [Lib.join_one]; exact h p (List.mem_cons_self ..)
  | p :: q :: ps, h, hc => by
    intro b hb
    rw [join_cons2] at hb
    rcases List.mem_append.1 hb with h1 | h1
    · exact h p (List.mem_cons_self ..) b h1
    · rcases List.mem_cons.1 h1 with h2 | h2
      · rw [h2]; exact fun e => hc e.symm
      · exact join_no c (q :: ps) (fun x hx => h x (List.mem_cons_of_mem _ hx)) hc b h2
theorem pt_no (us : List Nat) : ∀ b ∈ ptText us, b ≠ 46 := by
  unfold ptText
  refine join_no 46 _ ?_ (by decide)
  intro p hp
  simp only [List.mem_map] at hp
  obtain ⟨u, _, rfl⟩ := hp
  exact dec_no u 46 (by decide)
theorem one_mid {a b : List UInt8} (ha : ∀ x ∈ a, x ≠ 46) (hb : ∀ x ∈ b, x ≠ 46) : one (a ++ dots ++ b) = some a.length := by
  refine one_some ?_ ?_
  · rw [occ_iff]
    unfold dots
    constructor
    · rw [List.append_assoc, List.getElem?_append_right (Nat.le_refl _)]; simp
    · rw [List.append_assoc, List.getElem?_append_right (by omega)]; simp
  · intro j hj
    obtain ⟨h0, h1⟩ := (occ_iff _ j).1 hj
    rcases Nat.lt_trichotomy j a.length with g | g | g
    · rw [List.append_assoc, List.getElem?_append_left g] at h0
      exact absurd rfl (ha 46 (List.mem_of_getElem? h0))
    · exact g
    · rw [List.getElem?_append_right (by simp [dots]; omega)] at h1
      exact absurd rfl (hb 46 (List.mem_of_getElem? h1))
theorem mid_take (a b : List UInt8) : (a ++ dots ++ b).take a.length = a := by rw [List.append_assoc, List.take_left]
theorem mid_drop (a b : List UInt8) : (a ++ dots ++ b).drop (a.length + 2) = b := by
  rw [show a.length + 2 = (a ++ dots).length by simp [dots], List.drop_left]
theorem rdBox_box {lo hi : List Nat} (h1 : 1 ≤ lo.length) (h16 : lo.length ≤ 16) (hl : lo.length = hi.length) (ho : Z.Ok lo) (ho' : Z.Ok hi) : rdBox (boxText lo hi) = ((lo, hi), 0) := by
  unfold boxText
  have h := one_mid (pt_no lo) (pt_no hi)
  have e1 := rdPoint_pt h1 h16 ho
  have e2 := rdPoint_pt (us := hi) (by omega) (by omega) ho'
  rw [rdBox_yes h (by rw [mid_take, e1]) (by rw [mid_drop, e2]) (by rw [mid_take, mid_drop, e1, e2]; exact hl), mid_take, mid_drop, e1, e2]
theorem rdBox_err {l : List UInt8} (h : (rdBox l).2 ≠ 0) : (rdBox l).1 = ([], []) := by
  unfold rdBox at h ⊢
  split
  · rfl
  · rename_i i hi
    rw [hi] at h
    simp only at h
    split
    · rfl
    · rename_i h1
      rw [if_neg h1] at h
      split
      · rfl
      · rename_i h2
        rw [if_neg h2] at h
        split
        · rfl
        · rename_i h3
          rw [if_neg h3] at h
          exact absurd rfl h
theorem rdBox_spec {l : List UInt8} (h : (rdBox l).2 = 0) :
    1 ≤ (rdBox l).1.1.length ∧ (rdBox l).1.1.length ≤ 16 ∧ (rdBox l).1.1.length = (rdBox l).1.2.length ∧ Z.Ok (rdBox l).1.1 ∧ Z.Ok (rdBox l).1.2 ∧ boxText (rdBox l).1.1 (rdBox l).1.2 = l := by
  rcases hone : one l with _ | i
  · rw [rdBox_none hone] at h; simp at h
  · by_cases h1 : (rdPoint (l.take i)).2 = 0
    · by_cases h2 : (rdPoint (l.drop (i + 2))).2 = 0
      · by_cases h3 : (rdPoint (l.take i)).1.length = (rdPoint (l.drop (i + 2))).1.length
        · rw [rdBox_yes hone h1 h2 h3]
          obtain ⟨a1, a2, a3, a4⟩ := rdPoint_spec h1
          obtain ⟨b1, b2, b3, b4⟩ := rdPoint_spec h2
          refine ⟨a1, a2, h3, a3, b3, ?_⟩
          unfold boxText
          rw [a4, b4]
          obtain ⟨ho, hlt⟩ := one_occ hone
          obtain ⟨g0, g1⟩ := (occ_iff l i).1 ho
          conv => rhs; rw [← List.take_append_drop i l]
          rw [List.append_assoc]
          congr 1
          rw [List.drop_eq_getElem_cons (show i < l.length by omega), List.drop_eq_getElem_cons (show i + 1 < l.length by omega), (List.getElem?_eq_some_iff.1 g0).2, (List.getElem?_eq_some_iff.1 g1).2]
          rfl
        · rw [rdBox_dim hone h1 h2 h3] at h; simp at h
      · rw [rdBox_hi hone h1 h2] at h; exact absurd h h2
    · rw [rdBox_lo hone h1] at h; exact absurd h h1
theorem rdBox_lt (l : List UInt8) : Z.Ok (rdBox l).1.1 ∧ Z.Ok (rdBox l).1.2 ∧ (rdBox l).1.1.length ≤ 16 ∧ (rdBox l).1.2.length ≤ 16 := by
  by_cases h : (rdBox l).2 = 0
  · obtain ⟨_, h2, h3, h4, h5, _⟩ := rdBox_spec h
    exact ⟨h4, h5, h2, by omega⟩
  · rw [rdBox_err h]
    exact ⟨fun _ h => by simp at h, fun _ h => by simp at h, by simp, by simp⟩

/-! ### Names -/
def isL (c : UInt8) : Bool := decide (97 ≤ c.toNat) && decide (c.toNat ≤ 122)
def nameAt (l : List UInt8) (i : Nat) : Bool := match l[i]? with
  | none => true
  | some c => isL c || (i != 0 && (isD c || c == 45))
def isName (l : List UInt8) : Bool := decide (1 ≤ l.length ∧ l.length ≤ 32) && (List.range l.length).all (nameAt l)
theorem nameAt_some {l : List UInt8} {i : Nat} {c : UInt8} (h : l[i]? = some c) : nameAt l i = (isL c || (i != 0 && (isD c || c == 45))) := by unfold nameAt; rw [h]
theorem isName_all {l : List UInt8} (h : ∀ i, i < l.length → nameAt l i = true) : isName l = decide (1 ≤ l.length ∧ l.length ≤ 32) := by
  unfold isName
  rw [List.all_eq_true.2 (fun i hi => h i (List.mem_range.1 hi)), Bool.and_true]
theorem isName_bad {l : List UInt8} {i : Nat} (hi : i < l.length) (h : nameAt l i = false) : isName l = false := by
  unfold isName
  have : (List.range l.length).all (nameAt l) = false := by
    rw [List.all_eq_false]
    exact ⟨i, List.mem_range.2 hi, by rw [h]; simp⟩
  rw [this, Bool.and_false]
theorem isName_len {l : List UInt8} (h : ¬ (1 ≤ l.length ∧ l.length ≤ 32)) : isName l = false := by
  unfold isName
  rw [decide_eq_false h, Bool.false_and]
end Go.Proofs.YtkhfjcaobjompaaDoor.T
