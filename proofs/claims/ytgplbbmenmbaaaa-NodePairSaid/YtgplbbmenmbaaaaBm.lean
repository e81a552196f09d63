/-
  PLAIN MATHEMATICS of layer 3: boxes of points as two lists of natural numbers: whether a box is empty, what is in it, how many points it has, what is in two of them, how far a point is. Nothing of the program is named here.
-/
import Derived.Test.YtgplbbmenmbaaaaZm
namespace Go.Proofs.Ytgplbbmenmbaaaa.Bx
open Go.Proofs.Ytgplbbmenmbaaaa.Z (Ok cutN cut part)

/-- the i-th coordinate -/
def g (us : List Nat) (i : Nat) : Nat := us.getD i 0
theorem g_of {us : List Nat} {i u : Nat} (h : us[i]? = some u) : g us i = u := by simp [g, List.getD_eq_getElem?_getD, h]
theorem g_get {us : List Nat} {i : Nat} (h : i < us.length) : us[i]? = some (g us i) := by
  rw [List.getElem?_eq_getElem h]; simp [g, h]
theorem g_lt {us : List Nat} (h : Ok us) (i : Nat) : g us i < 18446744073709551616 := by
  unfold g
  rw [List.getD_eq_getElem?_getD]
  cases e : us[i]? with
  | none => simp
  | some u => simpa using h u (List.mem_of_getElem? e)
theorem ext_g {us vs : List Nat} (h : us.length = vs.length) (he : ∀ i, i < us.length → g us i = g vs i) : us = vs := by
  apply List.ext_getElem? 
  intro i
  by_cases hi : i < us.length
  · rw [g_get hi, g_get (by omega), he i hi]
  · rw [List.getElem?_eq_none (by omega), List.getElem?_eq_none (by omega)]

/-- a list by its elements -/
def tab (k : Nat) (f : Nat → Nat) : List Nat := (List.range k).map f
theorem tab_length (k : Nat) (f : Nat → Nat) : (tab k f).length = k := by simp [tab]
theorem tab_get {k i : Nat} (f : Nat → Nat) (h : i < k) : (tab k f)[i]? = some (f i) := by simp [tab, h]
theorem g_tab {k i : Nat} (f : Nat → Nat) (h : i < k) : g (tab k f) i = f i := g_of (tab_get f h)
theorem tab_succ (k : Nat) (f : Nat → Nat) : tab (k + 1) f = tab k f ++ [f k] := by simp [tab, List.range_succ]
theorem tab_zero (f : Nat → Nat) : tab 0 f = [] := rfl
theorem tab_ok {k : Nat} {f : Nat → Nat} (h : ∀ i, i < k → f i < 18446744073709551616) : Ok (tab k f) := by
  intro u hu
  simp only [tab, List.mem_map, List.mem_range] at hu
  obtain ⟨i, hi, rfl⟩ := hu
  exact h i hi
theorem tab_take {k j : Nat} (f : Nat → Nat) (h : j ≤ k) : (tab k f).take j = tab j f := by
  apply List.ext_getElem?
  intro i
  rw [List.getElem?_take]
  by_cases hi : i < j
  · rw [if_pos hi, tab_get f (by omega), tab_get f hi]
  · rw [if_neg hi, List.getElem?_eq_none (by rw [tab_length]; omega)]

/-- is a coordinate of lo among the first k greater than that of hi? -/
def emp (lo hi : List Nat) : Nat → Bool
  | 0 => false
  | k + 1 => emp lo hi k || decide (g hi k < g lo k)
theorem emp_mono {lo hi : List Nat} {j : Nat} (h : emp lo hi j = true) : ∀ d, emp lo hi (j + d) = true
  | 0 => h
  | d + 1 => by
    rw [← Nat.add_assoc]
    simp [emp, emp_mono h d]
theorem emp_at {lo hi : List Nat} {j k : Nat} (h : emp lo hi j = true) (hk : j ≤ k) : emp lo hi k = true := by
  have := emp_mono h (k - j)
  rwa [show j + (k - j) = k by omega] at this
theorem emp_false {lo hi : List Nat} {k : Nat} : emp lo hi k = false ↔ ∀ i, i < k → g lo i ≤ g hi i := by
  induction k with
  | zero => simp [emp]
  | succ k ih =>
    simp only [emp, Bool.or_eq_false_iff, ih, decide_eq_false_iff_not, Nat.not_lt]
    constructor
    · rintro ⟨h1, h2⟩ i hi
      rcases Nat.lt_succ_iff_lt_or_eq.1 hi with c | rfl
      · exact h1 i c
      · exact h2
    · exact fun h => ⟨fun i hi => h i (by omega), h k (by omega)⟩

/-- are the first k coordinates of p between those of lo and hi? -/
def isin (lo hi p : List Nat) : Nat → Bool
  | 0 => true
  | k + 1 => isin lo hi p k && (decide (g lo k ≤ g p k) && decide (g p k ≤ g hi k))
theorem isin_true {lo hi p : List Nat} {k : Nat} : isin lo hi p k = true ↔ ∀ i, i < k → g lo i ≤ g p i ∧ g p i ≤ g hi i := by
  induction k with
  | zero => simp [isin]
  | succ k ih =>
    simp only [isin, Bool.and_eq_true, ih, decide_eq_true_eq]
    constructor
    · rintro ⟨h1, h2⟩ i hi
      rcases Nat.lt_succ_iff_lt_or_eq.1 hi with c | rfl
      · exact h1 i c
      · exact h2
    · exact fun h => ⟨fun i hi => h i (by omega), h k (by omega)⟩
theorem isin_at {lo hi p : List Nat} {j k : Nat} (h : isin lo hi p j = false) (hk : j ≤ k) : isin lo hi p k = false := by
  rw [Bool.eq_false_iff] at h ⊢
  intro h2
  exact h (isin_true.2 fun i hi => isin_true.1 h2 i (by omega))

/-- how many points the first k coordinates leave, at most 2^64 - 1 -/
def vol (lo hi : List Nat) : Nat → Nat
  | 0 => 1
  | k + 1 => min 18446744073709551615 (vol lo hi k * (g hi k - g lo k + 1))
def volume (lo hi : List Nat) : Nat := if emp lo hi lo.length = true then 0 else vol lo hi lo.length
theorem vol_le (lo hi : List Nat) : ∀ k, vol lo hi k ≤ 18446744073709551615
  | 0 => by simp [vol]
  | k + 1 => Nat.min_le_left _ _
theorem volume_le (lo hi : List Nat) : volume lo hi ≤ 18446744073709551615 := by
  unfold volume; split
  · omega
  · exact vol_le _ _ _
theorem vol_pos (lo hi : List Nat) : ∀ k, 1 ≤ vol lo hi k
  | 0 => by simp [vol]
  | k + 1 => by
    have h := vol_pos lo hi k
    have : 1 * 1 ≤ vol lo hi k * (g hi k - g lo k + 1) := Nat.mul_le_mul h (by omega)
    simp only [vol]
    omega
theorem vol_top {lo hi : List Nat} {j : Nat} (h : vol lo hi j = 18446744073709551615) : ∀ d, vol lo hi (j + d) = 18446744073709551615
  | 0 => h
  | d + 1 => by
    rw [← Nat.add_assoc]
    have e : 18446744073709551615 * 1 ≤ 18446744073709551615 * (g hi (j + d) - g lo (j + d) + 1) := Nat.mul_le_mul_left _ (by omega)
    simp only [vol, vol_top h d]
    omega
theorem vol_at {lo hi : List Nat} {j k : Nat} (h : vol lo hi j = 18446744073709551615) (hk : j ≤ k) : vol lo hi k = 18446744073709551615 := by
  have := vol_top h (k - j)
  rwa [show j + (k - j) = k by omega] at this
/-- the program's way: the side first, at most 2^64 - 1 -/
theorem vol_step (v s : Nat) (hv : 1 ≤ v) : min 18446744073709551615 (v * min 18446744073709551615 (s + 1)) = min 18446744073709551615 (v * (s + 1)) := by
  by_cases h : s + 1 ≤ 18446744073709551615
  · rw [Nat.min_eq_right h]
  · have e : min 18446744073709551615 (s + 1) = 18446744073709551615 := by omega
    rw [e]
    have h1 : 1 * 18446744073709551615 ≤ v * 18446744073709551615 := Nat.mul_le_mul_right _ hv
    have h2 : 1 * (s + 1) ≤ v * (s + 1) := Nat.mul_le_mul_right _ hv
    omega
theorem vol_mono {lo hi lo' hi' : List Nat} : ∀ {k : Nat}, (∀ i, i < k → g hi i - g lo i ≤ g hi' i - g lo' i) → vol lo hi k ≤ vol lo' hi' k
  | 0, _ => Nat.le_refl _
  | k + 1, h => by
    have h1 := vol_mono (k := k) (fun i hi => h i (by omega))
    have h2 := h k (by omega)
    have : vol lo hi k * (g hi k - g lo k + 1) ≤ vol lo' hi' k * (g hi' k - g lo' k + 1) := Nat.mul_le_mul h1 (by omega)
    simp only [vol]
    omega

/-- the greatest difference of the first k coordinates -/
def dif (a b : Nat) : Nat := max a b - min a b
def far (p q : List Nat) : Nat → Nat
  | 0 => 0
  | k + 1 => max (far p q k) (dif (g p k) (g q k))
theorem dif_lt {a b : Nat} (ha : a < 18446744073709551616) (hb : b < 18446744073709551616) : dif a b < 18446744073709551616 := by unfold dif; omega
theorem far_lt {p q : List Nat} (hp : Ok p) (hq : Ok q) : ∀ k, far p q k < 18446744073709551616
  | 0 => by simp [far]
  | k + 1 => by
    have h1 := far_lt hp hq k
    have h2 := dif_lt (g_lt hp k) (g_lt hq k)
    simp only [far]
    omega
theorem far_le {p q : List Nat} {n : Nat} : ∀ {k : Nat}, far p q k ≤ n ↔ ∀ i, i < k → dif (g p i) (g q i) ≤ n
  | 0 => by simp [far]
  | k + 1 => by
    simp only [far, Nat.max_le, far_le (k := k)]
    constructor
    · rintro ⟨h1, h2⟩ i hi
      rcases Nat.lt_succ_iff_lt_or_eq.1 hi with c | rfl
      · exact h1 i c
      · exact h2
    · exact fun h => ⟨fun i hi => h i (by omega), h k (by omega)⟩

/-- the point of a box that is as near as can be -/
def nearG (lo hi p : List Nat) (i : Nat) : Nat := min (max (g p i) (g lo i)) (g hi i)
def near (lo hi p : List Nat) : List Nat := tab p.length (nearG lo hi p)
theorem near_length (lo hi p : List Nat) : (near lo hi p).length = p.length := tab_length _ _
theorem nearG_lt {lo hi p : List Nat} (hi' : Ok hi) (i : Nat) : nearG lo hi p i < 18446744073709551616 := by
  have := g_lt hi' i
  unfold nearG; omega
theorem near_ok {lo hi p : List Nat} (h : Ok hi) : Ok (near lo hi p) := tab_ok fun i _ => nearG_lt h i
/-- the distance to a box -/
def farTo (lo hi p : List Nat) (k : Nat) : Nat := far p (near lo hi p) k
theorem far_near_succ (lo hi p : List Nat) (k : Nat) (h : k < p.length) : far p (near lo hi p) (k + 1) = max (far p (near lo hi p) k) (dif (g p k) (nearG lo hi p k)) := by
  have e : g (near lo hi p) k = nearG lo hi p k := g_tab _ h
  simp only [far, e]

/-! ### what is in both -/
def meetLo (a b : List Nat) : List Nat := tab a.length fun i => max (g a i) (g b i)
def meetHi (a b : List Nat) : List Nat := tab a.length fun i => min (g a i) (g b i)
theorem meetLo_length (a b : List Nat) : (meetLo a b).length = a.length := tab_length _ _
theorem meetHi_length (a b : List Nat) : (meetHi a b).length = a.length := tab_length _ _
theorem meetLo_ok {a b : List Nat} (ha : Ok a) (hb : Ok b) : Ok (meetLo a b) := tab_ok fun i _ => by
  have := g_lt ha i; have := g_lt hb i; omega
theorem meetHi_ok {a b : List Nat} (ha : Ok a) (_hb : Ok b) : Ok (meetHi a b) := tab_ok fun i _ => by
  have := g_lt ha i; omega
theorem meet_isin {al ah bl bh p : List Nat} {k : Nat} (h1 : k = al.length) (h2 : k = ah.length) :
    isin (meetLo al bl) (meetHi ah bh) p k = (isin al ah p k && isin bl bh p k) := by
  rw [Bool.eq_iff_iff, Bool.and_eq_true, isin_true, isin_true, isin_true]
  have e : ∀ i, i < k → g (meetLo al bl) i = max (g al i) (g bl i) ∧ g (meetHi ah bh) i = min (g ah i) (g bh i) := fun i hi =>
    ⟨g_tab _ (by omega), g_tab _ (by omega)⟩
  constructor
  · intro h
    refine ⟨fun i hi => ?_, fun i hi => ?_⟩
    · obtain ⟨e1, e2⟩ := e i hi; have := h i hi; rw [e1, e2] at this; omega
    · obtain ⟨e1, e2⟩ := e i hi; have := h i hi; rw [e1, e2] at this; omega
  · rintro ⟨x, y⟩ i hi
    obtain ⟨e1, e2⟩ := e i hi; have := x i hi; have := y i hi; rw [e1, e2]; omega
theorem meet_volume {al ah bl bh : List Nat} (h1 : al.length = ah.length) (h2 : bl.length = bh.length) (h3 : al.length = bl.length) :
    volume (meetLo al bl) (meetHi ah bh) ≤ volume al ah ∧ volume (meetLo al bl) (meetHi ah bh) ≤ volume bl bh := by
  have e : ∀ i, i < al.length → g (meetLo al bl) i = max (g al i) (g bl i) ∧ g (meetHi ah bh) i = min (g ah i) (g bh i) := fun i hi =>
    ⟨g_tab _ (by omega), g_tab _ (by omega)⟩
  unfold volume
  rw [meetLo_length]
  by_cases hm : emp (meetLo al bl) (meetHi ah bh) al.length = true
  · rw [if_pos hm]; exact ⟨Nat.zero_le _, Nat.zero_le _⟩
  · rw [if_neg hm]
    have hm2 := emp_false.1 (by simpa using hm)
    have ha : emp al ah al.length = false := emp_false.2 fun i hi => by
      obtain ⟨e1, e2⟩ := e i hi; have := hm2 i hi; rw [e1, e2] at this; omega
    have hb : emp bl bh bl.length = false := emp_false.2 fun i hi => by
      obtain ⟨e1, e2⟩ := e i (by omega); have := hm2 i (by omega); rw [e1, e2] at this; omega
    rw [ha, hb, if_neg (by simp), if_neg (by simp)]
    refine ⟨vol_mono fun i hi => ?_, ?_⟩
    · obtain ⟨e1, e2⟩ := e i hi; rw [e1, e2]; omega
    · rw [← h3]
      exact vol_mono fun i hi => by obtain ⟨e1, e2⟩ := e i hi; rw [e1, e2]; omega

/-! ### what is around -/
def aroLo (p : List Nat) (n : Nat) : List Nat := tab p.length fun i => g p i - n
def aroHi (p : List Nat) (n : Nat) : List Nat := tab p.length fun i => min 18446744073709551615 (g p i + n)
theorem aroLo_length (p : List Nat) (n : Nat) : (aroLo p n).length = p.length := tab_length _ _
theorem aroHi_length (p : List Nat) (n : Nat) : (aroHi p n).length = p.length := tab_length _ _
theorem aroLo_ok {p : List Nat} (h : Ok p) (n : Nat) : Ok (aroLo p n) := tab_ok fun i _ => by have := g_lt h i; omega
theorem aroHi_ok (p : List Nat) (n : Nat) : Ok (aroHi p n) := tab_ok fun i _ => by omega
theorem around_isin {p q : List Nat} {n : Nat} (hq : Ok q) : isin (aroLo p n) (aroHi p n) q p.length = decide (far p q p.length ≤ n) := by
  rw [Bool.eq_iff_iff, decide_eq_true_eq, isin_true, far_le]
  have e : ∀ i, i < p.length → g (aroLo p n) i = g p i - n ∧ g (aroHi p n) i = min 18446744073709551615 (g p i + n) := fun i hi => ⟨g_tab _ hi, g_tab _ hi⟩
  constructor
  · intro h i hi
    obtain ⟨e1, e2⟩ := e i hi; have := h i hi; rw [e1, e2] at this; unfold dif; omega
  · intro h i hi
    obtain ⟨e1, e2⟩ := e i hi; have := h i hi; have := g_lt hq i; unfold dif at *; rw [e1, e2]; omega

/-! ### cells -/
def cellHi (p : List Nat) (k : Nat) : List Nat := tab p.length fun i => cutN (g p i) k + (2 ^ k - 1)
theorem cellHi_length (p : List Nat) (k : Nat) : (cellHi p k).length = p.length := tab_length _ _
theorem g_cut {p : List Nat} {i : Nat} (k : Nat) (h : i < p.length) : g (cut p k) i = cutN (g p i) k := by
  apply g_of
  simp [Z.cut, g_get h]
theorem cutN_bd (u k : Nat) : cutN u k ≤ u ∧ u < cutN u k + 2 ^ k := by
  refine ⟨Z.cutN_le u k, ?_⟩
  unfold Z.cutN
  have h := Nat.div_add_mod u (2 ^ k)
  have h2 := Nat.mod_lt u (Nat.two_pow_pos k)
  rw [Nat.mul_comm] at h
  omega
/-- a number is between the cut one and the last with the same bits just if it is cut to the same -/
theorem cell_iff (u v k : Nat) : (cutN u k ≤ v ∧ v ≤ cutN u k + (2 ^ k - 1)) ↔ cutN u k = cutN v k := by
  have hp := Nat.two_pow_pos k
  have hv := cutN_bd v k
  constructor
  · rintro ⟨h1, h2⟩
    have e : v / 2 ^ k = u / 2 ^ k := by
      rw [Nat.div_eq_iff hp]
      unfold Z.cutN at h1 h2
      exact ⟨h1, by omega⟩
    unfold Z.cutN
    rw [e]
  · intro h
    omega
theorem pow_le_64 {k : Nat} (hk : k ≤ 64) : 2 ^ k ≤ 18446744073709551616 := by
  have := Nat.pow_le_pow_right (n := 2) (by omega) hk
  omega
theorem cell_lt {u k : Nat} (hu : u < 18446744073709551616) (hk : k ≤ 64) : cutN u k + (2 ^ k - 1) < 18446744073709551616 := by
  have hp := Nat.two_pow_pos k
  have h1 : cutN u k + 2 ^ k ≤ 2 ^ 64 := by
    have e : (2 : Nat) ^ 64 = 2 ^ (64 - k) * 2 ^ k := by rw [← Nat.pow_add]; congr 1; omega
    have hd : u / 2 ^ k < 2 ^ (64 - k) := by
      rw [Nat.div_lt_iff_lt_mul hp, ← e]; exact hu
    unfold Z.cutN
    rw [e, ← Nat.succ_mul]
    exact Nat.mul_le_mul_right _ hd
  omega
theorem cellHi_ok {p : List Nat} {k : Nat} (h : Ok p) (hk : k ≤ 64) : Ok (cellHi p k) := tab_ok fun i _ => cell_lt (g_lt h i) hk
theorem cell_isin {p q : List Nat} (k : Nat) (hl : p.length = q.length) : isin (cut p k) (cellHi p k) q p.length = decide (cut p k = cut q k) := by
  rw [Bool.eq_iff_iff, decide_eq_true_eq, isin_true]
  have e : ∀ i, i < p.length → g (cut p k) i = cutN (g p i) k ∧ g (cellHi p k) i = cutN (g p i) k + (2 ^ k - 1) := fun i hi => ⟨g_cut k hi, g_tab _ hi⟩
  constructor
  · intro h
    refine ext_g (by rw [Z.cut_length, Z.cut_length]; exact hl) fun i hi => ?_
    rw [Z.cut_length] at hi
    rw [g_cut k hi, g_cut k (by omega)]
    obtain ⟨e1, e2⟩ := e i hi
    have := h i hi
    rw [e1, e2] at this
    exact (cell_iff _ _ _).1 this
  · intro h i hi
    obtain ⟨e1, e2⟩ := e i hi
    rw [e1, e2]
    refine (cell_iff _ _ _).2 ?_
    rw [← g_cut k hi, ← g_cut k (show i < q.length by omega), h]
/-- the cell at a level is in that at any greater one -/
theorem cut_cut_bd (u a b : Nat) (h : a ≤ b) : cutN u b ≤ cutN u a ∧ cutN u a + 2 ^ a ≤ cutN u b + 2 ^ b := by
  have hpa := Nat.two_pow_pos a
  have ha := cutN_bd u a
  have hb := cutN_bd u b
  obtain ⟨d, rfl⟩ : ∃ d, b = a + d := ⟨b - a, by omega⟩
  unfold Z.cutN at *
  have e : (2 : Nat) ^ (a + d) = 2 ^ d * 2 ^ a := by rw [Nat.pow_add, Nat.mul_comm]
  rw [e] at hb ⊢
  rw [← Nat.mul_assoc] at hb ⊢
  generalize u / (2 ^ d * 2 ^ a) * 2 ^ d = x at *
  generalize u / 2 ^ a = y at *
  generalize (2 : Nat) ^ d = z at *
  generalize (2 : Nat) ^ a = t at *
  have h1 : x < y + 1 := Nat.lt_of_mul_lt_mul_right (a := t) (by rw [Nat.succ_mul]; omega)
  have h2 : y < x + z := Nat.lt_of_mul_lt_mul_right (a := t) (by rw [Nat.add_mul]; omega)
  refine ⟨Nat.mul_le_mul_right _ (by omega), ?_⟩
  rw [← Nat.succ_mul, ← Nat.add_mul]
  exact Nat.mul_le_mul_right _ (by omega)
theorem meet_cells {p : List Nat} {a b : Nat} (h : a ≤ b) : meetLo (cut p a) (cut p b) = cut p a ∧ meetHi (cellHi p a) (cellHi p b) = cellHi p a := by
  have pa := Nat.two_pow_pos a
  have pb := Nat.two_pow_pos b
  refine ⟨ext_g (by rw [meetLo_length]) fun i hi => ?_, ext_g (by rw [meetHi_length]) fun i hi => ?_⟩
  · rw [meetLo_length, Z.cut_length] at hi
    have e : g (meetLo (cut p a) (cut p b)) i = max (g (cut p a) i) (g (cut p b) i) := g_tab _ (by rw [Z.cut_length]; exact hi)
    rw [e, g_cut a hi, g_cut b hi]
    have := cut_cut_bd (g p i) a b h
    omega
  · rw [meetHi_length, cellHi_length] at hi
    have e : g (meetHi (cellHi p a) (cellHi p b)) i = min (g (cellHi p a) i) (g (cellHi p b) i) := g_tab _ (by rw [cellHi_length]; exact hi)
    have e1 : g (cellHi p a) i = cutN (g p i) a + (2 ^ a - 1) := g_tab _ hi
    have e2 : g (cellHi p b) i = cutN (g p i) b + (2 ^ b - 1) := g_tab _ hi
    rw [e, e1, e2]
    have := cut_cut_bd (g p i) a b h
    omega
/-- 2 to the power of e, at most 2^64 - 1 -/
def pw (e : Nat) : Nat := min 18446744073709551615 (2 ^ e)
theorem pw_lt (e : Nat) : pw e < 18446744073709551616 := by unfold pw; omega
theorem cell_vol {p : List Nat} {k : Nat} : ∀ {j : Nat}, j ≤ p.length → vol (cut p k) (cellHi p k) j = pw (k * j)
  | 0, _ => by simp [vol, pw]
  | j + 1, h => by
    have pk := Nat.two_pow_pos k
    have pj := Nat.two_pow_pos (k * j)
    have e1 : g (cut p k) j = cutN (g p j) k := g_cut k (by omega)
    have e2 : g (cellHi p k) j = cutN (g p j) k + (2 ^ k - 1) := g_tab _ (by omega)
    have ih : vol (cut p k) (cellHi p k) j = pw (k * j) := cell_vol (p := p) (k := k) (j := j) (by omega)
    simp only [vol, ih, e1, e2]
    rw [show cutN (g p j) k + (2 ^ k - 1) - cutN (g p j) k + 1 = 2 ^ k by omega]
    unfold pw
    rw [Nat.mul_succ, Nat.pow_add]
    by_cases hb : 2 ^ (k * j) ≤ 18446744073709551615
    · rw [Nat.min_eq_right hb]
    · have e3 : min 18446744073709551615 (2 ^ (k * j)) = 18446744073709551615 := by omega
      rw [e3]
      have h1 : 18446744073709551615 * 1 ≤ 18446744073709551615 * 2 ^ k := Nat.mul_le_mul_left _ pk
      have h2 : 2 ^ (k * j) * 1 ≤ 2 ^ (k * j) * 2 ^ k := Nat.mul_le_mul_left _ pk
      omega
theorem cell_emp {p : List Nat} {k j : Nat} (h : j ≤ p.length) : emp (cut p k) (cellHi p k) j = false := emp_false.2 fun i hi => by
  have e1 : g (cut p k) i = cutN (g p i) k := g_cut k (by omega)
  have e2 : g (cellHi p k) i = cutN (g p i) k + (2 ^ k - 1) := g_tab _ (by omega)
  rw [e1, e2]; omega
theorem cell_volume (p : List Nat) (k : Nat) : volume (cut p k) (cellHi p k) = pw (k * p.length) := by
  unfold volume
  rw [Z.cut_length, cell_emp (Nat.le_refl _), if_neg (by simp), cell_vol (Nat.le_refl _)]
theorem pw_step (e : Nat) : (9223372036854775807 < pw e → pw (e + 1) = 18446744073709551615) ∧ (pw e ≤ 9223372036854775807 → pw (e + 1) = 2 * pw e) := by
  unfold pw
  rw [Nat.pow_succ]
  omega
end Go.Proofs.Ytgplbbmenmbaaaa.Bx
