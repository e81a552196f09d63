/-
  PLAIN MATHEMATICS of layer 1: points as lists of natural numbers below 2^64: their addresses, where two part, which comes first, cuts and places. Nothing of the program is named here.
-/
import Derived.Lib.BitFns
namespace Go.Proofs.Ytgplbbmenmbaaaa.Z

/-- the bit of a number at a level -/
def bit (u l : Nat) : Nat := u / 2 ^ l % 2
/-- the address of a point at a level -/
def addr (us : List Nat) (l : Nat) : Nat := us.foldl (fun a u => 2 * a + bit u l) 0
/-- a point: each coordinate is a uint64 -/
def Ok (us : List Nat) : Prop := ∀ u ∈ us, u < 18446744073709551616

theorem bit_lt (u l : Nat) : bit u l < 2 := Nat.mod_lt _ (by omega)
theorem bit_testBit (u l : Nat) : bit u l = if u.testBit l then 1 else 0 := by
  unfold bit
  have h : u.testBit l = decide (u / 2 ^ l % 2 = 1) := Nat.testBit_eq_decide_div_mod_eq
  have := Nat.mod_lt (u / 2 ^ l) (show 0 < 2 by omega)
  rw [h]
  by_cases e : u / 2 ^ l % 2 = 1 <;> simp [e]
  omega
theorem bit_eq_iff (u v l : Nat) : bit u l = bit v l ↔ u.testBit l = v.testBit l := by
  rw [bit_testBit, bit_testBit]
  cases u.testBit l <;> cases v.testBit l <;> simp

theorem addr_nil (l : Nat) : addr [] l = 0 := rfl
theorem addr_snoc (us : List Nat) (u l : Nat) : addr (us ++ [u]) l = 2 * addr us l + bit u l := by
  simp [addr, List.foldl_append]
theorem take_snoc {α : Type} (us : List α) (k : Nat) (h : k < us.length) : us.take (k + 1) = us.take k ++ [us[k]] := by
  rw [List.take_succ_eq_append_getElem h]
theorem addr_take (us : List Nat) (l k : Nat) (h : k < us.length) : addr (us.take (k + 1)) l = 2 * addr (us.take k) l + bit us[k] l := by
  rw [take_snoc us k h, addr_snoc]
theorem addr_bound (us : List Nat) (l : Nat) : addr us l < 2 ^ us.length := by
  have h : ∀ (vs : List Nat) (a n : Nat), a < 2 ^ n → vs.foldl (fun a u => 2 * a + bit u l) a < 2 ^ (n + vs.length) := by
    intro vs
    induction vs with
    | nil => intro a n h; simpa using h
    | cons v vs ih =>
      intro a n h
      have := bit_lt v l
      have h1 : 2 * a + bit v l < 2 ^ (n + 1) := by rw [Nat.pow_succ]; omega
      have h2 := ih _ _ h1
      simp only [List.foldl_cons, List.length_cons]
      rw [show n + (vs.length + 1) = n + 1 + vs.length by omega]
      exact h2
  have := h us 0 0 (by simp)
  simpa [addr] using this
theorem addr_le (us : List Nat) (l k : Nat) (hk : us.length ≤ k) : addr us l < 2 ^ k :=
  Nat.lt_of_lt_of_le (addr_bound us l) (Nat.pow_le_pow_right (by omega) hk)

/-- two points of as many coordinates have one address at a level just if their bits there are the same -/
theorem addr_eq_iff (us vs : List Nat) (l : Nat) (h : us.length = vs.length) : addr us l = addr vs l ↔ us.map (bit · l) = vs.map (bit · l) := by
  have H : ∀ (us vs : List Nat) (a b : Nat), us.length = vs.length →
      (us.foldl (fun a u => 2 * a + bit u l) a = vs.foldl (fun a u => 2 * a + bit u l) b ↔ a = b ∧ us.map (bit · l) = vs.map (bit · l)) := by
    intro us
    induction us with
    | nil => intro vs a b h; cases vs <;> simp at h ⊢
    | cons u us ih =>
      intro vs a b h
      cases vs with
      | nil => simp at h
      | cons v vs =>
        have h' : us.length = vs.length := by simpa using h
        simp only [List.foldl_cons, List.map_cons, List.cons.injEq]
        rw [ih vs _ _ h']
        have := bit_lt u l
        have := bit_lt v l
        constructor
        · rintro ⟨e, r⟩; exact ⟨by omega, by omega, r⟩
        · rintro ⟨e, e2, r⟩; exact ⟨by omega, r⟩
  have := H us vs 0 0 h
  simpa [addr] using this

theorem points_eq {us vs : List Nat} (h : us.length = vs.length) (hu : Ok us) (hv : Ok vs) (he : ∀ l, l < 64 → addr us l = addr vs l) : us = vs := by
  apply List.ext_getElem h
  intro i h1 h2
  apply Nat.eq_of_testBit_eq
  intro l
  by_cases hl : l < 64
  · have e := (addr_eq_iff us vs l h).1 (he l hl)
    have e2 : (us.map (bit · l))[i]? = (vs.map (bit · l))[i]? := by rw [e]
    simp [h1, h2] at e2
    exact (bit_eq_iff _ _ _).1 e2
  · have a1 := hu us[i] (List.getElem_mem h1)
    have a2 := hv vs[i] (List.getElem_mem h2)
    have p : 2 ^ 64 ≤ 2 ^ l := Nat.pow_le_pow_right (by omega) (by omega)
    rw [Nat.testBit_lt_two_pow (by omega), Nat.testBit_lt_two_pow (by omega)]
theorem addr_high {us : List Nat} (hu : Ok us) (l : Nat) (hl : 64 ≤ l) : addr us l = 0 := by
  have H : ∀ (us : List Nat), Ok us → us.foldl (fun a u => 2 * a + bit u l) 0 = 0 := by
    intro us
    induction us with
    | nil => intro _; rfl
    | cons u us ih =>
      intro h
      have a1 := h u (by simp)
      have p : 2 ^ 64 ≤ 2 ^ l := Nat.pow_le_pow_right (by omega) (by omega)
      have b : bit u l = 0 := by
        unfold bit
        rw [Nat.div_eq_of_lt (by omega)]
      simp only [List.foldl_cons, b]
      exact ih (fun v hv => h v (by simp [hv]))
  exact H us hu

/-! ### where two points part -/
/-- the bits in which they are unlike -/
def orx (us vs : List Nat) : Nat := (us.zip vs).foldl (fun a p => a ||| (p.1 ^^^ p.2)) 0
def part (us vs : List Nat) : Int := (Lib.bitLen (orx us vs) : Int) - 1
def cmp (us vs : List Nat) : Int := if part us vs < 0 then 0 else if addr us (part us vs).toNat < addr vs (part us vs).toNat then -1 else 1

theorem orx_take (us vs : List Nat) (h : us.length = vs.length) (k : Nat) (hk : k < us.length) (hk' : k < vs.length) :
    orx (us.take (k + 1)) (vs.take (k + 1)) = orx (us.take k) (vs.take k) ||| (us[k] ^^^ vs[k]) := by
  have e : ∀ j, (us.take j).zip (vs.take j) = (us.zip vs).take j := fun j => (List.take_zipWith (f := Prod.mk) (l := us) (l' := vs)).symm
  unfold orx
  rw [e, e, take_snoc (us.zip vs) k (by simp; omega), List.foldl_append]
  simp
theorem orx_lt {us vs : List Nat} (hu : Ok us) (hv : Ok vs) : orx us vs < 18446744073709551616 := by
  have H : ∀ (ps : List (Nat × Nat)) (a : Nat), a < 2 ^ 64 → (∀ p ∈ ps, p.1 < 2 ^ 64 ∧ p.2 < 2 ^ 64) → ps.foldl (fun a p => a ||| (p.1 ^^^ p.2)) a < 2 ^ 64 := by
    intro ps
    induction ps with
    | nil => intro a h _; exact h
    | cons p ps ih =>
      intro a h hp
      have := hp p (by simp)
      exact ih _ (Nat.or_lt_two_pow h (Nat.xor_lt_two_pow this.1 this.2)) (fun q hq => hp q (by simp [hq]))
  exact H _ 0 (by omega) (fun p hp => ⟨by have := hu _ (List.of_mem_zip hp).1; omega, by have := hv _ (List.of_mem_zip hp).2; omega⟩)
theorem orx_testBit (us vs : List Nat) (l : Nat) (h : us.length = vs.length) : (orx us vs).testBit l = true ↔ addr us l ≠ addr vs l := by
  have H : ∀ (us vs : List Nat) (a : Nat), us.length = vs.length →
      (((us.zip vs).foldl (fun a p => a ||| (p.1 ^^^ p.2)) a).testBit l = true ↔ a.testBit l = true ∨ us.map (bit · l) ≠ vs.map (bit · l)) := by
    intro us
    induction us with
    | nil => intro vs a h; cases vs <;> simp at h ⊢
    | cons u us ih =>
      intro vs a h
      cases vs with
      | nil => simp at h
      | cons v vs =>
        have h' : us.length = vs.length := by simpa using h
        simp only [List.zip_cons_cons, List.foldl_cons, List.map_cons, ne_eq, List.cons.injEq, bit_eq_iff]
        rw [ih vs _ h']
        simp only [Nat.testBit_or, Nat.testBit_xor, ne_eq, Bool.or_eq_true]
        cases u.testBit l <;> cases v.testBit l <;> cases a.testBit l <;> simp
  have := H us vs 0 h
  rw [addr_ne_iff us vs l h]
  simpa [orx] using this
where addr_ne_iff (us vs : List Nat) (l : Nat) (h : us.length = vs.length) : addr us l ≠ addr vs l ↔ us.map (bit · l) ≠ vs.map (bit · l) := not_congr (addr_eq_iff us vs l h)

theorem bitLen_zero : Lib.bitLen 0 = 0 := by decide +kernel
theorem bitLen_top : ∀ (x : Nat), x < 2 ^ 64 → x ≠ 0 → ∃ l, Lib.bitLen x = l + 1 ∧ l < 64 ∧ x.testBit l = true ∧ ∀ m, l < m → x.testBit m = false := by
  have H : ∀ (n x : Nat), n ≤ 64 → x < 2 ^ n → x ≠ 0 → ∃ l, Lib.bitLen x = l + 1 ∧ l < n ∧ x.testBit l = true ∧ ∀ m, l < m → x.testBit m = false := by
    intro n
    induction n with
    | zero => intro x _ h h0; simp at h; exact absurd h h0
    | succ n ih =>
      intro x hn h h0
      have h64 : x < 2 ^ 64 := Nat.lt_of_lt_of_le h (Nat.pow_le_pow_right (by omega) hn)
      have e := Lib.bitLen_half x h0 h64
      by_cases hz : x / 2 = 0
      · have hx1 : x = 1 := by omega
        subst hx1
        refine ⟨0, by rw [e, hz, bitLen_zero], by omega, by decide, ?_⟩
        intro m hm
        exact Nat.testBit_lt_two_pow (by have := Nat.pow_le_pow_right (n := 2) (by omega) (show 1 ≤ m by omega); omega)
      · obtain ⟨l, h1, h2, h3, h4⟩ := ih (x / 2) (by omega) (by rw [Nat.pow_succ] at h; omega) hz
        refine ⟨l + 1, by rw [e, h1]; omega, by omega, by rw [Nat.testBit_succ]; exact h3, ?_⟩
        intro m hm
        cases m with
        | zero => omega
        | succ m => rw [Nat.testBit_succ]; exact h4 m (by omega)
  intro x hx h0
  exact H 64 x (by omega) hx h0

/-- what 'part' is: -1 if they are the same at all levels, else the highest level at which their addresses are unlike -/
theorem part_spec {us vs : List Nat} (h : us.length = vs.length) (hu : Ok us) (hv : Ok vs) :
    (part us vs = -1 ∧ us = vs) ∨ ∃ l : Nat, l < 64 ∧ part us vs = (l : Int) ∧ addr us l ≠ addr vs l ∧ ∀ m, l < m → addr us m = addr vs m := by
  have hx := orx_lt hu hv
  by_cases h0 : orx us vs = 0
  · left
    refine ⟨by unfold part; rw [h0, bitLen_zero]; rfl, points_eq h hu hv fun l _ => ?_⟩
    have := mt (orx_testBit us vs l h).2
    simp only [ne_eq, Decidable.not_not] at this
    exact this (by rw [h0]; simp)
  · right
    obtain ⟨l, h1, h2, h3, h4⟩ := bitLen_top _ (by omega) h0
    refine ⟨l, h2, by unfold part; rw [h1]; omega, (orx_testBit us vs l h).1 h3, fun m hm => ?_⟩
    have := mt (orx_testBit us vs m h).2
    simp only [ne_eq, Decidable.not_not] at this
    exact this (by rw [h4 m hm]; simp)
theorem part_eq {us vs : List Nat} (h : us.length = vs.length) (hu : Ok us) (hv : Ok vs) (l : Nat) (hd : addr us l ≠ addr vs l) (hs : ∀ m, l < m → m < 64 → addr us m = addr vs m) : part us vs = (l : Int) := by
  rcases part_spec h hu hv with ⟨_, rfl⟩ | ⟨m, hm, e, hd', hs'⟩
  · exact absurd rfl hd
  · have : m = l := by
      rcases Nat.lt_trichotomy l m with c | c | c
      · exact absurd (hs m c hm) hd'
      · exact c.symm
      · exact absurd (hs' l c) hd
    rw [e, this]
theorem part_same (us : List Nat) (hu : Ok us) : part us us = -1 := by
  rcases part_spec rfl hu hu with ⟨e, _⟩ | ⟨l, _, _, hd, _⟩
  · exact e
  · exact absurd rfl hd
theorem part_bd {us vs : List Nat} (h : us.length = vs.length) (hu : Ok us) (hv : Ok vs) : -1 ≤ part us vs ∧ part us vs ≤ 63 := by
  rcases part_spec h hu hv with ⟨e, _⟩ | ⟨l, hl, e, _⟩ <;> omega
theorem part_neg {us vs : List Nat} (h : us.length = vs.length) (hu : Ok us) (hv : Ok vs) : part us vs < 0 ↔ us = vs := by
  rcases part_spec h hu hv with ⟨e, r⟩ | ⟨l, hl, e, hd, _⟩
  · exact ⟨fun _ => r, fun _ => by omega⟩
  · exact ⟨fun _ => by omega, fun r => absurd (by rw [r]) hd⟩
theorem part_symm {us vs : List Nat} (h : us.length = vs.length) (hu : Ok us) (hv : Ok vs) : part vs us = part us vs := by
  rcases part_spec h hu hv with ⟨e, r⟩ | ⟨l, hl, e, hd, hs⟩
  · subst r; rfl
  · rw [e]; exact part_eq h.symm hv hu l (fun c => hd c.symm) (fun m hm _ => (hs m hm).symm)

theorem cmp_same (us : List Nat) (hu : Ok us) : cmp us us = 0 := by
  unfold cmp; rw [part_same us hu]; simp
/-- what 'cmp' is, once it is known where they part -/
theorem cmp_at {us vs : List Nat} {l : Nat} (h : part us vs = (l : Int)) : cmp us vs = if addr us l < addr vs l then -1 else 1 := by
  unfold cmp
  rw [h, if_neg (by omega)]
  simp
theorem cmp_vals {us vs : List Nat} (h : us.length = vs.length) (hu : Ok us) (hv : Ok vs) :
    (us = vs ∧ cmp us vs = 0) ∨ ∃ l : Nat, l < 64 ∧ part us vs = (l : Int) ∧ (∀ m, l < m → addr us m = addr vs m) ∧ ((addr us l < addr vs l ∧ cmp us vs = -1) ∨ (addr vs l < addr us l ∧ cmp us vs = 1)) := by
  rcases part_spec h hu hv with ⟨e, r⟩ | ⟨l, hl, e, hd, hs⟩
  · subst r; exact .inl ⟨rfl, cmp_same us hu⟩
  · refine .inr ⟨l, hl, e, hs, ?_⟩
    rw [cmp_at e]
    rcases Nat.lt_or_gt_of_ne hd with c | c
    · exact .inl ⟨c, by rw [if_pos c]⟩
    · exact .inr ⟨c, by rw [if_neg (by omega)]⟩
theorem cmp_bd (us vs : List Nat) : cmp us vs = -1 ∨ cmp us vs = 0 ∨ cmp us vs = 1 := by
  unfold cmp; split
  · simp
  · split <;> simp
theorem cmp_neg {us vs : List Nat} (h : us.length = vs.length) (hu : Ok us) (hv : Ok vs) : cmp us vs + cmp vs us = 0 := by
  rcases cmp_vals h hu hv with ⟨r, e⟩ | ⟨l, hl, e, hs, hc⟩
  · subst r; omega
  · have e2 : part vs us = (l : Int) := by rw [part_symm h hu hv, e]
    have := cmp_at e
    have h2 := cmp_at e2
    rcases hc with ⟨c, hc⟩ | ⟨c, hc⟩
    · rw [hc, h2, if_neg (by omega)]; rfl
    · rw [hc, h2, if_pos c]; rfl
theorem cmp_zero {us vs : List Nat} (h : us.length = vs.length) (hu : Ok us) (hv : Ok vs) : cmp us vs = 0 ↔ us = vs := by
  rcases cmp_vals h hu hv with ⟨r, e⟩ | ⟨l, hl, e, hs, hc⟩
  · exact ⟨fun _ => r, fun _ => e⟩
  · constructor
    · intro h0; rcases hc with ⟨_, c⟩ | ⟨_, c⟩ <;> omega
    · intro r; subst r; rcases hc with ⟨c, _⟩ | ⟨c, _⟩ <;> omega
/-- an order: from p no behind q and q no behind r, p no behind r -/
theorem cmp_trans {p q r : List Nat} (h1 : p.length = q.length) (h2 : q.length = r.length) (hp : Ok p) (hq : Ok q) (hr : Ok r) (a : cmp p q ≤ 0) (b : cmp q r ≤ 0) : cmp p r ≤ 0 := by
  rcases cmp_vals h1 hp hq with ⟨e, _⟩ | ⟨l, hl, el, hs, hc⟩
  · subst e; exact b
  rcases cmp_vals h2 hq hr with ⟨e, _⟩ | ⟨m, hm, em, ht, hd⟩
  · subst e; exact a
  have hc : addr p l < addr q l := by rcases hc with c | c <;> omega
  have hd : addr q m < addr r m := by rcases hd with c | c <;> omega
  have key : ∃ n, addr p n < addr r n ∧ ∀ k, n < k → addr p k = addr r k := by
    rcases Nat.lt_trichotomy l m with c | c | c
    · exact ⟨m, by rw [hs m c]; exact hd, fun k hk => (hs k (by omega)).trans (ht k hk)⟩
    · subst c; exact ⟨l, by omega, fun k hk => (hs k hk).trans (ht k hk)⟩
    · exact ⟨l, by rw [← ht l c]; exact hc, fun k hk => (hs k hk).trans (ht k (by omega))⟩
  obtain ⟨n, hn, hk⟩ := key
  have e := part_eq (h1.trans h2) hp hr n (by omega) (fun k hk' _ => hk k hk')
  rw [cmp_at e, if_pos hn]; decide

/-! ### cuts and places -/
/-- a number without its bits below k -/
def cutN (u k : Nat) : Nat := u / 2 ^ k * 2 ^ k
def cut (us : List Nat) (k : Nat) : List Nat := us.map (cutN · k)
/-- the point cut above a level, with another address there -/
def place (us : List Nat) (l a : Nat) : List Nat := us.mapIdx fun i u => cutN u (l + 1) + bit a (us.length - 1 - i) * 2 ^ l

theorem cut_length (us : List Nat) (k : Nat) : (cut us k).length = us.length := by simp [cut]
theorem place_length (us : List Nat) (l a : Nat) : (place us l a).length = us.length := by simp [place]
theorem cutN_le (u k : Nat) : cutN u k ≤ u := Nat.div_mul_le_self _ _
theorem cut_ok {us : List Nat} (h : Ok us) (k : Nat) : Ok (cut us k) := by
  intro v hv
  simp only [cut, List.mem_map] at hv
  obtain ⟨u, hu, rfl⟩ := hv
  exact Nat.lt_of_le_of_lt (cutN_le _ _) (h u hu)
theorem cutN_testBit (u k m : Nat) : (cutN u k).testBit m = (decide (k ≤ m) && u.testBit m) := by
  have e : cutN u k = (u >>> k) <<< k := by rw [Nat.shiftLeft_eq, Nat.shiftRight_eq_div_pow]; rfl
  rw [e, Nat.testBit_shiftLeft, Nat.testBit_shiftRight]
  by_cases h : k ≤ m
  · simp [h]
  · simp [h]
theorem cutN_bit (u k m : Nat) : bit (cutN u k) m = if k ≤ m then bit u m else 0 := by
  rw [bit_testBit, bit_testBit, cutN_testBit]
  by_cases h : k ≤ m <;> simp [h]
theorem cutN_high (u k : Nat) (hu : u < 2 ^ k) : cutN u k = 0 := by unfold cutN; rw [Nat.div_eq_of_lt hu]; simp
/-- one bit more is cut -/
theorem cutN_succ (u k : Nat) : cutN u k = cutN u (k + 1) + bit u k * 2 ^ k := by
  unfold cutN bit
  have e : u / 2 ^ (k + 1) = u / 2 ^ k / 2 := by rw [Nat.pow_succ, Nat.div_div_eq_div_mul]
  rw [e, Nat.pow_succ]
  generalize u / 2 ^ k = x
  have h := Nat.div_add_mod x 2
  calc x * 2 ^ k = (2 * (x / 2) + x % 2) * 2 ^ k := by rw [h]
    _ = x / 2 * (2 ^ k * 2) + x % 2 * 2 ^ k := by rw [Nat.add_mul, Nat.mul_comm 2, Nat.mul_assoc, Nat.mul_comm 2]
theorem cut_addr (us : List Nat) (k m : Nat) : addr (cut us k) m = if k ≤ m then addr us m else 0 := by
  have H : ∀ (us : List Nat) (a : Nat), (k ≤ m ∨ a = 0) → (us.map (cutN · k)).foldl (fun a u => 2 * a + bit u m) a = if k ≤ m then us.foldl (fun a u => 2 * a + bit u m) a else 0 := by
    intro us
    induction us with
    | nil => intro a h; by_cases c : k ≤ m <;> simp [c]; omega
    | cons u us ih =>
      intro a h
      simp only [List.map_cons, List.foldl_cons, cutN_bit]
      rw [ih _ (by by_cases c : k ≤ m <;> simp [c]; omega)]
      by_cases c : k ≤ m <;> simp [c]
  exact H us 0 (by omega)
/-- two points are the same, cut at k, just if they part below k -/
theorem cut_eq_iff {us vs : List Nat} (h : us.length = vs.length) (hu : Ok us) (hv : Ok vs) (k : Nat) : cut us k = cut vs k ↔ part us vs < (k : Int) := by
  have hl : (cut us k).length = (cut vs k).length := by rw [cut_length, cut_length, h]
  rcases part_spec h hu hv with ⟨e, r⟩ | ⟨l, hl64, e, hd, hs⟩
  · subst r; exact ⟨fun _ => by omega, fun _ => rfl⟩
  · constructor
    · intro c
      rw [e]
      have a1 := cut_addr us k l
      have a2 := cut_addr vs k l
      rw [c] at a1
      by_cases hk : k ≤ l
      · rw [if_pos hk] at a1 a2; exact absurd (a1.symm.trans a2) hd
      · omega
    · intro c
      apply points_eq hl (cut_ok hu k) (cut_ok hv k)
      intro m _
      rw [cut_addr, cut_addr]
      by_cases hk : k ≤ m
      · rw [if_pos hk, if_pos hk]; exact hs m (by omega)
      · rw [if_neg hk, if_neg hk]
/-- where points part above the cut their order stays -/
theorem cut_cmp {us vs : List Nat} (h : us.length = vs.length) (hu : Ok us) (hv : Ok vs) (k : Nat) (hp : (k : Int) ≤ part us vs) : cmp (cut us k) (cut vs k) = cmp us vs := by
  have hl : (cut us k).length = (cut vs k).length := by rw [cut_length, cut_length, h]
  rcases part_spec h hu hv with ⟨e, r⟩ | ⟨l, hl64, e, hd, hs⟩
  · omega
  · have hk : k ≤ l := by omega
    have e2 : part (cut us k) (cut vs k) = (l : Int) := by
      apply part_eq hl (cut_ok hu k) (cut_ok hv k)
      · rw [cut_addr, cut_addr, if_pos hk, if_pos hk]; exact hd
      · intro m hm _
        rw [cut_addr, cut_addr, if_pos (by omega), if_pos (by omega)]; exact hs m hm
    rw [cmp_at e, cmp_at e2, cut_addr, cut_addr, if_pos hk, if_pos hk]

theorem place_get (us : List Nat) (l a i : Nat) (h : i < (place us l a).length) (h' : i < us.length) : (place us l a)[i] = cutN us[i] (l + 1) + bit a (us.length - 1 - i) * 2 ^ l := by
  simp [place]
theorem placeN_lt (u l b : Nat) (hu : u < 18446744073709551616) (hl : l < 64) (hb : b < 2) : cutN u (l + 1) + b * 2 ^ l < 18446744073709551616 := by
  have h1 := Nat.div_mul_le_self u (2 ^ (l + 1))
  unfold cutN
  have e : (18446744073709551616 : Nat) = 2 ^ (64 - (l + 1)) * 2 ^ (l + 1) := by
    rw [← Nat.pow_add, show 64 - (l + 1) + (l + 1) = 64 by omega]
  have hq : u / 2 ^ (l + 1) < 2 ^ (64 - (l + 1)) := by
    apply Nat.div_lt_of_lt_mul
    rw [Nat.mul_comm, ← e]; exact hu
  have hb2 : b * 2 ^ l < 2 ^ (l + 1) := by
    rw [Nat.pow_succ, Nat.mul_comm (2 ^ l) 2]
    exact Nat.mul_lt_mul_of_pos_right hb (Nat.two_pow_pos l)
  calc u / 2 ^ (l + 1) * 2 ^ (l + 1) + b * 2 ^ l < u / 2 ^ (l + 1) * 2 ^ (l + 1) + 2 ^ (l + 1) := by omega
    _ = (u / 2 ^ (l + 1) + 1) * 2 ^ (l + 1) := by rw [Nat.add_mul, Nat.one_mul]
    _ ≤ 2 ^ (64 - (l + 1)) * 2 ^ (l + 1) := Nat.mul_le_mul_right _ hq
    _ = 18446744073709551616 := e.symm
theorem place_ok {us : List Nat} (h : Ok us) (l a : Nat) (hl : l < 64) : Ok (place us l a) := by
  intro v hv
  obtain ⟨i, hi, rfl⟩ := List.getElem_of_mem hv
  have hi' : i < us.length := by simpa [place_length] using hi
  rw [place_get us l a i hi hi']
  exact placeN_lt _ _ _ (h _ (List.getElem_mem hi')) hl (bit_lt _ _)
theorem placeN_bit (u l b : Nat) (hb : b < 2) : bit (cutN u (l + 1) + b * 2 ^ l) l = b := by
  unfold bit cutN
  rw [Nat.pow_succ]
  have e : u / (2 ^ l * 2) * (2 ^ l * 2) + b * 2 ^ l = (u / (2 ^ l * 2) * 2 + b) * 2 ^ l := by
    rw [Nat.add_mul, Nat.mul_assoc, Nat.mul_comm 2]
  rw [e, Nat.mul_div_cancel _ (Nat.two_pow_pos l)]
  omega
/-- the address of the placed point at its level is what was put there -/
theorem addr_place (us : List Nat) (l a : Nat) (ha : a < 2 ^ us.length) : addr (place us l a) l = a := by
  have H : ∀ k, k ≤ us.length → addr ((place us l a).take k) l = a / 2 ^ (us.length - k) := by
    intro k
    induction k with
    | zero => intro _; simp [addr_nil]; exact (Nat.div_eq_of_lt ha).symm
    | succ k ih =>
      intro hk
      have h1 : k < (place us l a).length := by rw [place_length]; omega
      rw [addr_take _ _ _ h1, ih (by omega), place_get us l a k h1 (by omega), placeN_bit _ _ _ (bit_lt _ _)]
      unfold bit
      rw [show us.length - k = us.length - (k + 1) + 1 by omega, Nat.pow_succ, ← Nat.div_div_eq_div_mul, show us.length - 1 - k = us.length - (k + 1) by omega]
      omega
  have h := H us.length (Nat.le_refl _)
  rw [List.take_of_length_le (by rw [place_length]; omega)] at h
  simpa using h

/-! ### lists that are written from the front, or from the back -/
theorem mix_get {α : Type} (P C : List α) (k : Nat) (hk : k ≤ P.length) (i : Nat) : (P.take k ++ C.drop k)[i]? = if i < k then P[i]? else C[i]? := by
  rw [List.getElem?_append, List.length_take, Nat.min_eq_left hk, List.getElem?_take, List.getElem?_drop]
  by_cases c : i < k
  · simp [c]
  · rw [if_neg c, if_neg c, show k + (i - k) = i by omega]
theorem set_front {α : Type} (P C : List α) (h : P.length = C.length) (k : Nat) (hk : k < P.length) : (P.take k ++ C.drop k).set k P[k] = P.take (k + 1) ++ C.drop (k + 1) := by
  apply List.ext_getElem?
  intro i
  rw [List.getElem?_set, mix_get P C k (by omega), mix_get P C (k + 1) (by omega)]
  have hl : (P.take k ++ C.drop k).length = C.length := by simp; omega
  by_cases e : k = i
  · subst e
    rw [if_pos rfl, hl, if_pos (by omega), if_pos (by omega)]
    simp
  · rw [if_neg e]
    by_cases c : i < k
    · rw [if_pos c, if_pos (by omega)]
    · rw [if_neg c, if_neg (by omega)]
theorem set_back {α : Type} (C P : List α) (h : P.length = C.length) (k : Nat) (hk : k < P.length) : (C.take (k + 1) ++ P.drop (k + 1)).set k P[k] = C.take k ++ P.drop k := by
  apply List.ext_getElem?
  intro i
  rw [List.getElem?_set, mix_get C P k (by omega), mix_get C P (k + 1) (by omega)]
  have hl : (C.take (k + 1) ++ P.drop (k + 1)).length = C.length := by simp; omega
  by_cases e : k = i
  · subst e
    rw [if_pos rfl, hl, if_pos (by omega), if_neg (by omega)]
    simp
  · rw [if_neg e]
    by_cases c : i < k
    · rw [if_pos (by omega), if_pos c]
    · rw [if_neg (by omega), if_neg c]

theorem set_front' {α : Type} (P C : List α) (h : P.length = C.length) (k : Nat) (x : α) (hx : P[k]? = some x) : (P.take k ++ C.drop k).set k x = P.take (k + 1) ++ C.drop (k + 1) := by
  obtain ⟨hk, rfl⟩ := List.getElem?_eq_some_iff.1 hx
  exact set_front P C h k hk
theorem set_back' {α : Type} (C P : List α) (h : P.length = C.length) (k : Nat) (x : α) (hx : P[k]? = some x) : (C.take (k + 1) ++ P.drop (k + 1)).set k x = C.take k ++ P.drop k := by
  obtain ⟨hk, rfl⟩ := List.getElem?_eq_some_iff.1 hx
  exact set_back C P h k hk

end Go.Proofs.Ytgplbbmenmbaaaa.Z
