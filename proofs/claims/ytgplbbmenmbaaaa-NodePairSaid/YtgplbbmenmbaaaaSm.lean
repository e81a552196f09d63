/-
  PLAIN MATHEMATICS of layer 5: things at addresses as a list of pairs, rising: what is at an address, what becomes of the list when a thing is put, or taken away; the word of bits and the cells of dense slots. Nothing of the program is named here.
-/
import Derived.Test.YtgplbbmenmbaaaaMm
import Derived.Test.YtgplbbmenmbaaaaPc
import Derived.Lib.TrailingZeros
namespace Go.Proofs.Ytgplbbmenmbaaaa.Sl
open Go.Proofs.Ytgplbbmenmbaaaa.Z Go.Proofs.Ytgplbbmenmbaaaa.Mk
variable {V : Type}

def Srt (L : List (Nat × V)) : Prop := L.Pairwise (fun p q => p.1 < q.1)
/-- how many keys are below a number -/
def idx : List (Nat × V) → Int → Nat
  | [], _ => 0
  | p :: L, a => if (p.1 : Int) < a then idx L a + 1 else 0
def get : List (Nat × V) → Int → Option V
  | [], _ => none
  | p :: L, a => if (p.1 : Int) = a then some p.2 else get L a
def del (a : Nat) : List (Nat × V) → List (Nat × V)
  | [] => []
  | p :: L => if p.1 = a then L else p :: del a L
def put (a : Nat) (v : V) : List (Nat × V) → List (Nat × V)
  | [] => [(a, v)]
  | p :: L => if p.1 < a then p :: put a v L else if p.1 = a then (a, v) :: L else (a, v) :: p :: L
def keys (L : List (Nat × V)) : List Nat := L.map (·.1)
def things (L : List (Nat × V)) : List V := L.map (·.2)
theorem keys_length (L : List (Nat × V)) : (keys L).length = L.length := by simp [keys]
theorem things_length (L : List (Nat × V)) : (things L).length = L.length := by simp [things]
theorem keys_get {L : List (Nat × V)} {i : Nat} {p : Nat × V} (h : L[i]? = some p) : (keys L)[i]? = some p.1 := by simp [keys, h]
theorem things_get {L : List (Nat × V)} {i : Nat} {p : Nat × V} (h : L[i]? = some p) : (things L)[i]? = some p.2 := by simp [things, h]
theorem srt_nil : Srt ([] : List (Nat × V)) := List.Pairwise.nil
theorem Srt.tail {p : Nat × V} {L : List (Nat × V)} (h : Srt (p :: L)) : Srt L := (List.pairwise_cons.1 h).2
theorem Srt.head {p : Nat × V} {L : List (Nat × V)} (h : Srt (p :: L)) : ∀ q ∈ L, p.1 < q.1 := (List.pairwise_cons.1 h).1
theorem srt_get {L : List (Nat × V)} (h : Srt L) {i j : Nat} {p q : Nat × V} (hp : L[i]? = some p) (hq : L[j]? = some q) (hij : i < j) : p.1 < q.1 := by
  obtain ⟨a1, rfl⟩ := List.getElem?_eq_some_iff.1 hp
  obtain ⟨a2, rfl⟩ := List.getElem?_eq_some_iff.1 hq
  exact List.pairwise_iff_getElem.1 h i j a1 a2 hij

theorem idx_le : ∀ (L : List (Nat × V)) (a : Int), idx L a ≤ L.length
  | [], _ => Nat.le_refl _
  | p :: L, a => by
    have := idx_le L a
    simp only [idx, List.length_cons]
    split <;> omega
theorem idx_below : ∀ (L : List (Nat × V)) (a : Int) (j : Nat) (p : Nat × V), j < idx L a → L[j]? = some p → (p.1 : Int) < a
  | [], _, j, p, h, _ => by simp [idx] at h
  | q :: L, a, j, p, h, hp => by
    simp only [idx] at h
    split at h
    · rename_i hq
      cases j with
      | zero => simp at hp; subst hp; exact hq
      | succ j => exact idx_below L a j p (by omega) (by simpa using hp)
    · omega
theorem idx_uniq : ∀ (L : List (Nat × V)) (a : Int) (i : Nat), i ≤ L.length → (∀ j p, j < i → L[j]? = some p → (p.1 : Int) < a) → (∀ p, L[i]? = some p → a ≤ (p.1 : Int)) → idx L a = i
  | [], a, i, h, _, _ => by simp at h; subst h; rfl
  | q :: L, a, i, h, h1, h2 => by
    simp only [idx]
    cases i with
    | zero =>
      have := h2 q (by simp)
      rw [if_neg (by omega)]
    | succ i =>
      have := h1 0 q (by omega) (by simp)
      rw [if_pos this]
      have := idx_uniq L a i (by simpa using h) (fun j p hj hp => h1 (j + 1) p (by omega) (by simpa using hp)) (fun p hp => h2 p (by simpa using hp))
      rw [this]
theorem idx_at : ∀ (L : List (Nat × V)) (a : Int) (p : Nat × V), L[idx L a]? = some p → a ≤ (p.1 : Int)
  | [], _, p, h => by simp [idx] at h
  | q :: L, a, p, h => by
    simp only [idx] at h
    split at h
    · exact idx_at L a p (by simpa using h)
    · rename_i hq
      simp at h
      subst h
      omega
theorem idx_above {L : List (Nat × V)} (h : Srt L) (a : Int) {j : Nat} {p : Nat × V} (hj : idx L a ≤ j) (hp : L[j]? = some p) : a ≤ (p.1 : Int) := by
  have hlt := (List.getElem?_eq_some_iff.1 hp).1
  obtain ⟨q, hq⟩ : ∃ q, L[idx L a]? = some q := ⟨_, List.getElem?_eq_getElem (by omega)⟩
  have h1 := idx_at L a q hq
  rcases Nat.lt_or_eq_of_le hj with h2 | h2
  · have := srt_get h hq hp h2
    omega
  · subst h2
    rw [hq] at hp
    cases hp
    exact h1
theorem get_mem : ∀ (L : List (Nat × V)) (a : Int) (v : V), get L a = some v → ∃ n : Nat, a = (n : Int) ∧ (n, v) ∈ L
  | [], _, _, h => by simp [get] at h
  | q :: L, a, v, h => by
    simp only [get] at h
    split at h
    · rename_i e
      simp at h
      subst h
      exact ⟨q.1, e.symm, by simp⟩
    · obtain ⟨n, h1, h2⟩ := get_mem L a v h
      exact ⟨n, h1, by simp [h2]⟩
theorem get_none : ∀ {L : List (Nat × V)} {a : Int}, get L a = none → ∀ p ∈ L, (p.1 : Int) ≠ a
  | [], _, _, p, hp => by simp at hp
  | q :: L, a, h, p, hp => by
    simp only [get] at h
    split at h
    · simp at h
    · rename_i e
      rcases List.mem_cons.1 hp with rfl | hp
      · exact e
      · exact get_none h p hp
theorem get_of_mem : ∀ {L : List (Nat × V)} (_ : Srt L) {p : Nat × V}, p ∈ L → get L (p.1 : Int) = some p.2
  | [], _, p, hp => by simp at hp
  | q :: L, h, p, hp => by
    simp only [get]
    rcases List.mem_cons.1 hp with rfl | hp
    · simp
    · have := h.head p hp
      rw [if_neg (by omega)]
      exact get_of_mem h.tail hp
theorem get_iff {L : List (Nat × V)} (h : Srt L) {a : Nat} {v : V} : get L (a : Int) = some v ↔ (a, v) ∈ L := by
  constructor
  · intro e
    obtain ⟨n, hn, hm⟩ := get_mem L _ _ e
    have : a = n := by omega
    subst this
    exact hm
  · intro hm
    exact get_of_mem h hm
theorem idx_of {L : List (Nat × V)} (h : Srt L) {i : Nat} {p : Nat × V} (hp : L[i]? = some p) : idx L (p.1 : Int) = i := by
  have hlt := (List.getElem?_eq_some_iff.1 hp).1
  refine idx_uniq L _ i (by omega) (fun j q hj hq => ?_) (fun q hq => ?_)
  · have := srt_get h hq hp hj
    omega
  · rw [hp] at hq
    cases hq
    omega
theorem get_at {L : List (Nat × V)} (h : Srt L) {a : Int} {v : V} (e : get L a = some v) : ∃ n : Nat, a = (n : Int) ∧ L[idx L a]? = some (n, v) := by
  obtain ⟨n, hn, hm⟩ := get_mem L _ _ e
  obtain ⟨i, hi⟩ := List.mem_iff_getElem?.1 hm
  refine ⟨n, hn, ?_⟩
  have := idx_of h hi
  rw [hn]
  rw [show ((n, v) : Nat × V).1 = n from rfl] at this
  rw [this]
  exact hi
theorem get_idx {L : List (Nat × V)} (h : Srt L) {a : Int} {p : Nat × V} (hp : L[idx L a]? = some p) : get L a = if (p.1 : Int) = a then some p.2 else none := by
  split
  · rename_i e
    rw [← e]
    exact get_of_mem h (List.mem_of_getElem? hp)
  · rename_i e
    cases hg : get L a with
    | none => rfl
    | some v =>
      obtain ⟨n, hn, hm⟩ := get_at h hg
      rw [hp] at hm
      cases hm
      exact absurd hn.symm e
theorem get_end {L : List (Nat × V)} (h : Srt L) {a : Int} (hp : L.length ≤ idx L a) : get L a = none := by
  cases hg : get L a with
  | none => rfl
  | some v =>
    obtain ⟨n, hn, hm⟩ := get_at h hg
    have := (List.getElem?_eq_some_iff.1 hm).1
    omega
/-- is a thing at an address? -/
def has (L : List (Nat × V)) (a : Int) : Bool := (get L a).isSome
theorem has_idx {L : List (Nat × V)} (h : Srt L) {a : Int} {p : Nat × V} (hp : L[idx L a]? = some p) : has L a = decide ((p.1 : Int) = a) := by
  unfold has
  rw [get_idx h hp]
  split <;> simp [*]
theorem has_end {L : List (Nat × V)} (h : Srt L) {a : Int} (hp : L.length ≤ idx L a) : has L a = false := by
  unfold has
  rw [get_end h hp]
  rfl
theorem idx_succ {L : List (Nat × V)} (h : Srt L) (a : Int) : idx L (a + 1) = idx L a + (if has L a = true then 1 else 0) := by
  have hle := idx_le L a
  cases hg : get L a with
  | none =>
    have hn := get_none hg
    rw [show has L a = false by simp [has, hg]]
    refine idx_uniq L _ _ (by simpa using hle) (fun j p hj hp => ?_) (fun p hp => ?_)
    · have := idx_below L a j p (by simpa using hj) hp
      omega
    · have := idx_at L a p (by simpa using hp)
      have := hn p (List.mem_of_getElem? hp)
      omega
  | some v =>
    obtain ⟨n, hn, hm⟩ := get_at h hg
    have hlt := (List.getElem?_eq_some_iff.1 hm).1
    rw [show has L a = true by simp [has, hg]]
    refine idx_uniq L _ _ (by simp; omega) (fun j p hj hp => ?_) (fun p hp => ?_)
    · simp at hj
      rcases Nat.lt_or_ge j (idx L a) with c | c
      · have := idx_below L a j p c hp
        omega
      · have : j = idx L a := by omega
        subst this
        rw [hm] at hp
        cases hp
        simp
        omega
    · simp at hp
      have := srt_get h hm hp (by omega)
      simp at this
      omega

/-! ### put and del -/
theorem del_none : ∀ {L : List (Nat × V)} {a : Nat}, get L (a : Int) = none → del a L = L
  | [], _, _ => rfl
  | p :: L, a, h => by
    simp only [get] at h
    split at h
    · simp at h
    · rename_i e
      simp only [del]
      rw [if_neg (by omega), del_none h]
theorem del_some : ∀ {L : List (Nat × V)} (_ : Srt L) {a : Nat} {v : V}, get L (a : Int) = some v → del a L = L.take (idx L a) ++ L.drop (idx L a + 1)
  | [], _, _, _, h => by simp [get] at h
  | p :: L, hs, a, v, h => by
    simp only [get] at h
    simp only [del, idx]
    split at h
    · rename_i e
      rw [if_pos (by omega), if_neg (by omega)]
      simp
    · rename_i e
      obtain ⟨n, hn, hm⟩ := get_mem L _ _ h
      have := hs.head _ hm
      rw [if_neg (by omega), if_pos (by simp at this; omega), del_some hs.tail h]
      simp
theorem put_none : ∀ {L : List (Nat × V)} (_ : Srt L) {a : Nat} (v : V), get L (a : Int) = none → put a v L = L.take (idx L a) ++ (a, v) :: L.drop (idx L a)
  | [], _, _, _, _ => rfl
  | p :: L, hs, a, v, h => by
    simp only [get] at h
    simp only [put, idx]
    split at h
    · simp at h
    · rename_i e
      by_cases c : p.1 < a
      · rw [if_pos c, if_pos (by omega), put_none hs.tail v h]
        simp
      · rw [if_neg c, if_neg (by omega), if_neg (by omega)]
        simp
theorem put_some : ∀ {L : List (Nat × V)} (_ : Srt L) {a : Nat} (v : V) {u : V}, get L (a : Int) = some u → put a v L = L.set (idx L a) (a, v)
  | [], _, _, _, _, h => by simp [get] at h
  | p :: L, hs, a, v, u, h => by
    simp only [get] at h
    simp only [put, idx]
    split at h
    · rename_i e
      rw [if_neg (by omega), if_pos (by omega), if_neg (by omega)]
      simp
    · rename_i e
      obtain ⟨n, hn, hm⟩ := get_mem L _ _ h
      have := hs.head _ hm
      have hlt : p.1 < a := by simp at this; omega
      rw [if_pos hlt, if_pos (by omega), put_some hs.tail v h]
      simp
theorem mem_del : ∀ {L : List (Nat × V)} {a : Nat} {p : Nat × V}, p ∈ del a L → p ∈ L
  | [], _, _, h => by simp [del] at h
  | q :: L, a, p, h => by
    simp only [del] at h
    split at h
    · simp [h]
    · rcases List.mem_cons.1 h with rfl | h
      · simp
      · simp [mem_del h]
theorem mem_put : ∀ {L : List (Nat × V)} {a : Nat} {v : V} {p : Nat × V}, p ∈ put a v L → p = (a, v) ∨ p ∈ L
  | [], _, _, _, h => by simp [put] at h; simp [h]
  | q :: L, a, v, p, h => by
    simp only [put] at h
    split at h
    · rcases List.mem_cons.1 h with rfl | h
      · simp
      · rcases mem_put h with h | h
        · exact .inl h
        · simp [h]
    · split at h
      · rcases List.mem_cons.1 h with rfl | h
        · simp
        · simp [h]
      · rcases List.mem_cons.1 h with rfl | h
        · simp
        · exact .inr h
theorem srt_del : ∀ {L : List (Nat × V)} (a : Nat), Srt L → Srt (del a L)
  | [], _, h => h
  | p :: L, a, h => by
    simp only [del]
    split
    · exact h.tail
    · exact List.pairwise_cons.2 ⟨fun q hq => h.head q (mem_del hq), srt_del a h.tail⟩
theorem srt_put : ∀ {L : List (Nat × V)} (a : Nat) (v : V), Srt L → Srt (put a v L)
  | [], _, _, _ => List.pairwise_singleton _ _
  | p :: L, a, v, h => by
    simp only [put]
    split
    · rename_i c
      refine List.pairwise_cons.2 ⟨fun q hq => ?_, srt_put a v h.tail⟩
      rcases mem_put hq with rfl | hq
      · exact c
      · exact h.head q hq
    · split
      · rename_i c e
        exact List.pairwise_cons.2 ⟨fun q hq => by have := h.head q hq; simp; omega, h.tail⟩
      · rename_i c e
        refine List.pairwise_cons.2 ⟨fun q hq => ?_, h⟩
        rcases List.mem_cons.1 hq with rfl | hq
        · simp; omega
        · have := h.head q hq
          simp; omega
theorem get_put : ∀ {L : List (Nat × V)} (_ : Srt L) (a : Nat) (v : V) (b : Int), get (put a v L) b = if b = (a : Int) then some v else get L b
  | [], _, a, v, b => by simp only [put, get]; split <;> split <;> (try rfl) <;> omega
  | p :: L, h, a, v, b => by
    simp only [put]
    split
    · rename_i c
      simp only [get, get_put h.tail a v b]
      split
      · rename_i e
        rw [if_neg (by omega)]
      · rfl
    · split
      · rename_i c e
        simp only [get]
        split
        · rename_i e2; rw [if_pos (by omega)]
        · rename_i e2; rw [if_neg (by omega), if_neg (by omega)]
      · simp only [get]
        split
        · rename_i e2; rw [if_pos (by omega)]
        · rename_i e2; rw [if_neg (show ¬ b = (a : Int) by omega)]
theorem get_del : ∀ {L : List (Nat × V)} (_ : Srt L) (a : Nat) (b : Int), get (del a L) b = if b = (a : Int) then none else get L b
  | [], _, a, b => by simp [del, get]
  | p :: L, h, a, b => by
    simp only [del]
    split
    · rename_i e
      simp only [get]
      by_cases hb : b = (a : Int)
      · rw [if_pos hb]
        cases hg : get L b with
        | none => rfl
        | some v =>
          obtain ⟨n, hn, hm⟩ := get_mem L _ _ hg
          have := h.head _ hm
          simp at this
          omega
      · rw [if_neg hb, if_neg (by omega)]
    · rename_i e
      simp only [get, get_del h.tail a b]
      split
      · rename_i e2; rw [if_neg (by omega)]
      · rfl
theorem idx_del {L : List (Nat × V)} (h : Srt L) (a : Nat) : idx (del a L) (a : Int) = idx L (a : Int) := by
  cases hg : get L (a : Int) with
  | none => rw [del_none hg]
  | some v =>
    rw [del_some h hg]
    obtain ⟨n, hn, hm⟩ := get_at h hg
    have hlt := (List.getElem?_eq_some_iff.1 hm).1
    have hle := idx_le L (a : Int)
    have hl : (L.take (idx L (a : Int))).length = idx L (a : Int) := by simp; omega
    refine idx_uniq _ _ _ (by simp; omega) (fun j p hj hp => ?_) (fun p hp => ?_)
    · rw [List.getElem?_append_left (by omega), List.getElem?_take_of_lt hj] at hp
      exact idx_below L _ j p hj hp
    · rw [List.getElem?_append_right (by omega), hl, Nat.sub_self, List.getElem?_drop] at hp
      have := srt_get h hm hp (by omega)
      simp at this
      omega
theorem put_del {L : List (Nat × V)} (h : Srt L) (a : Nat) (v : V) : put a v L = (del a L).take (idx L (a : Int)) ++ (a, v) :: (del a L).drop (idx L (a : Int)) := by
  cases hg : get L (a : Int) with
  | none => rw [del_none hg, put_none h v hg]
  | some u =>
    rw [del_some h hg, put_some h v hg]
    obtain ⟨n, hn, hm⟩ := get_at h hg
    have hlt := (List.getElem?_eq_some_iff.1 hm).1
    have hl : (L.take (idx L (a : Int))).length = idx L (a : Int) := by simp; omega
    rw [List.take_left' hl, List.drop_left' hl, List.set_eq_take_append_cons_drop, if_pos hlt]
theorem length_del {L : List (Nat × V)} (h : Srt L) {a : Nat} {v : V} (e : get L (a : Int) = some v) : (del a L).length + 1 = L.length := by
  obtain ⟨n, hn, hm⟩ := get_at h e
  have hlt := (List.getElem?_eq_some_iff.1 hm).1
  rw [del_some h e]
  simp
  omega
theorem length_put {L : List (Nat × V)} (h : Srt L) (a : Nat) (v : V) : (put a v L).length = L.length + (if has L (a : Int) = true then 0 else 1) := by
  have hle := idx_le L (a : Int)
  cases hg : get L (a : Int) with
  | none => rw [put_none h v hg, show has L (a : Int) = false by simp [has, hg]]; simp; omega
  | some u => rw [put_some h v hg, show has L (a : Int) = true by simp [has, hg]]; simp

/-! ### the word of bits, the cells -/
def mask : List (Nat × V) → Nat
  | [] => 0
  | p :: L => 2 ^ p.1 ||| mask L
theorem mask_testBit : ∀ (L : List (Nat × V)) (j : Nat), (mask L).testBit j = has L (j : Int)
  | [], j => by simp [mask, has, get]
  | p :: L, j => by
    rw [mask, Nat.testBit_or, Nat.testBit_two_pow, mask_testBit L j]
    unfold has
    simp only [get]
    by_cases e : p.1 = j
    · rw [if_pos (by omega)]; simp [e]
    · rw [if_neg (by omega)]; simp [e]
theorem mask_lt {L : List (Nat × V)} {n : Nat} (h : ∀ p ∈ L, p.1 < n) : mask L < 2 ^ n := by
  refine lt_two_pow_of fun i hi => ?_
  rw [mask_testBit]
  unfold has
  cases hg : get L (i : Int) with
  | none => rfl
  | some v =>
    obtain ⟨m, hm, hin⟩ := get_mem L _ _ hg
    have := h _ hin
    simp at this
    omega
theorem mask_put {L : List (Nat × V)} (h : Srt L) (a : Nat) (v : V) : mask (put a v L) = mask L ||| 2 ^ a := by
  apply Nat.eq_of_testBit_eq
  intro i
  rw [mask_testBit, Nat.testBit_or, mask_testBit, Nat.testBit_two_pow]
  unfold has
  rw [get_put h]
  by_cases e : i = a
  · subst e; simp
  · rw [if_neg (by omega)]; simp [show a ≠ i by omega]
theorem mask_del {L : List (Nat × V)} (h : Srt L) (a : Nat) : mask (del a L) = less (mask L) (2 ^ a) := by
  apply Nat.eq_of_testBit_eq
  intro i
  rw [mask_testBit, less_testBit, mask_testBit, Nat.testBit_two_pow]
  unfold has
  rw [get_del h]
  by_cases e : i = a
  · subst e; simp
  · rw [if_neg (by omega)]; simp [show a ≠ i by omega]
theorem mask_pos {L : List (Nat × V)} (h : L ≠ []) : mask L ≠ 0 := by
  cases L with
  | nil => exact absurd rfl h
  | cons p L =>
    intro e
    have := mask_testBit (p :: L) p.1
    rw [e] at this
    simp [has, get] at this
/-- the cells of dense slots -/
def row (z : V) (n : Nat) (L : List (Nat × V)) : List V := (List.range n).map fun (a : Nat) => (get L (a : Int)).getD z
theorem row_length (z : V) (n : Nat) (L : List (Nat × V)) : (row z n L).length = n := by simp [row]
theorem row_get (z : V) {n : Nat} (L : List (Nat × V)) {i : Nat} (h : i < n) : (row z n L)[i]? = some ((get L (i : Int)).getD z) := by simp [row, h]
theorem row_some {z : V} {n : Nat} {L : List (Nat × V)} {i : Nat} {v : V} (h : i < n) (e : get L (i : Int) = some v) : (row z n L)[i]? = some v := by rw [row_get z L h, e]; rfl
theorem row_put {z : V} {n : Nat} {L : List (Nat × V)} (h : Srt L) {a : Nat} (v : V) : row z n (put a v L) = (row z n L).set a v := by
  apply List.ext_getElem?
  intro i
  by_cases hi : i < n
  · rw [row_get z _ hi, List.getElem?_set, row_length, get_put h]
    by_cases e : a = i
    · subst e; simp [hi]
    · rw [if_neg (by omega), if_neg e, row_get z L hi]
  · rw [List.getElem?_eq_none (by rw [row_length]; omega), List.getElem?_eq_none (by rw [List.length_set, row_length]; omega)]
theorem row_del {z : V} {n : Nat} {L : List (Nat × V)} (h : Srt L) {a : Nat} : row z n (del a L) = (row z n L).set a z := by
  apply List.ext_getElem?
  intro i
  by_cases hi : i < n
  · rw [row_get z _ hi, List.getElem?_set, row_length, get_del h]
    by_cases e : a = i
    · subst e; simp [hi]
    · rw [if_neg (by omega), if_neg e, row_get z L hi]
  · rw [List.getElem?_eq_none (by rw [row_length]; omega), List.getElem?_eq_none (by rw [List.length_set, row_length]; omega)]
theorem idx_zero (L : List (Nat × V)) : idx L 0 = 0 := by
  cases L with
  | nil => rfl
  | cons p L => simp only [idx]; rw [if_neg (by omega)]
theorem ones_idx {L : List (Nat × V)} (h : Srt L) : ∀ n : Nat, Pc.ones n (mask L) = idx L (n : Int)
  | 0 => by rw [show ((0 : Nat) : Int) = 0 from rfl, idx_zero]; rfl
  | n + 1 => by
    have := idx_succ h (n : Int)
    rw [show ((n : Int) + 1) = ((n + 1 : Nat) : Int) by omega] at this
    rw [this, Pc.ones, ones_idx h n, mask_testBit]
theorem idx_all {L : List (Nat × V)} {a : Int} (h : ∀ p ∈ L, (p.1 : Int) < a) : idx L a = L.length := by
  refine idx_uniq _ _ _ (Nat.le_refl _) (fun j p _ hp => h p (List.mem_of_getElem? hp)) (fun p hp => ?_)
  rw [List.getElem?_eq_none (Nat.le_refl _)] at hp
  cases hp
theorem length_le {L : List (Nat × V)} (hs : Srt L) {n : Nat} (h : ∀ p ∈ L, p.1 < n) : L.length ≤ n := by
  have h1 := ones_idx hs n
  rw [idx_all (fun p hp => by have := h p hp; omega)] at h1
  have := Pc.ones_le n (mask L)
  omega
theorem ones_len {L : List (Nat × V)} (hs : Srt L) (h : ∀ p ∈ L, p.1 < 64) : Pc.ones 64 (mask L) = L.length := by
  rw [ones_idx hs 64]
  exact idx_all (fun p hp => by have := h p hp; omega)

/-! ### the lowest and the highest bit -/
theorem ctzFrom_at : ∀ (f x k : Nat), x < 2 ^ f → x.testBit k = true → (∀ j, j < k → x.testBit j = false) → Lib.ctzFrom f x = k
  | 0, x, k, h, hk, _ => by
    have : x = 0 := by simpa using h
    subst this
    simp at hk
  | f + 1, x, k, h, hk, hlow => by
    simp only [Lib.ctzFrom]
    split
    · rename_i e
      cases k with
      | zero => rfl
      | succ k =>
        have := hlow 0 (by omega)
        rw [Nat.testBit_zero] at this
        simp [e] at this
    · rename_i e
      cases k with
      | zero =>
        rw [Nat.testBit_zero] at hk
        simp at hk
        exact absurd hk e
      | succ k =>
        rw [ctzFrom_at f (x / 2) k (by rw [Nat.pow_succ] at h; omega) (by rw [← Nat.testBit_succ]; exact hk) (fun j hj => by rw [← Nat.testBit_succ]; exact hlow (j + 1) (by omega))]
        omega
theorem ctz_at {x k : Nat} (h : x < 2 ^ 64) (hk : x.testBit k = true) (hlow : ∀ j, j < k → x.testBit j = false) : Lib.ctz 64 x = k := by
  unfold Lib.ctz
  rw [if_neg (by rintro rfl; simp at hk)]
  exact ctzFrom_at 64 x k h hk hlow
theorem bitLen_at {x k : Nat} (h : x < 2 ^ 64) (hk : x.testBit k = true) (hhigh : ∀ j, k < j → x.testBit j = false) : Lib.bitLen x = k + 1 := by
  obtain ⟨l, h1, _, h3, h4⟩ := bitLen_top x h (by rintro rfl; simp at hk)
  rw [h1]
  rcases Nat.lt_trichotomy l k with c | c | c
  · rw [h4 k c] at hk; simp at hk
  · rw [c]
  · rw [hhigh l c] at h3; simp at h3
/-- From, of dense slots -/
theorem from_some {L : List (Nat × V)} (hs : Srt L) (h : ∀ p ∈ L, p.1 < 64) {f : Nat} {p : Nat × V} (hp : L[idx L (f : Int)]? = some p) : Lib.ctz 64 (cutN (mask L) f) = p.1 := by
  have hge := idx_at L _ p hp
  have hg := get_of_mem hs (List.mem_of_getElem? hp)
  have hlt := mask_lt h
  refine ctz_at (Nat.lt_of_le_of_lt (cutN_le _ _) hlt) ?_ fun j hj => ?_
  · rw [cutN_testBit, mask_testBit]
    simp [has, hg]
    omega
  · rw [cutN_testBit, mask_testBit]
    rcases Nat.lt_or_ge j f with c | c
    · simp [show ¬ f ≤ j by omega]
    · have : has L (j : Int) = false := by
        unfold has
        cases e : get L (j : Int) with
        | none => rfl
        | some v =>
          obtain ⟨n, hn, hm⟩ := get_at hs e
          have hnj : n = j := by omega
          subst hnj
          have h2 : idx L (f : Int) ≤ idx L (n : Int) := by
            rcases Nat.lt_or_ge (idx L (n : Int)) (idx L (f : Int)) with d | d
            · have := idx_below L _ _ _ d hm
              simp at this
              omega
            · exact d
          rcases Nat.lt_or_eq_of_le h2 with d | d
          · have := srt_get hs hp hm d
            simp at this
            omega
          · rw [← d, hp] at hm
            cases hm
            omega
      simp [this]
theorem from_none {L : List (Nat × V)} (hs : Srt L) {f : Nat} (hp : L.length ≤ idx L (f : Int)) : cutN (mask L) f = 0 := by
  apply Nat.eq_of_testBit_eq
  intro j
  rw [cutN_testBit, mask_testBit, Nat.zero_testBit]
  rcases Nat.lt_or_ge j f with c | c
  · simp [show ¬ f ≤ j by omega]
  · have : has L (j : Int) = false := by
      unfold has
      cases e : get L (j : Int) with
      | none => rfl
      | some v =>
        obtain ⟨n, hn, hm⟩ := get_at hs e
        have hlt := (List.getElem?_eq_some_iff.1 hm).1
        have := idx_below L (f : Int) _ _ (by omega) hm
        simp at this
        omega
    simp [this]
/-- UpTo, of dense slots: last + 1 = u -/
theorem upTo_some {L : List (Nat × V)} (hs : Srt L) (h : ∀ p ∈ L, p.1 < 64) {u i : Nat} {p : Nat × V} (hi : idx L (u : Int) = i + 1) (hp : L[i]? = some p) : Lib.bitLen (mask L &&& (2 ^ u - 1)) = p.1 + 1 := by
  have hlt := mask_lt h
  have hb := idx_below L (u : Int) i p (by omega) hp
  have hg := get_of_mem hs (List.mem_of_getElem? hp)
  refine bitLen_at (Nat.lt_of_le_of_lt Nat.and_le_left hlt) ?_ fun j hj => ?_
  · rw [Nat.testBit_and, mask_testBit, testBit_low]
    simp [has, hg]
    omega
  · rw [Nat.testBit_and, mask_testBit, testBit_low]
    rcases Nat.lt_or_ge j u with c | c
    · have : has L (j : Int) = false := by
        unfold has
        cases e : get L (j : Int) with
        | none => rfl
        | some v =>
          obtain ⟨n, hn, hm⟩ := get_at hs e
          have hnj : n = j := by omega
          subst hnj
          rcases Nat.lt_trichotomy (idx L (n : Int)) i with d | d | d
          · have := srt_get hs hm hp d
            simp at this
            omega
          · rw [d, hp] at hm
            cases hm
            omega
          · have := idx_above hs (u : Int) (j := idx L (n : Int)) (by omega) hm
            simp at this
            omega
      simp [this]
    · simp [show ¬ j < u by omega]
theorem upTo_none {L : List (Nat × V)} (hs : Srt L) {u : Nat} (hi : idx L (u : Int) = 0) : mask L &&& (2 ^ u - 1) = 0 := by
  apply Nat.eq_of_testBit_eq
  intro j
  rw [Nat.testBit_and, mask_testBit, testBit_low, Nat.zero_testBit]
  rcases Nat.lt_or_ge j u with c | c
  · have : has L (j : Int) = false := by
      unfold has
      cases e : get L (j : Int) with
      | none => rfl
      | some v =>
        obtain ⟨n, hn, hm⟩ := get_at hs e
        have := idx_above hs (u : Int) (j := idx L (j : Int)) (by omega) hm
        simp at this
        omega
    simp [this]
  · simp [show ¬ j < u by omega]

/-! ### slots -/
structure Wf (k : Nat) (L : List (Nat × V)) : Prop where
  k1 : 1 ≤ k
  k16 : k ≤ 16
  srt : Srt L
  lt : ∀ p ∈ L, p.1 < 2 ^ k
theorem Wf.nil {k : Nat} (h1 : 1 ≤ k) (h2 : k ≤ 16) : Wf k ([] : List (Nat × V)) := ⟨h1, h2, srt_nil, fun p h => by simp at h⟩
theorem Wf.put {k : Nat} {L : List (Nat × V)} (h : Wf k L) {a : Nat} (v : V) (ha : a < 2 ^ k) : Wf k (put a v L) :=
  ⟨h.k1, h.k16, srt_put a v h.srt, fun p hp => by rcases mem_put hp with rfl | hp; exact ha; exact h.lt p hp⟩
theorem Wf.del {k : Nat} {L : List (Nat × V)} (h : Wf k L) (a : Nat) : Wf k (del a L) := ⟨h.k1, h.k16, srt_del a h.srt, fun p hp => h.lt p (mem_del hp)⟩
theorem Wf.len {k : Nat} {L : List (Nat × V)} (h : Wf k L) : L.length ≤ 2 ^ k := length_le h.srt h.lt
theorem Wf.len16 {k : Nat} {L : List (Nat × V)} (h : Wf k L) : L.length ≤ 65536 := Nat.le_trans h.len (Nat.pow_le_pow_right (n := 2) (by omega) h.k16)
theorem Wf.pow {k : Nat} {L : List (Nat × V)} (h : Wf k L) : 2 ^ k ≤ 65536 := Nat.pow_le_pow_right (n := 2) (by omega) h.k16
theorem Wf.lt16 {k : Nat} {L : List (Nat × V)} (h : Wf k L) : ∀ p ∈ L, p.1 < 65536 := fun p hp => Nat.lt_of_lt_of_le (h.lt p hp) h.pow
theorem Wf.lt64 {k : Nat} {L : List (Nat × V)} (h : Wf k L) (hk : k ≤ 6) : ∀ p ∈ L, p.1 < 64 := fun p hp => Nat.lt_of_lt_of_le (h.lt p hp) (Nat.pow_le_pow_right (n := 2) (by omega) hk)
/-- are slots dense? -/
def dense (k : Nat) (L : List (Nat × V)) : Bool := decide (k ≤ 6) && decide (2 ^ k < 2 * L.length)
theorem dense_k {k : Nat} {L : List (Nat × V)} (h : dense k L = true) : k ≤ 6 ∧ 2 ^ k < 2 * L.length := by simpa [dense] using h
theorem dense_more {k : Nat} {L M : List (Nat × V)} (h : dense k L = true) (hl : L.length ≤ M.length) : dense k M = true := by
  have := dense_k h
  simp [dense]
  omega
end Go.Proofs.Ytgplbbmenmbaaaa.Sl
