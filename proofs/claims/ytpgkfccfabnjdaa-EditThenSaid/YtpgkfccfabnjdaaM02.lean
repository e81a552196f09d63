import Derived.Test.YtpgkfccfabnjdaaM01
import Derived.Lib.TrailingZeros
import Derived.Maps.AppendAt
import Derived.Shelf.Spec.TrailingZeros
/-
  PLAIN MATHEMATICS of layer 5: things at addresses as a list of pairs, rising: what is at an address, what becomes of the list when a thing is put, or taken away; the word of bits and the cells of dense slots. Nothing of the program is named here.
-/
namespace Go.Proofs.Ytpgkfccfabnjdaa.Sl
open Go.Proofs.Ytpgkfccfabnjdaa.Z Go.Proofs.Ytpgkfccfabnjdaa.Mk
variable {V : Type}

def Srt (L : List (Nat × V)) : Prop := L.Pairwise (fun p q => p.1 < q.1)
def idx : List (Nat × V) → Int → Nat
  | [], _ => 0
  | p :: L, a => if (p.1 : Int) < a then idx L a + 1 else 0
def get : List (Nat × V) → Int → Option V
  | [], _ => none
  | p :: L, a => if (p.1 : Int) = a then some p.2 else get L a
def del (a : Nat) : List (Nat × V) → List (Nat × V)
  | [] => []
  | p :: L => if p.1 = a then L else p :: del a L
def put (a : Nat) (v : V) : List (Nat × V) → List (Nat × V)
  | [] => [(a, v)]
  | p :: L => if p.1 < a then p :: put a v L else if p.1 = a then (a, v) :: L else (a, v) :: p :: L
theorem srt_nil : Srt ([] : List (Nat × V)) := List.Pairwise.nil
theorem Srt.tail {p : Nat × V} {L : List (Nat × V)} (h : Srt (p :: L)) : Srt L := (List.pairwise_cons.1 h).2
theorem Srt.head {p : Nat × V} {L : List (Nat × V)} (h : Srt (p :: L)) : ∀ q ∈ L, p.1 < q.1 := (List.pairwise_cons.1 h).1
theorem srt_get {L : List (Nat × V)} (h : Srt L) {i j : Nat} {p q : Nat × V} (hp : L[i]? = some p) (hq : L[j]? = some q) (hij : i < j) : p.1 < q.1 := by
  obtain ⟨a1, rfl⟩ := List.getElem?_eq_some_iff.1 hp
  obtain ⟨a2, rfl⟩ := List.getElem?_eq_some_iff.1 hq
  exact List.pairwise_iff_getElem.1 h i j a1 a2 hij

theorem idx_le : ∀ (L : List (Nat × V)) (a : Int), idx L a ≤ L.length
  | [], _ => Nat.le_refl _
  | p :: L, a => by
    have := idx_le L a
    simp only [idx, List.length_cons]
    split <;> omega
theorem idx_below : ∀ (L : List (Nat × V)) (a : Int) (j : Nat) (p : Nat × V), j < idx L a → L[j]? = some p → (p.1 : Int) < a
  | [], _, j, p, h, _ => by simp [idx] at h
  | q :: L, a, j, p, h, hp => by
    simp only [idx] at h
    split at h
    · rename_i hq
      cases j with
      | zero => simp at hp; subst hp; exact hq
      | succ j => exact idx_below L a j p (by omega) (by simpa using hp)
    · omega
theorem idx_uniq : ∀ (L : List (Nat × V)) (a : Int) (i : Nat), i ≤ L.length → (∀ j p, j < i → L[j]? = some p → (p.1 : Int) < a) → (∀ p, L[i]? = some p → a ≤ (p.1 : Int)) → idx L a = i
  | [], a, i, h, _, _ => by simp at h; subst h; rfl
  | q :: L, a, i, h, h1, h2 => by
    simp only [idx]
    cases i with
    | zero =>
      have := h2 q (by simp)
      rw [if_neg (by omega)]
    | succ i =>
      have := h1 0 q (by omega) (by simp)
      rw [if_pos this]
      have := idx_uniq L a i (by simpa using h) (fun j p hj hp => h1 (j + 1) p (by omega) (by simpa using hp)) (fun p hp => h2 p (by simpa using hp))
      rw [this]
theorem idx_at : ∀ (L : List (Nat × V)) (a : Int) (p : Nat × V), L[idx L a]? = some p → a ≤ (p.1 : Int)
  | [], _, p, h => by simp [idx] at h
  | q :: L, a, p, h => by
    simp only [idx] at h
    split at h
    · exact idx_at L a p (by simpa using h)
    · rename_i hq
      simp at h
      subst h
      omega
theorem get_mem : ∀ (L : List (Nat × V)) (a : Int) (v : V), get L a = some v → ∃ n : Nat, a = (n : Int) ∧ (n, v) ∈ L
  | [], _, _, h => by simp [get] at h
  | q :: L, a, v, h => by
    simp only [get] at h
    split at h
    · rename_i e
      simp at h
      subst h
      exact ⟨q.1, e.symm, by simp⟩
    · obtain ⟨n, h1, h2⟩ := get_mem L a v h
      exact ⟨n, h1, by simp [h2]⟩
theorem get_none : ∀ {L : List (Nat × V)} {a : Int}, get L a = none → ∀ p ∈ L, (p.1 : Int) ≠ a
  | [], _, _, p, hp => by simp at hp
  | q :: L, a, h, p, hp => by
    simp only [get] at h
    split at h
    · simp at h
    · rename_i e
      rcases List.mem_cons.1 hp with rfl | hp
      · exact e
      · exact get_none h p hp
theorem get_of_mem : ∀ {L : List (Nat × V)} (_ : Srt L) {p : Nat × V}, p ∈ L → get L (p.1 : Int) = some p.2
  | [], _, p, hp => by simp at hp
  | q :: L, h, p, hp => by
    simp only [get]
    rcases List.mem_cons.1 hp with rfl | hp
    · simp
    · have := h.head p hp
      rw [if_neg (by omega)]
      exact get_of_mem h.tail hp
theorem get_iff {L : List (Nat × V)} (h : Srt L) {a : Nat} {v : V} : get L (a : Int) = some v ↔ (a, v) ∈ L := by
  constructor
  · intro e
    obtain ⟨n, hn, hm⟩ := get_mem L _ _ e
    have : a = n := by omega
    subst this
    exact hm
  · intro hm
    exact get_of_mem h hm
theorem idx_of {L : List (Nat × V)} (h : Srt L) {i : Nat} {p : Nat × V} (hp : L[i]? = some p) : idx L (p.1 : Int) = i := by
  have hlt := (List.getElem?_eq_some_iff.1 hp).1
  refine idx_uniq L _ i (by omega) (fun j q hj hq => ?_) (fun q hq => ?_)
  · have := srt_get h hq hp hj
    omega
  · rw [hp] at hq
    cases hq
    omega
theorem get_at {L : List (Nat × V)} (h : Srt L) {a : Int} {v : V} (e : get L a = some v) : ∃ n : Nat, a = (n : Int) ∧ L[idx L a]? = some (n, v) := by
  obtain ⟨n, hn, hm⟩ := get_mem L _ _ e
  obtain ⟨i, hi⟩ := List.mem_iff_getElem?.1 hm
  refine ⟨n, hn, ?_⟩
  have := idx_of h hi
  rw [hn]
  rw [show ((n, v) : Nat × V).1 = n from rfl] at this
  rw [this]
  exact hi
theorem get_idx {L : List (Nat × V)} (h : Srt L) {a : Int} {p : Nat × V} (hp : L[idx L a]? = some p) : get L a = if (p.1 : Int) = a then some p.2 else none := by
  split
  · rename_i e
    rw [← e]
    exact get_of_mem h (List.mem_of_getElem? hp)
  · rename_i e
    cases hg : get L a with
    | none => rfl
    | some v =>
      obtain ⟨n, hn, hm⟩ := get_at h hg
      rw [hp] at hm
      cases hm
      exact absurd hn.symm e
theorem get_end {L : List (Nat × V)} (h : Srt L) {a : Int} (hp : L.length ≤ idx L a) : get L a = none := by
  cases hg : get L a with
  | none => rfl
  | some v =>
    obtain ⟨n, hn, hm⟩ := get_at h hg
    have := (List.getElem?_eq_some_iff.1 hm).1
    omega
def has (L : List (Nat × V)) (a : Int) : Bool := (get L a).isSome
theorem idx_succ {L : List (Nat × V)} (h : Srt L) (a : Int) : idx L (a + 1) = idx L a + (if has L a = true then 1 else 0) := by
  have hle := idx_le L a
  cases hg : get L a with
  | none =>
    have hn := get_none hg
    rw [show has L a = false by simp [has, hg]]
    refine idx_uniq L _ _ (by simpa using hle) (fun j p hj hp => ?_) (fun p hp => ?_)
    · have := idx_below L a j p (by simpa using hj) hp
      omega
    · have := idx_at L a p (by simpa using hp)
      have := hn p (List.mem_of_getElem? hp)
      omega
  | some v =>
    obtain ⟨n, hn, hm⟩ := get_at h hg
    have hlt := (List.getElem?_eq_some_iff.1 hm).1
    rw [show has L a = true by simp [has, hg]]
    refine idx_uniq L _ _ (by simp; omega) (fun j p hj hp => ?_) (fun p hp => ?_)
    · simp at hj
      rcases Nat.lt_or_ge j (idx L a) with c | c
      · have := idx_below L a j p c hp
        omega
      · have : j = idx L a := by omega
        subst this
        rw [hm] at hp
        cases hp
        simp
        omega
    · simp at hp
      have := srt_get h hm hp (by omega)
      simp at this
      omega

/-! ### put and del -/
theorem del_none : ∀ {L : List (Nat × V)} {a : Nat}, get L (a : Int) = none → del a L = L
  | [], _, _ => rfl
  | p :: L, a, h => by
    simp only [get] at h
    split at h
    · simp at h
    · rename_i e
      simp only [del]
      rw [if_neg (by omega), del_none h]
theorem del_some : ∀ {L : List (Nat × V)} (_ : Srt L) {a : Nat} {v : V}, get L (a : Int) = some v → del a L = L.take (idx L a) ++ L.drop (idx L a + 1)
  | [], _, _, _, h => by simp [get] at h
  | p :: L, hs, a, v, h => by
    simp only [get] at h
    simp only [del, idx]
    split at h
    · rename_i e
      rw [if_pos (by omega), if_neg (by omega)]
      simp
    · rename_i e
      obtain ⟨n, hn, hm⟩ := get_mem L _ _ h
      have := hs.head _ hm
      rw [if_neg (by omega), if_pos (by simp at this; omega), del_some hs.tail h]
      simp
theorem put_none : ∀ {L : List (Nat × V)} (_ : Srt L) {a : Nat} (v : V), get L (a : Int) = none → put a v L = L.take (idx L a) ++ (a, v) :: L.drop (idx L a)
  | [], _, _, _, _ => rfl
  | p :: L, hs, a, v, h => by
    simp only [get] at h
    simp only [put, idx]
    split at h
    · simp at h
    · rename_i e
      by_cases c : p.1 < a
      · rw [if_pos c, if_pos (by omega), put_none hs.tail v h]
        simp
      · rw [if_neg c, if_neg (by omega), if_neg (by omega)]
        simp
theorem put_some : ∀ {L : List (Nat × V)} (_ : Srt L) {a : Nat} (v : V) {u : V}, get L (a : Int) = some u → put a v L = L.set (idx L a) (a, v)
  | [], _, _, _, _, h => by simp [get] at h
  | p :: L, hs, a, v, u, h => by
    simp only [get] at h
    simp only [put, idx]
    split at h
    · rename_i e
      rw [if_neg (by omega), if_pos (by omega), if_neg (by omega)]
      simp
    · rename_i e
      obtain ⟨n, hn, hm⟩ := get_mem L _ _ h
      have := hs.head _ hm
      have hlt : p.1 < a := by simp at this; omega
      rw [if_pos hlt, if_pos (by omega), put_some hs.tail v h]
      simp
theorem mem_del : ∀ {L : List (Nat × V)} {a : Nat} {p : Nat × V}, p ∈ del a L → p ∈ L
  | [], _, _, h => by simp [del] at h
  | q :: L, a, p, h => by
    simp only [del] at h
    split at h
    · simp [h]
    · rcases List.mem_cons.1 h with rfl | h
      · simp
      · simp [mem_del h]
theorem mem_put : ∀ {L : List (Nat × V)} {a : Nat} {v : V} {p : Nat × V}, p ∈ put a v L → p = (a, v) ∨ p ∈ L
  | [], _, _, _, h => by simp [put] at h; simp [h]
  | q :: L, a, v, p, h => by
    simp only [put] at h
    split at h
    · rcases List.mem_cons.1 h with rfl | h
      · simp
      · rcases mem_put h with h | h
        · exact .inl h
        · simp [h]
    · split at h
      · rcases List.mem_cons.1 h with rfl | h
        · simp
        · simp [h]
      · rcases List.mem_cons.1 h with rfl | h
        · simp
        · exact .inr h
theorem srt_del : ∀ {L : List (Nat × V)} (a : Nat), Srt L → Srt (del a L)
  | [], _, h => h
  | p :: L, a, h => by
    simp only [del]
    split
    · exact h.tail
    · exact List.pairwise_cons.2 ⟨fun q hq => h.head q (mem_del hq), srt_del a h.tail⟩
theorem srt_put : ∀ {L : List (Nat × V)} (a : Nat) (v : V), Srt L → Srt (put a v L)
  | [], _, _, _ => List.pairwise_singleton _ _
  | p :: L, a, v, h => by
    simp only [put]
    split
    · rename_i c
      refine List.pairwise_cons.2 ⟨fun q hq => ?_, srt_put a v h.tail⟩
      rcases mem_put hq with rfl | hq
      · exact c
      · exact h.head q hq
    · split
      · rename_i c e
        exact List.pairwise_cons.2 ⟨fun q hq => by have := h.head q hq; simp; omega, h.tail⟩
      · rename_i c e
        refine List.pairwise_cons.2 ⟨fun q hq => ?_, h⟩
        rcases List.mem_cons.1 hq with rfl | hq
        · simp; omega
        · have := h.head q hq
          simp; omega
theorem get_put : ∀ {L : List (Nat × V)} (_ : Srt L) (a : Nat) (v : V) (b : Int), get (put a v L) b = if b = (a : Int) then some v else get L b
  | [], _, a, v, b => by simp only [put, get]; split <;> split <;> (try rfl) <;> omega
  | p :: L, h, a, v, b => by
    simp only [put]
    split
    · rename_i c
      simp only [get, get_put h.tail a v b]
      split
      · rename_i e
        rw [if_neg (by omega)]
      · rfl
    · split
      · rename_i c e
        simp only [get]
        split
        · rename_i e2; rw [if_pos (by omega)]
        · rename_i e2; rw [if_neg (by omega), if_neg (by omega)]
      · simp only [get]
        split
        · rename_i e2; rw [if_pos (by omega)]
        · rename_i e2; rw [if_neg (show ¬ b = (a : Int) by omega)]
theorem get_del : ∀ {L : List (Nat × V)} (_ : Srt L) (a : Nat) (b : Int), get (del a L) b = if b = (a : Int) then none else get L b
  | [], _, a, b => by simp [del, get]
  | p :: L, h, a, b => by
    simp only [del]
    split
    · rename_i e
      simp only [get]
      by_cases hb : b = (a : Int)
      · rw [if_pos hb]
        cases hg : get L b with
        | none => rfl
        | some v =>
          obtain ⟨n, hn, hm⟩ := get_mem L _ _ hg
          have := h.head _ hm
          simp at this
          omega
      · rw [if_neg hb, if_neg (by omega)]
    · rename_i e
      simp only [get, get_del h.tail a b]
      split
      · rename_i e2; rw [if_neg (by omega)]
      · rfl
theorem idx_del {L : List (Nat × V)} (h : Srt L) (a : Nat) : idx (del a L) (a : Int) = idx L (a : Int) := by
  cases hg : get L (a : Int) with
  | none => rw [del_none hg]
  | some v =>
    rw [del_some h hg]
    obtain ⟨n, hn, hm⟩ := get_at h hg
    have hlt := (List.getElem?_eq_some_iff.1 hm).1
    have hle := idx_le L (a : Int)
    have hl : (L.take (idx L (a : Int))).length = idx L (a : Int) := by simp; omega
    refine idx_uniq _ _ _ (by simp; omega) (fun j p hj hp => ?_) (fun p hp => ?_)
    · rw [List.getElem?_append_left (by omega), List.getElem?_take_of_lt hj] at hp
      exact idx_below L _ j p hj hp
    · rw [List.getElem?_append_right (by omega), hl, Nat.sub_self, List.getElem?_drop] at hp
      have := srt_get h hm hp (by omega)
      simp at this
      omega
theorem put_del {L : List (Nat × V)} (h : Srt L) (a : Nat) (v : V) : put a v L = (del a L).take (idx L (a : Int)) ++ (a, v) :: (del a L).drop (idx L (a : Int)) := by
  cases hg : get L (a : Int) with
  | none => rw [del_none hg, put_none h v hg]
  | some u =>
    rw [del_some h hg, put_some h v hg]
    obtain ⟨n, hn, hm⟩ := get_at h hg
    have hlt := (List.getElem?_eq_some_iff.1 hm).1
    have hl : (L.take (idx L (a : Int))).length = idx L (a : Int) := by simp; omega
    rw [List.take_left' hl, List.drop_left' hl, List.set_eq_take_append_cons_drop, if_pos hlt]
theorem length_put {L : List (Nat × V)} (h : Srt L) (a : Nat) (v : V) : (put a v L).length = L.length + (if has L (a : Int) = true then 0 else 1) := by
  have hle := idx_le L (a : Int)
  cases hg : get L (a : Int) with
  | none => rw [put_none h v hg, show has L (a : Int) = false by simp [has, hg]]; simp; omega
  | some u => rw [put_some h v hg, show has L (a : Int) = true by simp [has, hg]]; simp

/-! ### the word of bits, the cells -/
def mask : List (Nat × V) → Nat
  | [] => 0
  | p :: L => 2 ^ p.1 ||| mask L
theorem mask_testBit : ∀ (L : List (Nat × V)) (j : Nat), (mask L).testBit j = has L (j : Int)
  | [], j => by simp [mask, has, get]
  | p :: L, j => by
    rw [mask, Nat.testBit_or, Nat.testBit_two_pow, mask_testBit L j]
    unfold has
    simp only [get]
    by_cases e : p.1 = j
    · rw [if_pos (by omega)]; simp [e]
    · rw [if_neg (by omega)]; simp [e]
def row (z : V) (n : Nat) (L : List (Nat × V)) : List V := (List.range n).map fun (a : Nat) => (get L (a : Int)).getD z
theorem idx_zero (L : List (Nat × V)) : idx L 0 = 0 := by
  cases L with
  | nil => rfl
  | cons p L => simp only [idx]; rw [if_neg (by omega)]
theorem ones_idx {L : List (Nat × V)} (h : Srt L) : ∀ n : Nat, Pc.ones n (mask L) = idx L (n : Int)
  | 0 => by rw [show ((0 : Nat) : Int) = 0 from rfl, idx_zero]; rfl
  | n + 1 => by
    have := idx_succ h (n : Int)
    rw [show ((n : Int) + 1) = ((n + 1 : Nat) : Int) by omega] at this
    rw [this, Pc.ones, ones_idx h n, mask_testBit]
theorem idx_all {L : List (Nat × V)} {a : Int} (h : ∀ p ∈ L, (p.1 : Int) < a) : idx L a = L.length := by
  refine idx_uniq _ _ _ (Nat.le_refl _) (fun j p _ hp => h p (List.mem_of_getElem? hp)) (fun p hp => ?_)
  rw [List.getElem?_eq_none (Nat.le_refl _)] at hp
  cases hp
theorem length_le {L : List (Nat × V)} (hs : Srt L) {n : Nat} (h : ∀ p ∈ L, p.1 < n) : L.length ≤ n := by
  have h1 := ones_idx hs n
  rw [idx_all (fun p hp => by have := h p hp; omega)] at h1
  have := Pc.ones_le n (mask L)
  omega
/-! ### the lowest and the highest bit -/
/-! ### slots -/
structure Wf (k : Nat) (L : List (Nat × V)) : Prop where
  k1 : 1 ≤ k
  k16 : k ≤ 16
  srt : Srt L
  lt : ∀ p ∈ L, p.1 < 2 ^ k
theorem Wf.nil {k : Nat} (h1 : 1 ≤ k) (h2 : k ≤ 16) : Wf k ([] : List (Nat × V)) := ⟨h1, h2, srt_nil, fun p h => by simp at h⟩
theorem Wf.put {k : Nat} {L : List (Nat × V)} (h : Wf k L) {a : Nat} (v : V) (ha : a < 2 ^ k) : Wf k (put a v L) :=
  ⟨h.k1, h.k16, srt_put a v h.srt, fun p hp => by rcases mem_put hp with rfl | hp; exact ha; exact h.lt p hp⟩
theorem Wf.del {k : Nat} {L : List (Nat × V)} (h : Wf k L) (a : Nat) : Wf k (del a L) := ⟨h.k1, h.k16, srt_del a h.srt, fun p hp => h.lt p (mem_del hp)⟩
theorem Wf.len {k : Nat} {L : List (Nat × V)} (h : Wf k L) : L.length ≤ 2 ^ k := length_le h.srt h.lt
def dense (k : Nat) (L : List (Nat × V)) : Bool := decide (k ≤ 6) && decide (2 ^ k < 2 * L.length)
end Go.Proofs.Ytpgkfccfabnjdaa.Sl

/-
  PLAIN MATHEMATICS of layer 6: nodes as trees (each with the number of its block), their entries, the sums of these. Nothing of the program is named here.
-/
namespace Go.Proofs.Ytpgkfccfabnjdaa.Tr
open Go.Proofs.Ytpgkfccfabnjdaa.Z

abbrev Ent := List Nat × Nat

/-! ### sums -/
structure S4 where
  c : Nat
  s : Nat
  lo : Nat
  hi : Nat
def s1 (v : Nat) : S4 := ⟨1, v, v, v⟩
/-! ### trees -/
inductive T where
  | ent (g : Nat) (p : List Nat) (v : Nat)
  | br (g l : Nat) (pre : List Nat) (ks : List (Nat × T))
def T.blk : T → Nat
  | .ent g _ _ => g
  | .br g _ _ _ => g
def T.lv : T → Nat
  | .ent _ _ _ => 0
  | .br _ l _ _ => l + 1
def T.pre : T → List Nat
  | .ent _ p _ => p
  | .br _ _ pre _ => pre
def T.val : T → Nat
  | .ent _ _ v => v
  | .br _ _ _ _ => 0
def T.ks : T → List (Nat × T)
  | .ent _ _ _ => []
  | .br _ _ _ ks => ks
theorem kid_lt {x : Nat × T} {ks : List (Nat × T)} (hx : x ∈ ks) (g l : Nat) (pre : List Nat) : SizeOf.sizeOf x.2 < SizeOf.sizeOf (T.br g l pre ks) := by
  have h1 := List.sizeOf_lt_of_mem hx
  have h2 : SizeOf.sizeOf x.2 < SizeOf.sizeOf x := by cases x; simp; omega
  simp only [T.br.sizeOf_spec]
  omega
def T.ents (t : T) : List Ent :=
  match t with
  | .ent _ p v => [(p, v)]
  | .br _ _ _ ks => ks.attach.flatMap fun x => T.ents x.1.2
termination_by SizeOf.sizeOf t
decreasing_by
  rename_i g l pre
  have := kid_lt x.2 g l pre
  simpa using this
def entsL (ks : List (Nat × T)) : List Ent := ks.flatMap fun x => x.2.ents
theorem ents_ent (g : Nat) (p : List Nat) (v : Nat) : (T.ent g p v).ents = [(p, v)] := by rw [T.ents]
theorem ents_br (g l : Nat) (pre : List Nat) (ks : List (Nat × T)) : (T.br g l pre ks).ents = entsL ks := by
  rw [T.ents, entsL]
  conv => rhs; rw [← List.attach_map_subtype_val ks]
  rw [List.flatMap_map]
theorem entsL_cons (x : Nat × T) (ks : List (Nat × T)) : entsL (x :: ks) = x.2.ents ++ entsL ks := by simp [entsL]
theorem mem_entsL {e : Ent} {ks : List (Nat × T)} : e ∈ entsL ks ↔ ∃ x ∈ ks, e ∈ x.2.ents := by simp [entsL]

inductive Wf (k : Nat) : T → Prop
  | ent (g : Nat) (p : List Nat) (v : Nat) (k1 : 1 ≤ k) (k16 : k ≤ 16) (hl : p.length = k) (ho : Ok p) (hv : v < 18446744073709551616) : Wf k (.ent g p v)
  | br (g l : Nat) (pre : List Nat) (ks : List (Nat × T)) (h63 : l ≤ 63) (hw : Sl.Wf k ks) (h2 : 2 ≤ ks.length) (hl : pre.length = k) (ho : Ok pre)
      (hk : ∀ x ∈ ks, Wf k x.2) (hc : ∀ x ∈ ks, x.2.lv ≤ l ∧ cut x.2.pre (l + 1) = pre ∧ addr x.2.pre l = x.1) : Wf k (.br g l pre ks)

theorem cutN_zero (u : Nat) : cutN u 0 = u := by simp [cutN]
theorem cut_zero (us : List Nat) : cut us 0 = us := by simp [cut, cutN_zero]
theorem cutN_cutN (u a b : Nat) (h : a ≤ b) : cutN (cutN u a) b = cutN u b := by
  apply Nat.eq_of_testBit_eq
  intro m
  rw [cutN_testBit, cutN_testBit, cutN_testBit]
  by_cases hb : b ≤ m
  · have : a ≤ m := by omega
    simp [hb, this]
  · simp [hb]
theorem cut_cut (us : List Nat) (a b : Nat) (h : a ≤ b) : cut (cut us a) b = cut us b := by
  simp only [cut, List.map_map]
  congr 1
  funext u
  exact cutN_cutN u a b h

theorem Wf.k1 {k : Nat} {t : T} (h : Wf k t) : 1 ≤ k := by
  cases h with
  | ent _ _ _ k1 => exact k1
  | br _ _ _ _ _ hw => exact hw.k1
theorem Wf.k16 {k : Nat} {t : T} (h : Wf k t) : k ≤ 16 := by
  cases h with
  | ent _ _ _ _ k16 => exact k16
  | br _ _ _ _ _ hw => exact hw.k16
theorem Wf.len {k : Nat} {t : T} (h : Wf k t) : t.pre.length = k := by
  cases h with
  | ent _ _ _ _ _ hl => exact hl
  | br _ _ _ _ _ _ _ hl => exact hl
theorem Wf.ok {k : Nat} {t : T} (h : Wf k t) : Ok t.pre := by
  cases h with
  | ent _ _ _ _ _ _ ho => exact ho
  | br _ _ _ _ _ _ _ _ ho => exact ho
theorem Wf.each {k : Nat} {t : T} (h : Wf k t) : ∀ e ∈ t.ents, e.1.length = k ∧ Ok e.1 ∧ e.2 < 18446744073709551616 ∧ cut e.1 t.lv = t.pre := by
  induction h with
  | ent g p v k1 k16 hl ho hv =>
    intro e he
    rw [ents_ent] at he
    simp only [List.mem_singleton] at he
    subst he
    exact ⟨hl, ho, hv, cut_zero p⟩
  | br g l pre ks h63 hw h2 hl ho hk hc ih =>
    intro e he
    rw [ents_br, mem_entsL] at he
    obtain ⟨x, hx, he⟩ := he
    obtain ⟨a1, a2, a3, a4⟩ := ih x hx e he
    obtain ⟨c1, c2, c3⟩ := hc x hx
    refine ⟨a1, a2, a3, ?_⟩
    show cut e.1 (l + 1) = pre
    rw [← cut_cut e.1 x.2.lv (l + 1) (by omega), a4, c2]
theorem Wf.ne {k : Nat} {t : T} (h : Wf k t) : t.ents ≠ [] := by
  induction h with
  | ent g p v => rw [ents_ent]; simp
  | br g l pre ks h63 hw h2 hl ho hk hc ih =>
    rw [ents_br]
    match ks, h2 with
    | x :: r, _ =>
      rw [entsL_cons]
      have := ih x (List.mem_cons_self)
      intro h
      exact this (List.append_eq_nil_iff.1 h).1
theorem Wf.addr_at {k : Nat} {t : T} (h : Wf k t) {e : Ent} (he : e ∈ t.ents) {m : Nat} (hm : t.lv ≤ m) : addr e.1 m = addr t.pre m := by
  have h1 := (h.each e he).2.2.2
  have h2 := cut_addr e.1 t.lv m
  rw [if_pos hm, h1] at h2
  exact h2.symm
theorem Wf.cut_pre {k : Nat} {t : T} (h : Wf k t) : cut t.pre t.lv = t.pre := by
  obtain ⟨e, he⟩ := List.exists_mem_of_ne_nil _ h.ne
  have h1 := (h.each e he).2.2.2
  rw [← h1, cut_cut _ _ _ (Nat.le_refl _)]
theorem br_part {k g l : Nat} {pre : List Nat} {ks : List (Nat × T)} (h : Wf k (.br g l pre ks)) {x y : Nat × T} (hx : x ∈ ks) (hy : y ∈ ks) (hne : x.1 ≠ y.1) {a b : List Nat}
    (ha : a.length = k ∧ Ok a ∧ cut a x.2.lv = x.2.pre) (hb : b.length = k ∧ Ok b ∧ cut b y.2.lv = y.2.pre) : Z.part a b = (l : Int) := by
  cases h with
  | br _ _ _ _ h63 hw h2 hl ho hk hc =>
    obtain ⟨x1, x2, x3⟩ := hc x hx
    obtain ⟨y1, y2, y3⟩ := hc y hy
    have ax : addr a l = x.1 := by
      have := cut_addr a x.2.lv l
      rw [if_pos x1, ha.2.2, x3] at this
      exact this.symm
    have ay : addr b l = y.1 := by
      have := cut_addr b y.2.lv l
      rw [if_pos y1, hb.2.2, y3] at this
      exact this.symm
    refine part_eq (by rw [ha.1, hb.1]) ha.2.1 hb.2.1 l (by rw [ax, ay]; exact hne) fun m hm _ => ?_
    have p1 := cut_addr a (l + 1) m
    have p2 := cut_addr b (l + 1) m
    rw [if_pos (by omega)] at p1 p2
    rw [← p1, ← p2, ← cut_cut a x.2.lv (l + 1) (by omega), ← cut_cut b y.2.lv (l + 1) (by omega), ha.2.2, hb.2.2, x2, y2]
theorem Wf.own {k : Nat} {t : T} (h : Wf k t) : t.pre.length = k ∧ Ok t.pre ∧ cut t.pre t.lv = t.pre := ⟨h.len, h.ok, h.cut_pre⟩
theorem Wf.entry {k : Nat} {t : T} (h : Wf k t) {e : Ent} (he : e ∈ t.ents) : e.1.length = k ∧ Ok e.1 ∧ cut e.1 t.lv = t.pre :=
  ⟨(h.each e he).1, (h.each e he).2.1, (h.each e he).2.2.2⟩
end Go.Proofs.Ytpgkfccfabnjdaa.Tr

/-
  ROWS OF VALUES IN MEMORY, of whatever element type of one cell: 'RdV' (a slice that can be read), 'OwnV' (one that the call made), how they are cut, and appended to. Nothing of the program but its types' numbers is named here.
-/
namespace Go.Proofs.Ytpgkfccfabnjdaa
open Go.ChangeShapes Go.WideShapes Go.ChangeAt Go.RowKit

def RdV (w : World) (B : Nat) (A : Option Addr) (xs : List Value) : Prop :=
  xs ≠ [] → ∃ b off, A = some ⟨b, off, none⟩ ∧ b < B ∧ ∀ (i : Nat) (v : Value), xs[i]? = some v → w.cell? ⟨b, off + i, none⟩ = some v
theorem RdV.nil (w : World) (B : Nat) (A : Option Addr) : RdV w B A [] := fun h => absurd rfl h
theorem RdV.keep {w w' : World} {B B' : Nat} {A : Option Addr} {xs : List Value} (h : RdV w B A xs) (hB : B ≤ B') (hw : ∀ p : Addr, p.block < B → w'.cell? p = w.cell? p) : RdV w' B' A xs := by
  intro hn
  obtain ⟨b, off, rfl, hb, hc⟩ := h hn
  exact ⟨b, off, rfl, by omega, fun i u hi => (hw _ hb).trans (hc i u hi)⟩
theorem RdV.below {w w' : World} {B B' C : Nat} {A : Option Addr} {xs : List Value} (h : RdV w B A xs) (hb : Below C w w') (hC : B ≤ C) (hB : B ≤ B') : RdV w' B' A xs := h.keep hB fun _ hp => hb.cell (Nat.lt_of_lt_of_le hp hC)
theorem RdV.drew {w : World} {B : Nat} {A : Option Addr} {xs : List Value} (h : RdV w B A xs) : RdV w.drew B A xs := h
theorem RdV.at {w : World} {B : Nat} {A : Option Addr} {xs : List Value} (h : RdV w B A xs) {i : Nat} {v : Value} (hi : xs[i]? = some v) : ∃ b off, A = some ⟨b, off, none⟩ ∧ b < B ∧ w.cell? ⟨b, off + i, none⟩ = some v := by
  obtain ⟨b, off, hA, hb, hc⟩ := h (by rintro rfl; simp at hi)
  exact ⟨b, off, hA, hb, hc i v hi⟩
theorem pts_rdV {w : World} {B : Nat} {A : Option Addr} {us : List Nat} (h : Pts w B A us) : RdV w B A (vals us) := by
  intro hn
  obtain ⟨b, off, hA, hb, hc⟩ := h.2 (by rintro rfl; exact hn rfl)
  refine ⟨b, off, hA, hb, fun i v hi => ?_⟩
  simp only [vals, List.getElem?_map, Option.map_eq_some_iff] at hi
  obtain ⟨u, hu, rfl⟩ := hi
  exact hc i u hu
def OwnV (e : TypeId) (w : World) (base : Nat) (v : Value) (xs : List Value) : Prop := (∀ x ∈ xs, x.oneCell' = true) ∧ w.ownsRow base e 1 v xs.length xs
theorem OwnV.below {e : TypeId} {w w' : World} {base C : Nat} {v : Value} {xs : List Value} (h : OwnV e w base v xs) (hb : Below C w w') (hC : w.heap.size ≤ C) : OwnV e w' base v xs := by
  refine ⟨h.1, h.2.1, ?_⟩
  rcases h.2.2 with h2 | ⟨g, cap, cur, hv, hg, hh, r⟩
  · exact .inl h2
  · exact .inr ⟨g, cap, cur, hv, hg, (hb.block g (by have := (Array.getElem?_eq_some_iff.1 hh).1; omega)).trans hh, r⟩
theorem OwnV.drew {e : TypeId} {w : World} {base : Nat} {v : Value} {xs : List Value} (h : OwnV e w base v xs) : OwnV e w.drew base v xs := h
theorem OwnV.mono {e : TypeId} {w : World} {base base' : Nat} {v : Value} {xs : List Value} (h : OwnV e w base v xs) (hb : base' ≤ base) : OwnV e w base' v xs := by
  refine ⟨h.1, h.2.1, ?_⟩
  rcases h.2.2 with h2 | ⟨g, cap, cur, hv, hg, r⟩
  · exact .inl h2
  · exact .inr ⟨g, cap, cur, hv, by omega, r⟩
theorem OwnV.rd {e : TypeId} {w : World} {base : Nat} {v : Value} {xs : List Value} (h : OwnV e w base v xs) : ∃ A c, v = .slice A xs.length c ∧ xs.length ≤ c ∧ RdV w w.heap.size A xs := by
  rcases h.2.2 with ⟨hv, hn⟩ | ⟨g, cap, cur, hv, hg, hh, r⟩
  · have : xs = [] := List.eq_nil_of_length_eq_zero hn
    subst this
    exact ⟨none, 0, hv, Nat.le_refl _, RdV.nil _ _ _⟩
  · refine ⟨_, cap, hv, r.1, fun _ => ⟨g, 0, rfl, (Array.getElem?_eq_some_iff.1 hh).1, fun i u hi => ?_⟩⟩
    subst hv
    rw [Nat.zero_add, World.ownsRow.cellAt h.2 i (by have := lt_get hi; omega)]
    exact hi
theorem OwnV.cap {e : TypeId} {w : World} {base n c : Nat} {A : Option Addr} {xs : List Value} (h : OwnV e w base (.slice A n c) xs) : n ≤ c := by
  obtain ⟨A', c', hv, hle, _⟩ := h.rd
  injection hv with _ e2 e3
  omega
theorem OwnV.row {e : TypeId} {w : World} {base : Nat} {v : Value} {xs : List Value} (h : OwnV e w base v xs) (hn : xs ≠ []) : ∃ g d, v = .slice (some ⟨g, 0, none⟩) xs.length d := by
  rcases h.2.2 with ⟨hv, h0⟩ | ⟨g, cap, cur, hv, _⟩
  · exact absurd (List.eq_nil_of_length_eq_zero h0) hn
  · exact ⟨g, cap, hv⟩
theorem OwnV.lt {e : TypeId} {w : World} {base : Nat} {v : Value} {xs : List Value} (h : OwnV e w base v xs) : ∀ q, v.ownBlock = some q → base ≤ q ∧ q < w.heap.size := h.2.lt
theorem ownV_nil (e : TypeId) (w : World) : OwnV e (w.alloc (.cells #[] e)) w.heap.size (.slice (some ⟨w.heap.size, 0, none⟩) 0 0) [] :=
  ⟨fun x h => by simp at h, World.ownsRow_made w #[] 0 (Nat.le_refl _) (by unfold maxLen; omega) (by simp)⟩
theorem wpList_append_vals {w : World} {ops : Array Oper} {rest : List Oper} {o : Oper} {a : Act} {Q : Exit → Act → World → Prop} (t e : TypeId) (z : Value) (sz : Nat) (hu : Try.prog.underlying t = some (.slice e)) (hinfo : (Try.prog.info? e).map (fun i => (i.zero, i.size, i.bytes)) = some (some z, 1, sz)) (hzc : z.cells.size = 1) (hsz : sz ≤ 16)
    (hgd : o.guard = none) (s x : Operand) (ho : o.op = .call { callee := .builtin .append, args := #[s, x], argTypes := #[t, t] }) (base : Nat) (v : Value) (vs xs : List Value) (hs : a.eval s = v) (hown : OwnV e w base v vs)
    (B : Nat) (A : Option Addr) (n c : Nat) (hn : xs.length = n) (hx : a.eval x = .slice A n c) (hp : RdV w B A xs) (h1 : ∀ u ∈ xs, u.oneCell' = true) (hlen : vs.length + xs.length ≤ 8000000000) (hbase : base ≤ w.heap.size)
    (h : ∀ v' w', OwnV e w' base v' (vs ++ xs) → w.grownBy w' v.ownBlock → (v'.ownBlock = v.ownBlock ∨ v'.ownBlock = some w.heap.size) → wpList Try.prog ops Q rest (a.put o.dst v') w') : wpList Try.prog ops Q (o :: rest) a w := by
  obtain ⟨i0, hi0, hz0, hz1, hz2⟩ := info_parts hinfo
  subst hn
  have hb : (vs.length + xs.length) * sz ≤ 140737488355328 := Nat.le_trans (Nat.mul_le_mul hlen hsz) (by omega)
  have hall : ∀ u ∈ vs ++ xs, u.oneCell' = true := fun u hu => by
    rcases List.mem_append.1 hu with h2 | h2
    · exact hown.1 u h2
    · exact h1 u h2
  have hl : (vs ++ xs).length = vs.length + xs.length := by simp
  rcases A with _ | ad
  · have hn : xs = [] := by
      rcases Classical.em (xs = []) with h0 | h0
      · exact h0
      · obtain ⟨b, off, hA, _⟩ := hp h0
        cases hA
    subst hn
    refine wpList_plain hgd fun K hK => ?_
    have hrun := run_append_nil (P := Try.prog) w base t o.type e i0 1 hu hi0 v vs.length vs hown.2 c
    unfold Oper.wp
    simp [execOp, ho, resolve, invoke, builtin, hs, hx, hrun, Result.andThen]
    exact hK _ _ (h v w (by simpa using hown) (World.grownBy.refl w _) (.inl rfl))
  · refine wpList_append_own_at w hgd s x t ho base e i0 z 1 sz hu hi0 hz0 hz1 hz2 hzc (by decide) v vs.length vs hs hown.2 ad xs.length c xs hx (by omega) ?_ h1 (by unfold maxLen; omega) hb hbase ?_
    · intro j u hj
      obtain ⟨b, off, hA, _, hc⟩ := hp (by rintro rfl; simp at hj)
      cases hA
      rw [Go.WideShapes.add_plain]
      exact hc j u hj
    · intro v' w' g1 g2 _ g4
      exact h v' w' ⟨hall, by rw [hl]; exact g1⟩ g2 g4
theorem OwnV.grown {e : TypeId} {w w' : World} {base : Nat} {v : Value} {xs : List Value} {row : Option Nat} (h : OwnV e w base v xs) (hg : w.grownBy w' row) (hne : v.ownBlock = none ∨ v.ownBlock ≠ row) : OwnV e w' base v xs := ⟨h.1, h.2.kept hg hne⟩
end Go.Proofs.Ytpgkfccfabnjdaa
