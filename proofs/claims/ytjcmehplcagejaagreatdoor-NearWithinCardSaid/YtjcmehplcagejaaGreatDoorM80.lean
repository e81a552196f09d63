import Derived.Test.YtjcmehplcagejaaGreatDoorM06
import Derived.Test.YtjcmehplcagejaaGreatDoorM01
/-
  NEAR, MATHEMATICS: heaps (the least one first).
-/
namespace Go.Proofs.YtjcmehplcagejaaGreatDoor.Hp

/-- the parent of a place -/
def par (i : Nat) : Nat := (i - 1) / 2
def swp (f : Nat → Nat) (i j : Nat) : Nat → Nat := fun m => if m = i then f j else if m = j then f i else f m
theorem swp_l (f : Nat → Nat) (i j : Nat) : swp f i j i = f j := if_pos rfl
theorem swp_r (f : Nat → Nat) (i j : Nat) : swp f i j j = f i := by
  unfold swp
  split
  · rename_i h; rw [h]
  · exact if_pos rfl
theorem swp_o (f : Nat → Nat) {i j m : Nat} (h1 : m ≠ i) (h2 : m ≠ j) : swp f i j m = f m := by
  unfold swp
  rw [if_neg h1, if_neg h2]
/-- a heap of the first n -/
def HeapN (f : Nat → Nat) (n : Nat) : Prop := ∀ i, 0 < i → i < n → f (par i) ≤ f i
/-- a heap, but for what stands at j, which may be too small -/
def UpH (f : Nat → Nat) (n j : Nat) : Prop := (∀ i, 0 < i → i < n → i ≠ j → f (par i) ≤ f i) ∧ (∀ c, 0 < c → c < n → par c = j → 0 < j → f (par j) ≤ f c)
/-- a heap, but for what stands at i, which may be too great -/
def DownH (f : Nat → Nat) (n i : Nat) : Prop := (∀ c, 0 < c → c < n → par c ≠ i → f (par c) ≤ f c) ∧ (0 < i → ∀ c, 0 < c → c < n → par c = i → f (par i) ≤ f c)
theorem par_lt {i : Nat} (h : 0 < i) : par i < i := by unfold par; omega
theorem HeapN.least {f : Nat → Nat} {n : Nat} (h : HeapN f n) : ∀ i, i < n → f 0 ≤ f i := by
  intro i
  induction i using Nat.strongRecOn with
  | ind i ih =>
    intro hi
    rcases Nat.eq_zero_or_pos i with rfl | hp
    · exact Nat.le_refl _
    · exact Nat.le_trans (ih _ (par_lt hp) (Nat.lt_trans (par_lt hp) hi)) (h i hp hi)
theorem HeapN.up {f : Nat → Nat} {n : Nat} (h : HeapN f n) : UpH f (n + 1) n :=
  ⟨fun i h0 hi hn => h i h0 (by omega), fun c h0 hc hp _ => by have := par_lt h0; omega⟩
theorem UpH.step {f : Nat → Nat} {n j : Nat} (h : UpH f n j) (h0 : 0 < j) (hj : j < n) (hlt : f j < f (par j)) : UpH (swp f (par j) j) n (par j) := by
  have hij := par_lt h0
  obtain ⟨i, hi⟩ : ∃ i, par j = i := ⟨_, rfl⟩
  rw [hi] at hij hlt ⊢
  refine ⟨fun c c0 cn hc => ?_, fun c c0 cn hc i0 => ?_⟩
  · by_cases hcj : c = j
    · subst hcj; rw [hi, swp_l, swp_r]; omega
    · rw [swp_o f hc hcj]
      by_cases h1 : par c = i
      · rw [h1, swp_l]
        have := h.1 c c0 cn hcj
        rw [h1] at this; omega
      · by_cases h2 : par c = j
        · rw [h2, swp_r]
          have := h.2 c c0 cn h2 h0
          rw [hi] at this; exact this
        · rw [swp_o f h1 h2]; exact h.1 c c0 cn hcj
  · have hpi := par_lt i0
    rw [swp_o f (by omega) (by omega)]
    have h3 := h.1 i i0 (by omega) (by omega)
    by_cases hcj : c = j
    · subst hcj; rw [swp_r]; exact h3
    · have hci : c ≠ i := fun e => by subst e; have := par_lt c0; omega
      rw [swp_o f hci hcj]
      have h4 := h.1 c c0 cn hcj
      rw [hc] at h4; omega
theorem UpH.done {f : Nat → Nat} {n j : Nat} (h : UpH f n j) (hd : j = 0 ∨ f (par j) ≤ f j) : HeapN f n := by
  intro i h0 hi
  by_cases e : i = j
  · subst e
    rcases hd with rfl | hd
    · omega
    · exact hd
  · exact h.1 i h0 hi e
theorem HeapN.down {f : Nat → Nat} {n : Nat} (h : HeapN f (n + 1)) : DownH (swp f 0 n) n 0 := by
  refine ⟨fun c c0 cn hc => ?_, fun h0 => by omega⟩
  have := par_lt c0
  rw [swp_o f hc (by omega), swp_o f (by omega) (by omega)]
  exact h c c0 (by omega)
theorem DownH.step {f : Nat → Nat} {n i m : Nat} (h : DownH f n i) (m0 : 0 < m) (mn : m < n) (hm : par m = i) (hlt : f m < f i) (hl : ∀ c, 0 < c → c < n → par c = i → f m ≤ f c) : DownH (swp f i m) n m := by
  have him : i < m := by rw [← hm]; exact par_lt m0
  refine ⟨fun c c0 cn hc => ?_, fun _ c c0 cn hc => ?_⟩
  · by_cases h1 : par c = i
    · rw [h1, swp_l]
      by_cases h2 : c = m
      · subst h2; rw [swp_r]; omega
      · rw [swp_o f (by have := par_lt c0; omega) h2]; exact hl c c0 cn h1
    · rw [swp_o f h1 hc]
      by_cases h3 : c = i
      · subst h3; rw [swp_l]; exact h.2 c0 m m0 mn hm
      · rw [swp_o f h3 (fun e => h1 (by rw [e]; exact hm))]; exact h.1 c c0 cn h1
  · have hcl := par_lt c0
    rw [hm, swp_l, swp_o f (by omega) (by omega)]
    have := h.1 c c0 cn (by omega)
    rw [hc] at this; exact this
theorem DownH.done {f : Nat → Nat} {n i : Nat} (h : DownH f n i) (hl : ∀ c, 0 < c → c < n → par c = i → f i ≤ f c) : HeapN f n := by
  intro c c0 cn
  by_cases e : par c = i
  · rw [e]; exact hl c c0 cn e
  · exact h.1 c c0 cn e
theorem par_kids {c i : Nat} (h : 0 < c) : par c = i ↔ c = 2 * i + 1 ∨ c = 2 * i + 2 := by unfold par; omega

variable {α : Type}
/-- the numbers by which a list is ordered -/
def fo (o : α → Nat) (xs : List α) (i : Nat) : Nat := match xs[i]? with | some x => o x | none => 0
theorem fo_at {o : α → Nat} {xs : List α} {i : Nat} {x : α} (h : xs[i]? = some x) : fo o xs i = o x := by unfold fo; rw [h]
/-- two change their places -/
def swL (xs : List α) (i j : Nat) : List α := match xs[i]?, xs[j]? with | some x, some y => (xs.set i y).set j x | _, _ => xs
theorem swL_eq {xs : List α} {i j : Nat} {x y : α} (hx : xs[i]? = some x) (hy : xs[j]? = some y) : swL xs i j = (xs.set i y).set j x := by unfold swL; rw [hx, hy]
theorem swL_length (xs : List α) (i j : Nat) : (swL xs i j).length = xs.length := by unfold swL; split <;> simp
theorem swL_fo (o : α → Nat) {xs : List α} {i j : Nat} (hi : i < xs.length) (hj : j < xs.length) : fo o (swL xs i j) = swp (fo o xs) i j := by
  have hx := List.getElem?_eq_getElem hi
  have hy := List.getElem?_eq_getElem hj
  rw [swL_eq hx hy]
  funext m
  by_cases h1 : m = i
  · subst h1
    rw [swp_l, fo_at hy]
    by_cases h2 : m = j
    · subst h2; exact fo_at (by rw [List.getElem?_set_self (by rw [List.length_set]; exact hi)])
    · exact fo_at (by rw [List.getElem?_set_ne (Ne.symm h2), List.getElem?_set_self hi])
  · by_cases h2 : m = j
    · subst h2
      rw [swp_r, fo_at hx]
      exact fo_at (by rw [List.getElem?_set_self (by rw [List.length_set]; exact hj)])
    · rw [swp_o _ h1 h2]
      unfold fo
      rw [List.getElem?_set_ne (Ne.symm h2), List.getElem?_set_ne (Ne.symm h1)]
theorem swL_perm (xs : List α) (i j : Nat) : (swL xs i j).Perm xs := by
  unfold swL
  split
  · rename_i x y hx hy
    obtain ⟨hi, rfl⟩ := List.getElem?_eq_some_iff.1 hx
    obtain ⟨hj, rfl⟩ := List.getElem?_eq_some_iff.1 hy
    exact List.set_set_perm hi hj
  · exact List.Perm.refl _
theorem fo_app (o : α → Nat) (xs : List α) (x : α) : HeapN (fo o xs) xs.length → UpH (fo o (xs ++ [x])) (xs.length + 1) xs.length := by
  intro h
  refine HeapN.up fun i h0 hi => ?_
  have := h i h0 hi
  have hp := par_lt h0
  unfold fo at this ⊢
  rw [List.getElem?_append_left (by omega), List.getElem?_append_left hi]
  exact this
theorem fo_drop {o : α → Nat} {xs : List α} {n : Nat} (hn : n ≤ xs.length) (h : HeapN (fo o xs) n) : HeapN (fo o (xs.take n)) (xs.take n).length := by
  intro i h0 hi
  rw [List.length_take, Nat.min_eq_left hn] at hi
  have := h i h0 hi
  have hp := par_lt h0
  unfold fo at this ⊢
  rw [List.getElem?_take_of_lt (by omega), List.getElem?_take_of_lt hi]
  exact this
end Go.Proofs.YtjcmehplcagejaaGreatDoor.Hp

/-
  NEAR, MATHEMATICS: entries by their distance.
-/
namespace Go.Proofs.YtjcmehplcagejaaGreatDoor.Nr
open Z
open Tr (T Ent Wf ZS Dim key keyN)

theorem dif_comm (a b : Nat) : Bx.dif a b = Bx.dif b a := by unfold Bx.dif; rw [Nat.max_comm, Nat.min_comm]
theorem far_comm (p q : List Nat) : ∀ k, Bx.far p q k = Bx.far q p k
  | 0 => rfl
  | k + 1 => by simp only [Bx.far]; rw [far_comm p q k, dif_comm]
theorem far_mono {p a b : List Nat} : ∀ {k : Nat}, (∀ i, i < k → Bx.dif (Bx.g p i) (Bx.g a i) ≤ Bx.dif (Bx.g p i) (Bx.g b i)) → Bx.far p a k ≤ Bx.far p b k
  | 0, _ => Nat.le_refl _
  | k + 1, h => by
    have h1 := far_mono (k := k) fun i hi => h i (by omega)
    have h2 := h k (by omega)
    simp only [Bx.far]
    omega
theorem far_congr {p a b : List Nat} {k : Nat} (h : ∀ i, i < k → Bx.g a i = Bx.g b i) : Bx.far p a k = Bx.far p b k :=
  Nat.le_antisymm (far_mono fun i hi => by rw [h i hi]; exact Nat.le_refl _) (far_mono fun i hi => by rw [h i hi]; exact Nat.le_refl _)
def dist (p q : List Nat) : Nat := Bx.far p q p.length
/-- the distance of what a node covers -/
def distT (p : List Nat) (t : T) : Nat := Bx.far p (Bx.near t.pre (Bx.cellHi t.pre t.lv) p) p.length
theorem dist_lt {p q : List Nat} (hp : Ok p) (hq : Ok q) : dist p q < 18446744073709551616 := Bx.far_lt hp hq _
theorem distT_lt {k : Nat} {p : List Nat} (hp : Ok p) {t : T} (h : Wf k t) : distT p t < 18446744073709551616 := Bx.far_lt hp (Bx.near_ok (Bx.cellHi_ok h.ok h.lv64)) _
theorem distT_ent {k g v : Nat} {p q : List Nat} (h : Wf k (.ent g q v)) (hp : p.length = k) : distT p (.ent g q v) = dist p q := by
  have hl : q.length = k := h.len
  refine far_congr fun i hi => ?_
  have h1 : i < q.length := by omega
  have e1 : T.pre (.ent g q v) = q := rfl
  have e2 : T.lv (.ent g q v) = 0 := rfl
  rw [Bx.near, Bx.g_tab _ (by omega)]
  unfold Bx.nearG
  rw [e1, e2, Bx.cellHi, Bx.g_tab _ h1, Tr.cutN_zero]
  omega
theorem distT_le {k : Nat} {p : List Nat} {t : T} (h : Wf k t) (hp : p.length = k) {e : Ent} (he : e ∈ t.ents) : distT p t ≤ dist p e.1 := by
  have hen := h.entry he
  have hl := h.len
  have hc := h.cut_pre
  refine far_mono fun i hi => ?_
  rw [Bx.near, Bx.g_tab _ (by omega)]
  have h1 := Bx.cell_isin (p := t.pre) (q := e.1) t.lv (by rw [hl, hen.1])
  rw [hc, hen.2.2, decide_eq_true rfl, Bx.isin_true] at h1
  have h2 := h1 i (by omega)
  unfold Bx.nearG Bx.dif
  omega
theorem keyN_le {p q : List Nat} (hl : p.length = q.length) (h : ∀ m, addr p m ≤ addr q m) : ∀ n, keyN p n ≤ keyN q n
  | 0 => Nat.le_refl _
  | n + 1 => by
    simp only [keyN]
    rw [hl]
    exact Nat.add_le_add (keyN_le hl h n) (Nat.mul_le_mul_right _ (h n))
theorem key_pre {k : Nat} {t : T} (h : Wf k t) {e : Ent} (he : e ∈ t.ents) : key t.pre ≤ key e.1 := by
  have hen := h.entry he
  rw [← hen.2.2]
  exact keyN_le (by rw [cut_length]) (fun m => by rw [cut_addr]; split <;> omega) 64
/-- the order: by distance, then by place -/
def lex (k d x : Nat) : Nat := d * (2 ^ k) ^ 64 + x
theorem key_bd {k : Nat} {p : List Nat} (h : p.length = k) : key p < (2 ^ k) ^ 64 := by rw [← h]; exact Tr.keyN_lt p 64
theorem lex_lt {k d x d' x' : Nat} (hx : x < (2 ^ k) ^ 64) (hx' : x' < (2 ^ k) ^ 64) : lex k d x < lex k d' x' ↔ d < d' ∨ (d = d' ∧ x < x') := by
  unfold lex
  generalize (2 ^ k) ^ 64 = b at *
  rcases Nat.lt_trichotomy d d' with h | h | h
  · have := Nat.mul_le_mul_right b (show d + 1 ≤ d' by omega)
    rw [Nat.add_mul, Nat.one_mul] at this
    omega
  · subst h; omega
  · have := Nat.mul_le_mul_right b (show d' + 1 ≤ d by omega)
    rw [Nat.add_mul, Nat.one_mul] at this
    omega
theorem lex_mono {k d x d' x' : Nat} (hd : d ≤ d') (hx : x ≤ x') : lex k d x ≤ lex k d' x' := Nat.add_le_add (Nat.mul_le_mul_right _ hd) hx
def ordE (p : List Nat) (e : Ent) : Nat := lex p.length (dist p e.1) (key e.1)
def ordT (p : List Nat) (t : T) : Nat := lex p.length (distT p t) (key t.pre)
theorem ordT_le {k : Nat} {p : List Nat} {t : T} (h : Wf k t) (hp : p.length = k) {e : Ent} (he : e ∈ t.ents) : ordT p t ≤ ordE p e := lex_mono (distT_le h hp he) (key_pre h he)
theorem ordT_ent {k g v : Nat} {p q : List Nat} (h : Wf k (.ent g q v)) (hp : p.length = k) : ordT p (.ent g q v) = ordE p (q, v) := by
  unfold ordT ordE
  rw [distT_ent h hp]
  rfl
/-- the nearest first -/
def NS (p : List Nat) (N : List Ent) : Prop := N.Pairwise fun a b => ordE p a < ordE p b
theorem NS.ext {p : List Nat} : ∀ {L M : List Ent}, NS p L → NS p M → (∀ e, e ∈ L ↔ e ∈ M) → L = M
  | [], [], _, _, _ => rfl
  | [], b :: M, _, _, h => by have := (h b).2 (by simp); cases this
  | a :: L, [], _, _, h => by have := (h a).1 (by simp); cases this
  | a :: L, b :: M, hL, hM, h => by
    have h1 := List.pairwise_cons.1 hL
    have h2 := List.pairwise_cons.1 hM
    have e : a = b := by
      rcases List.mem_cons.1 ((h a).1 (by simp)) with e | e
      · exact e
      · rcases List.mem_cons.1 ((h b).2 (by simp)) with f | f
        · exact f.symm
        · have := h2.1 a e; have := h1.1 b f; omega
    subst e
    rw [NS.ext h1.2 h2.2 fun x => ?_]
    have hx := h x
    simp only [List.mem_cons] at hx
    constructor
    · intro hm
      rcases hx.1 (.inr hm) with e | e
      · subst e; have := h1.1 x hm; omega
      · exact e
    · intro hm
      rcases hx.2 (.inr hm) with e | e
      · subst e; have := h2.1 x hm; omega
      · exact e
/-- one more, behind those that are as near -/
def insN (p : List Nat) (out : List Ent) (e : Ent) : List Ent := out.takeWhile (fun x => decide (dist p x.1 ≤ dist p e.1)) ++ e :: out.dropWhile (fun x => decide (dist p x.1 ≤ dist p e.1))
def nearL (p : List Nat) (L : List Ent) : List Ent := L.foldl (insN p) []
theorem insN_mem {p : List Nat} {out : List Ent} {e x : Ent} : x ∈ insN p out e ↔ x = e ∨ x ∈ out := by
  unfold insN
  have h := List.takeWhile_append_dropWhile (p := fun x : Ent => decide (dist p x.1 ≤ dist p e.1)) (l := out)
  generalize out.takeWhile _ = A at *
  generalize out.dropWhile _ = B at *
  subst h
  simp only [List.mem_append, List.mem_cons]
  constructor
  · rintro (h | h | h) <;> simp [h]
  · rintro (h | h | h) <;> simp [h]
theorem insN_length (p : List Nat) (out : List Ent) (e : Ent) : (insN p out e).length = out.length + 1 := by
  unfold insN
  have h := congrArg List.length (List.takeWhile_append_dropWhile (p := fun x : Ent => decide (dist p x.1 ≤ dist p e.1)) (l := out))
  rw [List.length_append] at h
  rw [List.length_append, List.length_cons]
  omega
theorem takeWhile_all {α : Type} {q : α → Bool} : ∀ {L : List α} {x : α}, x ∈ L.takeWhile q → q x = true
  | [], _, h => by cases h
  | a :: L, x, h => by
    rw [List.takeWhile_cons] at h
    split at h
    · rcases List.mem_cons.1 h with rfl | h
      · assumption
      · exact takeWhile_all h
    · cases h
theorem dropWhile_head {α : Type} {q : α → Bool} : ∀ {L : List α} {x : α} {M : List α}, L.dropWhile q = x :: M → q x = false
  | [], _, _, h => by cases h
  | a :: L, x, M, h => by
    rw [List.dropWhile_cons] at h
    split at h
    · exact dropWhile_head h
    · rename_i hq
      cases h
      simpa using hq
theorem NS.ins {k : Nat} {p : List Nat} (hp : p.length = k) {out : List Ent} {e : Ent} (h : NS p out) (hd : ∀ x ∈ out, x.1.length = k) (hk : ∀ x ∈ out, key x.1 < key e.1) (he : e.1.length = k) : NS p (insN p out e) := by
  subst hp
  have hlt : ∀ {x y : Ent}, x.1.length = p.length → y.1.length = p.length → (ordE p x < ordE p y ↔ dist p x.1 < dist p y.1 ∨ (dist p x.1 = dist p y.1 ∧ key x.1 < key y.1)) := fun hx hy => lex_lt (key_bd hx) (key_bd hy)
  unfold insN
  have hcat := List.takeWhile_append_dropWhile (p := fun x : Ent => decide (dist p x.1 ≤ dist p e.1)) (l := out)
  have hA : ∀ x ∈ out.takeWhile (fun x => decide (dist p x.1 ≤ dist p e.1)), dist p x.1 ≤ dist p e.1 := fun x hx => by have := takeWhile_all hx; exact of_decide_eq_true this
  have hB : ∀ x M, out.dropWhile (fun x => decide (dist p x.1 ≤ dist p e.1)) = x :: M → dist p e.1 < dist p x.1 := fun x M hx => by have h0 := dropWhile_head hx; have := of_decide_eq_false h0; omega
  generalize out.takeWhile _ = A at *
  generalize out.dropWhile _ = B at *
  subst hcat
  obtain ⟨h1, h2, h3⟩ := List.pairwise_append.1 h
  have hB' : ∀ x ∈ B, dist p e.1 < dist p x.1 := by
    cases B with
    | nil => intro x hx; cases hx
    | cons b B =>
      intro x hx
      have hb := hB b B rfl
      rcases List.mem_cons.1 hx with rfl | hx
      · exact hb
      · have := (hlt (hd b (by simp)) (hd x (by simp [hx]))).1 ((List.pairwise_cons.1 h2).1 x hx)
        omega
  refine List.pairwise_append.2 ⟨h1, List.pairwise_cons.2 ⟨fun x hx => ?_, h2⟩, fun x hx y hy => ?_⟩
  · exact (hlt he (hd x (by simp [hx]))).2 (.inl (hB' x hx))
  · rcases List.mem_cons.1 hy with rfl | hy
    · refine (hlt (hd x (by simp [hx])) he).2 ?_
      have := hA x hx
      have := hk x (by simp [hx])
      omega
    · exact h3 x hx y hy
theorem nearL_take (p : List Nat) (L : List Ent) {i : Nat} {e : Ent} (h : L[i]? = some e) : nearL p (L.take (i + 1)) = insN p (nearL p (L.take i)) e := by
  obtain ⟨hi, rfl⟩ := List.getElem?_eq_some_iff.1 h
  unfold nearL
  rw [List.take_succ_eq_append_getElem hi, List.foldl_append]
  rfl
theorem nearL_spec {k : Nat} {p : List Nat} (hp : p.length = k) {L : List Ent} (hz : ZS L) (hd : Dim k L) : ∀ i, i ≤ L.length → NS p (nearL p (L.take i)) ∧ (∀ e, e ∈ nearL p (L.take i) ↔ e ∈ L.take i) ∧ (nearL p (L.take i)).length = i
  | 0, _ => ⟨List.Pairwise.nil, fun _ => Iff.rfl, rfl⟩
  | i + 1, hi => by
    obtain ⟨h1, h2, h3⟩ := nearL_spec hp hz hd i (by omega)
    have hg : L[i]? = some L[i] := List.getElem?_eq_getElem (by omega)
    rw [nearL_take p L hg]
    refine ⟨NS.ins hp h1 (fun x hx => (hd x (List.mem_of_mem_take ((h2 x).1 hx))).1) (fun x hx => ?_) (hd _ (List.getElem_mem _)).1, fun e => ?_, by rw [insN_length, h3]⟩
    · have hx := (h2 x).1 hx
      have hz' := hz
      rw [← List.take_append_drop i L] at hz'
      refine (List.pairwise_append.1 hz').2.2 x hx L[i] ?_
      rw [List.drop_eq_getElem_cons (by omega)]
      exact List.mem_cons_self
    · rw [insN_mem, h2, List.take_succ_eq_append_getElem (by omega), List.mem_append, List.mem_singleton, or_comm]
theorem nearL_ns {k : Nat} {p : List Nat} (hp : p.length = k) {L : List Ent} (hz : ZS L) (hd : Dim k L) : NS p (nearL p L) ∧ (∀ e, e ∈ nearL p L ↔ e ∈ L) ∧ (nearL p L).length = L.length := by
  have h := nearL_spec hp hz hd L.length (Nat.le_refl _)
  rw [List.take_length] at h
  exact h

/-- WHAT A SEARCH HAS STILL TO MEET: the entries N of the nodes qs that are not too far -/
structure St (k : Nat) (p : List Nat) (most : Nat) (qs : List T) (N : List Ent) : Prop where
  each : ∀ t ∈ qs, Wf k t ∧ distT p t ≤ most
  ns : NS p N
  mem : ∀ e, e ∈ N ↔ ∃ t ∈ qs, e ∈ t.ents ∧ dist p e.1 ≤ most
  one : qs.Pairwise fun a b => ∀ e ∈ a.ents, e ∉ b.ents
def mea (qs : List T) : Nat := (qs.map fun t => 2 * t.ents.length - 1).sum
theorem mea_app (a b : List T) : mea (a ++ b) = mea a + mea b := by unfold mea; rw [List.map_append, List.sum_append]
theorem St.perm {k : Nat} {p : List Nat} {most : Nat} {qs qs' : List T} {N : List Ent} (h : St k p most qs N) (hp : qs.Perm qs') : St k p most qs' N :=
  ⟨fun t ht => h.each t (hp.mem_iff.2 ht), h.ns, fun e => by rw [h.mem]; exact ⟨fun ⟨t, a, b⟩ => ⟨t, hp.mem_iff.1 a, b⟩, fun ⟨t, a, b⟩ => ⟨t, hp.mem_iff.2 a, b⟩⟩, hp.pairwise h.one fun {a b} hab e he hc => hab e hc he⟩
theorem St.ent {k : Nat} {p : List Nat} {most g v : Nat} {q : List Nat} {qs : List T} {N : List Ent} (h : St k p most (.ent g q v :: qs) N) (hp : p.length = k) (hl : ∀ t ∈ qs, ordT p (.ent g q v) ≤ ordT p t) : ∃ N', N = (q, v) :: N' ∧ St k p most qs N' := by
  have hw := h.each _ List.mem_cons_self
  have hq : ((q, v) : Ent) ∈ N := (h.mem _).2 ⟨_, List.mem_cons_self, by rw [Tr.ents_ent]; exact List.mem_singleton.2 rfl, by rw [← distT_ent hw.1 hp]; exact hw.2⟩
  have ho := ordT_ent hw.1 hp
  cases N with
  | nil => cases hq
  | cons x N =>
    have hns := List.pairwise_cons.1 h.ns
    have hx : (q, v) = x := by
      rcases List.mem_cons.1 hq with e | e
      · exact e
      · exfalso
        have h1 := hns.1 _ e
        obtain ⟨t, ht, hxt, -⟩ := (h.mem x).1 List.mem_cons_self
        rcases List.mem_cons.1 ht with rfl | ht
        · rw [Tr.ents_ent, List.mem_singleton] at hxt
          subst hxt
          omega
        · have h2 := hl t ht
          have h3 := ordT_le (h.each t (List.mem_cons_of_mem _ ht)).1 hp hxt
          omega
    subst hx
    refine ⟨N, rfl, fun t ht => h.each t (List.mem_cons_of_mem _ ht), hns.2, fun e => ?_, (List.pairwise_cons.1 h.one).2⟩
    have hm := h.mem e
    constructor
    · intro he
      obtain ⟨t, ht, h1, h2⟩ := hm.1 (List.mem_cons_of_mem _ he)
      rcases List.mem_cons.1 ht with rfl | ht
      · rw [Tr.ents_ent, List.mem_singleton] at h1
        subst h1
        have := hns.1 _ he
        omega
      · exact ⟨t, ht, h1, h2⟩
    · rintro ⟨t, ht, h1, h2⟩
      rcases List.mem_cons.1 (hm.2 ⟨t, List.mem_cons_of_mem _ ht, h1, h2⟩) with e1 | e1
      · exfalso
        subst e1
        exact (List.pairwise_cons.1 h.one).1 t ht _ (by rw [Tr.ents_ent]; exact List.mem_singleton.2 rfl) h1
      · exact e1
/-- a node may be left out that is too far -/
theorem far_out {k : Nat} {p : List Nat} {most : Nat} {t : T} (h : Wf k t) (hp : p.length = k) (hf : most < distT p t) {e : Ent} (he : e ∈ t.ents) : ¬ dist p e.1 ≤ most := by
  have := distT_le h hp he
  omega
/-- the kids that are put, up to the first j -/
def putK (p : List Nat) (most : Nat) (ks : List (Nat × T)) : List T := (ks.map (·.2)).filter fun t => decide (distT p t ≤ most)
theorem mea_kids {k : Nat} : ∀ {ks : List (Nat × T)}, (∀ x ∈ ks, Wf k x.2) → mea (ks.map (·.2)) + ks.length = 2 * (Tr.entsL ks).length
  | [], _ => rfl
  | x :: ks, h => by
    have h1 := mea_kids (ks := ks) fun y hy => h y (List.mem_cons_of_mem _ hy)
    have h2 : 0 < x.2.ents.length := List.length_pos_iff.2 (h x List.mem_cons_self).ne
    rw [Tr.entsL_cons, List.length_append, List.length_cons, List.map_cons]
    have h3 : mea (x.2 :: ks.map (·.2)) = (2 * x.2.ents.length - 1) + mea (ks.map (·.2)) := by simp [mea]
    rw [h3]
    omega
theorem mea_filter (q : T → Bool) : ∀ L : List T, mea (L.filter q) ≤ mea L
  | [] => Nat.le_refl _
  | t :: L => by
    have h1 := mea_filter q L
    have h2 : ∀ M : List T, mea (t :: M) = (2 * t.ents.length - 1) + mea M := fun M => by simp [mea]
    rw [List.filter_cons]
    split
    · rw [h2, h2]; omega
    · rw [h2]; omega
theorem St.br {k : Nat} {p : List Nat} {most g l : Nat} {pre : List Nat} {ks : List (Nat × T)} {qs : List T} {N : List Ent} (h : St k p most (.br g l pre ks :: qs) N) (hp : p.length = k) : St k p most (qs ++ putK p most ks) N ∧ mea (qs ++ putK p most ks) < mea (.br g l pre ks :: qs) := by
  have hw := (h.each _ List.mem_cons_self).1
  have hk : ∀ x ∈ ks, Wf k x.2 := fun x hx => hw.kid hx
  have hpk : ∀ t, t ∈ putK p most ks ↔ (∃ x ∈ ks, x.2 = t) ∧ distT p t ≤ most := fun t => by unfold putK; rw [List.mem_filter, List.mem_map, decide_eq_true_iff]
  have hone := List.pairwise_cons.1 h.one
  have h2 : 2 ≤ ks.length := by cases hw with | br _ _ _ _ _ _ h2 => exact h2
  have hz := hw.zs
  rw [Tr.ents_br] at hz
  refine ⟨⟨fun t ht => ?_, h.ns, fun e => ?_, List.pairwise_append.2 ⟨hone.2, ?_, fun a ha b hb e he hc => ?_⟩⟩, ?_⟩
  · rcases List.mem_append.1 ht with ht | ht
    · exact h.each t (List.mem_cons_of_mem _ ht)
    · obtain ⟨⟨x, hx, rfl⟩, hd⟩ := (hpk t).1 ht
      exact ⟨hk x hx, hd⟩
  · rw [h.mem]
    constructor
    · rintro ⟨t, ht, he, hd⟩
      rcases List.mem_cons.1 ht with rfl | ht
      · rw [Tr.ents_br, Tr.mem_entsL] at he
        obtain ⟨x, hx, he⟩ := he
        refine ⟨x.2, List.mem_append_right _ ((hpk _).2 ⟨⟨x, hx, rfl⟩, Nat.le_trans (distT_le (hk x hx) hp he) hd⟩), he, hd⟩
      · exact ⟨t, List.mem_append_left _ ht, he, hd⟩
    · rintro ⟨t, ht, he, hd⟩
      rcases List.mem_append.1 ht with ht | ht
      · exact ⟨t, List.mem_cons_of_mem _ ht, he, hd⟩
      · obtain ⟨⟨x, hx, rfl⟩, -⟩ := (hpk t).1 ht
        exact ⟨_, List.mem_cons_self, by rw [Tr.ents_br, Tr.mem_entsL]; exact ⟨x, hx, he⟩, hd⟩
  · unfold putK
    refine List.Pairwise.filter _ ?_
    rw [List.pairwise_map]
    clear hpk hone h2 hk hw h
    induction ks with
    | nil => exact List.Pairwise.nil
    | cons x ks ih =>
      rw [Tr.entsL_cons] at hz
      have hz' := List.pairwise_append.1 hz
      refine List.pairwise_cons.2 ⟨fun y hy e he hc => ?_, ih hz'.2.1⟩
      have := hz'.2.2 e he e (Tr.mem_entsL.2 ⟨y, hy, hc⟩)
      omega
  · obtain ⟨⟨x, hx, rfl⟩, -⟩ := (hpk b).1 hb
    exact hone.1 a ha e (by rw [Tr.ents_br, Tr.mem_entsL]; exact ⟨x, hx, hc⟩) he
  · have h3 : mea (.br g l pre ks :: qs) = (2 * (Tr.entsL ks).length - 1) + mea qs := by simp [mea, Tr.ents_br]
    have h4 := mea_kids hk
    have h5 := mea_filter (fun t => decide (distT p t ≤ most)) (ks.map (·.2))
    rw [mea_app, h3]
    unfold putK
    omega
theorem st_one {k : Nat} {p : List Nat} {most : Nat} {t : T} (hw : Wf k t) (hp : p.length = k) (hd : distT p t ≤ most) : St k p most [t] ((nearL p t.ents).filter fun e => decide (dist p e.1 ≤ most)) := by
  obtain ⟨h1, h2, -⟩ := nearL_ns hp hw.zs hw.dim
  refine ⟨fun x hx => ?_, h1.filter _, fun e => ?_, List.pairwise_singleton _ _⟩
  · rw [List.mem_singleton.1 hx]; exact ⟨hw, hd⟩
  · rw [List.mem_filter, h2, decide_eq_true_iff]
    simp
theorem st_none {k : Nat} {p : List Nat} {most : Nat} {t : T} (hw : Wf k t) (hp : p.length = k) (hd : most < distT p t) : (nearL p t.ents).filter (fun e => decide (dist p e.1 ≤ most)) = [] := by
  obtain ⟨-, h2, -⟩ := nearL_ns hp hw.zs hw.dim
  rw [List.filter_eq_nil_iff]
  intro e he
  rw [decide_eq_true_iff]
  exact far_out hw hp hd ((h2 e).1 he)
theorem St.empty {k : Nat} {p : List Nat} {most : Nat} {N : List Ent} (h : St k p most [] N) : N = [] := by
  cases N with
  | nil => rfl
  | cons x N => obtain ⟨t, ht, -⟩ := (h.mem x).1 List.mem_cons_self; cases ht
end Go.Proofs.YtjcmehplcagejaaGreatDoor.Nr
