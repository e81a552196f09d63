import Derived.Test.YtjcmehplcagejaaGreatDoorM06
import Derived.Test.YtjcmehplcagejaaGreatDoorM01
import Derived.Test.YtjcmehplcagejaaGreatDoorM30
import Derived.Test.YtjcmehplcagejaaGreatDoorM12
import Derived.Test.YtjcmehplcagejaaGreatDoorM50
import Derived.Test.YtjcmehplcagejaaGreatDoorM05
/-
  NEAR, MATHEMATICS: heaps (the least one first).
-/
namespace Go.Proofs.YtjcmehplcagejaaGreatDoor.Hp

/-- the parent of a place -/
def par (i : Nat) : Nat := (i - 1) / 2
def swp (f : Nat → Nat) (i j : Nat) : Nat → Nat := fun m => if m = i then f j else if m = j then f i else f m
theorem swp_l (f : Nat → Nat) (i j : Nat) : swp f i j i = f j := if_pos rfl
theorem swp_r (f : Nat → Nat) (i j : Nat) : swp f i j j = f i := by
  unfold swp
  split
  · rename_i h; rw [h]
  · exact if_pos rfl
theorem swp_o (f : Nat → Nat) {i j m : Nat} (h1 : m ≠ i) (h2 : m ≠ j) : swp f i j m = f m := by
  unfold swp
  rw [if_neg h1, if_neg h2]
/-- a heap of the first n -/
def HeapN (f : Nat → Nat) (n : Nat) : Prop := ∀ i, 0 < i → i < n → f (par i) ≤ f i
/-- a heap, but for what stands at j, which may be too small -/
def UpH (f : Nat → Nat) (n j : Nat) : Prop := (∀ i, 0 < i → i < n → i ≠ j → f (par i) ≤ f i) ∧ (∀ c, 0 < c → c < n → par c = j → 0 < j → f (par j) ≤ f c)
/-- a heap, but for what stands at i, which may be too great -/
def DownH (f : Nat → Nat) (n i : Nat) : Prop := (∀ c, 0 < c → c < n → par c ≠ i → f (par c) ≤ f c) ∧ (0 < i → ∀ c, 0 < c → c < n → par c = i → f (par i) ≤ f c)
theorem par_lt {i : Nat} (h : 0 < i) : par i < i := by unfold par; omega
theorem HeapN.least {f : Nat → Nat} {n : Nat} (h : HeapN f n) : ∀ i, i < n → f 0 ≤ f i := by
  intro i
  induction i using Nat.strongRecOn with
  | ind i ih =>
    intro hi
    rcases Nat.eq_zero_or_pos i with rfl | hp
    · exact Nat.le_refl _
    · exact Nat.le_trans (ih _ (par_lt hp) (Nat.lt_trans (par_lt hp) hi)) (h i hp hi)
theorem HeapN.up {f : Nat → Nat} {n : Nat} (h : HeapN f n) : UpH f (n + 1) n :=
  ⟨fun i h0 hi hn => h i h0 (by omega), fun c h0 hc hp _ => by have := par_lt h0; omega⟩
theorem UpH.step {f : Nat → Nat} {n j : Nat} (h : UpH f n j) (h0 : 0 < j) (hj : j < n) (hlt : f j < f (par j)) : UpH (swp f (par j) j) n (par j) := by
  have hij := par_lt h0
  obtain ⟨i, hi⟩ : ∃ i, par j = i := ⟨_, rfl⟩
  rw [hi] at hij hlt ⊢
  refine ⟨fun c c0 cn hc => ?_, fun c c0 cn hc i0 => ?_⟩
  · by_cases hcj : c = j
    · subst hcj; rw [hi, swp_l, swp_r]; omega
    · rw [swp_o f hc hcj]
      by_cases h1 : par c = i
      · rw [h1, swp_l]
        have := h.1 c c0 cn hcj
        rw [h1] at this; omega
      · by_cases h2 : par c = j
        · rw [h2, swp_r]
          have := h.2 c c0 cn h2 h0
          rw [hi] at this; exact this
        · rw [swp_o f h1 h2]; exact h.1 c c0 cn hcj
  · have hpi := par_lt i0
    rw [swp_o f (by omega) (by omega)]
    have h3 := h.1 i i0 (by omega) (by omega)
    by_cases hcj : c = j
    · subst hcj; rw [swp_r]; exact h3
    · have hci : c ≠ i := fun e => by subst e; have := par_lt c0; omega
      rw [swp_o f hci hcj]
      have h4 := h.1 c c0 cn hcj
      rw [hc] at h4; omega
theorem UpH.done {f : Nat → Nat} {n j : Nat} (h : UpH f n j) (hd : j = 0 ∨ f (par j) ≤ f j) : HeapN f n := by
  intro i h0 hi
  by_cases e : i = j
  · subst e
    rcases hd with rfl | hd
    · omega
    · exact hd
  · exact h.1 i h0 hi e
theorem HeapN.down {f : Nat → Nat} {n : Nat} (h : HeapN f (n + 1)) : DownH (swp f 0 n) n 0 := by
  refine ⟨fun c c0 cn hc => ?_, fun h0 => by omega⟩
  have := par_lt c0
  rw [swp_o f hc (by omega), swp_o f (by omega) (by omega)]
  exact h c c0 (by omega)
theorem DownH.step {f : Nat → Nat} {n i m : Nat} (h : DownH f n i) (m0 : 0 < m) (mn : m < n) (hm : par m = i) (hlt : f m < f i) (hl : ∀ c, 0 < c → c < n → par c = i → f m ≤ f c) : DownH (swp f i m) n m := by
  have him : i < m := by rw [← hm]; exact par_lt m0
  refine ⟨fun c c0 cn hc => ?_, fun _ c c0 cn hc => ?_⟩
  · by_cases h1 : par c = i
    · rw [h1, swp_l]
      by_cases h2 : c = m
      · subst h2; rw [swp_r]; omega
      · rw [swp_o f (by have := par_lt c0; omega) h2]; exact hl c c0 cn h1
    · rw [swp_o f h1 hc]
      by_cases h3 : c = i
      · subst h3; rw [swp_l]; exact h.2 c0 m m0 mn hm
      · rw [swp_o f h3 (fun e => h1 (by rw [e]; exact hm))]; exact h.1 c c0 cn h1
  · have hcl := par_lt c0
    rw [hm, swp_l, swp_o f (by omega) (by omega)]
    have := h.1 c c0 cn (by omega)
    rw [hc] at this; exact this
theorem DownH.done {f : Nat → Nat} {n i : Nat} (h : DownH f n i) (hl : ∀ c, 0 < c → c < n → par c = i → f i ≤ f c) : HeapN f n := by
  intro c c0 cn
  by_cases e : par c = i
  · rw [e]; exact hl c c0 cn e
  · exact h.1 c c0 cn e
theorem par_kids {c i : Nat} (h : 0 < c) : par c = i ↔ c = 2 * i + 1 ∨ c = 2 * i + 2 := by unfold par; omega

variable {α : Type}
/-- the numbers by which a list is ordered -/
def fo (o : α → Nat) (xs : List α) (i : Nat) : Nat := match xs[i]? with | some x => o x | none => 0
theorem fo_at {o : α → Nat} {xs : List α} {i : Nat} {x : α} (h : xs[i]? = some x) : fo o xs i = o x := by unfold fo; rw [h]
/-- two change their places -/
def swL (xs : List α) (i j : Nat) : List α := match xs[i]?, xs[j]? with | some x, some y => (xs.set i y).set j x | _, _ => xs
theorem swL_eq {xs : List α} {i j : Nat} {x y : α} (hx : xs[i]? = some x) (hy : xs[j]? = some y) : swL xs i j = (xs.set i y).set j x := by unfold swL; rw [hx, hy]
theorem swL_length (xs : List α) (i j : Nat) : (swL xs i j).length = xs.length := by unfold swL; split <;> simp
theorem swL_fo (o : α → Nat) {xs : List α} {i j : Nat} (hi : i < xs.length) (hj : j < xs.length) : fo o (swL xs i j) = swp (fo o xs) i j := by
  have hx := List.getElem?_eq_getElem hi
  have hy := List.getElem?_eq_getElem hj
  rw [swL_eq hx hy]
  funext m
  by_cases h1 : m = i
  · subst h1
    rw [swp_l, fo_at hy]
    by_cases h2 : m = j
    · subst h2; exact fo_at (by rw [List.getElem?_set_self (by rw [List.length_set]; exact hi)])
    · exact fo_at (by rw [List.getElem?_set_ne (Ne.symm h2), List.getElem?_set_self hi])
  · by_cases h2 : m = j
    · subst h2
      rw [swp_r, fo_at hx]
      exact fo_at (by rw [List.getElem?_set_self (by rw [List.length_set]; exact hj)])
    · rw [swp_o _ h1 h2]
      unfold fo
      rw [List.getElem?_set_ne (Ne.symm h2), List.getElem?_set_ne (Ne.symm h1)]
theorem swL_perm (xs : List α) (i j : Nat) : (swL xs i j).Perm xs := by
  unfold swL
  split
  · rename_i x y hx hy
    obtain ⟨hi, rfl⟩ := List.getElem?_eq_some_iff.1 hx
    obtain ⟨hj, rfl⟩ := List.getElem?_eq_some_iff.1 hy
    exact List.set_set_perm hi hj
  · exact List.Perm.refl _
end Go.Proofs.YtjcmehplcagejaaGreatDoor.Hp

/-
  NEAR, MATHEMATICS: entries by their distance.
-/
namespace Go.Proofs.YtjcmehplcagejaaGreatDoor.Nr
open Z
open Tr (T Ent Wf ZS Dim key keyN)

theorem far_mono {p a b : List Nat} : ∀ {k : Nat}, (∀ i, i < k → Bx.dif (Bx.g p i) (Bx.g a i) ≤ Bx.dif (Bx.g p i) (Bx.g b i)) → Bx.far p a k ≤ Bx.far p b k
  | 0, _ => Nat.le_refl _
  | k + 1, h => by
    have h1 := far_mono (k := k) fun i hi => h i (by omega)
    have h2 := h k (by omega)
    simp only [Bx.far]
    omega
theorem far_congr {p a b : List Nat} {k : Nat} (h : ∀ i, i < k → Bx.g a i = Bx.g b i) : Bx.far p a k = Bx.far p b k :=
  Nat.le_antisymm (far_mono fun i hi => by rw [h i hi]; exact Nat.le_refl _) (far_mono fun i hi => by rw [h i hi]; exact Nat.le_refl _)
def dist (p q : List Nat) : Nat := Bx.far p q p.length
/-- the distance of what a node covers -/
def distT (p : List Nat) (t : T) : Nat := Bx.far p (Bx.near t.pre (Bx.cellHi t.pre t.lv) p) p.length
theorem distT_ent {k g v : Nat} {p q : List Nat} (h : Wf k (.ent g q v)) (hp : p.length = k) : distT p (.ent g q v) = dist p q := by
  have hl : q.length = k := h.len
  refine far_congr fun i hi => ?_
  have h1 : i < q.length := by omega
  have e1 : T.pre (.ent g q v) = q := rfl
  have e2 : T.lv (.ent g q v) = 0 := rfl
  rw [Bx.near, Bx.g_tab _ (by omega)]
  unfold Bx.nearG
  rw [e1, e2, Bx.cellHi, Bx.g_tab _ h1, Tr.cutN_zero]
  omega
theorem distT_le {k : Nat} {p : List Nat} {t : T} (h : Wf k t) (hp : p.length = k) {e : Ent} (he : e ∈ t.ents) : distT p t ≤ dist p e.1 := by
  have hen := h.entry he
  have hl := h.len
  have hc := h.cut_pre
  refine far_mono fun i hi => ?_
  rw [Bx.near, Bx.g_tab _ (by omega)]
  have h1 := Bx.cell_isin (p := t.pre) (q := e.1) t.lv (by rw [hl, hen.1])
  rw [hc, hen.2.2, decide_eq_true rfl, Bx.isin_true] at h1
  have h2 := h1 i (by omega)
  unfold Bx.nearG Bx.dif
  omega
theorem keyN_le {p q : List Nat} (hl : p.length = q.length) (h : ∀ m, addr p m ≤ addr q m) : ∀ n, keyN p n ≤ keyN q n
  | 0 => Nat.le_refl _
  | n + 1 => by
    simp only [keyN]
    rw [hl]
    exact Nat.add_le_add (keyN_le hl h n) (Nat.mul_le_mul_right _ (h n))
theorem key_pre {k : Nat} {t : T} (h : Wf k t) {e : Ent} (he : e ∈ t.ents) : key t.pre ≤ key e.1 := by
  have hen := h.entry he
  rw [← hen.2.2]
  exact keyN_le (by rw [cut_length]) (fun m => by rw [cut_addr]; split <;> omega) 64
/-- the order: by distance, then by place -/
def lex (k d x : Nat) : Nat := d * (2 ^ k) ^ 64 + x
theorem lex_mono {k d x d' x' : Nat} (hd : d ≤ d') (hx : x ≤ x') : lex k d x ≤ lex k d' x' := Nat.add_le_add (Nat.mul_le_mul_right _ hd) hx
def ordE (p : List Nat) (e : Ent) : Nat := lex p.length (dist p e.1) (key e.1)
def ordT (p : List Nat) (t : T) : Nat := lex p.length (distT p t) (key t.pre)
theorem ordT_le {k : Nat} {p : List Nat} {t : T} (h : Wf k t) (hp : p.length = k) {e : Ent} (he : e ∈ t.ents) : ordT p t ≤ ordE p e := lex_mono (distT_le h hp he) (key_pre h he)
theorem ordT_ent {k g v : Nat} {p q : List Nat} (h : Wf k (.ent g q v)) (hp : p.length = k) : ordT p (.ent g q v) = ordE p (q, v) := by
  unfold ordT ordE
  rw [distT_ent h hp]
  rfl
/-- the nearest first -/
def NS (p : List Nat) (N : List Ent) : Prop := N.Pairwise fun a b => ordE p a < ordE p b
theorem NS.ext {p : List Nat} : ∀ {L M : List Ent}, NS p L → NS p M → (∀ e, e ∈ L ↔ e ∈ M) → L = M
  | [], [], _, _, _ => rfl
  | [], b :: M, _, _, h => by have := (h b).2 (by simp); cases this
  | a :: L, [], _, _, h => by have := (h a).1 (by simp); cases this
  | a :: L, b :: M, hL, hM, h => by
    have h1 := List.pairwise_cons.1 hL
    have h2 := List.pairwise_cons.1 hM
    have e : a = b := by
      rcases List.mem_cons.1 ((h a).1 (by simp)) with e | e
      · exact e
      · rcases List.mem_cons.1 ((h b).2 (by simp)) with f | f
        · exact f.symm
        · have := h2.1 a e; have := h1.1 b f; omega
    subst e
    rw [NS.ext h1.2 h2.2 fun x => ?_]
    have hx := h x
    simp only [List.mem_cons] at hx
    constructor
    · intro hm
      rcases hx.1 (.inr hm) with e | e
      · subst e; have := h1.1 x hm; omega
      · exact e
    · intro hm
      rcases hx.2 (.inr hm) with e | e
      · subst e; have := h2.1 x hm; omega
      · exact e
/-- WHAT A SEARCH HAS STILL TO MEET: the entries N of the nodes qs that are not too far -/
structure St (k : Nat) (p : List Nat) (most : Nat) (qs : List T) (N : List Ent) : Prop where
  each : ∀ t ∈ qs, Wf k t ∧ distT p t ≤ most
  ns : NS p N
  mem : ∀ e, e ∈ N ↔ ∃ t ∈ qs, e ∈ t.ents ∧ dist p e.1 ≤ most
  one : qs.Pairwise fun a b => ∀ e ∈ a.ents, e ∉ b.ents
def mea (qs : List T) : Nat := (qs.map fun t => 2 * t.ents.length - 1).sum
theorem mea_app (a b : List T) : mea (a ++ b) = mea a + mea b := by unfold mea; rw [List.map_append, List.sum_append]
theorem St.perm {k : Nat} {p : List Nat} {most : Nat} {qs qs' : List T} {N : List Ent} (h : St k p most qs N) (hp : qs.Perm qs') : St k p most qs' N :=
  ⟨fun t ht => h.each t (hp.mem_iff.2 ht), h.ns, fun e => by rw [h.mem]; exact ⟨fun ⟨t, a, b⟩ => ⟨t, hp.mem_iff.1 a, b⟩, fun ⟨t, a, b⟩ => ⟨t, hp.mem_iff.2 a, b⟩⟩, hp.pairwise h.one fun {a b} hab e he hc => hab e hc he⟩
theorem St.ent {k : Nat} {p : List Nat} {most g v : Nat} {q : List Nat} {qs : List T} {N : List Ent} (h : St k p most (.ent g q v :: qs) N) (hp : p.length = k) (hl : ∀ t ∈ qs, ordT p (.ent g q v) ≤ ordT p t) : ∃ N', N = (q, v) :: N' ∧ St k p most qs N' := by
  have hw := h.each _ List.mem_cons_self
  have hq : ((q, v) : Ent) ∈ N := (h.mem _).2 ⟨_, List.mem_cons_self, by rw [Tr.ents_ent]; exact List.mem_singleton.2 rfl, by rw [← distT_ent hw.1 hp]; exact hw.2⟩
  have ho := ordT_ent hw.1 hp
  cases N with
  | nil => cases hq
  | cons x N =>
    have hns := List.pairwise_cons.1 h.ns
    have hx : (q, v) = x := by
      rcases List.mem_cons.1 hq with e | e
      · exact e
      · exfalso
        have h1 := hns.1 _ e
        obtain ⟨t, ht, hxt, -⟩ := (h.mem x).1 List.mem_cons_self
        rcases List.mem_cons.1 ht with rfl | ht
        · rw [Tr.ents_ent, List.mem_singleton] at hxt
          subst hxt
          omega
        · have h2 := hl t ht
          have h3 := ordT_le (h.each t (List.mem_cons_of_mem _ ht)).1 hp hxt
          omega
    subst hx
    refine ⟨N, rfl, fun t ht => h.each t (List.mem_cons_of_mem _ ht), hns.2, fun e => ?_, (List.pairwise_cons.1 h.one).2⟩
    have hm := h.mem e
    constructor
    · intro he
      obtain ⟨t, ht, h1, h2⟩ := hm.1 (List.mem_cons_of_mem _ he)
      rcases List.mem_cons.1 ht with rfl | ht
      · rw [Tr.ents_ent, List.mem_singleton] at h1
        subst h1
        have := hns.1 _ he
        omega
      · exact ⟨t, ht, h1, h2⟩
    · rintro ⟨t, ht, h1, h2⟩
      rcases List.mem_cons.1 (hm.2 ⟨t, List.mem_cons_of_mem _ ht, h1, h2⟩) with e1 | e1
      · exfalso
        subst e1
        exact (List.pairwise_cons.1 h.one).1 t ht _ (by rw [Tr.ents_ent]; exact List.mem_singleton.2 rfl) h1
      · exact e1
/-- the kids that are put, up to the first j -/
def putK (p : List Nat) (most : Nat) (ks : List (Nat × T)) : List T := (ks.map (·.2)).filter fun t => decide (distT p t ≤ most)
theorem mea_kids {k : Nat} : ∀ {ks : List (Nat × T)}, (∀ x ∈ ks, Wf k x.2) → mea (ks.map (·.2)) + ks.length = 2 * (Tr.entsL ks).length
  | [], _ => rfl
  | x :: ks, h => by
    have h1 := mea_kids (ks := ks) fun y hy => h y (List.mem_cons_of_mem _ hy)
    have h2 : 0 < x.2.ents.length := List.length_pos_iff.2 (h x List.mem_cons_self).ne
    rw [Tr.entsL_cons, List.length_append, List.length_cons, List.map_cons]
    have h3 : mea (x.2 :: ks.map (·.2)) = (2 * x.2.ents.length - 1) + mea (ks.map (·.2)) := by simp [mea]
    rw [h3]
    omega
theorem mea_filter (q : T → Bool) : ∀ L : List T, mea (L.filter q) ≤ mea L
  | [] => Nat.le_refl _
  | t :: L => by
    have h1 := mea_filter q L
    have h2 : ∀ M : List T, mea (t :: M) = (2 * t.ents.length - 1) + mea M := fun M => by simp [mea]
    rw [List.filter_cons]
    split
    · rw [h2, h2]; omega
    · rw [h2]; omega
theorem St.br {k : Nat} {p : List Nat} {most g l : Nat} {pre : List Nat} {ks : List (Nat × T)} {qs : List T} {N : List Ent} (h : St k p most (.br g l pre ks :: qs) N) (hp : p.length = k) : St k p most (qs ++ putK p most ks) N ∧ mea (qs ++ putK p most ks) < mea (.br g l pre ks :: qs) := by
  have hw := (h.each _ List.mem_cons_self).1
  have hk : ∀ x ∈ ks, Wf k x.2 := fun x hx => hw.kid hx
  have hpk : ∀ t, t ∈ putK p most ks ↔ (∃ x ∈ ks, x.2 = t) ∧ distT p t ≤ most := fun t => by unfold putK; rw [List.mem_filter, List.mem_map, decide_eq_true_iff]
  have hone := List.pairwise_cons.1 h.one
  have h2 : 2 ≤ ks.length := by cases hw with | br _ _ _ _ _ _ h2 => exact h2
  have hz := hw.zs
  rw [Tr.ents_br] at hz
  refine ⟨⟨fun t ht => ?_, h.ns, fun e => ?_, List.pairwise_append.2 ⟨hone.2, ?_, fun a ha b hb e he hc => ?_⟩⟩, ?_⟩
  · rcases List.mem_append.1 ht with ht | ht
    · exact h.each t (List.mem_cons_of_mem _ ht)
    · obtain ⟨⟨x, hx, rfl⟩, hd⟩ := (hpk t).1 ht
      exact ⟨hk x hx, hd⟩
  · rw [h.mem]
    constructor
    · rintro ⟨t, ht, he, hd⟩
      rcases List.mem_cons.1 ht with rfl | ht
      · rw [Tr.ents_br, Tr.mem_entsL] at he
        obtain ⟨x, hx, he⟩ := he
        refine ⟨x.2, List.mem_append_right _ ((hpk _).2 ⟨⟨x, hx, rfl⟩, Nat.le_trans (distT_le (hk x hx) hp he) hd⟩), he, hd⟩
      · exact ⟨t, List.mem_append_left _ ht, he, hd⟩
    · rintro ⟨t, ht, he, hd⟩
      rcases List.mem_append.1 ht with ht | ht
      · exact ⟨t, List.mem_cons_of_mem _ ht, he, hd⟩
      · obtain ⟨⟨x, hx, rfl⟩, -⟩ := (hpk t).1 ht
        exact ⟨_, List.mem_cons_self, by rw [Tr.ents_br, Tr.mem_entsL]; exact ⟨x, hx, he⟩, hd⟩
  · unfold putK
    refine List.Pairwise.filter _ ?_
    rw [List.pairwise_map]
    clear hpk hone h2 hk hw h
    induction ks with
    | nil => exact List.Pairwise.nil
    | cons x ks ih =>
      rw [Tr.entsL_cons] at hz
      have hz' := List.pairwise_append.1 hz
      refine List.pairwise_cons.2 ⟨fun y hy e he hc => ?_, ih hz'.2.1⟩
      have := hz'.2.2 e he e (Tr.mem_entsL.2 ⟨y, hy, hc⟩)
      omega
  · obtain ⟨⟨x, hx, rfl⟩, -⟩ := (hpk b).1 hb
    exact hone.1 a ha e (by rw [Tr.ents_br, Tr.mem_entsL]; exact ⟨x, hx, hc⟩) he
  · have h3 : mea (.br g l pre ks :: qs) = (2 * (Tr.entsL ks).length - 1) + mea qs := by simp [mea, Tr.ents_br]
    have h4 := mea_kids hk
    have h5 := mea_filter (fun t => decide (distT p t ≤ most)) (ks.map (·.2))
    rw [mea_app, h3]
    unfold putK
    omega
theorem St.empty {k : Nat} {p : List Nat} {most : Nat} {N : List Ent} (h : St k p most [] N) : N = [] := by
  cases N with
  | nil => rfl
  | cons x N => obtain ⟨t, ht, -⟩ := (h.mem x).1 List.mem_cons_self; cases ht
end Go.Proofs.YtjcmehplcagejaaGreatDoor.Nr

/-
  CONTRACTS of package near: the queue in memory; Less, Swap, Len, Push, Pop.
-/
namespace Go.Proofs.YtjcmehplcagejaaGreatDoor
open Go.RowKit Go.Shelf
open Tr (T S4 Ent)
attribute [local go_sem] Oper.semAt_some

/-- one place of the queue: a node, the first point that it covers, and its distance -/
def StdQ (w : World) (G : Nat → Prop) (p : List Nat) (f : Nat → Option Value) (t : T) : Prop :=
  ∃ A c, f 0 = some (.pointer (some ⟨t.blk, 0, none⟩)) ∧ f 1 = some (.slice A t.pre.length c) ∧ f 2 = some (.int .u64 (Nr.distT p t : Int)) ∧ PtsG w G A t.pre
theorem stdQ_ok (w : World) (G : Nat → Prop) (p : List Nat) : QOk 3 (StdQ w G p) where
  ext := by
    rintro f g s h ⟨A, c, h0, h1, h2, r⟩
    exact ⟨A, c, (h 0 (by omega)).symm.trans h0, (h 1 (by omega)).symm.trans h1, (h 2 (by omega)).symm.trans h2, r⟩
  has := by
    rintro f s ⟨A, c, h0, h1, h2, r⟩ j hj
    match j, hj with
    | 0, _ => exact ⟨_, h0, rfl⟩
    | 1, _ => exact ⟨_, h1, rfl⟩
    | 2, _ => exact ⟨_, h2, rfl⟩
theorem StdQ.step {w w' : World} {G G' : Nat → Prop} {p : List Nat} (hs : w.heap.size ≤ w'.heap.size) (hk : ∀ b, b < w.heap.size → G b → w'.heap[b]? = w.heap[b]? ∧ G' b) : ∀ f t, StdQ w G p f t → StdQ w' G' p f t :=
  fun _ _ ⟨A, c, h0, h1, h2, r⟩ => ⟨A, c, h0, h1, h2, r.step hs hk⟩
/-- the queue's row, in a block that is none of G; the points of its places lie in G -/
abbrev QueR (W : World) (b0 : Nat) (G : Nat → Prop) (p : List Nat) (D : Option Addr) (d : Nat) (qs : List T) : Prop := OwnL 240 3 (StdQ W G p) W b0 (.slice D qs.length d) qs
theorem QueR.own {W : World} {b0 : Nat} {G : Nat → Prop} {p : List Nat} {D : Option Addr} {d : Nat} {qs : List T} (h : QueR W b0 G p D d qs) (hne : qs ≠ []) : ∃ q vs, D = some ⟨q, 0, none⟩ ∧ b0 ≤ q ∧ q < W.heap.size ∧ qs.length ≤ d ∧ LCells 3 (StdQ W G p) vs qs ∧ W.ownsRow b0 240 3 (.slice (some ⟨q, 0, none⟩) qs.length d) qs.length vs := by
  obtain ⟨vs, h1, h2⟩ := h
  have h3 := h2
  have hl : 0 < qs.length := List.length_pos_iff.2 hne
  rcases h2.2 with ⟨hv, hn⟩ | ⟨g, cap, cur, hv, hg, hh, hnc, hcm, hsz, hcur⟩
  · omega
  · cases hv
    exact ⟨g, vs, rfl, hg, (Array.getElem?_eq_some_iff.1 hh).1, hnc, h1, h3⟩
theorem QueR.at {W : World} {b0 : Nat} {G : Nat → Prop} {p : List Nat} {D : Option Addr} {d : Nat} {qs : List T} (h : QueR W b0 G p D d qs) {i : Nat} {t : T} (hi : qs[i]? = some t) : ∃ q A c, D = some ⟨q, 0, none⟩ ∧ b0 ≤ q ∧ q < W.heap.size ∧
    W.cell? ⟨q, i * 3, none⟩ = some (.pointer (some ⟨t.blk, 0, none⟩)) ∧ W.cell? ⟨q, i * 3 + 1, none⟩ = some (.slice A t.pre.length c) ∧ W.cell? ⟨q, i * 3 + 2, none⟩ = some (.int .u64 (Nr.distT p t : Int)) ∧ PtsG W G A t.pre := by
  have hlt := lt_get hi
  obtain ⟨q, vs, hD, hq, hlq, -, h1, h2⟩ := h.own (fun e => by rw [e] at hi; cases hi)
  obtain ⟨A, c, e0, e1, e2, hp⟩ := h1.2 i t hi
  exact ⟨q, A, c, hD, hq, hlq, (h2.cellAt _ (by omega)).trans e0, (h2.cellAt _ (by omega)).trans e1, (h2.cellAt _ (by omega)).trans e2, hp⟩
theorem LCells.put3 {α : Type} {Q : (Nat → Option Value) → α → Prop} (hQ : QOk 3 Q) {vs : List Value} {L : List α} (h : LCells 3 Q vs L) {i : Nat} (hi : i < L.length) {a0 a1 a2 : Value} {x : α} (hx : Q (fun j => match j with | 0 => some a0 | 1 => some a1 | 2 => some a2 | _ => none) x) :
    LCells 3 Q (((vs.set (i * 3) a0).set (i * 3 + 1) a1).set (i * 3 + 2) a2) (L.set i x) := by
  have hlv := h.1
  refine ⟨by simp only [List.length_set]; exact hlv, fun k a ha => ?_⟩
  by_cases hk : k = i
  · subst hk
    rw [List.getElem?_set_self hi] at ha
    cases ha
    refine hQ.ext _ _ _ (fun j hj => ?_) hx
    match j, hj with
    | 0, _ => show some a0 = _; rw [List.getElem?_set_ne (by omega), List.getElem?_set_ne (by omega), Nat.add_zero, List.getElem?_set_self (by omega)]
    | 1, _ => show some a1 = _; rw [List.getElem?_set_ne (by omega), List.getElem?_set_self (by rw [List.length_set]; omega)]
    | 2, _ => show some a2 = _; rw [List.getElem?_set_self (by simp only [List.length_set]; omega)]
  · rw [List.getElem?_set_ne (fun e => hk e.symm)] at ha
    refine hQ.ext _ _ _ (fun j hj => ?_) (h.2 k a ha)
    show vs[k * 3 + j]? = _
    rw [List.getElem?_set_ne (by omega), List.getElem?_set_ne (by omega), List.getElem?_set_ne (by omega)]
theorem own_put3 {W : World} {b0 q n d i : Nat} {vs : List Value} (h : W.ownsRow b0 240 3 (.slice (some ⟨q, 0, none⟩) n d) n vs) (a0 a1 a2 : Value) :
    ((((W.setCell ⟨q, i * 3, none⟩ a0).setCell ⟨q, i * 3 + 1, none⟩ a1).setCell ⟨q, i * 3 + 2, none⟩ a2).ownsRow b0 240 3 (.slice (some ⟨q, 0, none⟩) n d) n (((vs.set (i * 3) a0).set (i * 3 + 1) a1).set (i * 3 + 2) a2)) ∧
    Foot (fun b => b = q) W (((W.setCell ⟨q, i * 3, none⟩ a0).setCell ⟨q, i * 3 + 1, none⟩ a1).setCell ⟨q, i * 3 + 2, none⟩ a2) := by
  refine ⟨(((h.stored _ a0).1.stored _ a1).1.stored _ a2).1, ?_⟩
  exact ((Foot.setCell W (F := fun b => b = q) (a := ⟨q, _, none⟩) rfl _).trans (Foot.setCell _ (F := fun b => b = q) (a := ⟨q, _, none⟩) rfl _) (fun b hb => .inl hb)).trans (Foot.setCell _ (F := fun b => b = q) (a := ⟨q, _, none⟩) rfl _) (fun b hb => .inl hb)
/-- two places are changed -/
theorem QueR.swap {W : World} {b0 : Nat} {G : Nat → Prop} {p : List Nat} {q d : Nat} {qs : List T} (h : QueR W b0 G p (some ⟨q, 0, none⟩) d qs) (hG : ¬ G q) {i j : Nat} {x y : T} (hi : qs[i]? = some x) (hj : qs[j]? = some y) {A A' : Option Addr} {c c' : Nat}
    (hx : PtsG W G A x.pre) (hy : PtsG W G A' y.pre) {W' : World}
    (hW : W' = ((((((W.setCell ⟨q, i * 3, none⟩ (.pointer (some ⟨y.blk, 0, none⟩))).setCell ⟨q, i * 3 + 1, none⟩ (.slice A' y.pre.length c')).setCell ⟨q, i * 3 + 2, none⟩ (.int .u64 (Nr.distT p y : Int))).setCell ⟨q, j * 3, none⟩ (.pointer (some ⟨x.blk, 0, none⟩))).setCell ⟨q, j * 3 + 1, none⟩ (.slice A x.pre.length c)).setCell ⟨q, j * 3 + 2, none⟩ (.int .u64 (Nr.distT p x : Int)))) :
    QueR W' b0 G p (some ⟨q, 0, none⟩) d (Hp.swL qs i j) ∧ Foot (fun b => b = q) W W' := by
  subst hW
  obtain ⟨q', vs, hD, hq, hlq, hnd, h1, h2⟩ := h.own (fun e => by rw [e] at hi; cases hi)
  cases hD
  obtain ⟨o1, f1⟩ := own_put3 (i := i) h2 (.pointer (some ⟨y.blk, 0, none⟩)) (.slice A' y.pre.length c') (.int .u64 (Nr.distT p y : Int))
  obtain ⟨o2, f2⟩ := own_put3 (i := j) o1 (.pointer (some ⟨x.blk, 0, none⟩)) (.slice A x.pre.length c) (.int .u64 (Nr.distT p x : Int))
  have hf := f1.trans f2 (fun b hb => .inl hb)
  refine ⟨?_, hf⟩
  have c1 := h1.put3 (stdQ_ok W G p) (lt_get hi) (x := y) (a0 := .pointer (some ⟨y.blk, 0, none⟩)) (a1 := .slice A' y.pre.length c') (a2 := .int .u64 (Nr.distT p y : Int)) ⟨A', c', rfl, rfl, rfl, hy⟩
  have c2 := c1.put3 (stdQ_ok W G p) (i := j) (by rw [List.length_set]; exact lt_get hj) (x := x) (a0 := .pointer (some ⟨x.blk, 0, none⟩)) (a1 := .slice A x.pre.length c) (a2 := .int .u64 (Nr.distT p x : Int)) ⟨A, c, rfl, rfl, rfl, hx⟩
  have hs := Hp.swL_eq hi hj
  have hl := Hp.swL_length qs i j
  show OwnL _ _ _ _ _ (.slice (some ⟨q, 0, none⟩) (Hp.swL qs i j).length d) _
  rw [hl, hs]
  refine ⟨_, c2.imp (StdQ.step hf.size fun b hb hg => ⟨hf.block b hb (fun e => hG (e ▸ hg)), hg⟩), ?_⟩
  rw [← hs, hl]
  exact o2
theorem QueR.drewN {W : World} {b0 : Nat} {G : Nat → Prop} {p : List Nat} {D : Option Addr} {d : Nat} {qs : List T} (h : QueR W b0 G p D d qs) (n : Nat) : QueR (W.drewN n) b0 G p D d qs := h

/-! ### the methods of a search, by its embedded queue -/
end Go.Proofs.YtjcmehplcagejaaGreatDoor

/-
  CONTRACTS of package container/heap over a search: up, down.
-/
namespace Go.Proofs.YtjcmehplcagejaaGreatDoor
open Go.RowKit Go.Shelf
open Tr (T S4 Ent)
attribute [local go_sem] Oper.semAt_some

/-- the number by which the queue is ordered -/
abbrev qo (p : List Nat) (qs : List T) : Nat → Nat := Hp.fo (Nr.ordT p) qs
theorem qo_at {p : List Nat} {qs : List T} {i : Nat} {x : T} (h : qs[i]? = some x) : qo p qs i = Nr.ordT p x := Hp.fo_at h
/-- the queue between two steps of down -/
structure DnR (W : World) (b0 : Nat) (G : Nat → Prop) (p : List Nat) (q d n : Nat) (qs : List T) (wr : World) (i : Nat) (xs : List T) : Prop where
  perm : xs.Perm qs
  dn : Hp.DownH (qo p xs) n i
  que : QueR wr b0 G p (some ⟨q, 0, none⟩) d xs
  foot : Foot (fun b => b = q) W wr
  last : xs[n]? = qs[n]?
theorem DnR.done {W wr : World} {b0 q d n i : Nat} {G : Nat → Prop} {p : List Nat} {qs xs : List T} (h : DnR W b0 G p q d n qs wr i xs) (hl : ∀ c x y, xs[i]? = some x → xs[c]? = some y → c < n → (c = 2 * i + 1 ∨ c = 2 * i + 2) → Nr.ordT p x ≤ Nr.ordT p y) (hn : n < xs.length) : Hp.HeapN (qo p xs) n := by
  refine h.dn.done fun c c0 cn hc => ?_
  have hck := (Hp.par_kids c0).1 hc
  obtain ⟨x, hx⟩ := get_lt (us := xs) (k := i) (by omega)
  obtain ⟨y, hy⟩ := get_lt (us := xs) (k := c) (by omega)
  rw [qo_at hx, qo_at hy]
  exact hl c x y hx hy cn hck
theorem DnR.step {W wr w3 : World} {b0 q d n i m : Nat} {G : Nat → Prop} {p : List Nat} {qs xs : List T} (h : DnR W b0 G p q d n qs wr i xs) (hn : n < xs.length) (hmn : m < n) (hm : m = 2 * i + 1 ∨ m = 2 * i + 2) {x y : T} (hx : xs[i]? = some x) (hy : xs[m]? = some y) (hlt : Nr.ordT p y < Nr.ordT p x)
    (hl : ∀ c z, xs[c]? = some z → c < n → (c = 2 * i + 1 ∨ c = 2 * i + 2) → Nr.ordT p y ≤ Nr.ordT p z) (hq : QueR w3 b0 G p (some ⟨q, 0, none⟩) d (Hp.swL xs i m)) (hf : Foot (fun b => b = q) wr w3) : DnR W b0 G p q d n qs w3 m (Hp.swL xs i m) := by
  refine ⟨(Hp.swL_perm _ _ _).trans h.perm, ?_, hq, h.foot.trans hf (fun b hb => .inl hb), ?_⟩
  · unfold qo
    rw [Hp.swL_fo _ (by omega) (by omega)]
    refine h.dn.step (by omega) hmn ((Hp.par_kids (by omega)).2 hm) (by rw [qo_at hx, qo_at hy]; exact hlt) fun c c0 cn hc => ?_
    obtain ⟨z, hz⟩ := get_lt (us := xs) (k := c) (by omega)
    rw [qo_at hy, qo_at hz]
    exact hl c z hz cn ((Hp.par_kids c0).1 hc)
  · rw [Hp.swL_eq hx hy, List.getElem?_set_ne (by omega), List.getElem?_set_ne (by omega)]
    exact h.last
end Go.Proofs.YtjcmehplcagejaaGreatDoor

/-
  CONTRACTS of package near and container/heap: Push, Pop.
-/
namespace Go.Proofs.YtjcmehplcagejaaGreatDoor
open Go.RowKit Go.Shelf
open Tr (T S4 Ent)
attribute [local go_sem] Oper.semAt_some

/-- the search's block -/
abbrev BoxS (W : World) (g : Nat) (D : Option Addr) (n d : Nat) (x1 x2 x3 : Value) : Prop := W.heap[g]? = some (.cells #[.slice D n d, x1, x2, x3] 190 (0, 0))
theorem BoxS.c0 {W : World} {g : Nat} {D : Option Addr} {n d : Nat} {x1 x2 x3 : Value} (h : BoxS W g D n d x1 x2 x3) : W.cell? ⟨g, 0, none⟩ = some (.slice D n d) ∧ W.frozen? ⟨g, 0, none⟩ = false := ⟨by rw [cell_of_row W g _ _ _ (0, 0) h]; rfl, frozen_of_row W g 0 _ _ h⟩
theorem BoxS.lt {W : World} {g : Nat} {D : Option Addr} {n d : Nat} {x1 x2 x3 : Value} (h : BoxS W g D n d x1 x2 x3) : g < W.heap.size := (Array.getElem?_eq_some_iff.1 h).1
end Go.Proofs.YtjcmehplcagejaaGreatDoor

/-
  CONTRACTS of package container/heap over a search: Push, Pop.
-/
namespace Go.Proofs.YtjcmehplcagejaaGreatDoor
open Go.RowKit Go.Shelf
open Tr (T S4 Ent)
attribute [local go_sem] Oper.semAt_some

/-- A SEARCH'S QUEUE: a heap of nodes; the points of its places lie in blocks of G, neither in its row nor in the search's block -/
structure QueS (W : World) (b0 g k : Nat) (G : Nat → Prop) (p : List Nat) (D : Option Addr) (d : Nat) (qs : List T) (x1 x2 x3 : Value) : Prop where
  box : BoxS W g D qs.length d x1 x2 x3
  row : QueR W b0 G p D d qs
  heap : Hp.HeapN (qo p qs) qs.length
  wf : ∀ t ∈ qs, Tr.Wf k t
  out : ∀ b, G b → b ≠ g ∧ D.map (·.block) ≠ some b
  sep : D.map (·.block) ≠ some g
section
variable {W W' : World} {b0 g k : Nat} {G : Nat → Prop} {p : List Nat} {D : Option Addr} {d : Nat} {qs : List T} {x1 x2 x3 : Value}
theorem QueS.lt (h : QueS W b0 g k G p D d qs x1 x2 x3) : ∀ b, D.map (·.block) = some b → b0 ≤ b ∧ b < W.heap.size := fun b hb => OwnL.lt h.row b (by rw [own_block]; exact hb)
/-- what lies elsewhere may change -/
theorem QueS.keep {G' : Nat → Prop} (h : QueS W b0 g k G p D d qs x1 x2 x3) (hs : W.heap.size ≤ W'.heap.size) (hg : W'.heap[g]? = W.heap[g]?) (hD : ∀ b, D.map (·.block) = some b → W'.heap[b]? = W.heap[b]?) (hG : ∀ b, b < W.heap.size → G b → W'.heap[b]? = W.heap[b]? ∧ G' b) (ho : ∀ b, G' b → b ≠ g ∧ D.map (·.block) ≠ some b) :
    QueS W' b0 g k G' p D d qs x1 x2 x3 :=
  ⟨hg.trans h.box, (OwnL.block h.row (w' := W') fun q hq => hD q (by rw [own_block] at hq; exact hq)).imp (StdQ.step hs hG), h.heap, h.wf, ho, h.sep⟩
theorem QueS.below (h : QueS W b0 g k G p D d qs x1 x2 x3) (hb : Below W.heap.size W W') : QueS W' b0 g k G p D d qs x1 x2 x3 :=
  h.keep hb.size (hb.block g (BoxS.lt h.box)) (fun b hD => hb.block b (h.lt b hD).2) (fun b hlt hg => ⟨hb.block b hlt, hg⟩) h.out
end
end Go.Proofs.YtjcmehplcagejaaGreatDoor

/-
  CONTRACTS of package near: add.
-/
namespace Go.Proofs.YtjcmehplcagejaaGreatDoor
open Go.ChangeShapes Go.WideShapes Go.ChangeAt Go.RowKit Go.Shelf
open Tr (T S4 Ent)
attribute [local go_sem] Oper.semAt_some

/-- the blocks in which the queue's points may lie: neither the search's own, nor F -/
def Gq (F : Nat → Prop) (b0 g : Nat) (D : Option Addr) : Nat → Prop := fun b => b0 ≤ b ∧ b ≠ g ∧ D.map (·.block) ≠ some b ∧ ¬ F b
/-- A SEARCH: the queue, the point, the greatest distance, and who is told -/
structure Sea (W : World) (F : Nat → Prop) (b0 g k : Nat) (p : List Nat) (Ap : Option Addr) (cp most : Nat) (fv : Value) (D : Option Addr) (d : Nat) (qs : List T) : Prop where
  que : QueS W b0 g k (Gq F b0 g D) p D d qs (.slice Ap k cp) (.int .u64 (most : Int)) fv
  old : b0 ≤ W.heap.size
  glow : b0 ≤ g
  nF : ¬ F g
  nFD : ∀ b, D.map (·.block) = some b → ¬ F b
  inF : ∀ b, F b → b < W.heap.size
theorem Sea.keep {W W' : World} {F F' : Nat → Prop} {b0 g k : Nat} {p : List Nat} {Ap : Option Addr} {cp most : Nat} {fv : Value} {D : Option Addr} {d : Nat} {qs : List T} (h : Sea W F b0 g k p Ap cp most fv D d qs) (hs : W.heap.size ≤ W'.heap.size) (hb : ∀ b, b < W.heap.size → ¬ F b → W'.heap[b]? = W.heap[b]?)
    (hF : ∀ b, F' b → F b ∨ W.heap.size ≤ b) (hin : ∀ b, F' b → b < W'.heap.size) : Sea W' F' b0 g k p Ap cp most fv D d qs := by
  have hg := BoxS.lt h.que.box
  refine ⟨h.que.keep hs (hb g hg h.nF) (fun b hD => hb b (h.que.lt b hD).2 (h.nFD b hD)) (fun b hlt hG => ⟨hb b hlt hG.2.2.2, hG.1, hG.2.1, hG.2.2.1, fun hf => ?_⟩) (fun b hG => ⟨hG.2.1, hG.2.2.1⟩), Nat.le_trans h.old hs, h.glow, fun hf => ?_, fun b hD hf => ?_, hin⟩
  · rcases hF b hf with e | e
    · exact hG.2.2.2 e
    · omega
  · rcases hF g hf with e | e
    · exact h.nF e
    · omega
  · rcases hF b hf with e | e
    · exact h.nFD b hD e
    · have := (h.que.lt b hD).2; omega
theorem Sea.below {W W' : World} {F : Nat → Prop} {b0 g k : Nat} {p : List Nat} {Ap : Option Addr} {cp most : Nat} {fv : Value} {D : Option Addr} {d : Nat} {qs : List T} (h : Sea W F b0 g k p Ap cp most fv D d qs) (hb : Below W.heap.size W W') : Sea W' F b0 g k p Ap cp most fv D d qs :=
  h.keep hb.size (fun b hlt _ => hb.block b hlt) (fun _ hf => .inl hf) (fun b hf => Nat.lt_of_lt_of_le (h.inF b hf) hb.size)
theorem Sea.cells {W : World} {F : Nat → Prop} {b0 g k : Nat} {p : List Nat} {Ap : Option Addr} {cp most : Nat} {fv : Value} {D : Option Addr} {d : Nat} {qs : List T} (h : Sea W F b0 g k p Ap cp most fv D d qs) :
    W.cell? ⟨g, 0, none⟩ = some (.slice D qs.length d) ∧ W.cell? ⟨g, 1, none⟩ = some (.slice Ap k cp) ∧ W.cell? ⟨g, 2, none⟩ = some (.int .u64 (most : Int)) ∧ W.cell? ⟨g, 3, none⟩ = some fv := by
  have hb := h.que.box
  refine ⟨?_, ?_, ?_, ?_⟩ <;> (rw [cell_of_row W g _ _ _ (0, 0) hb]; rfl)
end Go.Proofs.YtjcmehplcagejaaGreatDoor

/-
  SCOPES WITH SEVERAL LABELS (laws of the walk); the slots of through. Laid out of XWt, XWu.
-/
namespace Go.Proofs.YtjcmehplcagejaaGreatDoor
open Go.ChangeShapes Go.WideShapes Go.ChangeAt Go.RowKit
open Tr (T S4 Ent)

def jumpsN (J : Nat → Act → World → Prop) (Q : Exit → Act → World → Prop) : Exit → Act → World → Prop := fun e a w => match e with
  | .goto l => J l a w
  | e => Q e a w
theorem wp_scope_labelsN {P : Program} {c : Code} {Q : Exit → Act → World → Prop} {a : Act} {w : World} (rest : Nat → Code) (J : Nat → Nat → Act → World → Prop) (hf : ∀ l m a w, J l m a w → findLabel c l = some (rest l))
    (first : c.wp P (jumpsN (fun l a' w' => ∃ m, J l m a' w') Q) a w)
    (pass : ∀ l m a w, J l m a w → (rest l).wp P (jumpsN (fun l' a' w' => ∃ m', m' < m ∧ J l' m' a' w') Q) a w) : (Code.scope c).wp P Q a w := by
  intro b k cs
  have key : ∀ m l a w, J l m a w → ∃ e a' w', Q e a' w' ∧ Arrives P (lone (b.at a (.code (rest l) :: .inScope c :: k)) cs w) b k cs e a' w' := by
    intro m
    induction m using Nat.strongRecOn with
    | _ m ih =>
      intro l a w hJ
      obtain ⟨e, a₁, w₁, hq, harr⟩ := pass l m a w hJ b (.inScope c :: k) cs
      cases e with
      | normal => exact ⟨.normal, a₁, w₁, hq, Steps.trans harr (.one step_inScope)⟩
      | exit id => exact ⟨.exit id, a₁, w₁, hq, fun k' hk => harr k' (by simp [exitTo, hk])⟩
      | goto l' =>
        obtain ⟨m', hlt, hJ'⟩ := hq
        have hg : gotoIn l' (.inScope c :: k) = some (.code (rest l') :: .inScope c :: k) := by simp [gotoIn, hf l' m' _ _ hJ']
        obtain ⟨e₂, a₂, w₂, hq₂, harr₂⟩ := ih m' hlt l' a₁ w₁ hJ'
        exact ⟨e₂, a₂, w₂, hq₂, .of_steps (harr _ hg) harr₂⟩
      | ret => exact ⟨_, a₁, w₁, hq, harr⟩
      | panic ch => exact ⟨_, a₁, w₁, hq, harr⟩
      | outgrown => exact ⟨_, a₁, w₁, hq, harr⟩
  obtain ⟨e, a₁, w₁, hq, harr⟩ := first b (.inScope c :: k) cs
  cases e with
  | normal => exact ⟨.normal, a₁, w₁, hq, .head step_scope (Steps.trans harr (.one step_inScope))⟩
  | exit id => exact ⟨.exit id, a₁, w₁, hq, fun k' hk => .head step_scope (harr k' (by simp [exitTo, hk]))⟩
  | goto l =>
    obtain ⟨m, hJ'⟩ := hq
    have hg : gotoIn l (.inScope c :: k) = some (.code (rest l) :: .inScope c :: k) := by simp [gotoIn, hf l m _ _ hJ']
    obtain ⟨e₂, a₂, w₂, hq₂, harr₂⟩ := key m l a₁ w₁ hJ'
    exact ⟨e₂, a₂, w₂, hq₂, .of_steps (.head step_scope (harr _ hg)) harr₂⟩
  | ret => exact ⟨_, a₁, w₁, hq, .of_steps (.one step_scope) harr⟩
  | panic ch => exact ⟨_, a₁, w₁, hq, .of_steps (.one step_scope) harr⟩
  | outgrown => exact ⟨_, a₁, w₁, hq, .of_steps (.one step_scope) harr⟩
/-- less is left than was allowed -/
theorem jumpsN_le {P : Program} {c : Code} {Q : Exit → Act → World → Prop} {a : Act} {w : World} {J : Nat → Nat → Act → World → Prop} {m n : Nat} (h : c.wp P (jumpsN (fun l' a' w' => ∃ m', m' < m ∧ J l' m' a' w') Q) a w) (hm : m ≤ n) :
    c.wp P (jumpsN (fun l' a' w' => ∃ m', m' < n ∧ J l' m' a' w') Q) a w := Code.wp_mono (by
  intro e a' w' h'
  cases e <;> first | exact h' | (obtain ⟨m', h1, h2⟩ := h'; exact ⟨m', Nat.lt_of_lt_of_le h1 hm, h2⟩)) h
theorem jumpsN_any {P : Program} {c : Code} {Q : Exit → Act → World → Prop} {a : Act} {w : World} {J : Nat → Nat → Act → World → Prop} {m : Nat} (h : c.wp P (jumpsN (fun l' a' w' => ∃ m', m' < m ∧ J l' m' a' w') Q) a w) :
    c.wp P (jumpsN (fun l' a' w' => ∃ m', J l' m' a' w') Q) a w := Code.wp_mono (by
  intro e a' w' h'
  cases e <;> first | exact h' | (obtain ⟨m', h1, h2⟩ := h'; exact ⟨m', h2⟩)) h

/-- a scope with two labels; the way from the first runs on into the second -/
def J2N (J0 J1 : Nat → Act → World → Prop) : Nat → Nat → Act → World → Prop
  | 0 => J0
  | 1 => J1
  | _ => fun _ _ _ => False
/-- a row of slots, one by one -/
theorem slotsN_list (l : List Value) : l = (List.range l.length).map fun i => l.getD i undef := by
  apply List.ext_getElem
  · simp
  · intro i h1 h2
    simp only [List.getElem_map, List.getElem_range]
    rw [List.getD_eq_getElem?_getD, List.getElem?_eq_getElem h1]
    rfl
theorem slotsN_some {a : Array Value} {i : Nat} {x : Value} (h : a[i]? = some x) : a.toList.getD i undef = x := by
  rw [List.getD_eq_getElem?_getD, Array.getElem?_toList, h]
  rfl
theorem slotsN_arr {a : Array Value} {n : Nat} (h : a.size = n) : a = ((List.range n).map fun i => a.toList.getD i undef).toArray := by
  subst h
  have := slotsN_list a.toList
  rw [Array.length_toList] at this
  rw [← this]
structure SloA (a : Act) (x0 x1 : Value) : Prop where
  d : a.defers = []
  n : a.tmps.size = 61
  s0 : a.tmps[0]? = some x0
  s1 : a.tmps[1]? = some x1
theorem SloA.lit {a : Act} {x0 x1 : Value} (h : SloA a x0 x1) : ∃ V : Nat → Value, a = { tmps := #[x0, x1, V 2, V 3, V 4, V 5, V 6, V 7, V 8, V 9, V 10, V 11, V 12, V 13, V 14, V 15, V 16, V 17, V 18, V 19, V 20, V 21, V 22, V 23, V 24, V 25, V 26, V 27, V 28, V 29, V 30, V 31, V 32, V 33, V 34, V 35, V 36, V 37, V 38, V 39, V 40, V 41, V 42, V 43, V 44, V 45, V 46, V 47, V 48, V 49, V 50, V 51, V 52, V 53, V 54, V 55, V 56, V 57, V 58, V 59, V 60], defers := [] } := by
  refine ⟨fun i => a.tmps.toList.getD i undef, ?_⟩
  have e := slotsN_arr h.n
  obtain ⟨t, d⟩ := a
  have hd : d = [] := h.d
  have h0 := slotsN_some h.s0
  have h1 := slotsN_some h.s1
  simp only at h0 h1 e
  subst hd
  rw [← h0, ← h1]
  congr 1
structure SloB (a : Act) (x0 x1 x4 x8 x9 : Value) : Prop where
  d : a.defers = []
  n : a.tmps.size = 61
  s0 : a.tmps[0]? = some x0
  s1 : a.tmps[1]? = some x1
  s4 : a.tmps[4]? = some x4
  s8 : a.tmps[8]? = some x8
  s9 : a.tmps[9]? = some x9
theorem SloB.lit {a : Act} {x0 x1 x4 x8 x9 : Value} (h : SloB a x0 x1 x4 x8 x9) : ∃ V : Nat → Value, a = { tmps := #[x0, x1, V 2, V 3, x4, V 5, V 6, V 7, x8, x9, V 10, V 11, V 12, V 13, V 14, V 15, V 16, V 17, V 18, V 19, V 20, V 21, V 22, V 23, V 24, V 25, V 26, V 27, V 28, V 29, V 30, V 31, V 32, V 33, V 34, V 35, V 36, V 37, V 38, V 39, V 40, V 41, V 42, V 43, V 44, V 45, V 46, V 47, V 48, V 49, V 50, V 51, V 52, V 53, V 54, V 55, V 56, V 57, V 58, V 59, V 60], defers := [] } := by
  refine ⟨fun i => a.tmps.toList.getD i undef, ?_⟩
  have e := slotsN_arr h.n
  obtain ⟨t, d⟩ := a
  have hd : d = [] := h.d
  have h0 := slotsN_some h.s0
  have h1 := slotsN_some h.s1
  have h4 := slotsN_some h.s4
  have h8 := slotsN_some h.s8
  have h9 := slotsN_some h.s9
  simp only at h0 h1 h4 h8 h9 e
  subst hd
  rw [← h0, ← h1, ← h4, ← h8, ← h9]
  congr 1
end Go.Proofs.YtjcmehplcagejaaGreatDoor
