import Derived.Test.YtjcmehplcagejaaDoorM06
import Derived.Test.YtjcmehplcagejaaDoorM01
import Derived.Test.YtjcmehplcagejaaDoorM30
import Derived.Test.YtjcmehplcagejaaDoorM12
import Derived.Test.YtjcmehplcagejaaDoorM50
import Derived.Test.YtjcmehplcagejaaDoorM05
/-
  NEAR, MATHEMATICS: heaps (the least one first).
-/
namespace Go.Proofs.YtjcmehplcagejaaDoor.Hp

/-- the parent of a place -/
def par (i : Nat) : Nat := (i - 1) / 2
def swp (f : Nat → Nat) (i j : Nat) : Nat → Nat := fun m => if m = i then f j else if m = j then f i else f m
theorem swp_l (f : Nat → Nat) (i j : Nat) : swp f i j i = f j := if_pos rfl
theorem swp_r (f : Nat → Nat) (i j : Nat) : swp f i j j = f i := by
  unfold swp
  split
  · rename_i h; rw [h]
  · exact if_pos rfl
theorem swp_o (f : Nat → Nat) {i j m : Nat} (h1 : m ≠ i) (h2 : m ≠ j) : swp f i j m = f m := by
  unfold swp
  rw [if_neg h1, if_neg h2]
/-- a heap of the first n -/
def HeapN (f : Nat → Nat) (n : Nat) : Prop := ∀ i, 0 < i → i < n → f (par i) ≤ f i
/-- a heap, but for what stands at j, which may be too small -/
def UpH (f : Nat → Nat) (n j : Nat) : Prop := (∀ i, 0 < i → i < n → i ≠ j → f (par i) ≤ f i) ∧ (∀ c, 0 < c → c < n → par c = j → 0 < j → f (par j) ≤ f c)
/-- a heap, but for what stands at i, which may be too great -/
def DownH (f : Nat → Nat) (n i : Nat) : Prop := (∀ c, 0 < c → c < n → par c ≠ i → f (par c) ≤ f c) ∧ (0 < i → ∀ c, 0 < c → c < n → par c = i → f (par i) ≤ f c)
theorem par_lt {i : Nat} (h : 0 < i) : par i < i := by unfold par; omega
theorem HeapN.least {f : Nat → Nat} {n : Nat} (h : HeapN f n) : ∀ i, i < n → f 0 ≤ f i := by
  intro i
  induction i using Nat.strongRecOn with
  | ind i ih =>
    intro hi
    rcases Nat.eq_zero_or_pos i with rfl | hp
    · exact Nat.le_refl _
    · exact Nat.le_trans (ih _ (par_lt hp) (Nat.lt_trans (par_lt hp) hi)) (h i hp hi)
theorem HeapN.up {f : Nat → Nat} {n : Nat} (h : HeapN f n) : UpH f (n + 1) n :=
  ⟨fun i h0 hi hn => h i h0 (by omega), fun c h0 hc hp _ => by have := par_lt h0; omega⟩
theorem UpH.step {f : Nat → Nat} {n j : Nat} (h : UpH f n j) (h0 : 0 < j) (hj : j < n) (hlt : f j < f (par j)) : UpH (swp f (par j) j) n (par j) := by
  have hij := par_lt h0
  obtain ⟨i, hi⟩ : ∃ i, par j = i := ⟨_, rfl⟩
  rw [hi] at hij hlt ⊢
  refine ⟨fun c c0 cn hc => ?_, fun c c0 cn hc i0 => ?_⟩
  · by_cases hcj : c = j
    · subst hcj; rw [hi, swp_l, swp_r]; omega
    · rw [swp_o f hc hcj]
      by_cases h1 : par c = i
      · rw [h1, swp_l]
        have := h.1 c c0 cn hcj
        rw [h1] at this; omega
      · by_cases h2 : par c = j
        · rw [h2, swp_r]
          have := h.2 c c0 cn h2 h0
          rw [hi] at this; exact this
        · rw [swp_o f h1 h2]; exact h.1 c c0 cn hcj
  · have hpi := par_lt i0
    rw [swp_o f (by omega) (by omega)]
    have h3 := h.1 i i0 (by omega) (by omega)
    by_cases hcj : c = j
    · subst hcj; rw [swp_r]; exact h3
    · have hci : c ≠ i := fun e => by subst e; have := par_lt c0; omega
      rw [swp_o f hci hcj]
      have h4 := h.1 c c0 cn hcj
      rw [hc] at h4; omega
theorem UpH.done {f : Nat → Nat} {n j : Nat} (h : UpH f n j) (hd : j = 0 ∨ f (par j) ≤ f j) : HeapN f n := by
  intro i h0 hi
  by_cases e : i = j
  · subst e
    rcases hd with rfl | hd
    · omega
    · exact hd
  · exact h.1 i h0 hi e
theorem HeapN.down {f : Nat → Nat} {n : Nat} (h : HeapN f (n + 1)) : DownH (swp f 0 n) n 0 := by
  refine ⟨fun c c0 cn hc => ?_, fun h0 => by omega⟩
  have := par_lt c0
  rw [swp_o f hc (by omega), swp_o f (by omega) (by omega)]
  exact h c c0 (by omega)
theorem DownH.step {f : Nat → Nat} {n i m : Nat} (h : DownH f n i) (m0 : 0 < m) (mn : m < n) (hm : par m = i) (hlt : f m < f i) (hl : ∀ c, 0 < c → c < n → par c = i → f m ≤ f c) : DownH (swp f i m) n m := by
  have him : i < m := by rw [← hm]; exact par_lt m0
  refine ⟨fun c c0 cn hc => ?_, fun _ c c0 cn hc => ?_⟩
  · by_cases h1 : par c = i
    · rw [h1, swp_l]
      by_cases h2 : c = m
      · subst h2; rw [swp_r]; omega
      · rw [swp_o f (by have := par_lt c0; omega) h2]; exact hl c c0 cn h1
    · rw [swp_o f h1 hc]
      by_cases h3 : c = i
      · subst h3; rw [swp_l]; exact h.2 c0 m m0 mn hm
      · rw [swp_o f h3 (fun e => h1 (by rw [e]; exact hm))]; exact h.1 c c0 cn h1
  · have hcl := par_lt c0
    rw [hm, swp_l, swp_o f (by omega) (by omega)]
    have := h.1 c c0 cn (by omega)
    rw [hc] at this; exact this
theorem DownH.done {f : Nat → Nat} {n i : Nat} (h : DownH f n i) (hl : ∀ c, 0 < c → c < n → par c = i → f i ≤ f c) : HeapN f n := by
  intro c c0 cn
  by_cases e : par c = i
  · rw [e]; exact hl c c0 cn e
  · exact h.1 c c0 cn e
variable {α : Type}
/-- the numbers by which a list is ordered -/
def fo (o : α → Nat) (xs : List α) (i : Nat) : Nat := match xs[i]? with | some x => o x | none => 0
end Go.Proofs.YtjcmehplcagejaaDoor.Hp

/-
  NEAR, MATHEMATICS: entries by their distance.
-/
namespace Go.Proofs.YtjcmehplcagejaaDoor.Nr
open Z
open Tr (T Ent Wf ZS Dim key keyN)

theorem far_mono {p a b : List Nat} : ∀ {k : Nat}, (∀ i, i < k → Bx.dif (Bx.g p i) (Bx.g a i) ≤ Bx.dif (Bx.g p i) (Bx.g b i)) → Bx.far p a k ≤ Bx.far p b k
  | 0, _ => Nat.le_refl _
  | k + 1, h => by
    have h1 := far_mono (k := k) fun i hi => h i (by omega)
    have h2 := h k (by omega)
    simp only [Bx.far]
    omega
theorem far_congr {p a b : List Nat} {k : Nat} (h : ∀ i, i < k → Bx.g a i = Bx.g b i) : Bx.far p a k = Bx.far p b k :=
  Nat.le_antisymm (far_mono fun i hi => by rw [h i hi]; exact Nat.le_refl _) (far_mono fun i hi => by rw [h i hi]; exact Nat.le_refl _)
def dist (p q : List Nat) : Nat := Bx.far p q p.length
/-- the distance of what a node covers -/
def distT (p : List Nat) (t : T) : Nat := Bx.far p (Bx.near t.pre (Bx.cellHi t.pre t.lv) p) p.length
theorem distT_ent {k g v : Nat} {p q : List Nat} (h : Wf k (.ent g q v)) (hp : p.length = k) : distT p (.ent g q v) = dist p q := by
  have hl : q.length = k := h.len
  refine far_congr fun i hi => ?_
  have h1 : i < q.length := by omega
  have e1 : T.pre (.ent g q v) = q := rfl
  have e2 : T.lv (.ent g q v) = 0 := rfl
  rw [Bx.near, Bx.g_tab _ (by omega)]
  unfold Bx.nearG
  rw [e1, e2, Bx.cellHi, Bx.g_tab _ h1, Tr.cutN_zero]
  omega
theorem distT_le {k : Nat} {p : List Nat} {t : T} (h : Wf k t) (hp : p.length = k) {e : Ent} (he : e ∈ t.ents) : distT p t ≤ dist p e.1 := by
  have hen := h.entry he
  have hl := h.len
  have hc := h.cut_pre
  refine far_mono fun i hi => ?_
  rw [Bx.near, Bx.g_tab _ (by omega)]
  have h1 := Bx.cell_isin (p := t.pre) (q := e.1) t.lv (by rw [hl, hen.1])
  rw [hc, hen.2.2, decide_eq_true rfl, Bx.isin_true] at h1
  have h2 := h1 i (by omega)
  unfold Bx.nearG Bx.dif
  omega
theorem keyN_le {p q : List Nat} (hl : p.length = q.length) (h : ∀ m, addr p m ≤ addr q m) : ∀ n, keyN p n ≤ keyN q n
  | 0 => Nat.le_refl _
  | n + 1 => by
    simp only [keyN]
    rw [hl]
    exact Nat.add_le_add (keyN_le hl h n) (Nat.mul_le_mul_right _ (h n))
theorem key_pre {k : Nat} {t : T} (h : Wf k t) {e : Ent} (he : e ∈ t.ents) : key t.pre ≤ key e.1 := by
  have hen := h.entry he
  rw [← hen.2.2]
  exact keyN_le (by rw [cut_length]) (fun m => by rw [cut_addr]; split <;> omega) 64
/-- the order: by distance, then by place -/
def lex (k d x : Nat) : Nat := d * (2 ^ k) ^ 64 + x
theorem lex_mono {k d x d' x' : Nat} (hd : d ≤ d') (hx : x ≤ x') : lex k d x ≤ lex k d' x' := Nat.add_le_add (Nat.mul_le_mul_right _ hd) hx
def ordE (p : List Nat) (e : Ent) : Nat := lex p.length (dist p e.1) (key e.1)
def ordT (p : List Nat) (t : T) : Nat := lex p.length (distT p t) (key t.pre)
theorem ordT_le {k : Nat} {p : List Nat} {t : T} (h : Wf k t) (hp : p.length = k) {e : Ent} (he : e ∈ t.ents) : ordT p t ≤ ordE p e := lex_mono (distT_le h hp he) (key_pre h he)
theorem ordT_ent {k g v : Nat} {p q : List Nat} (h : Wf k (.ent g q v)) (hp : p.length = k) : ordT p (.ent g q v) = ordE p (q, v) := by
  unfold ordT ordE
  rw [distT_ent h hp]
  rfl
/-- the nearest first -/
def NS (p : List Nat) (N : List Ent) : Prop := N.Pairwise fun a b => ordE p a < ordE p b
theorem NS.ext {p : List Nat} : ∀ {L M : List Ent}, NS p L → NS p M → (∀ e, e ∈ L ↔ e ∈ M) → L = M
  | [], [], _, _, _ => rfl
  | [], b :: M, _, _, h => by have := (h b).2 (by simp); cases this
  | a :: L, [], _, _, h => by have := (h a).1 (by simp); cases this
  | a :: L, b :: M, hL, hM, h => by
    have h1 := List.pairwise_cons.1 hL
    have h2 := List.pairwise_cons.1 hM
    have e : a = b := by
      rcases List.mem_cons.1 ((h a).1 (by simp)) with e | e
      · exact e
      · rcases List.mem_cons.1 ((h b).2 (by simp)) with f | f
        · exact f.symm
        · have := h2.1 a e; have := h1.1 b f; omega
    subst e
    rw [NS.ext h1.2 h2.2 fun x => ?_]
    have hx := h x
    simp only [List.mem_cons] at hx
    constructor
    · intro hm
      rcases hx.1 (.inr hm) with e | e
      · subst e; have := h1.1 x hm; omega
      · exact e
    · intro hm
      rcases hx.2 (.inr hm) with e | e
      · subst e; have := h2.1 x hm; omega
      · exact e
/-- WHAT A SEARCH HAS STILL TO MEET: the entries N of the nodes qs that are not too far -/
structure St (k : Nat) (p : List Nat) (most : Nat) (qs : List T) (N : List Ent) : Prop where
  each : ∀ t ∈ qs, Wf k t ∧ distT p t ≤ most
  ns : NS p N
  mem : ∀ e, e ∈ N ↔ ∃ t ∈ qs, e ∈ t.ents ∧ dist p e.1 ≤ most
  one : qs.Pairwise fun a b => ∀ e ∈ a.ents, e ∉ b.ents
def mea (qs : List T) : Nat := (qs.map fun t => 2 * t.ents.length - 1).sum
theorem mea_app (a b : List T) : mea (a ++ b) = mea a + mea b := by unfold mea; rw [List.map_append, List.sum_append]
theorem St.ent {k : Nat} {p : List Nat} {most g v : Nat} {q : List Nat} {qs : List T} {N : List Ent} (h : St k p most (.ent g q v :: qs) N) (hp : p.length = k) (hl : ∀ t ∈ qs, ordT p (.ent g q v) ≤ ordT p t) : ∃ N', N = (q, v) :: N' ∧ St k p most qs N' := by
  have hw := h.each _ List.mem_cons_self
  have hq : ((q, v) : Ent) ∈ N := (h.mem _).2 ⟨_, List.mem_cons_self, by rw [Tr.ents_ent]; exact List.mem_singleton.2 rfl, by rw [← distT_ent hw.1 hp]; exact hw.2⟩
  have ho := ordT_ent hw.1 hp
  cases N with
  | nil => cases hq
  | cons x N =>
    have hns := List.pairwise_cons.1 h.ns
    have hx : (q, v) = x := by
      rcases List.mem_cons.1 hq with e | e
      · exact e
      · exfalso
        have h1 := hns.1 _ e
        obtain ⟨t, ht, hxt, -⟩ := (h.mem x).1 List.mem_cons_self
        rcases List.mem_cons.1 ht with rfl | ht
        · rw [Tr.ents_ent, List.mem_singleton] at hxt
          subst hxt
          omega
        · have h2 := hl t ht
          have h3 := ordT_le (h.each t (List.mem_cons_of_mem _ ht)).1 hp hxt
          omega
    subst hx
    refine ⟨N, rfl, fun t ht => h.each t (List.mem_cons_of_mem _ ht), hns.2, fun e => ?_, (List.pairwise_cons.1 h.one).2⟩
    have hm := h.mem e
    constructor
    · intro he
      obtain ⟨t, ht, h1, h2⟩ := hm.1 (List.mem_cons_of_mem _ he)
      rcases List.mem_cons.1 ht with rfl | ht
      · rw [Tr.ents_ent, List.mem_singleton] at h1
        subst h1
        have := hns.1 _ he
        omega
      · exact ⟨t, ht, h1, h2⟩
    · rintro ⟨t, ht, h1, h2⟩
      rcases List.mem_cons.1 (hm.2 ⟨t, List.mem_cons_of_mem _ ht, h1, h2⟩) with e1 | e1
      · exfalso
        subst e1
        exact (List.pairwise_cons.1 h.one).1 t ht _ (by rw [Tr.ents_ent]; exact List.mem_singleton.2 rfl) h1
      · exact e1
/-- the kids that are put, up to the first j -/
def putK (p : List Nat) (most : Nat) (ks : List (Nat × T)) : List T := (ks.map (·.2)).filter fun t => decide (distT p t ≤ most)
theorem mea_kids {k : Nat} : ∀ {ks : List (Nat × T)}, (∀ x ∈ ks, Wf k x.2) → mea (ks.map (·.2)) + ks.length = 2 * (Tr.entsL ks).length
  | [], _ => rfl
  | x :: ks, h => by
    have h1 := mea_kids (ks := ks) fun y hy => h y (List.mem_cons_of_mem _ hy)
    have h2 : 0 < x.2.ents.length := List.length_pos_iff.2 (h x List.mem_cons_self).ne
    rw [Tr.entsL_cons, List.length_append, List.length_cons, List.map_cons]
    have h3 : mea (x.2 :: ks.map (·.2)) = (2 * x.2.ents.length - 1) + mea (ks.map (·.2)) := by simp [mea]
    rw [h3]
    omega
theorem mea_filter (q : T → Bool) : ∀ L : List T, mea (L.filter q) ≤ mea L
  | [] => Nat.le_refl _
  | t :: L => by
    have h1 := mea_filter q L
    have h2 : ∀ M : List T, mea (t :: M) = (2 * t.ents.length - 1) + mea M := fun M => by simp [mea]
    rw [List.filter_cons]
    split
    · rw [h2, h2]; omega
    · rw [h2]; omega
theorem St.br {k : Nat} {p : List Nat} {most g l : Nat} {pre : List Nat} {ks : List (Nat × T)} {qs : List T} {N : List Ent} (h : St k p most (.br g l pre ks :: qs) N) (hp : p.length = k) : St k p most (qs ++ putK p most ks) N ∧ mea (qs ++ putK p most ks) < mea (.br g l pre ks :: qs) := by
  have hw := (h.each _ List.mem_cons_self).1
  have hk : ∀ x ∈ ks, Wf k x.2 := fun x hx => hw.kid hx
  have hpk : ∀ t, t ∈ putK p most ks ↔ (∃ x ∈ ks, x.2 = t) ∧ distT p t ≤ most := fun t => by unfold putK; rw [List.mem_filter, List.mem_map, decide_eq_true_iff]
  have hone := List.pairwise_cons.1 h.one
  have h2 : 2 ≤ ks.length := by cases hw with | br _ _ _ _ _ _ h2 => exact h2
  have hz := hw.zs
  rw [Tr.ents_br] at hz
  refine ⟨⟨fun t ht => ?_, h.ns, fun e => ?_, List.pairwise_append.2 ⟨hone.2, ?_, fun a ha b hb e he hc => ?_⟩⟩, ?_⟩
  · rcases List.mem_append.1 ht with ht | ht
    · exact h.each t (List.mem_cons_of_mem _ ht)
    · obtain ⟨⟨x, hx, rfl⟩, hd⟩ := (hpk t).1 ht
      exact ⟨hk x hx, hd⟩
  · rw [h.mem]
    constructor
    · rintro ⟨t, ht, he, hd⟩
      rcases List.mem_cons.1 ht with rfl | ht
      · rw [Tr.ents_br, Tr.mem_entsL] at he
        obtain ⟨x, hx, he⟩ := he
        refine ⟨x.2, List.mem_append_right _ ((hpk _).2 ⟨⟨x, hx, rfl⟩, Nat.le_trans (distT_le (hk x hx) hp he) hd⟩), he, hd⟩
      · exact ⟨t, List.mem_append_left _ ht, he, hd⟩
    · rintro ⟨t, ht, he, hd⟩
      rcases List.mem_append.1 ht with ht | ht
      · exact ⟨t, List.mem_cons_of_mem _ ht, he, hd⟩
      · obtain ⟨⟨x, hx, rfl⟩, -⟩ := (hpk t).1 ht
        exact ⟨_, List.mem_cons_self, by rw [Tr.ents_br, Tr.mem_entsL]; exact ⟨x, hx, he⟩, hd⟩
  · unfold putK
    refine List.Pairwise.filter _ ?_
    rw [List.pairwise_map]
    clear hpk hone h2 hk hw h
    induction ks with
    | nil => exact List.Pairwise.nil
    | cons x ks ih =>
      rw [Tr.entsL_cons] at hz
      have hz' := List.pairwise_append.1 hz
      refine List.pairwise_cons.2 ⟨fun y hy e he hc => ?_, ih hz'.2.1⟩
      have := hz'.2.2 e he e (Tr.mem_entsL.2 ⟨y, hy, hc⟩)
      omega
  · obtain ⟨⟨x, hx, rfl⟩, -⟩ := (hpk b).1 hb
    exact hone.1 a ha e (by rw [Tr.ents_br, Tr.mem_entsL]; exact ⟨x, hx, hc⟩) he
  · have h3 : mea (.br g l pre ks :: qs) = (2 * (Tr.entsL ks).length - 1) + mea qs := by simp [mea, Tr.ents_br]
    have h4 := mea_kids hk
    have h5 := mea_filter (fun t => decide (distT p t ≤ most)) (ks.map (·.2))
    rw [mea_app, h3]
    unfold putK
    omega
theorem St.empty {k : Nat} {p : List Nat} {most : Nat} {N : List Ent} (h : St k p most [] N) : N = [] := by
  cases N with
  | nil => rfl
  | cons x N => obtain ⟨t, ht, -⟩ := (h.mem x).1 List.mem_cons_self; cases ht
end Go.Proofs.YtjcmehplcagejaaDoor.Nr

/-
  CONTRACTS of package near: the queue in memory; Less, Swap, Len, Push, Pop.
-/
namespace Go.Proofs.YtjcmehplcagejaaDoor
open Go.RowKit Go.Shelf
open Tr (T S4 Ent)
attribute [local go_sem] Oper.semAt_some

/-- one place of the queue: a node, the first point that it covers, and its distance -/
def StdQ (w : World) (G : Nat → Prop) (p : List Nat) (f : Nat → Option Value) (t : T) : Prop :=
  ∃ A c, f 0 = some (.pointer (some ⟨t.blk, 0, none⟩)) ∧ f 1 = some (.slice A t.pre.length c) ∧ f 2 = some (.int .u64 (Nr.distT p t : Int)) ∧ PtsG w G A t.pre
theorem StdQ.step {w w' : World} {G G' : Nat → Prop} {p : List Nat} (hs : w.heap.size ≤ w'.heap.size) (hk : ∀ b, b < w.heap.size → G b → w'.heap[b]? = w.heap[b]? ∧ G' b) : ∀ f t, StdQ w G p f t → StdQ w' G' p f t :=
  fun _ _ ⟨A, c, h0, h1, h2, r⟩ => ⟨A, c, h0, h1, h2, r.step hs hk⟩
/-! ### the methods of a search, by its embedded queue -/
end Go.Proofs.YtjcmehplcagejaaDoor

/-
  CONTRACTS of package container/heap over a search: up, down.
-/
namespace Go.Proofs.YtjcmehplcagejaaDoor
open Go.RowKit Go.Shelf
open Tr (T S4 Ent)
attribute [local go_sem] Oper.semAt_some

/-- the number by which the queue is ordered -/
abbrev qo (p : List Nat) (qs : List T) : Nat → Nat := Hp.fo (Nr.ordT p) qs
end Go.Proofs.YtjcmehplcagejaaDoor

/-
  SCOPES WITH SEVERAL LABELS (laws of the walk); the slots of through. Laid out of XWt, XWu.
-/
namespace Go.Proofs.YtjcmehplcagejaaDoor
open Go.ChangeShapes Go.WideShapes Go.ChangeAt Go.RowKit
open Tr (T S4 Ent)

def jumpsN (J : Nat → Act → World → Prop) (Q : Exit → Act → World → Prop) : Exit → Act → World → Prop := fun e a w => match e with
  | .goto l => J l a w
  | e => Q e a w
theorem wp_scope_labelsN {P : Program} {c : Code} {Q : Exit → Act → World → Prop} {a : Act} {w : World} (rest : Nat → Code) (J : Nat → Nat → Act → World → Prop) (hf : ∀ l m a w, J l m a w → findLabel c l = some (rest l))
    (first : c.wp P (jumpsN (fun l a' w' => ∃ m, J l m a' w') Q) a w)
    (pass : ∀ l m a w, J l m a w → (rest l).wp P (jumpsN (fun l' a' w' => ∃ m', m' < m ∧ J l' m' a' w') Q) a w) : (Code.scope c).wp P Q a w := by
  intro b k cs
  have key : ∀ m l a w, J l m a w → ∃ e a' w', Q e a' w' ∧ Arrives P (lone (b.at a (.code (rest l) :: .inScope c :: k)) cs w) b k cs e a' w' := by
    intro m
    induction m using Nat.strongRecOn with
    | _ m ih =>
      intro l a w hJ
      obtain ⟨e, a₁, w₁, hq, harr⟩ := pass l m a w hJ b (.inScope c :: k) cs
      cases e with
      | normal => exact ⟨.normal, a₁, w₁, hq, Steps.trans harr (.one step_inScope)⟩
      | exit id => exact ⟨.exit id, a₁, w₁, hq, fun k' hk => harr k' (by simp [exitTo, hk])⟩
      | goto l' =>
        obtain ⟨m', hlt, hJ'⟩ := hq
        have hg : gotoIn l' (.inScope c :: k) = some (.code (rest l') :: .inScope c :: k) := by simp [gotoIn, hf l' m' _ _ hJ']
        obtain ⟨e₂, a₂, w₂, hq₂, harr₂⟩ := ih m' hlt l' a₁ w₁ hJ'
        exact ⟨e₂, a₂, w₂, hq₂, .of_steps (harr _ hg) harr₂⟩
      | ret => exact ⟨_, a₁, w₁, hq, harr⟩
      | panic ch => exact ⟨_, a₁, w₁, hq, harr⟩
      | outgrown => exact ⟨_, a₁, w₁, hq, harr⟩
  obtain ⟨e, a₁, w₁, hq, harr⟩ := first b (.inScope c :: k) cs
  cases e with
  | normal => exact ⟨.normal, a₁, w₁, hq, .head step_scope (Steps.trans harr (.one step_inScope))⟩
  | exit id => exact ⟨.exit id, a₁, w₁, hq, fun k' hk => .head step_scope (harr k' (by simp [exitTo, hk]))⟩
  | goto l =>
    obtain ⟨m, hJ'⟩ := hq
    have hg : gotoIn l (.inScope c :: k) = some (.code (rest l) :: .inScope c :: k) := by simp [gotoIn, hf l m _ _ hJ']
    obtain ⟨e₂, a₂, w₂, hq₂, harr₂⟩ := key m l a₁ w₁ hJ'
    exact ⟨e₂, a₂, w₂, hq₂, .of_steps (.head step_scope (harr _ hg)) harr₂⟩
  | ret => exact ⟨_, a₁, w₁, hq, .of_steps (.one step_scope) harr⟩
  | panic ch => exact ⟨_, a₁, w₁, hq, .of_steps (.one step_scope) harr⟩
  | outgrown => exact ⟨_, a₁, w₁, hq, .of_steps (.one step_scope) harr⟩
/-- less is left than was allowed -/
theorem jumpsN_le {P : Program} {c : Code} {Q : Exit → Act → World → Prop} {a : Act} {w : World} {J : Nat → Nat → Act → World → Prop} {m n : Nat} (h : c.wp P (jumpsN (fun l' a' w' => ∃ m', m' < m ∧ J l' m' a' w') Q) a w) (hm : m ≤ n) :
    c.wp P (jumpsN (fun l' a' w' => ∃ m', m' < n ∧ J l' m' a' w') Q) a w := Code.wp_mono (by
  intro e a' w' h'
  cases e <;> first | exact h' | (obtain ⟨m', h1, h2⟩ := h'; exact ⟨m', Nat.lt_of_lt_of_le h1 hm, h2⟩)) h
theorem jumpsN_any {P : Program} {c : Code} {Q : Exit → Act → World → Prop} {a : Act} {w : World} {J : Nat → Nat → Act → World → Prop} {m : Nat} (h : c.wp P (jumpsN (fun l' a' w' => ∃ m', m' < m ∧ J l' m' a' w') Q) a w) :
    c.wp P (jumpsN (fun l' a' w' => ∃ m', J l' m' a' w') Q) a w := Code.wp_mono (by
  intro e a' w' h'
  cases e <;> first | exact h' | (obtain ⟨m', h1, h2⟩ := h'; exact ⟨m', h2⟩)) h

/-- a scope with two labels; the way from the first runs on into the second -/
def J2N (J0 J1 : Nat → Act → World → Prop) : Nat → Nat → Act → World → Prop
  | 0 => J0
  | 1 => J1
  | _ => fun _ _ _ => False
/-- a row of slots, one by one -/
theorem slotsN_list (l : List Value) : l = (List.range l.length).map fun i => l.getD i undef := by
  apply List.ext_getElem
  · simp
  · intro i h1 h2
    simp only [List.getElem_map, List.getElem_range]
    rw [List.getD_eq_getElem?_getD, List.getElem?_eq_getElem h1]
    rfl
theorem slotsN_some {a : Array Value} {i : Nat} {x : Value} (h : a[i]? = some x) : a.toList.getD i undef = x := by
  rw [List.getD_eq_getElem?_getD, Array.getElem?_toList, h]
  rfl
theorem slotsN_arr {a : Array Value} {n : Nat} (h : a.size = n) : a = ((List.range n).map fun i => a.toList.getD i undef).toArray := by
  subst h
  have := slotsN_list a.toList
  rw [Array.length_toList] at this
  rw [← this]
structure SloA (a : Act) (x0 x1 : Value) : Prop where
  d : a.defers = []
  n : a.tmps.size = 61
  s0 : a.tmps[0]? = some x0
  s1 : a.tmps[1]? = some x1
theorem SloA.lit {a : Act} {x0 x1 : Value} (h : SloA a x0 x1) : ∃ V : Nat → Value, a = { tmps := #[x0, x1, V 2, V 3, V 4, V 5, V 6, V 7, V 8, V 9, V 10, V 11, V 12, V 13, V 14, V 15, V 16, V 17, V 18, V 19, V 20, V 21, V 22, V 23, V 24, V 25, V 26, V 27, V 28, V 29, V 30, V 31, V 32, V 33, V 34, V 35, V 36, V 37, V 38, V 39, V 40, V 41, V 42, V 43, V 44, V 45, V 46, V 47, V 48, V 49, V 50, V 51, V 52, V 53, V 54, V 55, V 56, V 57, V 58, V 59, V 60], defers := [] } := by
  refine ⟨fun i => a.tmps.toList.getD i undef, ?_⟩
  have e := slotsN_arr h.n
  obtain ⟨t, d⟩ := a
  have hd : d = [] := h.d
  have h0 := slotsN_some h.s0
  have h1 := slotsN_some h.s1
  simp only at h0 h1 e
  subst hd
  rw [← h0, ← h1]
  congr 1
structure SloB (a : Act) (x0 x1 x4 x8 x9 : Value) : Prop where
  d : a.defers = []
  n : a.tmps.size = 61
  s0 : a.tmps[0]? = some x0
  s1 : a.tmps[1]? = some x1
  s4 : a.tmps[4]? = some x4
  s8 : a.tmps[8]? = some x8
  s9 : a.tmps[9]? = some x9
theorem SloB.lit {a : Act} {x0 x1 x4 x8 x9 : Value} (h : SloB a x0 x1 x4 x8 x9) : ∃ V : Nat → Value, a = { tmps := #[x0, x1, V 2, V 3, x4, V 5, V 6, V 7, x8, x9, V 10, V 11, V 12, V 13, V 14, V 15, V 16, V 17, V 18, V 19, V 20, V 21, V 22, V 23, V 24, V 25, V 26, V 27, V 28, V 29, V 30, V 31, V 32, V 33, V 34, V 35, V 36, V 37, V 38, V 39, V 40, V 41, V 42, V 43, V 44, V 45, V 46, V 47, V 48, V 49, V 50, V 51, V 52, V 53, V 54, V 55, V 56, V 57, V 58, V 59, V 60], defers := [] } := by
  refine ⟨fun i => a.tmps.toList.getD i undef, ?_⟩
  have e := slotsN_arr h.n
  obtain ⟨t, d⟩ := a
  have hd : d = [] := h.d
  have h0 := slotsN_some h.s0
  have h1 := slotsN_some h.s1
  have h4 := slotsN_some h.s4
  have h8 := slotsN_some h.s8
  have h9 := slotsN_some h.s9
  simp only at h0 h1 h4 h8 h9 e
  subst hd
  rw [← h0, ← h1, ← h4, ← h8, ← h9]
  congr 1
end Go.Proofs.YtjcmehplcagejaaDoor
