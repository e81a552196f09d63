import Derived.Test.YtpgkfccfabnjdaaGreatDoorM06
import Derived.Test.YtpgkfccfabnjdaaGreatDoorM01
import Derived.Test.YtpgkfccfabnjdaaGreatDoorM30
import Derived.Test.YtpgkfccfabnjdaaGreatDoorM12
import Derived.Test.YtpgkfccfabnjdaaGreatDoorM50
import Derived.Test.YtpgkfccfabnjdaaGreatDoorM05
/-
  NEAR, MATHEMATICS: heaps (the least one first).
-/
namespace Go.Proofs.YtpgkfccfabnjdaaGreatDoor.Hp

variable {α : Type}
def fo (o : α → Nat) (xs : List α) (i : Nat) : Nat := match xs[i]? with | some x => o x | none => 0
end Go.Proofs.YtpgkfccfabnjdaaGreatDoor.Hp

/-
  NEAR, MATHEMATICS: entries by their distance.
-/
namespace Go.Proofs.YtpgkfccfabnjdaaGreatDoor.Nr
open Z
open Tr (T Ent Wf ZS Dim key keyN)

theorem far_mono {p a b : List Nat} : ∀ {k : Nat}, (∀ i, i < k → Bx.dif (Bx.g p i) (Bx.g a i) ≤ Bx.dif (Bx.g p i) (Bx.g b i)) → Bx.far p a k ≤ Bx.far p b k
  | 0, _ => Nat.le_refl _
  | k + 1, h => by
    have h1 := far_mono (k := k) fun i hi => h i (by omega)
    have h2 := h k (by omega)
    simp only [Bx.far]
    omega
theorem far_congr {p a b : List Nat} {k : Nat} (h : ∀ i, i < k → Bx.g a i = Bx.g b i) : Bx.far p a k = Bx.far p b k :=
  Nat.le_antisymm (far_mono fun i hi => by rw [h i hi]; exact Nat.le_refl _) (far_mono fun i hi => by rw [h i hi]; exact Nat.le_refl _)
def dist (p q : List Nat) : Nat := Bx.far p q p.length
def distT (p : List Nat) (t : T) : Nat := Bx.far p (Bx.near t.pre (Bx.cellHi t.pre t.lv) p) p.length
theorem distT_ent {k g v : Nat} {p q : List Nat} (h : Wf k (.ent g q v)) (hp : p.length = k) : distT p (.ent g q v) = dist p q := by
  have hl : q.length = k := h.len
  refine far_congr fun i hi => ?_
  have h1 : i < q.length := by omega
  have e1 : T.pre (.ent g q v) = q := rfl
  have e2 : T.lv (.ent g q v) = 0 := rfl
  rw [Bx.near, Bx.g_tab _ (by omega)]
  unfold Bx.nearG
  rw [e1, e2, Bx.cellHi, Bx.g_tab _ h1, Tr.cutN_zero]
  omega
theorem distT_le {k : Nat} {p : List Nat} {t : T} (h : Wf k t) (hp : p.length = k) {e : Ent} (he : e ∈ t.ents) : distT p t ≤ dist p e.1 := by
  have hen := h.entry he
  have hl := h.len
  have hc := h.cut_pre
  refine far_mono fun i hi => ?_
  rw [Bx.near, Bx.g_tab _ (by omega)]
  have h1 := Bx.cell_isin (p := t.pre) (q := e.1) t.lv (by rw [hl, hen.1])
  rw [hc, hen.2.2, decide_eq_true rfl, Bx.isin_true] at h1
  have h2 := h1 i (by omega)
  unfold Bx.nearG Bx.dif
  omega
theorem keyN_le {p q : List Nat} (hl : p.length = q.length) (h : ∀ m, addr p m ≤ addr q m) : ∀ n, keyN p n ≤ keyN q n
  | 0 => Nat.le_refl _
  | n + 1 => by
    simp only [keyN]
    rw [hl]
    exact Nat.add_le_add (keyN_le hl h n) (Nat.mul_le_mul_right _ (h n))
theorem key_pre {k : Nat} {t : T} (h : Wf k t) {e : Ent} (he : e ∈ t.ents) : key t.pre ≤ key e.1 := by
  have hen := h.entry he
  rw [← hen.2.2]
  exact keyN_le (by rw [cut_length]) (fun m => by rw [cut_addr]; split <;> omega) 64
def lex (k d x : Nat) : Nat := d * (2 ^ k) ^ 64 + x
theorem lex_mono {k d x d' x' : Nat} (hd : d ≤ d') (hx : x ≤ x') : lex k d x ≤ lex k d' x' := Nat.add_le_add (Nat.mul_le_mul_right _ hd) hx
def ordE (p : List Nat) (e : Ent) : Nat := lex p.length (dist p e.1) (key e.1)
def ordT (p : List Nat) (t : T) : Nat := lex p.length (distT p t) (key t.pre)
theorem ordT_le {k : Nat} {p : List Nat} {t : T} (h : Wf k t) (hp : p.length = k) {e : Ent} (he : e ∈ t.ents) : ordT p t ≤ ordE p e := lex_mono (distT_le h hp he) (key_pre h he)
theorem ordT_ent {k g v : Nat} {p q : List Nat} (h : Wf k (.ent g q v)) (hp : p.length = k) : ordT p (.ent g q v) = ordE p (q, v) := by
  unfold ordT ordE
  rw [distT_ent h hp]
  rfl
def NS (p : List Nat) (N : List Ent) : Prop := N.Pairwise fun a b => ordE p a < ordE p b
theorem NS.ext {p : List Nat} : ∀ {L M : List Ent}, NS p L → NS p M → (∀ e, e ∈ L ↔ e ∈ M) → L = M
  | [], [], _, _, _ => rfl
  | [], b :: M, _, _, h => by have := (h b).2 (by simp); cases this
  | a :: L, [], _, _, h => by have := (h a).1 (by simp); cases this
  | a :: L, b :: M, hL, hM, h => by
    have h1 := List.pairwise_cons.1 hL
    have h2 := List.pairwise_cons.1 hM
    have e : a = b := by
      rcases List.mem_cons.1 ((h a).1 (by simp)) with e | e
      · exact e
      · rcases List.mem_cons.1 ((h b).2 (by simp)) with f | f
        · exact f.symm
        · have := h2.1 a e; have := h1.1 b f; omega
    subst e
    rw [NS.ext h1.2 h2.2 fun x => ?_]
    have hx := h x
    simp only [List.mem_cons] at hx
    constructor
    · intro hm
      rcases hx.1 (.inr hm) with e | e
      · subst e; have := h1.1 x hm; omega
      · exact e
    · intro hm
      rcases hx.2 (.inr hm) with e | e
      · subst e; have := h2.1 x hm; omega
      · exact e
structure St (k : Nat) (p : List Nat) (most : Nat) (qs : List T) (N : List Ent) : Prop where
  each : ∀ t ∈ qs, Wf k t ∧ distT p t ≤ most
  ns : NS p N
  mem : ∀ e, e ∈ N ↔ ∃ t ∈ qs, e ∈ t.ents ∧ dist p e.1 ≤ most
  one : qs.Pairwise fun a b => ∀ e ∈ a.ents, e ∉ b.ents
def mea (qs : List T) : Nat := (qs.map fun t => 2 * t.ents.length - 1).sum
theorem mea_app (a b : List T) : mea (a ++ b) = mea a + mea b := by unfold mea; rw [List.map_append, List.sum_append]
theorem St.ent {k : Nat} {p : List Nat} {most g v : Nat} {q : List Nat} {qs : List T} {N : List Ent} (h : St k p most (.ent g q v :: qs) N) (hp : p.length = k) (hl : ∀ t ∈ qs, ordT p (.ent g q v) ≤ ordT p t) : ∃ N', N = (q, v) :: N' ∧ St k p most qs N' := by
  have hw := h.each _ List.mem_cons_self
  have hq : ((q, v) : Ent) ∈ N := (h.mem _).2 ⟨_, List.mem_cons_self, by rw [Tr.ents_ent]; exact List.mem_singleton.2 rfl, by rw [← distT_ent hw.1 hp]; exact hw.2⟩
  have ho := ordT_ent hw.1 hp
  cases N with
  | nil => cases hq
  | cons x N =>
    have hns := List.pairwise_cons.1 h.ns
    have hx : (q, v) = x := by
      rcases List.mem_cons.1 hq with e | e
      · exact e
      · exfalso
        have h1 := hns.1 _ e
        obtain ⟨t, ht, hxt, -⟩ := (h.mem x).1 List.mem_cons_self
        rcases List.mem_cons.1 ht with rfl | ht
        · rw [Tr.ents_ent, List.mem_singleton] at hxt
          subst hxt
          omega
        · have h2 := hl t ht
          have h3 := ordT_le (h.each t (List.mem_cons_of_mem _ ht)).1 hp hxt
          omega
    subst hx
    refine ⟨N, rfl, fun t ht => h.each t (List.mem_cons_of_mem _ ht), hns.2, fun e => ?_, (List.pairwise_cons.1 h.one).2⟩
    have hm := h.mem e
    constructor
    · intro he
      obtain ⟨t, ht, h1, h2⟩ := hm.1 (List.mem_cons_of_mem _ he)
      rcases List.mem_cons.1 ht with rfl | ht
      · rw [Tr.ents_ent, List.mem_singleton] at h1
        subst h1
        have := hns.1 _ he
        omega
      · exact ⟨t, ht, h1, h2⟩
    · rintro ⟨t, ht, h1, h2⟩
      rcases List.mem_cons.1 (hm.2 ⟨t, List.mem_cons_of_mem _ ht, h1, h2⟩) with e1 | e1
      · exfalso
        subst e1
        exact (List.pairwise_cons.1 h.one).1 t ht _ (by rw [Tr.ents_ent]; exact List.mem_singleton.2 rfl) h1
      · exact e1
def putK (p : List Nat) (most : Nat) (ks : List (Nat × T)) : List T := (ks.map (·.2)).filter fun t => decide (distT p t ≤ most)
theorem mea_kids {k : Nat} : ∀ {ks : List (Nat × T)}, (∀ x ∈ ks, Wf k x.2) → mea (ks.map (·.2)) + ks.length = 2 * (Tr.entsL ks).length
  | [], _ => rfl
  | x :: ks, h => by
    have h1 := mea_kids (ks := ks) fun y hy => h y (List.mem_cons_of_mem _ hy)
    have h2 : 0 < x.2.ents.length := List.length_pos_iff.2 (h x List.mem_cons_self).ne
    rw [Tr.entsL_cons, List.length_append, List.length_cons, List.map_cons]
    have h3 : mea (x.2 :: ks.map (·.2)) = (2 * x.2.ents.length - 1) + mea (ks.map (·.2)) := by simp [mea]
    rw [h3]
    omega
theorem mea_filter (q : T → Bool) : ∀ L : List T, mea (L.filter q) ≤ mea L
  | [] => Nat.le_refl _
  | t :: L => by
    have h1 := mea_filter q L
    have h2 : ∀ M : List T, mea (t :: M) = (2 * t.ents.length - 1) + mea M := fun M => by simp [mea]
    rw [List.filter_cons]
    split
    · rw [h2, h2]; omega
    · rw [h2]; omega
theorem St.br {k : Nat} {p : List Nat} {most g l : Nat} {pre : List Nat} {ks : List (Nat × T)} {qs : List T} {N : List Ent} (h : St k p most (.br g l pre ks :: qs) N) (hp : p.length = k) : St k p most (qs ++ putK p most ks) N ∧ mea (qs ++ putK p most ks) < mea (.br g l pre ks :: qs) := by
  have hw := (h.each _ List.mem_cons_self).1
  have hk : ∀ x ∈ ks, Wf k x.2 := fun x hx => hw.kid hx
  have hpk : ∀ t, t ∈ putK p most ks ↔ (∃ x ∈ ks, x.2 = t) ∧ distT p t ≤ most := fun t => by unfold putK; rw [List.mem_filter, List.mem_map, decide_eq_true_iff]
  have hone := List.pairwise_cons.1 h.one
  have h2 : 2 ≤ ks.length := by cases hw with | br _ _ _ _ _ _ h2 => exact h2
  have hz := hw.zs
  rw [Tr.ents_br] at hz
  refine ⟨⟨fun t ht => ?_, h.ns, fun e => ?_, List.pairwise_append.2 ⟨hone.2, ?_, fun a ha b hb e he hc => ?_⟩⟩, ?_⟩
  · rcases List.mem_append.1 ht with ht | ht
    · exact h.each t (List.mem_cons_of_mem _ ht)
    · obtain ⟨⟨x, hx, rfl⟩, hd⟩ := (hpk t).1 ht
      exact ⟨hk x hx, hd⟩
  · rw [h.mem]
    constructor
    · rintro ⟨t, ht, he, hd⟩
      rcases List.mem_cons.1 ht with rfl | ht
      · rw [Tr.ents_br, Tr.mem_entsL] at he
        obtain ⟨x, hx, he⟩ := he
        refine ⟨x.2, List.mem_append_right _ ((hpk _).2 ⟨⟨x, hx, rfl⟩, Nat.le_trans (distT_le (hk x hx) hp he) hd⟩), he, hd⟩
      · exact ⟨t, List.mem_append_left _ ht, he, hd⟩
    · rintro ⟨t, ht, he, hd⟩
      rcases List.mem_append.1 ht with ht | ht
      · exact ⟨t, List.mem_cons_of_mem _ ht, he, hd⟩
      · obtain ⟨⟨x, hx, rfl⟩, -⟩ := (hpk t).1 ht
        exact ⟨_, List.mem_cons_self, by rw [Tr.ents_br, Tr.mem_entsL]; exact ⟨x, hx, he⟩, hd⟩
  · unfold putK
    refine List.Pairwise.filter _ ?_
    rw [List.pairwise_map]
    clear hpk hone h2 hk hw h
    induction ks with
    | nil => exact List.Pairwise.nil
    | cons x ks ih =>
      rw [Tr.entsL_cons] at hz
      have hz' := List.pairwise_append.1 hz
      refine List.pairwise_cons.2 ⟨fun y hy e he hc => ?_, ih hz'.2.1⟩
      have := hz'.2.2 e he e (Tr.mem_entsL.2 ⟨y, hy, hc⟩)
      omega
  · obtain ⟨⟨x, hx, rfl⟩, -⟩ := (hpk b).1 hb
    exact hone.1 a ha e (by rw [Tr.ents_br, Tr.mem_entsL]; exact ⟨x, hx, hc⟩) he
  · have h3 : mea (.br g l pre ks :: qs) = (2 * (Tr.entsL ks).length - 1) + mea qs := by simp [mea, Tr.ents_br]
    have h4 := mea_kids hk
    have h5 := mea_filter (fun t => decide (distT p t ≤ most)) (ks.map (·.2))
    rw [mea_app, h3]
    unfold putK
    omega
end Go.Proofs.YtpgkfccfabnjdaaGreatDoor.Nr

/-
  CONTRACTS of package container/heap over a search: up, down.
-/
namespace Go.Proofs.YtpgkfccfabnjdaaGreatDoor
open Go.RowKit Go.Shelf
open Tr (T S4 Ent)
attribute [local go_sem] Oper.semAt_some

abbrev qo (p : List Nat) (qs : List T) : Nat → Nat := Hp.fo (Nr.ordT p) qs
end Go.Proofs.YtpgkfccfabnjdaaGreatDoor
