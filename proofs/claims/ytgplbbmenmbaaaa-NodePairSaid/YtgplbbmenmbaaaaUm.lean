/-
  PLAIN MATHEMATICS of layers 6 and 7: the z-order as numbers; lists of entries in z-order; the entries of a node are in z-order.
-/
import Derived.Test.YtgplbbmenmbaaaaTp
namespace Go.Proofs.Ytgplbbmenmbaaaa.Tr
open Go.Proofs.Ytgplbbmenmbaaaa.Z

/-! ### the z-order as numbers -/
/-- a point's addresses at the n lowest levels, as one number -/
def keyN (p : List Nat) : Nat → Nat
  | 0 => 0
  | n + 1 => keyN p n + addr p n * (2 ^ p.length) ^ n
def key (p : List Nat) : Nat := keyN p 64
theorem keyN_lt (p : List Nat) : ∀ n, keyN p n < (2 ^ p.length) ^ n
  | 0 => by simp [keyN]
  | n + 1 => by
    have h1 := keyN_lt p n
    have h2 := addr_bound p n
    have h3 : (addr p n + 1) * (2 ^ p.length) ^ n ≤ 2 ^ p.length * (2 ^ p.length) ^ n := Nat.mul_le_mul_right _ h2
    rw [Nat.succ_mul] at h3
    simp only [keyN]
    rw [Nat.pow_succ, Nat.mul_comm ((2 ^ p.length) ^ n)]
    omega
theorem keyN_eq {p q : List Nat} (hl : p.length = q.length) : ∀ n, (∀ m, m < n → addr p m = addr q m) → keyN p n = keyN q n
  | 0, _ => rfl
  | n + 1, h => by
    simp only [keyN]
    rw [keyN_eq hl n fun m hm => h m (by omega), h n (by omega), hl]
theorem keyN_less {p q : List Nat} (hl : p.length = q.length) {l : Nat} (h : addr p l < addr q l) : ∀ n, l < n → (∀ m, l < m → m < n → addr p m = addr q m) → keyN p n < keyN q n
  | 0, hn, _ => by omega
  | n + 1, hn, hs => by
    simp only [keyN]
    by_cases c : n = l
    · subst c
      have h1 := keyN_lt p n
      have h3 : (addr p n + 1) * (2 ^ p.length) ^ n ≤ addr q n * (2 ^ p.length) ^ n := Nat.mul_le_mul_right _ h
      rw [Nat.succ_mul] at h3
      rw [← hl]
      omega
    · have := keyN_less hl h n (by omega) fun m h1 h2 => hs m h1 (by omega)
      rw [hs n (by omega) (by omega), hl]
      omega
theorem key_cases {p q : List Nat} (h : p.length = q.length) (hp : Ok p) (hq : Ok q) : (p = q ∧ cmp p q = 0) ∨ (key p < key q ∧ cmp p q = -1) ∨ (key q < key p ∧ cmp p q = 1) := by
  rcases cmp_vals h hp hq with ⟨r, e⟩ | ⟨l, hl, e, hs, hc⟩
  · exact .inl ⟨r, e⟩
  · rcases hc with ⟨c, e⟩ | ⟨c, e⟩
    · exact .inr (.inl ⟨keyN_less h c 64 hl fun m h1 _ => hs m h1, e⟩)
    · exact .inr (.inr ⟨keyN_less h.symm c 64 hl fun m h1 _ => (hs m h1).symm, e⟩)
theorem key_lt {p q : List Nat} (h : p.length = q.length) (hp : Ok p) (hq : Ok q) : key p < key q ↔ cmp p q < 0 := by
  rcases key_cases h hp hq with ⟨r, e⟩ | ⟨c, e⟩ | ⟨c, e⟩
  · subst r; omega
  · omega
  · omega
theorem key_inj {p q : List Nat} (h : p.length = q.length) (hp : Ok p) (hq : Ok q) : key p = key q ↔ p = q := by
  rcases key_cases h hp hq with ⟨r, e⟩ | ⟨c, e⟩ | ⟨c, e⟩
  · subst r; simp
  · exact ⟨fun _ => by omega, fun r => by subst r; omega⟩
  · exact ⟨fun _ => by omega, fun r => by subst r; omega⟩
theorem key_addr {p q : List Nat} (h : p.length = q.length) {l : Nat} (hl : l < 64) (hc : addr p l < addr q l) (hs : ∀ m, l < m → addr p m = addr q m) : key p < key q :=
  keyN_less h hc 64 hl fun m h1 _ => hs m h1

/-! ### lists in z-order -/
/-- entries with the numbers of their points -/
def K (L : List Ent) : List (Nat × Ent) := L.map fun e => (key e.1, e)
/-- in z-order, no point twice -/
def ZS (L : List Ent) : Prop := L.Pairwise fun a b => key a.1 < key b.1
/-- entries of k coordinates -/
def Dim (k : Nat) (L : List Ent) : Prop := ∀ e ∈ L, e.1.length = k ∧ Ok e.1 ∧ e.2 < 18446744073709551616
theorem K_length (L : List Ent) : (K L).length = L.length := by simp [K]
theorem K_get {L : List Ent} {i : Nat} {e : Ent} (h : L[i]? = some e) : (K L)[i]? = some (key e.1, e) := by simp [K, h]
theorem K_at {L : List Ent} {i : Nat} {x : Nat × Ent} (h : (K L)[i]? = some x) : L[i]? = some x.2 ∧ x.1 = key x.2.1 := by
  simp only [K, List.getElem?_map, Option.map_eq_some_iff] at h
  obtain ⟨e, he, rfl⟩ := h
  exact ⟨he, rfl⟩
theorem K_mem {L : List Ent} {x : Nat × Ent} : x ∈ K L ↔ x.2 ∈ L ∧ x.1 = key x.2.1 := by
  simp only [K, List.mem_map]
  constructor
  · rintro ⟨e, he, rfl⟩; exact ⟨he, rfl⟩
  · rintro ⟨h, e⟩; exact ⟨x.2, h, by rw [← e]⟩
theorem ZS.srt {L : List Ent} (h : ZS L) : Sl.Srt (K L) := by
  unfold Sl.Srt K
  rw [List.pairwise_map]
  exact h
theorem ZS.of {L : List Ent} (h : Sl.Srt (K L)) : ZS L := by
  unfold Sl.Srt K at h
  rw [List.pairwise_map] at h
  exact h
theorem K_back {M : List (Nat × Ent)} (h : ∀ x ∈ M, x.1 = key x.2.1) : K (M.map (·.2)) = M := by
  unfold K
  rw [List.map_map]
  conv => rhs; rw [← List.map_id M]
  exact List.map_congr_left fun x hx => by show (key x.2.1, x.2) = x; rw [← h x hx]
/-- two lists in z-order with the same entries are one -/
theorem ZS.ext : ∀ {L M : List Ent}, ZS L → ZS M → (∀ e, e ∈ L ↔ e ∈ M) → L = M
  | [], [], _, _, _ => rfl
  | [], b :: M, _, _, h => by have := (h b).2 (List.mem_cons_self); simp at this
  | a :: L, [], _, _, h => by have := (h a).1 (List.mem_cons_self); simp at this
  | a :: L, b :: M, hL, hM, h => by
    have l1 := (List.pairwise_cons.1 hL)
    have m1 := (List.pairwise_cons.1 hM)
    have hab : a = b := by
      rcases List.mem_cons.1 ((h a).1 (List.mem_cons_self)) with e | e
      · exact e
      · rcases List.mem_cons.1 ((h b).2 (List.mem_cons_self)) with e' | e'
        · exact e'.symm
        · have := m1.1 a e; have := l1.1 b e'; omega
    subst hab
    rw [ZS.ext l1.2 m1.2 fun e => ?_]
    constructor
    · intro he
      rcases List.mem_cons.1 ((h e).1 (List.mem_cons_of_mem _ he)) with e' | e'
      · subst e'; have := l1.1 e he; omega
      · exact e'
    · intro he
      rcases List.mem_cons.1 ((h e).2 (List.mem_cons_of_mem _ he)) with e' | e'
      · subst e'; have := m1.1 e he; omega
      · exact e'
/-- where a point stands, or would stand -/
def placeE (L : List Ent) (p : List Nat) : Nat := Sl.idx (K L) (key p : Int)
def getE (L : List Ent) (p : List Nat) : Option Nat := (Sl.get (K L) (key p : Int)).map (·.2)
def delE (p : List Nat) (L : List Ent) : List Ent := (Sl.del (key p) (K L)).map (·.2)
def putE (p : List Nat) (v : Nat) (L : List Ent) : List Ent := (Sl.put (key p) (p, v) (K L)).map (·.2)
theorem K_del (p : List Nat) (L : List Ent) : K (delE p L) = Sl.del (key p) (K L) :=
  K_back fun _ hx => (K_mem.1 (Sl.mem_del hx)).2
theorem K_put (p : List Nat) (v : Nat) (L : List Ent) : K (putE p v L) = Sl.put (key p) (p, v) (K L) :=
  K_back fun x hx => by
    rcases Sl.mem_put hx with rfl | hx
    · rfl
    · exact (K_mem.1 hx).2
theorem ZS.del {L : List Ent} (h : ZS L) (p : List Nat) : ZS (delE p L) := ZS.of (by rw [K_del]; exact Sl.srt_del _ h.srt)
theorem ZS.put {L : List Ent} (h : ZS L) (p : List Nat) (v : Nat) : ZS (putE p v L) := ZS.of (by rw [K_put]; exact Sl.srt_put _ _ h.srt)
theorem ZS.nil : ZS [] := List.Pairwise.nil
theorem mem_delE {L : List Ent} (h : ZS L) {p : List Nat} {e : Ent} : e ∈ delE p L ↔ e ∈ L ∧ key e.1 ≠ key p := by
  have h1 : e ∈ delE p L ↔ (key e.1, e) ∈ K (delE p L) := by rw [K_mem]; simp
  have h2 : e ∈ L ↔ (key e.1, e) ∈ K L := by rw [K_mem]; simp
  rw [h1, h2, K_del, ← Sl.get_iff (Sl.srt_del _ h.srt), ← Sl.get_iff h.srt, Sl.get_del h.srt]
  by_cases c : key e.1 = key p
  · simp [c]
  · rw [if_neg (by omega)]; simp [c]
theorem mem_putE {L : List Ent} (h : ZS L) {p : List Nat} {v : Nat} {e : Ent} : e ∈ putE p v L ↔ e = (p, v) ∨ (e ∈ L ∧ key e.1 ≠ key p) := by
  have h1 : e ∈ putE p v L ↔ (key e.1, e) ∈ K (putE p v L) := by rw [K_mem]; simp
  have h2 : e ∈ L ↔ (key e.1, e) ∈ K L := by rw [K_mem]; simp
  rw [h1, h2, K_put, ← Sl.get_iff (Sl.srt_put _ _ h.srt), ← Sl.get_iff h.srt, Sl.get_put h.srt]
  by_cases c : key e.1 = key p
  · rw [if_pos (by omega)]
    constructor
    · intro h; exact .inl (by simpa using h.symm)
    · rintro (h | h)
      · rw [h]
      · exact absurd c h.2
  · rw [if_neg (by omega)]
    constructor
    · intro h; exact .inr ⟨h, c⟩
    · rintro (h | h)
      · subst h; exact absurd rfl c
      · exact h.1
theorem getE_iff {L : List Ent} (h : ZS L) {k : Nat} (hd : Dim k L) {p : List Nat} (hp : p.length = k) (ho : Ok p) {v : Nat} : getE L p = some v ↔ (p, v) ∈ L := by
  unfold getE
  rw [Option.map_eq_some_iff]
  constructor
  · rintro ⟨e, he, rfl⟩
    have h1 := K_mem.1 ((Sl.get_iff h.srt).1 he)
    have h2 := hd e h1.1
    have := (key_inj (by rw [hp, h2.1]) ho h2.2.1).1 h1.2
    subst this
    exact h1.1
  · intro he
    exact ⟨(p, v), (Sl.get_iff h.srt).2 (K_mem.2 ⟨he, rfl⟩), rfl⟩
theorem getE_none {L : List Ent} (h : ZS L) {k : Nat} (hd : Dim k L) {p : List Nat} (hp : p.length = k) (ho : Ok p) : getE L p = none ↔ ∀ e ∈ L, e.1 ≠ p := by
  constructor
  · rintro hn e he rfl
    have := (getE_iff h hd hp ho (v := e.2)).2 he
    rw [hn] at this
    cases this
  · intro hn
    rcases hg : getE L p with _ | v
    · rfl
    · exact absurd rfl (hn _ ((getE_iff h hd hp ho).1 hg))
theorem Dim.key_ne {k : Nat} {L : List Ent} (hd : Dim k L) {p : List Nat} (hp : p.length = k) (ho : Ok p) {e : Ent} (he : e ∈ L) : key e.1 ≠ key p ↔ e.1 ≠ p := by
  have h2 := hd e he
  rw [ne_eq, key_inj (by rw [hp, h2.1]) h2.2.1 ho]
theorem Dim.put {k : Nat} {L : List Ent} (h : ZS L) (hd : Dim k L) {p : List Nat} (hp : p.length = k) (ho : Ok p) {v : Nat} (hv : v < 18446744073709551616) : Dim k (putE p v L) := fun e he => by
  rcases (mem_putE h).1 he with rfl | ⟨he, _⟩
  · exact ⟨hp, ho, hv⟩
  · exact hd e he
theorem Dim.del {k : Nat} {L : List Ent} (h : ZS L) (hd : Dim k L) (p : List Nat) : Dim k (delE p L) := fun e he => hd e ((mem_delE h).1 he).1
theorem length_putE {L : List Ent} (h : ZS L) (p : List Nat) (v : Nat) : (putE p v L).length ≤ L.length + 1 := by
  unfold putE
  rw [List.length_map, Sl.length_put h.srt, K_length]
  split <;> omega
theorem length_delE (p : List Nat) (L : List Ent) : (delE p L).length ≤ L.length := by
  unfold delE
  rw [List.length_map, ← K_length L]
  have : ∀ (M : List (Nat × Ent)) (a : Nat), (Sl.del a M).length ≤ M.length := by
    intro M a
    induction M with
    | nil => simp [Sl.del]
    | cons x M ih =>
      simp only [Sl.del]
      split
      · simp
      · simp only [List.length_cons]; omega
  exact this _ _

/-! ### the entries of a node are in z-order -/
theorem Wf.dim {k : Nat} {t : T} (h : Wf k t) : Dim k t.ents := fun e he => ⟨(h.each e he).1, (h.each e he).2.1, (h.each e he).2.2.1⟩
theorem Wf.zs {k : Nat} {t : T} (h : Wf k t) : ZS t.ents := by
  induction h with
  | ent g p v => rw [ents_ent]; exact List.pairwise_singleton _ _
  | br g l pre ks h63 hw h2 hl ho hk hc ih =>
    have wf : Wf k (.br g l pre ks) := .br g l pre ks h63 hw h2 hl ho hk hc
    rw [ents_br]
    unfold ZS entsL
    rw [List.pairwise_flatMap]
    refine ⟨fun x hx => ih x hx, hw.srt.imp_of_mem ?_⟩
    intro x y hx hy hxy a ha b hb
    have wa := (hk x hx).entry ha
    have wb := (hk y hy).entry hb
    have a1 := kid_addr wf hx ha
    have b1 := kid_addr wf hy hb
    have hp := br_part wf hx hy (by omega) wa wb
    rw [key_lt (by rw [wa.1, wb.1]) wa.2.1 wb.2.1, cmp_at hp, a1, b1, if_pos hxy]
    decide
end Go.Proofs.Ytgplbbmenmbaaaa.Tr
