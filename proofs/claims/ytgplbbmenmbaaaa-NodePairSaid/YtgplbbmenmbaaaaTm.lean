/-
  PLAIN MATHEMATICS of layer 6: nodes as trees (each with the number of its block), their entries, the sums of these. Nothing of the program is named here.
-/
import Derived.Test.YtgplbbmenmbaaaaZm
import Derived.Test.YtgplbbmenmbaaaaSm
namespace Go.Proofs.Ytgplbbmenmbaaaa.Tr
open Go.Proofs.Ytgplbbmenmbaaaa.Z

abbrev Ent := List Nat × Nat

/-! ### sums -/
structure S4 where
  c : Nat
  s : Nat
  lo : Nat
  hi : Nat
def s0 : S4 := ⟨0, 0, 0, 0⟩
def s1 (v : Nat) : S4 := ⟨1, v, v, v⟩
def tog (a b : S4) : S4 := if a.c = 0 then b else if b.c = 0 then a else ⟨a.c + b.c, (a.s + b.s) % 18446744073709551616, min a.lo b.lo, max a.hi b.hi⟩
theorem tog_c (a b : S4) : (tog a b).c = a.c + b.c := by
  unfold tog
  split
  · omega
  · split
    · omega
    · rfl
theorem tog_assoc (a b d : S4) : tog (tog a b) d = tog a (tog b d) := by
  by_cases ha : a.c = 0
  · simp [tog, ha]
  · by_cases hb : b.c = 0
    · simp [tog, ha, hb]
    · by_cases hd : d.c = 0
      · have : (tog a b).c ≠ 0 := by rw [tog_c]; omega
        rw [show tog (tog a b) d = tog a b by simp [tog, ha, hb, hd], show tog b d = b by simp [tog, hb, hd]]
      · have h1 : tog a b = ⟨a.c + b.c, (a.s + b.s) % 18446744073709551616, min a.lo b.lo, max a.hi b.hi⟩ := by simp [tog, ha, hb]
        have h2 : tog b d = ⟨b.c + d.c, (b.s + d.s) % 18446744073709551616, min b.lo d.lo, max b.hi d.hi⟩ := by simp [tog, hb, hd]
        rw [h1, h2]
        unfold tog
        rw [if_neg (by simp only; omega), if_neg hd, if_neg ha, if_neg (by simp only; omega)]
        simp only [S4.mk.injEq]
        refine ⟨by omega, by omega, by omega, by omega⟩
theorem tog_one (x y : Nat) : tog (s1 x) (s1 y) = tog (s1 y) (s1 x) := by
  simp [tog, s1, Nat.add_comm, Nat.min_comm, Nat.max_comm]
theorem tog_zero {a : S4} (h : a.c = 0 → a = s0) : tog a s0 = a := by
  unfold tog
  split
  · rename_i c; exact (h c).symm
  · simp [s0]
theorem zero_tog (a : S4) : tog s0 a = a := by simp [tog, s0]
def sumsF (a : S4) (L : List Ent) : S4 := L.foldl (fun a e => tog a (s1 e.2)) a
def sums (L : List Ent) : S4 := sumsF s0 L
theorem sumsF_c : ∀ (L : List Ent) (a : S4), (sumsF a L).c = a.c + L.length
  | [], a => by simp [sumsF]
  | e :: L, a => by
    have := sumsF_c L (tog a (s1 e.2))
    simp only [sumsF, List.foldl_cons, List.length_cons] at this ⊢
    rw [this, tog_c]
    simp [s1]
    omega
theorem sums_c (L : List Ent) : (sums L).c = L.length := by rw [sums, sumsF_c]; simp [s0]
theorem sums_nil : sums [] = s0 := rfl
theorem sums_val (L : List Ent) : (sums L).c = 0 → sums L = s0 := by
  rw [sums_c]
  intro h
  rw [List.eq_nil_of_length_eq_zero h]
  rfl
theorem sumsF_eq : ∀ (L : List Ent) (a : S4), (a.c = 0 → a = s0) → sumsF a L = tog a (sums L)
  | [], a, h => by simp [sumsF, sums_nil, tog_zero h]
  | e :: L, a, h => by
    have h1 : ∀ b : S4, (tog b (s1 e.2)).c = 0 → tog b (s1 e.2) = s0 := fun b hb => by rw [tog_c] at hb; simp [s1] at hb
    have h2 := sumsF_eq L (tog a (s1 e.2)) (h1 a)
    have h3 := sumsF_eq L (tog s0 (s1 e.2)) (h1 s0)
    simp only [sumsF, sums, List.foldl_cons] at h2 h3 ⊢
    rw [h2, h3, zero_tog, tog_assoc]
theorem sums_append (L M : List Ent) : sums (L ++ M) = tog (sums L) (sums M) := by
  rw [← sumsF_eq M (sums L) (sums_val L)]
  simp [sums, sumsF, List.foldl_append]
theorem sums_one (e : Ent) : sums [e] = s1 e.2 := by simp [sums, sumsF, zero_tog]
theorem sums_cons (e : Ent) (L : List Ent) : sums (e :: L) = tog (s1 e.2) (sums L) := by
  rw [show e :: L = [e] ++ L from rfl, sums_append, sums_one]
theorem sums_snoc (e : Ent) (L : List Ent) : sums (L ++ [e]) = tog (sums L) (s1 e.2) := by rw [sums_append, sums_one]
theorem sums_perm {L M : List Ent} (h : L.Perm M) : sums L = sums M := by
  induction h with
  | nil => rfl
  | cons e _ ih => rw [sums_cons, sums_cons, ih]
  | swap x y L => rw [sums_cons, sums_cons, sums_cons, sums_cons, ← tog_assoc, ← tog_assoc, tog_one]
  | trans _ _ h1 h2 => rw [h1, h2]
theorem sums_bd {L : List Ent} (h : ∀ e ∈ L, e.2 < 18446744073709551616) : (sums L).s < 18446744073709551616 ∧ (sums L).lo < 18446744073709551616 ∧ (sums L).hi < 18446744073709551616 := by
  induction L with
  | nil => simp [sums_nil, s0]
  | cons e L ih =>
    obtain ⟨h1, h2, h3⟩ := ih fun x hx => h x (List.mem_cons_of_mem _ hx)
    have he := h e (List.mem_cons_self)
    rw [sums_cons]
    unfold tog
    rw [if_neg (by simp [s1])]
    split
    · exact ⟨he, he, he⟩
    · simp only [s1]
      omega

/-! ### trees -/
inductive T where
  | ent (g : Nat) (p : List Nat) (v : Nat)
  | br (g l : Nat) (pre : List Nat) (ks : List (Nat × T))
def T.blk : T → Nat
  | .ent g _ _ => g
  | .br g _ _ _ => g
/-- one more than the level -/
def T.lv : T → Nat
  | .ent _ _ _ => 0
  | .br _ l _ _ => l + 1
def T.pre : T → List Nat
  | .ent _ p _ => p
  | .br _ _ pre _ => pre
def T.val : T → Nat
  | .ent _ _ v => v
  | .br _ _ _ _ => 0
def T.ks : T → List (Nat × T)
  | .ent _ _ _ => []
  | .br _ _ _ ks => ks
theorem kid_lt {x : Nat × T} {ks : List (Nat × T)} (hx : x ∈ ks) (g l : Nat) (pre : List Nat) : SizeOf.sizeOf x.2 < SizeOf.sizeOf (T.br g l pre ks) := by
  have h1 := List.sizeOf_lt_of_mem hx
  have h2 : SizeOf.sizeOf x.2 < SizeOf.sizeOf x := by cases x; simp; omega
  simp only [T.br.sizeOf_spec]
  omega
def T.ents (t : T) : List Ent :=
  match t with
  | .ent _ p v => [(p, v)]
  | .br _ _ _ ks => ks.attach.flatMap fun x => T.ents x.1.2
termination_by SizeOf.sizeOf t
decreasing_by
  rename_i g l pre
  have := kid_lt x.2 g l pre
  simpa using this
def entsL (ks : List (Nat × T)) : List Ent := ks.flatMap fun x => x.2.ents
theorem ents_ent (g : Nat) (p : List Nat) (v : Nat) : (T.ent g p v).ents = [(p, v)] := by rw [T.ents]
theorem ents_br (g l : Nat) (pre : List Nat) (ks : List (Nat × T)) : (T.br g l pre ks).ents = entsL ks := by
  rw [T.ents, entsL]
  conv => rhs; rw [← List.attach_map_subtype_val ks]
  rw [List.flatMap_map]
theorem entsL_nil : entsL [] = [] := rfl
theorem entsL_cons (x : Nat × T) (ks : List (Nat × T)) : entsL (x :: ks) = x.2.ents ++ entsL ks := by simp [entsL]
theorem entsL_append (a b : List (Nat × T)) : entsL (a ++ b) = entsL a ++ entsL b := by simp [entsL]
theorem mem_entsL {e : Ent} {ks : List (Nat × T)} : e ∈ entsL ks ↔ ∃ x ∈ ks, e ∈ x.2.ents := by simp [entsL]

inductive Wf (k : Nat) : T → Prop
  | ent (g : Nat) (p : List Nat) (v : Nat) (k1 : 1 ≤ k) (k16 : k ≤ 16) (hl : p.length = k) (ho : Ok p) (hv : v < 18446744073709551616) : Wf k (.ent g p v)
  | br (g l : Nat) (pre : List Nat) (ks : List (Nat × T)) (h63 : l ≤ 63) (hw : Sl.Wf k ks) (h2 : 2 ≤ ks.length) (hl : pre.length = k) (ho : Ok pre)
      (hk : ∀ x ∈ ks, Wf k x.2) (hc : ∀ x ∈ ks, x.2.lv ≤ l ∧ cut x.2.pre (l + 1) = pre ∧ addr x.2.pre l = x.1) : Wf k (.br g l pre ks)

theorem cutN_zero (u : Nat) : cutN u 0 = u := by simp [cutN]
theorem cut_zero (us : List Nat) : cut us 0 = us := by simp [cut, cutN_zero]
theorem cutN_cutN (u a b : Nat) (h : a ≤ b) : cutN (cutN u a) b = cutN u b := by
  apply Nat.eq_of_testBit_eq
  intro m
  rw [cutN_testBit, cutN_testBit, cutN_testBit]
  by_cases hb : b ≤ m
  · have : a ≤ m := by omega
    simp [hb, this]
  · simp [hb]
theorem cut_cut (us : List Nat) (a b : Nat) (h : a ≤ b) : cut (cut us a) b = cut us b := by
  simp only [cut, List.map_map]
  congr 1
  funext u
  exact cutN_cutN u a b h

theorem Wf.k1 {k : Nat} {t : T} (h : Wf k t) : 1 ≤ k := by
  cases h with
  | ent _ _ _ k1 => exact k1
  | br _ _ _ _ _ hw => exact hw.k1
theorem Wf.k16 {k : Nat} {t : T} (h : Wf k t) : k ≤ 16 := by
  cases h with
  | ent _ _ _ _ k16 => exact k16
  | br _ _ _ _ _ hw => exact hw.k16
theorem Wf.len {k : Nat} {t : T} (h : Wf k t) : t.pre.length = k := by
  cases h with
  | ent _ _ _ _ _ hl => exact hl
  | br _ _ _ _ _ _ _ hl => exact hl
theorem Wf.ok {k : Nat} {t : T} (h : Wf k t) : Ok t.pre := by
  cases h with
  | ent _ _ _ _ _ _ ho => exact ho
  | br _ _ _ _ _ _ _ _ ho => exact ho
theorem Wf.lv64 {k : Nat} {t : T} (h : Wf k t) : t.lv ≤ 64 := by
  cases h with
  | ent _ _ _ _ _ _ ho => simp [T.lv]
  | br _ _ _ _ h63 _ _ _ ho => simp only [T.lv]; omega
/-- what is said of each entry of a node -/
theorem Wf.each {k : Nat} {t : T} (h : Wf k t) : ∀ e ∈ t.ents, e.1.length = k ∧ Ok e.1 ∧ e.2 < 18446744073709551616 ∧ cut e.1 t.lv = t.pre := by
  induction h with
  | ent g p v k1 k16 hl ho hv =>
    intro e he
    rw [ents_ent] at he
    simp only [List.mem_singleton] at he
    subst he
    exact ⟨hl, ho, hv, cut_zero p⟩
  | br g l pre ks h63 hw h2 hl ho hk hc ih =>
    intro e he
    rw [ents_br, mem_entsL] at he
    obtain ⟨x, hx, he⟩ := he
    obtain ⟨a1, a2, a3, a4⟩ := ih x hx e he
    obtain ⟨c1, c2, c3⟩ := hc x hx
    refine ⟨a1, a2, a3, ?_⟩
    show cut e.1 (l + 1) = pre
    rw [← cut_cut e.1 x.2.lv (l + 1) (by omega), a4, c2]
theorem Wf.ne {k : Nat} {t : T} (h : Wf k t) : t.ents ≠ [] := by
  induction h with
  | ent g p v => rw [ents_ent]; simp
  | br g l pre ks h63 hw h2 hl ho hk hc ih =>
    rw [ents_br]
    match ks, h2 with
    | x :: r, _ =>
      rw [entsL_cons]
      have := ih x (List.mem_cons_self)
      intro h
      exact this (List.append_eq_nil_iff.1 h).1
/-- the address of an entry at a level of the node or above -/
theorem Wf.addr_at {k : Nat} {t : T} (h : Wf k t) {e : Ent} (he : e ∈ t.ents) {m : Nat} (hm : t.lv ≤ m) : addr e.1 m = addr t.pre m := by
  have h1 := (h.each e he).2.2.2
  have h2 := cut_addr e.1 t.lv m
  rw [if_pos hm, h1] at h2
  exact h2.symm
theorem Wf.cut_pre {k : Nat} {t : T} (h : Wf k t) : cut t.pre t.lv = t.pre := by
  obtain ⟨e, he⟩ := List.exists_mem_of_ne_nil _ h.ne
  have h1 := (h.each e he).2.2.2
  rw [← h1, cut_cut _ _ _ (Nat.le_refl _)]
theorem Wf.cut_at {k : Nat} {t : T} (h : Wf k t) {e : Ent} (he : e ∈ t.ents) {m : Nat} (hm : t.lv ≤ m) : cut e.1 m = cut t.pre m := by
  rw [← (h.each e he).2.2.2, cut_cut _ _ _ hm]
/-- entries of unlike kids part at the node's level -/
theorem br_part {k g l : Nat} {pre : List Nat} {ks : List (Nat × T)} (h : Wf k (.br g l pre ks)) {x y : Nat × T} (hx : x ∈ ks) (hy : y ∈ ks) (hne : x.1 ≠ y.1) {a b : List Nat}
    (ha : a.length = k ∧ Ok a ∧ cut a x.2.lv = x.2.pre) (hb : b.length = k ∧ Ok b ∧ cut b y.2.lv = y.2.pre) : Z.part a b = (l : Int) := by
  cases h with
  | br _ _ _ _ h63 hw h2 hl ho hk hc =>
    obtain ⟨x1, x2, x3⟩ := hc x hx
    obtain ⟨y1, y2, y3⟩ := hc y hy
    have ax : addr a l = x.1 := by
      have := cut_addr a x.2.lv l
      rw [if_pos x1, ha.2.2, x3] at this
      exact this.symm
    have ay : addr b l = y.1 := by
      have := cut_addr b y.2.lv l
      rw [if_pos y1, hb.2.2, y3] at this
      exact this.symm
    refine part_eq (by rw [ha.1, hb.1]) ha.2.1 hb.2.1 l (by rw [ax, ay]; exact hne) fun m hm _ => ?_
    have p1 := cut_addr a (l + 1) m
    have p2 := cut_addr b (l + 1) m
    rw [if_pos (by omega)] at p1 p2
    rw [← p1, ← p2, ← cut_cut a x.2.lv (l + 1) (by omega), ← cut_cut b y.2.lv (l + 1) (by omega), ha.2.2, hb.2.2, x2, y2]
theorem Wf.own {k : Nat} {t : T} (h : Wf k t) : t.pre.length = k ∧ Ok t.pre ∧ cut t.pre t.lv = t.pre := ⟨h.len, h.ok, h.cut_pre⟩
theorem Wf.entry {k : Nat} {t : T} (h : Wf k t) {e : Ent} (he : e ∈ t.ents) : e.1.length = k ∧ Ok e.1 ∧ cut e.1 t.lv = t.pre :=
  ⟨(h.each e he).1, (h.each e he).2.1, (h.each e he).2.2.2⟩
theorem Wf.kid {k g l : Nat} {pre : List Nat} {ks : List (Nat × T)} (h : Wf k (.br g l pre ks)) {x : Nat × T} (hx : x ∈ ks) : Wf k x.2 := by
  cases h with
  | br _ _ _ _ _ _ _ _ _ hk _ => exact hk x hx
/-- the sums of a list of nodes -/
def sumsK (ks : List (Nat × T)) : S4 := ks.foldl (fun a x => tog a (sums x.2.ents)) s0
theorem sumsK_take (ks : List (Nat × T)) (j : Nat) (x : Nat × T) (hx : ks[j]? = some x) : sums (entsL (ks.take (j + 1))) = tog (sums (entsL (ks.take j))) (sums x.2.ents) := by
  obtain ⟨hj, rfl⟩ := List.getElem?_eq_some_iff.1 hx
  rw [List.take_succ_eq_append_getElem hj, entsL_append, sums_append]
  congr 1
  simp [entsL]
end Go.Proofs.Ytgplbbmenmbaaaa.Tr
