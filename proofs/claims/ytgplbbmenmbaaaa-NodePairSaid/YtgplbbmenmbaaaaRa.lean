import Derived.Test.YtgplbbmenmbaaaaVr
import Derived.Test.YtgplbbmenmbaaaaOl
import Derived.Test.YtgplbbmenmbaaaaRn1
import Derived.Test.YtgplbbmenmbaaaaUm
import Derived.Deep.RegionLaw
import Derived.Test.YtgplbbmenmbaaaaTn3
/-
  ROWS OF WIDE ELEMENTS that the call made ('OwnL': elements of n cells each, 'Q' says what an element's cells hold), append to them, parts of lists.
-/
namespace Go.Proofs.Ytgplbbmenmbaaaa
open Go.ChangeShapes Go.WideShapes Go.ChangeAt Go.RowKit

/-- what is asked of 'Q': it looks at n cells alone; each is there, and one cell -/
structure QOk {α : Type} (n : Nat) (Q : (Nat → Option Value) → α → Prop) : Prop where
  ext : ∀ f g a, (∀ j, j < n → f j = g j) → Q f a → Q g a
  has : ∀ f a, Q f a → ∀ j, j < n → ∃ u, f j = some u ∧ u.oneCell' = true
def LCells {α : Type} (n : Nat) (Q : (Nat → Option Value) → α → Prop) (vs : List Value) (L : List α) : Prop := vs.length = L.length * n ∧ ∀ i a, L[i]? = some a → Q (fun j => vs[i * n + j]?) a
/-- A ROW THAT THE CALL MADE. -/
def OwnL {α : Type} (e : TypeId) (n : Nat) (Q : (Nat → Option Value) → α → Prop) (w : World) (base : Nat) (v : Value) (L : List α) : Prop := ∃ vs, LCells n Q vs L ∧ w.ownsRow base e n v L.length vs
variable {α : Type} {n : Nat} {Q Q' : (Nat → Option Value) → α → Prop}
theorem idx_lt {i j n m : Nat} (hi : i < m) (hj : j < n) : i * n + j < m * n := by
  have : (i + 1) * n ≤ m * n := Nat.mul_le_mul_right _ hi
  rw [Nat.succ_mul] at this
  omega
theorem LCells.nil (n : Nat) (Q : (Nat → Option Value) → α → Prop) : LCells n Q [] [] := ⟨by simp, fun i a h => by simp at h⟩
theorem LCells.append (hQ : QOk n Q) {vs us : List Value} {L M : List α} (h : LCells n Q vs L) (k : LCells n Q us M) : LCells n Q (vs ++ us) (L ++ M) := by
  refine ⟨by rw [List.length_append, List.length_append, h.1, k.1, Nat.add_mul], fun i a ha => ?_⟩
  rcases Nat.lt_or_ge i L.length with hi | hi
  · rw [List.getElem?_append_left hi] at ha
    exact hQ.ext _ _ _ (fun j hj => (List.getElem?_append_left (by rw [h.1]; exact idx_lt hi hj)).symm) (h.2 i a ha)
  · rw [List.getElem?_append_right hi] at ha
    refine hQ.ext _ _ _ (fun j hj => ?_) (k.2 _ a ha)
    have h1 : L.length * n ≤ i * n := Nat.mul_le_mul_right _ hi
    rw [List.getElem?_append_right (by rw [h.1]; omega), h.1, Nat.sub_mul]
    congr 1
    omega
theorem LCells.imp {vs : List Value} {L : List α} (h : LCells n Q vs L) (k : ∀ f a, Q f a → Q' f a) : LCells n Q' vs L := ⟨h.1, fun i a ha => k _ _ (h.2 i a ha)⟩
theorem LCells.one (hQ : QOk n Q) {vs : List Value} {L : List α} (h : LCells n Q vs L) : ∀ u ∈ vs, u.oneCell' = true := by
  intro u hu
  obtain ⟨m, hm⟩ := List.mem_iff_getElem?.1 hu
  have hlt := (List.getElem?_eq_some_iff.1 hm).1
  rw [h.1] at hlt
  have hn : 0 < n := by
    rcases Nat.eq_zero_or_pos n with h0 | h0
    · subst h0; simp at hlt
    · exact h0
  have hi : m / n < L.length := (Nat.div_lt_iff_lt_mul hn).2 hlt
  obtain ⟨a, ha⟩ : ∃ a, L[m / n]? = some a := ⟨_, List.getElem?_eq_getElem hi⟩
  obtain ⟨y, hy, h1⟩ := hQ.has _ _ (h.2 _ a ha) (m % n) (Nat.mod_lt _ hn)
  rw [Nat.div_add_mod' m n, hm] at hy
  cases hy
  exact h1
theorem OwnL.imp {e : TypeId} {w : World} {base : Nat} {v : Value} {L : List α} (h : OwnL e n Q w base v L) (k : ∀ f a, Q f a → Q' f a) : OwnL e n Q' w base v L := by
  obtain ⟨vs, h1, h2⟩ := h
  exact ⟨vs, h1.imp k, h2⟩
theorem OwnL.block {e : TypeId} {w w' : World} {base : Nat} {v : Value} {L : List α} (h : OwnL e n Q w base v L) (hb : ∀ q, v.ownBlock = some q → w'.heap[q]? = w.heap[q]?) : OwnL e n Q w' base v L := by
  obtain ⟨vs, h1, h2⟩ := h
  refine ⟨vs, h1, h2.1, ?_⟩
  rcases h2.2 with h3 | ⟨g, cap, cur, hv, hg, hh, r⟩
  · exact .inl h3
  · exact .inr ⟨g, cap, cur, hv, hg, (hb g (by subst hv; rfl)).trans hh, r⟩
theorem OwnL.lt {e : TypeId} {w : World} {base : Nat} {v : Value} {L : List α} (h : OwnL e n Q w base v L) : ∀ q, v.ownBlock = some q → base ≤ q ∧ q < w.heap.size := by
  obtain ⟨vs, _, h2⟩ := h
  exact h2.lt
theorem OwnL.below {e : TypeId} {w w' : World} {base C : Nat} {v : Value} {L : List α} (h : OwnL e n Q w base v L) (hb : Below C w w') (hC : w.heap.size ≤ C) : OwnL e n Q w' base v L :=
  h.block fun q hq => hb.block q (by have := (h.lt q hq).2; omega)
theorem OwnL.mono {e : TypeId} {w : World} {base base' : Nat} {v : Value} {L : List α} (h : OwnL e n Q w base v L) (hb : base' ≤ base) : OwnL e n Q w base' v L := by
  obtain ⟨vs, h1, h2⟩ := h
  refine ⟨vs, h1, h2.1, ?_⟩
  rcases h2.2 with h3 | ⟨g, cap, cur, hv, hg, r⟩
  · exact .inl h3
  · exact .inr ⟨g, cap, cur, hv, by omega, r⟩
theorem ownL_none (e : TypeId) (w : World) (base : Nat) : OwnL e n Q w base (.slice none 0 0) [] := ⟨[], LCells.nil n Q, World.ownsRow_nil w base e n⟩
theorem ownL_nil (e : TypeId) (w : World) : OwnL e n Q (w.alloc (.cells #[] e)) w.heap.size (.slice (some ⟨w.heap.size, 0, none⟩) 0 0) [] :=
  ⟨[], LCells.nil n Q, World.ownsRow_made w #[] 0 (Nat.le_refl _) (by unfold maxLen; omega) (by simp)⟩
/-- what is owned can be read -/
theorem OwnL.rd {e : TypeId} {w : World} {base : Nat} {v : Value} {L : List α} (hQ : QOk n Q) (h : OwnL e n Q w base v L) : ∃ A c, v = .slice A L.length c ∧ L.length ≤ c ∧ Lst n Q w w.heap.size A L := by
  obtain ⟨vs, h1, h2⟩ := h
  rcases h2.2 with ⟨hv, hn⟩ | ⟨g, cap, cur, hv, hg, hh, hnc, r⟩
  · have : L = [] := List.eq_nil_of_length_eq_zero hn
    subst this
    exact ⟨none, 0, hv, Nat.le_refl _, fun h => absurd rfl h⟩
  · refine ⟨_, cap, hv, hnc, fun _ => ⟨g, 0, rfl, (Array.getElem?_eq_some_iff.1 hh).1, fun i a ha => ?_⟩⟩
    refine hQ.ext _ _ _ (fun j hj => ?_) (h1.2 i a ha)
    have hi := (List.getElem?_eq_some_iff.1 ha).1
    have hlt : i * n + j < vs.length := by rw [h1.1]; exact idx_lt hi hj
    have hcell := h2.cells (g := g) (by subst hv; rfl) (i * n + j) vs[i * n + j] (List.getElem?_eq_getElem hlt)
    rw [List.getElem?_eq_getElem hlt]
    rw [Go.WideShapes.add_plain, Nat.zero_add] at hcell
    rw [Nat.zero_add]
    exact hcell.symm
theorem OwnL.slice {e : TypeId} {w : World} {base : Nat} {v : Value} {L : List α} (h : OwnL e n Q w base v L) : ∃ A c, v = .slice A L.length c ∧ L.length ≤ c := by
  obtain ⟨vs, h1, h2⟩ := h
  rcases h2.2 with ⟨hv, hn⟩ | ⟨g, cap, cur, hv, hg, hh, hnc, r⟩
  · exact ⟨none, 0, by rw [hn]; exact hv, by omega⟩
  · exact ⟨_, cap, hv, hnc⟩
/-- the cells of a list that can be read -/
theorem Lst.cells {w : World} {R : Nat} {A : Option Addr} {L : List α} (hQ : QOk n Q) (h : Lst n Q w R A L) (hne : L ≠ []) : ∃ ad vs, A = some ad ∧ LCells n Q vs L ∧ ∀ j u, vs[j]? = some u → w.cell? (ad.add j) = some u := by
  obtain ⟨b, off, hA, _, hq⟩ := h hne
  have hcell : ∀ m, m < L.length * n → ∃ u, w.cell? ⟨b, off + m, none⟩ = some u := fun m hm => by
    have hn : 0 < n := by
      rcases Nat.eq_zero_or_pos n with h0 | h0
      · subst h0; simp at hm
      · exact h0
    have hi : m / n < L.length := (Nat.div_lt_iff_lt_mul hn).2 hm
    obtain ⟨u, hu, _⟩ := hQ.has _ _ (hq _ _ (List.getElem?_eq_getElem hi)) (m % n) (Nat.mod_lt _ hn)
    refine ⟨u, ?_⟩
    rw [← hu, Nat.add_assoc, Nat.div_add_mod' m n]
  have hget : ∀ m, m < L.length * n → ((List.range (L.length * n)).map fun m => (w.cell? ⟨b, off + m, none⟩).getD undef)[m]? = w.cell? ⟨b, off + m, none⟩ := fun m hm => by
    obtain ⟨u, hu⟩ := hcell m hm
    simp [hm, hu]
  refine ⟨⟨b, off, none⟩, (List.range (L.length * n)).map fun m => (w.cell? ⟨b, off + m, none⟩).getD undef, hA, ⟨by simp, fun i a ha => ?_⟩, fun j u hj => ?_⟩
  · have hi := (List.getElem?_eq_some_iff.1 ha).1
    refine hQ.ext _ _ _ (fun j hj => ?_) (hq i a ha)
    rw [hget _ (idx_lt hi hj), Nat.add_assoc]
  · have hjl := (List.getElem?_eq_some_iff.1 hj).1
    simp only [List.length_map, List.length_range] at hjl
    rw [hget j hjl] at hj
    rw [Go.WideShapes.add_plain]
    exact hj
/-- append of whatever can be read, elements of any size -/
theorem run_append_list {w : World} (t ty e : TypeId) (z : Value) (sz : Nat) (hu : Try.prog.underlying t = some (.slice e)) (hinfo : (Try.prog.info? e).map (fun i => (i.zero, i.size, i.bytes)) = some (some z, n, sz)) (hzc : z.cells.size = n) (hn0 : 0 < n) (hsz : sz ≤ 1000) (hQ : QOk n Q)
    (base : Nat) (v : Value) (L M : List α) (hown : OwnL e n Q w base v L) (R : Nat) (A : Option Addr) (c : Nat) (hp : Lst n Q w R A M) (hlen : L.length + M.length ≤ 8000000000) (hbase : base ≤ w.heap.size) :
    ∃ D d w', (Builtin.append_ #[t, t] ty #[v, .slice A M.length c]).run Try.prog w = .ok (.slice D (L.length + M.length) d) w' ∧ OwnL e n Q w' base (.slice D (L.length + M.length) d) (L ++ M) ∧ w.grownBy w' v.ownBlock ∧
      ((Value.slice D (L.length + M.length) d).ownBlock = v.ownBlock ∨ (Value.slice D (L.length + M.length) d).ownBlock = some w.heap.size) := by
  obtain ⟨i0, hi0, hz0, hz1, hz2⟩ := info_parts hinfo
  obtain ⟨vs, h1, h2⟩ := hown
  by_cases hM : M = []
  · subst hM
    obtain ⟨D, d, hv, hcap⟩ := OwnL.slice ⟨vs, h1, h2⟩
    subst hv
    refine ⟨D, d, w, ?_, by rw [List.append_nil]; exact ⟨vs, h1, h2⟩, World.grownBy.refl w _, .inl rfl⟩
    rcases h2.2 with ⟨hv, h0⟩ | ⟨g, cap, cur, hv, _, _, hnc, _⟩
    · obtain ⟨hD, _, hd⟩ : D = none ∧ L.length = 0 ∧ d = 0 := by simpa using hv
      subst hD hd
      rw [h0]
      cases A <;> simp [Builtin.append_, run_underlying hu, sizeOf, typeInfo, hi0, Builtin.lenOf, Builtin.firstCells, loadCells, loadCellsFrom]
    · cases hv
      cases A <;> simp [Builtin.append_, run_underlying hu, sizeOf, typeInfo, hi0, Builtin.lenOf, Builtin.firstCells, hnc, storeCells, loadCells, loadCellsFrom]
  · obtain ⟨ad, us, rfl, k1, k2⟩ := hp.cells hQ hM
    have hb : (L.length + M.length) * sz ≤ 140737488355328 := Nat.le_trans (Nat.mul_le_mul hlen hsz) (by omega)
    obtain ⟨v', w', hr, g1, g2, g3, g4⟩ := run_append_own_at (P := Try.prog) w base t ty e i0 z n sz hu hi0 hz0 hz1 hz2 hzc hn0 v L.length vs h2 ad M.length c us k1.1 k2 (k1.one hQ) (by unfold maxLen; omega) hb hbase
    have hO : OwnL e n Q w' base v' (L ++ M) := ⟨vs ++ us, h1.append hQ k1, by rw [List.length_append]; exact g1⟩
    obtain ⟨D, d, hv, _⟩ := hO.slice
    rw [List.length_append] at hv
    subst hv
    exact ⟨D, d, w', hr, hO, g2, g4⟩
theorem wpList_append_list {w : World} {ops : Array Oper} {rest : List Oper} {o : Oper} {a : Act} {K : Exit → Act → World → Prop} (t e : TypeId) (z : Value) (sz : Nat) (hu : Try.prog.underlying t = some (.slice e)) (hinfo : (Try.prog.info? e).map (fun i => (i.zero, i.size, i.bytes)) = some (some z, n, sz)) (hzc : z.cells.size = n) (hn0 : 0 < n) (hsz : sz ≤ 1000) (hQ : QOk n Q)
    (hgd : o.guard = none) (s x : Operand) (ho : o.op = .call { callee := .builtin .append, args := #[s, x], argTypes := #[t, t] }) (base : Nat) (v : Value) (L M : List α) (m : Nat) (hm : L.length + M.length = m) (hs : a.eval s = v) (hown : OwnL e n Q w base v L)
    (R : Nat) (A : Option Addr) (k c : Nat) (hk : M.length = k) (hx : a.eval x = .slice A k c) (hp : Lst n Q w R A M) (hlen : m ≤ 8000000000) (hbase : base ≤ w.heap.size)
    (h : ∀ D d w', OwnL e n Q w' base (.slice D m d) (L ++ M) → w.grownBy w' v.ownBlock → ((Value.slice D m d).ownBlock = v.ownBlock ∨ (Value.slice D m d).ownBlock = some w.heap.size) → wpList Try.prog ops K rest (a.put o.dst (.slice D m d)) w') : wpList Try.prog ops K (o :: rest) a w := by
  subst hm hk
  refine wpList_plain hgd fun K hK => ?_
  obtain ⟨D, d, w', hr, h2, h3, h5⟩ := run_append_list (w := w) t o.type e z sz hu hinfo hzc hn0 hsz hQ base v L M hown R A c hp hlen hbase
  unfold Oper.wp execOp
  simp only [ho, resolve, invoke, builtin, Sem.run_bind, Sem.run_pure, Result.andThen_ok, List.map_toArray, List.map_cons, List.map_nil, hs, hx, hr]
  exact hK _ _ (h D d w' h2 h3 h5)
theorem step_append_list {w : World} {ops : Array Oper} {o : Oper} {a : Act} {K : Act → World → Prop} {P : Exit → Act → World → Prop} {E : Prop} (t e : TypeId) (z : Value) (sz : Nat) (hu : Try.prog.underlying t = some (.slice e)) (hinfo : (Try.prog.info? e).map (fun i => (i.zero, i.size, i.bytes)) = some (some z, n, sz)) (hzc : z.cells.size = n) (hn0 : 0 < n) (hsz : sz ≤ 1000) (hQ : QOk n Q)
    (hgd : o.guard = none) (s x : Operand) (ho : o.op = .call { callee := .builtin .append, args := #[s, x], argTypes := #[t, t] }) (base : Nat) (v : Value) (L M : List α) (m : Nat) (hm : L.length + M.length = m) (hs : a.eval s = v) (hown : OwnL e n Q w base v L)
    (R : Nat) (A : Option Addr) (k c : Nat) (hk : M.length = k) (hx : a.eval x = .slice A k c) (hp : Lst n Q w R A M) (hlen : m ≤ 8000000000) (hbase : base ≤ w.heap.size)
    (h : ∀ D d w', OwnL e n Q w' base (.slice D m d) (L ++ M) → w.grownBy w' v.ownBlock → ((Value.slice D m d).ownBlock = v.ownBlock ∨ (Value.slice D m d).ownBlock = some w.heap.size) → K (a.put o.dst (.slice D m d)) w') :
    if Region.wanted o (yielded ops a.tmps) = true then Oper.wp Try.prog o a w K P else E := by
  subst hm hk
  have hw : Region.wanted o (yielded ops a.tmps) = true := by simp [Region.wanted, hgd]
  rw [if_pos hw]
  obtain ⟨D, d, w', hr, h2, h3, h5⟩ := run_append_list (w := w) t o.type e z sz hu hinfo hzc hn0 hsz hQ base v L M hown R A c hp hlen hbase
  unfold Oper.wp execOp
  simp only [ho, resolve, invoke, builtin, Sem.run_bind, Sem.run_pure, Result.andThen_ok, List.map_toArray, List.map_cons, List.map_nil, hs, hx, hr]
  exact h D d w' h2 h3 h5
end Go.Proofs.Ytgplbbmenmbaaaa

/-
  CONTRACTS of package pantileref06, seventh part: Place, Get.
-/
namespace Go.Proofs.Ytgplbbmenmbaaaa
open Go.ChangeShapes Go.WideShapes Go.ChangeAt Go.RowKit
open Tr (T S4 Ent)

theorem entQ_ok (w : World) (B : Nat) : QOk 2 (EntQ w B) where
  ext := by
    rintro f g a h ⟨A, c, h0, h1, r⟩
    exact ⟨A, c, by rw [← h 0 (by omega)]; exact h0, by rw [← h 1 (by omega)]; exact h1, r⟩
  has := by
    rintro f a ⟨A, c, h0, h1, r⟩ j hj
    match j, hj with
    | 0, _ => exact ⟨_, h0, rfl⟩
    | 1, _ => exact ⟨_, h1, rfl⟩
/-- A LIST OF ENTRIES IN MEMORY: its points below B, its row below R -/
def EntL (w : World) (B R : Nat) (A : Option Addr) (L : List Ent) : Prop := Lst 2 (EntQ w B) w R A L
theorem EntL.ents {w : World} {B R : Nat} {A : Option Addr} {L : List Ent} (h : EntL w B R A L) {C : Nat} (hB : B ≤ C) (hR : R ≤ C) : Ents w C A L := by
  intro hn
  obtain ⟨b, off, hA, hb, hq⟩ := h hn
  refine ⟨b, off, hA, by omega, fun i e he => ?_⟩
  obtain ⟨A', c', h0, h1, hp, r⟩ := hq i e he
  exact ⟨A', c', h0, h1, hp.keep hB (fun _ _ => rfl), r⟩
theorem Ents.entL {w : World} {B : Nat} {A : Option Addr} {L : List Ent} (h : Ents w B A L) : EntL w B B A L := h
theorem EntL.keep {w w' : World} {B R R' : Nat} {A : Option Addr} {L : List Ent} (h : EntL w B R A L) (hR : R ≤ R') (hw : ∀ p : Addr, p.block < B ∨ p.block < R → w'.cell? p = w.cell? p) : EntL w' B R' A L := by
  intro hn
  obtain ⟨b, off, hA, hb, hq⟩ := h hn
  refine ⟨b, off, hA, by omega, fun i e he => ?_⟩
  obtain ⟨A', c', h0, h1, hp, hl, hv⟩ := hq i e he
  exact ⟨A', c', (hw _ (.inr hb)).trans h0, (hw _ (.inr hb)).trans h1, hp.keep (Nat.le_refl _) (fun p hp => hw p (.inl hp)), hl, hv⟩
theorem EntL.below {w w' : World} {B R R' C : Nat} {A : Option Addr} {L : List Ent} (h : EntL w B R A L) (hb : Below C w w') (hB : B ≤ C) (hC : R ≤ C) (hR : R ≤ R') : EntL w' B R' A L :=
  h.keep hR fun _ hp => hb.cell (by rcases hp with hp | hp <;> omega)
theorem EntL.nil (w : World) (B R : Nat) (A : Option Addr) : EntL w B R A [] := fun h => absurd rfl h
theorem EntL.at {w : World} {B R : Nat} {A : Option Addr} {L : List Ent} (h : EntL w B R A L) {i : Nat} {e : Ent} (he : L[i]? = some e) :
    ∃ b off A' c', A = some ⟨b, off, none⟩ ∧ b < R ∧ w.cell? ⟨b, off + i * 2, none⟩ = some (.slice A' e.1.length c') ∧ w.cell? ⟨b, off + i * 2 + 1, none⟩ = some (.int .u64 (e.2 : Int)) ∧ Pts w B A' e.1 ∧ e.1.length ≤ maxLen ∧ e.2 < 18446744073709551616 := by
  obtain ⟨b, off, hA, hb, hq⟩ := h (by rintro rfl; simp at he)
  obtain ⟨A', c', h0, h1, hp, hl, hv⟩ := hq i e he
  exact ⟨b, off, A', c', hA, hb, h0, h1, hp, hl, hv⟩
/-- a row of entries that the call made -/
def OwnE (w : World) (B base : Nat) (v : Value) (L : List Ent) : Prop := OwnL 36 2 (EntQ w B) w base v L
theorem OwnE.entL {w : World} {B base : Nat} {v : Value} {L : List Ent} (h : OwnE w B base v L) : ∃ A c, v = .slice A L.length c ∧ L.length ≤ c ∧ EntL w B w.heap.size A L := OwnL.rd (entQ_ok w B) h
theorem entQ_mono {w w' : World} {B : Nat} (hw : ∀ p : Addr, p.block < B → w'.cell? p = w.cell? p) : ∀ f a, EntQ w B f a → EntQ w' B f a := by
  rintro f a ⟨A, c, h0, h1, hp, r⟩
  exact ⟨A, c, h0, h1, hp.keep (Nat.le_refl _) hw, r⟩
theorem OwnE.below {w w' : World} {B base C : Nat} {v : Value} {L : List Ent} (h : OwnE w B base v L) (hb : Below C w w') (hC : w.heap.size ≤ C) (hB : B ≤ C) : OwnE w' B base v L :=
  (OwnL.below h hb hC).imp (entQ_mono fun _ hp => hb.cell (Nat.lt_of_lt_of_le hp hB))

/-! ### Place -/
theorem place_at {L : List Ent} {k : Nat} (hd : Tr.Dim k L) {p : List Nat} (hp : p.length = k) (ho : Z.Ok p) {i : Nat} (hi : i ≤ L.length) (h1 : ∀ j e, j < i → L[j]? = some e → Z.cmp e.1 p < 0) (h2 : ∀ e, L[i]? = some e → 0 ≤ Z.cmp e.1 p) : Tr.placeE L p = i := by
  refine Sl.idx_uniq (Tr.K L) (Tr.key p : Int) i (by rw [Tr.K_length]; exact hi) (fun j x hj hx => ?_) (fun x hx => ?_)
  · obtain ⟨hx1, hx2⟩ := Tr.K_at hx
    have hm := hd _ (List.mem_of_getElem? hx1)
    have := (Tr.key_lt (by rw [hm.1, hp]) hm.2.1 ho).2 (h1 j x.2 hj hx1)
    omega
  · obtain ⟨hx1, hx2⟩ := Tr.K_at hx
    have hm := hd _ (List.mem_of_getElem? hx1)
    have h3 := h2 x.2 hx1
    have := mt (Tr.key_lt (by rw [hm.1, hp]) hm.2.1 ho).1 (by omega)
    omega
theorem get_place {L : List Ent} {k : Nat} (hz : Tr.ZS L) (hd : Tr.Dim k L) {p : List Nat} (hp : p.length = k) (ho : Z.Ok p) {e : Ent} (he : L[Tr.placeE L p]? = some e) : Tr.getE L p = if e.1 = p then some e.2 else none := by
  have hm := hd _ (List.mem_of_getElem? he)
  unfold Tr.getE
  rw [Sl.get_idx hz.srt (Tr.K_get he)]
  have h1 := Tr.key_inj (p := e.1) (q := p) (by rw [hm.1, hp]) hm.2.1 ho
  by_cases c : e.1 = p
  · rw [if_pos c, if_pos (by rw [c])]; rfl
  · rw [if_neg c, if_neg (by show ¬ ((Tr.key e.1 : Int) = _); intro e2; exact c (h1.1 (by omega)))]; rfl
theorem get_past {L : List Ent} (hz : Tr.ZS L) {p : List Nat} (h : L.length ≤ Tr.placeE L p) : Tr.getE L p = none := by
  unfold Tr.getE
  rw [Sl.get_end hz.srt (by rw [Tr.K_length]; exact h)]
  rfl
theorem place_le (L : List Ent) (p : List Nat) : Tr.placeE L p ≤ L.length := by
  have := Sl.idx_le (Tr.K L) (Tr.key p : Int)
  rw [Tr.K_length] at this
  exact this
set_option maxRecDepth 100000 in
theorem rplace6_c {w : World} {B B' R k : Nat} {A A' : Option Addr} {c c' : Nat} {L : List Ent} {p : List Nat} (hz : Tr.ZS L) (hd : Tr.Dim k L) (h : EntL w B R A L) (hp : Pts w B' A' p) (hpl : p.length = k) (h1 : 1 ≤ k) (h16 : k ≤ 16) (hl : L.length ≤ 1000000) :
    Calls Try.prog 51 #[.slice A L.length c, .slice A' p.length c'] w fun e w' => e = .returned (.tuple #[.int .i64 (Tr.placeE L p : Int), .bool (Tr.getE L p).isSome]) ∧ w = w' := by
  have HX := Lib.hid (And.intro hz (And.intro hd (And.intro h (And.intro hp (And.intro hpl (And.intro h1 h16))))))
  clear hz hd h hp hpl h1 h16
  go_enter Try.func51, Try.ntmps51
  go_wp2
  go_loopw [6] (fun i wr => ∃ j : Nat, j ≤ L.length ∧ i = .int .i64 j ∧ wr = w ∧ ∀ m e, m < j → L[m]? = some e → Z.cmp e.1 p < 0) (fun i _ => L.length - (intOf i).toNat)
  case atStart => exact ⟨0, Nat.zero_le _, (by first | rfl | trivial), (by first | rfl | trivial), fun m e hm => by omega⟩
  case round =>
    obtain ⟨j, hj, rfl, rfl, hbe⟩ := hrel
    obtain ⟨hz, hd, h, hp, hpl, h1, h16⟩ := HX.out
    by_cases hlt : j < L.length
    · obtain ⟨e, he⟩ := get_lt hlt
      obtain ⟨b, off, A1, c1, hA, -, x0, -, p1, -, -⟩ := h.at he
      subst hA
      have hm := hd _ (List.mem_of_getElem? he)
      have HC := Lib.hid (rcmp_c A1 A' c1 c' e.1 p (max B B') wr (p1.keep (Nat.le_max_left _ _) (fun _ _ => rfl)) (hp.keep (Nat.le_max_right _ _) (fun _ _ => rfl)) (by rw [hm.1]; exact h1) (by rw [hm.1]; exact h16) (by rw [hm.1, hpl]))
      have m1 : (0 : Int) ≤ (j : Int) := by omega
      have m2 : (j : Int) < (L.length : Int) := by omega
      have HY := Lib.hid (And.intro he (And.intro hbe hm))
      by_cases hc : Z.cmp e.1 p < 0
      · have d1 : decide (0 ≤ Z.cmp e.1 p) = false := decide_eq_false (by omega)
        have HD := Lib.hid hc
        clear hz hd h hp hpl h1 h16 he hbe hm p1 hc
        go_wp2_with (go_at_call 65; refine HC.out.mono ?_; rintro e w2 ⟨rfl, rfl⟩)
        go_roundw
        case rel =>
          refine ⟨j + 1, by omega, by go_num, (by first | rfl | trivial), fun m e' hm he' => ?_⟩
          by_cases c : m < j
          · exact HY.out.2.1 m e' c he'
          · have : m = j := by omega
            subst this
            rw [HY.out.1] at he'
            cases he'
            exact HD.out
        case measure => simp [intOf]; omega
      · have d1 : decide (0 ≤ Z.cmp e.1 p) = true := decide_eq_true (by omega)
        have hpa : Tr.placeE L p = j := place_at hd hpl hp.1 hj hbe (fun e' he' => by rw [he] at he'; cases he'; omega)
        have hge := get_place hz hd hpl hp.1 (by rw [hpa]; exact he)
        have hgs : (Tr.getE L p).isSome = (Z.cmp e.1 p == 0) := by
          rw [hge]
          have h0 := Z.cmp_zero (us := e.1) (vs := p) (by rw [hm.1, hpl]) hm.2.1 hp.1
          by_cases c : e.1 = p
          · rw [if_pos c, h0.2 c]; rfl
          · rw [if_neg c]
            have : Z.cmp e.1 p ≠ 0 := fun x => c (h0.1 x)
            simp [this]
        have HG := Lib.hid (And.intro hpa hgs)
        clear hz hd h hp hpl h1 h16 he hbe hm p1 hc hpa hge hgs
        go_wp2_with (go_at_call 65; refine HC.out.mono ?_; rintro e w2 ⟨rfl, rfl⟩)
        go_ret2
        exact ⟨by rw [HG.out.1, HG.out.2]; rfl, rfl⟩
    · have hjl : j = L.length := by omega
      have hpa : Tr.placeE L p = j := place_at hd hpl hp.1 hj hbe (fun e' he' => by have := lt_get he'; omega)
      have hge := get_past hz (p := p) (by omega)
      have HG := Lib.hid (And.intro hpa (And.intro hge hjl))
      clear hz hd h hp hpl h1 h16 hbe hpa hge hjl
      go_wp2_with fail
      go_ret2
      exact ⟨by rw [HG.out.1, HG.out.2.1, HG.out.2.2]; rfl, rfl⟩
end Go.Proofs.Ytgplbbmenmbaaaa

/-
  CONTRACTS of package pantileref06, eighth part: Del, Put.
-/
namespace Go.Proofs.Ytgplbbmenmbaaaa
open Go.ChangeShapes Go.WideShapes Go.ChangeAt Go.RowKit
open Tr (T S4 Ent)

theorem infoE2 : (Try.prog.info? 36).map (fun i => (i.zero, i.size, i.bytes)) = some (some (.agg #[.slice none 0 0, .int .u64 0]), 2, 32) := by kernel_rfl
/-- a list without its first i elements, as the language cuts it -/
theorem lst_lo {α : Type} {n : Nat} {Q : (Nat → Option Value) → α → Prop} (t e : TypeId) {z : Value} {by' : Nat} (ht : Try.prog.underlying t = some (.slice e)) (hi : (Try.prog.info? e).map (fun i => (i.zero, i.size, i.bytes)) = some (some z, n, by')) (A : Option Addr) (m c i : Nat) (hin : i ≤ m) (hnc : m ≤ c) :
    ∃ A', (∀ w, (Instr.sliceAt t (.slice A m c) (some (.int .i64 (i : Int))) none none).run Try.prog w = .ok (.slice A' (m - i) (c - i)) w) ∧ ∀ w R (L : List α), L.length = m → Lst n Q w R A L → Lst n Q w R A' (L.drop i) := by
  obtain ⟨i0, hi0, hz0, hz1, hz2⟩ := info_parts hi
  have hel : Try.prog.elem t = e := by simp [Program.elem, ht]
  refine ⟨if c = i then A else A.map (·.add (i * n)), fun w => ?_, fun w R L hx h hne => ?_⟩
  · have hs : Try.prog.underlying t = some (.slice (Try.prog.elem t)) := by rw [hel]; exact ht
    rw [run_sliceAt_slice w t _ _ _ _ hs, run_slice_l w t A m c hs .i64 (i : Int) (by omega) (by omega), hel]
    simp [sizeOf, typeInfo, hi0, hz1, sliced, Result.andThen]
  · have hlt : i < L.length := by
      rcases Nat.lt_or_ge i L.length with d | d
      · exact d
      · exact absurd (List.drop_of_length_le d) hne
    obtain ⟨b, off, rfl, hb, hc⟩ := h (by rintro rfl; simp at hlt)
    rw [if_neg (by omega)]
    refine ⟨b, off + i * n, by simp [Go.WideShapes.add_plain], hb, fun j v hj => ?_⟩
    rw [List.getElem?_drop] at hj
    have := hc (i + j) v hj
    rw [Nat.add_mul, ← Nat.add_assoc] at this
    exact this
theorem lst_hi {α : Type} {n : Nat} {Q : (Nat → Option Value) → α → Prop} (t e : TypeId) {z : Value} {by' : Nat} (ht : Try.prog.underlying t = some (.slice e)) (hi : (Try.prog.info? e).map (fun i => (i.zero, i.size, i.bytes)) = some (some z, n, by')) (A : Option Addr) (m c i : Nat) (hin : i ≤ m) (hnc : m ≤ c) :
    ∃ A', (∀ w, (Instr.sliceAt t (.slice A m c) none (some (.int .i64 (i : Int))) none).run Try.prog w = .ok (.slice A' i c) w) ∧ ∀ w R (L : List α), L.length = m → Lst n Q w R A L → Lst n Q w R A' (L.take i) := by
  obtain ⟨i0, hi0, hz0, hz1, hz2⟩ := info_parts hi
  have hel : Try.prog.elem t = e := by simp [Program.elem, ht]
  refine ⟨if c = 0 then A else A.map (·.add (0 * n)), fun w => ?_, fun w R L hx h hne => ?_⟩
  · have hs : Try.prog.underlying t = some (.slice (Try.prog.elem t)) := by rw [hel]; exact ht
    rw [run_sliceAt_slice w t _ _ _ _ hs, run_slice_h w t A m c hs .i64 (i : Int) (by omega) (by omega), hel]
    simp [sizeOf, typeInfo, hi0, hz1, sliced, Result.andThen]
  · have hlt : 0 < L.length := by
      rcases Nat.eq_zero_or_pos L.length with d | d
      · rw [List.eq_nil_of_length_eq_zero d] at hne; simp at hne
      · exact d
    obtain ⟨b, off, rfl, hb, hc⟩ := h (by rintro rfl; simp at hlt)
    rw [if_neg (by omega)]
    refine ⟨b, off, by simp [Go.WideShapes.add_plain], hb, fun j v hj => ?_⟩
    rw [List.getElem?_take] at hj
    split at hj
    · exact hc j v hj
    · cases hj
theorem K_map (L : List Ent) : (Tr.K L).map (·.2) = L := by
  unfold Tr.K
  rw [List.map_map]
  conv => rhs; rw [← List.map_id L]
  rfl
theorem delE_some {L : List Ent} (hz : Tr.ZS L) {p : List Nat} {v : Nat} (hg : Tr.getE L p = some v) : Tr.delE p L = L.take (Tr.placeE L p) ++ L.drop (Tr.placeE L p + 1) ∧ Tr.placeE L p < L.length := by
  have hg0 := hg
  unfold Tr.getE at hg
  obtain ⟨e, he, -⟩ := Option.map_eq_some_iff.1 hg
  unfold Tr.delE Tr.placeE
  rw [Sl.del_some hz.srt he, List.map_append, List.map_take, List.map_drop, K_map]
  refine ⟨rfl, ?_⟩
  have := place_le L p
  rcases Nat.lt_or_ge (Tr.placeE L p) L.length with c | c
  · exact c
  · rw [get_past hz c] at hg0; cases hg0
theorem delE_none {L : List Ent} {p : List Nat} (hg : Tr.getE L p = none) : Tr.delE p L = L := by
  unfold Tr.getE at hg
  unfold Tr.delE
  rw [Sl.del_none (Option.map_eq_none_iff.1 hg), K_map]
theorem putE_eq {L : List Ent} (hz : Tr.ZS L) (p : List Nat) (v : Nat) : Tr.putE p v L = (Tr.delE p L).take (Tr.placeE (Tr.delE p L) p) ++ (p, v) :: (Tr.delE p L).drop (Tr.placeE (Tr.delE p L) p) := by
  have h1 : Tr.placeE (Tr.delE p L) p = Sl.idx (Tr.K L) (Tr.key p : Int) := by
    unfold Tr.placeE
    rw [Tr.K_del, Sl.idx_del hz.srt]
  rw [h1]
  unfold Tr.putE
  rw [Sl.put_del hz.srt, List.map_append, List.map_cons, List.map_take, List.map_drop]
  rfl
theorem EntL.lst {w W : World} {B R C : Nat} {A : Option Addr} {L : List Ent} (h : EntL w B R A L) (hb : Below C w W) (hC : R ≤ C) : Lst 2 (EntQ w B) W R A L := by
  intro hn
  obtain ⟨b, off, hA, hbR, hq⟩ := h hn
  refine ⟨b, off, hA, hbR, fun i e he => (entQ_ok w B).ext _ _ _ (fun j _ => ?_) (hq i e he)⟩
  exact (hb.cell (p := ⟨b, off + i * 2 + j, none⟩) (Nat.lt_of_lt_of_le hbR hC)).symm
theorem ownE_at {w w2 : World} {B base C m d : Nat} {D : Option Addr} {L : List Ent} (h : OwnL 36 2 (EntQ w B) w2 base (.slice D m d) L) (hb : Below C w w2) (hC : B ≤ C) : m = L.length ∧ L.length ≤ d ∧ EntL w2 B w2.heap.size D L := by
  obtain ⟨A, c, hv, hc, hl⟩ := OwnE.entL (OwnL.imp h (entQ_mono (w' := w2) fun _ hp => hb.cell (Nat.lt_of_lt_of_le hp hC)))
  simp only [Value.slice.injEq] at hv
  obtain ⟨rfl, rfl, rfl⟩ := hv
  exact ⟨rfl, hc, hl⟩
set_option maxRecDepth 100000 in
set_option maxHeartbeats 1000000 in
theorem rdel6_c {w : World} {B B' R k : Nat} {A A' : Option Addr} {c c' : Nat} {L : List Ent} {p : List Nat} (hz : Tr.ZS L) (hd : Tr.Dim k L) (h : EntL w B R A L) (hp : Pts w B' A' p) (hpl : p.length = k) (h1 : 1 ≤ k) (h16 : k ≤ 16) (hl : L.length ≤ 1000000) (hR : R ≤ w.heap.size) (hB : B ≤ w.heap.size) (hc : L.length ≤ c) :
    Calls Try.prog 50 #[.slice A L.length c, .slice A' p.length c'] w fun e w' => ∃ D d, e = .returned (.slice D (Tr.delE p L).length d) ∧ EntL w' B w'.heap.size D (Tr.delE p L) ∧ (Tr.delE p L).length ≤ d ∧ Below w.heap.size w w' := by
  have HP := rplace6_c (c := c) (c' := c') hz hd h hp hpl h1 h16 hl
  rcases hg : Tr.getE L p with _ | v
  · rw [hg] at HP
    have hE := delE_none hg
    rw [hE]
    have HP := Lib.hid HP
    have HX := Lib.hid (And.intro h (And.intro hR (And.intro hc hB)))
    clear hz hd h hp hpl h1 h16 hg hE hc
    go_enter Try.func50, Try.ntmps50
    go_wp2_with (go_at_call 51; refine HP.out.mono ?_; rintro e w2 ⟨rfl, rfl⟩)
    go_ret
    exact ⟨A, c, rfl, HX.out.1.keep HX.out.2.1 (fun _ _ => rfl), HX.out.2.2.1, Below.refl _ _⟩
  · rw [hg] at HP
    obtain ⟨hE, hlt⟩ := delE_some hz hg
    obtain ⟨I, hI⟩ : ∃ I, Tr.placeE L p = I := ⟨_, rfl⟩
    rw [hI] at hE hlt HP
    obtain ⟨Ah, hcuth, hlh⟩ := lst_hi (Q := EntQ w B) 22 36 Try.underlying22 infoE2 A L.length c I (by omega) hc
    obtain ⟨J, hJ⟩ : ∃ J, I + 1 = J := ⟨_, rfl⟩
    have hwJ : IntKind.i64.wrap ((I : Int) + 1) = (J : Int) := by rw [IntKind.wrap_i64]; omega
    rw [hJ] at hE
    obtain ⟨Al, hcutl, hll⟩ := lst_lo (Q := EntQ w B) 22 36 Try.underlying22 infoE2 A L.length c J (by omega) hc
    have hlist : ∀ W, Below w.heap.size w W → Lst 2 (EntQ w B) W R Ah (L.take I) ∧ Lst 2 (EntQ w B) W R Al (L.drop J) := fun W hb => ⟨hlh W R L rfl (h.lst hb hR), hll W R L rfl (h.lst hb hR)⟩
    have HP := Lib.hid HP
    have HX := Lib.hid (And.intro hlist (And.intro hE (And.intro hB (And.intro hlt (And.intro hl hJ)))))
    have m1 : (0 : Int) ≤ (I : Int) := by omega
    have m2 : (I : Int) + 1 ≤ 1000000 := by omega
    clear hz hd h hp hpl h1 h16 hg hE hc hI hlist hlh hll hJ
    go_enter Try.func50, Try.ntmps50
    go_wp2_with (go_at_call 51; refine HP.out.mono ?_; rintro e w2 ⟨rfl, rfl⟩)
    go_upto_region 4 with fail
    have hal := below_alloc w (.cells #[] 36)
    have hlen1 : (L.take I).length = I := by simp; omega
    have hlen2 : (L.drop J).length = L.length - J := by simp
    have hle : I + (L.length - J) ≤ 1000000 := by have := HX.out.2.2.2.2; omega
    have HLL := Lib.hid (And.intro hlen1 (And.intro hlen2 hle))
    clear hlen1 hlen2 hle
    go_region_law ((first
      | (refine step_append_list (Q := EntQ w B) 22 36 (.agg #[.slice none 0 0, .int .u64 0]) 32 Try.underlying22 infoE2 (by rfl) (by omega) (by omega) (entQ_ok w B) (by rfl) _ _ (by rfl) w.heap.size (.slice (some ⟨w.heap.size, 0, none⟩) 0 0) [] (L.take I) I (by rw [HLL.out.1]; simp) (by rfl) (by exact ownL_nil _ w) R Ah I c HLL.out.1 (by rfl) (by exact (HX.out.1 _ hal).1) (by omega) (by first | (simp; done) | (simp; omega)) ?_; intro D1 d1 w1 hown1 hgrow1 hat1; have hg1 := (by first | exact Below.grown hal hgrow1 (by simp) (fun q hq => by simp [Value.ownBlock] at hq; omega) | exact Below.grown hal.drew hgrow1 (by simp) (fun q hq => by simp [Value.ownBlock] at hq; omega) : Below w.heap.size w w1); clear hgrow1 hat1; rw [List.nil_append] at hown1)
      | (refine step_append_list (Q := EntQ w B) 22 36 (.agg #[.slice none 0 0, .int .u64 0]) 32 Try.underlying22 infoE2 (by rfl) (by omega) (by omega) (entQ_ok w B) (by rfl) _ _ (by rfl) w.heap.size (.slice D1 I d1) (L.take I) (L.drop J) (I + (L.length - J)) (by rw [HLL.out.1, HLL.out.2.1]) (by rfl) hown1 R Al (L.length - J) (c - J) HLL.out.2.1 (by rfl) (by exact (HX.out.1 _ hg1).2) (by have := HLL.out.2.2; omega) hg1.size ?_; intro D2 d2 w2 hown2 hgrow2 hat2; have hg2 := Below.grown hg1 hgrow2 hg1.size (fun q hq => (hown1.lt q hq).1); clear hgrow2 hat2)))
    all_goals go_wp2_with fail
    all_goals (
      go_ret
      obtain ⟨e1, e2, e3⟩ := ownE_at hown2 hg2 HX.out.2.2.1
      rw [← HX.out.2.1] at e1 e2 e3
      exact ⟨D2, d2, by rw [← e1]; rfl, e3, e2, hg2⟩)
theorem lst_one {w W : World} {B : Nat} {A' : Option Addr} {c' : Nat} {p : List Nat} {v : Nat} (hp : Pts w B A' p) (hm : p.length ≤ maxLen) (hv : v < 18446744073709551616) :
    Lst 2 (EntQ w B) (W.alloc (.cells #[.slice A' p.length c', .int .u64 (v : Int)] 36)) (W.heap.size + 1) (some ⟨W.heap.size, 0, none⟩) [(p, v)] := by
  intro _
  obtain ⟨c0, c1, -, -⟩ := cells2 W (.slice A' p.length c') (.int .u64 (v : Int)) 36
  refine ⟨W.heap.size, 0, rfl, by omega, fun i e he => ?_⟩
  match i with
  | 0 =>
    simp at he
    subst he
    exact ⟨A', c', c0, c1, hp, hm, hv⟩
  | i + 1 => simp at he
set_option maxRecDepth 100000 in
set_option maxHeartbeats 2000000 in
theorem rput6_c {w : World} {B R k : Nat} {A A' : Option Addr} {c c' : Nat} {L : List Ent} {p : List Nat} (hz : Tr.ZS L) (hd : Tr.Dim k L) (h : EntL w B R A L) (hp : Pts w B A' p) (hpl : p.length = k) (h1 : 1 ≤ k) (h16 : k ≤ 16) (hl : L.length ≤ 1000000) (hR : R ≤ w.heap.size) (hB : B ≤ w.heap.size) (hc : L.length ≤ c) (v : Nat) (hv : v < 18446744073709551616) :
    Calls Try.prog 26 #[.slice A L.length c, .slice A' p.length c', .int .u64 (v : Int)] w fun e w' => ∃ D d, e = .returned (.slice D (Tr.putE p v L).length d) ∧ EntL w' B w'.heap.size D (Tr.putE p v L) ∧ (Tr.putE p v L).length ≤ d ∧ Below w.heap.size w w' := by
  have HD := Lib.hid (rdel6_c (c := c) (c' := c') hz hd h hp hpl h1 h16 hl hR hB hc)
  have hE := putE_eq hz p v
  have hzM := hz.del p
  have hdM := Tr.Dim.del hz hd p
  have hlM := Tr.length_delE p L
  have hpm : p.length ≤ maxLen := by unfold maxLen; omega
  generalize Tr.delE p L = M at *
  obtain ⟨I, hI⟩ : ∃ I, Tr.placeE M p = I := ⟨_, rfl⟩
  have hIM := place_le M p
  rw [hI] at hE hIM
  have HX := Lib.hid (And.intro hE (And.intro hzM (And.intro hdM (And.intro hlM (And.intro hp (And.intro hpl (And.intro h1 (And.intro h16 (And.intro hl (And.intro hB (And.intro hI (And.intro hIM (And.intro hpm hv)))))))))))))
  have hIb : I ≤ 1000000 := by omega
  clear hz hd h hp hpl h1 h16 hl hR hB hc hE hzM hdM hlM hI hIM hpm hv
  go_enter Try.func26, Try.ntmps26
  go_wp2_with (go_at_call 50; refine HD.out.mono ?_; rintro e w1 ⟨D, d, rfl, hlD, hcD, hb1⟩)
  obtain ⟨hE, hzM, hdM, hlM, hp, hpl, h1, h16, hl, hB, hI, hIM, hpm, hv⟩ := HX.out
  have HP := rplace6_c (c := d) (c' := c') hzM hdM hlD (hp.below' hb1 hB) hpl h1 h16 (by omega)
  rw [hI] at HP
  obtain ⟨Ah, hcuth, hlh⟩ := lst_hi (Q := EntQ w1 B) 22 36 Try.underlying22 infoE2 D M.length d I (by omega) hcD
  obtain ⟨Al, hcutl, hll⟩ := lst_lo (Q := EntQ w1 B) 22 36 Try.underlying22 infoE2 D M.length d I (by omega) hcD
  have hB1 : B ≤ w1.heap.size := Nat.le_trans hB hb1.size
  have hlist : ∀ W, Below w1.heap.size w1 W → Lst 2 (EntQ w1 B) W w1.heap.size Ah (M.take I) ∧ Lst 2 (EntQ w1 B) W w1.heap.size Al (M.drop I) := fun W hb => ⟨hlh W _ M rfl (hlD.lst hb (Nat.le_refl _)), hll W _ M rfl (hlD.lst hb (Nat.le_refl _))⟩
  have hp1 := hp.below' hb1 hB
  have HY := Lib.hid (And.intro hlist (And.intro hp1 (And.intro hb1 hB1)))
  have hlen1 : (M.take I).length = I := by simp; omega
  have hlen2 : (M.drop I).length = M.length - I := by simp
  have hle : I + 1 + (M.length - I) ≤ 1000002 := by omega
  have HLL := Lib.hid (And.intro hlen1 (And.intro hlen2 (And.intro hle hIM)))
  have hal := below_alloc w1 (.cells #[] 36)
  have m1 : (0 : Int) ≤ (I : Int) := by omega
  refine HP.mono ?_
  clear HP hE hzM hdM hlM hp hpl h1 h16 hl hB hI hIM hpm hv hlh hll hlist hp1 hlen1 hlen2 hle hlD hcD hb1 hB1
  rintro e w' ⟨rfl, rfl⟩
  go_wp2_with (first
    | (at_builtin; refine wpList_append_list (Q := EntQ w1 B) 22 36 (.agg #[.slice none 0 0, .int .u64 0]) 32 Try.underlying22 infoE2 (by rfl) (by omega) (by omega) (entQ_ok w1 B) (by rfl) _ _ (by rfl) w1.heap.size (.slice (some ⟨w1.heap.size, 0, none⟩) 0 0) [] (M.take I) I (by rw [HLL.out.1]; simp) (by rfl) (by exact ownL_nil _ w1) w1.heap.size Ah I d HLL.out.1 (by rfl) (by exact (HY.out.1 _ hal).1) (by omega) (by first | (simp; done) | (simp; omega)) ?_; intro D1 d1 w2 hown1 hgrow1 hat1; have hg1 := Below.grown hal hgrow1 (by simp) (fun q hq => by simp [Value.ownBlock] at hq; omega); have hal2 := hg1.trans ((below_alloc w2 (.cells #[.slice A' p.length c', .int .u64 (v : Int)] 36)).mono hg1.size); clear hgrow1 hat1; rw [List.nil_append] at hown1)
    | (at_builtin; refine wpList_append_list (Q := EntQ w1 B) 22 36 (.agg #[.slice none 0 0, .int .u64 0]) 32 Try.underlying22 infoE2 (by rfl) (by omega) (by omega) (entQ_ok w1 B) (by rfl) _ _ (by rfl) w1.heap.size (.slice D1 I d1) (M.take I) [(p, v)] (I + 1) (by rw [HLL.out.1]; rfl) (by rfl) (by exact hown1.below (below_alloc w2 _) (Nat.le_refl _)) (w2.heap.size + 1) (some ⟨w2.heap.size, 0, none⟩) 1 1 (by rfl) (by rfl) (by exact lst_one HY.out.2.1 HX.out.2.2.2.2.2.2.2.2.2.2.2.2.1 HX.out.2.2.2.2.2.2.2.2.2.2.2.2.2) (by omega) (by have := hg1.size; simp; omega) ?_; intro D2 d2 w3 hown2 hgrow2 hat2; have hg2 := Below.grown hal2 hgrow2 (by have := hg1.size; simp; omega) (fun q hq => (hown1.lt q hq).1); clear hgrow2 hat2)
    | (at_builtin; refine wpList_append_list (Q := EntQ w1 B) 22 36 (.agg #[.slice none 0 0, .int .u64 0]) 32 Try.underlying22 infoE2 (by rfl) (by omega) (by omega) (entQ_ok w1 B) (by rfl) _ _ (by rfl) w1.heap.size (.slice D2 (I + 1) d2) (M.take I ++ [(p, v)]) (M.drop I) (I + 1 + (M.length - I)) (by rw [List.length_append, HLL.out.1, HLL.out.2.1]; rfl) (by rfl) (by exact hown2) w1.heap.size Al (M.length - I) (d - I) HLL.out.2.1 (by rfl) (by exact (HY.out.1 _ hg2).2) (by have := HLL.out.2.2.1; omega) hg2.size ?_; intro D3 d3 w4 hown3 hgrow3 hat3; have hg3 := Below.grown hg2 hgrow3 hg2.size (fun q hq => (hown2.lt q hq).1); clear hgrow3 hat3))
  go_ret
  obtain ⟨e1, e2, e3⟩ := ownE_at hown3 hg3 HY.out.2.2.2
  rw [List.append_assoc, List.singleton_append, ← HX.out.1] at e1 e2 e3
  exact ⟨D3, d3, by rw [← e1]; rfl, e3, e2, Below.andThen HY.out.2.2.1 hg3⟩
end Go.Proofs.Ytgplbbmenmbaaaa

/-
  CONTRACTS of package pantileref06, ninth part: All.
-/
namespace Go.Proofs.Ytgplbbmenmbaaaa
open Go.ChangeShapes Go.WideShapes Go.ChangeAt Go.RowKit
open Tr (T S4 Ent)

/-- entries put one after the other, those alone that are points of k coordinates -/
def allE (k : Nat) (L : List Ent) : List Ent := L.foldl (fun a e => if e.1.length = k then Tr.putE e.1 e.2 a else a) []
theorem allE_snoc (k : Nat) (L : List Ent) (e : Ent) : allE k (L ++ [e]) = if e.1.length = k then Tr.putE e.1 e.2 (allE k L) else allE k L := by simp [allE, List.foldl_append]
/-- entries whose points and values are what they must be -/
def Fit (L : List Ent) : Prop := ∀ e ∈ L, Z.Ok e.1 ∧ e.2 < 18446744073709551616
theorem EntL.fit {w : World} {B R : Nat} {A : Option Addr} {L : List Ent} (h : EntL w B R A L) : Fit L := fun e he => by
  obtain ⟨i, hi⟩ := List.mem_iff_getElem?.1 he
  obtain ⟨_, _, _, _, _, _, _, _, hp, _, hv⟩ := h.at hi
  exact ⟨hp.1, hv⟩
theorem allE_ok (k : Nat) : ∀ (n : Nat) (L : List Ent), L.length = n → Fit L → Tr.ZS (allE k L) ∧ Tr.Dim k (allE k L) ∧ (allE k L).length ≤ L.length
  | 0, L, hn, _ => by
    have : L = [] := List.eq_nil_of_length_eq_zero hn
    subst this
    exact ⟨Tr.ZS.nil, fun e he => by simp [allE] at he, Nat.le_refl _⟩
  | n + 1, L, hn, hf => by
    rcases List.eq_nil_or_concat L with rfl | ⟨M, e, rfl⟩
    · simp at hn
    · rw [List.concat_eq_append] at hn hf ⊢
      have ih := allE_ok k n M (by simp at hn; omega) (fun x hx => hf x (by simp [hx]))
      have he := hf e (by simp)
      rw [allE_snoc]
      split
      · rename_i hk
        exact ⟨ih.1.put _ _, Tr.Dim.put ih.1 ih.2.1 hk he.1 he.2, by have := Tr.length_putE ih.1 e.1 e.2; simp; omega⟩
      · exact ⟨ih.1, ih.2.1, by have := ih.2.2; simp; omega⟩
set_option maxRecDepth 100000 in
set_option maxHeartbeats 1000000 in
theorem rall6_c {w : World} {B R k : Nat} {A : Option Addr} {c : Nat} {L : List Ent} (h : EntL w B R A L) (hR : R ≤ w.heap.size) (hB : B ≤ w.heap.size) (h1 : 1 ≤ k) (h16 : k ≤ 16) (hl : L.length ≤ 1000) :
    Calls Try.prog 10 #[.int .i64 (k : Int), .slice A L.length c] w fun e w' => ∃ D d, e = .returned (.slice D (allE k L).length d) ∧ EntL w' B w'.heap.size D (allE k L) ∧ (allE k L).length ≤ d ∧ Below w.heap.size w w' := by
  have HX := Lib.hid (And.intro h (And.intro hR (And.intro hB (And.intro h1 (And.intro h16 hl)))))
  have hf := h.fit
  have HF := Lib.hid hf
  clear h hf h1 h16
  go_enter Try.func10, Try.ntmps10
  go_wp2
  go_loopw [5, 6] (fun v i wr => ∃ (j : Nat) (D : Option Addr) (d m : Nat), j ≤ L.length ∧ m = (allE k (L.take j)).length ∧ v = .slice D m d ∧ i = .int .i64 j ∧ Below w.heap.size w wr ∧ EntL wr B wr.heap.size D (allE k (L.take j)) ∧ (allE k (L.take j)).length ≤ d) (fun _ i _ => L.length - (intOf i).toNat)
  case atStart => exact ⟨0, some ⟨w.heap.size, 0, none⟩, 0, 0, Nat.zero_le _, rfl, rfl, rfl, below_alloc _ _, EntL.nil _ _ _ _, Nat.le_refl _⟩
  case round =>
    obtain ⟨j, D, d, m, hj, hm, rfl, rfl, hbw, hent, hcap⟩ := hrel
    by_cases hlt : j < L.length
    · obtain ⟨e, he⟩ := get_lt hlt
      obtain ⟨b, off, A1, c1, hA, hb, x0, x1, p1, hml, hv⟩ := HX.out.1.at he
      subst hA
      have hbB : b < w.heap.size := Nat.lt_of_lt_of_le hb HX.out.2.1
      have y0 : ∀ w', Below wr.heap.size wr w' → w'.cell? ⟨b, off + j * 2, none⟩ = some (.slice A1 e.1.length c1) := fun w' hb' => ((hbw.trans (hb'.mono hbw.size)).cell (p := ⟨b, off + j * 2, none⟩) hbB).trans x0
      have y1 : ∀ w', Below wr.heap.size wr w' → w'.cell? ⟨b, off + j * 2 + 1, none⟩ = some (.int .u64 (e.2 : Int)) := fun w' hb' => ((hbw.trans (hb'.mono hbw.size)).cell (p := ⟨b, off + j * 2 + 1, none⟩) hbB).trans x1
      have y2 := y0 wr (Below.refl _ _)
      have m1 : (0 : Int) ≤ (j : Int) := by omega
      have m2 : (j : Int) < (L.length : Int) := by omega
      have hb0 : Below wr.heap.size wr wr := Below.refl _ _
      have htake : L.take (j + 1) = L.take j ++ [e] := by rw [List.take_add_one, he]; rfl
      have hsn := allE_snoc k (L.take j) e
      rw [← htake] at hsn
      have hzd := allE_ok k _ (L.take j) rfl (fun x hx => HF.out x (List.mem_of_mem_take hx))
      have hjm : (allE k (L.take j)).length ≤ j := by have := hzd.2.2; simp at this; omega
      have HH := Lib.hid (And.intro hsn (And.intro hm (And.intro hbw (And.intro hent (And.intro hcap hjm)))))
      by_cases hk : e.1.length = k
      · have d1 : ((e.1.length : Int) == (k : Int)) = true := by simp; omega
        have HP : Hid (∀ w1, Below wr.heap.size wr w1 → Calls Try.prog 26 #[.slice D m d, .slice A1 e.1.length c1, .int .u64 (e.2 : Int)] w1 fun e' w' => ∃ D' d', e' = .returned (.slice D' (allE k (L.take (j + 1))).length d') ∧ EntL w' B w'.heap.size D' (allE k (L.take (j + 1))) ∧ (allE k (L.take (j + 1))).length ≤ d' ∧ Below w1.heap.size w1 w') := Lib.hid fun w1 hb1 => by
          rw [hsn, if_pos hk, hm]
          exact rput6_c hzd.1 hzd.2.1 (hent.below hb1 (Nat.le_trans HX.out.2.2.1 hbw.size) (Nat.le_refl _) (Nat.le_refl _)) (p1.below' (hbw.trans (hb1.mono hbw.size)) HX.out.2.2.1) hk HX.out.2.2.2.1 HX.out.2.2.2.2.1 (by have := HX.out.2.2.2.2.2; omega) hb1.size (Nat.le_trans HX.out.2.2.1 (Nat.le_trans hbw.size hb1.size)) hcap e.2 hv
        clear he x0 x1 p1 hml hv hent hcap hbw htake hsn hzd hjm hm hk
        go_wp2_with fail
        go_region_held3 (fun w' => Below wr.heap.size wr w') (((repeat (first | refine Below.drew ?_ | (with_reducible refine below_drewN _ ?_) | refine Below.alloc ?_ (by first | omega | (simp; done) | (simp; omega)) _ | refine Below.setCell ?_ (by first | omega | (simp; done) | (simp; omega)) _)); first | exact Below.refl _ _ | assumption | exact below_drewN _ (Below.refl _ _) | exact below_drewN _ (below_drewN _ (Below.refl _ _))))
          ((go_at_call 26; refine (HP.out _ (show Below wr.heap.size wr _ by ((repeat (first | refine Below.drew ?_ | (with_reducible refine below_drewN _ ?_) | refine Below.alloc ?_ (by first | omega | (simp; done) | (simp; omega)) _ | refine Below.setCell ?_ (by first | omega | (simp; done) | (simp; omega)) _)); first | exact Below.refl _ _ | assumption | exact below_drewN _ (Below.refl _ _) | exact below_drewN _ (below_drewN _ (Below.refl _ _))))).mono ?_; rintro e' w2 ⟨D2, d2, rfl, he2, hc2, hb2⟩; have hbD := Below.trans (show Below wr.heap.size wr _ by ((repeat (first | refine Below.drew ?_ | (with_reducible refine below_drewN _ ?_) | refine Below.alloc ?_ (by first | omega | (simp; done) | (simp; omega)) _ | refine Below.setCell ?_ (by first | omega | (simp; done) | (simp; omega)) _)); first | exact Below.refl _ _ | assumption | exact below_drewN _ (Below.refl _ _) | exact below_drewN _ (below_drewN _ (Below.refl _ _)))) (hb2.mono (Below.size (show Below wr.heap.size wr _ by ((repeat (first | refine Below.drew ?_ | (with_reducible refine below_drewN _ ?_) | refine Below.alloc ?_ (by first | omega | (simp; done) | (simp; omega)) _ | refine Below.setCell ?_ (by first | omega | (simp; done) | (simp; omega)) _)); first | exact Below.refl _ _ | assumption | exact below_drewN _ (Below.refl _ _) | exact below_drewN _ (below_drewN _ (Below.refl _ _)))))); have HN := Lib.hid (And.intro he2 (And.intro hc2 hbD)); clear he2 hc2 hb2))
        clear y0 y1 y2
        go_wp2_with fail
        go_roundw
        case rel => exact ⟨j + 1, D2, d2, _, by omega, rfl, rfl, by go_num, HH.out.2.2.1.trans (HN.out.2.2.mono HH.out.2.2.1.size), HN.out.1, HN.out.2.1⟩
        case measure => simp [intOf]; omega
      · have d1 : ((e.1.length : Int) == (k : Int)) = false := by rw [beq_eq_false_iff_ne]; omega
        have HE := Lib.hid (show allE k (L.take (j + 1)) = allE k (L.take j) by rw [hsn, if_neg hk])
        clear he x0 x1 p1 hml hv hent hcap hbw htake hsn hzd hjm hm hk y0 y1
        go_wp2_with fail
        go_roundw
        case rel => exact ⟨j + 1, D, d, m, by omega, by rw [HE.out]; exact HH.out.2.1, rfl, by go_num, HH.out.2.2.1, by rw [HE.out]; exact HH.out.2.2.2.1, by rw [HE.out]; exact HH.out.2.2.2.2.1⟩
        case measure => simp [intOf]; omega
    · have hjl : j = L.length := by omega
      subst hjl
      rw [List.take_length] at hm hent hcap
      have HH := Lib.hid (And.intro hm (And.intro hbw (And.intro hent hcap)))
      clear hm hbw hent hcap
      go_wp2_with fail
      go_ret
      exact ⟨D, d, by rw [← HH.out.1]; rfl, HH.out.2.2.1, HH.out.2.2.2, HH.out.2.1⟩
end Go.Proofs.Ytgplbbmenmbaaaa

/-
  CONTRACTS of packages pantileref06 and pantilelaw06: Heavy, Leaves.
-/
namespace Go.Proofs.Ytgplbbmenmbaaaa
open Go.ChangeShapes Go.WideShapes Go.ChangeAt Go.RowKit
open Tr (T S4 Ent)

set_option maxRecDepth 100000 in
theorem rheavy_c {w : World} {B : Nat} {A : Option Addr} {c : Nat} {L : List Ent} (h : Ents w B A L) (hl : L.length ≤ maxLen) (m : Nat) (r : Bool) (hr : decide (m < L.length ∨ ∃ e ∈ L, 40 < e.1.length) = r) :
    Calls Try.prog 5 #[.slice A L.length c, .int .i64 (m : Int)] w fun e w' => e = .returned (.bool r) ∧ w = w' := by
  have HX := Lib.hid (And.intro h hr)
  have hm : L.length ≤ 9223372036854775807 := by unfold maxLen at hl; omega
  clear h hr hl
  by_cases hbig : m < L.length
  · have d1 : decide ((m : Int) < (L.length : Int)) = true := decide_eq_true (by omega)
    have hrt : Hid (r = true) := Lib.hid (by rw [← HX.out.2]; exact decide_eq_true (.inl hbig))
    have d1' : decide (m < L.length) = true := decide_eq_true hbig
    go_enter Try.func5, Try.ntmps5
    go_wp2
    go_ret
    exact ⟨by rw [hrt.out]; rfl, rfl⟩
  · have d1 : decide ((m : Int) < (L.length : Int)) = false := decide_eq_false (by omega)
    have d1' : decide (m < L.length) = false := decide_eq_false hbig
    have HB := Lib.hid hbig
    go_enter Try.func5, Try.ntmps5
    go_wp2
    go_loopw [5] (fun i wr => ∃ j : Nat, j ≤ L.length ∧ i = .int .i64 j ∧ wr = w ∧ ∀ q e, q < j → L[q]? = some e → ¬ 40 < e.1.length) (fun i _ => L.length - (intOf i).toNat)
    case atStart => exact ⟨0, Nat.zero_le _, (by first | rfl | trivial), (by first | rfl | trivial), fun m e hm => by omega⟩
    case round =>
      obtain ⟨j, hj, rfl, rfl, hbe⟩ := hrel
      by_cases hlt : j < L.length
      · obtain ⟨e, he⟩ := get_lt hlt
        obtain ⟨b, off, A1, c1, hA, -, x0, -, -, -, -⟩ := HX.out.1.at he
        subst hA
        have m1 : (0 : Int) ≤ (j : Int) := by omega
        have m2 : (j : Int) < (L.length : Int) := by omega
        have HY := Lib.hid (And.intro he hbe)
        by_cases hc : 40 < e.1.length
        · have d2 : decide ((40 : Int) < (e.1.length : Int)) = true := decide_eq_true (by omega)
          have hrt : Hid (r = true) := Lib.hid (by rw [← HX.out.2]; exact decide_eq_true (.inr ⟨e, List.mem_of_getElem? he, hc⟩))
          clear he hbe hc
          go_wp2_with fail
          go_ret
          exact ⟨by rw [hrt.out]; rfl, rfl⟩
        · have d2 : decide ((40 : Int) < (e.1.length : Int)) = false := decide_eq_false (by omega)
          have hc := Lib.hid hc
          clear he hbe
          go_wp2_with fail
          go_roundw
          case rel =>
            refine ⟨j + 1, by omega, by go_num, (by first | rfl | trivial), fun q e' hq he' => ?_⟩
            by_cases c : q < j
            · exact HY.out.2 q e' c he'
            · have : q = j := by omega
              subst this
              rw [HY.out.1] at he'
              cases he'
              exact hc.out
          case measure => simp [intOf]; omega
      · have hrf : Hid (r = false) := Lib.hid (by
          rw [← HX.out.2]
          refine decide_eq_false ?_
          rintro (h | ⟨e, he, h40⟩)
          · exact HB.out h
          · obtain ⟨q, hq⟩ := List.mem_iff_getElem?.1 he
            exact hbe q e (by have := lt_get hq; omega) hq h40)
        clear hbe
        go_wp2_with fail
        go_ret
        exact ⟨by rw [hrf.out]; rfl, rfl⟩
/-- nodes as the cells of a row -/
def ptrsV (us : List T) : List Value := us.map ndV
theorem ptrsV_length (us : List T) : (ptrsV us).length = us.length := by simp [ptrsV]
theorem infoP : (Try.prog.info? 29).map (fun i => (i.zero, i.size, i.bytes)) = some (some (.pointer none), 1, 8) := by kernel_rfl
/-- leaves of entries -/
def LeafOf (w : World) (B : Nat) (e : Ent) (t : T) : Prop := ∃ g, t = .ent g e.1 e.2 ∧ Node w B e.1.length t
def AllLeaves (w : World) (B : Nat) (L : List Ent) (ls : List T) : Prop := ls.length = L.length ∧ ∀ (i : Nat) (e : Ent) (t : T), L[i]? = some e → ls[i]? = some t → LeafOf w B e t
theorem AllLeaves.below {w w' : World} {B B' C : Nat} {L : List Ent} {ls : List T} (h : AllLeaves w B L ls) (hb : Below C w w') (hC : B ≤ C) (hB : B ≤ B') : AllLeaves w' B' L ls :=
  ⟨h.1, fun i e t he ht => by obtain ⟨g, hg, hn⟩ := h.2 i e t he ht; exact ⟨g, hg, hn.below hb hC hB⟩⟩
theorem AllLeaves.snoc {w : World} {B : Nat} {L : List Ent} {ls : List T} (h : AllLeaves w B L ls) {e : Ent} {t : T} (ht : LeafOf w B e t) : AllLeaves w B (L ++ [e]) (ls ++ [t]) := by
  refine ⟨by simp [h.1], fun i e' t' he' ht' => ?_⟩
  rcases Nat.lt_or_ge i L.length with hi | hi
  · rw [List.getElem?_append_left hi] at he'
    rw [List.getElem?_append_left (by rw [h.1]; exact hi)] at ht'
    exact h.2 i e' t' he' ht'
  · rw [List.getElem?_append_right hi] at he'
    rw [List.getElem?_append_right (by rw [h.1]; exact hi), h.1] at ht'
    match hq : i - L.length with
    | 0 =>
      rw [hq] at he' ht'
      simp at he' ht'
      subst he' ht'
      exact ht
    | q + 1 => rw [hq] at he'; simp at he'
/-- a leaf, by the blocks in which it lies: none of them is q -/
def LeafAt (w : World) (base : Nat) (q : Option Nat) (e : Ent) (t : T) : Prop := ∃ g h d, t = .ent g e.1 e.2 ∧
  w.heap[g]? = some (.cells #[.int .i64 (-1), .slice (some ⟨h, 0, none⟩) e.1.length d, .int .u64 (e.2 : Int), .pointer none, .int .u64 1, .int .u64 (e.2 : Int), .int .u64 (e.2 : Int), .int .u64 (e.2 : Int)] 58 (0, 0)) ∧
  Own w base (.slice (some ⟨h, 0, none⟩) e.1.length d) e.1 ∧ q ≠ some g ∧ q ≠ some h ∧ 1 ≤ e.1.length ∧ e.1.length ≤ 16 ∧ e.2 < 18446744073709551616
theorem LeafAt.keep {w w' : World} {base : Nat} {q q' row : Option Nat} {e : Ent} {t : T} (h : LeafAt w base q e t) (hs : w.grownBy w' row) (hq : row = none ∨ row = q) (hq' : ∀ b, q' = some b → q = some b ∨ w.heap.size ≤ b) : LeafAt w' base q' e t := by
  obtain ⟨g, x, d, rfl, hg, ho, n1, n2, r⟩ := h
  have hgl := (Array.getElem?_eq_some_iff.1 hg).1
  have hxl := (ho.2.lt x rfl).2
  have keep : ∀ b, b < w.heap.size → q ≠ some b → w'.heap[b]? = w.heap[b]? := fun b hb hn => hs.block b hb (fun c => by
    rcases hq with e | e
    · rw [e] at c; cases c
    · rw [e] at c; exact hn c.symm)
  have far : ∀ b, b < w.heap.size → q ≠ some b → q' ≠ some b := fun b hb hn c => by rcases hq' b c with h | h; exact hn h; omega
  refine ⟨g, x, d, rfl, (keep g hgl n1).trans hg, ⟨ho.1, ho.2.1, ?_⟩, far g hgl n1, far x hxl n2, r⟩
  rcases ho.2.2 with h2 | ⟨g', cap, cur, hv, hg', hh, rr⟩
  · exact .inl h2
  · have : g' = x := by simp only [Value.slice.injEq, Option.some.injEq, Addr.mk.injEq] at hv; exact hv.1.1.symm
    subst this
    exact .inr ⟨g', cap, cur, hv, hg', (keep g' hxl n2).trans hh, rr⟩
theorem LeafAt.leaf {w : World} {base : Nat} {q : Option Nat} {e : Ent} {t : T} (h : LeafAt w base q e t) : LeafOf w w.heap.size e t := by
  obtain ⟨g, x, d, rfl, hg, ho, _, _, h1, h16, hv⟩ := h
  obtain ⟨A', c', hv', hp⟩ := ho.pts
  cases hv'
  exact ⟨g, rfl, .ent g e.1 e.2 h1 h16 rfl ho.1 hv, .ent g e.1 e.2 (nd_at hp hg (Nat.le_refl _) (Array.getElem?_eq_some_iff.1 hg).1)⟩
def AL (w : World) (base : Nat) (q : Option Nat) (L : List Ent) (ls : List T) : Prop := ls.length = L.length ∧ ∀ (i : Nat) (e : Ent) (t : T), L[i]? = some e → ls[i]? = some t → LeafAt w base q e t
theorem AL.keep {w w' : World} {base : Nat} {q q' row : Option Nat} {L : List Ent} {ls : List T} (h : AL w base q L ls) (hs : w.grownBy w' row) (hq : row = none ∨ row = q) (hq' : ∀ b, q' = some b → q = some b ∨ w.heap.size ≤ b) : AL w' base q' L ls :=
  ⟨h.1, fun i e t he ht => (h.2 i e t he ht).keep hs hq hq'⟩
theorem AL.all {w : World} {base : Nat} {q : Option Nat} {L : List Ent} {ls : List T} (h : AL w base q L ls) : AllLeaves w w.heap.size L ls := ⟨h.1, fun i e t he ht => (h.2 i e t he ht).leaf⟩
theorem AL.snoc {w : World} {base : Nat} {q : Option Nat} {L : List Ent} {ls : List T} (h : AL w base q L ls) {e : Ent} {t : T} (ht : LeafAt w base q e t) : AL w base q (L ++ [e]) (ls ++ [t]) := by
  refine ⟨by simp [h.1], fun i e' t' he' ht' => ?_⟩
  rcases Nat.lt_or_ge i L.length with hi | hi
  · rw [List.getElem?_append_left hi] at he'
    rw [List.getElem?_append_left (by rw [h.1]; exact hi)] at ht'
    exact h.2 i e' t' he' ht'
  · rw [List.getElem?_append_right hi] at he'
    rw [List.getElem?_append_right (by rw [h.1]; exact hi), h.1] at ht'
    match hq : i - L.length with
    | 0 =>
      rw [hq] at he' ht'
      simp at he' ht'
      subst he' ht'
      exact ht
    | q + 1 => rw [hq] at he'; simp at he'
theorem grown_below {w w' : World} (h : Below w.heap.size w w') : w.grownBy w' none := ⟨h.os, h.tape, h.output, h.size, fun k hk _ => h.block k hk⟩
/-- one leaf more: the row may have moved -/
theorem al_step {wr w2 w3 : World} {base j d d3 g x dx : Nat} {D D3 : Option Addr} {L : List Ent} {ls : List T} {e : Ent} {o : Obj} (h : AL wr base (Value.slice D j d).ownBlock L ls) (hb : Below wr.heap.size wr w2) (hlt : ∀ q, (Value.slice D j d).ownBlock = some q → q < wr.heap.size)
    (hg : w2.heap[g]? = some (.cells #[.int .i64 (-1), .slice (some ⟨x, 0, none⟩) e.1.length dx, .int .u64 (e.2 : Int), .pointer none, .int .u64 1, .int .u64 (e.2 : Int), .int .u64 (e.2 : Int), .int .u64 (e.2 : Int)] 58 (0, 0)))
    (ho : Own w2 wr.heap.size (.slice (some ⟨x, 0, none⟩) e.1.length dx) e.1) (hgl : wr.heap.size ≤ g) (h1 : 1 ≤ e.1.length) (h16 : e.1.length ≤ 16) (hv : e.2 < 18446744073709551616) (hbase : base ≤ wr.heap.size)
    (hgr : (w2.alloc o).grownBy w3 (Value.slice D j d).ownBlock) (hat : (Value.slice D3 (j + 1) d3).ownBlock = (Value.slice D j d).ownBlock ∨ (Value.slice D3 (j + 1) d3).ownBlock = some (w2.alloc o).heap.size) :
    AL w3 base (Value.slice D3 (j + 1) d3).ownBlock (L ++ [e]) (ls ++ [.ent g e.1 e.2]) := by
  have hxl := ho.2.lt x rfl
  have a2 : AL w2 base (Value.slice D j d).ownBlock L ls := h.keep (grown_below hb) (.inl rfl) (fun b hb => .inl hb)
  have l2 : LeafAt w2 base (Value.slice D j d).ownBlock e (.ent g e.1 e.2) := ⟨g, x, dx, rfl, hg, ho.mono hbase, fun c => by have := hlt g c; omega, fun c => by have := hlt x c; omega, h1, h16, hv⟩
  refine ((a2.snoc l2).keep (grown_below (below_alloc w2 o)) (.inl rfl) (fun b hb => .inl hb)).keep hgr (.inr rfl) (fun b hb => ?_)
  rcases hat with c | c
  · exact .inl (by rw [← c]; exact hb)
  · rw [c] at hb; simp only [Option.some.injEq] at hb; exact .inr (by omega)
set_option maxRecDepth 100000 in
set_option maxHeartbeats 1000000 in
theorem leaves_c {w : World} {B : Nat} {A : Option Addr} {c : Nat} {L : List Ent} (h : Ents w B A L) (hB : B ≤ w.heap.size) (hl : L.length ≤ 1000) :
    Calls Try.prog 6 #[.slice A L.length c] w fun e w' =>
      (((∃ e ∈ L, ¬ (1 ≤ e.1.length ∧ e.1.length ≤ 16)) ∧ e = .returned (.tuple #[.slice none 0 0, .bool false])) ∨
       ((∀ e ∈ L, 1 ≤ e.1.length ∧ e.1.length ≤ 16) ∧ ∃ D d ls, e = .returned (.tuple #[.slice D L.length d, .bool true]) ∧ OwnV 29 w' w.heap.size (.slice D L.length d) (ptrsV ls) ∧ AllLeaves w' w'.heap.size L ls)) ∧ Below w.heap.size w w' := by
  have HX := Lib.hid (And.intro h (And.intro hB hl))
  have HO := Lib.hid (ownV_nil 29 w)
  clear h
  go_enter Try.func6, Try.ntmps6
  go_wp2
  go_loopw [4, 5] (fun v i wr => ∃ (j : Nat) (D : Option Addr) (d : Nat) (ls : List T), j ≤ L.length ∧ v = .slice D j d ∧ i = .int .i64 j ∧ Below w.heap.size w wr ∧ OwnV 29 wr w.heap.size (.slice D j d) (ptrsV ls) ∧ ls.length = j ∧ w.heap.size + 1 ≤ wr.heap.size ∧ (∀ (q : Nat) (e : Ent), q < j → L[q]? = some e → (1 ≤ e.1.length ∧ e.1.length ≤ 16)) ∧ AL wr w.heap.size (Value.slice D j d).ownBlock (L.take j) ls) (fun _ i _ => L.length - (intOf i).toNat)
  case atStart => exact ⟨0, some ⟨w.heap.size, 0, none⟩, 0, [], Nat.zero_le _, rfl, rfl, below_alloc _ _, HO.out, rfl, by simp, fun q e hq => by omega, rfl, fun i e t h => by simp at h⟩
  case round =>
    obtain ⟨j, D, d, ls, hj, rfl, rfl, hbw, hown, hls, hsz, hbe, hal⟩ := hrel
    by_cases hlt : j < L.length
    · obtain ⟨e, he⟩ := get_lt hlt
      obtain ⟨b, off, A1, c1, hA, hb, x0, x1, p1, hml, hv⟩ := HX.out.1.at he
      subst hA
      have hbB : b < w.heap.size := Nat.lt_of_lt_of_le hb hB
      have y0 : ∀ w', Below wr.heap.size wr w' → w'.cell? ⟨b, off + j * 2, none⟩ = some (.slice A1 e.1.length c1) := fun w' hb' => ((hbw.trans (hb'.mono hbw.size)).cell (p := ⟨b, off + j * 2, none⟩) hbB).trans x0
      have y1 : ∀ w', Below wr.heap.size wr w' → w'.cell? ⟨b, off + j * 2 + 1, none⟩ = some (.int .u64 (e.2 : Int)) := fun w' hb' => ((hbw.trans (hb'.mono hbw.size)).cell (p := ⟨b, off + j * 2 + 1, none⟩) hbB).trans x1
      have m1 : (0 : Int) ≤ (j : Int) := by omega
      have m2 : (j : Int) < (L.length : Int) := by omega
      have hb0 : Below wr.heap.size wr wr := Below.refl _ _
      have HY := Lib.hid (And.intro he (And.intro hbe (And.intro hown (And.intro hls (And.intro hbw (And.intro hsz hal))))))
      by_cases hr : 1 ≤ e.1.length ∧ e.1.length ≤ 16
      · have HL : Hid (∀ w1, Below wr.heap.size wr w1 → Calls Try.prog 18 #[.slice A1 e.1.length c1, .int .u64 (e.2 : Int)] w1 fun e' w' => ∃ g h d, e' = .returned (.tuple #[.pointer (some ⟨g, 0, none⟩), .int .i64 0]) ∧ w'.heap[g]? = some (.cells #[.int .i64 (-1), .slice (some ⟨h, 0, none⟩) e.1.length d, .int .u64 (e.2 : Int), .pointer none, .int .u64 1, .int .u64 (e.2 : Int), .int .u64 (e.2 : Int), .int .u64 (e.2 : Int)] 58 (0, 0)) ∧ w1.heap.size ≤ g ∧ g ≠ h ∧ Own w' w1.heap.size (.slice (some ⟨h, 0, none⟩) e.1.length d) e.1 ∧ Below w1.heap.size w1 w') := Lib.hid fun w1 hb1 =>
          nLeaf_raw e.1 A1 c1 B e.2 w1 (Nat.le_trans hB (Nat.le_trans hbw.size hb1.size)) (p1.below' (hbw.trans (hb1.mono hbw.size)) hB) hr.1 hr.2
        have HR := Lib.hid (And.intro hr hv)
        clear he hbe hr x0 x1 p1 hml hv hown hls hbw hal
        go_wp2_with fail
        go_region_held3 (fun w' => Below wr.heap.size wr w') (((repeat (first | refine Below.drew ?_ | (with_reducible refine below_drewN _ ?_) | refine Below.alloc ?_ (by first | omega | (simp; done) | (simp; omega)) _ | refine Below.setCell ?_ (by first | omega | (simp; done) | (simp; omega)) _)); first | exact Below.refl _ _ | assumption | exact below_drewN _ (Below.refl _ _) | exact below_drewN _ (below_drewN _ (Below.refl _ _))))
          ((go_at_call 18; refine (HL.out _ (show Below wr.heap.size wr _ by ((repeat (first | refine Below.drew ?_ | (with_reducible refine below_drewN _ ?_) | refine Below.alloc ?_ (by first | omega | (simp; done) | (simp; omega)) _ | refine Below.setCell ?_ (by first | omega | (simp; done) | (simp; omega)) _)); first | exact Below.refl _ _ | assumption | exact below_drewN _ (Below.refl _ _) | exact below_drewN _ (below_drewN _ (Below.refl _ _))))).mono ?_; rintro e' w2 ⟨g, x, dx, rfl, hn, hg, hgx, hox, hb2⟩; have hbD := Below.trans (show Below wr.heap.size wr _ by ((repeat (first | refine Below.drew ?_ | (with_reducible refine below_drewN _ ?_) | refine Below.alloc ?_ (by first | omega | (simp; done) | (simp; omega)) _ | refine Below.setCell ?_ (by first | omega | (simp; done) | (simp; omega)) _)); first | exact Below.refl _ _ | assumption | exact below_drewN _ (Below.refl _ _) | exact below_drewN _ (below_drewN _ (Below.refl _ _)))) (hb2.mono (Below.size (show Below wr.heap.size wr _ by ((repeat (first | refine Below.drew ?_ | (with_reducible refine below_drewN _ ?_) | refine Below.alloc ?_ (by first | omega | (simp; done) | (simp; omega)) _ | refine Below.setCell ?_ (by first | omega | (simp; done) | (simp; omega)) _)); first | exact Below.refl _ _ | assumption | exact below_drewN _ (Below.refl _ _) | exact below_drewN _ (below_drewN _ (Below.refl _ _)))))); have HNN := Lib.hid (And.intro (Own.mono (base' := wr.heap.size) hox (Below.size (show Below wr.heap.size wr _ by ((repeat (first | refine Below.drew ?_ | (with_reducible refine below_drewN _ ?_) | refine Below.alloc ?_ (by first | omega | (simp; done) | (simp; omega)) _ | refine Below.setCell ?_ (by first | omega | (simp; done) | (simp; omega)) _)); first | exact Below.refl _ _ | assumption | exact below_drewN _ (Below.refl _ _) | exact below_drewN _ (below_drewN _ (Below.refl _ _)))))) (And.intro hbD (And.intro hn (Nat.le_trans (Below.size (show Below wr.heap.size wr _ by ((repeat (first | refine Below.drew ?_ | (with_reducible refine below_drewN _ ?_) | refine Below.alloc ?_ (by first | omega | (simp; done) | (simp; omega)) _ | refine Below.setCell ?_ (by first | omega | (simp; done) | (simp; omega)) _)); first | exact Below.refl _ _ | assumption | exact below_drewN _ (Below.refl _ _) | exact below_drewN _ (below_drewN _ (Below.refl _ _))))) hg)))); clear hn hb2 hg hgx hox))
        clear y0 y1
        obtain ⟨he, hbe, hown, hls, hbw, hsz', hal⟩ := HY.out
        have hown2 := hown.below HNN.out.2.1 (Nat.le_refl _)
        have HO2 := Lib.hid hown2
        have hLL := HX.out.2.2
        have hw2 := HNN.out.2.1.size
        clear he hbe hown hal hown2
        go_wp2_with (at_builtin; refine wpList_append_sl 26 29 (Value.pointer none) 8 Try.underlying26 infoP rfl (by omega) rfl (.tmp 31) (.tmp 33) rfl w.heap.size (.slice D j d) (ptrsV ls) [.pointer (some ⟨g, 0, none⟩)] (j + 1) (by simp [ptrsV_length, hls]) rfl (HO2.out.below (below_alloc _ _) (Nat.le_refl _)) _ _ 1 1 rfl rfl (rdV_one _ _ _) (fun y hy => by simp at hy; subst hy; rfl) (by omega) (by simp; omega) ?_; intro D3 d3 w3 hown3 hgrow3 hat3; have hb3 := Below.grown ((hbw.trans (HNN.out.2.1.mono hbw.size)).trans ((below_alloc w2 (.cells #[.pointer (some ⟨g, 0, none⟩)] 29)).mono (Nat.le_trans hbw.size hw2))) hgrow3 (by simp; omega) (fun q hq => (HO2.out.lt q hq).1); have HK := Lib.hid (And.intro hown3 (And.intro hgrow3 (And.intro hat3 hb3))); clear hown3 hgrow3 hat3 hb3)
        obtain ⟨he, hbe, hown, -, -, -, hal⟩ := HY.out
        have hst := al_step hal HNN.out.2.1 (fun q hq => (hown.lt q hq).2) HNN.out.2.2.1 HNN.out.1 HNN.out.2.2.2 HR.out.1.1 HR.out.1.2 HR.out.2 hbw.size HK.out.2.1 HK.out.2.2.1
        have HS := Lib.hid (And.intro hst (show ptrsV (ls ++ [.ent g e.1 e.2]) = ptrsV ls ++ [.pointer (some ⟨g, 0, none⟩)] by simp [ptrsV, ndV, T.blk]))
        have Hls := Lib.hid hls
        have hw3 := HK.out.2.1.size
        rw [World.size_alloc] at hw3
        clear hst hal hown he hls
        go_roundw
        case rel =>
          refine ⟨j + 1, D3, d3, ls ++ [.ent g e.1 e.2], by omega, rfl, by go_num, HK.out.2.2.2, by rw [HS.out.2]; exact HK.out.1, by simp [Hls.out], by omega, fun q e' hq he' => ?_, ?_⟩
          · by_cases c : q < j
            · exact hbe q e' c he'
            · have : q = j := by omega
              subst this
              rw [HY.out.1] at he'
              cases he'
              exact HR.out.1
          · rw [List.take_add_one, HY.out.1]
            exact HS.out.1
        case measure => simp [intOf]; omega
      · have HL : Hid (∀ w1, Below wr.heap.size wr w1 → Calls Try.prog 18 #[.slice A1 e.1.length c1, .int .u64 (e.2 : Int)] w1 fun e' w' => e' = .returned (.tuple #[.pointer none, .int .i64 2]) ∧ w1 = w') := Lib.hid fun w1 hb1 =>
          nLeaf_dim A1 e.1.length c1 e.2 w1 hml hr
        have HR := Lib.hid hr
        clear he hbe hr x0 x1 p1 hml hv hown hls hbw hal
        go_wp2_with fail
        go_region_held3 (fun w' => Below wr.heap.size wr w') (((repeat (first | refine Below.drew ?_ | (with_reducible refine below_drewN _ ?_) | refine Below.alloc ?_ (by first | omega | (simp; done) | (simp; omega)) _ | refine Below.setCell ?_ (by first | omega | (simp; done) | (simp; omega)) _)); first | exact Below.refl _ _ | assumption | exact below_drewN _ (Below.refl _ _) | exact below_drewN _ (below_drewN _ (Below.refl _ _))))
          ((go_at_call 18; refine (HL.out _ (show Below wr.heap.size wr _ by ((repeat (first | refine Below.drew ?_ | (with_reducible refine below_drewN _ ?_) | refine Below.alloc ?_ (by first | omega | (simp; done) | (simp; omega)) _ | refine Below.setCell ?_ (by first | omega | (simp; done) | (simp; omega)) _)); first | exact Below.refl _ _ | assumption | exact below_drewN _ (Below.refl _ _) | exact below_drewN _ (below_drewN _ (Below.refl _ _))))).mono ?_; rintro e' w2 ⟨rfl, rfl⟩))
        clear y0 y1
        go_wp2_with fail
        go_ret2
        exact ⟨.inl ⟨⟨e, List.mem_of_getElem? HY.out.1, HR.out⟩, rfl⟩, HY.out.2.2.2.2.1.drew⟩
    · have hjl : j = L.length := by omega
      subst hjl
      rw [List.take_length] at hal
      have HY := Lib.hid (And.intro hbe (And.intro hown (And.intro hbw hal)))
      clear hbe hown hls hbw hal
      go_wp2_with fail
      go_ret2
      refine ⟨.inr ⟨fun e he => ?_, D, d, ls, rfl, HY.out.2.1, HY.out.2.2.2.all⟩, HY.out.2.2.1⟩
      obtain ⟨q, hq⟩ := List.mem_iff_getElem?.1 he
      exact HY.out.1 q e (lt_get hq) hq
end Go.Proofs.Ytgplbbmenmbaaaa
