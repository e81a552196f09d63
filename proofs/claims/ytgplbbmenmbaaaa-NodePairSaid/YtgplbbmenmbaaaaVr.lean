/-
  ROWS OF VALUES IN MEMORY, of whatever element type of one cell: 'RdV' (a slice that can be read), 'OwnV' (one that the call made), how they are cut, and appended to. Nothing of the program but its types' numbers is named here.
-/
import Derived.Test.YtgplbbmenmbaaaaBase
import Derived.Maps.AppendAt
namespace Go.Proofs.Ytgplbbmenmbaaaa
open Go.ChangeShapes Go.WideShapes Go.ChangeAt Go.RowKit

/-- THE SLICE AT ADDRESS A READS AS THE VALUES xs; its cells lie below block B. -/
def RdV (w : World) (B : Nat) (A : Option Addr) (xs : List Value) : Prop :=
  xs ≠ [] → ∃ b off, A = some ⟨b, off, none⟩ ∧ b < B ∧ ∀ (i : Nat) (v : Value), xs[i]? = some v → w.cell? ⟨b, off + i, none⟩ = some v
theorem RdV.nil (w : World) (B : Nat) (A : Option Addr) : RdV w B A [] := fun h => absurd rfl h
theorem RdV.keep {w w' : World} {B B' : Nat} {A : Option Addr} {xs : List Value} (h : RdV w B A xs) (hB : B ≤ B') (hw : ∀ p : Addr, p.block < B → w'.cell? p = w.cell? p) : RdV w' B' A xs := by
  intro hn
  obtain ⟨b, off, rfl, hb, hc⟩ := h hn
  exact ⟨b, off, rfl, by omega, fun i u hi => (hw _ hb).trans (hc i u hi)⟩
theorem RdV.below {w w' : World} {B B' C : Nat} {A : Option Addr} {xs : List Value} (h : RdV w B A xs) (hb : Below C w w') (hC : B ≤ C) (hB : B ≤ B') : RdV w' B' A xs := h.keep hB fun _ hp => hb.cell (Nat.lt_of_lt_of_le hp hC)
theorem RdV.drew {w : World} {B : Nat} {A : Option Addr} {xs : List Value} (h : RdV w B A xs) : RdV w.drew B A xs := h
theorem RdV.at {w : World} {B : Nat} {A : Option Addr} {xs : List Value} (h : RdV w B A xs) {i : Nat} {v : Value} (hi : xs[i]? = some v) : ∃ b off, A = some ⟨b, off, none⟩ ∧ b < B ∧ w.cell? ⟨b, off + i, none⟩ = some v := by
  obtain ⟨b, off, hA, hb, hc⟩ := h (by rintro rfl; simp at hi)
  exact ⟨b, off, hA, hb, hc i v hi⟩
theorem pts_rdV {w : World} {B : Nat} {A : Option Addr} {us : List Nat} (h : Pts w B A us) : RdV w B A (vals us) := by
  intro hn
  obtain ⟨b, off, hA, hb, hc⟩ := h.2 (by rintro rfl; exact hn rfl)
  refine ⟨b, off, hA, hb, fun i v hi => ?_⟩
  simp only [vals, List.getElem?_map, Option.map_eq_some_iff] at hi
  obtain ⟨u, hu, rfl⟩ := hi
  exact hc i u hu
theorem rdV_pts {w : World} {B : Nat} {A : Option Addr} {us : List Nat} (ho : Z.Ok us) (h : RdV w B A (vals us)) : Pts w B A us := by
  refine ⟨ho, fun hn => ?_⟩
  obtain ⟨b, off, hA, hb, hc⟩ := h (by cases us with | nil => exact absurd rfl hn | cons a l => simp [vals])
  exact ⟨b, off, hA, hb, fun i u hi => hc i _ (vals_get hi)⟩
/-- cut off ahead, cut off behind -/
theorem cut_lo (t e : TypeId) {z : Value} {by' : Nat} (ht : Try.prog.underlying t = some (.slice e)) (hi : (Try.prog.info? e).map (fun i => (i.zero, i.size, i.bytes)) = some (some z, 1, by')) (A : Option Addr) (n c i : Nat) (hin : i ≤ n) (hnc : n ≤ c) :
    ∃ A', (∀ w, (Instr.sliceAt t (.slice A n c) (some (.int .i64 (i : Int))) none none).run Try.prog w = .ok (.slice A' (n - i) (c - i)) w) ∧ ∀ w B xs, xs.length = n → RdV w B A xs → RdV w B A' (xs.drop i) := by
  obtain ⟨i0, hi0, hz0, hz1, hz2⟩ := info_parts hi
  have hel : Try.prog.elem t = e := by simp [Program.elem, ht]
  refine ⟨if c = i then A else A.map (·.add (i * 1)), fun w => ?_, fun w B xs hx h hne => ?_⟩
  · have hs : Try.prog.underlying t = some (.slice (Try.prog.elem t)) := by rw [hel]; exact ht
    rw [run_sliceAt_slice w t _ _ _ _ hs, run_slice_l w t A n c hs .i64 (i : Int) (by omega) (by omega), hel]
    simp [sizeOf, typeInfo, hi0, hz1, sliced, Result.andThen]
  · have hlt : i < xs.length := by
      rcases Nat.lt_or_ge i xs.length with d | d
      · exact d
      · exact absurd (List.drop_of_length_le d) hne
    obtain ⟨b, off, rfl, hb, hc⟩ := h (by rintro rfl; simp at hlt)
    rw [if_neg (by omega)]
    refine ⟨b, off + i, by simp [Go.WideShapes.add_plain], hb, fun j v hj => ?_⟩
    rw [List.getElem?_drop] at hj
    rw [Nat.add_assoc]
    exact hc (i + j) v hj
theorem cut_hi (t e : TypeId) {z : Value} {by' : Nat} (ht : Try.prog.underlying t = some (.slice e)) (hi : (Try.prog.info? e).map (fun i => (i.zero, i.size, i.bytes)) = some (some z, 1, by')) (A : Option Addr) (n c i : Nat) (hin : i ≤ n) (hnc : n ≤ c) :
    ∃ A', (∀ w, (Instr.sliceAt t (.slice A n c) none (some (.int .i64 (i : Int))) none).run Try.prog w = .ok (.slice A' i c) w) ∧ ∀ w B xs, xs.length = n → RdV w B A xs → RdV w B A' (xs.take i) := by
  obtain ⟨i0, hi0, hz0, hz1, hz2⟩ := info_parts hi
  have hel : Try.prog.elem t = e := by simp [Program.elem, ht]
  refine ⟨if c = 0 then A else A.map (·.add (0 * 1)), fun w => ?_, fun w B xs hx h hne => ?_⟩
  · have hs : Try.prog.underlying t = some (.slice (Try.prog.elem t)) := by rw [hel]; exact ht
    rw [run_sliceAt_slice w t _ _ _ _ hs, run_slice_h w t A n c hs .i64 (i : Int) (by omega) (by omega), hel]
    simp [sizeOf, typeInfo, hi0, hz1, sliced, Result.andThen]
  · obtain ⟨b, off, rfl, hb, hc⟩ := h (by rintro rfl; simp at hne)
    have hlt : 0 < i := by
      rcases Nat.eq_zero_or_pos i with d | d
      · subst d; simp at hne
      · exact d
    rw [if_neg (by omega)]
    refine ⟨b, off, by simp [Go.WideShapes.add_plain], hb, fun j v hj => ?_⟩
    rw [List.getElem?_take] at hj
    split at hj
    · exact hc j v hj
    · cases hj

/-- THE SLICE VALUE v OWNS the values xs: a row that the call made (blocks from base on). -/
def OwnV (e : TypeId) (w : World) (base : Nat) (v : Value) (xs : List Value) : Prop := (∀ x ∈ xs, x.oneCell' = true) ∧ w.ownsRow base e 1 v xs.length xs
theorem OwnV.below {e : TypeId} {w w' : World} {base C : Nat} {v : Value} {xs : List Value} (h : OwnV e w base v xs) (hb : Below C w w') (hC : w.heap.size ≤ C) : OwnV e w' base v xs := by
  refine ⟨h.1, h.2.1, ?_⟩
  rcases h.2.2 with h2 | ⟨g, cap, cur, hv, hg, hh, r⟩
  · exact .inl h2
  · exact .inr ⟨g, cap, cur, hv, hg, (hb.block g (by have := (Array.getElem?_eq_some_iff.1 hh).1; omega)).trans hh, r⟩
theorem OwnV.drew {e : TypeId} {w : World} {base : Nat} {v : Value} {xs : List Value} (h : OwnV e w base v xs) : OwnV e w.drew base v xs := h
theorem OwnV.mono {e : TypeId} {w : World} {base base' : Nat} {v : Value} {xs : List Value} (h : OwnV e w base v xs) (hb : base' ≤ base) : OwnV e w base' v xs := by
  refine ⟨h.1, h.2.1, ?_⟩
  rcases h.2.2 with h2 | ⟨g, cap, cur, hv, hg, r⟩
  · exact .inl h2
  · exact .inr ⟨g, cap, cur, hv, by omega, r⟩
theorem OwnV.rd {e : TypeId} {w : World} {base : Nat} {v : Value} {xs : List Value} (h : OwnV e w base v xs) : ∃ A c, v = .slice A xs.length c ∧ xs.length ≤ c ∧ RdV w w.heap.size A xs := by
  rcases h.2.2 with ⟨hv, hn⟩ | ⟨g, cap, cur, hv, hg, hh, r⟩
  · have : xs = [] := List.eq_nil_of_length_eq_zero hn
    subst this
    exact ⟨none, 0, hv, Nat.le_refl _, RdV.nil _ _ _⟩
  · refine ⟨_, cap, hv, r.1, fun _ => ⟨g, 0, rfl, (Array.getElem?_eq_some_iff.1 hh).1, fun i u hi => ?_⟩⟩
    subst hv
    rw [Nat.zero_add, World.ownsRow.cellAt h.2 i (by have := lt_get hi; omega)]
    exact hi
theorem OwnV.rd_at {e : TypeId} {w : World} {base n c : Nat} {A : Option Addr} {xs : List Value} (h : OwnV e w base (.slice A n c) xs) : RdV w w.heap.size A xs := by
  obtain ⟨A', c', hv, _, hr⟩ := h.rd
  cases hv
  exact hr
/-- what is owned is read in every world that agrees from base on -/
theorem OwnV.rd_loc {e : TypeId} {w w' : World} {base n c : Nat} {A : Option Addr} {xs : List Value} (h : OwnV e w base (.slice A n c) xs) (hw : ∀ p : Addr, base ≤ p.block → p.block < w.heap.size → w'.cell? p = w.cell? p) : RdV w' w.heap.size A xs := by
  intro hn
  obtain ⟨b, off, hA, hb, hc⟩ := h.rd_at hn
  subst hA
  have hl := (h.2.lt b rfl).1
  exact ⟨b, off, rfl, hb, fun i v hi => (hw _ hl hb).trans (hc i v hi)⟩
theorem OwnV.cap {e : TypeId} {w : World} {base n c : Nat} {A : Option Addr} {xs : List Value} (h : OwnV e w base (.slice A n c) xs) : n ≤ c := by
  obtain ⟨A', c', hv, hle, _⟩ := h.rd
  injection hv with _ e2 e3
  omega
theorem OwnV.row {e : TypeId} {w : World} {base : Nat} {v : Value} {xs : List Value} (h : OwnV e w base v xs) (hn : xs ≠ []) : ∃ g d, v = .slice (some ⟨g, 0, none⟩) xs.length d := by
  rcases h.2.2 with ⟨hv, h0⟩ | ⟨g, cap, cur, hv, _⟩
  · exact absurd (List.eq_nil_of_length_eq_zero h0) hn
  · exact ⟨g, cap, hv⟩
theorem OwnV.lt {e : TypeId} {w : World} {base : Nat} {v : Value} {xs : List Value} (h : OwnV e w base v xs) : ∀ q, v.ownBlock = some q → base ≤ q ∧ q < w.heap.size := h.2.lt
theorem ownV_none (e : TypeId) (w : World) (base : Nat) : OwnV e w base (.slice none 0 0) [] := ⟨fun x h => by simp at h, World.ownsRow_nil w base e 1⟩
theorem ownV_nil (e : TypeId) (w : World) : OwnV e (w.alloc (.cells #[] e)) w.heap.size (.slice (some ⟨w.heap.size, 0, none⟩) 0 0) [] :=
  ⟨fun x h => by simp at h, World.ownsRow_made w #[] 0 (Nat.le_refl _) (by unfold maxLen; omega) (by simp)⟩
/-- one value in a block of its own -/
theorem rdV_one (w : World) (e : TypeId) (x : Value) : RdV (w.alloc (.cells #[x] e)) (w.heap.size + 1) (some ⟨w.heap.size, 0, none⟩) [x] := by
  intro _
  refine ⟨w.heap.size, 0, rfl, by omega, fun i u hi => ?_⟩
  cases i with
  | zero =>
    simp at hi
    subst hi
    rw [World.cell?_alloc_new]; rfl
  | succ i => simp at hi

/-- append of whatever can be read onto a row of the call's own -/
theorem wpList_append_vals {w : World} {ops : Array Oper} {rest : List Oper} {o : Oper} {a : Act} {Q : Exit → Act → World → Prop} (t e : TypeId) (z : Value) (sz : Nat) (hu : Try.prog.underlying t = some (.slice e)) (hinfo : (Try.prog.info? e).map (fun i => (i.zero, i.size, i.bytes)) = some (some z, 1, sz)) (hzc : z.cells.size = 1) (hsz : sz ≤ 16)
    (hgd : o.guard = none) (s x : Operand) (ho : o.op = .call { callee := .builtin .append, args := #[s, x], argTypes := #[t, t] }) (base : Nat) (v : Value) (vs xs : List Value) (hs : a.eval s = v) (hown : OwnV e w base v vs)
    (B : Nat) (A : Option Addr) (n c : Nat) (hn : xs.length = n) (hx : a.eval x = .slice A n c) (hp : RdV w B A xs) (h1 : ∀ u ∈ xs, u.oneCell' = true) (hlen : vs.length + xs.length ≤ 8000000000) (hbase : base ≤ w.heap.size)
    (h : ∀ v' w', OwnV e w' base v' (vs ++ xs) → w.grownBy w' v.ownBlock → (v'.ownBlock = v.ownBlock ∨ v'.ownBlock = some w.heap.size) → wpList Try.prog ops Q rest (a.put o.dst v') w') : wpList Try.prog ops Q (o :: rest) a w := by
  obtain ⟨i0, hi0, hz0, hz1, hz2⟩ := info_parts hinfo
  subst hn
  have hb : (vs.length + xs.length) * sz ≤ 140737488355328 := Nat.le_trans (Nat.mul_le_mul hlen hsz) (by omega)
  have hall : ∀ u ∈ vs ++ xs, u.oneCell' = true := fun u hu => by
    rcases List.mem_append.1 hu with h2 | h2
    · exact hown.1 u h2
    · exact h1 u h2
  have hl : (vs ++ xs).length = vs.length + xs.length := by simp
  rcases A with _ | ad
  · have hn : xs = [] := by
      rcases Classical.em (xs = []) with h0 | h0
      · exact h0
      · obtain ⟨b, off, hA, _⟩ := hp h0
        cases hA
    subst hn
    refine wpList_plain hgd fun K hK => ?_
    have hrun := run_append_nil (P := Try.prog) w base t o.type e i0 1 hu hi0 v vs.length vs hown.2 c
    unfold Oper.wp
    simp [execOp, ho, resolve, invoke, builtin, hs, hx, hrun, Result.andThen]
    exact hK _ _ (h v w (by simpa using hown) (World.grownBy.refl w _) (.inl rfl))
  · refine wpList_append_own_at w hgd s x t ho base e i0 z 1 sz hu hi0 hz0 hz1 hz2 hzc (by decide) v vs.length vs hs hown.2 ad xs.length c xs hx (by omega) ?_ h1 (by unfold maxLen; omega) hb hbase ?_
    · intro j u hj
      obtain ⟨b, off, hA, _, hc⟩ := hp (by rintro rfl; simp at hj)
      cases hA
      rw [Go.WideShapes.add_plain]
      exact hc j u hj
    · intro v' w' g1 g2 _ g4
      exact h v' w' ⟨hall, by rw [hl]; exact g1⟩ g2 g4
theorem OwnV.grown {e : TypeId} {w w' : World} {base : Nat} {v : Value} {xs : List Value} {row : Option Nat} (h : OwnV e w base v xs) (hg : w.grownBy w' row) (hne : v.ownBlock = none ∨ v.ownBlock ≠ row) : OwnV e w' base v xs := ⟨h.1, h.2.kept hg hne⟩
theorem ownV_store {e : TypeId} {w : World} {base : Nat} {v : Value} {xs : List Value} (h : OwnV e w base v xs) {a : Addr} (ha : v.ownBlock ≠ some a.block) (u : Value) : OwnV e (w.setCell a u) base v xs :=
  ⟨h.1, ownsRow_setCell_other h.2 ha u⟩
/-- the same as one step of a region that draws its order -/
theorem step_append_vals {w : World} {ops : Array Oper} {o : Oper} {a : Act} {K : Act → World → Prop} {Q : Exit → Act → World → Prop} {E : Prop} (t e : TypeId) (z : Value) (sz : Nat) (hu : Try.prog.underlying t = some (.slice e)) (hinfo : (Try.prog.info? e).map (fun i => (i.zero, i.size, i.bytes)) = some (some z, 1, sz)) (hzc : z.cells.size = 1) (hsz : sz ≤ 16)
    (hgd : o.guard = none) (s x : Operand) (ho : o.op = .call { callee := .builtin .append, args := #[s, x], argTypes := #[t, t] }) (base : Nat) (v : Value) (vs xs : List Value) (hs : a.eval s = v) (hown : OwnV e w base v vs)
    (B : Nat) (A : Option Addr) (n c : Nat) (hn : xs.length = n) (hx : a.eval x = .slice A n c) (hp : RdV w B A xs) (h1 : ∀ u ∈ xs, u.oneCell' = true) (hlen : vs.length + xs.length ≤ 8000000000) (hbase : base ≤ w.heap.size)
    (h : ∀ D d w', OwnV e w' base (.slice D (vs ++ xs).length d) (vs ++ xs) → w.grownBy w' v.ownBlock → ((Value.slice D (vs ++ xs).length d).ownBlock = v.ownBlock ∨ (Value.slice D (vs ++ xs).length d).ownBlock = some w.heap.size) → K (a.put o.dst (.slice D (vs ++ xs).length d)) w') :
    if Region.wanted o (yielded ops a.tmps) = true then Oper.wp Try.prog o a w K Q else E := by
  have hw : Region.wanted o (yielded ops a.tmps) = true := by simp [Region.wanted, hgd]
  rw [if_pos hw]
  obtain ⟨i0, hi0, hz0, hz1, hz2⟩ := info_parts hinfo
  subst hn
  have hb : (vs.length + xs.length) * sz ≤ 140737488355328 := Nat.le_trans (Nat.mul_le_mul hlen hsz) (by omega)
  have hall : ∀ u ∈ vs ++ xs, u.oneCell' = true := fun u hu => by
    rcases List.mem_append.1 hu with h2 | h2
    · exact hown.1 u h2
    · exact h1 u h2
  have hl : (vs ++ xs).length = vs.length + xs.length := by simp
  rcases A with _ | ad
  · have hn : xs = [] := by
      rcases Classical.em (xs = []) with h0 | h0
      · exact h0
      · obtain ⟨b, off, hA, _⟩ := hp h0
        cases hA
    subst hn
    rw [List.append_nil] at h
    obtain ⟨D, d, hv, _, _⟩ := hown.rd
    subst hv
    have hrun := run_append_nil (P := Try.prog) w base t o.type e i0 1 hu hi0 (.slice D vs.length d) vs.length vs hown.2 c
    unfold Oper.wp execOp
    simp only [ho, resolve, invoke, builtin, Sem.run_bind, Sem.run_pure, Result.andThen_ok, List.map_toArray, List.map_cons, List.map_nil, hs, hx, List.length_nil, hrun]
    exact h D d w hown (World.grownBy.refl w _) (.inl rfl)
  · obtain ⟨v', w', hr, g1, g2, g3, g4⟩ := run_append_own_at (P := Try.prog) w base t o.type e i0 z 1 sz hu hi0 hz0 hz1 hz2 hzc (by decide) v vs.length vs hown.2 ad xs.length c xs (by omega) (fun j u hj => by
      obtain ⟨b, off, hA, _, hc⟩ := hp (by rintro rfl; simp at hj)
      cases hA
      rw [Go.WideShapes.add_plain]
      exact hc j u hj) h1 (by unfold maxLen; omega) hb hbase
    have hov : OwnV e w' base v' (vs ++ xs) := ⟨hall, by rw [hl]; exact g1⟩
    obtain ⟨D, d, hv, _, _⟩ := hov.rd
    subst hv
    unfold Oper.wp execOp
    simp only [ho, resolve, invoke, builtin, Sem.run_bind, Sem.run_pure, Result.andThen_ok, List.map_toArray, List.map_cons, List.map_nil, hs, hx, hr]
    exact h D d w' hov g2 g4
/-- the two laws once more: the new slice written out, its length a number of one's own -/
theorem wpList_append_sl {w : World} {ops : Array Oper} {rest : List Oper} {o : Oper} {a : Act} {Q : Exit → Act → World → Prop} (t e : TypeId) (z : Value) (sz : Nat) (hu : Try.prog.underlying t = some (.slice e)) (hinfo : (Try.prog.info? e).map (fun i => (i.zero, i.size, i.bytes)) = some (some z, 1, sz)) (hzc : z.cells.size = 1) (hsz : sz ≤ 16)
    (hgd : o.guard = none) (s x : Operand) (ho : o.op = .call { callee := .builtin .append, args := #[s, x], argTypes := #[t, t] }) (base : Nat) (v : Value) (vs xs : List Value) (m : Nat) (hm : (vs ++ xs).length = m) (hs : a.eval s = v) (hown : OwnV e w base v vs)
    (B : Nat) (A : Option Addr) (n c : Nat) (hn : xs.length = n) (hx : a.eval x = .slice A n c) (hp : RdV w B A xs) (h1 : ∀ u ∈ xs, u.oneCell' = true) (hlen : m ≤ 8000000000) (hbase : base ≤ w.heap.size)
    (h : ∀ D d w', OwnV e w' base (.slice D m d) (vs ++ xs) → w.grownBy w' v.ownBlock → ((Value.slice D m d).ownBlock = v.ownBlock ∨ (Value.slice D m d).ownBlock = some w.heap.size) → wpList Try.prog ops Q rest (a.put o.dst (.slice D m d)) w') : wpList Try.prog ops Q (o :: rest) a w := by
  subst hm
  refine wpList_append_vals t e z sz hu hinfo hzc hsz hgd s x ho base v vs xs hs hown B A n c hn hx hp h1 (by rw [← List.length_append]; exact hlen) hbase ?_
  intro v' w' g1 g2 g3
  obtain ⟨D, d, hv, _, _⟩ := g1.rd
  subst hv
  exact h D d w' g1 g2 g3
theorem step_append_sl {w : World} {ops : Array Oper} {o : Oper} {a : Act} {K : Act → World → Prop} {Q : Exit → Act → World → Prop} {E : Prop} (t e : TypeId) (z : Value) (sz : Nat) (hu : Try.prog.underlying t = some (.slice e)) (hinfo : (Try.prog.info? e).map (fun i => (i.zero, i.size, i.bytes)) = some (some z, 1, sz)) (hzc : z.cells.size = 1) (hsz : sz ≤ 16)
    (hgd : o.guard = none) (s x : Operand) (ho : o.op = .call { callee := .builtin .append, args := #[s, x], argTypes := #[t, t] }) (base : Nat) (v : Value) (vs xs : List Value) (m : Nat) (hm : (vs ++ xs).length = m) (hs : a.eval s = v) (hown : OwnV e w base v vs)
    (B : Nat) (A : Option Addr) (n c : Nat) (hn : xs.length = n) (hx : a.eval x = .slice A n c) (hp : RdV w B A xs) (h1 : ∀ u ∈ xs, u.oneCell' = true) (hlen : m ≤ 8000000000) (hbase : base ≤ w.heap.size)
    (h : ∀ D d w', OwnV e w' base (.slice D m d) (vs ++ xs) → w.grownBy w' v.ownBlock → ((Value.slice D m d).ownBlock = v.ownBlock ∨ (Value.slice D m d).ownBlock = some w.heap.size) → K (a.put o.dst (.slice D m d)) w') :
    if Region.wanted o (yielded ops a.tmps) = true then Oper.wp Try.prog o a w K Q else E := by
  subst hm
  exact step_append_vals t e z sz hu hinfo hzc hsz hgd s x ho base v vs xs hs hown B A n c hn hx hp h1 (by rw [← List.length_append]; exact hlen) hbase h
end Go.Proofs.Ytgplbbmenmbaaaa
