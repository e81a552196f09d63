/-
  CONTRACTS of package pantileref03 (the document's answers for layer 3), third part: Nearest, Around, Cell.
-/
import Derived.Test.YtkkpgfpkeiamaaaRf8
import Derived.Test.YtkkpgfpkeiamaaaBx4
import Derived.Maps.AppendAt
namespace Go.Proofs.Ytkkpgfpkeiamaaa
open Go.ChangeShapes Go.WideShapes Go.ChangeAt Go.RowKit

/-- 'append(v, y)' onto a row of the call's own -/
theorem app_one {w : World} {ops : Array Oper} {rest : List Oper} {o : Oper} {a : Act} {Q : Exit → Act → World → Prop} (hgd : o.guard = none) (s x : Operand)
    (ho : o.op = .call { callee := .builtin .append, args := #[s, x], argTypes := #[22, 22] }) (base : Nat) (v : Value) (n : Nat) (xs : List Value) {y : Int} (hs : a.eval s = v) (hown : w.ownsRow base 47 1 v n xs)
    {gb : Nat} (hx : a.eval x = .slice (some ⟨gb, 0, none⟩) 1 1) (hgb : gb = w.heap.size) (hn : n ≤ 1000) (hbase : base ≤ w.heap.size)
    (h : ∀ v' w', w'.ownsRow base 47 1 v' (n + 1) (xs ++ [.int .u64 y]) → (w.alloc (.cells #[.int .u64 y] 47)).grownBy w' v.ownBlock → (v'.ownBlock = v.ownBlock ∨ v'.ownBlock = some (w.heap.size + 1)) → wpList Try.prog ops Q rest (a.put o.dst v') w') :
    wpList Try.prog ops Q (o :: rest) a (w.alloc (.cells #[.int .u64 y] 47)) := by
  obtain ⟨i0, hi0, hz0, hz1, hz2⟩ := info_parts info_u64
  subst hgb
  refine wpList_append_own_at _ hgd s x 22 ho base 47 i0 (.int .u64 0) 1 8 Try.underlying22 hi0 hz0 hz1 hz2 rfl (by decide) v n xs hs (hown.alloc _) ⟨w.heap.size, 0, none⟩ 1 1 [.int .u64 y] hx rfl (cell_one_new _ _ _) (by intro u hu; simp at hu; subst hu; rfl) (by unfold maxLen; omega) (by omega) (by simp; omega) ?_
  intro v' w' h1 h2 _ h4
  rw [World.size_alloc] at h4
  exact h v' w' h1 h2 h4

theorem take_next {k : Nat} (f : Nat → Nat) {j : Nat} {y : Int} (hj : j < k) (hy : y = (f j : Int)) : (vals (Bx.tab k f)).take j ++ [.int .u64 y] = (vals (Bx.tab k f)).take (j + 1) := by
  have hj' : j < (vals (Bx.tab k f)).length := by rw [vals_length, Bx.tab_length]; exact hj
  have e : (vals (Bx.tab k f))[j] = .int .u64 (f j : Int) := (List.getElem?_eq_some_iff.1 (vals_get (Bx.tab_get f hj))).2
  rw [Z.take_snoc _ j hj', e, hy]
theorem own_tab {w : World} {base k j : Nat} {v : Value} {f : Nat → Nat} (h : w.ownsRow base 47 1 v j ((vals (Bx.tab k f)).take j)) (hj : j = k) (hf : ∀ i, i < k → f i < 18446744073709551616) : Own w base v (Bx.tab k f) := by
  subst hj
  refine ⟨Bx.tab_ok hf, ?_⟩
  rw [Bx.tab_length]
  rwa [List.take_of_length_le (by rw [vals_length, Bx.tab_length]; omega)] at h

theorem owns_slice {w : World} {base : Nat} {e : TypeId} {size : Nat} {v : Value} {n : Nat} {xs : List Value} (h : w.ownsRow base e size v n xs) : ∃ A c, v = .slice A n c := by
  rcases h.2 with ⟨rfl, rfl⟩ | ⟨g, cap, cur, rfl, _⟩
  · exact ⟨none, 0, rfl⟩
  · exact ⟨_, cap, rfl⟩

/-! ### two rows that grow side by side, in the two cells of a box -/
/-- the result's block at w.heap.size, the box in block bb, its two rows in other blocks -/
def P2 (w wr : World) (bb : Nat) (vL vH : Value) (nL nH : Nat) (xL xH : List Value) : Prop :=
  Below w.heap.size w wr ∧ w.heap.size < bb ∧ bb < wr.heap.size ∧ Bx0 wr w.heap.size (.slice none 0 0) (.slice none 0 0) ∧ Bx0 wr bb vL vH ∧
    wr.ownsRow (w.heap.size + 1) 47 1 vL nL xL ∧ wr.ownsRow (w.heap.size + 1) 47 1 vH nH xH ∧ (vL.ownBlock = none ∨ vL.ownBlock ≠ vH.ownBlock) ∧ vL.ownBlock ≠ some bb ∧ vH.ownBlock ≠ some bb
theorem bx0_setCell0 {w : World} {b : Nat} {x y : Value} (h : Bx0 w b x y) (v : Value) : Bx0 (w.setCell ⟨b, 0, none⟩ v) b v y := by
  refine ⟨World.cell?_setCell_same _ _ _ h.1, ?_, ?_, ?_⟩
  · rw [World.cell?_setCell_other _ _ _ _ (by simp)]; exact h.2.1
  · rw [World.frozen?_setCell]; exact h.2.2.1
  · rw [World.frozen?_setCell]; exact h.2.2.2
theorem bx0_setCell1 {w : World} {b : Nat} {x y : Value} (h : Bx0 w b x y) (v : Value) : Bx0 (w.setCell ⟨b, 1, none⟩ v) b x v := by
  refine ⟨?_, World.cell?_setCell_same _ _ _ h.2.1, ?_, ?_⟩
  · rw [World.cell?_setCell_other _ _ _ _ (by simp)]; exact h.1
  · rw [World.frozen?_setCell]; exact h.2.2.1
  · rw [World.frozen?_setCell]; exact h.2.2.2
theorem p2_grow {w wr w1 : World} {bb : Nat} {vL vH v : Value} {nL nH : Nat} {xL xH : List Value} (S : P2 w wr bb vL vH nL nH xL xH) (o : Obj) (hg : (wr.alloc o).grownBy w1 v.ownBlock) (hv : v = vL ∨ v = vH) :
    Below w.heap.size w w1 ∧ bb < w1.heap.size ∧ Bx0 w1 w.heap.size (.slice none 0 0) (.slice none 0 0) ∧ Bx0 w1 bb vL vH := by
  obtain ⟨h1, h2, h3, h4, h5, h6, h7, h8, h9, h10⟩ := S
  have hbase : ∀ k, v.ownBlock = some k → w.heap.size + 1 ≤ k ∧ k ≠ bb := by
    rcases hv with rfl | rfl
    · exact fun k hk => ⟨(h6.lt k hk).1, fun e => h9 (by rw [hk, e])⟩
    · exact fun k hk => ⟨(h7.lt k hk).1, fun e => h10 (by rw [hk, e])⟩
  have hbl : ∀ b, b < wr.heap.size → (b = bb ∨ b ≤ w.heap.size) → w1.heap[b]? = wr.heap[b]? := fun b hb hc => by
    rw [hg.block b (by simp; omega) (by intro e; have := hbase b e.symm; omega), Below.heap_alloc _ _ _ (by omega)]
  refine ⟨(h1.alloc (by omega) o).grown hg (by simp; omega) (fun k hk => by have := hbase k hk; omega), ?_, bx0_block h4 (hbl _ (by omega) (.inr (Nat.le_refl _))), bx0_block h5 (hbl _ h3 (.inl rfl))⟩
  have := hg.size
  rw [World.size_alloc] at this
  omega
theorem p2_lo {w wr w1 : World} {bb : Nat} {vL vH v1 : Value} {nL nH m : Nat} {xL xH x1 : List Value} (S : P2 w wr bb vL vH nL nH xL xH) (o : Obj) (hown : w1.ownsRow (w.heap.size + 1) 47 1 v1 m x1) (hg : (wr.alloc o).grownBy w1 vL.ownBlock)
    (hl : v1.ownBlock = vL.ownBlock ∨ v1.ownBlock = some (wr.heap.size + 1)) : Bx0 w1 bb vL vH ∧ P2 w (w1.setCell ⟨bb, 0, none⟩ v1) bb v1 vH m nH x1 xH := by
  obtain ⟨g1, g2, g3, g4⟩ := p2_grow S o hg (.inl rfl)
  obtain ⟨h1, h2, h3, h4, h5, h6, h7, h8, h9, h10⟩ := S
  have hne : vH.ownBlock = none ∨ vH.ownBlock ≠ vL.ownBlock := by
    rcases h8 with h | h
    · rcases hb : vH.ownBlock with _ | b
      · exact .inl rfl
      · exact .inr (by rw [h]; simp)
    · exact .inr (Ne.symm h)
  have hH := (h7.alloc o).kept hg hne
  have hv1 : v1.ownBlock ≠ some bb := by
    rcases hl with e | e
    · rw [e]; exact h9
    · rw [e]; intro e2; have := Option.some.inj e2; omega
  refine ⟨g4, g1.setCell (p := ⟨bb, 0, none⟩) (by show w.heap.size ≤ bb; omega) _, h2, by simpa using g2, bx0_block g3 (Below.heap_setCell _ _ _ _ (by show w.heap.size ≠ bb; omega)), bx0_setCell0 g4 v1, ownsRow_setCell_other hown hv1 _, ownsRow_setCell_other hH h10 _, ?_, hv1, h10⟩
  rcases hl with e | e
  · rw [e]; exact h8
  · refine .inr ?_
    rw [e]
    intro e2
    have := (h7.lt _ e2.symm).2
    omega
theorem p2_hi {w wr w1 : World} {bb : Nat} {vL vH v1 : Value} {nL nH m : Nat} {xL xH x1 : List Value} (S : P2 w wr bb vL vH nL nH xL xH) (o : Obj) (hown : w1.ownsRow (w.heap.size + 1) 47 1 v1 m x1) (hg : (wr.alloc o).grownBy w1 vH.ownBlock)
    (hl : v1.ownBlock = vH.ownBlock ∨ v1.ownBlock = some (wr.heap.size + 1)) : Bx0 w1 bb vL vH ∧ P2 w (w1.setCell ⟨bb, 1, none⟩ v1) bb vL v1 nL m xL x1 := by
  obtain ⟨g1, g2, g3, g4⟩ := p2_grow S o hg (.inr rfl)
  obtain ⟨h1, h2, h3, h4, h5, h6, h7, h8, h9, h10⟩ := S
  have hL := (h6.alloc o).kept hg h8
  have hv1 : v1.ownBlock ≠ some bb := by
    rcases hl with e | e
    · rw [e]; exact h10
    · rw [e]; intro e2; have := Option.some.inj e2; omega
  refine ⟨g4, g1.setCell (p := ⟨bb, 1, none⟩) (by show w.heap.size ≤ bb; omega) _, h2, by simpa using g2, bx0_block g3 (Below.heap_setCell _ _ _ _ (by show w.heap.size ≠ bb; omega)), bx0_setCell1 g4 v1, ownsRow_setCell_other hL h9 _, ownsRow_setCell_other hown hv1 _, ?_, h9, hv1⟩
  rcases hl with e | e
  · rw [e]; exact h8
  · rcases hb : vL.ownBlock with _ | b
    · exact .inl rfl
    · refine .inr ?_
      rw [e]
      intro e2
      have := (h6.lt _ hb).2
      have := Option.some.inj e2
      omega
/-- the box in the result's block -/
theorem p2_out {w wr : World} {vL vH : Value} {us vs : List Nat} (h0 : Bx0 wr w.heap.size (.slice none 0 0) (.slice none 0 0)) (hb : Below w.heap.size w wr) (o1 : Own wr (w.heap.size + 1) vL us) (o2 : Own wr (w.heap.size + 1) vH vs) :
    ((wr.setCell ⟨w.heap.size, 0, none⟩ vL).setCell ⟨w.heap.size, 1, none⟩ vH).cell? ⟨w.heap.size, 0, none⟩ = some vL ∧ ((wr.setCell ⟨w.heap.size, 0, none⟩ vL).setCell ⟨w.heap.size, 1, none⟩ vH).cell? ⟨w.heap.size, 1, none⟩ = some vH ∧
    Own ((wr.setCell ⟨w.heap.size, 0, none⟩ vL).setCell ⟨w.heap.size, 1, none⟩ vH) w.heap.size vL us ∧ Own ((wr.setCell ⟨w.heap.size, 0, none⟩ vL).setCell ⟨w.heap.size, 1, none⟩ vH) w.heap.size vH vs ∧
    Below w.heap.size w ((wr.setCell ⟨w.heap.size, 0, none⟩ vL).setCell ⟨w.heap.size, 1, none⟩ vH) := by
  obtain ⟨k0, k1⟩ := bx0_two h0 vL vH
  have n1 : vL.ownBlock ≠ some w.heap.size := fun e => by have := (o1.2.lt _ e).1; omega
  have n2 : vH.ownBlock ≠ some w.heap.size := fun e => by have := (o2.2.lt _ e).1; omega
  exact ⟨k0, k1, (own_store (own_store o1 n1 _) n1 _).mono (by omega), (own_store (own_store o2 n2 _) n2 _).mono (by omega), bx0_below hb _ _⟩
theorem p2_eq {w wr : World} {bb : Nat} {vL vH : Value} {nL nH : Nat} {xL xH yL yH : List Value} (S : P2 w wr bb vL vH nL nH xL xH) (h1 : xL = yL) (h2 : xH = yH) : P2 w wr bb vL vH nL nH yL yH := by
  subst h1 h2; exact S
theorem p2_new (w : World) : P2 w ((w.alloc (.cells #[.slice none 0 0, .slice none 0 0] 24)).alloc (.cells #[.slice none 0 0, .slice none 0 0] 24)) (w.heap.size + 1) (.slice none 0 0) (.slice none 0 0) 0 0 [] [] :=
  ⟨(below_alloc _ _).alloc (by simp) _, by omega, by simp, bx0_at (heap_past _ (heap_at _ _ _ rfl)), bx0_at (heap_at _ _ _ (by simp)), World.ownsRow_nil _ _ _ _, World.ownsRow_nil _ _ _ _, .inl rfl, by simp [Value.ownBlock], by simp [Value.ownBlock]⟩

/-! ### Around -/
end Go.Proofs.Ytkkpgfpkeiamaaa
