/-
  CONTRACTS of package pantileref06, fifth part: what Shape lays in memory ahead of its loop.
-/
import Derived.Test.YtgplbbmenmbaaaaRn4
import Derived.Test.YtgplbbmenmbaaaaRn3
namespace Go.Proofs.Ytgplbbmenmbaaaa
open Go.ChangeShapes Go.WideShapes Go.ChangeAt Go.RowKit
open Tr (T S4 Ent)

theorem Q5.other {w : World} {b : Nat} {x0 x1 x2 x3 x4 : Value} (h : Q5 w b x0 x1 x2 x3 x4) (a : Addr) (v : Value) (ha : a.block ≠ b) : Q5 (w.setCell a v) b x0 x1 x2 x3 x4 := by
  have e : ∀ i, (w.setCell a v).cell? ⟨b, i, none⟩ = w.cell? ⟨b, i, none⟩ := fun i => World.cell?_setCell_other _ _ _ _ (by rintro rfl; exact ha rfl)
  have f : ∀ i, (w.setCell a v).frozen? ⟨b, i, none⟩ = w.frozen? ⟨b, i, none⟩ := fun i => World.frozen?_setCell _ _ _ _
  exact ⟨⟨(e 0).trans h.1.1, (e 1).trans h.1.2.1, (e 2).trans h.1.2.2.1, (e 3).trans h.1.2.2.2.1, (e 4).trans h.1.2.2.2.2⟩, ⟨(f 0).trans h.2.1, (f 1).trans h.2.2.1, (f 2).trans h.2.2.2.1, (f 3).trans h.2.2.2.2.1, (f 4).trans h.2.2.2.2.2⟩⟩
/-- the memory of Shape ahead of its loop: the shape lies in block g3, its prefix in a row of the call's own, n places in another -/
def Lay6 (w wx : World) (g3 l n : Nat) (pre : List Nat) (V : Value) (ps : List Value) : Prop :=
  w.heap.size < g3 ∧ g3 < wx.heap.size ∧ (∃ A1 c1, Q5 wx g3 (.int .i64 (l : Int)) (.slice A1 pre.length c1) V (.bool false) (.int .u64 0) ∧ Pts wx wx.heap.size A1 pre ∧ (∀ x, A1 = some x → x.block ≠ g3 ∧ w.heap.size < x.block ∧ ∀ q, V.ownBlock = some q → x.block ≠ q)) ∧
    ps.length = n ∧ OwnV 3 wx (w.heap.size + 1) V ps ∧ (∀ q, V.ownBlock = some q → q ≠ g3) ∧ Q5 wx w.heap.size (.int .i64 0) (.slice none 0 0) (.slice none 0 0) (.bool false) (.int .u64 0) ∧ Below w.heap.size w wx
theorem lay6_set {w w2 : World} {g3 l base : Nat} {pre : List Nat} {A1 : Option Addr} {c1 : Nat} (hg : w.heap.size < g3) (hg2 : g3 < w2.heap.size) (h3 : Q5 w2 g3 (.int .i64 0) (.slice none 0 0) (.slice none 0 0) (.bool false) (.int .u64 0)) (hp : Pts w2 w2.heap.size A1 pre)
    (ho : Own w2 base (.slice A1 pre.length c1) pre) (hb : g3 < base) (h0 : Q5 w2 w.heap.size (.int .i64 0) (.slice none 0 0) (.slice none 0 0) (.bool false) (.int .u64 0)) (hbe : Below w.heap.size w w2) :
    Lay6 w (((((w2.setCell ⟨g3, 0, none⟩ (.int .i64 (l : Int))).setCell ⟨g3, 1, none⟩ (.slice A1 pre.length c1)).setCell ⟨g3, 2, none⟩ (.slice none 0 0)).setCell ⟨g3, 3, none⟩ (.bool false)).setCell ⟨g3, 4, none⟩ (.int .u64 0)) g3 l 0 pre (.slice none 0 0) [] := by
  have hA : ∀ x, A1 = some x → x.block ≠ g3 := fun x hx => by subst hx; have := (ho.2.lt x.block rfl).1; omega
  have hA2 : ∀ x, A1 = some x → w.heap.size < x.block := fun x hx => by subst hx; have := (ho.2.lt x.block rfl).1; omega
  have hno : ∀ q, (Value.slice none 0 0).ownBlock = some q → False := fun q hq => by simp [Value.ownBlock] at hq
  have hne : g3 ≠ w.heap.size := by omega
  have p5 := (pts_set (pts_set (pts_set (pts_set (pts_set (a := ⟨g3, 0, none⟩) hp hA (.int .i64 (l : Int))) (a := ⟨g3, 1, none⟩) hA (.slice A1 pre.length c1)) (a := ⟨g3, 2, none⟩) hA (.slice none 0 0)) (a := ⟨g3, 3, none⟩) hA (.bool false)) (a := ⟨g3, 4, none⟩) hA (.int .u64 0))
  have q5 := ((((h0.other ⟨g3, 0, none⟩ (.int .i64 (l : Int)) hne).other ⟨g3, 1, none⟩ (.slice A1 pre.length c1) hne).other ⟨g3, 2, none⟩ (.slice none 0 0) hne).other ⟨g3, 3, none⟩ (.bool false) hne).other ⟨g3, 4, none⟩ (.int .u64 0) hne
  have s5 := h3.set (.int .i64 (l : Int)) (.slice A1 pre.length c1) (.slice none 0 0) (.bool false) (.int .u64 0)
  have b5 : Below w.heap.size w (((((w2.setCell ⟨g3, 0, none⟩ (.int .i64 (l : Int))).setCell ⟨g3, 1, none⟩ (.slice A1 pre.length c1)).setCell ⟨g3, 2, none⟩ (.slice none 0 0)).setCell ⟨g3, 3, none⟩ (.bool false)).setCell ⟨g3, 4, none⟩ (.int .u64 0)) := ((((hbe.setCell (p := ⟨g3, 0, none⟩) (Nat.le_of_lt hg) _).setCell (p := ⟨g3, 1, none⟩) (Nat.le_of_lt hg) _).setCell (p := ⟨g3, 2, none⟩) (Nat.le_of_lt hg) _).setCell (p := ⟨g3, 3, none⟩) (Nat.le_of_lt hg) _).setCell (p := ⟨g3, 4, none⟩) (Nat.le_of_lt hg) _
  have hsz : (((((w2.setCell ⟨g3, 0, none⟩ (.int .i64 (l : Int))).setCell ⟨g3, 1, none⟩ (.slice A1 pre.length c1)).setCell ⟨g3, 2, none⟩ (.slice none 0 0)).setCell ⟨g3, 3, none⟩ (.bool false)).setCell ⟨g3, 4, none⟩ (.int .u64 0)).heap.size = w2.heap.size := by simp
  generalize ((((w2.setCell ⟨g3, 0, none⟩ (.int .i64 (l : Int))).setCell ⟨g3, 1, none⟩ (.slice A1 pre.length c1)).setCell ⟨g3, 2, none⟩ (.slice none 0 0)).setCell ⟨g3, 3, none⟩ (.bool false)).setCell ⟨g3, 4, none⟩ (.int .u64 0) = W at *
  exact ⟨hg, by omega, ⟨A1, c1, s5, p5.keep (by omega) (fun _ _ => rfl), fun x hx => ⟨hA x hx, hA2 x hx, fun q hq => (hno q hq).elim⟩⟩, rfl, ownV_none _ _ _, fun q hq => (hno q hq).elim, q5, b5⟩
theorem lay6_new {w w2 : World} {l base t : Nat} {pre : List Nat} {A1 : Option Addr} {c1 : Nat} (hg : w.heap.size < w2.heap.size) (hp : Pts w2 w2.heap.size A1 pre)
    (ho : Own w2 base (.slice A1 pre.length c1) pre) (hb : w.heap.size < base) (h0 : Q5 w2 w.heap.size (.int .i64 0) (.slice none 0 0) (.slice none 0 0) (.bool false) (.int .u64 0)) (hbe : Below w.heap.size w w2) :
    Lay6 w (w2.alloc (.cells #[.int .i64 (l : Int), .slice A1 pre.length c1, .slice none 0 0, .bool false, .int .u64 0] t)) w2.heap.size l 0 pre (.slice none 0 0) [] := by
  have hA : ∀ x, A1 = some x → w.heap.size < x.block ∧ x.block < w2.heap.size := fun x hx => by subst hx; have := (ho.2.lt x.block rfl); omega
  have hal := below_alloc w2 (.cells #[.int .i64 (l : Int), .slice A1 pre.length c1, .slice none 0 0, .bool false, .int .u64 0] t)
  exact ⟨hg, by simp, ⟨A1, c1, q5_at (heap_at w2 _ _ rfl), (hp.below' hal (Nat.le_refl _)).keep hal.size (fun _ _ => rfl), fun x hx => ⟨by have := hA x hx; omega, (hA x hx).1, fun q hq => by simp [Value.ownBlock] at hq⟩⟩, rfl, ownV_none _ _ _, fun q hq => by simp [Value.ownBlock] at hq, h0.below hal hg, hbe.trans (hal.mono (by omega))⟩
theorem Q5.grown {w w1 : World} {b : Nat} {row : Option Nat} {x0 x1 x2 x3 x4 : Value} (h : Q5 w b x0 x1 x2 x3 x4) (hg : w.grownBy w1 row) (hb : b < w.heap.size) (hne : row ≠ some b) : Q5 w1 b x0 x1 x2 x3 x4 := by
  have hk : w1.heap[b]? = w.heap[b]? := hg.block b hb (fun e => hne e.symm)
  have e : ∀ i, w1.cell? ⟨b, i, none⟩ = w.cell? ⟨b, i, none⟩ := fun i => World.cell?_of_block (w := w) (a := ⟨b, i, none⟩) hk
  have f : ∀ i, w1.frozen? ⟨b, i, none⟩ = w.frozen? ⟨b, i, none⟩ := fun i => World.frozen?_of_block (w := w) (a := ⟨b, i, none⟩) hk
  exact ⟨⟨(e 0).trans h.1.1, (e 1).trans h.1.2.1, (e 2).trans h.1.2.2.1, (e 3).trans h.1.2.2.2.1, (e 4).trans h.1.2.2.2.2⟩, ⟨(f 0).trans h.2.1, (f 1).trans h.2.2.1, (f 2).trans h.2.2.2.1, (f 3).trans h.2.2.2.2.1, (f 4).trans h.2.2.2.2.2⟩⟩
theorem pts_grown {w w1 : World} {B : Nat} {A : Option Addr} {us : List Nat} {row : Option Nat} (h : Pts w B A us) (hg : w.grownBy w1 row) (hB : B ≤ w.heap.size) (hne : ∀ x, A = some x → row ≠ some x.block) : Pts w1 B A us := by
  refine ⟨h.1, fun hn => ?_⟩
  obtain ⟨b, off, hA, hb, hc⟩ := h.2 hn
  exact ⟨b, off, hA, hb, fun i u hi => (World.cell?_of_block (w := w) (a := ⟨b, off + i, none⟩) (hg.block b (by omega) (Ne.symm (hne _ hA)))).trans (hc i u hi)⟩
theorem rdV_grown {w w1 : World} {B : Nat} {A : Option Addr} {xs : List Value} {row : Option Nat} (h : RdV w B A xs) (hg : w.grownBy w1 row) (hB : B ≤ w.heap.size) (hne : ∀ x, A = some x → row ≠ some x.block) : RdV w1 B A xs := by
  intro hn
  obtain ⟨b, off, hA, hb, hc⟩ := h hn
  exact ⟨b, off, hA, hb, fun i u hi => (World.cell?_of_block (w := w) (a := ⟨b, off + i, none⟩) (hg.block b (by omega) (Ne.symm (hne _ hA)))).trans (hc i u hi)⟩
theorem Lay6.below {w wx w' : World} {g3 l n : Nat} {pre : List Nat} {V : Value} {ps : List Value} (h : Lay6 w wx g3 l n pre V ps) (hb : Below wx.heap.size wx w') : Lay6 w w' g3 l n pre V ps := by
  obtain ⟨h1, h2, ⟨A1, c1, h3, h4, h5⟩, h6, h7, h8, h9, h10⟩ := h
  exact ⟨h1, Nat.lt_of_lt_of_le h2 hb.size, ⟨A1, c1, h3.below hb h2, (h4.below' hb (Nat.le_refl _)).keep hb.size (fun _ _ => rfl), h5⟩, h6, h7.below hb (Nat.le_refl _), h8, h9.below hb (by omega), h10.trans (hb.mono h10.size)⟩
/-- one place more -/
theorem lay6_step {w wr w1 : World} {g3 l n : Nat} {pre : List Nat} {V V1 y : Value} {ps : List Value} (h : Lay6 w wr g3 l n pre V ps) (hpre : pre ≠ []) (o : Obj) (hown : OwnV 3 w1 (w.heap.size + 1) V1 (ps ++ [y])) (hg : (wr.alloc o).grownBy w1 V.ownBlock) (hat : V1.ownBlock = V.ownBlock ∨ V1.ownBlock = some (wr.alloc o).heap.size) :
    (∃ A1 c1, Q5 w1 g3 (.int .i64 (l : Int)) (.slice A1 pre.length c1) V (.bool false) (.int .u64 0)) ∧ Lay6 w (w1.setCell ⟨g3, 2, none⟩ V1) g3 l (n + 1) pre V1 (ps ++ [y]) := by
  have hal := below_alloc wr o
  have hsz : (wr.alloc o).heap.size = wr.heap.size + 1 := by simp
  obtain ⟨h1, h2, ⟨A1, c1, h3, h4, h5⟩, h6, h7, h8, h9, h10⟩ := h
  have r3 : V.ownBlock ≠ some g3 := fun e => h8 g3 e rfl
  have r0 : V.ownBlock ≠ some w.heap.size := fun e => by have := (h7.lt _ e).1; omega
  have q3 := (h3.below hal h2).grown hg (by omega) r3
  have q0 := (h9.below hal (by omega)).grown hg (by omega) r0
  have rA : ∀ x, A1 = some x → V.ownBlock ≠ some x.block := fun x hx e => (h5 x hx).2.2 _ e rfl
  have p1 := pts_grown (h4.below' hal (Nat.le_refl _)) hg (by omega) rA
  have v3 : ∀ q, V1.ownBlock = some q → q ≠ g3 := fun q hq => by
    rcases hat with e | e
    · rw [e] at hq; exact h8 q hq
    · rw [e] at hq; simp only [Option.some.injEq] at hq; omega
  obtain ⟨b, off, hA1, hbB, _⟩ := h4.2 hpre
  have vA : ∀ x, A1 = some x → ∀ q, V1.ownBlock = some q → x.block ≠ q := fun x hx q hq => by
    rcases hat with e | e
    · rw [e] at hq; exact (h5 x hx).2.2 q hq
    · rw [e] at hq; simp only [Option.some.injEq] at hq
      rw [hA1] at hx
      cases hx
      show b ≠ q
      omega
  have hA3 : ∀ x, A1 = some x → x.block ≠ (⟨g3, 2, none⟩ : Addr).block := fun x hx => (h5 x hx).1
  have hb1 : Below w.heap.size w w1 := (h10.trans (hal.mono h10.size)).grown hg (by have := h10.size; omega) (fun q hq => by have := (h7.lt q hq).1; omega)
  have hs1 : wr.heap.size + 1 ≤ w1.heap.size := by rw [← hsz]; exact hg.size
  refine ⟨⟨A1, c1, q3⟩, h1, by simp; omega, ⟨A1, c1, ?_, (pts_set p1 hA3 _).keep (by simp; omega) (fun _ _ => rfl), fun x hx => ⟨(h5 x hx).1, (h5 x hx).2.1, vA x hx⟩⟩, by simp [h6], ownV_store hown (fun e => v3 _ e rfl) _, v3, q0.other _ _ (by show g3 ≠ _; omega), hb1.setCell (p := ⟨g3, 2, none⟩) (Nat.le_of_lt h1) _⟩
  obtain ⟨⟨a0, a1, a2, a3, a4⟩, f⟩ := q3
  have e : ∀ j, 2 ≠ j → (w1.setCell ⟨g3, 2, none⟩ V1).cell? ⟨g3, j, none⟩ = w1.cell? ⟨g3, j, none⟩ := fun j hj => World.cell?_setCell_other _ _ _ _ (by first | (simp; done) | (simp; omega))
  exact ⟨⟨(e 0 (by omega)).trans a0, (e 1 (by omega)).trans a1, World.cell?_setCell_same _ _ _ a2, (e 3 (by omega)).trans a3, (e 4 (by omega)).trans a4⟩, ⟨(World.frozen?_setCell _ _ _ _).trans f.1, (World.frozen?_setCell _ _ _ _).trans f.2.1, (World.frozen?_setCell _ _ _ _).trans f.2.2.1, (World.frozen?_setCell _ _ _ _).trans f.2.2.2.1, (World.frozen?_setCell _ _ _ _).trans f.2.2.2.2⟩⟩
end Go.Proofs.Ytgplbbmenmbaaaa
