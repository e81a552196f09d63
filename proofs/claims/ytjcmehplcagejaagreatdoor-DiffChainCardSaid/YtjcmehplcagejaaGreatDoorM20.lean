import Derived.Test.YtjcmehplcagejaaGreatDoorM19
import Derived.Test.YtjcmehplcagejaaGreatDoorM06
import Derived.StillTailTactics
/-
  CONTRACTS of package pantileref06, fifth part: what Shape lays in memory ahead of its loop.
-/
namespace Go.Proofs.YtjcmehplcagejaaGreatDoor
open Go.ChangeShapes Go.WideShapes Go.ChangeAt Go.RowKit
open Tr (T S4 Ent)

theorem Q5.other {w : World} {b : Nat} {x0 x1 x2 x3 x4 : Value} (h : Q5 w b x0 x1 x2 x3 x4) (a : Addr) (v : Value) (ha : a.block ≠ b) : Q5 (w.setCell a v) b x0 x1 x2 x3 x4 := by
  have e : ∀ i, (w.setCell a v).cell? ⟨b, i, none⟩ = w.cell? ⟨b, i, none⟩ := fun i => World.cell?_setCell_other _ _ _ _ (by rintro rfl; exact ha rfl)
  have f : ∀ i, (w.setCell a v).frozen? ⟨b, i, none⟩ = w.frozen? ⟨b, i, none⟩ := fun i => World.frozen?_setCell _ _ _ _
  exact ⟨⟨(e 0).trans h.1.1, (e 1).trans h.1.2.1, (e 2).trans h.1.2.2.1, (e 3).trans h.1.2.2.2.1, (e 4).trans h.1.2.2.2.2⟩, ⟨(f 0).trans h.2.1, (f 1).trans h.2.2.1, (f 2).trans h.2.2.2.1, (f 3).trans h.2.2.2.2.1, (f 4).trans h.2.2.2.2.2⟩⟩
/-- the memory of Shape ahead of its loop: the shape lies in block g3, its prefix in a row of the call's own, n places in another -/
def Lay6 (w wx : World) (g3 l n : Nat) (pre : List Nat) (V : Value) (ps : List Value) : Prop :=
  w.heap.size < g3 ∧ g3 < wx.heap.size ∧ (∃ A1 c1, Q5 wx g3 (.int .i64 (l : Int)) (.slice A1 pre.length c1) V (.bool false) (.int .u64 0) ∧ Pts wx wx.heap.size A1 pre ∧ (∀ x, A1 = some x → x.block ≠ g3 ∧ w.heap.size < x.block ∧ ∀ q, V.ownBlock = some q → x.block ≠ q)) ∧
    ps.length = n ∧ OwnV 3 wx (w.heap.size + 1) V ps ∧ (∀ q, V.ownBlock = some q → q ≠ g3) ∧ Q5 wx w.heap.size (.int .i64 0) (.slice none 0 0) (.slice none 0 0) (.bool false) (.int .u64 0) ∧ Below w.heap.size w wx
theorem Q5.grown {w w1 : World} {b : Nat} {row : Option Nat} {x0 x1 x2 x3 x4 : Value} (h : Q5 w b x0 x1 x2 x3 x4) (hg : w.grownBy w1 row) (hb : b < w.heap.size) (hne : row ≠ some b) : Q5 w1 b x0 x1 x2 x3 x4 := by
  have hk : w1.heap[b]? = w.heap[b]? := hg.block b hb (fun e => hne e.symm)
  have e : ∀ i, w1.cell? ⟨b, i, none⟩ = w.cell? ⟨b, i, none⟩ := fun i => World.cell?_of_block (w := w) (a := ⟨b, i, none⟩) hk
  have f : ∀ i, w1.frozen? ⟨b, i, none⟩ = w.frozen? ⟨b, i, none⟩ := fun i => World.frozen?_of_block (w := w) (a := ⟨b, i, none⟩) hk
  exact ⟨⟨(e 0).trans h.1.1, (e 1).trans h.1.2.1, (e 2).trans h.1.2.2.1, (e 3).trans h.1.2.2.2.1, (e 4).trans h.1.2.2.2.2⟩, ⟨(f 0).trans h.2.1, (f 1).trans h.2.2.1, (f 2).trans h.2.2.2.1, (f 3).trans h.2.2.2.2.1, (f 4).trans h.2.2.2.2.2⟩⟩
theorem Lay6.below {w wx w' : World} {g3 l n : Nat} {pre : List Nat} {V : Value} {ps : List Value} (h : Lay6 w wx g3 l n pre V ps) (hb : Below wx.heap.size wx w') : Lay6 w w' g3 l n pre V ps := by
  obtain ⟨h1, h2, ⟨A1, c1, h3, h4, h5⟩, h6, h7, h8, h9, h10⟩ := h
  exact ⟨h1, Nat.lt_of_lt_of_le h2 hb.size, ⟨A1, c1, h3.below hb h2, (h4.below' hb (Nat.le_refl _)).keep hb.size (fun _ _ => rfl), h5⟩, h6, h7.below hb (Nat.le_refl _), h8, h9.below hb (by omega), h10.trans (hb.mono h10.size)⟩
end Go.Proofs.YtjcmehplcagejaaGreatDoor
