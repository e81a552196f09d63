import Derived.Test.YtjcmehplcagejaaGreatDoorM07
import Derived.Test.YtjcmehplcagejaaGreatDoorM05
/-
  CONTRACTS of package node, fourth part: Shape.
-/
namespace Go.Proofs.YtjcmehplcagejaaGreatDoor
open Go.ChangeShapes Go.WideShapes Go.ChangeAt Go.RowKit
open Tr (T S4)

abbrev shapeV (lev : Int) (A : Option Addr) (n c : Nat) (A' : Option Addr) (n' c' : Nat) (d : Bool) (v : Nat) : Value := .agg #[.int .i64 lev, .slice A n c, .slice A' n' c', .bool d, .int .u64 (v : Int)]
/-- A SHAPE IN MEMORY: its level, prefix, places, whether it is dense, its value. -/
def ShapeAt (w : World) (e : Ending) (lev : Int) (pre ks : List Nat) (d : Bool) (v : Nat) : Prop :=
  ∃ A c A' c', e = .returned (shapeV lev A pre.length c A' ks.length c' d v) ∧ Pts w w.heap.size A pre ∧ RdV w w.heap.size A' (Sn.intV ks)
/-- the same, and its lists lie in new memory -/
def ShapeNew (base : Nat) (w : World) (e : Ending) (lev : Int) (pre ks : List Nat) (d : Bool) (v : Nat) : Prop :=
  ∃ A c A' c', e = .returned (shapeV lev A pre.length c A' ks.length c' d v) ∧ Pts w w.heap.size A pre ∧ RdV w w.heap.size A' (Sn.intV ks) ∧ (∀ x, A = some x → base ≤ x.block) ∧ (ks ≠ [] → ∀ x, A' = some x → base ≤ x.block)
theorem ShapeNew.at {base : Nat} {w : World} {e : Ending} {lev : Int} {pre ks : List Nat} {d : Bool} {v : Nat} (h : ShapeNew base w e lev pre ks d v) : ShapeAt w e lev pre ks d v := by
  obtain ⟨A, c, A', c', h1, h2, h3, -⟩ := h
  exact ⟨A, c, A', c', h1, h2, h3⟩
/-- block b holds five values, and may be written -/
def Q5 (w : World) (b : Nat) (x0 x1 x2 x3 x4 : Value) : Prop :=
  (w.cell? ⟨b, 0, none⟩ = some x0 ∧ w.cell? ⟨b, 1, none⟩ = some x1 ∧ w.cell? ⟨b, 2, none⟩ = some x2 ∧ w.cell? ⟨b, 3, none⟩ = some x3 ∧ w.cell? ⟨b, 4, none⟩ = some x4) ∧
    (w.frozen? ⟨b, 0, none⟩ = false ∧ w.frozen? ⟨b, 1, none⟩ = false ∧ w.frozen? ⟨b, 2, none⟩ = false ∧ w.frozen? ⟨b, 3, none⟩ = false ∧ w.frozen? ⟨b, 4, none⟩ = false)
theorem Q5.below {w w' : World} {C b : Nat} {x0 x1 x2 x3 x4 : Value} (h : Q5 w b x0 x1 x2 x3 x4) (hb : Below C w w') (hg : b < C) : Q5 w' b x0 x1 x2 x3 x4 :=
  ⟨⟨(hb.cell (p := ⟨b, 0, none⟩) hg).trans h.1.1, (hb.cell (p := ⟨b, 1, none⟩) hg).trans h.1.2.1, (hb.cell (p := ⟨b, 2, none⟩) hg).trans h.1.2.2.1, (hb.cell (p := ⟨b, 3, none⟩) hg).trans h.1.2.2.2.1, (hb.cell (p := ⟨b, 4, none⟩) hg).trans h.1.2.2.2.2⟩,
    ⟨(hb.frozen (p := ⟨b, 0, none⟩) hg).trans h.2.1, (hb.frozen (p := ⟨b, 1, none⟩) hg).trans h.2.2.1, (hb.frozen (p := ⟨b, 2, none⟩) hg).trans h.2.2.2.1, (hb.frozen (p := ⟨b, 3, none⟩) hg).trans h.2.2.2.2.1, (hb.frozen (p := ⟨b, 4, none⟩) hg).trans h.2.2.2.2.2⟩⟩
theorem Q5.drew {w : World} {b : Nat} {x0 x1 x2 x3 x4 : Value} (h : Q5 w b x0 x1 x2 x3 x4) : Q5 w.drew b x0 x1 x2 x3 x4 := h
theorem Q5.set {w : World} {b : Nat} {x0 x1 x2 x3 x4 : Value} (h : Q5 w b x0 x1 x2 x3 x4) (y0 y1 y2 y3 y4 : Value) :
    Q5 (((((w.setCell ⟨b, 0, none⟩ y0).setCell ⟨b, 1, none⟩ y1).setCell ⟨b, 2, none⟩ y2).setCell ⟨b, 3, none⟩ y3).setCell ⟨b, 4, none⟩ y4) b y0 y1 y2 y3 y4 := by
  obtain ⟨⟨h0, h1, h2, h3, h4⟩, ⟨f0, f1, f2, f3, f4⟩⟩ := h
  have e : ∀ (w : World) (v : Value) (i j : Nat), i ≠ j → (w.setCell ⟨b, i, none⟩ v).cell? ⟨b, j, none⟩ = w.cell? ⟨b, j, none⟩ := fun w v i j hij => World.cell?_setCell_other _ _ _ _ (by first | (simp; done) | (simp; omega))
  have f : ∀ (w : World) (v : Value) (i j : Nat), (w.setCell ⟨b, i, none⟩ v).frozen? ⟨b, j, none⟩ = w.frozen? ⟨b, j, none⟩ := fun w v i j => World.frozen?_setCell _ _ _ _
  refine ⟨⟨?_, ?_, ?_, ?_, ?_⟩, ⟨by rw [f, f, f, f, f]; exact f0, by rw [f, f, f, f, f]; exact f1, by rw [f, f, f, f, f]; exact f2, by rw [f, f, f, f, f]; exact f3, by rw [f, f, f, f, f]; exact f4⟩⟩
  · rw [e _ _ 4 0 (by omega), e _ _ 3 0 (by omega), e _ _ 2 0 (by omega), e _ _ 1 0 (by omega)]; exact World.cell?_setCell_same _ _ _ h0
  · rw [e _ _ 4 1 (by omega), e _ _ 3 1 (by omega), e _ _ 2 1 (by omega)]; exact World.cell?_setCell_same _ _ _ ((e _ _ 0 1 (by omega)).trans h1)
  · rw [e _ _ 4 2 (by omega), e _ _ 3 2 (by omega)]; exact World.cell?_setCell_same _ _ _ ((e _ _ 1 2 (by omega)).trans ((e _ _ 0 2 (by omega)).trans h2))
  · rw [e _ _ 4 3 (by omega)]; exact World.cell?_setCell_same _ _ _ ((e _ _ 2 3 (by omega)).trans ((e _ _ 1 3 (by omega)).trans ((e _ _ 0 3 (by omega)).trans h3)))
  · exact World.cell?_setCell_same _ _ _ ((e _ _ 3 4 (by omega)).trans ((e _ _ 2 4 (by omega)).trans ((e _ _ 1 4 (by omega)).trans ((e _ _ 0 4 (by omega)).trans h4))))
theorem OwnV.same {e : TypeId} {w : World} {base : Nat} {v : Value} {xs : List Value} (h : OwnV e w base v xs) : OwnV e w.drew base v xs := h

/-- the shape of any node -/
def denseT (k : Nat) (t : T) : Bool := Sl.dense k (kidL t.ks)
end Go.Proofs.YtjcmehplcagejaaGreatDoor
