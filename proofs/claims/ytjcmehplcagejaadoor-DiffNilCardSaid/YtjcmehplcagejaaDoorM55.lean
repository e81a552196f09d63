import Derived.Test.YtjcmehplcagejaaDoorM28
import Derived.Test.YtjcmehplcagejaaDoorM01
import Derived.Test.YtjcmehplcagejaaDoorM50
import Derived.Test.YtjcmehplcagejaaDoorM23
import Derived.Test.YtjcmehplcagejaaDoorM24
import Derived.Test.YtjcmehplcagejaaDoorM22
import Derived.Test.YtjcmehplcagejaaDoorM06
import Derived.Test.YtjcmehplcagejaaDoorM05
/-
  CONTRACTS of package window, first part: guide.look.
-/
namespace Go.Proofs.YtjcmehplcagejaaDoor
open Go.ChangeShapes Go.WideShapes Go.ChangeAt Go.RowKit

/-- a box that can be read -/
structure BoxP (w : World) (B k : Nat) (C : Option Addr) (lo : List Nat) (C' : Option Addr) (hi : List Nat) : Prop where
  pl : Pts w B C lo
  ph : Pts w B C' hi
  k1 : 1 ≤ k
  k16 : k ≤ 16
  el : lo.length = k
  eh : hi.length = k
theorem BoxP.below {w w' : World} {B B' D k : Nat} {C C' : Option Addr} {lo hi : List Nat} (h : BoxP w B k C lo C' hi) (hb : Below D w w') (hD : B ≤ D) (hB : B ≤ B') : BoxP w' B' k C lo C' hi :=
  ⟨(h.pl.below' hb hD).keep hB (fun _ _ => rfl), (h.ph.below' hb hD).keep hB (fun _ _ => rfl), h.k1, h.k16, h.el, h.eh⟩
end Go.Proofs.YtjcmehplcagejaaDoor

/-
  PLAIN MATHEMATICS of layer 9, second part: to which kid the guide goes next.
-/
namespace Go.Proofs.YtjcmehplcagejaaDoor
open Go.ChangeShapes
open Tr (T S4 Ent)

/-- the kids at addresses that a mask leaves, beyond an address -/
def bey (k l h : Nat) (ks : List (Nat × T)) (a : Int) : List (Nat × T) := ks.filter fun x => decide (a < (x.1 : Int)) && Mk.has k l h x.1
end Go.Proofs.YtjcmehplcagejaaDoor

/-
  PLAIN MATHEMATICS of layer 9, third part: the stack of the guide: what is left to be met, and how much there is to be done.
-/
namespace Go.Proofs.YtjcmehplcagejaaDoor
open Go.ChangeShapes
open Tr (T S4 Ent)

/-- A NODE ON THE STACK: which one, the address to which the guide went last, the kid there; its row of kids. -/
structure WFr where
  o : Option T
  a : Int
  p : Option Addr
  A : Option Addr
  m : Nat
  c : Nat
def WFr.own (x : WFr) : Option Nat := x.A.map (·.block)
/-! ### the stack in memory -/
end Go.Proofs.YtjcmehplcagejaaDoor

/-
  CONTRACTS of package window, second part: step.next.
-/
namespace Go.Proofs.YtjcmehplcagejaaDoor
open Go.ChangeShapes Go.WideShapes Go.ChangeAt Go.RowKit
open Tr (T S4 Ent)

/-- a step in a row: the cells from 'off' on of block q -/
structure StepC (cs : Array Value) (off g k l h : Nat) (a : Int) (p : Option Addr) : Prop where
  c0 : cs[off]? = some (.pointer (some ⟨g, 0, none⟩))
  c1 : cs[off + 1]? = some (.int .i64 (k : Int))
  c2 : cs[off + 2]? = some (.int .i64 (l : Int))
  c3 : cs[off + 3]? = some (.int .i64 (h : Int))
  c4 : cs[off + 4]? = some (.int .i64 a)
  c5 : cs[off + 5]? = some (.pointer p)
/-- the step, when the guide has gone on in it -/
def stepTo (cs : Array Value) (off : Nat) (a : Int) (p : Option Addr) : Array Value := (cs.setIfInBounds (off + 4) (.int .i64 a)).setIfInBounds (off + 5) (.pointer p)
theorem StepC.to {cs : Array Value} {off g k l h : Nat} {a : Int} {p : Option Addr} (s : StepC cs off g k l h a p) (a' : Int) (p' : Option Addr) : StepC (stepTo cs off a' p') off g k l h a' p' := by
  have h4 := (Array.getElem?_eq_some_iff.1 s.c4).1
  have h5 := (Array.getElem?_eq_some_iff.1 s.c5).1
  unfold stepTo
  refine ⟨?_, ?_, ?_, ?_, ?_, ?_⟩
  · rw [Array.getElem?_setIfInBounds_ne (by omega), Array.getElem?_setIfInBounds_ne (by omega)]; exact s.c0
  · rw [Array.getElem?_setIfInBounds_ne (by omega), Array.getElem?_setIfInBounds_ne (by omega)]; exact s.c1
  · rw [Array.getElem?_setIfInBounds_ne (by omega), Array.getElem?_setIfInBounds_ne (by omega)]; exact s.c2
  · rw [Array.getElem?_setIfInBounds_ne (by omega), Array.getElem?_setIfInBounds_ne (by omega)]; exact s.c3
  · rw [Array.getElem?_setIfInBounds_ne (by omega), Array.getElem?_setIfInBounds_self_of_lt h4]
  · rw [Array.getElem?_setIfInBounds_self_of_lt (by simpa using h5)]
theorem stepTo_again (cs : Array Value) (off : Nat) (a a' : Int) (p p' : Option Addr) : stepTo (stepTo cs off a p) off a' p' = stepTo cs off a' p' := by
  unfold stepTo
  apply Array.ext_getElem?
  intro i
  simp only [Array.getElem?_setIfInBounds, Array.size_setIfInBounds]
  split <;> split <;> simp_all
/-- what the pass of the loop knows -/
structure NxtI (w : World) (q off g k l h : Nat) (ks : List (Nat × T)) (cs : Array Value) (ty : TypeId) (a0 : Int) (w' : World) (a : Int) (p : Option Addr) : Prop where
  blk : w'.heap[q]? = some (.cells (stepTo cs off a p) ty (0, 0))
  cell : StepC (stepTo cs off a p) off g k l h a p
  foot : Foot (fun b => b = q) w w'
  same : bey k l h ks a = bey k l h ks a0
  lo : -1 ≤ a
  hi : a ≤ 65536
theorem step_cells {q off g k l h : Nat} {cs : Array Value} {ty : TypeId} {w' : World} {a : Int} {p : Option Addr} (hblk : w'.heap[q]? = some (.cells cs ty (0, 0))) (hcell : StepC cs off g k l h a p) :
    ∀ w2 : World, Below w'.heap.size w' w2 → w2.cell? ⟨q, off, none⟩ = some (.pointer (some ⟨g, 0, none⟩)) ∧ w2.cell? ⟨q, off + 1, none⟩ = some (.int .i64 (k : Int)) ∧ w2.cell? ⟨q, off + 1 + 1, none⟩ = some (.int .i64 (l : Int)) ∧ w2.cell? ⟨q, off + 1 + 2, none⟩ = some (.int .i64 (h : Int)) ∧
      w2.cell? ⟨q, off + 4, none⟩ = some (.int .i64 a) ∧ w2.cell? ⟨q, off + 5, none⟩ = some (.pointer p) ∧ w2.frozen? ⟨q, off + 4, none⟩ = false ∧ w2.frozen? ⟨q, off + 5, none⟩ = false := by
  intro w2 hb
  have hq : q < w'.heap.size := (Array.getElem?_eq_some_iff.1 hblk).1
  have h2 := (hb.block q hq).trans hblk
  obtain ⟨c0, c1, c2, c3, c4, c5⟩ := hcell
  exact ⟨by rw [cell_of_row w2 _ _ _ _ (0, 0) h2]; exact c0, by rw [cell_of_row w2 _ _ _ _ (0, 0) h2]; exact c1, by rw [cell_of_row w2 _ _ _ _ (0, 0) h2]; exact c2, by rw [cell_of_row w2 _ _ _ _ (0, 0) h2]; exact c3, by rw [cell_of_row w2 _ _ _ _ (0, 0) h2]; exact c4, by rw [cell_of_row w2 _ _ _ _ (0, 0) h2]; exact c5,
    frozen_of_row w2 _ _ _ ty h2, frozen_of_row w2 _ _ _ ty h2⟩
theorem NxtI.store {w : World} {q off g k l h : Nat} {ks : List (Nat × T)} {cs : Array Value} {ty : TypeId} {a0 : Int} {w' : World} {a : Int} {p : Option Addr} (s : NxtI w q off g k l h ks cs ty a0 w' a p) {wc : World} (hb : Below w'.heap.size w' wc) (i : Nat) (a' : Int) (p' : Option Addr) :
    (((wc.drewN i).setCell ⟨q, off + 4, none⟩ (.int .i64 a')).setCell ⟨q, off + 5, none⟩ (.pointer p')).heap[q]? = some (.cells (stepTo cs off a' p') ty (0, 0)) ∧ StepC (stepTo cs off a' p') off g k l h a' p' ∧
      Foot (fun b => b = q) w (((wc.drewN i).setCell ⟨q, off + 4, none⟩ (.int .i64 a')).setCell ⟨q, off + 5, none⟩ (.pointer p')) := by
  have h1 := ((below_drewN i hb).block q (Array.getElem?_eq_some_iff.1 s.blk).1).trans s.blk
  have h2 := block_set (i := off + 5) (block_set (i := off + 4) h1 (.int .i64 a')) (.pointer p')
  have e : ((stepTo cs off a p).setIfInBounds (off + 4) (.int .i64 a')).setIfInBounds (off + 5) (.pointer p') = stepTo cs off a' p' := stepTo_again cs off a a' p p'
  rw [e] at h2
  have h3 := s.cell.to a' p'
  rw [stepTo_again] at h3
  exact ⟨h2, h3, ((s.foot.trans (Foot.of_below (F := fun b => b = q) (below_drewN i hb)) (fun b hb => .inl hb)).trans (Foot.setCell _ (F := fun b => b = q) (a := ⟨q, off + 4, none⟩) rfl _) (fun b hb => .inl hb)).trans (Foot.setCell _ (F := fun b => b = q) (a := ⟨q, off + 5, none⟩) rfl _) (fun b hb => .inl hb)⟩
theorem NxtI.cells {w : World} {q off g k l h : Nat} {ks : List (Nat × T)} {cs : Array Value} {ty : TypeId} {a0 : Int} {w' : World} {a : Int} {p : Option Addr} (s : NxtI w q off g k l h ks cs ty a0 w' a p) :
    ∀ w2 : World, Below w'.heap.size w' w2 → w2.cell? ⟨q, off, none⟩ = some (.pointer (some ⟨g, 0, none⟩)) ∧ w2.cell? ⟨q, off + 1, none⟩ = some (.int .i64 (k : Int)) ∧ w2.cell? ⟨q, off + 1 + 1, none⟩ = some (.int .i64 (l : Int)) ∧ w2.cell? ⟨q, off + 1 + 2, none⟩ = some (.int .i64 (h : Int)) ∧
      w2.cell? ⟨q, off + 4, none⟩ = some (.int .i64 a) ∧ w2.cell? ⟨q, off + 5, none⟩ = some (.pointer p) ∧ w2.frozen? ⟨q, off + 4, none⟩ = false ∧ w2.frozen? ⟨q, off + 5, none⟩ = false := by
  exact step_cells s.blk s.cell
end Go.Proofs.YtjcmehplcagejaaDoor
