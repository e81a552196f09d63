/-
  HOW A MASK AMONG A LAW's ARGUMENTS IS OPENED, as the row's reading hands it over.
-/
import Derived.Test.YtkkpgfpkeiamaaaOb
import Derived.Test.YtkkpgfpkeiamaaaMk1
namespace Go.Proofs.Ytkkpgfpkeiamaaa
open Go.ChangeShapes Go.WideShapes Go.ChangeAt Go.RowKit

theorem cells_mask : Try.prog.cellsOf 27 = 3 := by kernel_rfl
theorem cells_int : Try.prog.cellsOf 3 = 1 := by kernel_rfl
/-- an argument of type mask.Mask -/
theorem open_mask {H : Type} {enc : TypeId × Value → H} {W : World} {v : Value} {d : DataW H} {ps : List MemPlace} (hv : Value.okWide Try.prog W .any 0 27 v) (h : DataW.Trod enc Try.prog W 0 (fun _ => true) true 27 v d ps) :
    ∃ k lo hi : Int, v = maskV k lo hi ∧ I64 k ∧ I64 lo ∧ I64 hi := by
  obtain ⟨cs, rfl, hs⟩ := okWide_struct Try.underlying27 hv
  rw [cells_mask] at hs
  obtain ⟨l⟩ := cs
  match l, hs with
  | [v0, v1, v2], _ =>
    obtain ⟨fuel, hf⟩ := h
    obtain ⟨xs, n, _, _, _, hxl, hfs⟩ := DataW.trod_struct Try.underlying27 hf
    match xs, hxl with
    | [y0, y1, y2], _ =>
      have g0 := hfs 0 _ rfl
      have g1 := hfs 1 _ rfl
      have g2 := hfs 2 _ rfl
      simp [Value.cells, cells_int] at g0 g1 g2
      obtain ⟨k, e0, _, w0⟩ := DataW.trod_int Try.underlying3 g0
      obtain ⟨lo, e1, _, w1⟩ := DataW.trod_int Try.underlying3 g1
      obtain ⟨hi, e2, _, w2⟩ := DataW.trod_int Try.underlying3 g2
      simp at e0 e1 e2
      subst e0 e1 e2
      exact ⟨k, lo, hi, rfl, bounds_i64 w0, bounds_i64 w1, bounds_i64 w2⟩
end Go.Proofs.Ytkkpgfpkeiamaaa
