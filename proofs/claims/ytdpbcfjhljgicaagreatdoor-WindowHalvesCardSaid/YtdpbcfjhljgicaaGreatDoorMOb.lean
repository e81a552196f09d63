import Derived.Test.YtdpbcfjhljgicaaGreatDoorM50
import Derived.Test.YtdpbcfjhljgicaaGreatDoorM17
import Derived.ShutString
import Derived.ChangeOld
/-
  HOW THE ARGUMENTS OF A LAW ARE OPENED: a box, as the row's reading hands them over.
-/
namespace Go.Proofs.YtdpbcfjhljgicaaGreatDoor
open Go.ChangeShapes Go.WideShapes Go.ChangeAt Go.RowKit

theorem cells_box : Tryz.prog.cellsOf 25 = 2 := by kernel_rfl

set_option maxRecDepth 1000000 in
/-- an argument of type api.Box -/
theorem open_box {H : Type} {enc : TypeId × Value → H} {W : World} {v : Value} {d : DataW H} {ps : List MemPlace} (hv : Value.okWide Tryz.prog W .any 0 25 v) (h : DataW.Trod enc Tryz.prog W 0 (fun _ => true) true 25 v d ps) :
    ∃ (A : Option Addr) (c : Nat) (A' : Option Addr) (c' : Nat) (lo hi : List Nat), v = boxV A lo.length c A' hi.length c' ∧ lo.length ≤ maxLen ∧ hi.length ≤ maxLen ∧ Pts W W.heap.size A lo ∧ Pts W W.heap.size A' hi := by
  obtain ⟨cs, rfl, hs⟩ := okWide_struct Tryz.underlying25 hv
  rw [cells_box] at hs
  obtain ⟨l⟩ := cs
  match l, hs with
  | [v0, v1], _ =>
    obtain ⟨fuel, hf⟩ := h
    obtain ⟨xs, n, _, _, _, hxl, hfs⟩ := DataW.trod_struct Tryz.underlying25 hf
    match xs, hxl with
    | [y0, y1], _ =>
      have g0 := hfs 0 _ rfl
      have g1 := hfs 1 _ rfl
      simp [Value.cells, cells_u64s] at g0 g1
      obtain ⟨A, c, lo, e0, m0, p0⟩ := open_u64s g0
      obtain ⟨A', c', hi, e1, m1, p1⟩ := open_u64s g1
      simp at e0 e1
      subst e0 e1
      exact ⟨A, c, A', c', lo, hi, rfl, m0, m1, p0, p1⟩

end Go.Proofs.YtdpbcfjhljgicaaGreatDoor
