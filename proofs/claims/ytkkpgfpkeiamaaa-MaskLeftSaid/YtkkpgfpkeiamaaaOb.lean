/-
  HOW THE ARGUMENTS OF A LAW ARE OPENED: a point and a box, as the row's reading hands them over.
-/
import Derived.Test.YtkkpgfpkeiamaaaBx1
import Derived.ShutString
import Derived.ChangeOld
namespace Go.Proofs.Ytkkpgfpkeiamaaa
open Go.ChangeShapes Go.WideShapes Go.ChangeAt Go.RowKit

theorem cells_u64s : Try.prog.cellsOf 22 = 1 := by kernel_rfl
theorem cells_box : Try.prog.cellsOf 24 = 2 := by kernel_rfl

/-- the cells that read as a slice of uint64 -/
theorem open_u64s {H : Type} {enc : TypeId × Value → H} {W : World} {fuel : Nat} {cs : List Value} {x : DataW H × List MemPlace} (h : DataW.trod enc Try.prog W 0 (fun _ => true) true fuel 22 cs = some x) :
    ∃ (A : Option Addr) (c : Nat) (us : List Nat), cs = [.slice A us.length c] ∧ us.length ≤ maxLen ∧ Pts W W.heap.size A us := by
  rcases open_ints Try.underlying22 Try.underlying47 (by kernel_rfl) h with ⟨hcs, _⟩ | ⟨a, l, c, zs, hcs, _, hl, hm, hz, _, hcell, hwz⟩
  · obtain ⟨us, hus, hm, hp⟩ := pts_of_row (w := W) (a := none) (len := 0) (cap := 0) (zs := []) (.inl ⟨rfl, rfl, rfl, rfl⟩)
    exact ⟨none, 0, us, by rw [hcs, hus], by omega, hp⟩
  · obtain ⟨us, hus, hm', hp⟩ := pts_of_row (w := W) (a := some a) (len := l) (cap := c) (zs := zs) (.inr ⟨a, rfl, hl, hm, by simpa using hz, hcell, hwz⟩)
    exact ⟨some a, c, us, by rw [hcs, hus], by omega, hp⟩
/-- an argument of type []uint64 -/
theorem open_pts {H : Type} {enc : TypeId × Value → H} {W : World} {v : Value} {d : DataW H} {ps : List MemPlace} (hv : Value.okWide Try.prog W .any 0 22 v) (h : DataW.Trod enc Try.prog W 0 (fun _ => true) true 22 v d ps) :
    ∃ (A : Option Addr) (c : Nat) (us : List Nat), v = .slice A us.length c ∧ us.length ≤ maxLen ∧ Pts W W.heap.size A us := by
  obtain ⟨a, len, cap, rfl⟩ := okWide_slice Try.underlying22 hv
  obtain ⟨fuel, hf⟩ := h
  obtain ⟨A, c, us, hcs, hm, hp⟩ := open_u64s hf
  simp [Value.cells] at hcs
  obtain ⟨rfl, rfl, rfl⟩ := hcs
  exact ⟨_, _, us, rfl, hm, hp⟩
/-- an argument of type api.Box -/
theorem open_box {H : Type} {enc : TypeId × Value → H} {W : World} {v : Value} {d : DataW H} {ps : List MemPlace} (hv : Value.okWide Try.prog W .any 0 24 v) (h : DataW.Trod enc Try.prog W 0 (fun _ => true) true 24 v d ps) :
    ∃ (A : Option Addr) (c : Nat) (A' : Option Addr) (c' : Nat) (lo hi : List Nat), v = boxV A lo.length c A' hi.length c' ∧ lo.length ≤ maxLen ∧ hi.length ≤ maxLen ∧ Pts W W.heap.size A lo ∧ Pts W W.heap.size A' hi := by
  obtain ⟨cs, rfl, hs⟩ := okWide_struct Try.underlying24 hv
  rw [cells_box] at hs
  obtain ⟨l⟩ := cs
  match l, hs with
  | [v0, v1], _ =>
    obtain ⟨fuel, hf⟩ := h
    obtain ⟨xs, n, _, _, _, hxl, hfs⟩ := DataW.trod_struct Try.underlying24 hf
    match xs, hxl with
    | [y0, y1], _ =>
      have g0 := hfs 0 _ rfl
      have g1 := hfs 1 _ rfl
      simp [Value.cells, cells_u64s] at g0 g1
      obtain ⟨A, c, lo, e0, m0, p0⟩ := open_u64s g0
      obtain ⟨A', c', hi, e1, m1, p1⟩ := open_u64s g1
      simp at e0 e1
      subst e0 e1
      exact ⟨A, c, A', c', lo, hi, rfl, m0, m1, p0, p1⟩

end Go.Proofs.Ytkkpgfpkeiamaaa
