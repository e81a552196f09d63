import Derived.Test.YtmdohckoegpgkaaDoorM01
import Derived.ShutString
import Derived.ChangeOld
/-
  HOW A POINT AMONG A LAW's ARGUMENTS IS OPENED, as the row's reading hands it over.
-/
namespace Go.Proofs.YtmdohckoegpgkaaDoor
open Go.ChangeShapes Go.WideShapes Go.ChangeAt Go.RowKit

set_option maxRecDepth 100000 in
/-- the cells that read as a slice of uint64 -/
theorem open_u64s {H : Type} {enc : TypeId × Value → H} {W : World} {fuel : Nat} {cs : List Value} {x : DataW H × List MemPlace} (h : DataW.trod enc Tryd.prog W 0 (fun _ => true) true fuel 22 cs = some x) :
    ∃ (A : Option Addr) (c : Nat) (us : List Nat), cs = [.slice A us.length c] ∧ us.length ≤ maxLen ∧ Pts W W.heap.size A us := by
  rcases open_ints Tryd.underlying22 Tryd.underlying29 (by kernel_rfl) h with ⟨hcs, _⟩ | ⟨a, l, c, zs, hcs, _, hl, hm, hz, _, hcell, hwz⟩
  · obtain ⟨us, hus, hm, hp⟩ := pts_of_row (w := W) (a := none) (len := 0) (cap := 0) (zs := []) (.inl ⟨rfl, rfl, rfl, rfl⟩)
    exact ⟨none, 0, us, by rw [hcs, hus], by omega, hp⟩
  · obtain ⟨us, hus, hm', hp⟩ := pts_of_row (w := W) (a := some a) (len := l) (cap := c) (zs := zs) (.inr ⟨a, rfl, hl, hm, by simpa using hz, hcell, hwz⟩)
    exact ⟨some a, c, us, by rw [hcs, hus], by omega, hp⟩
set_option maxRecDepth 100000 in
/-- an argument of type []uint64 -/
theorem open_pts {H : Type} {enc : TypeId × Value → H} {W : World} {v : Value} {d : DataW H} {ps : List MemPlace} (hv : Value.okWide Tryd.prog W .any 0 22 v) (h : DataW.Trod enc Tryd.prog W 0 (fun _ => true) true 22 v d ps) :
    ∃ (A : Option Addr) (c : Nat) (us : List Nat), v = .slice A us.length c ∧ us.length ≤ maxLen ∧ Pts W W.heap.size A us := by
  obtain ⟨a, len, cap, rfl⟩ := okWide_slice Tryd.underlying22 hv
  obtain ⟨fuel, hf⟩ := h
  obtain ⟨A, c, us, hcs, hm, hp⟩ := open_u64s hf
  simp [Value.cells] at hcs
  obtain ⟨rfl, rfl, rfl⟩ := hcs
  exact ⟨_, _, us, rfl, hm, hp⟩
end Go.Proofs.YtmdohckoegpgkaaDoor
