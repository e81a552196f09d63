import Derived.Test.YtpgkfccfabnjdaaM01
import Derived.ShutString
import Derived.ChangeOld
import Derived.Test.YtpgkfccfabnjdaaM14
import Derived.Deep.Strs
import Derived.ChangeSame
/-
  HOW A POINT AMONG A LAW's ARGUMENTS IS OPENED, as the row's reading hands it over.
-/
namespace Go.Proofs.Ytpgkfccfabnjdaa
open Go.ChangeShapes Go.WideShapes Go.ChangeAt Go.RowKit

set_option maxRecDepth 100000 in
theorem open_u64s {H : Type} {enc : TypeId × Value → H} {W : World} {fuel : Nat} {cs : List Value} {x : DataW H × List MemPlace} (h : DataW.trod enc Try.prog W 0 (fun _ => true) true fuel 41 cs = some x) :
    ∃ (A : Option Addr) (c : Nat) (us : List Nat), cs = [.slice A us.length c] ∧ us.length ≤ maxLen ∧ Pts W W.heap.size A us := by
  rcases open_ints Try.underlying41 Try.underlying40 (by kernel_rfl) h with ⟨hcs, _⟩ | ⟨a, l, c, zs, hcs, _, hl, hm, hz, _, hcell, hwz⟩
  · obtain ⟨us, hus, hm, hp⟩ := pts_of_row (w := W) (a := none) (len := 0) (cap := 0) (zs := []) (.inl ⟨rfl, rfl, rfl, rfl⟩)
    exact ⟨none, 0, us, by rw [hcs, hus], by omega, hp⟩
  · obtain ⟨us, hus, hm', hp⟩ := pts_of_row (w := W) (a := some a) (len := l) (cap := c) (zs := zs) (.inr ⟨a, rfl, hl, hm, by simpa using hz, hcell, hwz⟩)
    exact ⟨some a, c, us, by rw [hcs, hus], by omega, hp⟩
end Go.Proofs.Ytpgkfccfabnjdaa

/-
  ACTS ON A TREE: how a list of them among a law's arguments is opened, and is kept.
-/
namespace Go.Proofs.Ytpgkfccfabnjdaa
open Go.ChangeShapes Go.WideShapes Go.ChangeAt Go.RowKit

theorem cells_tb1 : Try.prog.cellsOf 4 = 1 := by kernel_rfl
theorem cells_tp1 : Try.prog.cellsOf 41 = 1 := by kernel_rfl
theorem cells_tu1 : Try.prog.cellsOf 40 = 1 := by kernel_rfl
end Go.Proofs.Ytpgkfccfabnjdaa
