/-
  CONTRACTS of package slots, last part: Places and All of slots that aren't there.
-/
import Derived.Test.YtlmlflaiaebemaaDoorS5n
namespace Go.Proofs.YtlmlflaiaebemaaDoor.Sn
open Go.ChangeShapes Go.WideShapes Go.ChangeAt Go.RowKit

theorem made_none (t e : TypeId) {z : Value} {by' : Nat} (ht : Tryd.prog.underlying t = some (.slice e)) (hi : (Tryd.prog.info? e).map (fun i => (i.zero, i.size, i.bytes)) = some (some z, 1, by')) :
    ∃ Zs, ∀ (w : World), (Instr.makeSlice t (.int .i64 0) (.int .i64 0)).run Tryd.prog w = .ok (.slice (some ⟨w.heap.size, 0, none⟩) 0 0) (w.alloc (.cells Zs e)) := by
  obtain ⟨i0, hi0, hz0, hz1, hz2⟩ := info_parts hi
  refine ⟨madeCells z.cells (0 * i0.size), fun w => ?_⟩
  have h := run_make (P := Tryd.prog) w t e i0 z ht hi0 hz0 .i64 .i64 0 0 (by omega) (by omega) (by simp) (by omega)
  simpa using h
set_option maxRecDepth 100000 in
theorem sPlaces_nil (w : World) : Calls Tryd.prog 50 #[.pointer none] w fun e w' => (∃ A, e = .returned (.slice A 0 0)) ∧ Below w.heap.size w w' := by
  obtain ⟨Zs, hmk⟩ := made_none 58 3 Tryd.underlying58 infoI
  go_enter Tryd.func50, Tryd.ntmps50
  go_wp2_with (go_at_call 56; refine (sLen_nil _).mono ?_; rintro e w' ⟨rfl, rfl⟩)
  refine (sEach_nil _ _).mono ?_
  rintro e w' ⟨rfl, rfl⟩
  go_wp2_with fail
  go_ret
  exact ⟨⟨_, rfl⟩, (below_alloc _ _).alloc (by simp) _⟩
set_option maxRecDepth 100000 in
theorem sAll_nil (w : World) : Calls Tryd.prog 36 #[.pointer none] w fun e w' => (∃ A, e = .returned (.slice A 0 0)) ∧ Below w.heap.size w w' := by
  obtain ⟨Zs, hmk⟩ := made_none 44 25 Cn.und Cn.info
  go_enter Tryd.func36, Tryd.ntmps36
  go_wp2_with (go_at_call 56; refine (sLen_nil _).mono ?_; rintro e w' ⟨rfl, rfl⟩)
  refine (sEach_nil _ _).mono ?_
  rintro e w' ⟨rfl, rfl⟩
  go_wp2_with fail
  go_ret
  exact ⟨⟨_, rfl⟩, (below_alloc _ _).alloc (by simp) _⟩
end Go.Proofs.YtlmlflaiaebemaaDoor.Sn
