/-
  CONTRACTS of package slots, last part: Places and All of slots that aren't there.
-/
import Derived.Test.YtgplbbmenmbaaaaS5n
namespace Go.Proofs.Ytgplbbmenmbaaaa.Sn
open Go.ChangeShapes Go.WideShapes Go.ChangeAt Go.RowKit

theorem made_none (t e : TypeId) {z : Value} {by' : Nat} (ht : Try.prog.underlying t = some (.slice e)) (hi : (Try.prog.info? e).map (fun i => (i.zero, i.size, i.bytes)) = some (some z, 1, by')) :
    ∃ Zs, ∀ (w : World), (Instr.makeSlice t (.int .i64 0) (.int .i64 0)).run Try.prog w = .ok (.slice (some ⟨w.heap.size, 0, none⟩) 0 0) (w.alloc (.cells Zs e)) := by
  obtain ⟨i0, hi0, hz0, hz1, hz2⟩ := info_parts hi
  refine ⟨madeCells z.cells (0 * i0.size), fun w => ?_⟩
  have h := run_make (P := Try.prog) w t e i0 z ht hi0 hz0 .i64 .i64 0 0 (by omega) (by omega) (by simp) (by omega)
  simpa using h
set_option maxRecDepth 100000 in
theorem sPlaces_nil (w : World) : Calls Try.prog 37 #[.pointer none] w fun e w' => (∃ A, e = .returned (.slice A 0 0)) ∧ Below w.heap.size w w' := by
  obtain ⟨Zs, hmk⟩ := made_none 48 3 Try.underlying48 infoI
  go_enter Try.func37, Try.ntmps37
  go_wp2_with (go_at_call 45; refine (sLen_nil _).mono ?_; rintro e w' ⟨rfl, rfl⟩)
  refine (sEach_nil _ _).mono ?_
  rintro e w' ⟨rfl, rfl⟩
  go_wp2_with fail
  go_ret
  exact ⟨⟨_, rfl⟩, (below_alloc _ _).alloc (by simp) _⟩
set_option maxRecDepth 100000 in
theorem sAll_nil (w : World) : Calls Try.prog 49 #[.pointer none] w fun e w' => (∃ A, e = .returned (.slice A 0 0)) ∧ Below w.heap.size w w' := by
  obtain ⟨Zs, hmk⟩ := made_none 26 29 Cn.und Cn.info
  go_enter Try.func49, Try.ntmps49
  go_wp2_with (go_at_call 45; refine (sLen_nil _).mono ?_; rintro e w' ⟨rfl, rfl⟩)
  refine (sEach_nil _ _).mono ?_
  rintro e w' ⟨rfl, rfl⟩
  go_wp2_with fail
  go_ret
  exact ⟨⟨_, rfl⟩, (below_alloc _ _).alloc (by simp) _⟩
end Go.Proofs.Ytgplbbmenmbaaaa.Sn
