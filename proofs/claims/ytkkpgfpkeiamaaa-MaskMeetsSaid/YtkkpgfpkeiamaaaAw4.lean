/-
  THE CONTRACT of pantilelaw04.awake: the chapter's example is met: it returns true.
-/
import Derived.Test.YtkkpgfpkeiamaaaMk2
import Derived.Test.YtkkpgfpkeiamaaaMk4
namespace Go.Proofs.Ytkkpgfpkeiamaaa
open Go.ChangeShapes Go.WideShapes Go.ChangeAt Go.RowKit

theorem aw4_of (w : World) (b0 b1 b2 : Nat) (h0 : w.heap[b0]? = some (.cells #[.int .u64 0, .int .u64 0] 47 (0, 0))) (h1 : w.heap[b1]? = some (.cells #[.int .u64 1, .int .u64 2] 47 (0, 0))) (h2 : w.heap[b2]? = some (.cells #[.int .u64 3, .int .u64 2] 47 (0, 0))) :
    Calls Try.prog 8 #[.slice (some ⟨b0, 0, none⟩) 2 2, .int .i64 1, .agg #[.slice (some ⟨b1, 0, none⟩) 2 2, .slice (some ⟨b2, 0, none⟩) 2 2]] w fun e w' => e = .returned (.tuple #[maskV 2 1 3, .int .i64 0]) ∧ Below w.heap.size w w' := by
  have p : ∀ (g x y : Nat), x < 18446744073709551616 → y < 18446744073709551616 → w.heap[g]? = some (.cells #[.int .u64 (x : Int), .int .u64 (y : Int)] 47 (0, 0)) → Pts w w.heap.size (some ⟨g, 0, none⟩) [x, y] := fun g x y hx hy h =>
    (two_pts hx hy h).keep (Nat.succ_le_of_lt (Array.getElem?_eq_some_iff.1 h).1) (fun _ _ => rfl)
  have h := mof_yes (some ⟨b0, 0, none⟩) (some ⟨b1, 0, none⟩) (some ⟨b2, 0, none⟩) 2 2 2 [0, 0] [1, 2] [3, 2] 1 w.heap.size w (p b0 0 0 (by omega) (by omega) h0) (p b1 1 2 (by omega) (by omega) h1) (p b2 3 2 (by omega) (by omega) h2) (Nat.le_refl _) (by simp) (by simp) rfl rfl (by omega)
  have e1 : Mk.lowM [0, 0] 1 [1, 2] [3, 2] = 1 := by decide
  have e2 : Mk.highM [0, 0] 1 [1, 2] [3, 2] = 3 := by decide
  rw [e1, e2] at h
  exact h
theorem aw4_has (w : World) (a : Nat) (ha : a = 1 ∨ a = 3) : Calls Try.prog 18 #[maskV 2 1 3, .int .i64 (a : Int)] w fun e w' => e = .returned (.bool true) ∧ Below w.heap.size w w' :=
  mhas_yes 2 1 3 (a : Int) w true (by rcases ha with rfl | rfl <;> decide) (by omega) (by omega) (by decide) (by decide) ⟨by omega, by omega⟩
theorem aw4_count (w : World) : Calls Try.prog 17 #[maskV 2 1 3] w fun e w' => e = .returned (.int .i64 2) ∧ Below w.heap.size w w' :=
  mcount_yes 2 1 3 w 2 (by decide) (by omega) (by omega) (by decide) (by decide)
set_option maxRecDepth 100000 in
theorem awake4_c (w : World) : Calls Try.prog 7 #[] w fun e w' => e = .returned (.bool true) ∧ Below w.heap.size w w' := by
  go_enter Try.func7, Try.ntmps7
  go_wp2_with fail
  refine (aw4_of _ w.heap.size (w.heap.size + 1) (w.heap.size + 1 + 1) (heap_past _ (heap_past _ (heap_at _ _ _ rfl))) (heap_past _ (heap_at _ _ _ (by simp))) (heap_at _ _ _ (by simp))).mono ?_
  rintro e w1 ⟨rfl, hb1⟩
  have hbel := Below.andThen (((below_alloc w _).alloc (by simp) _).alloc (by simp; omega) _) hb1
  have hq := maskAt_new w1 2 1 3
  have hq' := hq
  obtain ⟨q0, q1, q2⟩ := hq'
  have hal := below_alloc w1 (.cells #[.int .i64 2, .int .i64 1, .int .i64 3] 27)
  have hbA := Below.andThen hbel hal
  go_wp2_with fail
  refine (aw4_has _ 1 (.inl rfl)).mono ?_
  rintro e w2 ⟨rfl, hb2⟩
  have hbB := Below.andThen hbA hb2
  have hq2 := hq.below hb2 (by simp)
  clear q0 q1 q2
  have hq2' := hq2
  obtain ⟨q0, q1, q2⟩ := hq2'
  go_wp2_with fail
  refine (aw4_has _ 3 (.inr rfl)).mono ?_
  rintro e w3 ⟨rfl, hb3⟩
  have hbC := Below.andThen hbB hb3
  have hs2 := hb2.size
  rw [World.size_alloc] at hs2
  have hq3 := hq2.below hb3 (by omega)
  clear q0 q1 q2
  obtain ⟨q0, q1, q2⟩ := hq3
  go_wp2_with fail
  refine (aw4_count _).mono ?_
  rintro e w4 ⟨rfl, hb4⟩
  go_wp2_with fail
  go_ret
  exact ⟨rfl, Below.andThen hbC hb4⟩
end Go.Proofs.Ytkkpgfpkeiamaaa
