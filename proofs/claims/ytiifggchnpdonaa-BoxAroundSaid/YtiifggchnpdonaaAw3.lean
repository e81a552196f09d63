/-
  THE CONTRACT of pantilelaw03.awake: the chapter's examples are met: it returns true.
-/
import Derived.Test.YtiifggchnpdonaaAw1
import Derived.Test.YtiifggchnpdonaaBx6
import Derived.Test.YtiifggchnpdonaaRfa
namespace Go.Proofs.Ytiifggchnpdonaa
open Go.ChangeShapes Go.WideShapes Go.ChangeAt Go.RowKit

theorem aw3_around (w : World) (g : Nat) (h : w.heap[g]? = some (.cells #[.int .u64 3, .int .u64 0] 30 (0, 0))) (hg : g < w.heap.size) :
    Calls Try.prog 21 #[.slice (some ⟨g, 0, none⟩) 2 2, .int .u64 5] w fun e w' => ∃ A1 c1 A2 c2, e = .returned (.tuple #[.agg #[.slice A1 2 c1, .slice A2 2 c2], .int .i64 0]) ∧ Pts w' w'.heap.size A1 [0, 0] ∧ Pts w' w'.heap.size A2 [8, 5] ∧ Below w.heap.size w w' :=
  baround_yes _ 2 5 [3, 0] [0, 0] [8, 5] (g + 1) w (by decide) (by decide) (two_pts (by omega) (by omega) h) (by omega) (by simp) (by simp) (by omega)
theorem aw3_cell (w : World) (g : Nat) (h : w.heap[g]? = some (.cells #[.int .u64 6, .int .u64 1] 30 (0, 0))) (hg : g < w.heap.size) :
    Calls Try.prog 22 #[.slice (some ⟨g, 0, none⟩) 2 2, .int .i64 1] w fun e w' => ∃ A1 c1 A2 c2, e = .returned (.tuple #[.agg #[.slice A1 2 c1, .slice A2 2 c2], .int .i64 0]) ∧ Pts w' w'.heap.size A1 [4, 0] ∧ Pts w' w'.heap.size A2 [7, 3] ∧ Below w.heap.size w w' :=
  bcell_yes _ 2 2 [6, 1] [4, 0] [7, 3] (g + 1) w (by decide) (by decide) (two_pts (by omega) (by omega) h) (by omega) (by simp) (by simp) (by omega)
theorem aw3_same (w : World) (A A' C C' : Option Addr) (c c' : Nat) (x y z t : Nat) (p1 : Pts w w.heap.size A [x, y]) (p2 : Pts w w.heap.size A' [z, t]) (p3 : Pts w w.heap.size C [x, y]) (p4 : Pts w w.heap.size C' [z, t]) :
    Calls Try.prog 25 #[.agg #[.slice A 2 c, .slice A' 2 c'], .agg #[.slice C 2 2, .slice C' 2 2]] w fun e w' => e = .returned (.bool true) ∧ Below w.heap.size w w' :=
  r3same_c A A' C C' c c' 2 2 [x, y] [z, t] [x, y] [z, t] w.heap.size w p1 p2 p3 p4 (Nat.le_refl _) (by simp) (by simp) rfl rfl
theorem lit_pts {w : World} {g x y : Nat} (hx : x < 18446744073709551616) (hy : y < 18446744073709551616) (h : w.heap[g]? = some (.cells #[.int .u64 (x : Int), .int .u64 (y : Int)] 30 (0, 0))) : Pts w w.heap.size (some ⟨g, 0, none⟩) [x, y] :=
  (two_pts hx hy h).keep (Nat.succ_le_of_lt (Array.getElem?_eq_some_iff.1 h).1) (fun _ _ => rfl)

set_option maxRecDepth 100000 in
theorem awake3_c (w : World) : Calls Try.prog 7 #[] w fun e w' => e = .returned (.bool true) ∧ Below w.heap.size w w' := by
  go_enter Try.func7, Try.ntmps7
  go_wp2_with fail
  refine (aw3_around _ w.heap.size (heap_at _ _ _ rfl) (by simp)).mono ?_
  rintro e w1 ⟨A1, c1, A2, c2, rfl, p1, p2, hb1⟩
  have hbel1 := Below.andThen (below_alloc _ _) hb1
  go_wp2_with fail
  refine (aw3_cell _ (w1.heap.size + 1) (heap_at _ _ _ (by simp)) (by simp)).mono ?_
  rintro e w2 ⟨A3, c3, A4, c4, rfl, p3, p4, hb2⟩
  have hx1 := ((boxAt_new w1 A1 2 c1 A2 2 c2).below (below_alloc _ _) (by simp)).below hb2 (by simp; omega)
  have hs2 := hb2.size
  rw [World.size_alloc, World.size_alloc] at hs2
  have hx1b := hx1.below (below_alloc w2 (.cells #[.slice A3 2 c3, .slice A4 2 c4] 24)) (by omega)
  obtain ⟨k0, k1⟩ := hx1b
  have hbel2 := Below.andThen (hbel1.trans (((below_alloc w1 _).alloc (by simp) _).mono hbel1.size)) hb2
  have hA : Below w1.heap.size w1 w2 := Below.andThen ((below_alloc _ _).alloc (by simp) _) hb2
  go_wp2_with fail
  refine (aw3_same _ A1 A2 (some ⟨w2.heap.size + 1, 0, none⟩) (some ⟨w2.heap.size + 1 + 1, 0, none⟩) c1 c2 0 0 8 5
    (p1.below (((hA.alloc (by omega) _).alloc (by simp; omega) _).alloc (by simp; omega) _) (by simp; omega)) (p2.below (((hA.alloc (by omega) _).alloc (by simp; omega) _).alloc (by simp; omega) _) (by simp; omega))
    (lit_pts (by omega) (by omega) (heap_past _ (heap_at _ _ _ (by simp)))) (lit_pts (by omega) (by omega) (heap_at _ _ _ (by simp)))).mono ?_
  rintro e w3 ⟨rfl, hb3⟩
  have hC : Below w2.heap.size w2 w3 := Below.andThen (((below_alloc _ _).alloc (by simp) _).alloc (by simp; omega) _) hb3
  have hs3 := hb3.size
  rw [World.size_alloc, World.size_alloc, World.size_alloc] at hs3
  have hx2 := (((boxAt_new w2 A3 2 c3 A4 2 c4).below (below_alloc _ _) (by simp)).below (below_alloc _ _) (by simp; omega)).below hb3 (by simp; omega)
  obtain ⟨k2, k3⟩ := hx2
  go_wp2_with fail
  refine (aw3_same _ A3 A4 (some ⟨w3.heap.size, 0, none⟩) (some ⟨w3.heap.size + 1, 0, none⟩) c3 c4 4 0 7 3
    (p3.below ((hC.alloc (by omega) _).alloc (by simp; omega) _) (by simp; omega)) (p4.below ((hC.alloc (by omega) _).alloc (by simp; omega) _) (by simp; omega))
    (lit_pts (by omega) (by omega) (heap_past _ (heap_at _ _ _ rfl))) (lit_pts (by omega) (by omega) (heap_at _ _ _ (by simp)))).mono ?_
  rintro e w4 ⟨rfl, hb4⟩
  go_wp2_with fail
  go_ret
  have hD : Below w2.heap.size w2 w4 := (Below.andThen ((hC.alloc (by omega) _).alloc (by simp; omega) _) (hb4.mono (Nat.le_refl _)))
  exact ⟨rfl, hbel2.trans (hD.mono hbel2.size)⟩

end Go.Proofs.Ytiifggchnpdonaa
