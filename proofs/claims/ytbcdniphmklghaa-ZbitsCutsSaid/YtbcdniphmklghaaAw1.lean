/-
  THE CONTRACT of pantilelaw01.awake: the chapter's example is met: it returns true.
-/
import Derived.Test.YtbcdniphmklghaaZb
import Derived.Test.YtbcdniphmklghaaRf1
namespace Go.Proofs.Ytbcdniphmklghaa
open Go.ChangeShapes Go.WideShapes Go.ChangeAt Go.RowKit

theorem two_pts {w : World} {g : Nat} {x y : Nat} {e : TypeId} (hx : x < 18446744073709551616) (hy : y < 18446744073709551616) (h : w.heap[g]? = some (.cells #[.int .u64 (x : Int), .int .u64 (y : Int)] e (0, 0))) :
    Pts w (g + 1) (some ⟨g, 0, none⟩) [x, y] := by
  refine ⟨by intro u hu; simp at hu; rcases hu with rfl | rfl <;> assumption, fun _ => ⟨g, 0, rfl, by omega, fun i u hi => ?_⟩⟩
  rw [cell_of_row w g _ _ e (0, 0) h]
  match i, hi with
  | 0, hi => simp at hi; subst hi; rfl
  | 1, hi => simp at hi; subst hi; rfl

theorem heap_at (w : World) (o : Obj) (k : Nat) (h : k = w.heap.size) : (w.alloc o).heap[k]? = some o := by rw [h]; exact heap_alloc_new w o
theorem heap_past {w : World} (o : Obj) {k : Nat} {x : Obj} (h : w.heap[k]? = some x) : (w.alloc o).heap[k]? = some x := by
  rw [Below.heap_alloc w o k (Array.getElem?_eq_some_iff.1 h).1]; exact h

theorem aw_addr (w : World) (g x y l r : Nat) (e : TypeId) (hx : x < 18446744073709551616) (hy : y < 18446744073709551616) (hl : l ≤ 63) (hr : Z.addr [x, y] l = r) (h : w.heap[g]? = some (.cells #[.int .u64 (x : Int), .int .u64 (y : Int)] e (0, 0))) :
    Calls Try.prog 7 #[.slice (some ⟨g, 0, none⟩) 2 2, .int .i64 (l : Int)] w fun e w' => e = .returned (.tuple #[.int .i64 (r : Int), .int .i64 0]) ∧ w = w' := by
  have := addr_yes (some ⟨g, 0, none⟩) 2 [x, y] l (g + 1) w (two_pts hx hy h) (by simp) (by simp) hl
  rw [hr] at this
  exact this
theorem aw_cmp (w : World) (g g' x y x' y' : Nat) (r : Int) (e e' : TypeId) (hx : x < 18446744073709551616) (hy : y < 18446744073709551616) (hx' : x' < 18446744073709551616) (hy' : y' < 18446744073709551616) (hr : Z.cmp [x, y] [x', y'] = r) (h : w.heap[g]? = some (.cells #[.int .u64 (x : Int), .int .u64 (y : Int)] e (0, 0))) (h' : w.heap[g']? = some (.cells #[.int .u64 (x' : Int), .int .u64 (y' : Int)] e' (0, 0))) :
    Calls Try.prog 17 #[.slice (some ⟨g, 0, none⟩) 2 2, .slice (some ⟨g', 0, none⟩) 2 2] w fun e w' => e = .returned (.tuple #[.int .i64 r, .int .i64 0]) ∧ w = w' := by
  have p := (two_pts hx hy h).keep (w' := w) (B' := g + g' + 2) (by omega) (fun _ _ => rfl)
  have q := (two_pts hx' hy' h').keep (w' := w) (B' := g + g' + 2) (by omega) (fun _ _ => rfl)
  have := cmp_yes _ _ 2 2 [x, y] [x', y'] (g + g' + 2) w p q (by simp) (by simp) rfl
  rw [hr] at this
  exact this
theorem aw_part (w : World) (g g' x y x' y' : Nat) (r : Int) (e e' : TypeId) (hx : x < 18446744073709551616) (hy : y < 18446744073709551616) (hx' : x' < 18446744073709551616) (hy' : y' < 18446744073709551616) (hr : Z.part [x, y] [x', y'] = r) (h : w.heap[g]? = some (.cells #[.int .u64 (x : Int), .int .u64 (y : Int)] e (0, 0))) (h' : w.heap[g']? = some (.cells #[.int .u64 (x' : Int), .int .u64 (y' : Int)] e' (0, 0))) :
    Calls Try.prog 18 #[.slice (some ⟨g, 0, none⟩) 2 2, .slice (some ⟨g', 0, none⟩) 2 2] w fun e w' => e = .returned (.tuple #[.int .i64 r, .int .i64 0]) ∧ w = w' := by
  have p := (two_pts hx hy h).keep (w' := w) (B' := g + g' + 2) (by omega) (fun _ _ => rfl)
  have q := (two_pts hx' hy' h').keep (w' := w) (B' := g + g' + 2) (by omega) (fun _ _ => rfl)
  have := part_yes _ _ 2 2 [x, y] [x', y'] (g + g' + 2) w p q (by simp) (by simp) rfl
  rw [hr] at this
  exact this

theorem awake_c (w : World) : Calls Try.prog 6 #[] w fun e w' => e = .returned (.bool true) ∧ Below w.heap.size w w' := by
  have e1 : Z.addr [2, 1] 1 = 2 := by decide
  have e2 : Z.addr [2, 1] 0 = 1 := by decide
  have e3 : Z.cmp [1, 1] [2, 0] = -1 := by decide +kernel
  have e4 : Z.part [1, 1] [2, 0] = 1 := by decide +kernel
  have H1 := Lib.hid e1
  have H2 := Lib.hid e2
  have H3 := Lib.hid e3
  have H4 := Lib.hid e4
  clear e1 e2 e3 e4
  go_enter Try.func6, Try.ntmps6
  go_wp2_with fail
  refine (aw_addr _ w.heap.size 2 1 1 2 34 (by omega) (by omega) (by omega) H1.out (heap_at _ _ _ rfl)).mono ?_
  rintro e w1 ⟨rfl, rfl⟩
  go_wp2_with fail
  refine (aw_addr _ (w.heap.size + 1) 2 1 0 1 34 (by omega) (by omega) (by omega) H2.out (heap_at _ _ _ (by simp))).mono ?_
  rintro e w1 ⟨rfl, rfl⟩
  go_wp2_with fail
  refine (aw_cmp _ (w.heap.size + 2) (w.heap.size + 3) 1 1 2 0 (-1) 34 34 (by omega) (by omega) (by omega) (by omega) H3.out (heap_past _ (heap_at _ _ _ (by simp))) (heap_at _ _ _ (by simp))).mono ?_
  rintro e w1 ⟨rfl, rfl⟩
  go_wp2_with fail
  refine (aw_part _ (w.heap.size + 4) (w.heap.size + 5) 1 1 2 0 1 34 34 (by omega) (by omega) (by omega) (by omega) H4.out (heap_past _ (heap_at _ _ _ (by simp))) (heap_at _ _ _ (by simp))).mono ?_
  rintro e w1 ⟨rfl, rfl⟩
  go_wp2_with fail
  go_ret
  exact ⟨rfl, ((((((Below.refl _ _).alloc (Nat.le_refl _) _).alloc (by simp) _).alloc (by simp; omega) _).alloc (by simp; omega) _).alloc (by simp; omega) _).alloc (by simp; omega) _⟩

end Go.Proofs.Ytbcdniphmklghaa
