/-
  CONTRACTS of package pantileref06, third part: Shape of one entry.
-/
import Derived.Test.YtgplbbmenmbaaaaRn2
import Derived.StillTailTactics
namespace Go.Proofs.Ytgplbbmenmbaaaa
open Go.ChangeShapes Go.WideShapes Go.ChangeAt Go.RowKit
open Tr (T S4 Ent)

set_option maxRecDepth 100000 in
set_option maxHeartbeats 1000000 in
theorem rshape_one {w : World} {B : Nat} {A : Option Addr} {c : Nat} {p : List Nat} {v : Nat} (h : Ents w B A [(p, v)]) (hB : B ≤ w.heap.size) :
    Calls Try.prog 29 #[.slice A 1 c] w fun e w' => ShapeAt w' e (-1) p [] false v ∧ Below w.heap.size w w' := by
  obtain ⟨b, off, A1, c1, hA, hb, x0, x1, hp, -, -⟩ := h.at (i := 0) (e := (p, v)) rfl
  subst hA
  rw [Nat.zero_mul, Nat.add_zero] at x0 x1
  have hbw : b < w.heap.size := by omega
  have hbel := below_alloc w (.cells #[.int .i64 0, .slice none 0 0, .slice none 0 0, .bool false, .int .u64 0] 50)
  have HQ := Lib.hid (q5_at (heap_at w (.cells #[.int .i64 0, .slice none 0 0, .slice none 0 0, .bool false, .int .u64 0] 50) _ rfl))
  have hsz : (w.alloc (.cells #[.int .i64 0, .slice none 0 0, .slice none 0 0, .bool false, .int .u64 0] 50)).heap.size = w.heap.size + 1 := by simp
  have HP := Lib.hid (And.intro hp (And.intro hbel hsz))
  clear h hp hsz
  go_enter Try.func29, Try.ntmps29
  go_wp2_with fail
  have y0 : (w.alloc (.cells #[.int .i64 0, .slice none 0 0, .slice none 0 0, .bool false, .int .u64 0] 50)).cell? ⟨b, off, none⟩ = some (.slice A1 p.length c1) := (hbel.cell (p := ⟨b, off, none⟩) hbw).trans x0
  have y1 : (w.alloc (.cells #[.int .i64 0, .slice none 0 0, .slice none 0 0, .bool false, .int .u64 0] 50)).cell? ⟨b, off + 1, none⟩ = some (.int .u64 (v : Int)) := (hbel.cell (p := ⟨b, off + 1, none⟩) hbw).trans x1
  clear x0 x1 hbel
  obtain ⟨⟨k0, k1, k2, k3, k4⟩, ⟨f0, f1, f2, f3, f4⟩⟩ := HQ.out
  generalize w.alloc _ = W at *
  go_region
  all_goals go_wp2_with fail
  all_goals (
    obtain ⟨⟨z0, z1, z2, z3, z4⟩, -⟩ := (HQ.out.set (.int .i64 (-1)) (.slice A1 p.length c1) (.slice none 0 0) (.bool false) (.int .u64 (v : Int))).drew
    refine bodyPost_ret (v := shapeV (-1) A1 p.length c1 none 0 0 false v) (by simp [results, Try.results29, go_sem, z0, z1, z2, z3, z4]) rfl ?_
    have hb := HP.out.2.1
    have hs := HP.out.2.2
    refine ⟨⟨_, _, none, 0, rfl, ?_, RdV.nil _ _ _⟩, by ((repeat (first | refine Below.drew ?_ | (with_reducible refine below_drewN _ ?_) | refine Below.alloc ?_ (by first | omega | (simp; done) | (simp; omega)) _ | refine Below.setCell ?_ (by first | omega | (simp; done) | (simp; omega)) _)); first | exact Below.refl _ _ | assumption | exact below_drewN _ (Below.refl _ _) | exact below_drewN _ (below_drewN _ (Below.refl _ _)))⟩
    exact (HP.out.1.below' (show Below w.heap.size w _ by ((repeat (first | refine Below.drew ?_ | (with_reducible refine below_drewN _ ?_) | refine Below.alloc ?_ (by first | omega | (simp; done) | (simp; omega)) _ | refine Below.setCell ?_ (by first | omega | (simp; done) | (simp; omega)) _)); first | exact Below.refl _ _ | assumption | exact below_drewN _ (Below.refl _ _) | exact below_drewN _ (below_drewN _ (Below.refl _ _)))) hB).keep (by simp; omega) (fun _ _ => rfl))
end Go.Proofs.Ytgplbbmenmbaaaa
