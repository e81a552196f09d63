import Derived.Test.YtpgkfccfabnjdaaM9r
import Derived.Test.YtpgkfccfabnjdaaM97
/-
  EDIT: pantileref12.Same, Swapped of changes as they lie. Laid by wip/gen59.py.
-/
namespace Go.Proofs.Ytpgkfccfabnjdaa
open Go.ChangeShapes Go.WideShapes Go.ChangeAt Go.RowKit
open Tr (T S4 Ent Chg Raw)

set_option maxRecDepth 1000000 in
set_option maxHeartbeats 8000000 in
theorem rsameR_c {w : World} {L : List Raw} {A A' : Option Addr} {c c' n : Nat} (h : RwL w w.heap.size A L) (h' : RwL w w.heap.size A' L) (hn : L.length = n) (hl : n ≤ 100000000) :
    Calls Try.prog 12 #[.slice A n c, .slice A' n c'] w fun e w' => e = .returned (.bool true) ∧ Below w.heap.size w w' := by
  have HX := Lib.hid (And.intro h (And.intro h' hn))
  have n1 : ((n : Int) != (n : Int)) = false := by simp
  have hn9 : (n : Int) ≤ 100000000 := by omega
  clear h h' hn hl
  go_enter Try.func12, Try.ntmps12
  go_wp2_with fail
  go_loopw [5] (fun i wr => ∃ j : Nat, j ≤ n ∧ i = .int .i64 (j : Int) ∧ Below w.heap.size w wr) (fun i _ => n - (intOf i).toNat)
  case atStart => exact ⟨0, Nat.zero_le _, rfl, Below.refl _ _⟩
  case round =>
    obtain ⟨j, hj, rfl, hbr⟩ := hrel
    have HB := Lib.hid hbr
    by_cases hlt : j < n
    · obtain ⟨y, hy⟩ := get_lt (us := L) (k := j) (by rw [HX.out.2.2]; exact hlt)
      obtain ⟨b, off, P, pc, hA, hb, e0, e1, e2, e3, e4, pp, pl, -⟩ := (HX.out.1.below hbr (Nat.le_refl _) hbr.size).at hy
      obtain ⟨b2, off2, P2, pc2, hA2, hb2, g0, g1, g2, g3, g4, pp2, -, -⟩ := (HX.out.2.1.below hbr (Nat.le_refl _) hbr.size).at hy
      subst hA hA2
      obtain ⟨s1, hs1⟩ : ∃ s, y.2.1.1 = s := ⟨_, rfl⟩
      obtain ⟨s2, hs2⟩ : ∃ s, y.2.2.1 = s := ⟨_, rfl⟩
      obtain ⟨v1, hv1⟩ : ∃ v, y.2.1.2 = v := ⟨_, rfl⟩
      obtain ⟨v2, hv2⟩ : ∃ v, y.2.2.2 = v := ⟨_, rfl⟩
      obtain ⟨m, hm⟩ : ∃ m, y.1.length = m := ⟨_, rfl⟩
      rw [hm] at e0 g0
      rw [hs1] at e1 g1
      rw [hs2] at e2 g2
      rw [hv1] at e3 g3
      rw [hv2] at e4 g4
      have q1 : (s1 != s1) = false := by simp
      have q2 : (s2 != s2) = false := by simp
      have q3 : ((v1 : Int) != (v1 : Int)) = false := by simp
      have q4 : ((v2 : Int) != (v2 : Int)) = false := by simp
      have f1 : decide ((j : Int) < (n : Int)) = true := decide_eq_true (by omega)
      have f1' : decide (j < n) = true := decide_eq_true hlt
      have m1 : (0 : Int) ≤ (j : Int) := by omega
      have m2 : (j : Int) < (n : Int) := by omega
      have m3 : (j : Int) ≤ 100000000 := by omega
      have HC : Hid (∀ w1, Below wr.heap.size wr w1 → Calls Try.prog 28 #[.slice P m pc, .slice P2 m pc2] w1 fun e w' => e = .returned (.bool true) ∧ Below w1.heap.size w1 w') := Lib.hid fun w1 hb1 => by
        have hh := rsame_self P P2 pc pc2 y.1 wr.heap.size w1 (pp.below' hb1 (Nat.le_refl _)) (pp2.below' hb1 (Nat.le_refl _)) hb1.size pl
        rw [hm] at hh
        exact hh
      have a0 : ∀ w', Below wr.heap.size wr w' → w'.cell? ⟨b, off + j * 5, none⟩ = some (.slice P m pc) := fun w' h => (h.cell (p := ⟨b, off + j * 5, none⟩) hb).trans e0
      have a1 : ∀ w', Below wr.heap.size wr w' → w'.cell? ⟨b, off + j * 5 + 1, none⟩ = some (.bool s1) := fun w' h => (h.cell (p := ⟨b, off + j * 5 + 1, none⟩) hb).trans e1
      have a2 : ∀ w', Below wr.heap.size wr w' → w'.cell? ⟨b, off + j * 5 + 2, none⟩ = some (.bool s2) := fun w' h => (h.cell (p := ⟨b, off + j * 5 + 2, none⟩) hb).trans e2
      have a3 : ∀ w', Below wr.heap.size wr w' → w'.cell? ⟨b, off + j * 5 + 3, none⟩ = some (.int .u64 (v1 : Int)) := fun w' h => (h.cell (p := ⟨b, off + j * 5 + 3, none⟩) hb).trans e3
      have a4 : ∀ w', Below wr.heap.size wr w' → w'.cell? ⟨b, off + j * 5 + 4, none⟩ = some (.int .u64 (v2 : Int)) := fun w' h => (h.cell (p := ⟨b, off + j * 5 + 4, none⟩) hb).trans e4
      have h0 : ∀ w', Below wr.heap.size wr w' → w'.cell? ⟨b2, off2 + j * 5, none⟩ = some (.slice P2 m pc2) := fun w' h => (h.cell (p := ⟨b2, off2 + j * 5, none⟩) hb2).trans g0
      have h1 : ∀ w', Below wr.heap.size wr w' → w'.cell? ⟨b2, off2 + j * 5 + 1, none⟩ = some (.bool s1) := fun w' h => (h.cell (p := ⟨b2, off2 + j * 5 + 1, none⟩) hb2).trans g1
      have h2 : ∀ w', Below wr.heap.size wr w' → w'.cell? ⟨b2, off2 + j * 5 + 2, none⟩ = some (.bool s2) := fun w' h => (h.cell (p := ⟨b2, off2 + j * 5 + 2, none⟩) hb2).trans g2
      have h3 : ∀ w', Below wr.heap.size wr w' → w'.cell? ⟨b2, off2 + j * 5 + 3, none⟩ = some (.int .u64 (v1 : Int)) := fun w' h => (h.cell (p := ⟨b2, off2 + j * 5 + 3, none⟩) hb2).trans g3
      have h4 : ∀ w', Below wr.heap.size wr w' → w'.cell? ⟨b2, off2 + j * 5 + 4, none⟩ = some (.int .u64 (v2 : Int)) := fun w' h => (h.cell (p := ⟨b2, off2 + j * 5 + 4, none⟩) hb2).trans g4
      have hb0 : Below wr.heap.size wr wr := Below.refl _ _
      clear hy pp pp2 pl hbr hs1 hs2 hv1 hv2 hm hlt hj e0 e1 e2 e3 e4 g0 g1 g2 g3 g4
      go_wp2_with fail
      go_region_held3 (fun w' => Below wr.heap.size wr w') (((repeat (first | refine Below.drew ?_ | (with_reducible refine below_drewN _ ?_) | refine Below.alloc ?_ (by first | omega | (simp; done) | (simp; omega)) _ | refine Below.setCell ?_ (by first | omega | (simp; done) | (simp; omega)) _)); first | exact Below.refl _ _ | assumption | exact below_drewN _ (Below.refl _ _) | exact below_drewN _ (below_drewN _ (Below.refl _ _))))
        ((go_at_call 28; refine (HC.out _ (show Below wr.heap.size wr _ by ((repeat (first | refine Below.drew ?_ | (with_reducible refine below_drewN _ ?_) | refine Below.alloc ?_ (by first | omega | (simp; done) | (simp; omega)) _ | refine Below.setCell ?_ (by first | omega | (simp; done) | (simp; omega)) _)); first | exact Below.refl _ _ | assumption | exact below_drewN _ (Below.refl _ _) | exact below_drewN _ (below_drewN _ (Below.refl _ _))))).mono ?_; rintro e w2 ⟨rfl, hb2⟩; have hbD := Below.trans (show Below wr.heap.size wr _ by ((repeat (first | refine Below.drew ?_ | (with_reducible refine below_drewN _ ?_) | refine Below.alloc ?_ (by first | omega | (simp; done) | (simp; omega)) _ | refine Below.setCell ?_ (by first | omega | (simp; done) | (simp; omega)) _)); first | exact Below.refl _ _ | assumption | exact below_drewN _ (Below.refl _ _) | exact below_drewN _ (below_drewN _ (Below.refl _ _)))) (hb2.mono (Below.size (show Below wr.heap.size wr _ by ((repeat (first | refine Below.drew ?_ | (with_reducible refine below_drewN _ ?_) | refine Below.alloc ?_ (by first | omega | (simp; done) | (simp; omega)) _ | refine Below.setCell ?_ (by first | omega | (simp; done) | (simp; omega)) _)); first | exact Below.refl _ _ | assumption | exact below_drewN _ (Below.refl _ _) | exact below_drewN _ (below_drewN _ (Below.refl _ _)))))); clear hb2))
      clear a0 a1 a2 a3 a4 h0 h1 h2 h3 h4
      go_wp2_with fail
      go_roundw
      case rel => exact ⟨j + 1, by omega, by first | rfl | go_num, HB.out.trans (hbD.mono HB.out.size)⟩
      case measure => simp [intOf]; omega
    · go_wp2_with fail
      go_ret
      exact ⟨rfl, HB.out⟩
end Go.Proofs.Ytpgkfccfabnjdaa
