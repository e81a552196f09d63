import Derived.Test.YtccefboifhfkdaaGreatDoorM32
import Derived.Test.YtccefboifhfkdaaGreatDoorM27
/-
  CONTRACTS of packages pantileref01 and pantilelaw08: SameEntries of the same, at, awake.
-/
namespace Go.Proofs.YtccefboifhfkdaaGreatDoor
open Go.ChangeShapes Go.WideShapes Go.ChangeAt Go.RowKit
open Tr (T S4 Ent)

set_option maxRecDepth 100000 in
set_option maxHeartbeats 2000000 in
theorem rsameEnts_c {w : World} {L : List Ent} {A A' : Option Addr} {c c' : Nat} (h : Ents w w.heap.size A L) (h' : Ents w w.heap.size A' L) (hl : L.length ≤ 1000000000) :
    Calls Tryz.prog 12 #[.slice A L.length c, .slice A' L.length c'] w fun e w' => e = .returned (.bool true) ∧ Below w.heap.size w w' := by
  have HX := Lib.hid (And.intro h h')
  have n1 : ((L.length : Int) != (L.length : Int)) = false := by simp
  clear h h'
  go_enter Tryz.func12, Tryz.ntmps12
  go_wp2_with fail
  go_loopw [5] (fun i wr => ∃ j : Nat, j ≤ L.length ∧ i = .int .i64 j ∧ Below w.heap.size w wr) (fun i _ => L.length - (intOf i).toNat)
  case atStart => exact ⟨0, Nat.zero_le _, rfl, Below.refl _ _⟩
  case round =>
    obtain ⟨j, hj, rfl, hbr⟩ := hrel
    have HB := Lib.hid hbr
    by_cases hlt : j < L.length
    · obtain ⟨y, hy⟩ := get_lt hlt
      obtain ⟨b, off, P, pc, hA, hb, e0, e1, pp, pl, ph⟩ := (HX.out.1.below hbr (Nat.le_refl _) hbr.size).at hy
      obtain ⟨b2, off2, P2, pc2, hA2, hb2, g0, g1, pp2, -, -⟩ := (HX.out.2.below hbr (Nat.le_refl _) hbr.size).at hy
      subst hA hA2
      have a0 : ∀ w', Below wr.heap.size wr w' → w'.cell? ⟨b, off + j * 2, none⟩ = some (.slice P y.1.length pc) := fun w' h => (h.cell (p := ⟨b, off + j * 2, none⟩) hb).trans e0
      have a1 : ∀ w', Below wr.heap.size wr w' → w'.cell? ⟨b, off + j * 2 + 1, none⟩ = some (.int .u64 (y.2 : Int)) := fun w' h => (h.cell (p := ⟨b, off + j * 2 + 1, none⟩) hb).trans e1
      have a2 : ∀ w', Below wr.heap.size wr w' → w'.cell? ⟨b2, off2 + j * 2, none⟩ = some (.slice P2 y.1.length pc2) := fun w' h => (h.cell (p := ⟨b2, off2 + j * 2, none⟩) hb2).trans g0
      have a3 : ∀ w', Below wr.heap.size wr w' → w'.cell? ⟨b2, off2 + j * 2 + 1, none⟩ = some (.int .u64 (y.2 : Int)) := fun w' h => (h.cell (p := ⟨b2, off2 + j * 2 + 1, none⟩) hb2).trans g1
      have HC : Hid (∀ w1, Below wr.heap.size wr w1 → Calls Tryz.prog 41 #[.slice P y.1.length pc, .slice P2 y.1.length pc2] w1 fun e w' => e = .returned (.bool true) ∧ Below w1.heap.size w1 w') := Lib.hid fun w1 hb1 =>
        rsame_self P P2 pc pc2 y.1 wr.heap.size w1 (pp.below' hb1 (Nat.le_refl _)) (pp2.below' hb1 (Nat.le_refl _)) hb1.size pl
      have hb0 : Below wr.heap.size wr wr := Below.refl _ _
      have m1 : (0 : Int) ≤ (j : Int) := by omega
      have m2 : (j : Int) < (L.length : Int) := by omega
      clear hy e0 e1 g0 g1 pp pp2 pl ph hbr
      go_wp2_with fail
      go_region_held3 (fun w' => Below wr.heap.size wr w') (((repeat (first | refine Below.drew ?_ | (with_reducible refine below_drewN _ ?_) | refine Below.alloc ?_ (by first | omega | (simp; done) | (simp; omega)) _ | refine Below.setCell ?_ (by first | omega | (simp; done) | (simp; omega)) _)); first | exact Below.refl _ _ | assumption | exact below_drewN _ (Below.refl _ _) | exact below_drewN _ (below_drewN _ (Below.refl _ _))))
        ((go_at_call 41; refine (HC.out _ (show Below wr.heap.size wr _ by ((repeat (first | refine Below.drew ?_ | (with_reducible refine below_drewN _ ?_) | refine Below.alloc ?_ (by first | omega | (simp; done) | (simp; omega)) _ | refine Below.setCell ?_ (by first | omega | (simp; done) | (simp; omega)) _)); first | exact Below.refl _ _ | assumption | exact below_drewN _ (Below.refl _ _) | exact below_drewN _ (below_drewN _ (Below.refl _ _))))).mono ?_; rintro e w2 ⟨rfl, hb2⟩; have hbD := Below.trans (show Below wr.heap.size wr _ by ((repeat (first | refine Below.drew ?_ | (with_reducible refine below_drewN _ ?_) | refine Below.alloc ?_ (by first | omega | (simp; done) | (simp; omega)) _ | refine Below.setCell ?_ (by first | omega | (simp; done) | (simp; omega)) _)); first | exact Below.refl _ _ | assumption | exact below_drewN _ (Below.refl _ _) | exact below_drewN _ (below_drewN _ (Below.refl _ _)))) (hb2.mono (Below.size (show Below wr.heap.size wr _ by ((repeat (first | refine Below.drew ?_ | (with_reducible refine below_drewN _ ?_) | refine Below.alloc ?_ (by first | omega | (simp; done) | (simp; omega)) _ | refine Below.setCell ?_ (by first | omega | (simp; done) | (simp; omega)) _)); first | exact Below.refl _ _ | assumption | exact below_drewN _ (Below.refl _ _) | exact below_drewN _ (below_drewN _ (Below.refl _ _)))))); clear hb2))
      clear a0 a1 a2 a3
      go_wp2_with fail
      go_roundw
      case rel => exact ⟨j + 1, by omega, by go_num, HB.out.trans (hbD.mono HB.out.size)⟩
      case measure => simp [intOf]; omega
    · go_wp2_with fail
      go_ret
      exact ⟨rfl, HB.out⟩

/-! ### at -/
theorem rat_none {w : World} {A P : Option Addr} {n c dd : Nat} {i : Int} (h : i < 0 ∨ (n : Int) ≤ i) :
    Calls Tryz.prog 19 #[.slice A n c, .int .i64 i, .agg #[.slice P 0 dd, .int .u64 0], .bool false] w fun e w' => e = .returned (.bool true) ∧ Below w.heap.size w w' := by
  have hal := below_alloc w (.cells #[.slice P 0 dd, .int .u64 0] 36)
  by_cases d0 : i < 0
  · have d1 : decide (i < 0) = true := decide_eq_true d0
    clear h
    go_enter Tryz.func19, Tryz.ntmps19
    go_wp2_with fail
    go_ret
    exact ⟨rfl, hal⟩
  · have d1 : decide (i < 0) = false := decide_eq_false d0
    have d2 : decide ((n : Int) ≤ i) = true := decide_eq_true (by omega)
    clear h
    go_enter Tryz.func19, Tryz.ntmps19
    go_wp2_with fail
    go_ret
    exact ⟨rfl, hal⟩
set_option maxRecDepth 100000 in
set_option maxHeartbeats 2000000 in
theorem rat_some {w : World} {A P : Option Addr} {c dd j : Nat} {L : List Ent} {y : Ent} (hL : Ents w w.heap.size A L) (hy : L[j]? = some y) (hp : Pts w w.heap.size P y.1) :
    Calls Tryz.prog 19 #[.slice A L.length c, .int .i64 (j : Int), .agg #[.slice P y.1.length dd, .int .u64 (y.2 : Int)], .bool true] w fun e w' => e = .returned (.bool true) ∧ Below w.heap.size w w' := by
  obtain ⟨b, off, P2, pc, hA, hb, e0, e1, pp, pl, ph⟩ := hL.at hy
  subst hA
  have hlt := lt_get hy
  have hal := below_alloc w (.cells #[.slice P y.1.length dd, .int .u64 (y.2 : Int)] 36)
  obtain ⟨x0, x1, -, -⟩ := box_cells (heap_at w (.cells #[.slice P y.1.length dd, .int .u64 (y.2 : Int)] 36) _ rfl)
  obtain ⟨W, hW⟩ : ∃ W, W = w.alloc (.cells #[.slice P y.1.length dd, .int .u64 (y.2 : Int)] 36) := ⟨_, rfl⟩
  have hsW : w.heap.size < W.heap.size := by rw [hW]; simp
  rw [← hW] at hal x0 x1
  have a0 : ∀ w', Below W.heap.size W w' → w'.cell? ⟨b, off + j * 2, none⟩ = some (.slice P2 y.1.length pc) := fun w' h => ((hal.trans (h.mono hal.size)).cell (p := ⟨b, off + j * 2, none⟩) hb).trans e0
  have a1 : ∀ w', Below W.heap.size W w' → w'.cell? ⟨b, off + j * 2 + 1, none⟩ = some (.int .u64 (y.2 : Int)) := fun w' h => ((hal.trans (h.mono hal.size)).cell (p := ⟨b, off + j * 2 + 1, none⟩) hb).trans e1
  have a2 : ∀ w', Below W.heap.size W w' → w'.cell? ⟨w.heap.size, 0, none⟩ = some (.slice P y.1.length dd) := fun w' h => (h.cell (p := ⟨w.heap.size, 0, none⟩) hsW).trans x0
  have a3 : ∀ w', Below W.heap.size W w' → w'.cell? ⟨w.heap.size, 1, none⟩ = some (.int .u64 (y.2 : Int)) := fun w' h => (h.cell (p := ⟨w.heap.size, 1, none⟩) hsW).trans x1
  have HC : Hid (∀ w1, Below W.heap.size W w1 → Calls Tryz.prog 41 #[.slice P y.1.length dd, .slice P2 y.1.length pc] w1 fun e w' => e = .returned (.bool true) ∧ Below w1.heap.size w1 w') := Lib.hid fun w1 hb1 =>
    rsame_self P P2 dd pc y.1 w.heap.size w1 (hp.below' (hal.trans (hb1.mono hal.size)) (Nat.le_refl _)) (pp.below' (hal.trans (hb1.mono hal.size)) (Nat.le_refl _)) (Nat.le_trans hal.size hb1.size) pl
  have d1 : decide ((j : Int) < 0) = false := decide_eq_false (by omega)
  have d2 : decide ((L.length : Int) ≤ (j : Int)) = false := decide_eq_false (by omega)
  have d3 : decide (L.length ≤ j) = false := decide_eq_false (by omega)
  have m1 : (0 : Int) ≤ (j : Int) := by omega
  have m2 : (j : Int) < (L.length : Int) := by omega
  have hbD0 := Lib.hid hal
  clear hL hy hp e0 e1 pp pl ph hb x0 x1 hsW hal
  go_enter Tryz.func19, Tryz.ntmps19
  go_wp2_with fail
  rw [← hW]
  clear hW
  have hb0 : Below W.heap.size W W := Below.refl _ _
  go_region_held3 (fun w' => Below W.heap.size W w') (((repeat (first | refine Below.drew ?_ | (with_reducible refine below_drewN _ ?_) | refine Below.alloc ?_ (by first | omega | (simp; done) | (simp; omega)) _ | refine Below.setCell ?_ (by first | omega | (simp; done) | (simp; omega)) _)); first | exact Below.refl _ _ | assumption | exact below_drewN _ (Below.refl _ _) | exact below_drewN _ (below_drewN _ (Below.refl _ _))))
    ((go_at_call 41; refine (HC.out _ (show Below W.heap.size W _ by ((repeat (first | refine Below.drew ?_ | (with_reducible refine below_drewN _ ?_) | refine Below.alloc ?_ (by first | omega | (simp; done) | (simp; omega)) _ | refine Below.setCell ?_ (by first | omega | (simp; done) | (simp; omega)) _)); first | exact Below.refl _ _ | assumption | exact below_drewN _ (Below.refl _ _) | exact below_drewN _ (below_drewN _ (Below.refl _ _))))).mono ?_; rintro e w2 ⟨rfl, hb2⟩; have hbD := Below.trans (show Below W.heap.size W _ by ((repeat (first | refine Below.drew ?_ | (with_reducible refine below_drewN _ ?_) | refine Below.alloc ?_ (by first | omega | (simp; done) | (simp; omega)) _ | refine Below.setCell ?_ (by first | omega | (simp; done) | (simp; omega)) _)); first | exact Below.refl _ _ | assumption | exact below_drewN _ (Below.refl _ _) | exact below_drewN _ (below_drewN _ (Below.refl _ _)))) (hb2.mono (Below.size (show Below W.heap.size W _ by ((repeat (first | refine Below.drew ?_ | (with_reducible refine below_drewN _ ?_) | refine Below.alloc ?_ (by first | omega | (simp; done) | (simp; omega)) _ | refine Below.setCell ?_ (by first | omega | (simp; done) | (simp; omega)) _)); first | exact Below.refl _ _ | assumption | exact below_drewN _ (Below.refl _ _) | exact below_drewN _ (below_drewN _ (Below.refl _ _)))))); clear hb2))
  clear a0 a1 a2 a3
  go_wp2_with fail
  go_ret
  exact ⟨rfl, hbD0.out.trans (hbD.mono hbD0.out.size)⟩
end Go.Proofs.YtccefboifhfkdaaGreatDoor

/-
  THE CONTRACT of pantilelaw08.awake: the chapter's example is met: it returns true.
-/
namespace Go.Proofs.YtccefboifhfkdaaGreatDoor
open Go.ChangeShapes Go.WideShapes Go.ChangeAt Go.RowKit
open Tr (T S4 Ent Shp)

/-- three entries side by side -/
theorem ents_three {W : World} {b c0 c1 c2 : Nat} {A0 A1 A2 : Option Addr} {e0 e1 e2 : Ent}
    (h : W.heap[b]? = some (.cells #[.slice A0 e0.1.length c0, .int .u64 (e0.2 : Int), .slice A1 e1.1.length c1, .int .u64 (e1.2 : Int), .slice A2 e2.1.length c2, .int .u64 (e2.2 : Int)] 36 (0, 0)))
    (p0 : Pts W W.heap.size A0 e0.1) (p1 : Pts W W.heap.size A1 e1.1) (p2 : Pts W W.heap.size A2 e2.1) (hl : e0.1.length ≤ maxLen ∧ e1.1.length ≤ maxLen ∧ e2.1.length ≤ maxLen) (hv : e0.2 < 18446744073709551616 ∧ e1.2 < 18446744073709551616 ∧ e2.2 < 18446744073709551616) :
    Ents W W.heap.size (some ⟨b, 0, none⟩) [e0, e1, e2] := by
  intro _
  refine ⟨b, 0, rfl, (Array.getElem?_eq_some_iff.1 h).1, fun i e he => ?_⟩
  match i with
  | 0 =>
    simp only [List.getElem?_cons_zero, Option.some.injEq] at he
    subst he
    refine ⟨A0, c0, ?_, ?_, p0, hl.1, hv.1⟩
    · show W.cell? ⟨b, 0, none⟩ = _
      rw [cell_of_row W b _ _ _ (0, 0) h]; rfl
    · show W.cell? ⟨b, 1, none⟩ = _
      rw [cell_of_row W b _ _ _ (0, 0) h]; rfl
  | 1 =>
    simp only [List.getElem?_cons_succ, List.getElem?_cons_zero, Option.some.injEq] at he
    subst he
    refine ⟨A1, c1, ?_, ?_, p1, hl.2.1, hv.2.1⟩
    · show W.cell? ⟨b, 2, none⟩ = _
      rw [cell_of_row W b _ _ _ (0, 0) h]; rfl
    · show W.cell? ⟨b, 3, none⟩ = _
      rw [cell_of_row W b _ _ _ (0, 0) h]; rfl
  | 2 =>
    simp only [List.getElem?_cons_succ, List.getElem?_cons_zero, Option.some.injEq] at he
    subst he
    refine ⟨A2, c2, ?_, ?_, p2, hl.2.2, hv.2.2⟩
    · show W.cell? ⟨b, 4, none⟩ = _
      rw [cell_of_row W b _ _ _ (0, 0) h]; rfl
    · show W.cell? ⟨b, 5, none⟩ = _
      rw [cell_of_row W b _ _ _ (0, 0) h]; rfl
  | i + 3 => simp at he
theorem pts_two' {w W : World} (a b : Nat) (ha : a < 1000) (hb : b < 1000) (h : Below (w.alloc (.cells #[.int .u64 (a : Int), .int .u64 (b : Int)] 34)).heap.size (w.alloc (.cells #[.int .u64 (a : Int), .int .u64 (b : Int)] 34)) W) : Pts W W.heap.size (some ⟨w.heap.size, 0, none⟩) [a, b] :=
  ((pts_two w a b ha hb).below' h (Nat.le_refl _)).keep h.size (fun _ _ => rfl)
/-- the second list of the example, as the law makes it -/
theorem ex_row (w : World) : ∃ W, W = ((((w.alloc (.cells #[.int .u64 4, .int .u64 0] 34)).alloc (.cells #[.int .u64 7, .int .u64 3] 34)).alloc (.cells #[.int .u64 0, .int .u64 8] 34)).alloc (.cells #[.slice (some ⟨w.heap.size, 0, none⟩) 2 2, .int .u64 3, .slice (some ⟨w.heap.size + 1, 0, none⟩) 2 2, .int .u64 1, .slice (some ⟨w.heap.size + 1 + 1, 0, none⟩) 2 2, .int .u64 2] 36)) ∧
    Ents W W.heap.size (some ⟨w.heap.size + 1 + 1 + 1, 0, none⟩) exL ∧ Below w.heap.size w W := by
  refine ⟨_, rfl, ?_, by ((repeat (first | refine Below.drew ?_ | (with_reducible refine below_drewN _ ?_) | refine Below.alloc ?_ (by first | omega | (simp; done) | (simp; omega)) _ | refine Below.setCell ?_ (by first | omega | (simp; done) | (simp; omega)) _)); first | exact Below.refl _ _ | assumption | exact below_drewN _ (Below.refl _ _) | exact below_drewN _ (below_drewN _ (Below.refl _ _)))⟩
  refine ents_three (e0 := ([4, 0], 3)) (e1 := ([7, 3], 1)) (e2 := ([0, 8], 2)) (heap_at _ _ _ (by simp)) ?_ ?_ ?_ (by decide) (by decide)
  · exact pts_two' 4 0 (by decide) (by decide) (by ((repeat (first | refine Below.drew ?_ | (with_reducible refine below_drewN _ ?_) | refine Below.alloc ?_ (by first | omega | (simp; done) | (simp; omega)) _ | refine Below.setCell ?_ (by first | omega | (simp; done) | (simp; omega)) _)); first | exact Below.refl _ _ | assumption | exact below_drewN _ (Below.refl _ _) | exact below_drewN _ (below_drewN _ (Below.refl _ _))))
  · have := pts_two' (w := w.alloc (.cells #[.int .u64 4, .int .u64 0] 34)) 7 3 (by decide) (by decide) (W := ((((w.alloc (.cells #[.int .u64 4, .int .u64 0] 34)).alloc (.cells #[.int .u64 7, .int .u64 3] 34)).alloc (.cells #[.int .u64 0, .int .u64 8] 34)).alloc (.cells #[.slice (some ⟨w.heap.size, 0, none⟩) 2 2, .int .u64 3, .slice (some ⟨w.heap.size + 1, 0, none⟩) 2 2, .int .u64 1, .slice (some ⟨w.heap.size + 1 + 1, 0, none⟩) 2 2, .int .u64 2] 36))) (by ((repeat (first | refine Below.drew ?_ | (with_reducible refine below_drewN _ ?_) | refine Below.alloc ?_ (by first | omega | (simp; done) | (simp; omega)) _ | refine Below.setCell ?_ (by first | omega | (simp; done) | (simp; omega)) _)); first | exact Below.refl _ _ | assumption | exact below_drewN _ (Below.refl _ _) | exact below_drewN _ (below_drewN _ (Below.refl _ _))))
    simpa using this
  · have := pts_two' (w := (w.alloc (.cells #[.int .u64 4, .int .u64 0] 34)).alloc (.cells #[.int .u64 7, .int .u64 3] 34)) 0 8 (by decide) (by decide) (W := ((((w.alloc (.cells #[.int .u64 4, .int .u64 0] 34)).alloc (.cells #[.int .u64 7, .int .u64 3] 34)).alloc (.cells #[.int .u64 0, .int .u64 8] 34)).alloc (.cells #[.slice (some ⟨w.heap.size, 0, none⟩) 2 2, .int .u64 3, .slice (some ⟨w.heap.size + 1, 0, none⟩) 2 2, .int .u64 1, .slice (some ⟨w.heap.size + 1 + 1, 0, none⟩) 2 2, .int .u64 2] 36))) (by ((repeat (first | refine Below.drew ?_ | (with_reducible refine below_drewN _ ?_) | refine Below.alloc ?_ (by first | omega | (simp; done) | (simp; omega)) _ | refine Below.setCell ?_ (by first | omega | (simp; done) | (simp; omega)) _)); first | exact Below.refl _ _ | assumption | exact below_drewN _ (Below.refl _ _) | exact below_drewN _ (below_drewN _ (Below.refl _ _))))
    simpa using this
set_option maxRecDepth 100000 in
set_option maxHeartbeats 1000000 in
theorem awake8_c (w : World) (hT : Tz w) : Calls Tryz.prog 9 #[] w fun e w' => e = .returned (.bool true) ∧ Below w.heap.size w w' := by
  have HT := Lib.hid hT
  clear hT
  go_enter Tryz.func9, Tryz.ntmps9
  go_wp2_with fail
  refine (tNew_c 2 w (by decide) (by decide)).mono ?_
  rintro e w1 ⟨rfl, ht1, hb1⟩
  have T1 := Lib.hid ht1
  have B1 := Lib.hid hb1
  clear ht1 hb1
  go_wp2_with fail
  refine (tPut_new (T1.out.below (below_alloc w1 _) (Nat.le_refl _)) (pts_two w1 7 3 (by decide) (by decide)) rfl (c := 2) 1 (by decide) (by simp [Tr.entsO]) (by decide +kernel)).mono ?_
  rintro e w2 ⟨n2, t2, rfl, ht2, he2, hb2⟩
  have T2 := Lib.hid ht2
  have E2 := Lib.hid he2
  have B2 := Lib.hid (Below.andThen B1.out (Below.andThen (below_alloc w1 _) hb2))
  clear ht2 he2 hb2 T1
  go_wp2_with fail
  refine (tPut_new (T2.out.below (below_alloc w2 _) (Nat.le_refl _)) (pts_two w2 0 8 (by decide) (by decide)) rfl (c := 2) 2 (by decide) (by rw [show Tr.entsO (some t2) = t2.ents from rfl, E2.out]; decide +kernel) (by rw [show Tr.entsO (some t2) = t2.ents from rfl, E2.out]; decide +kernel)).mono ?_
  rintro e w3 ⟨n3, t3, rfl, ht3, he3, hb3⟩
  have T3 := Lib.hid ht3
  have E3 := Lib.hid (he3.trans (by rw [show Tr.entsO (some t2) = t2.ents from rfl, E2.out]))
  have B3 := Lib.hid (Below.andThen B2.out (Below.andThen (below_alloc w2 _) hb3))
  clear ht3 he3 hb3 T2
  go_wp2_with fail
  refine (tPut_new (T3.out.below (below_alloc w3 _) (Nat.le_refl _)) (pts_two w3 4 0 (by decide) (by decide)) rfl (c := 2) 3 (by decide) (by rw [show Tr.entsO (some t3) = t3.ents from rfl, E3.out]; decide +kernel) (by rw [show Tr.entsO (some t3) = t3.ents from rfl, E3.out]; decide +kernel)).mono ?_
  rintro e w4 ⟨n4, t4, rfl, ht4, he4, hb4⟩
  have T4 := Lib.hid ht4
  have E4 : Hid (Tr.entsO (some t4) = exL) := Lib.hid (by rw [show Tr.entsO (some t4) = t4.ents from rfl, he4, show Tr.entsO (some t3) = t3.ents from rfl, E3.out]; exact exL_put)
  have B4 := Lib.hid (Below.andThen B3.out (Below.andThen (below_alloc w3 _) hb4))
  clear ht4 he4 hb4 T3
  have HRo := Lib.hid (tRoot_c T4.out.1.2.2.2.1)
  have HAll := Lib.hid (all_c T4.out.1.2.2.2.2 (Nat.le_refl _) (fun w' hb => (HT.out.on B4.out).on hb) (by rw [E4.out]; decide))
  rw [E4.out] at HAll
  go_wp2_with (first
    | (go_at_call 14; refine HRo.out.mono ?_; rintro e w' ⟨rfl, rfl⟩)
    | (go_at_call 13; refine HAll.out.mono ?_; rintro e w5 ⟨A5, c5, rfl, hc5, hE5, hb5⟩; have H5 := Lib.hid (And.intro hE5 hb5); obtain ⟨W6, hW6, hE6, hb6⟩ := ex_row w5; have H6 := Lib.hid (And.intro hE6 hb6); clear hE5 hb5 hE6 hb6)
    | (rw [← hW6]; go_at_call 12; refine (rsameEnts_c (H5.out.1.below H6.out.2 (Nat.le_refl _) H6.out.2.size) H6.out.1 (by decide)).mono ?_; rintro e w7 ⟨rfl, hb7⟩))
  go_ret
  exact ⟨rfl, Below.andThen B4.out (Below.andThen H5.out.2 (Below.andThen H6.out.2 hb7))⟩
end Go.Proofs.YtccefboifhfkdaaGreatDoor
