import Derived.Test.YtpgkfccfabnjdaaM9q
import Derived.Test.YtpgkfccfabnjdaaM9t
import Derived.Test.YtpgkfccfabnjdaaM97
import Derived.Test.YtpgkfccfabnjdaaM9u
/-
  CONTRACTS of package pantileref13, third part: At, Apart.
-/
namespace Go.Proofs.Ytpgkfccfabnjdaa
open Go.ChangeShapes Go.WideShapes Go.ChangeAt Go.RowKit
open Tr (T S4 Ent Chg Raw Pc)

set_option maxRecDepth 1000000 in
set_option maxHeartbeats 4000000 in
theorem r13at_yes {w : World} {B B' k n c np pc : Nat} {A P : Option Addr} {C : List Chg} {p : List Nat} {x : Chg} (h : RwL w B A (C.map Tr.rawC)) (hB : B ≤ w.heap.size) (hC : Tr.CL k C) (hn : C.length = n) (hl : n ≤ 1000000) (hp : Pts w B' P p) (hB' : B' ≤ w.heap.size) (hpl : p.length = k) (k16 : k ≤ 16) (hnp : p.length = np) (hx : Tr.atC C (Tr.key p) = some x) :
    Calls Try.prog 23 #[.slice A n c, .slice P np pc] w fun e w' => ∃ P' pc', e = .returned (.tuple #[chV P' k pc' x.2.1.isSome x.2.2.isSome (x.2.1.getD 0) (x.2.2.getD 0), .bool true]) ∧ Below w.heap.size w w' := by
  have hal := below_alloc w (.cells #[.slice none 0 0, .bool false, .bool false, .int .u64 0, .int .u64 0] 43)
  have hrow := heap_at w (.cells #[.slice none 0 0, .bool false, .bool false, .int .u64 0, .int .u64 0] 43) _ rfl
  obtain ⟨hxm, hxp⟩ := hC.point hpl hp.1 hx
  obtain ⟨s1, hs1⟩ : ∃ s, x.2.1.isSome = s := ⟨_, rfl⟩
  obtain ⟨s2, hs2⟩ : ∃ s, x.2.2.isSome = s := ⟨_, rfl⟩
  obtain ⟨v1, hv1⟩ : ∃ v, x.2.1.getD 0 = v := ⟨_, rfl⟩
  obtain ⟨v2, hv2⟩ : ∃ v, x.2.2.getD 0 = v := ⟨_, rfl⟩
  rw [hs1, hs2, hv1, hv2]
  have HSV := Lib.hid (And.intro hs1 (And.intro hs2 (And.intro hv1 hv2)))
  clear hs1 hs2 hv1 hv2
  have HX := Lib.hid (And.intro h (And.intro hB (And.intro hC (And.intro hn (And.intro hp (And.intro hB' (And.intro hpl (And.intro k16 (And.intro hnp (And.intro hx (And.intro hxm hxp)))))))))))
  have HW := Lib.hid (And.intro hal hrow)
  have hn9 : (n : Int) ≤ 1000000 := by omega
  clear h hB hC hn hl hp hB' hpl k16 hnp hx hal hrow hxm hxp
  go_enter Try.func23, Try.ntmps23
  go_wp2_with fail
  generalize w.alloc (.cells #[.slice none 0 0, .bool false, .bool false, .int .u64 0, .int .u64 0] 43) = W at *
  go_loopw [6] (fun v wr => ∃ (j : Nat), v = .int .i64 (j : Int) ∧ j ≤ n ∧ (∀ i c, i < j → C[i]? = some c → c.1 ≠ p) ∧ Below W.heap.size W wr) (fun v _ => n - (intOf v).toNat)
  case atStart => exact ⟨0, rfl, Nat.zero_le _, fun i c hi => by omega, Below.refl _ _⟩
  case round =>
    obtain ⟨j, rfl, hj, hat, hbr⟩ := hrel
    by_cases hlt : j < n
    · obtain ⟨y, hy⟩ := get_lt (us := C) (k := j) (by rw [HX.out.2.2.2.1]; exact hlt)
      have hbw := Below.trans HW.out.1 (hbr.mono HW.out.1.size)
      obtain ⟨q, off, Q, qc, hA, hq, e0, e1, e2, e3, e4, pp, pl, -, -⟩ := (HX.out.1.below hbw HX.out.2.1 (Nat.le_refl _)).at (i := j) (r := Tr.rawC y) (by rw [List.getElem?_map, hy]; rfl)
      have hyk := (HX.out.2.2.1.each y (List.mem_of_getElem? hy)).1
      replace e0 : wr.cell? ⟨q, off + j * 5, none⟩ = some (.slice Q k qc) := by rw [← hyk]; exact e0
      replace e1 : wr.cell? ⟨q, off + j * 5 + 1, none⟩ = some (.bool y.2.1.isSome) := e1
      replace e2 : wr.cell? ⟨q, off + j * 5 + 2, none⟩ = some (.bool y.2.2.isSome) := e2
      replace e3 : wr.cell? ⟨q, off + j * 5 + 3, none⟩ = some (.int .u64 ((y.2.1.getD 0 : Nat) : Int)) := e3
      replace e4 : wr.cell? ⟨q, off + j * 5 + 4, none⟩ = some (.int .u64 ((y.2.2.getD 0 : Nat) : Int)) := e4
      obtain ⟨r, hr⟩ : ∃ r, decide (y.1 = p) = r := ⟨_, rfl⟩
      have hS := rsame_c Q P qc pc y.1 p wr.heap.size wr (pp.keep (Nat.le_trans HX.out.2.1 hbw.size) (fun _ _ => rfl)) ((HX.out.2.2.2.2.1.below' hbw HX.out.2.2.2.2.2.1).keep (Nat.le_trans HX.out.2.2.2.2.2.1 hbw.size) (fun _ _ => rfl)) (Nat.le_refl _) pl
      rw [hyk, HX.out.2.2.2.2.2.2.2.2.1, hr] at hS
      have HS := Lib.hid hS
      have hq4 : q < wr.heap.size := Nat.lt_of_lt_of_le hq (Nat.le_trans HX.out.2.1 hbw.size)
      have hrw := (hbr.block w.heap.size (Array.getElem?_eq_some_iff.1 HW.out.2).1).trans HW.out.2
      have HRW := Lib.hid hrw
      have f1 : decide ((j : Int) < (n : Int)) = true := decide_eq_true (by omega)
      have f1' : decide (j < n) = true := decide_eq_true hlt
      have m1 : (0 : Int) ≤ (j : Int) := by omega
      have m2 : (j : Int) < (n : Int) := by omega
      have m3 : (j : Int) ≤ 1000000 := by omega
      have HY := Lib.hid (And.intro hy (And.intro hat (And.intro hbr (And.intro hr (And.intro hlt (And.intro hyk hbw))))))
      subst hA
      clear hy hat hbr hr hlt hyk hbw pp pl hq hS hj hrw
      cases r with
      | false =>
        go_wp2_with (go_at_call 28; refine HS.out.mono ?_; rintro e w2 ⟨rfl, hb2⟩; have H2 := Lib.hid hb2; clear hb2)
        go_roundw
        case rel =>
          refine ⟨j + 1, by first | rfl | go_num, by have := HY.out.2.2.2.2.1; omega, fun i c hi hc => ?_, Below.andThen HY.out.2.2.1 H2.out⟩
          rcases Nat.lt_or_ge i j with h | h
          · exact HY.out.2.1 i c h hc
          · obtain rfl : i = j := by omega
            obtain rfl : y = c := Option.some.inj (HY.out.1.symm.trans hc)
            exact of_decide_eq_false HY.out.2.2.2.1
        case measure =>
          have := HY.out.2.2.2.2.1
          show n - ((j : Int) + 1).toNat < n - (j : Int).toNat
          omega
      | true =>
        have hyx : y = x := by
          have h1 : y.1 = p := of_decide_eq_true HY.out.2.2.2.1
          have h2 := Tr.atC_some HX.out.2.2.1.cs (List.mem_of_getElem? HY.out.1)
          rw [h1, HX.out.2.2.2.2.2.2.2.2.2.1] at h2
          exact (Option.some.inj h2).symm
        rw [hyx, HSV.out.1] at e1
        rw [hyx, HSV.out.2.1] at e2
        rw [hyx, HSV.out.2.2.1] at e3
        rw [hyx, HSV.out.2.2.2] at e4
        clear hyx
        have hwl : w.heap.size < wr.heap.size := (Array.getElem?_eq_some_iff.1 HRW.out).1
        go_wp2_with (go_at_call 28; refine HS.out.mono ?_; rintro e w2 ⟨rfl, hb2⟩; have k0 := (hb2.cell (p := ⟨q, off + j * 5, none⟩) hq4).trans e0; have k1 := (hb2.cell (p := ⟨q, off + j * 5 + 1, none⟩) hq4).trans e1; have k2 := (hb2.cell (p := ⟨q, off + j * 5 + 2, none⟩) hq4).trans e2; have k3 := (hb2.cell (p := ⟨q, off + j * 5 + 3, none⟩) hq4).trans e3; have k4 := (hb2.cell (p := ⟨q, off + j * 5 + 4, none⟩) hq4).trans e4; have hrd := (hb2.block w.heap.size hwl).trans HRW.out; have z0 : w2.cell? ⟨w.heap.size, 0, none⟩ = some (.slice none 0 0) := (by rw [cell_of_row w2 _ _ _ _ (0, 0) hrd]; rfl); have z1 : w2.cell? ⟨w.heap.size, 1, none⟩ = some (.bool false) := (by rw [cell_of_row w2 _ _ _ _ (0, 0) hrd]; rfl); have z2 : w2.cell? ⟨w.heap.size, 2, none⟩ = some (.bool false) := (by rw [cell_of_row w2 _ _ _ _ (0, 0) hrd]; rfl); have z3 : w2.cell? ⟨w.heap.size, 3, none⟩ = some (.int .u64 0) := (by rw [cell_of_row w2 _ _ _ _ (0, 0) hrd]; rfl); have z4 : w2.cell? ⟨w.heap.size, 4, none⟩ = some (.int .u64 0) := (by rw [cell_of_row w2 _ _ _ _ (0, 0) hrd]; rfl); have g0 := frozen_of_row w2 w.heap.size 0 _ _ hrd; have g1 := frozen_of_row w2 w.heap.size 1 _ _ hrd; have g2 := frozen_of_row w2 w.heap.size 2 _ _ hrd; have g3 := frozen_of_row w2 w.heap.size 3 _ _ hrd; have g4 := frozen_of_row w2 w.heap.size 4 _ _ hrd; have H2 := Lib.hid (And.intro hb2 hrd); clear hb2 hrd e0 e1 e2 e3 e4)
        have hrf := set5_row w2 w.heap.size (.slice Q k qc) (.bool s1) (.bool s2) (.int .u64 (v1 : Int)) (.int .u64 (v2 : Int)) _ _ _ _ _ _ H2.out.2
        have hbf : Below w.heap.size w (set5 w2 w.heap.size (.slice Q k qc) (.bool s1) (.bool s2) (.int .u64 (v1 : Int)) (.int .u64 (v2 : Int))) := set5_below (Below.andThen HY.out.2.2.2.2.2.2 H2.out.1) _ _ _ _ _ _ (Nat.le_refl _)
        obtain ⟨Wf, hWf⟩ : ∃ Wf, Wf = set5 w2 w.heap.size (.slice Q k qc) (.bool s1) (.bool s2) (.int .u64 (v1 : Int)) (.int .u64 (v2 : Int)) := ⟨_, rfl⟩
        rw [← hWf] at hrf hbf
        have y0 : Wf.cell? ⟨w.heap.size, 0, none⟩ = some (.slice Q k qc) := by rw [cell_of_row Wf _ _ _ _ (0, 0) hrf]; rfl
        have y1 : Wf.cell? ⟨w.heap.size, 1, none⟩ = some (.bool s1) := by rw [cell_of_row Wf _ _ _ _ (0, 0) hrf]; rfl
        have y2 : Wf.cell? ⟨w.heap.size, 2, none⟩ = some (.bool s2) := by rw [cell_of_row Wf _ _ _ _ (0, 0) hrf]; rfl
        have y3 : Wf.cell? ⟨w.heap.size, 3, none⟩ = some (.int .u64 (v1 : Int)) := by rw [cell_of_row Wf _ _ _ _ (0, 0) hrf]; rfl
        have y4 : Wf.cell? ⟨w.heap.size, 4, none⟩ = some (.int .u64 (v2 : Int)) := by rw [cell_of_row Wf _ _ _ _ (0, 0) hrf]; rfl
        rw [← show Wf = ((((w2.setCell ⟨w.heap.size, 0, none⟩ (.slice Q k qc)).setCell ⟨w.heap.size, 1, none⟩ (.bool s1)).setCell ⟨w.heap.size, 2, none⟩ (.bool s2)).setCell ⟨w.heap.size, 3, none⟩ (.int .u64 (v1 : Int))).setCell ⟨w.heap.size, 4, none⟩ (.int .u64 (v2 : Int)) from hWf]
        clear hWf z0 z1 z2 z3 z4 g0 g1 g2 g3 g4 k0 k1 k2 k3 k4 hrf
        refine bodyPost_ret (v := .tuple #[chV Q k qc s1 s2 v1 v2, .bool true]) (by simp [results, Try.results23, go_sem, y0, y1, y2, y3, y4]) rfl ?_
        exact ⟨Q, qc, rfl, hbf⟩
    · exfalso
      obtain ⟨i, hi⟩ := List.mem_iff_getElem?.1 HX.out.2.2.2.2.2.2.2.2.2.2.1
      exact hat i x (by have := (List.getElem?_eq_some_iff.1 hi).1; have := HX.out.2.2.2.1; omega) hi HX.out.2.2.2.2.2.2.2.2.2.2.2
set_option maxRecDepth 1000000 in
set_option maxHeartbeats 4000000 in
theorem r13at_no {w : World} {B B' k n c np pc : Nat} {A P : Option Addr} {C : List Chg} {p : List Nat} (h : RwL w B A (C.map Tr.rawC)) (hB : B ≤ w.heap.size) (hC : Tr.CL k C) (hn : C.length = n) (hl : n ≤ 1000000) (hp : Pts w B' P p) (hB' : B' ≤ w.heap.size) (hpl : p.length = k) (k16 : k ≤ 16) (hnp : p.length = np) (hx : Tr.atC C (Tr.key p) = none) :
    Calls Try.prog 23 #[.slice A n c, .slice P np pc] w fun e w' => e = .returned (.tuple #[chV none 0 0 false false 0 0, .bool false]) ∧ Below w.heap.size w w' := by
  have hal := below_alloc w (.cells #[.slice none 0 0, .bool false, .bool false, .int .u64 0, .int .u64 0] 43)
  have hrow := heap_at w (.cells #[.slice none 0 0, .bool false, .bool false, .int .u64 0, .int .u64 0] 43) _ rfl
  have HX := Lib.hid (And.intro h (And.intro hB (And.intro hC (And.intro hn (And.intro hp (And.intro hB' (And.intro hpl (And.intro k16 (And.intro hnp hx)))))))))
  have HW := Lib.hid (And.intro hal hrow)
  have hn9 : (n : Int) ≤ 1000000 := by omega
  clear h hB hC hn hl hp hB' hpl k16 hnp hx hal hrow
  go_enter Try.func23, Try.ntmps23
  go_wp2_with fail
  generalize w.alloc (.cells #[.slice none 0 0, .bool false, .bool false, .int .u64 0, .int .u64 0] 43) = W at *
  go_loopw [6] (fun v wr => ∃ (j : Nat), v = .int .i64 (j : Int) ∧ j ≤ n ∧ Below W.heap.size W wr) (fun v _ => n - (intOf v).toNat)
  case atStart => exact ⟨0, rfl, Nat.zero_le _, Below.refl _ _⟩
  case round =>
    obtain ⟨j, rfl, hj, hbr⟩ := hrel
    by_cases hlt : j < n
    · obtain ⟨y, hy⟩ := get_lt (us := C) (k := j) (by rw [HX.out.2.2.2.1]; exact hlt)
      have hbw := Below.trans HW.out.1 (hbr.mono HW.out.1.size)
      obtain ⟨q, off, Q, qc, hA, hq, e0, -, -, -, -, pp, pl, -, -⟩ := (HX.out.1.below hbw HX.out.2.1 (Nat.le_refl _)).at (i := j) (r := Tr.rawC y) (by rw [List.getElem?_map, hy]; rfl)
      have hyk := (HX.out.2.2.1.each y (List.mem_of_getElem? hy)).1
      replace e0 : wr.cell? ⟨q, off + j * 5, none⟩ = some (.slice Q k qc) := by rw [← hyk]; exact e0
      have hne : y.1 ≠ p := fun e => by
        have h2 := Tr.atC_some HX.out.2.2.1.cs (List.mem_of_getElem? hy)
        rw [e, HX.out.2.2.2.2.2.2.2.2.2] at h2
        cases h2
      have hS := rsame_c Q P qc pc y.1 p wr.heap.size wr (pp.keep (Nat.le_trans HX.out.2.1 hbw.size) (fun _ _ => rfl)) ((HX.out.2.2.2.2.1.below' hbw HX.out.2.2.2.2.2.1).keep (Nat.le_trans HX.out.2.2.2.2.2.1 hbw.size) (fun _ _ => rfl)) (Nat.le_refl _) pl
      rw [hyk, HX.out.2.2.2.2.2.2.2.2.1, decide_eq_false hne] at hS
      have HS := Lib.hid hS
      have f1 : decide ((j : Int) < (n : Int)) = true := decide_eq_true (by omega)
      have f1' : decide (j < n) = true := decide_eq_true hlt
      have m1 : (0 : Int) ≤ (j : Int) := by omega
      have m2 : (j : Int) < (n : Int) := by omega
      have m3 : (j : Int) ≤ 1000000 := by omega
      have HY := Lib.hid (And.intro hbr hlt)
      subst hA
      clear hy hbr hlt hyk hbw pp pl hq hS hj hne
      go_wp2_with (go_at_call 28; refine HS.out.mono ?_; rintro e w2 ⟨rfl, hb2⟩; have H2 := Lib.hid hb2; clear hb2)
      go_roundw
      case rel => exact ⟨j + 1, by first | rfl | go_num, by have := HY.out.2; omega, Below.andThen HY.out.1 H2.out⟩
      case measure =>
        have := HY.out.2
        show n - ((j : Int) + 1).toNat < n - (j : Int).toNat
        omega
    · have hjn : n = j := by omega
      subst hjn
      have f1 : decide ((n : Int) < (n : Int)) = false := decide_eq_false (by omega)
      have f1' : decide (n < n) = false := decide_eq_false (by omega)
      have hrd := (hbr.block w.heap.size (Array.getElem?_eq_some_iff.1 HW.out.2).1).trans HW.out.2
      have z0 : wr.cell? ⟨w.heap.size, 0, none⟩ = some (.slice none 0 0) := by rw [cell_of_row wr _ _ _ _ (0, 0) hrd]; rfl
      have z1 : wr.cell? ⟨w.heap.size, 1, none⟩ = some (.bool false) := by rw [cell_of_row wr _ _ _ _ (0, 0) hrd]; rfl
      have z2 : wr.cell? ⟨w.heap.size, 2, none⟩ = some (.bool false) := by rw [cell_of_row wr _ _ _ _ (0, 0) hrd]; rfl
      have z3 : wr.cell? ⟨w.heap.size, 3, none⟩ = some (.int .u64 0) := by rw [cell_of_row wr _ _ _ _ (0, 0) hrd]; rfl
      have z4 : wr.cell? ⟨w.heap.size, 4, none⟩ = some (.int .u64 0) := by rw [cell_of_row wr _ _ _ _ (0, 0) hrd]; rfl
      have g0 := frozen_of_row wr w.heap.size 0 _ _ hrd
      have g1 := frozen_of_row wr w.heap.size 1 _ _ hrd
      have g2 := frozen_of_row wr w.heap.size 2 _ _ hrd
      have g3 := frozen_of_row wr w.heap.size 3 _ _ hrd
      have g4 := frozen_of_row wr w.heap.size 4 _ _ hrd
      have HY := Lib.hid (And.intro hbr hrd)
      clear hbr hlt hj hrd
      go_wp2_with fail
      have hrf := set5_row wr w.heap.size (.slice none 0 0) (.bool false) (.bool false) (.int .u64 0) (.int .u64 0) _ _ _ _ _ _ HY.out.2
      have hbf : Below w.heap.size w (set5 wr w.heap.size (.slice none 0 0) (.bool false) (.bool false) (.int .u64 0) (.int .u64 0)) := set5_below (Below.trans HW.out.1 (HY.out.1.mono HW.out.1.size)) _ _ _ _ _ _ (Nat.le_refl _)
      obtain ⟨Wf, hWf⟩ : ∃ Wf, Wf = set5 wr w.heap.size (.slice none 0 0) (.bool false) (.bool false) (.int .u64 0) (.int .u64 0) := ⟨_, rfl⟩
      rw [← hWf] at hrf hbf
      have y0 : Wf.cell? ⟨w.heap.size, 0, none⟩ = some (.slice none 0 0) := by rw [cell_of_row Wf _ _ _ _ (0, 0) hrf]; rfl
      have y1 : Wf.cell? ⟨w.heap.size, 1, none⟩ = some (.bool false) := by rw [cell_of_row Wf _ _ _ _ (0, 0) hrf]; rfl
      have y2 : Wf.cell? ⟨w.heap.size, 2, none⟩ = some (.bool false) := by rw [cell_of_row Wf _ _ _ _ (0, 0) hrf]; rfl
      have y3 : Wf.cell? ⟨w.heap.size, 3, none⟩ = some (.int .u64 0) := by rw [cell_of_row Wf _ _ _ _ (0, 0) hrf]; rfl
      have y4 : Wf.cell? ⟨w.heap.size, 4, none⟩ = some (.int .u64 0) := by rw [cell_of_row Wf _ _ _ _ (0, 0) hrf]; rfl
      rw [← show Wf = ((((wr.setCell ⟨w.heap.size, 0, none⟩ (.slice none 0 0)).setCell ⟨w.heap.size, 1, none⟩ (.bool false)).setCell ⟨w.heap.size, 2, none⟩ (.bool false)).setCell ⟨w.heap.size, 3, none⟩ (.int .u64 0)).setCell ⟨w.heap.size, 4, none⟩ (.int .u64 0) from hWf]
      clear hWf z0 z1 z2 z3 z4 g0 g1 g2 g3 g4 hrf
      refine bodyPost_ret (v := .tuple #[chV none 0 0 false false 0 0, .bool false]) (by simp [results, Try.results23, go_sem, y0, y1, y2, y3, y4]) rfl ?_
      exact ⟨rfl, hbf⟩
end Go.Proofs.Ytpgkfccfabnjdaa

/-
  CONTRACTS of package pantileref13, fourth part: Apart, Before.
-/
namespace Go.Proofs.Ytpgkfccfabnjdaa
open Go.ChangeShapes Go.WideShapes Go.ChangeAt Go.RowKit
open Tr (T S4 Ent Chg Raw Pc)

set_option maxRecDepth 1000000 in
set_option maxHeartbeats 4000000 in
theorem r13apart_c {w : World} {B k n n' c c' : Nat} {A A' : Option Addr} {a b : List Chg} (ha : RwL w B A (a.map Tr.rawC)) (hb : RwL w B A' (b.map Tr.rawC)) (hB : B ≤ w.heap.size) (Ca : Tr.CL k a) (Cb : Tr.CL k b) (hn : a.length = n) (hn' : b.length = n') (hl : n ≤ 1000000) (hl' : n' ≤ 1000000) (k16 : k ≤ 16) {r : Bool} (hr : (Tr.mz a b).all Tr.apQ = r) :
    Calls Try.prog 10 #[.slice A n c, .slice A' n' c'] w fun e w' => e = .returned (.bool r) ∧ Below w.heap.size w w' := by
  have hap := Tr.ap_iff Ca Cb
  rw [hr] at hap
  have HX := Lib.hid (And.intro ha (And.intro hb (And.intro hB (And.intro Ca (And.intro Cb (And.intro hn (And.intro hn' (And.intro hl' (And.intro k16 hap)))))))))
  have hn9 : (n : Int) ≤ 1000000 := by omega
  clear ha hb hB Ca Cb hn hn' hl hl' k16 hr hap
  go_enter Try.func10, Try.ntmps10
  go_wp2_with fail
  go_loopw [5] (fun v wr => ∃ (j : Nat), v = .int .i64 (j : Int) ∧ j ≤ n ∧ (∀ i x, i < j → a[i]? = some x → Tr.atC b (Tr.key x.1) = none) ∧ Below w.heap.size w wr) (fun v _ => n - (intOf v).toNat)
  case atStart => exact ⟨0, rfl, Nat.zero_le _, fun i c hi => by omega, Below.refl _ _⟩
  case round =>
    obtain ⟨j, rfl, hj, hat, hbr⟩ := hrel
    by_cases hlt : j < n
    · obtain ⟨y, hy⟩ := get_lt (us := a) (k := j) (by rw [HX.out.2.2.2.2.2.1]; exact hlt)
      obtain ⟨q, off, Q, qc, hA, hq, e0, -, -, -, -, pp, pl, -, -⟩ := (HX.out.1.below hbr HX.out.2.2.1 (Nat.le_refl _)).at (i := j) (r := Tr.rawC y) (by rw [List.getElem?_map, hy]; rfl)
      have hyk := (HX.out.2.2.2.1.each y (List.mem_of_getElem? hy)).1
      replace e0 : wr.cell? ⟨q, off + j * 5, none⟩ = some (.slice Q k qc) := by rw [← hyk]; exact e0
      have hBw := Nat.le_trans HX.out.2.2.1 hbr.size
      have hb' := HX.out.2.1.below hbr HX.out.2.2.1 (Nat.le_refl B)
      have f1 : decide ((j : Int) < (n : Int)) = true := decide_eq_true (by omega)
      have f1' : decide (j < n) = true := decide_eq_true hlt
      have m1 : (0 : Int) ≤ (j : Int) := by omega
      have m2 : (j : Int) < (n : Int) := by omega
      have m3 : (j : Int) ≤ 1000000 := by omega
      subst hA
      cases hac : Tr.atC b (Tr.key y.1) with
      | none =>
        have HS := Lib.hid (r13at_no (n := n') (c := c') (p := y.1) (pc := qc) hb' hBw HX.out.2.2.2.2.1 HX.out.2.2.2.2.2.2.1 HX.out.2.2.2.2.2.2.2.1 pp hBw hyk HX.out.2.2.2.2.2.2.2.2.1 hyk hac)
        have HY := Lib.hid (And.intro hy (And.intro hat (And.intro hbr (And.intro hlt hac))))
        clear hy hat hbr hlt hac hyk pp pl hq hj hBw hb'
        go_wp2_with (go_at_call 23; refine HS.out.mono ?_; rintro e w2 ⟨rfl, hb2⟩; have H2 := Lib.hid hb2; clear hb2)
        go_roundw
        case rel =>
          refine ⟨j + 1, by first | rfl | go_num, by have := HY.out.2.2.2.1; omega, fun i x hi hx => ?_, HY.out.2.2.1.trans ((Below.andThen H2.out (below_alloc _ _)).mono HY.out.2.2.1.size)⟩
          rcases Nat.lt_or_ge i j with h | h
          · exact HY.out.2.1 i x h hx
          · obtain rfl : i = j := by omega
            obtain rfl : y = x := Option.some.inj (HY.out.1.symm.trans hx)
            exact HY.out.2.2.2.2
        case measure =>
          have := HY.out.2.2.2.1
          show n - ((j : Int) + 1).toNat < n - (j : Int).toNat
          omega
      | some x =>
        have hrf : r = false := by
          cases r with
          | false => rfl
          | true => have h := HX.out.2.2.2.2.2.2.2.2.2.1 rfl y (List.mem_of_getElem? hy); rw [hac] at h; cases h
        subst hrf
        have HS := Lib.hid (r13at_yes (n := n') (c := c') (p := y.1) (pc := qc) hb' hBw HX.out.2.2.2.2.1 HX.out.2.2.2.2.2.2.1 HX.out.2.2.2.2.2.2.2.1 pp hBw hyk HX.out.2.2.2.2.2.2.2.2.1 hyk hac)
        have HY := Lib.hid hbr
        clear hy hat hbr hlt hac hyk pp pl hq hj hBw hb'
        go_wp2_with (go_at_call 23; refine HS.out.mono ?_; rintro e w2 ⟨P', pc', rfl, hb2⟩; have H2 := Lib.hid hb2; clear hb2)
        go_ret
        exact ⟨rfl, HY.out.trans ((Below.andThen H2.out (below_alloc _ _)).mono HY.out.size)⟩
    · have hjn : n = j := by omega
      subst hjn
      have f1 : decide ((n : Int) < (n : Int)) = false := decide_eq_false (by omega)
      have f1' : decide (n < n) = false := decide_eq_false (by omega)
      have HY := Lib.hid (And.intro hat hbr)
      clear hat hbr hlt hj
      go_wp2_with fail
      go_ret
      have hrr := HX.out.2.2.2.2.2.2.2.2.2.2 fun x hx => by
        obtain ⟨i, hi⟩ := List.mem_iff_getElem?.1 hx
        exact HY.out.1 i x (by have := (List.getElem?_eq_some_iff.1 hi).1; have := HX.out.2.2.2.2.2.1; omega) hi
      subst hrr
      exact ⟨rfl, HY.out.2⟩
end Go.Proofs.Ytpgkfccfabnjdaa

/-
  CONTRACTS of package pantileref13, fifth part: Before.
-/
namespace Go.Proofs.Ytpgkfccfabnjdaa
open Go.ChangeShapes Go.WideShapes Go.ChangeAt Go.RowKit
open Tr (T S4 Ent Chg Raw Pc)

theorem lst_pt {w W : World} {B k : Nat} {A' : Option Addr} {c' : Nat} {p : List Nat} {v : Nat} (hp : Pts w B A' p) (hk : p.length = k) (h16 : k ≤ 16) (hv : v < 18446744073709551616) :
    Lst 2 (EntQ w B) (W.alloc (.cells #[.slice A' k c', .int .u64 (v : Int)] 72)) (W.heap.size + 1) (some ⟨W.heap.size, 0, none⟩) [(p, v)] := by
  subst hk
  exact lst_one hp (by unfold maxLen; omega) hv

set_option maxRecDepth 1000000 in
set_option maxHeartbeats 8000000 in
theorem r13before_c {w : World} {B k n c : Nat} {A : Option Addr} {a : List Chg} (ha : RwL w B A (a.map Tr.rawC)) (hB : B ≤ w.heap.size) (Ca : Tr.CL k a) (k16 : k ≤ 16) (hn : a.length = n) (hl : n ≤ 100000) :
    Calls Try.prog 24 #[.slice A n c] w fun e w' => ∃ D d N, e = .returned (.slice D N d) ∧ (Tr.befL a).length = N ∧ EntL w' B w'.heap.size D (Tr.befL a) ∧ N ≤ d ∧ Below w.heap.size w w' := by
  have hal := below_alloc w (.cells #[] 72)
  have ho0 : OwnE (w.alloc (.cells #[] 72)) B w.heap.size (.slice (some ⟨w.heap.size, 0, none⟩) 0 0) [] := ownL_nil _ w
  have HX := Lib.hid (And.intro ha (And.intro hB (And.intro Ca (And.intro k16 (And.intro hn hl)))))
  have H0 := Lib.hid (And.intro hal ho0)
  have hn9 : (n : Int) ≤ 100000 := by omega
  clear ha hB Ca k16 hn hl hal ho0
  go_enter Try.func24, Try.ntmps24
  go_wp2_with fail
  obtain ⟨W1, hW1⟩ : ∃ W1, W1 = w.alloc (.cells #[] 72) := ⟨_, rfl⟩
  rw [← hW1] at H0 ⊢
  clear hW1
  go_loopw [3, 4] (fun u v wr => ∃ (j m : Nat) (D : Option Addr) (d : Nat), u = .slice D m d ∧ v = .int .i64 (j : Int) ∧ j ≤ n ∧ (Tr.befL (a.take j)).length = m ∧ OwnE wr B w.heap.size (.slice D m d) (Tr.befL (a.take j)) ∧ Below w.heap.size w wr) (fun _ v _ => n - (intOf v).toNat)
  case atStart => exact ⟨0, 0, _, 0, rfl, rfl, Nat.zero_le _, rfl, H0.out.2, H0.out.1⟩
  case round =>
    obtain ⟨j, m, D, d, rfl, rfl, hj, hm, how, hbr⟩ := hrel
    by_cases hlt : j < n
    · obtain ⟨y, hy⟩ := get_lt (us := a) (k := j) (by rw [HX.out.2.2.2.2.1]; exact hlt)
      obtain ⟨q, off, P, pc, hA, hq, e0, e1, -, e3, -, pp, pl, -, -⟩ := (HX.out.1.below hbr HX.out.2.1 (Nat.le_refl _)).at (i := j) (r := Tr.rawC y) (by rw [List.getElem?_map, hy]; rfl)
      have hey := HX.out.2.2.1.each y (List.mem_of_getElem? hy)
      have hyk := hey.1
      replace e0 : wr.cell? ⟨q, off + j * 5, none⟩ = some (.slice P k pc) := by rw [← hyk]; exact e0
      replace e1 : wr.cell? ⟨q, off + j * 5 + 1, none⟩ = some (.bool y.2.1.isSome) := e1
      replace e3 : wr.cell? ⟨q, off + j * 5 + 3, none⟩ = some (.int .u64 ((y.2.1.getD 0 : Nat) : Int)) := e3
      have hft := filterMap_take (fun c : Chg => c.2.1.map fun v => (c.1, v)) hy
      have f1 : decide ((j : Int) < (n : Int)) = true := decide_eq_true (by omega)
      have f1' : decide (j < n) = true := decide_eq_true hlt
      have m1 : (0 : Int) ≤ (j : Int) := by omega
      have m2 : (j : Int) < (n : Int) := by omega
      have m3 : (j : Int) ≤ 100000 := by omega
      have hmj : m ≤ j := by
        rw [← hm]
        refine Nat.le_trans (List.length_filterMap_le _ _) ?_
        rw [List.length_take]
        omega
      subst hA
      cases hg : y.2.1 with
      | none =>
        rw [hg] at hft e1
        have hft' : Tr.befL (a.take (j + 1)) = Tr.befL (a.take j) := by unfold Tr.befL; rw [hft]; simp
        replace e1 : wr.cell? ⟨q, off + j * 5 + 1, none⟩ = some (.bool false) := e1
        have HY := Lib.hid (And.intro hm (And.intro how (And.intro hbr (And.intro hlt hft'))))
        clear hy hft hft' hm how hbr hlt hey hyk pp pl hq e0 e3 hg hj
        go_wp2_with fail
        go_roundw
        case rel => exact ⟨j + 1, m, D, d, rfl, by first | rfl | go_num, by have := HY.out.2.2.2.1; omega, by rw [HY.out.2.2.2.2]; exact HY.out.1, by rw [HY.out.2.2.2.2]; exact HY.out.2.1, HY.out.2.2.1⟩
        case measure =>
          have := HY.out.2.2.2.1
          show n - ((j : Int) + 1).toNat < n - (j : Int).toNat
          omega
      | some v =>
        rw [hg] at hft e1 e3
        have hv := hey.2.2.2.1 v hg
        have hft' : Tr.befL (a.take (j + 1)) = Tr.befL (a.take j) ++ [(y.1, v)] := by unfold Tr.befL; rw [hft]; simp
        replace e1 : wr.cell? ⟨q, off + j * 5 + 1, none⟩ = some (.bool true) := e1
        replace e3 : wr.cell? ⟨q, off + j * 5 + 3, none⟩ = some (.int .u64 (v : Int)) := e3
        have hqr : q < wr.heap.size := Nat.lt_of_lt_of_le hq (Nat.le_trans HX.out.2.1 hbr.size)
        have hqw : q < w.heap.size := Nat.lt_of_lt_of_le hq HX.out.2.1
        have HY := Lib.hid (And.intro hm (And.intro how (And.intro hbr (And.intro hlt (And.intro hft' (And.intro pp (And.intro hyk (And.intro pl (And.intro hv (And.intro hbr.size hqw))))))))))
        clear hy hft hft' hm how hbr hlt hey pp pl hq hyk hg hj hv hqw
        have a0 : ∀ w' : World, w'.heap[q]? = wr.heap[q]? → w'.cell? ⟨q, off + j * 5, none⟩ = some (.slice P k pc) := fun w' h => (World.cell?_of_block (a := ⟨q, off + j * 5, none⟩) h).trans e0
        have a3 : ∀ w' : World, w'.heap[q]? = wr.heap[q]? → w'.cell? ⟨q, off + j * 5 + 3, none⟩ = some (.int .u64 (v : Int)) := fun w' h => (World.cell?_of_block (a := ⟨q, off + j * 5 + 3, none⟩) h).trans e3
        have hb0 : Below wr.heap.size wr wr := Below.refl _ _
        go_wp2_with fail
        go_region_held3 (fun w' : World => w'.heap[q]? = wr.heap[q]?) (first | exact hS6 | exact (show Below wr.heap.size wr _ by ((repeat (first | refine Below.drew ?_ | (with_reducible refine below_drewN _ ?_) | refine Below.alloc ?_ (by first | omega | (simp; done) | (simp; omega)) _ | refine Below.setCell ?_ (by first | omega | (simp; done) | (simp; omega)) _)); first | exact Below.refl _ _ | assumption | exact below_drewN _ (Below.refl _ _) | exact below_drewN _ (below_drewN _ (Below.refl _ _)))).block _ hqr)
          ((refine step_append_list (Q := EntQ wr B) 54 72 (.agg #[.slice none 0 0, .int .u64 0]) 32 Try.underlying54 infoE2 (by rfl) (by omega) (by omega) (entQ_ok wr B) (by rfl) _ _ (by rfl) w.heap.size (.slice D m d) (Tr.befL (a.take j)) [(y.1, v)] (m + 1) (by rw [HY.out.1]; rfl) (by rfl) (by exact OwnL.below HY.out.2.1 (show Below wr.heap.size wr _ by ((repeat (first | refine Below.drew ?_ | (with_reducible refine below_drewN _ ?_) | refine Below.alloc ?_ (by first | omega | (simp; done) | (simp; omega)) _ | refine Below.setCell ?_ (by first | omega | (simp; done) | (simp; omega)) _)); first | exact Below.refl _ _ | assumption | exact below_drewN _ (Below.refl _ _) | exact below_drewN _ (below_drewN _ (Below.refl _ _)))) (Nat.le_refl _)) (wr.heap.size + 1) (some ⟨wr.heap.size, 0, none⟩) 1 1 (by rfl) (by rfl) (by exact lst_pt HY.out.2.2.2.2.2.1 HY.out.2.2.2.2.2.2.1 HX.out.2.2.2.1 HY.out.2.2.2.2.2.2.2.2.1) (by omega) (by have := HY.out.2.2.2.2.2.2.2.2.2.1; simp; omega) ?_; intro D5 d5 w6 hown5 hgrow5 hat5; have hb6 := Below.grown (HY.out.2.2.1.trans ((show Below wr.heap.size wr _ by ((repeat (first | refine Below.drew ?_ | (with_reducible refine below_drewN _ ?_) | refine Below.alloc ?_ (by first | omega | (simp; done) | (simp; omega)) _ | refine Below.setCell ?_ (by first | omega | (simp; done) | (simp; omega)) _)); first | exact Below.refl _ _ | assumption | exact below_drewN _ (Below.refl _ _) | exact below_drewN _ (below_drewN _ (Below.refl _ _)))).mono HY.out.2.2.2.2.2.2.2.2.2.1)) hgrow5 (by have := HY.out.2.2.2.2.2.2.2.2.2.1; simp; omega) (fun q hq => (OwnL.lt HY.out.2.1 q hq).1); have hS6 : w6.heap[q]? = wr.heap[q]? := (hb6.block q HY.out.2.2.2.2.2.2.2.2.2.2).trans (HY.out.2.2.1.block q HY.out.2.2.2.2.2.2.2.2.2.2).symm; have HN := Lib.hid (And.intro (OwnL.imp hown5 (entQ_mono (w' := w6) fun p hp => (hb6.cell (Nat.lt_of_lt_of_le hp HX.out.2.1)).trans (HY.out.2.2.1.cell (Nat.lt_of_lt_of_le hp HX.out.2.1)).symm)) hb6); clear hown5 hgrow5 hat5 hb6))
        clear a0 a3 hS6 e0 e1 e3
        go_wp2_with fail
        go_roundw
        case rel => exact ⟨j + 1, m + 1, D5, d5, rfl, by first | rfl | go_num, by have := HY.out.2.2.2.1; omega, by rw [HY.out.2.2.2.2.1, List.length_append, HY.out.1]; rfl, by rw [HY.out.2.2.2.2.1]; exact HN.out.1, HN.out.2⟩
        case measure =>
          have := HY.out.2.2.2.1
          show n - ((j : Int) + 1).toNat < n - (j : Int).toNat
          omega
    · have hjn : n = j := by omega
      subst hjn
      have f1 : decide ((n : Int) < (n : Int)) = false := decide_eq_false (by omega)
      have f1' : decide (n < n) = false := decide_eq_false (by omega)
      rw [show a.take n = a by rw [← HX.out.2.2.2.2.1, List.take_length]] at hm how
      have HR := Lib.hid (And.intro hm (And.intro how hbr))
      clear hm how hbr hlt hj
      go_wp2_with fail
      go_ret
      have hown := HR.out.2.1
      obtain ⟨A', c', hv, hc, hel⟩ := OwnE.entL hown
      simp only [Value.slice.injEq] at hv
      obtain ⟨rfl, -, rfl⟩ := hv
      exact ⟨D, d, m, rfl, HR.out.1, hel, by rw [← HR.out.1]; exact hc, HR.out.2.2⟩
end Go.Proofs.Ytpgkfccfabnjdaa

/-
  CONTRACTS of package pantileref13, sixth part: Then.
-/
namespace Go.Proofs.Ytpgkfccfabnjdaa
open Go.ChangeShapes Go.WideShapes Go.ChangeAt Go.RowKit
open Tr (T S4 Ent Chg Raw Pc)

def OkIf (r : Bool) (P : Prop) : Prop := r = true → P
theorem foldl_take {α β : Type} {f : β → α → β} {W : β} {b : List α} {j : Nat} {y : α} (h : b[j]? = some y) : (b.take (j + 1)).foldl f W = f ((b.take j).foldl f W) y := by
  rw [List.take_add_one, h, Option.toList_some, List.foldl_append, List.foldl_cons, List.foldl_nil]

set_option maxRecDepth 1000000 in
set_option maxHeartbeats 60000000 in
theorem r13then_c {w : World} {B k n n' c c' : Nat} {A A' : Option Addr} {a b : List Chg} (ha : RwL w B A (a.map Tr.rawC)) (hb : RwL w B A' (b.map Tr.rawC)) (hB : B ≤ w.heap.size) (Ca : Tr.CL k a) (Cb : Tr.CL k b) (hn : a.length = n) (hn' : b.length = n') (hl : n ≤ 10000) (hl' : n' ≤ 10000) (h1 : 1 ≤ k) (k16 : k ≤ 16) {r : Bool} (hr : (Tr.mz a b).all Tr.fitQ = r) :
    Calls Try.prog 11 #[.slice A n c, .slice A' n' c'] w fun e w' => ∃ D d N, e = .returned (.tuple #[.slice D N d, .bool r]) ∧ OkIf r (Chs w' D (Tr.thn a b) ∧ (Tr.thn a b).length = N) ∧ Below w.heap.size w w' := by
  have hfi := Tr.fit_iff Ca Cb
  rw [hr] at hfi
  have HBf := Lib.hid (r13before_c (c := c) ha hB Ca k16 hn (by omega))
  have HX := Lib.hid (And.intro ha (And.intro hb (And.intro hB (And.intro Ca (And.intro Cb (And.intro hn (And.intro hn' (And.intro hl (And.intro hl' (And.intro h1 (And.intro k16 (And.intro hr hfi))))))))))))
  have hn9 : (n' : Int) ≤ 10000 := by omega
  clear ha hb hB Ca Cb hn hn' hl hl' h1 k16 hr hfi
  go_enter Try.func11, Try.ntmps11
  go_wp2_with (go_at_call 24; refine HBf.out.mono ?_; rintro e w1 ⟨D0, d0, N0, rfl, hN0, hE0, hd0, hb1⟩; have H1 := Lib.hid (And.intro hN0 (And.intro hE0 (And.intro hd0 hb1))); clear hN0 hE0 hd0 hb1)
  go_loopw [6, 7] (fun u v wr => ∃ (j m : Nat) (D : Option Addr) (d : Nat), u = .slice D m d ∧ v = .int .i64 (j : Int) ∧ j ≤ n' ∧ ((b.take j).foldl (Tr.wasC a) (Tr.befL a)).length = m ∧ EntL wr B wr.heap.size D ((b.take j).foldl (Tr.wasC a) (Tr.befL a)) ∧ m ≤ d ∧ (∀ i y, i < j → b[i]? = some y → ∀ x, Tr.atC a (Tr.key y.1) = some x → x.2.2 = y.2.1) ∧ Below w.heap.size w wr) (fun _ v _ => n' - (intOf v).toNat)
  case atStart => exact ⟨0, N0, D0, d0, rfl, rfl, Nat.zero_le _, H1.out.1, H1.out.2.1, H1.out.2.2.1, fun i y hi => by omega, H1.out.2.2.2⟩
  case round =>
    obtain ⟨j, m, D, d, rfl, rfl, hj, hm, hE, hmd, hat, hbr⟩ := hrel
    by_cases hlt : j < n'
    · obtain ⟨ha, hb, hB, Ca, Cb, hn, hn', hl, hl', h1, k16, hr, hfi⟩ := HX.out
      obtain ⟨y, hy⟩ := get_lt (us := b) (k := j) (by rw [hn']; exact hlt)
      have hym := List.mem_of_getElem? hy
      have hBr := Nat.le_trans hB hbr.size
      obtain ⟨q, off, P, pc, hA, hq, e0, e1, -, e3, -, pp, pl, -, -⟩ := (hb.below hbr hB (Nat.le_refl _)).at (i := j) (r := Tr.rawC y) (by rw [List.getElem?_map, hy]; rfl)
      have hey := Cb.each y hym
      have hyk := hey.1
      replace e0 : wr.cell? ⟨q, off + j * 5, none⟩ = some (.slice P k pc) := by rw [← hyk]; exact e0
      replace e1 : wr.cell? ⟨q, off + j * 5 + 1, none⟩ = some (.bool y.2.1.isSome) := e1
      replace e3 : wr.cell? ⟨q, off + j * 5 + 3, none⟩ = some (.int .u64 ((y.2.1.getD 0 : Nat) : Int)) := e3
      have hft := foldl_take (f := Tr.wasC a) (W := Tr.befL a) hy
      obtain ⟨z0, d0', l0, -⟩ := Tr.befL_ok Ca
      obtain ⟨z1, d1, l1, -⟩ := Tr.wasF_ok (a := a) z0 d0' (Cb.take j)
      have hlt2 : (b.take j).length ≤ n' := by rw [List.length_take]; omega
      have hqr : q < wr.heap.size := Nat.lt_of_lt_of_le hq hBr
      have f1 : decide ((j : Int) < (n' : Int)) = true := decide_eq_true (by omega)
      have f1' : decide (j < n') = true := decide_eq_true hlt
      have m1 : (0 : Int) ≤ (j : Int) := by omega
      have m2 : (j : Int) < (n' : Int) := by omega
      have m3 : (j : Int) ≤ 10000 := by omega
      have ha' := ha.below hbr hB (Nat.le_refl B)
      subst hA
      cases hac : Tr.atC a (Tr.key y.1) with
      | none =>
        have HS := Lib.hid (r13at_no (n := n) (c := c) (p := y.1) (pc := pc) ha' hBr Ca hn (by omega) pp hBr hyk k16 hyk hac)
        have hat' : ∀ i z, i < j + 1 → b[i]? = some z → ∀ x, Tr.atC a (Tr.key z.1) = some x → x.2.2 = z.2.1 := fun i z hi hz x hx => by
          rcases Nat.lt_or_ge i j with h | h
          · exact hat i z h hz x hx
          · obtain rfl : i = j := by omega
            obtain rfl : y = z := Option.some.inj (hy.symm.trans hz)
            rw [hac] at hx
            cases hx
        cases hg : y.2.1 with
        | none =>
          have hfj : (b.take (j + 1)).foldl (Tr.wasC a) (Tr.befL a) = (b.take j).foldl (Tr.wasC a) (Tr.befL a) := by rw [hft]; unfold Tr.wasC; rw [hac, hg]
          rw [hg] at e1
          replace e1 : wr.cell? ⟨q, off + j * 5 + 1, none⟩ = some (.bool false) := e1
          have HY := Lib.hid (And.intro hm (And.intro hE (And.intro hmd (And.intro hat' (And.intro hbr (And.intro hlt (And.intro hfj hBr)))))))
          have a1 : ∀ w2, Below wr.heap.size wr w2 → w2.cell? ⟨q, off + j * 5 + 1, none⟩ = some (.bool false) := fun w2 h => (h.cell (p := ⟨q, off + j * 5 + 1, none⟩) hqr).trans e1
          clear ha hb hB Ca Cb hn hn' hl hl' h1 k16 hr hfi hy hym pp pl hey hyk hft z0 d0' l0 z1 d1 l1 hlt2 ha' hac hg hm hE hmd hat hat' hbr hlt hfj e3 hj hBr hq
          go_wp2_with (go_at_call 23; refine HS.out.mono ?_; rintro e w2 ⟨rfl, hb2⟩; have H2 := Lib.hid hb2; have e1' := a1 w2 hb2; have hq2 : q < w2.heap.size := Nat.lt_of_lt_of_le hqr hb2.size; clear hb2 e0 e1)
          go_quiet (fail)
          obtain ⟨W3, hW3⟩ : ∃ W3, W3 = (w2.alloc (.cells #[.slice none 0 0, .bool false, .bool false, .int .u64 0, .int .u64 0] 43)).drewN nq := ⟨_, rfl⟩
          have hbb : Below wr.heap.size wr W3 := by rw [hW3]; exact (Below.andThen H2.out (below_alloc w2 _)).trans (below_drewN _ (Below.refl _ _))
          rw [← hW3]
          replace e1' := a1 W3 hbb
          have HB := Lib.hid hbb
          clear hW3 hbb a1
          go_wp2_with fail
          go_roundw
          case rel => exact ⟨j + 1, m, D, d, rfl, by first | rfl | go_num, by have := HY.out.2.2.2.2.2.1; omega, by rw [HY.out.2.2.2.2.2.2.1]; exact HY.out.1, by rw [HY.out.2.2.2.2.2.2.1]; exact HY.out.2.1.below HB.out HY.out.2.2.2.2.2.2.2 (Nat.le_refl _) HB.out.size, HY.out.2.2.1, HY.out.2.2.2.1, HY.out.2.2.2.2.1.trans (HB.out.mono HY.out.2.2.2.2.1.size)⟩
          case measure =>
            have := HY.out.2.2.2.2.2.1
            show n' - ((j : Int) + 1).toNat < n' - (j : Int).toNat
            omega
        | some v =>
          have hv := hey.2.2.2.1 v hg
          have hP := fun w3 (hb3 : Below wr.heap.size wr w3) => rput6_c (p := y.1) (c := d) (c' := pc) (w := w3) (R := wr.heap.size) z1 d1 (hE.below hb3 hBr (Nat.le_refl _) (Nat.le_refl _)) (pp.below' hb3 hBr) hyk h1 k16 (by omega) hb3.size (Nat.le_trans hBr hb3.size) (by rw [hm]; exact hmd) v hv
          have hfj : (b.take (j + 1)).foldl (Tr.wasC a) (Tr.befL a) = Tr.putE y.1 v ((b.take j).foldl (Tr.wasC a) (Tr.befL a)) := by rw [hft]; unfold Tr.wasC; rw [hac, hg]
          rw [← hfj, hm, hyk] at hP
          obtain ⟨m2, hm2⟩ : ∃ m2, ((b.take (j + 1)).foldl (Tr.wasC a) (Tr.befL a)).length = m2 := ⟨_, rfl⟩
          rw [hm2] at hP
          rw [hg] at e1 e3
          replace e1 : wr.cell? ⟨q, off + j * 5 + 1, none⟩ = some (.bool true) := e1
          replace e3 : wr.cell? ⟨q, off + j * 5 + 3, none⟩ = some (.int .u64 (v : Int)) := e3
          have HP := Lib.hid hP
          have HY := Lib.hid (And.intro hat' (And.intro hbr (And.intro hlt hm2)))
          have a0 : ∀ w', Below wr.heap.size wr w' → w'.cell? ⟨q, off + j * 5, none⟩ = some (.slice P k pc) := fun w' h => (h.cell (p := ⟨q, off + j * 5, none⟩) hqr).trans e0
          have a1 : ∀ w', Below wr.heap.size wr w' → w'.cell? ⟨q, off + j * 5 + 1, none⟩ = some (.bool true) := fun w' h => (h.cell (p := ⟨q, off + j * 5 + 1, none⟩) hqr).trans e1
          have a3 : ∀ w', Below wr.heap.size wr w' → w'.cell? ⟨q, off + j * 5 + 3, none⟩ = some (.int .u64 (v : Int)) := fun w' h => (h.cell (p := ⟨q, off + j * 5 + 3, none⟩) hqr).trans e3
          have A0 := Lib.hid (And.intro a0 (And.intro a1 a3))
          clear a0 a1 a3 hP ha hb hB Ca Cb hn hn' hl hl' h1 k16 hr hfi hy hym pp pl hey hyk hft z0 d0' l0 z1 d1 l1 hlt2 ha' hac hg hm hE hmd hat hat' hbr hlt hfj e3 hj hBr hq hv hm2
          go_wp2_with (go_at_call 23; refine HS.out.mono ?_; rintro e w2 ⟨rfl, hb2⟩; have H2 := Lib.hid hb2; have e1' := A0.out.2.1 w2 hb2; have hq2 : q < w2.heap.size := Nat.lt_of_lt_of_le hqr hb2.size; clear hb2 e0 e1)
          go_quiet (fail)
          obtain ⟨W3, hW3⟩ : ∃ W3, W3 = (w2.alloc (.cells #[.slice none 0 0, .bool false, .bool false, .int .u64 0, .int .u64 0] 43)).drewN nq := ⟨_, rfl⟩
          have hbb : Below wr.heap.size wr W3 := by rw [hW3]; exact (Below.andThen H2.out (below_alloc w2 _)).trans (below_drewN _ (Below.refl _ _))
          rw [← hW3]
          replace e1' := A0.out.2.1 W3 hbb
          clear hW3
          go_wp2_with fail
          have a0 := A0.out.1
          have a3 := A0.out.2.2
          go_region_held3 (fun w' => Below wr.heap.size wr w') (((repeat (first | refine Below.drew ?_ | (with_reducible refine below_drewN _ ?_) | refine Below.alloc ?_ (by first | omega | (simp; done) | (simp; omega)) _ | refine Below.setCell ?_ (by first | omega | (simp; done) | (simp; omega)) _)); first | exact Below.refl _ _ | assumption | exact below_drewN _ (Below.refl _ _) | exact below_drewN _ (below_drewN _ (Below.refl _ _))))
            ((go_at_call 25; refine (HP.out _ (show Below wr.heap.size wr _ by ((repeat (first | refine Below.drew ?_ | (with_reducible refine below_drewN _ ?_) | refine Below.alloc ?_ (by first | omega | (simp; done) | (simp; omega)) _ | refine Below.setCell ?_ (by first | omega | (simp; done) | (simp; omega)) _)); first | exact Below.refl _ _ | assumption | exact below_drewN _ (Below.refl _ _) | exact below_drewN _ (below_drewN _ (Below.refl _ _))))).mono ?_; rintro e w4 ⟨D2, d2, rfl, hE2, hd2, hb4⟩; have hbD := Below.andThen (show Below wr.heap.size wr _ by ((repeat (first | refine Below.drew ?_ | (with_reducible refine below_drewN _ ?_) | refine Below.alloc ?_ (by first | omega | (simp; done) | (simp; omega)) _ | refine Below.setCell ?_ (by first | omega | (simp; done) | (simp; omega)) _)); first | exact Below.refl _ _ | assumption | exact below_drewN _ (Below.refl _ _) | exact below_drewN _ (below_drewN _ (Below.refl _ _)))) hb4; have H4 := Lib.hid (And.intro hE2 hd2); clear hE2 hd2 hb4))
          clear a0 a3
          have H5 := Lib.hid hbD
          clear hbD hbb
          go_wp2_with fail
          go_roundw
          case rel => exact ⟨j + 1, m2, D2, d2, rfl, by first | rfl | go_num, by have := HY.out.2.2.1; omega, HY.out.2.2.2, H4.out.1, H4.out.2, HY.out.1, HY.out.2.1.trans (H5.out.mono HY.out.2.1.size)⟩
          case measure =>
            have := HY.out.2.2.1
            show n' - ((j : Int) + 1).toNat < n' - (j : Int).toNat
            omega
      | some x =>
        have HS := Lib.hid (r13at_yes (n := n) (c := c) (p := y.1) (pc := pc) ha' hBr Ca hn (by omega) pp hBr hyk k16 hyk hac)
        by_cases hd : x.2.2 = y.2.1
        · have hat' : ∀ i z, i < j + 1 → b[i]? = some z → ∀ x, Tr.atC a (Tr.key z.1) = some x → x.2.2 = z.2.1 := fun i z hi hz x' hx => by
            rcases Nat.lt_or_ge i j with h | h
            · exact hat i z h hz x' hx
            · obtain rfl : i = j := by omega
              obtain rfl : y = z := Option.some.inj (hy.symm.trans hz)
              rw [hac] at hx
              obtain rfl : x = x' := Option.some.inj hx
              exact hd
          have hfj : (b.take (j + 1)).foldl (Tr.wasC a) (Tr.befL a) = (b.take j).foldl (Tr.wasC a) (Tr.befL a) := by rw [hft]; unfold Tr.wasC; rw [hac]
          rw [← hd] at e1 e3
          obtain ⟨s1, hs1⟩ : ∃ s, x.2.2.isSome = s := ⟨_, rfl⟩
          obtain ⟨v1, hv1⟩ : ∃ v, x.2.2.getD 0 = v := ⟨_, rfl⟩
          obtain ⟨s2, hs2⟩ : ∃ s, x.2.1.isSome = s := ⟨_, rfl⟩
          obtain ⟨v2, hv2⟩ : ∃ v, x.2.1.getD 0 = v := ⟨_, rfl⟩
          rw [hs1, hv1, hs2, hv2] at HS
          rw [hs1] at e1
          rw [hv1] at e3
          have b1 : (s1 != s1) = false := by simp
          have b3 : ((v1 : Int) != (v1 : Int)) = false := by simp
          have HY := Lib.hid (And.intro hm (And.intro hE (And.intro hmd (And.intro hat' (And.intro hbr (And.intro hlt (And.intro hfj hBr)))))))
          have a1 : ∀ w', Below wr.heap.size wr w' → w'.cell? ⟨q, off + j * 5 + 1, none⟩ = some (.bool s1) := fun w' h => (h.cell (p := ⟨q, off + j * 5 + 1, none⟩) hqr).trans e1
          have a3 : ∀ w', Below wr.heap.size wr w' → w'.cell? ⟨q, off + j * 5 + 3, none⟩ = some (.int .u64 (v1 : Int)) := fun w' h => (h.cell (p := ⟨q, off + j * 5 + 3, none⟩) hqr).trans e3
          have A0 := Lib.hid (And.intro a1 a3)
          clear a1 a3 ha hb hB Ca Cb hn hn' hl hl' h1 k16 hr hfi hy hym pp pl hey hyk hft z0 d0' l0 z1 d1 l1 hlt2 ha' hac hm hE hmd hat hat' hbr hlt hfj e3 e1 hj hBr hq hd hs1 hv1 hs2 hv2
          go_wp2_with (go_at_call 23; refine HS.out.mono ?_; rintro e w2 ⟨P', pc', rfl, hb2⟩; have H2 := Lib.hid hb2; have e1' := A0.out.1 w2 hb2; have e3' := A0.out.2 w2 hb2; have hq2 : q < w2.heap.size := Nat.lt_of_lt_of_le hqr hb2.size; clear hb2 e0)
          go_quiet (fail)
          have hz2 : wr.heap.size ≤ w2.heap.size := H2.out.size
          go_wp2_with fail
          go_roundw
          case rel => exact ⟨j + 1, m, D, d, rfl, by first | rfl | go_num, by have := HY.out.2.2.2.2.2.1; omega, by rw [HY.out.2.2.2.2.2.2.1]; exact HY.out.1, by rw [HY.out.2.2.2.2.2.2.1]; exact HY.out.2.1.below (show Below wr.heap.size wr _ by ((repeat (first | refine Below.drew ?_ | refine Below.alloc ?_ (by first | omega | (simp; done) | (simp; omega)) _ | refine Below.setCell ?_ (by first | omega | (simp; done) | (simp; omega)) _ | refine Below.trans ?_ (below_drewN _ (Below.refl _ _)))); exact H2.out)) HY.out.2.2.2.2.2.2.2 (Nat.le_refl _) (show Below wr.heap.size wr _ by ((repeat (first | refine Below.drew ?_ | refine Below.alloc ?_ (by first | omega | (simp; done) | (simp; omega)) _ | refine Below.setCell ?_ (by first | omega | (simp; done) | (simp; omega)) _ | refine Below.trans ?_ (below_drewN _ (Below.refl _ _)))); exact H2.out)).size, HY.out.2.2.1, HY.out.2.2.2.1, HY.out.2.2.2.2.1.trans ((show Below wr.heap.size wr _ by ((repeat (first | refine Below.drew ?_ | refine Below.alloc ?_ (by first | omega | (simp; done) | (simp; omega)) _ | refine Below.setCell ?_ (by first | omega | (simp; done) | (simp; omega)) _ | refine Below.trans ?_ (below_drewN _ (Below.refl _ _)))); exact H2.out)).mono HY.out.2.2.2.2.1.size)⟩
          case measure =>
            have := HY.out.2.2.2.2.2.1
            show n' - ((j : Int) + 1).toNat < n' - (j : Int).toNat
            omega
        · have hrf : r = false := by
            cases r with
            | false => rfl
            | true => exact absurd (hfi.1 rfl y hym x hac) hd
          subst hrf
          have hot := opt_thing x.2.2 y.2.1
          rw [decide_eq_false hd] at hot
          obtain ⟨s1, hs1⟩ : ∃ s, x.2.2.isSome = s := ⟨_, rfl⟩
          obtain ⟨v1, hv1⟩ : ∃ v, x.2.2.getD 0 = v := ⟨_, rfl⟩
          obtain ⟨s2, hs2⟩ : ∃ s, x.2.1.isSome = s := ⟨_, rfl⟩
          obtain ⟨v2, hv2⟩ : ∃ v, x.2.1.getD 0 = v := ⟨_, rfl⟩
          obtain ⟨s3, hs3⟩ : ∃ s, y.2.1.isSome = s := ⟨_, rfl⟩
          obtain ⟨v3, hv3⟩ : ∃ v, y.2.1.getD 0 = v := ⟨_, rfl⟩
          rw [hs1, hv1, hs2, hv2] at HS
          rw [hs1, hv1, hs3, hv3] at hot
          rw [hs3] at e1
          rw [hv3] at e3
          have HY := Lib.hid hbr
          have a1 : ∀ w', Below wr.heap.size wr w' → w'.cell? ⟨q, off + j * 5 + 1, none⟩ = some (.bool s3) := fun w' h => (h.cell (p := ⟨q, off + j * 5 + 1, none⟩) hqr).trans e1
          have a3 : ∀ w', Below wr.heap.size wr w' → w'.cell? ⟨q, off + j * 5 + 3, none⟩ = some (.int .u64 (v3 : Int)) := fun w' h => (h.cell (p := ⟨q, off + j * 5 + 3, none⟩) hqr).trans e3
          have A0 := Lib.hid (And.intro a1 a3)
          clear a1 a3 ha hb hB Ca Cb hn hn' hl hl' h1 k16 hr hfi hy hym pp pl hey hyk hft z0 d0' l0 z1 d1 l1 hlt2 ha' hac hm hE hmd hat hbr hlt e3 e1 hj hBr hq hd hs1 hv1 hs2 hv2 hs3 hv3
          by_cases hss : s1 = s3
          · subst hss
            have b1 : (s1 != s1) = false := by simp
            have b3 : ((v1 : Int) != (v3 : Int)) = true := by
              rw [bne_iff_ne]
              intro e
              rw [e] at hot
              simp at hot
            have b3' : ((v1 : Int) == (v3 : Int)) = false := by rw [bne_iff_ne] at b3; rw [beq_eq_false_iff_ne]; exact b3
            clear hot
            go_wp2_with (go_at_call 23; refine HS.out.mono ?_; rintro e w2 ⟨P', pc', rfl, hb2⟩; have H2 := Lib.hid hb2; have e1' := A0.out.1 w2 hb2; have e3' := A0.out.2 w2 hb2; have hq2 : q < w2.heap.size := Nat.lt_of_lt_of_le hqr hb2.size; clear hb2 e0)
            go_quiet (fail)
            have hz2 : wr.heap.size ≤ w2.heap.size := H2.out.size
            go_wp2_with fail
            go_ret2
            exact ⟨none, 0, 0, rfl, fun h => (by cases h), HY.out.trans ((show Below wr.heap.size wr _ by ((repeat (first | refine Below.drew ?_ | refine Below.alloc ?_ (by first | omega | (simp; done) | (simp; omega)) _ | refine Below.setCell ?_ (by first | omega | (simp; done) | (simp; omega)) _ | refine Below.trans ?_ (below_drewN _ (Below.refl _ _)))); exact H2.out)).mono HY.out.size)⟩
          · have b1 : (s1 != s3) = true := by rw [bne_iff_ne]; exact hss
            have b1' : (s1 == s3) = false := by rw [beq_eq_false_iff_ne]; exact hss
            clear hss hot
            go_wp2_with (go_at_call 23; refine HS.out.mono ?_; rintro e w2 ⟨P', pc', rfl, hb2⟩; have H2 := Lib.hid hb2; have e1' := A0.out.1 w2 hb2; have e3' := A0.out.2 w2 hb2; have hq2 : q < w2.heap.size := Nat.lt_of_lt_of_le hqr hb2.size; clear hb2 e0)
            go_quiet (fail)
            have hz2 : wr.heap.size ≤ w2.heap.size := H2.out.size
            go_wp2_with fail
            go_ret2
            exact ⟨none, 0, 0, rfl, fun h => (by cases h), HY.out.trans ((show Below wr.heap.size wr _ by ((repeat (first | refine Below.drew ?_ | refine Below.alloc ?_ (by first | omega | (simp; done) | (simp; omega)) _ | refine Below.setCell ?_ (by first | omega | (simp; done) | (simp; omega)) _ | refine Below.trans ?_ (below_drewN _ (Below.refl _ _)))); exact H2.out)).mono HY.out.size)⟩
    · have hjn : n' = j := by omega
      subst hjn
      have f1 : decide ((n' : Int) < (n' : Int)) = false := decide_eq_false (by omega)
      have f1' : decide (n' < n') = false := decide_eq_false (by omega)
      obtain ⟨ha, hb, hB, Ca, Cb, hn, hn', hl, hl', h1, k16, hr, hfi⟩ := HX.out
      have hBr := Nat.le_trans hB hbr.size
      have hrt : r = true := hfi.2 fun y hy x hx => by
        obtain ⟨i, hi⟩ := List.mem_iff_getElem?.1 hy
        exact hat i y (by have := (List.getElem?_eq_some_iff.1 hi).1; omega) hi x hx
      subst hrt
      rw [show b.take n' = b by rw [← hn', List.take_length]] at hm hE
      obtain ⟨zW, dW, lW, hW⟩ := Tr.was_then Ca Cb hr
      replace hm : (Tr.wasL a b).length = m := hm
      replace hE : EntL wr B wr.heap.size D (Tr.wasL a b) := hE
      generalize Tr.wasL a b = W at *
      obtain ⟨zV, dV, lV⟩ := Tr.doL_zd zW dW Ca
      obtain ⟨zU, dU, lU⟩ := Tr.doL_zd zV dV Cb
      obtain ⟨N, hN⟩ : ∃ N, (Tr.thn a b).length = N := ⟨_, rfl⟩
      have HD1 := Lib.hid (r13do_c (c' := c) zW dW hE (Nat.le_refl _) hBr hm (by omega) hmd (ha.below hbr hB (Nat.le_refl _)) Ca hn (by omega) h1 k16)
      have hD2 := fun w2 (hb2 : Below wr.heap.size wr w2) D2 d2 N2 (hN2 : (Tr.doL W a).length = N2) (hE2 : EntL w2 B w2.heap.size D2 (Tr.doL W a)) (hd2 : N2 ≤ d2) => r13do_c (w := w2) (c' := c') zV dV hE2 (Nat.le_refl _) (Nat.le_trans hBr hb2.size) hN2 (by omega) hd2 ((hb.below hbr hB (Nat.le_refl _)).below hb2 hBr (Nat.le_refl _)) Cb hn' (by omega) h1 k16
      have hC := fun w3 (hb3 : Below wr.heap.size wr w3) D3 d3 N3 (hN3 : (Tr.doL (Tr.doL W a) b).length = N3) (hE3 : EntL w3 B w3.heap.size D3 (Tr.doL (Tr.doL W a) b)) => r12changes_c (w := w3) (c := d) (c' := d3) zW dW zU dU (EntL.ents (hE.below hb3 hBr (Nat.le_refl _) (Nat.le_refl _)) (Nat.le_trans hBr hb3.size) hb3.size) (EntL.ents hE3 (Nat.le_trans hBr hb3.size) (Nat.le_refl _)) hm hN3 hmd h1 k16 (by omega) hW hN
      have HD2 := Lib.hid hD2
      have HC := Lib.hid hC
      have HR := Lib.hid (And.intro hbr hN)
      clear hD2 hC hm hE hmd hbr hlt hj hat ha hb hB Ca Cb hn hn' hl hl' h1 k16 hr hfi hBr zW dW lW hW zV dV lV zU dU lU hN
      go_wp2_with (first
        | (go_at_call 27; refine HD1.out.mono ?_; rintro e w2 ⟨D2, d2, N2, rfl, hN2, hE2, hd2, hb2⟩; have HE2 := Lib.hid (HD2.out w2 hb2 D2 d2 N2 hN2 hE2 hd2); have Hb2 := Lib.hid hb2; clear hN2 hE2 hd2 hb2 HD1)
        | (go_at_call 27; refine HE2.out.mono ?_; rintro e w3 ⟨D3, d3, N3, rfl, hN3, hE3, hd3, hb3⟩; have HC3 := Lib.hid (HC.out w3 (Below.andThen Hb2.out hb3) D3 d3 N3 hN3 hE3); have Hb3 := Lib.hid (Below.andThen Hb2.out hb3); clear hN3 hE3 hd3 hb3 HE2)
        | (go_at_call 26; refine HC3.out.mono ?_; rintro e w4 ⟨D4, d4, rfl, hch, hb4⟩; have H4 := Lib.hid (And.intro hch (Below.andThen Hb3.out hb4)); clear hch hb4))
      go_ret2
      exact ⟨D4, d4, N, rfl, fun _ => ⟨H4.out.1, HR.out.2⟩, HR.out.1.trans (H4.out.2.mono HR.out.1.size)⟩
end Go.Proofs.Ytpgkfccfabnjdaa

/-
  CONTRACTS of package edit, twelfth part: Apart.
-/
namespace Go.Proofs.Ytpgkfccfabnjdaa
open Go.ChangeShapes Go.WideShapes Go.ChangeAt Go.RowKit
open Tr (T S4 Ent Chg Raw Pc)

theorem apart1_c (px py : Option Addr) (r : Bool) (hr : (px.isNone || py.isNone) = r) (w : World) : Calls Try.prog 21 #[.pointer px, .pointer py] w fun e w' => e = .returned (.bool r) ∧ w = w' := by
  subst hr
  cases px with
  | none =>
    go_enter Try.func21, Try.ntmps21
    go_wp2_with fail
    go_ret
    exact ⟨rfl, rfl⟩
  | some a =>
    cases py with
    | none =>
      go_enter Try.func21, Try.ntmps21
      go_wp2_with fail
      go_ret
      exact ⟨rfl, rfl⟩
    | some b =>
      go_enter Try.func21, Try.ntmps21
      go_wp2_with fail
      go_ret
      exact ⟨rfl, rfl⟩
theorem ptC_none {w : World} {B k : Nat} {p : Option Addr} {x : Option Chg} (h : PtC w B k p x) : p.isNone = x.isNone := by
  cases x with
  | none => obtain rfl : p = none := h; rfl
  | some c => obtain ⟨b, off, P, pc, rfl, -⟩ := h; rfl
theorem apart_visit (B k : Nat) : VisitE 21 #[] B k 2000000 Tr.apQ (fun _ _ F => ∀ b, ¬ F b) where
  ent := enters_of Try.func21 (by kernel_rfl) rfl
  frame := fun _ _ _ _ h _ _ => h
  inb := fun _ _ _ h b hb => absurd hb (h b)
  call := by
    intro us w F px py q hI hx hy hne hxy hB hus
    refine (apart1_c px py (Tr.apQ q) ?_ w).mono ?_
    · rw [ptC_none hx, ptC_none hy]
      obtain ⟨qx, qy⟩ := q
      cases qx with
      | none => rfl
      | some x => cases qy <;> rfl
    · rintro e w' ⟨rfl, rfl⟩
      exact ⟨rfl, F, fun _ => hI, fun b hb => .inl hb, Foot.refl F w⟩
set_option maxRecDepth 100000 in
theorem ed_apart_form {w : World} (k : Int) {A A' : Option Addr} {c c' n n' : Nat} {a b : List Raw} (ha : RwL w w.heap.size A a) (hb : RwL w w.heap.size A' b) (hn : a.length = n) (hn' : b.length = n') (hl : n ≤ 1000000000) (hl' : n' ≤ 1000000000) (hr : ¬ (Tr.RightP k a ∧ Tr.RightP k b)) :
    Calls Try.prog 8 #[.int .i64 k, .slice A n c, .slice A' n' c'] w fun e w' => e = .returned (.tuple #[.bool false, .int .i64 9]) ∧ Below w.heap.size w w' := by
  by_cases h1 : Tr.RightP k a
  · have HA := Lib.hid (ed_right k (c := c) ha (Nat.le_refl _) hn hl (r := true) (by simpa using h1))
    have HB : Hid (∀ w1, Below w.heap.size w w1 → Calls Try.prog 13 #[.int .i64 k, .slice A' n' c'] w1 fun e w' => e = .returned (.bool false) ∧ Below w1.heap.size w1 w') := Lib.hid fun w1 hb1 => ed_right k (c := c') (hb.below hb1 (Nat.le_refl _) hb1.size) (Nat.le_refl _) hn' hl' (r := false) (by simpa using fun h => hr ⟨h1, h⟩)
    clear ha hb hn hn' hl hl' hr h1
    go_enter Try.func8, Try.ntmps8
    go_wp2_with fail
    refine HA.out.mono ?_
    rintro e w1 ⟨rfl, hb1⟩
    have H1 := Lib.hid hb1
    clear hb1 HA
    go_wp2_with fail
    refine (HB.out w1 H1.out).mono ?_
    rintro e w2 ⟨rfl, hb2⟩
    have H2 := Lib.hid (Below.andThen H1.out hb2)
    clear hb2 HB
    go_wp2_with fail
    go_ret2
    exact ⟨rfl, H2.out⟩
  · have HA := Lib.hid (ed_right k (c := c) ha (Nat.le_refl _) hn hl (r := false) (by simpa using h1))
    clear ha hb hn hn' hl hl' hr h1
    go_enter Try.func8, Try.ntmps8
    go_wp2_with fail
    refine HA.out.mono ?_
    rintro e w1 ⟨rfl, hb1⟩
    have H1 := Lib.hid hb1
    clear hb1 HA
    go_wp2_with fail
    go_ret2
    exact ⟨rfl, H1.out⟩
set_option maxRecDepth 100000 in
set_option maxHeartbeats 2000000 in
theorem ed_apart {w : World} {k : Nat} (k1 : 1 ≤ k) (k16 : k ≤ 16) {A A' : Option Addr} {c c' n n' : Nat} {a b : List Chg} (ha : RwL w w.heap.size A (a.map Tr.rawC)) (hb : RwL w w.heap.size A' (b.map Tr.rawC)) (Ca : Tr.CL k a) (Cb : Tr.CL k b) (hn : a.length = n) (hn' : b.length = n') (hc : n ≤ c) (hc' : n' ≤ c') (hl : n ≤ 1000000) (hl' : n' ≤ 1000000) {r : Bool} (hr : (Tr.mz a b).all Tr.apQ = r) :
    Calls Try.prog 8 #[.int .i64 (k : Int), .slice A n c, .slice A' n' c'] w fun e w' => e = .returned (.tuple #[.bool r, .int .i64 0]) ∧ Below w.heap.size w w' := by
  have HA := Lib.hid (ed_right (k : Int) (c := c) (n := n) ha (Nat.le_refl _) (by rw [List.length_map]; exact hn) (by omega) (r := true) (by simpa using Ca.right k1 k16))
  have HB : Hid (∀ w1, Below w.heap.size w w1 → Calls Try.prog 13 #[.int .i64 (k : Int), .slice A' n' c'] w1 fun e w' => e = .returned (.bool true) ∧ Below w1.heap.size w1 w') := Lib.hid fun w1 hb1 => ed_right (k : Int) (c := c') (n := n') (hb.below hb1 (Nat.le_refl _) hb1.size) (Nat.le_refl _) (by rw [List.length_map]; exact hn') (by omega) (r := true) (by simpa using Cb.right k1 k16)
  have HT : Hid (∀ w1, Below w.heap.size w w1 → Calls Try.prog 20 #[.agg #[.func (.func 21) #[] #[]], .slice A n c, .slice A' n' c'] w1 fun e w' => e = .returned (.bool r) ∧ Below w1.heap.size w1 w') := Lib.hid fun w1 hb1 =>
    (ed_through (apart_visit w.heap.size k) (F := fun _ => False) (fun b h => h) (w := w1) (c1 := c) (c2 := c') (ha.below hb1 (Nat.le_refl _) (Nat.le_refl _)) (hb.below hb1 (Nat.le_refl _) (Nat.le_refl _)) hb1.size Ca Cb k1 k16 hn hn' hc hc' hl hl' (by omega) hr).mono fun e w' ⟨h1, _, h3⟩ => ⟨h1, h3.below (Nat.le_refl _) (fun b h => h.elim)⟩
  clear ha hb Ca Cb hn hn' hc hc' hl hl' hr k1 k16
  go_enter Try.func8, Try.ntmps8
  go_wp2_with fail
  refine HA.out.mono ?_
  rintro e w1 ⟨rfl, hb1⟩
  have H1 := Lib.hid hb1
  clear hb1 HA
  go_wp2_with fail
  refine (HB.out w1 H1.out).mono ?_
  rintro e w2 ⟨rfl, hb2⟩
  have H2 := Lib.hid (Below.andThen H1.out hb2)
  clear hb2 HB
  go_wp2_with fail
  refine (HT.out w2 H2.out).mono ?_
  rintro e w3 ⟨rfl, hb3⟩
  have H3 := Lib.hid (Below.andThen H2.out hb3)
  clear hb3 HT
  go_wp2_with fail
  go_ret2
  exact ⟨rfl, H3.out⟩
end Go.Proofs.Ytpgkfccfabnjdaa
