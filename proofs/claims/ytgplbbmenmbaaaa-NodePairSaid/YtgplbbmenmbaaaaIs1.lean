/-
  THE CONTRACT of pantilelaw06.Is, first part: an entry is the node of the list that holds it alone.
-/
import Derived.Test.YtgplbbmenmbaaaaAw6
import Derived.Test.YtgplbbmenmbaaaaRn3
namespace Go.Proofs.Ytgplbbmenmbaaaa
open Go.ChangeShapes Go.WideShapes Go.ChangeAt Go.RowKit
open Tr (T S4 Ent)

/-- the fields of a shape -/
theorem shape_level (w : World) (a b c d e : Value) : (Instr.field 50 (.agg #[a, b, c, d, e]) 0).run Try.prog w = .ok a w := by kernel_rfl
theorem shape_prefix (w : World) (a b c d e : Value) : (Instr.field 50 (.agg #[a, b, c, d, e]) 1).run Try.prog w = .ok b w := by kernel_rfl
set_option maxRecDepth 100000 in
set_option maxHeartbeats 4000000 in
theorem is_ent {w : World} {B k g : Nat} {p : List Nat} {v : Nat} {A : Option Addr} {c : Nat} (hn : Node w B k (.ent g p v)) (h : Ents w B A [(p, v)]) (hB : B ≤ w.heap.size) :
    Calls Try.prog 11 #[.pointer (some ⟨g, 0, none⟩), .slice A 1 c] w fun e w' => e = .returned (.bool true) ∧ Below w.heap.size w w' := by
  obtain ⟨b, off, A1, c1, hA, hb, x0, x1, hp, -, hv64⟩ := h.at (i := 0) (e := (p, v)) rfl
  subst hA
  rw [Nat.zero_mul, Nat.add_zero] at x0 x1
  have hbw : b < w.heap.size := by omega
  have hk1 := hn.1.k1
  have hk16 := hn.1.k16
  have hpl : p.length = k := hn.1.len
  have hne : p ≠ [] := by intro e; subst e; simp at hpl; omega
  have hnd : NdAt w B g (-1) p v none (Tr.s1 v) := by cases hn.2 with | ent _ _ _ h => exact h
  have HX : Hid (Node w B k (.ent g p v) ∧ Ents w B (some ⟨b, off, none⟩) [(p, v)] ∧ NdAt w B g (-1) p v none (Tr.s1 v) ∧ Pts w B A1 p ∧ p ≠ [] ∧ p.length ≤ 16 ∧ B ≤ w.heap.size) := Lib.hid ⟨hn, h, hnd, hp, hne, by omega, hB⟩
  clear hn h hnd hp hne hk1 hk16 hpl hv64
  have f0 := shape_level
  have f1 := shape_prefix
  go_enter Try.func11, Try.ntmps11
  go_wp2_with fail
  refine (nEntry_ent HX.out.2.2.1 HX.out.2.2.2.2.2.2 HX.out.2.2.2.2.1 (by have := HX.out.2.2.2.2.2.1; omega)).mono ?_
  rintro e w1 ⟨h1, d1, rfl, ho1, hb1⟩
  have B1 := Lib.hid hb1
  have O1 := Lib.hid ho1
  clear ho1 hb1
  go_wp2_with fail
  have b2 := below_alloc w1 (.cells #[.slice (some ⟨h1, 0, none⟩) p.length d1, .int .u64 (v : Int)] 36)
  have B2 := Lib.hid (Below.andThen B1.out b2)
  have E2 := Lib.hid (heap_at w1 (.cells #[.slice (some ⟨h1, 0, none⟩) p.length d1, .int .u64 (v : Int)] 36) _ rfl)
  have O2 := Lib.hid (O1.out.below b2 (Nat.le_refl _))
  have hs2 : (w1.alloc (.cells #[.slice (some ⟨h1, 0, none⟩) p.length d1, .int .u64 (v : Int)] 36)).heap.size = w1.heap.size + 1 := by simp
  have hs1 := B1.out.size
  clear b2
  generalize w1.alloc _ = W2 at *
  have HB := HX.out.2.2.2.2.2.2
  refine (nK_c (HX.out.2.2.1.below B2.out HB (Nat.le_refl _))).mono ?_
  rintro e w' ⟨rfl, rfl⟩
  have n1 : ((p.length : Int) != (p.length : Int)) = false := by simp
  go_wp2_with fail
  refine (nShape_ent (HX.out.2.2.1.below B2.out HB (Nat.le_refl _)) (Nat.le_trans HB B2.out.size) HX.out.2.2.2.2.1 (by have := HX.out.2.2.2.2.2.1; omega)).mono ?_
  rintro e w3 ⟨⟨A3, c3, A3', c3', rfl, hp3, hr3⟩, hb3⟩
  have B3 := Lib.hid (Below.andThen B2.out hb3)
  have C3 := Lib.hid hb3
  have P3 := Lib.hid hp3
  clear hp3 hr3 hb3
  go_wp2_with fail
  refine (rshape_one (HX.out.2.1.below B3.out HB (Nat.le_refl _)) (Nat.le_trans HB B3.out.size)).mono ?_
  rintro e w4 ⟨⟨A4, c4, A4', c4', rfl, hp4, hr4⟩, hb4⟩
  have B4 := Lib.hid (Below.andThen B3.out hb4)
  have C4 := Lib.hid (Below.andThen C3.out hb4)
  have P4 := Lib.hid hp4
  have P3 := Lib.hid ((P3.out.below' hb4 (Nat.le_refl _)).keep hb4.size (fun _ _ => rfl))
  clear hp4 hr4 hb4
  go_wp2_with fail
  refine (rsameShape_c (-1) A3 c3 A3' c3' A4 c4 A4' c4' p [] false v P3.out P4.out (RdV.nil _ _ _) (RdV.nil _ _ _) (Nat.le_refl _) (by have := HX.out.2.2.2.2.2.1; omega) (by decide)).mono ?_
  rintro e w5 ⟨rfl, hb5⟩
  have B5 := Lib.hid (Below.andThen B4.out hb5)
  have C5 := Lib.hid (Below.andThen C4.out hb5)
  clear hb5 P3 P4 B3 B4 C3 C4
  go_wp2_with fail
  refine (nSums_c (HX.out.2.2.1.below B5.out HB (Nat.le_refl _)) (Nat.le_trans HB B5.out.size)).mono ?_
  rintro e w6 ⟨rfl, hb6⟩
  have B6 := Lib.hid (Below.andThen B5.out hb6)
  have C6 := Lib.hid (Below.andThen C5.out hb6)
  clear hb6 B5 C5
  go_wp2_with fail
  have HS := rsums_c (HX.out.2.1.below B6.out HB (Nat.le_refl _)) (Nat.le_trans HB B6.out.size) (by simp) (c := c)
  rw [Tr.sums_one] at HS
  refine HS.mono ?_
  clear HS
  rintro e w7 ⟨rfl, hb7⟩
  have B7 := Lib.hid (Below.andThen B6.out hb7)
  have C7 := Lib.hid (Below.andThen C6.out hb7)
  clear hb7 B6 C6
  go_wp2_with fail
  refine (nLevel_c (HX.out.2.2.1.below B7.out HB (Nat.le_refl _))).mono ?_
  rintro e w' ⟨rfl, rfl⟩
  go_wp2_with fail
  refine (rshape_one (HX.out.2.1.below B7.out HB (Nat.le_refl _)) (Nat.le_trans HB B7.out.size)).mono ?_
  rintro e w8 ⟨⟨A8, c8, A8', c8', rfl, hp8, hr8⟩, hb8⟩
  have B8 := Lib.hid (Below.andThen B7.out hb8)
  have C8 := Lib.hid (Below.andThen C7.out hb8)
  clear hp8 hr8 hb8 B7 C7
  go_wp2_with fail
  refine (nPrefix_c (HX.out.2.2.1.below B8.out HB (Nat.le_refl _)) (Nat.le_trans HB B8.out.size) HX.out.2.2.2.2.1 (by have := HX.out.2.2.2.2.2.1; omega)).mono ?_
  rintro e w9 ⟨h9, d9, rfl, ho9, hb9⟩
  have B9 := Lib.hid (Below.andThen B8.out hb9)
  have C9 := Lib.hid (Below.andThen C8.out hb9)
  have O9 := Lib.hid ho9
  clear ho9 hb9 B8 C8
  go_wp2_with fail
  refine (rshape_one (HX.out.2.1.below B9.out HB (Nat.le_refl _)) (Nat.le_trans HB B9.out.size)).mono ?_
  rintro e wa ⟨⟨Aa, ca, Aa', ca', rfl, hpa, hra⟩, hba⟩
  have Ba := Lib.hid (Below.andThen B9.out hba)
  have Ca := Lib.hid (Below.andThen C9.out hba)
  have O9 := Lib.hid (O9.out.below hba (Nat.le_refl _))
  have Pa := Lib.hid hpa
  clear hpa hra hba B9 C9
  obtain ⟨A9, c9, hv9, hp9⟩ := O9.out.pts
  cases hv9
  have P9 := Lib.hid hp9
  clear hp9
  go_wp2_with fail
  refine (rsame_self (some ⟨h9, 0, none⟩) Aa d9 ca p _ _ P9.out Pa.out (Nat.le_refl _) (by have := HX.out.2.2.2.2.2.1; unfold maxLen; omega)).mono ?_
  rintro e wb ⟨rfl, hbb⟩
  have Bb := Lib.hid (Below.andThen Ba.out hbb)
  have Cb := Lib.hid (Below.andThen Ca.out hbb)
  clear hbb Ba Ca O9 Pa P9
  go_wp2_with fail
  have c0 : W2.cell? ⟨w1.heap.size, 0, none⟩ = some (.slice (some ⟨h1, 0, none⟩) p.length d1) := by rw [cell_of_row _ _ _ _ _ (0, 0) E2.out]; rfl
  have c1' : W2.cell? ⟨w1.heap.size, 1, none⟩ = some (.int .u64 (v : Int)) := by rw [cell_of_row _ _ _ _ _ (0, 0) E2.out]; rfl
  have hsb := Bb.out.size
  have hsc := Cb.out.size
  have m0 : ∀ w', Below wb.heap.size wb w' → w'.cell? ⟨w1.heap.size, 0, none⟩ = some (.slice (some ⟨h1, 0, none⟩) p.length d1) := fun w' hb => ((Cb.out.trans (hb.mono hsc)).cell (p := ⟨w1.heap.size, 0, none⟩) (by show w1.heap.size < _; omega)).trans c0
  have m1 : ∀ w', Below wb.heap.size wb w' → w'.cell? ⟨w1.heap.size, 1, none⟩ = some (.int .u64 (v : Int)) := fun w' hb => ((Cb.out.trans (hb.mono hsc)).cell (p := ⟨w1.heap.size, 1, none⟩) (by show w1.heap.size < _; omega)).trans c1'
  have m2 : ∀ w', Below wb.heap.size wb w' → w'.cell? ⟨b, off, none⟩ = some (.slice A1 p.length c1) := fun w' hb => ((Bb.out.trans (hb.mono hsb)).cell (p := ⟨b, off, none⟩) hbw).trans x0
  have m3 : ∀ w', Below wb.heap.size wb w' → w'.cell? ⟨b, off + 1, none⟩ = some (.int .u64 (v : Int)) := fun w' hb => ((Bb.out.trans (hb.mono hsb)).cell (p := ⟨b, off + 1, none⟩) hbw).trans x1
  obtain ⟨Ax, cx, hvx, hpx⟩ := O2.out.pts
  cases hvx
  have Px := Lib.hid (hpx.below' Cb.out (Nat.le_refl _))
  have n2 : ((v : Int) == (v : Int)) = true := by simp
  have hbb := Below.refl wb.heap.size wb
  clear c0 c1' x0 x1 hpx f0 f1
  go_region_held3 (fun w' => Below wb.heap.size wb w') (((repeat (first | refine Below.drew ?_ | (with_reducible refine below_drewN _ ?_) | refine Below.alloc ?_ (by first | omega | (simp; done) | (simp; omega)) _ | refine Below.setCell ?_ (by first | omega | (simp; done) | (simp; omega)) _)); first | exact Below.refl _ _ | assumption | exact below_drewN _ (Below.refl _ _) | exact below_drewN _ (below_drewN _ (Below.refl _ _))))
    ((go_at_call 9; refine (rsame_self (some ⟨h1, 0, none⟩) A1 d1 c1 p wb.heap.size _ ((Px.out.keep hsc (fun _ _ => rfl)).below' (show Below wb.heap.size wb _ by ((repeat (first | refine Below.drew ?_ | (with_reducible refine below_drewN _ ?_) | refine Below.alloc ?_ (by first | omega | (simp; done) | (simp; omega)) _ | refine Below.setCell ?_ (by first | omega | (simp; done) | (simp; omega)) _)); first | exact Below.refl _ _ | assumption | exact below_drewN _ (Below.refl _ _) | exact below_drewN _ (below_drewN _ (Below.refl _ _)))) (Nat.le_refl _)) (((HX.out.2.2.2.1.below' Bb.out HB).keep (Nat.le_trans HB hsb) (fun _ _ => rfl)).below' (show Below wb.heap.size wb _ by ((repeat (first | refine Below.drew ?_ | (with_reducible refine below_drewN _ ?_) | refine Below.alloc ?_ (by first | omega | (simp; done) | (simp; omega)) _ | refine Below.setCell ?_ (by first | omega | (simp; done) | (simp; omega)) _)); first | exact Below.refl _ _ | assumption | exact below_drewN _ (Below.refl _ _) | exact below_drewN _ (below_drewN _ (Below.refl _ _)))) (Nat.le_refl _)) (Below.size (show Below wb.heap.size wb _ by ((repeat (first | refine Below.drew ?_ | (with_reducible refine below_drewN _ ?_) | refine Below.alloc ?_ (by first | omega | (simp; done) | (simp; omega)) _ | refine Below.setCell ?_ (by first | omega | (simp; done) | (simp; omega)) _)); first | exact Below.refl _ _ | assumption | exact below_drewN _ (Below.refl _ _) | exact below_drewN _ (below_drewN _ (Below.refl _ _))))) (by have := HX.out.2.2.2.2.2.1; unfold maxLen; omega)).mono ?_; rintro e wc ⟨rfl, hbc⟩; have hBc := Below.trans (show Below wb.heap.size wb _ by ((repeat (first | refine Below.drew ?_ | (with_reducible refine below_drewN _ ?_) | refine Below.alloc ?_ (by first | omega | (simp; done) | (simp; omega)) _ | refine Below.setCell ?_ (by first | omega | (simp; done) | (simp; omega)) _)); first | exact Below.refl _ _ | assumption | exact below_drewN _ (Below.refl _ _) | exact below_drewN _ (below_drewN _ (Below.refl _ _)))) (hbc.mono (Below.size (show Below wb.heap.size wb _ by ((repeat (first | refine Below.drew ?_ | (with_reducible refine below_drewN _ ?_) | refine Below.alloc ?_ (by first | omega | (simp; done) | (simp; omega)) _ | refine Below.setCell ?_ (by first | omega | (simp; done) | (simp; omega)) _)); first | exact Below.refl _ _ | assumption | exact below_drewN _ (Below.refl _ _) | exact below_drewN _ (below_drewN _ (Below.refl _ _)))))); clear hbc))
  clear m0 m1 m2 m3
  go_wp2_with fail
  go_ret
  exact ⟨rfl, Bb.out.trans (hBc.mono hsb)⟩
end Go.Proofs.Ytgplbbmenmbaaaa
