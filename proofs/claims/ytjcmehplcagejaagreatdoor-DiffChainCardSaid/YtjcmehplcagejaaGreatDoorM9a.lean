import Derived.Test.YtjcmehplcagejaaGreatDoorM99
import Derived.Test.YtjcmehplcagejaaGreatDoorM97
/-
  THE LAW DiffChanges.
-/
namespace Go.Proofs.YtjcmehplcagejaaGreatDoor
open Go.ChangeShapes Go.WideShapes Go.ChangeAt Go.RowKit
open Tr (T S4 Ent Sd Fl Chg)

set_option maxRecDepth 100000 in
set_option maxHeartbeats 2000000 in
theorem diffChanges_skip {w : World} {A A' : Option Addr} {c c' : Nat} {l m : List ActT} (k : Int) (hT : Tz w) (hA : ActsT w w.heap.size A l) (hA' : ActsT w w.heap.size A' m) (hl : l.length ≤ maxLen) (hl' : m.length ≤ maxLen) (r1 r2 b1 b2 : Bool) (hh : heavyA 40 l = r1) (hh' : heavyA 40 m = r2)
    (hb1 : decide (k < 1) = b1) (hb2 : decide (16 < k) = b2) (hor : (r1 || r2 || b1 || b2) = true) :
    Calls Tryz.prog 7 #[.int .i64 k, .slice A l.length c, .slice A' m.length c'] w fun e w' => e = .returned (.bool true) ∧ Below w.heap.size w w' := by
  have HX := Lib.hid (And.intro hA (And.intro hA' (And.intro hl (And.intro hl' (And.intro hh (And.intro hh' hT))))))
  clear hA hA' hl hl' hh hh' hT
  go_enter Tryz.func7, Tryz.ntmps7
  go_wp2_with fail
  refine (awake12_c w HX.out.2.2.2.2.2.2).mono ?_
  rintro e w1 ⟨rfl, hb1'⟩
  have HH := Lib.hid (rheavy7_c (c := c) (HX.out.1.below hb1' (Nat.le_refl _) (Nat.le_refl _)) HX.out.2.2.1 40 r1 HX.out.2.2.2.2.1)
  have HH' := Lib.hid (rheavy7_c (c := c') (HX.out.2.1.below hb1' (Nat.le_refl _) (Nat.le_refl _)) HX.out.2.2.2.1 40 r2 HX.out.2.2.2.2.2.1)
  have HB := Lib.hid hb1'
  clear hb1'
  go_wp2_with fail
  refine HH.out.mono ?_
  rintro e w' ⟨rfl, rfl⟩
  clear HH
  cases r1 with
  | true => (go_wp2_with fail); go_ret; exact ⟨rfl, HB.out⟩
  | false =>
    go_wp2_with fail
    refine HH'.out.mono ?_
    rintro e w' ⟨rfl, rfl⟩
    clear HH'
    cases r2 with
    | true => (go_wp2_with fail); go_ret; exact ⟨rfl, HB.out⟩
    | false =>
      cases b1 with
      | true => (go_wp2_with fail); go_ret; exact ⟨rfl, HB.out⟩
      | false =>
        cases b2 with
        | true => (go_wp2_with fail); go_ret; exact ⟨rfl, HB.out⟩
        | false => cases hor
set_option maxRecDepth 1000000 in
set_option maxHeartbeats 4000000 in
theorem diffChanges_go {w : World} {A A' : Option Addr} {c c' : Nat} {l m : List ActT} (k : Nat) (hT : Tz w) (hA : ActsT w w.heap.size A l) (hA' : ActsT w w.heap.size A' m) (hl : l.length ≤ maxLen) (hl' : m.length ≤ maxLen) (hh : heavyA 40 l = false) (hh' : heavyA 40 m = false) (h1 : 1 ≤ k) (h16 : k ≤ 16) :
    Calls Tryz.prog 7 #[.int .i64 (k : Int), .slice A l.length c, .slice A' m.length c'] w fun e w' => e = .returned (.bool true) ∧ Below w.heap.size w w' := by
  have hf := heavyA_few hh
  have hf' := heavyA_few hh'
  have HX := Lib.hid (And.intro hA (And.intro hA' (And.intro hl (And.intro hl' (And.intro hh (And.intro hh' hT))))))
  have HK := Lib.hid (And.intro hf (And.intro hf' (And.intro h1 h16)))
  have d1 : decide ((k : Int) < 1) = false := decide_eq_false (by omega)
  have d2 : decide ((16 : Int) < (k : Int)) = false := decide_eq_false (by omega)
  have d2' : decide (16 < k) = false := decide_eq_false (by omega)
  clear hA hA' hl hl' hh hh' hT hf hf' h1 h16
  go_enter Tryz.func7, Tryz.ntmps7
  go_wp2_with fail
  refine (awake12_c w HX.out.2.2.2.2.2.2).mono ?_
  rintro e w0 ⟨rfl, hb0⟩
  have HH := Lib.hid (rheavy7_c (c := c) (HX.out.1.below hb0 (Nat.le_refl _) (Nat.le_refl _)) HX.out.2.2.1 40 false HX.out.2.2.2.2.1)
  have HH' := Lib.hid (rheavy7_c (c := c') (HX.out.2.1.below hb0 (Nat.le_refl _) (Nat.le_refl _)) HX.out.2.2.2.1 40 false HX.out.2.2.2.2.2.1)
  have HB0 := Lib.hid hb0
  clear hb0
  go_wp2_with fail
  refine HH.out.mono ?_
  rintro e w' ⟨rfl, rfl⟩
  clear HH
  go_wp2_with fail
  refine HH'.out.mono ?_
  rintro e w' ⟨rfl, rfl⟩
  clear HH'
  go_wp2_with fail
  refine (two_c (c := c) (c' := c') HK.out.2.2.1 HK.out.2.2.2 (HX.out.1.below HB0.out (Nat.le_refl _) (Nat.le_refl _)) (HX.out.2.1.below HB0.out (Nat.le_refl _) (Nat.le_refl _)) HB0.out.size (by have := HK.out.1; omega) (by have := HK.out.2.1; omega) rfl rfl).mono ?_
  rintro e w3 ⟨t1, o1, D1, e1, t2, o2, D2, e2, rfl, hd1, hd2, hb3⟩
  have HD2 := Lib.hid (And.intro hd1 (And.intro hd2 (Below.andThen HB0.out hb3)))
  obtain ⟨N1, hN1⟩ : ∃ N, (Tr.entsO o1).length = N := ⟨_, rfl⟩
  obtain ⟨N2, hN2⟩ : ∃ N, (Tr.entsO o2).length = N := ⟨_, rfl⟩
  have HN1 := Lib.hid hN1
  have HN2 := Lib.hid hN2
  rw [hN1, hN2]
  clear hd1 hd2 hb3 hN1 hN2
  have HTz : Hid (∀ w', Below w3.heap.size w3 w' → Tz w') := Lib.hid fun w' hb => (HX.out.2.2.2.2.2.2.on HD2.out.2.2).on hb
  obtain ⟨dL, zL⟩ := treeX_dz HD2.out.1.tree
  obtain ⟨dM, zM⟩ := treeX_dz HD2.out.2.1.tree
  have hfew := chL_few zL dL dM
  rw [HN1.out, HN2.out] at hfew
  have hs1 : N1 ≤ 40 := by have h := HD2.out.1.few; rw [HN1.out] at h; have := HK.out.1; omega
  have hs2 : N2 ≤ 80 := by have h := HD2.out.2.1.few; rw [HN2.out] at h; have := HK.out.1; have := HK.out.2.1; omega
  obtain ⟨C, hC⟩ : ∃ C, Tr.chL (Tr.entsO o1) (Tr.entsO o2) = C := ⟨_, rfl⟩
  obtain ⟨n, hn⟩ : ∃ n, C.length = n := ⟨_, rfl⟩
  obtain ⟨r, hr⟩ : ∃ r, C.isEmpty = r := ⟨_, rfl⟩
  have hsw : Tr.chL (Tr.entsO o2) (Tr.entsO o1) = C.map Tr.swapC := by rw [← hC]; exact (Tr.chL_swap zL zM dL dM).symm
  have hr2 : (C.map Tr.swapC).isEmpty = r := by rw [← hr]; cases C <;> rfl
  have hn0 : ((n : Int) == 0) = r := by
    rw [← hr, ← hn]
    cases C with
    | nil => rfl
    | cons a t => rw [List.isEmpty_cons, beq_eq_false_iff_ne, List.length_cons]; omega
  rw [hC, hn] at hfew
  have HC := Lib.hid (And.intro dL (And.intro zL (And.intro dM (And.intro zM (And.intro hC (And.intro hn (And.intro hr (And.intro hsw (And.intro hr2 (And.intro hs1 (And.intro hs2 hfew)))))))))))
  have HZ := Lib.hid hn0
  have hn9 : (n : Int) ≤ 120 := by omega
  clear dL zL dM zM hC hn hr hsw hr2 hs1 hs2 hfew hn0
  have hle : n ≤ 120 := by omega
  go_wp2_with fail
  refine (dChanges_c HD2.out.1.tree HD2.out.2.1.tree HTz.out (C := C) HC.out.2.2.2.2.1 (by rw [HC.out.2.2.2.2.2.1]; omega) HC.out.2.2.2.2.2.1).mono ?_
  rintro e w4 ⟨X, x, rfl, hnew, hb4⟩
  have H4 := Lib.hid (And.intro (HD2.out.1.below hb4) (And.intro (HD2.out.2.1.below hb4) (And.intro (Below.andThen HD2.out.2.2 hb4) (And.intro hnew.chs hb4))))
  clear hb4 hnew
  go_wp2_with fail
  refine (dChanges_c H4.out.2.1.tree H4.out.1.tree (fun w' hb => HTz.out w' (H4.out.2.2.2.2.trans (hb.mono H4.out.2.2.2.2.size))) (C := C.map Tr.swapC) HC.out.2.2.2.2.2.2.2.1 (by rw [List.length_map, HC.out.2.2.2.2.2.1]; omega) (n := n) (by rw [List.length_map]; exact HC.out.2.2.2.2.2.1)).mono ?_
  rintro e w5 ⟨Y, y, rfl, hnew, hb5⟩
  have H5 := Lib.hid (And.intro (H4.out.1.below hb5) (And.intro (H4.out.2.1.below hb5) (And.intro (Below.andThen H4.out.2.2.1 hb5) (And.intro (H4.out.2.2.2.1.below hb5) (And.intro hnew.chs (Below.andThen H4.out.2.2.2.2 hb5))))))
  clear hb5 hnew H4
  go_wp2_with fail
  refine (dCount_c H5.out.1.tree H5.out.2.1.tree (fun w' hb => HTz.out w' (H5.out.2.2.2.2.2.trans (hb.mono H5.out.2.2.2.2.2.size))) (n := n) (by rw [← HC.out.2.2.2.2.2.1, ← HC.out.2.2.2.2.1]; rfl) (by omega)).mono ?_
  rintro e w6 ⟨rfl, hb6⟩
  have H6 := Lib.hid (And.intro (H5.out.1.below hb6) (And.intro (H5.out.2.1.below hb6) (And.intro (Below.andThen H5.out.2.2.1 hb6) (And.intro (H5.out.2.2.2.1.below hb6) (And.intro (H5.out.2.2.2.2.1.below hb6) (Below.andThen H5.out.2.2.2.2.2 hb6))))))
  clear hb6 H5
  go_wp2_with fail
  refine (dChanges_c H6.out.1.tree H6.out.1.tree (fun w' hb => HTz.out w' (H6.out.2.2.2.2.2.trans (hb.mono H6.out.2.2.2.2.2.size))) (C := []) (Tr.chL_same _) (by simp) (n := 0) rfl).mono ?_
  rintro e w7 ⟨V, v, rfl, -, hb7⟩
  have H7 := Lib.hid (And.intro (H6.out.1.below hb7) (And.intro (H6.out.2.1.below hb7) (And.intro (Below.andThen H6.out.2.2.1 hb7) (And.intro (H6.out.2.2.2.1.below hb7) (And.intro (H6.out.2.2.2.2.1.below hb7) (Below.andThen H6.out.2.2.2.2.2 hb7))))))
  clear hb7 H6
  go_wp2_with fail
  refine (r12changes_c (c := e1) (c' := e2) HC.out.2.1 HC.out.1 HC.out.2.2.2.1 HC.out.2.2.1 (H7.out.1.list.ents H7.out.1.old (Nat.le_refl _)) (H7.out.2.1.list.ents H7.out.2.1.old (Nat.le_refl _)) HN1.out HN2.out (by have h := H7.out.1.cap; rw [HN1.out] at h; exact h) HK.out.2.2.1 HK.out.2.2.2 (by have := HC.out.2.2.2.2.2.2.2.2.2; omega) HC.out.2.2.2.2.1 HC.out.2.2.2.2.2.1).mono ?_
  rintro e w8 ⟨W, x8, rfl, hch, hb8⟩
  have H8 := Lib.hid (And.intro (H7.out.1.below hb8) (And.intro (H7.out.2.1.below hb8) (And.intro (Below.andThen H7.out.2.2.1 hb8) (And.intro (H7.out.2.2.2.1.below hb8) (And.intro (H7.out.2.2.2.2.1.below hb8) (And.intro hch (Below.andThen H7.out.2.2.2.2.2 hb8)))))))
  clear hb8 hch H7
  have n1 : ((n : Int) != (n : Int)) = false := by simp
  go_wp2_with fail
  refine (rsame12_c (c := x) (c' := x8) H8.out.2.2.2.1 H8.out.2.2.2.2.2.1 HC.out.2.2.2.2.2.1 (by omega)).mono ?_
  rintro e w9 ⟨rfl, hb9⟩
  have H9 := Lib.hid (And.intro (H8.out.1.below hb9) (And.intro (H8.out.2.1.below hb9) (And.intro (Below.andThen H8.out.2.2.1 hb9) (And.intro (H8.out.2.2.2.2.1.below hb9) (And.intro (H8.out.2.2.2.2.2.1.below hb9) (Below.andThen H8.out.2.2.2.2.2.2 hb9))))))
  clear hb9 H8
  go_wp2_with fail
  refine (r12swapped_c (c := x8) H9.out.2.2.2.2.1 HC.out.2.2.2.2.2.1 (by omega)).mono ?_
  rintro e w10 ⟨Z, z, rfl, hch, hb10⟩
  have H10 := Lib.hid (And.intro (H9.out.1.below hb10) (And.intro (H9.out.2.1.below hb10) (And.intro (Below.andThen H9.out.2.2.1 hb10) (And.intro (H9.out.2.2.2.1.below hb10) (And.intro hch (Below.andThen H9.out.2.2.2.2.2 hb10))))))
  clear hb10 hch H9
  go_wp2_with fail
  refine (rsame12_c (c := y) (c' := z) H10.out.2.2.2.1 H10.out.2.2.2.2.1 (by rw [List.length_map]; exact HC.out.2.2.2.2.2.1) (by omega)).mono ?_
  rintro e w11 ⟨rfl, hb11⟩
  have H11 := Lib.hid (And.intro (H10.out.1.below hb11) (And.intro (H10.out.2.1.below hb11) (And.intro (Below.andThen H10.out.2.2.1 hb11) (Below.andThen H10.out.2.2.2.2.2 hb11))))
  clear hb11 H10
  have HSm : Hid (∀ w9, Below w11.heap.size w11 w9 → Calls Tryz.prog 37 #[.pointer (some ⟨t1, 0, none⟩), .pointer (some ⟨t2, 0, none⟩)] w9 fun e w' => e = .returned (.bool r) ∧ Below w9.heap.size w9 w') := Lib.hid fun w9 hb => dSame_c (H11.out.1.below hb).tree (H11.out.2.1.below hb).tree (fun w' hb' => HTz.out w' ((Below.andThen H11.out.2.2.2 hb).trans (hb'.mono (Below.andThen H11.out.2.2.2 hb).size))) (by show (Tr.chL (Tr.entsO o1) (Tr.entsO o2)).length ≤ _; rw [HC.out.2.2.2.2.1, HC.out.2.2.2.2.2.1]; omega) (by rw [← HC.out.2.2.2.2.2.2.1, ← HC.out.2.2.2.2.1]; rfl)
  have HSb : Hid (∀ w9, Below w11.heap.size w11 w9 → Calls Tryz.prog 37 #[.pointer (some ⟨t2, 0, none⟩), .pointer (some ⟨t1, 0, none⟩)] w9 fun e w' => e = .returned (.bool r) ∧ Below w9.heap.size w9 w') := Lib.hid fun w9 hb => dSame_c (H11.out.2.1.below hb).tree (H11.out.1.below hb).tree (fun w' hb' => HTz.out w' ((Below.andThen H11.out.2.2.2 hb).trans (hb'.mono (Below.andThen H11.out.2.2.2 hb).size))) (by show (Tr.chL (Tr.entsO o2) (Tr.entsO o1)).length ≤ _; rw [HC.out.2.2.2.2.2.2.2.1, List.length_map, HC.out.2.2.2.2.2.1]; omega) (by show (Tr.chL (Tr.entsO o2) (Tr.entsO o1)).isEmpty = r; rw [HC.out.2.2.2.2.2.2.2.1]; exact HC.out.2.2.2.2.2.2.2.2.1)
  have hz := HZ.out
  clear HC HZ hle
  cases r with
  | true =>
    go_wp2_with fail
    refine (HSm.out w11 (Below.refl _ _)).mono ?_
    rintro e w12 ⟨rfl, hb12⟩
    have H12 := Lib.hid hb12
    clear hb12 HSm
    go_wp2_with fail
    refine (HSb.out w12 H12.out).mono ?_
    rintro e w13 ⟨rfl, hb13⟩
    have H13 := Lib.hid (Below.andThen H11.out.2.2.1 (Below.andThen H12.out hb13))
    clear hb13 HSb
    go_wp2_with fail
    refine (dSame_same w13 (some ⟨t1, 0, none⟩)).mono ?_
    rintro e w' ⟨rfl, rfl⟩
    go_wp2_with fail
    go_ret
    exact ⟨rfl, H13.out⟩
  | false =>
    go_wp2_with fail
    refine (HSm.out w11 (Below.refl _ _)).mono ?_
    rintro e w12 ⟨rfl, hb12⟩
    have H12 := Lib.hid hb12
    clear hb12 HSm
    go_wp2_with fail
    refine (HSb.out w12 H12.out).mono ?_
    rintro e w13 ⟨rfl, hb13⟩
    have H13 := Lib.hid (Below.andThen H11.out.2.2.1 (Below.andThen H12.out hb13))
    clear hb13 HSb
    go_wp2_with fail
    refine (dSame_same w13 (some ⟨t1, 0, none⟩)).mono ?_
    rintro e w' ⟨rfl, rfl⟩
    go_wp2_with fail
    go_ret
    exact ⟨rfl, H13.out⟩
theorem diffChanges_c {w : World} {A A' : Option Addr} {c c' : Nat} {l m : List ActT} (k : Int) (hT : Tz w) (hA : ActsT w w.heap.size A l) (hl : l.length ≤ maxLen) (hA' : ActsT w w.heap.size A' m) (hl' : m.length ≤ maxLen) :
    Calls Tryz.prog 7 #[.int .i64 k, .slice A l.length c, .slice A' m.length c'] w fun e w' => e = .returned (.bool true) ∧ Below w.heap.size w w' := by
  by_cases h : (heavyA 40 l || heavyA 40 m || decide (k < 1) || decide (16 < k)) = true
  · exact diffChanges_skip k hT hA hA' hl hl' _ _ _ _ rfl rfl rfl rfl h
  · simp only [Bool.or_eq_true, decide_eq_true_eq, not_or, Bool.not_eq_true] at h
    obtain ⟨⟨⟨h1, h2⟩, h3⟩, h4⟩ := h
    obtain ⟨a, rfl⟩ : ∃ a : Nat, k = (a : Int) := ⟨k.toNat, by omega⟩
    exact diffChanges_go a hT hA hA' hl hl' h1 h2 (by omega) (by omega)
end Go.Proofs.YtjcmehplcagejaaGreatDoor
