import Derived.Test.YtpgdoicamgfibaaGreatDoorML7a
/-
  THE LAW TreeOf.
-/
namespace Go.Proofs.YtpgdoicamgfibaaGreatDoor
open Go.ChangeShapes Go.WideShapes Go.ChangeAt Go.RowKit
open Tr (T S4 Ent)

set_option maxRecDepth 100000 in
set_option maxHeartbeats 2000000 in
theorem treeOf_lo {w : World} {A A' : Option Addr} {c c' : Nat} {l m : List ActT} (k : Nat) (other : Int) (hT : Tz w) (hA : ActsT w w.heap.size A l) (hl : l.length ≤ maxLen) (hA' : ActsT w w.heap.size A' m) (hm : m.length ≤ maxLen) (hh : heavyA 30 l = false) (hh' : heavyA 30 m = false) (h1 : 1 ≤ k) (h16 : k ≤ 16) (ho : other < 1) :
    Calls Tryz.prog 6 #[.int .i64 (k : Int), .int .i64 other, .slice A l.length c, .slice A' m.length c'] w fun e w' => e = .returned (.bool true) ∧ Below w.heap.size w w' := by
  have hfew := heavyA_few hh
  have hfew' := heavyA_few hh'
  have HX := Lib.hid (And.intro hA (And.intro hl (And.intro hh hT)))
  have HX' := Lib.hid (And.intro hA' (And.intro hm hh'))
  have HK := Lib.hid (And.intro h1 h16)
  have d1 : decide ((k : Int) < 1) = false := decide_eq_false (by omega)
  have d2 : decide ((16 : Int) < (k : Int)) = false := decide_eq_false (by omega)
  have d3 : decide (other < 1) = true := decide_eq_true ho
  have HO := Lib.hid ho
  clear ho
  clear hA hl hh hT h1 h16 hA' hm hh'
  go_enter Tryz.func6, Tryz.ntmps6
  go_wp2_with fail
  refine (awake7_c w HX.out.2.2.2).mono ?_
  rintro e w0 ⟨rfl, hb0⟩
  have HH := Lib.hid (rheavy7_c (c := c) (HX.out.1.below hb0 (Nat.le_refl _) (Nat.le_refl _)) HX.out.2.1 30 false HX.out.2.2.1)
  have HH' := Lib.hid (rheavy7_c (c := c') (HX'.out.1.below hb0 (Nat.le_refl _) (Nat.le_refl _)) HX'.out.2.1 30 false HX'.out.2.2)
  have HB0 := Lib.hid hb0
  have HG := Lib.hid (grown_c (c := c) HK.out.1 HK.out.2 (HX.out.1.below hb0 (Nat.le_refl _) (Nat.le_refl _)) hb0.size (by omega))
  clear hb0
  go_wp2_with fail
  refine HH.out.mono ?_
  rintro e w' ⟨rfl, rfl⟩
  clear HH
  go_wp2_with fail
  refine HH'.out.mono ?_
  rintro e w' ⟨rfl, rfl⟩
  clear HH'
  go_wp2_with fail
  refine HG.out.mono ?_
  rintro e w1 ⟨b, o, D, d, rfl, hd, -, hb1⟩
  have HD := Lib.hid hd
  have HB1 := Lib.hid (Below.andThen HB0.out hb1)
  clear hd hb1 HG HB0
  obtain ⟨N, hN⟩ : ∃ N, (Tr.entsO o).length = N := ⟨_, rfl⟩
  have HN := Lib.hid hN
  rw [hN]
  clear hN
  go_wp2_with fail
  refine (tRoot_c HD.out.tree.1.2.2.2.1).mono ?_
  rintro e w' ⟨rfl, rfl⟩
  go_wp2_with fail
  refine (tOf_c HD.out.tree.1.2.2.2.2 (Nat.le_refl _) HK.out.1 HK.out.2).mono ?_
  rintro e w2 ⟨rfl, hu2, hb2⟩
  have HU := Lib.hid hu2
  have HD := Lib.hid (HD.out.below hb2)
  have HB2 := Lib.hid (Below.andThen HB1.out hb2)
  clear hu2 hb2 HB1
  go_wp2_with fail
  refine (tRoot_c HD.out.tree.1.2.2.2.1).mono ?_
  rintro e w' ⟨rfl, rfl⟩
  go_wp2_with fail
  refine (tOf_arg other (rootP o) w2 (by have := HO.out; omega)).mono ?_
  rintro e w' ⟨rfl, rfl⟩
  have HB3 := Lib.hid HB2.out
  have HKx := Lib.hid True.intro
  obtain ⟨w3, hw3⟩ : ∃ w3, w3 = w2 := ⟨_, rfl⟩
  rw [← hw3] at HU HD HB3 ⊢
  clear hw3
  have HRu := Lib.hid (tRoot_c HU.out.1.2.2.2.1)
  have HRt := Lib.hid (tRoot_c HD.out.tree.1.2.2.2.1)
  have HI := is7_c (c := d) HU.out.1 (fun w' hb => (HX.out.2.2.2.on HB3.out).on hb) (HD.out.list.ents HD.out.old (Nat.le_refl _)) HD.out.cap (by have := HD.out.few; have := HD.out.most; omega)
  rw [HN.out] at HI
  have HI := Lib.hid HI
  have hne : (binOp .neq 49 (.pointer (rootP o)) (.pointer (rootP o))).run Tryz.prog w3 = .ok (.bool false) w3 := by
    cases o with
    | none => kernel_rfl
    | some t => exact ptr_ne w3 _
  obtain ⟨R, hR⟩ : ∃ R, rootP o = R := ⟨_, rfl⟩
  rw [hR] at HRu HRt hne
  clear hR
  go_wp2_with fail
  refine HRu.out.mono ?_
  rintro e w' ⟨rfl, rfl⟩
  go_wp2_with fail
  refine HRt.out.mono ?_
  rintro e w' ⟨rfl, rfl⟩
  go_wp2_with fail
  refine HI.out.mono ?_
  rintro e w4 ⟨rfl, hb4⟩
  have HU := Lib.hid (HU.out.below hb4 (Nat.le_refl _))
  have HD := Lib.hid (HD.out.below hb4)
  have HB4 := Lib.hid (Below.andThen HB3.out hb4)
  clear hb4 HRu HRt HI hne HB3 HB2
  go_wp2_with fail
  have HS := Lib.hid (show Hand w4 w.heap.size w1.heap.size k o D d l.length from ⟨HU.out, HD.out.list, HD.out.cap, HD.out.few, HD.out.most, HD.out.old⟩)
  go_loopw [12, 10, 16] (fun t v i wr => ∃ (j b : Nat) (o : Option T) (D : Option Addr) (d : Nat), j ≤ m.length ∧ t = .pointer (some ⟨b, 0, none⟩) ∧ v = .slice D (Tr.entsO o).length d ∧ i = .int .i64 j ∧ Hand wr w.heap.size b k o D d (l.length + j) ∧ Below w.heap.size w wr) (fun _ _ i _ => m.length - (intOf i).toNat)
  case atStart => exact ⟨0, w1.heap.size, o, D, d, Nat.zero_le _, rfl, by rw [HN.out], rfl, HS.out, HB4.out⟩
  case round =>
    clear HD HU HS HB4
    obtain ⟨j, b, o, D, d, hj, rfl, rfl, rfl, hd, hbr⟩ := hrel
    by_cases hlt : j < m.length
    · obtain ⟨a, ha⟩ := get_lt hlt
      obtain ⟨gb, go, Ax, cx, hAA, hgb, x0, x1, x2, hp, hm, hv⟩ := (HX'.out.1.below hbr (Nat.le_refl _) (Nat.le_refl _)).at ha
      have HDn := Lib.hid (done_c (d := cx) hd (by omega) hp hm hv)
      have HY := Lib.hid hbr
      subst hAA
      have m1 : (0 : Int) ≤ (j : Int) := by omega
      have m2 : (j : Int) < (m.length : Int) := by omega
      clear hd hbr ha hp hm hv
      go_wp2_with (go_at_call 12; refine HDn.out.mono ?_; rintro e w5 ⟨b2, o2, D2, d2, rfl, hh2, he2, -, hb5⟩; clear he2)
      go_roundw
      case rel => exact ⟨j + 1, b2, o2, D2, d2, by omega, rfl, rfl, by go_num, hh2, Below.andThen HY.out hb5⟩
      case measure => simp [intOf]; omega
    · have HI := Lib.hid (is7_c (c := d) hd.tree.1 (fun w' hb => (HX.out.2.2.2.on hbr).on hb) (hd.list.ents hd.old (Nat.le_refl _)) hd.cap (by have := hd.few; have := hd.most; omega))
      have HY := Lib.hid hbr
      clear hd hbr
      go_wp2_with (go_at_call 13; refine HI.out.mono ?_; rintro e w5 ⟨rfl, hb5⟩)
      go_ret
      exact ⟨rfl, Below.andThen HY.out hb5⟩
set_option maxRecDepth 100000 in
set_option maxHeartbeats 2000000 in
theorem treeOf_hi {w : World} {A A' : Option Addr} {c c' : Nat} {l m : List ActT} (k : Nat) (other : Int) (hT : Tz w) (hA : ActsT w w.heap.size A l) (hl : l.length ≤ maxLen) (hA' : ActsT w w.heap.size A' m) (hm : m.length ≤ maxLen) (hh : heavyA 30 l = false) (hh' : heavyA 30 m = false) (h1 : 1 ≤ k) (h16 : k ≤ 16) (ho : 16 < other) :
    Calls Tryz.prog 6 #[.int .i64 (k : Int), .int .i64 other, .slice A l.length c, .slice A' m.length c'] w fun e w' => e = .returned (.bool true) ∧ Below w.heap.size w w' := by
  have hfew := heavyA_few hh
  have hfew' := heavyA_few hh'
  have HX := Lib.hid (And.intro hA (And.intro hl (And.intro hh hT)))
  have HX' := Lib.hid (And.intro hA' (And.intro hm hh'))
  have HK := Lib.hid (And.intro h1 h16)
  have d1 : decide ((k : Int) < 1) = false := decide_eq_false (by omega)
  have d2 : decide ((16 : Int) < (k : Int)) = false := decide_eq_false (by omega)
  have d3 : decide (other < 1) = false := decide_eq_false (by omega)
  have d4 : decide ((16 : Int) < other) = true := decide_eq_true ho
  have HO := Lib.hid ho
  clear ho
  clear hA hl hh hT h1 h16 hA' hm hh'
  go_enter Tryz.func6, Tryz.ntmps6
  go_wp2_with fail
  refine (awake7_c w HX.out.2.2.2).mono ?_
  rintro e w0 ⟨rfl, hb0⟩
  have HH := Lib.hid (rheavy7_c (c := c) (HX.out.1.below hb0 (Nat.le_refl _) (Nat.le_refl _)) HX.out.2.1 30 false HX.out.2.2.1)
  have HH' := Lib.hid (rheavy7_c (c := c') (HX'.out.1.below hb0 (Nat.le_refl _) (Nat.le_refl _)) HX'.out.2.1 30 false HX'.out.2.2)
  have HB0 := Lib.hid hb0
  have HG := Lib.hid (grown_c (c := c) HK.out.1 HK.out.2 (HX.out.1.below hb0 (Nat.le_refl _) (Nat.le_refl _)) hb0.size (by omega))
  clear hb0
  go_wp2_with fail
  refine HH.out.mono ?_
  rintro e w' ⟨rfl, rfl⟩
  clear HH
  go_wp2_with fail
  refine HH'.out.mono ?_
  rintro e w' ⟨rfl, rfl⟩
  clear HH'
  go_wp2_with fail
  refine HG.out.mono ?_
  rintro e w1 ⟨b, o, D, d, rfl, hd, -, hb1⟩
  have HD := Lib.hid hd
  have HB1 := Lib.hid (Below.andThen HB0.out hb1)
  clear hd hb1 HG HB0
  obtain ⟨N, hN⟩ : ∃ N, (Tr.entsO o).length = N := ⟨_, rfl⟩
  have HN := Lib.hid hN
  rw [hN]
  clear hN
  go_wp2_with fail
  refine (tRoot_c HD.out.tree.1.2.2.2.1).mono ?_
  rintro e w' ⟨rfl, rfl⟩
  go_wp2_with fail
  refine (tOf_c HD.out.tree.1.2.2.2.2 (Nat.le_refl _) HK.out.1 HK.out.2).mono ?_
  rintro e w2 ⟨rfl, hu2, hb2⟩
  have HU := Lib.hid hu2
  have HD := Lib.hid (HD.out.below hb2)
  have HB2 := Lib.hid (Below.andThen HB1.out hb2)
  clear hu2 hb2 HB1
  go_wp2_with fail
  refine (tRoot_c HD.out.tree.1.2.2.2.1).mono ?_
  rintro e w' ⟨rfl, rfl⟩
  go_wp2_with fail
  refine (tOf_arg other (rootP o) w2 (by have := HO.out; omega)).mono ?_
  rintro e w' ⟨rfl, rfl⟩
  have HB3 := Lib.hid HB2.out
  have HKx := Lib.hid True.intro
  obtain ⟨w3, hw3⟩ : ∃ w3, w3 = w2 := ⟨_, rfl⟩
  rw [← hw3] at HU HD HB3 ⊢
  clear hw3
  have HRu := Lib.hid (tRoot_c HU.out.1.2.2.2.1)
  have HRt := Lib.hid (tRoot_c HD.out.tree.1.2.2.2.1)
  have HI := is7_c (c := d) HU.out.1 (fun w' hb => (HX.out.2.2.2.on HB3.out).on hb) (HD.out.list.ents HD.out.old (Nat.le_refl _)) HD.out.cap (by have := HD.out.few; have := HD.out.most; omega)
  rw [HN.out] at HI
  have HI := Lib.hid HI
  have hne : (binOp .neq 49 (.pointer (rootP o)) (.pointer (rootP o))).run Tryz.prog w3 = .ok (.bool false) w3 := by
    cases o with
    | none => kernel_rfl
    | some t => exact ptr_ne w3 _
  obtain ⟨R, hR⟩ : ∃ R, rootP o = R := ⟨_, rfl⟩
  rw [hR] at HRu HRt hne
  clear hR
  go_wp2_with fail
  refine HRu.out.mono ?_
  rintro e w' ⟨rfl, rfl⟩
  go_wp2_with fail
  refine HRt.out.mono ?_
  rintro e w' ⟨rfl, rfl⟩
  go_wp2_with fail
  refine HI.out.mono ?_
  rintro e w4 ⟨rfl, hb4⟩
  have HU := Lib.hid (HU.out.below hb4 (Nat.le_refl _))
  have HD := Lib.hid (HD.out.below hb4)
  have HB4 := Lib.hid (Below.andThen HB3.out hb4)
  clear hb4 HRu HRt HI hne HB3 HB2
  go_wp2_with fail
  have HS := Lib.hid (show Hand w4 w.heap.size w1.heap.size k o D d l.length from ⟨HU.out, HD.out.list, HD.out.cap, HD.out.few, HD.out.most, HD.out.old⟩)
  go_loopw [12, 10, 16] (fun t v i wr => ∃ (j b : Nat) (o : Option T) (D : Option Addr) (d : Nat), j ≤ m.length ∧ t = .pointer (some ⟨b, 0, none⟩) ∧ v = .slice D (Tr.entsO o).length d ∧ i = .int .i64 j ∧ Hand wr w.heap.size b k o D d (l.length + j) ∧ Below w.heap.size w wr) (fun _ _ i _ => m.length - (intOf i).toNat)
  case atStart => exact ⟨0, w1.heap.size, o, D, d, Nat.zero_le _, rfl, by rw [HN.out], rfl, HS.out, HB4.out⟩
  case round =>
    clear HD HU HS HB4
    obtain ⟨j, b, o, D, d, hj, rfl, rfl, rfl, hd, hbr⟩ := hrel
    by_cases hlt : j < m.length
    · obtain ⟨a, ha⟩ := get_lt hlt
      obtain ⟨gb, go, Ax, cx, hAA, hgb, x0, x1, x2, hp, hm, hv⟩ := (HX'.out.1.below hbr (Nat.le_refl _) (Nat.le_refl _)).at ha
      have HDn := Lib.hid (done_c (d := cx) hd (by omega) hp hm hv)
      have HY := Lib.hid hbr
      subst hAA
      have m1 : (0 : Int) ≤ (j : Int) := by omega
      have m2 : (j : Int) < (m.length : Int) := by omega
      clear hd hbr ha hp hm hv
      go_wp2_with (go_at_call 12; refine HDn.out.mono ?_; rintro e w5 ⟨b2, o2, D2, d2, rfl, hh2, he2, -, hb5⟩; clear he2)
      go_roundw
      case rel => exact ⟨j + 1, b2, o2, D2, d2, by omega, rfl, rfl, by go_num, hh2, Below.andThen HY.out hb5⟩
      case measure => simp [intOf]; omega
    · have HI := Lib.hid (is7_c (c := d) hd.tree.1 (fun w' hb => (HX.out.2.2.2.on hbr).on hb) (hd.list.ents hd.old (Nat.le_refl _)) hd.cap (by have := hd.few; have := hd.most; omega))
      have HY := Lib.hid hbr
      clear hd hbr
      go_wp2_with (go_at_call 13; refine HI.out.mono ?_; rintro e w5 ⟨rfl, hb5⟩)
      go_ret
      exact ⟨rfl, Below.andThen HY.out hb5⟩
set_option maxRecDepth 100000 in
set_option maxHeartbeats 2000000 in
theorem treeOf_same {w : World} {A A' : Option Addr} {c c' : Nat} {l m : List ActT} (k : Nat) (hT : Tz w) (hA : ActsT w w.heap.size A l) (hl : l.length ≤ maxLen) (hA' : ActsT w w.heap.size A' m) (hm : m.length ≤ maxLen) (hh : heavyA 30 l = false) (hh' : heavyA 30 m = false) (h1 : 1 ≤ k) (h16 : k ≤ 16) :
    Calls Tryz.prog 6 #[.int .i64 (k : Int), .int .i64 (k : Int), .slice A l.length c, .slice A' m.length c'] w fun e w' => e = .returned (.bool true) ∧ Below w.heap.size w w' := by
  have hfew := heavyA_few hh
  have hfew' := heavyA_few hh'
  have HX := Lib.hid (And.intro hA (And.intro hl (And.intro hh hT)))
  have HX' := Lib.hid (And.intro hA' (And.intro hm hh'))
  have HK := Lib.hid (And.intro h1 h16)
  have d1 : decide ((k : Int) < 1) = false := decide_eq_false (by omega)
  have d2 : decide ((16 : Int) < (k : Int)) = false := decide_eq_false (by omega)
  have n1 : ((k : Int) != (k : Int)) = false := by simp
  clear hA hl hh hT h1 h16 hA' hm hh'
  go_enter Tryz.func6, Tryz.ntmps6
  go_wp2_with fail
  refine (awake7_c w HX.out.2.2.2).mono ?_
  rintro e w0 ⟨rfl, hb0⟩
  have HH := Lib.hid (rheavy7_c (c := c) (HX.out.1.below hb0 (Nat.le_refl _) (Nat.le_refl _)) HX.out.2.1 30 false HX.out.2.2.1)
  have HH' := Lib.hid (rheavy7_c (c := c') (HX'.out.1.below hb0 (Nat.le_refl _) (Nat.le_refl _)) HX'.out.2.1 30 false HX'.out.2.2)
  have HB0 := Lib.hid hb0
  have HG := Lib.hid (grown_c (c := c) HK.out.1 HK.out.2 (HX.out.1.below hb0 (Nat.le_refl _) (Nat.le_refl _)) hb0.size (by omega))
  clear hb0
  go_wp2_with fail
  refine HH.out.mono ?_
  rintro e w' ⟨rfl, rfl⟩
  clear HH
  go_wp2_with fail
  refine HH'.out.mono ?_
  rintro e w' ⟨rfl, rfl⟩
  clear HH'
  go_wp2_with fail
  refine HG.out.mono ?_
  rintro e w1 ⟨b, o, D, d, rfl, hd, -, hb1⟩
  have HD := Lib.hid hd
  have HB1 := Lib.hid (Below.andThen HB0.out hb1)
  clear hd hb1 HG HB0
  obtain ⟨N, hN⟩ : ∃ N, (Tr.entsO o).length = N := ⟨_, rfl⟩
  have HN := Lib.hid hN
  rw [hN]
  clear hN
  go_wp2_with fail
  refine (tRoot_c HD.out.tree.1.2.2.2.1).mono ?_
  rintro e w' ⟨rfl, rfl⟩
  go_wp2_with fail
  refine (tOf_c HD.out.tree.1.2.2.2.2 (Nat.le_refl _) HK.out.1 HK.out.2).mono ?_
  rintro e w2 ⟨rfl, hu2, hb2⟩
  have HU := Lib.hid hu2
  have HD := Lib.hid (HD.out.below hb2)
  have HB2 := Lib.hid (Below.andThen HB1.out hb2)
  clear hu2 hb2 HB1
  go_wp2_with fail
  refine (tRoot_c HD.out.tree.1.2.2.2.1).mono ?_
  rintro e w' ⟨rfl, rfl⟩
  go_wp2_with fail
  refine (tOf_c HD.out.tree.1.2.2.2.2 (Nat.le_refl _) HK.out.1 HK.out.2).mono ?_
  rintro e w3 ⟨rfl, hx3, hb3⟩
  have HU := Lib.hid (HU.out.below hb3 (Nat.le_refl _))
  have HD := Lib.hid (HD.out.below hb3)
  have HB3 := Lib.hid (Below.andThen HB2.out hb3)
  have HXx := Lib.hid hx3
  clear hx3 hb3
  have HRu := Lib.hid (tRoot_c HU.out.1.2.2.2.1)
  have HRt := Lib.hid (tRoot_c HD.out.tree.1.2.2.2.1)
  have HI := is7_c (c := d) HU.out.1 (fun w' hb => (HX.out.2.2.2.on HB3.out).on hb) (HD.out.list.ents HD.out.old (Nat.le_refl _)) HD.out.cap (by have := HD.out.few; have := HD.out.most; omega)
  rw [HN.out] at HI
  have HI := Lib.hid HI
  have hne : (binOp .neq 49 (.pointer (rootP o)) (.pointer (rootP o))).run Tryz.prog w3 = .ok (.bool false) w3 := by
    cases o with
    | none => kernel_rfl
    | some t => exact ptr_ne w3 _
  obtain ⟨R, hR⟩ : ∃ R, rootP o = R := ⟨_, rfl⟩
  rw [hR] at HRu HRt hne
  clear hR
  go_wp2_with fail
  refine HRu.out.mono ?_
  rintro e w' ⟨rfl, rfl⟩
  go_wp2_with fail
  refine HRt.out.mono ?_
  rintro e w' ⟨rfl, rfl⟩
  go_wp2_with fail
  refine HI.out.mono ?_
  rintro e w4 ⟨rfl, hb4⟩
  have HU := Lib.hid (HU.out.below hb4 (Nat.le_refl _))
  have HD := Lib.hid (HD.out.below hb4)
  have HB4 := Lib.hid (Below.andThen HB3.out hb4)
  have HKx := Lib.hid (tK_c (HXx.out.below hb4 (Nat.le_refl _)).1.2.2.2.1)
  clear hb4 HRu HRt HI hne HB3 HB2
  go_wp2_with (go_at_call 25; refine HKx.out.mono ?_; rintro e w' ⟨rfl, rfl⟩)
  have HS := Lib.hid (show Hand w4 w.heap.size w1.heap.size k o D d l.length from ⟨HU.out, HD.out.list, HD.out.cap, HD.out.few, HD.out.most, HD.out.old⟩)
  go_loopw [12, 10, 16] (fun t v i wr => ∃ (j b : Nat) (o : Option T) (D : Option Addr) (d : Nat), j ≤ m.length ∧ t = .pointer (some ⟨b, 0, none⟩) ∧ v = .slice D (Tr.entsO o).length d ∧ i = .int .i64 j ∧ Hand wr w.heap.size b k o D d (l.length + j) ∧ Below w.heap.size w wr) (fun _ _ i _ => m.length - (intOf i).toNat)
  case atStart => exact ⟨0, w1.heap.size, o, D, d, Nat.zero_le _, rfl, by rw [HN.out], rfl, HS.out, HB4.out⟩
  case round =>
    clear HD HU HS HB4
    obtain ⟨j, b, o, D, d, hj, rfl, rfl, rfl, hd, hbr⟩ := hrel
    by_cases hlt : j < m.length
    · obtain ⟨a, ha⟩ := get_lt hlt
      obtain ⟨gb, go, Ax, cx, hAA, hgb, x0, x1, x2, hp, hm, hv⟩ := (HX'.out.1.below hbr (Nat.le_refl _) (Nat.le_refl _)).at ha
      have HDn := Lib.hid (done_c (d := cx) hd (by omega) hp hm hv)
      have HY := Lib.hid hbr
      subst hAA
      have m1 : (0 : Int) ≤ (j : Int) := by omega
      have m2 : (j : Int) < (m.length : Int) := by omega
      clear hd hbr ha hp hm hv
      go_wp2_with (go_at_call 12; refine HDn.out.mono ?_; rintro e w5 ⟨b2, o2, D2, d2, rfl, hh2, he2, -, hb5⟩; clear he2)
      go_roundw
      case rel => exact ⟨j + 1, b2, o2, D2, d2, by omega, rfl, rfl, by go_num, hh2, Below.andThen HY.out hb5⟩
      case measure => simp [intOf]; omega
    · have HI := Lib.hid (is7_c (c := d) hd.tree.1 (fun w' hb => (HX.out.2.2.2.on hbr).on hb) (hd.list.ents hd.old (Nat.le_refl _)) hd.cap (by have := hd.few; have := hd.most; omega))
      have HY := Lib.hid hbr
      clear hd hbr
      go_wp2_with (go_at_call 13; refine HI.out.mono ?_; rintro e w5 ⟨rfl, hb5⟩)
      go_ret
      exact ⟨rfl, Below.andThen HY.out hb5⟩
set_option maxRecDepth 100000 in
set_option maxHeartbeats 2000000 in
theorem treeOf_unlike {w : World} {A A' : Option Addr} {c c' : Nat} {l m : List ActT} (k : Nat) (q : Nat) (hT : Tz w) (hA : ActsT w w.heap.size A l) (hl : l.length ≤ maxLen) (hA' : ActsT w w.heap.size A' m) (hm : m.length ≤ maxLen) (hh : heavyA 30 l = false) (hh' : heavyA 30 m = false) (h1 : 1 ≤ k) (h16 : k ≤ 16) (q1 : 1 ≤ q) (q16 : q ≤ 16) (hq : q ≠ k) :
    Calls Tryz.prog 6 #[.int .i64 (k : Int), .int .i64 (q : Int), .slice A l.length c, .slice A' m.length c'] w fun e w' => e = .returned (.bool true) ∧ Below w.heap.size w w' := by
  have hfew := heavyA_few hh
  have hfew' := heavyA_few hh'
  have HX := Lib.hid (And.intro hA (And.intro hl (And.intro hh hT)))
  have HX' := Lib.hid (And.intro hA' (And.intro hm hh'))
  have HK := Lib.hid (And.intro h1 h16)
  have d1 : decide ((k : Int) < 1) = false := decide_eq_false (by omega)
  have d2 : decide ((16 : Int) < (k : Int)) = false := decide_eq_false (by omega)
  have n1 : ((q : Int) != (k : Int)) = true := by simp; omega
  have n2 : ((q : Int) != (q : Int)) = false := by simp
  have d3 : decide ((q : Int) < 1) = false := decide_eq_false (by omega)
  have d4 : decide ((16 : Int) < (q : Int)) = false := decide_eq_false (by omega)
  have HQ := Lib.hid (And.intro q1 (And.intro q16 hq))
  clear q1 q16 hq
  clear hA hl hh hT h1 h16 hA' hm hh'
  go_enter Tryz.func6, Tryz.ntmps6
  go_wp2_with fail
  refine (awake7_c w HX.out.2.2.2).mono ?_
  rintro e w0 ⟨rfl, hb0⟩
  have HH := Lib.hid (rheavy7_c (c := c) (HX.out.1.below hb0 (Nat.le_refl _) (Nat.le_refl _)) HX.out.2.1 30 false HX.out.2.2.1)
  have HH' := Lib.hid (rheavy7_c (c := c') (HX'.out.1.below hb0 (Nat.le_refl _) (Nat.le_refl _)) HX'.out.2.1 30 false HX'.out.2.2)
  have HB0 := Lib.hid hb0
  have HG := Lib.hid (grown_c (c := c) HK.out.1 HK.out.2 (HX.out.1.below hb0 (Nat.le_refl _) (Nat.le_refl _)) hb0.size (by omega))
  clear hb0
  go_wp2_with fail
  refine HH.out.mono ?_
  rintro e w' ⟨rfl, rfl⟩
  clear HH
  go_wp2_with fail
  refine HH'.out.mono ?_
  rintro e w' ⟨rfl, rfl⟩
  clear HH'
  go_wp2_with fail
  refine HG.out.mono ?_
  rintro e w1 ⟨b, o, D, d, rfl, hd, -, hb1⟩
  have HD := Lib.hid hd
  have HB1 := Lib.hid (Below.andThen HB0.out hb1)
  clear hd hb1 HG HB0
  obtain ⟨N, hN⟩ : ∃ N, (Tr.entsO o).length = N := ⟨_, rfl⟩
  have HN := Lib.hid hN
  rw [hN]
  clear hN
  go_wp2_with fail
  refine (tRoot_c HD.out.tree.1.2.2.2.1).mono ?_
  rintro e w' ⟨rfl, rfl⟩
  go_wp2_with fail
  refine (tOf_c HD.out.tree.1.2.2.2.2 (Nat.le_refl _) HK.out.1 HK.out.2).mono ?_
  rintro e w2 ⟨rfl, hu2, hb2⟩
  have HU := Lib.hid hu2
  have HD := Lib.hid (HD.out.below hb2)
  have HB2 := Lib.hid (Below.andThen HB1.out hb2)
  clear hu2 hb2 HB1
  go_wp2_with fail
  refine (tRoot_c HD.out.tree.1.2.2.2.1).mono ?_
  rintro e w' ⟨rfl, rfl⟩
  go_wp2_with fail
  cases o with
  | none =>
    have d5 : decide ((0 : Int) < (N : Int)) = false := decide_eq_false (by have := HN.out; simp [Tr.entsO] at this; omega)
    have d6 : decide (0 < N) = false := decide_eq_false (by have := HN.out; simp [Tr.entsO] at this; omega)
    refine (tOf_c (NodeO.none w2 w2.heap.size q) (Nat.le_refl _) HQ.out.1 HQ.out.2.1).mono ?_
    rintro e w3 ⟨rfl, hx3, hb3⟩
    have HU := Lib.hid (HU.out.below hb3 (Nat.le_refl _))
    have HD := Lib.hid (HD.out.below hb3)
    have HB3 := Lib.hid (Below.andThen HB2.out hb3)
    have HXx := Lib.hid hx3
    clear hx3 hb3
    have HRu := Lib.hid (tRoot_c HU.out.1.2.2.2.1)
    have HRt := Lib.hid (tRoot_c HD.out.tree.1.2.2.2.1)
    have HI := is7_c (c := d) HU.out.1 (fun w' hb => (HX.out.2.2.2.on HB3.out).on hb) (HD.out.list.ents HD.out.old (Nat.le_refl _)) HD.out.cap (by have := HD.out.few; have := HD.out.most; omega)
    rw [HN.out] at HI
    have HI := Lib.hid HI
    have hne : (binOp .neq 49 (.pointer (rootP none)) (.pointer (rootP none))).run Tryz.prog w3 = .ok (.bool false) w3 := by kernel_rfl
    obtain ⟨R, hR⟩ : ∃ R, rootP none = R := ⟨_, rfl⟩
    rw [hR] at HRu HRt hne
    clear hR
    go_wp2_with fail
    refine HRu.out.mono ?_
    rintro e w' ⟨rfl, rfl⟩
    go_wp2_with fail
    refine HRt.out.mono ?_
    rintro e w' ⟨rfl, rfl⟩
    go_wp2_with fail
    refine HI.out.mono ?_
    rintro e w4 ⟨rfl, hb4⟩
    have HU := Lib.hid (HU.out.below hb4 (Nat.le_refl _))
    have HD := Lib.hid (HD.out.below hb4)
    have HB4 := Lib.hid (Below.andThen HB3.out hb4)
    have HKx := Lib.hid (tK_c (HXx.out.below hb4 (Nat.le_refl _)).1.2.2.2.1)
    clear hb4 HRu HRt HI hne HB3 HB2
    go_wp2_with (go_at_call 25; refine HKx.out.mono ?_; rintro e w' ⟨rfl, rfl⟩)
    have HS := Lib.hid (show Hand w4 w.heap.size w1.heap.size k none D d l.length from ⟨HU.out, HD.out.list, HD.out.cap, HD.out.few, HD.out.most, HD.out.old⟩)
    go_loopw [12, 10, 16] (fun t v i wr => ∃ (j b : Nat) (o : Option T) (D : Option Addr) (d : Nat), j ≤ m.length ∧ t = .pointer (some ⟨b, 0, none⟩) ∧ v = .slice D (Tr.entsO o).length d ∧ i = .int .i64 j ∧ Hand wr w.heap.size b k o D d (l.length + j) ∧ Below w.heap.size w wr) (fun _ _ i _ => m.length - (intOf i).toNat)
    case atStart => exact ⟨0, w1.heap.size, none, D, d, Nat.zero_le _, rfl, by rw [HN.out], rfl, HS.out, HB4.out⟩
    case round =>
      clear HD HU HS HB4
      obtain ⟨j, b, o, D, d, hj, rfl, rfl, rfl, hd, hbr⟩ := hrel
      by_cases hlt : j < m.length
      · obtain ⟨a, ha⟩ := get_lt hlt
        obtain ⟨gb, go, Ax, cx, hAA, hgb, x0, x1, x2, hp, hm, hv⟩ := (HX'.out.1.below hbr (Nat.le_refl _) (Nat.le_refl _)).at ha
        have HDn := Lib.hid (done_c (d := cx) hd (by omega) hp hm hv)
        have HY := Lib.hid hbr
        subst hAA
        have m1 : (0 : Int) ≤ (j : Int) := by omega
        have m2 : (j : Int) < (m.length : Int) := by omega
        clear hd hbr ha hp hm hv
        go_wp2_with (go_at_call 12; refine HDn.out.mono ?_; rintro e w5 ⟨b2, o2, D2, d2, rfl, hh2, he2, -, hb5⟩; clear he2)
        go_roundw
        case rel => exact ⟨j + 1, b2, o2, D2, d2, by omega, rfl, rfl, by go_num, hh2, Below.andThen HY.out hb5⟩
        case measure => simp [intOf]; omega
      · have HI := Lib.hid (is7_c (c := d) hd.tree.1 (fun w' hb => (HX.out.2.2.2.on hbr).on hb) (hd.list.ents hd.old (Nat.le_refl _)) hd.cap (by have := hd.few; have := hd.most; omega))
        have HY := Lib.hid hbr
        clear hd hbr
        go_wp2_with (go_at_call 13; refine HI.out.mono ?_; rintro e w5 ⟨rfl, hb5⟩)
        go_ret
        exact ⟨rfl, Below.andThen HY.out hb5⟩
  | some t =>
    have d5 : decide ((0 : Int) < (N : Int)) = true := decide_eq_true (by have := HN.out; have h2 := Tr.ents_pos' (HD.out.wf t rfl); simp only [Tr.entsO] at this; omega)
    have d6 : decide (0 < N) = true := decide_eq_true (by have := HN.out; have h2 := Tr.ents_pos' (HD.out.wf t rfl); simp only [Tr.entsO] at this; omega)
    refine (tOf_dim q (HD.out.tree.1.2.2.2.2 t rfl) HQ.out.1 HQ.out.2.1 (fun e => HQ.out.2.2 e.symm)).mono ?_
    rintro e w' ⟨rfl, rfl⟩
    have HB3 := Lib.hid HB2.out
    have HKx := Lib.hid True.intro
    obtain ⟨w3, hw3⟩ : ∃ w3, w3 = w2 := ⟨_, rfl⟩
    rw [← hw3] at HU HD HB3 ⊢
    clear hw3
    have HRu := Lib.hid (tRoot_c HU.out.1.2.2.2.1)
    have HRt := Lib.hid (tRoot_c HD.out.tree.1.2.2.2.1)
    have HI := is7_c (c := d) HU.out.1 (fun w' hb => (HX.out.2.2.2.on HB3.out).on hb) (HD.out.list.ents HD.out.old (Nat.le_refl _)) HD.out.cap (by have := HD.out.few; have := HD.out.most; omega)
    rw [HN.out] at HI
    have HI := Lib.hid HI
    have hne : (binOp .neq 49 (.pointer (rootP (some t))) (.pointer (rootP (some t)))).run Tryz.prog w3 = .ok (.bool false) w3 := ptr_ne w3 _
    obtain ⟨R, hR⟩ : ∃ R, rootP (some t) = R := ⟨_, rfl⟩
    rw [hR] at HRu HRt hne
    clear hR
    go_wp2_with fail
    refine HRu.out.mono ?_
    rintro e w' ⟨rfl, rfl⟩
    go_wp2_with fail
    refine HRt.out.mono ?_
    rintro e w' ⟨rfl, rfl⟩
    go_wp2_with fail
    refine HI.out.mono ?_
    rintro e w4 ⟨rfl, hb4⟩
    have HU := Lib.hid (HU.out.below hb4 (Nat.le_refl _))
    have HD := Lib.hid (HD.out.below hb4)
    have HB4 := Lib.hid (Below.andThen HB3.out hb4)
    clear hb4 HRu HRt HI hne HB3 HB2
    go_wp2_with fail
    have HS := Lib.hid (show Hand w4 w.heap.size w1.heap.size k (some t) D d l.length from ⟨HU.out, HD.out.list, HD.out.cap, HD.out.few, HD.out.most, HD.out.old⟩)
    go_loopw [12, 10, 16] (fun t v i wr => ∃ (j b : Nat) (o : Option T) (D : Option Addr) (d : Nat), j ≤ m.length ∧ t = .pointer (some ⟨b, 0, none⟩) ∧ v = .slice D (Tr.entsO o).length d ∧ i = .int .i64 j ∧ Hand wr w.heap.size b k o D d (l.length + j) ∧ Below w.heap.size w wr) (fun _ _ i _ => m.length - (intOf i).toNat)
    case atStart => exact ⟨0, w1.heap.size, (some t), D, d, Nat.zero_le _, rfl, by rw [HN.out], rfl, HS.out, HB4.out⟩
    case round =>
      clear HD HU HS HB4
      obtain ⟨j, b, o, D, d, hj, rfl, rfl, rfl, hd, hbr⟩ := hrel
      by_cases hlt : j < m.length
      · obtain ⟨a, ha⟩ := get_lt hlt
        obtain ⟨gb, go, Ax, cx, hAA, hgb, x0, x1, x2, hp, hm, hv⟩ := (HX'.out.1.below hbr (Nat.le_refl _) (Nat.le_refl _)).at ha
        have HDn := Lib.hid (done_c (d := cx) hd (by omega) hp hm hv)
        have HY := Lib.hid hbr
        subst hAA
        have m1 : (0 : Int) ≤ (j : Int) := by omega
        have m2 : (j : Int) < (m.length : Int) := by omega
        clear hd hbr ha hp hm hv
        go_wp2_with (go_at_call 12; refine HDn.out.mono ?_; rintro e w5 ⟨b2, o2, D2, d2, rfl, hh2, he2, -, hb5⟩; clear he2)
        go_roundw
        case rel => exact ⟨j + 1, b2, o2, D2, d2, by omega, rfl, rfl, by go_num, hh2, Below.andThen HY.out hb5⟩
        case measure => simp [intOf]; omega
      · have HI := Lib.hid (is7_c (c := d) hd.tree.1 (fun w' hb => (HX.out.2.2.2.on hbr).on hb) (hd.list.ents hd.old (Nat.le_refl _)) hd.cap (by have := hd.few; have := hd.most; omega))
        have HY := Lib.hid hbr
        clear hd hbr
        go_wp2_with (go_at_call 13; refine HI.out.mono ?_; rintro e w5 ⟨rfl, hb5⟩)
        go_ret
        exact ⟨rfl, Below.andThen HY.out hb5⟩
set_option maxRecDepth 100000 in
theorem treeOf_skip {w : World} {A A' : Option Addr} {c c' : Nat} {l m : List ActT} (k other : Int) (hT : Tz w) (hA : ActsT w w.heap.size A l) (hl : l.length ≤ maxLen) (hA' : ActsT w w.heap.size A' m) (hm : m.length ≤ maxLen) (r1 r2 b1 b2 : Bool) (hh : heavyA 30 l = r1) (hh' : heavyA 30 m = r2) (hb1 : decide (k < 1) = b1) (hb2 : decide (16 < k) = b2) (hor : (r1 || r2 || b1 || b2) = true) :
    Calls Tryz.prog 6 #[.int .i64 k, .int .i64 other, .slice A l.length c, .slice A' m.length c'] w fun e w' => e = .returned (.bool true) ∧ Below w.heap.size w w' := by
  have HX := Lib.hid (And.intro hA (And.intro hl (And.intro hh hT)))
  have HX' := Lib.hid (And.intro hA' (And.intro hm hh'))
  clear hA hl hh hT hA' hm hh'
  go_enter Tryz.func6, Tryz.ntmps6
  go_wp2_with fail
  refine (awake7_c w HX.out.2.2.2).mono ?_
  rintro e w0 ⟨rfl, hb0⟩
  have HH := Lib.hid (rheavy7_c (c := c) (HX.out.1.below hb0 (Nat.le_refl _) (Nat.le_refl _)) HX.out.2.1 30 r1 HX.out.2.2.1)
  have HH' := Lib.hid (rheavy7_c (c := c') (HX'.out.1.below hb0 (Nat.le_refl _) (Nat.le_refl _)) HX'.out.2.1 30 r2 HX'.out.2.2)
  have HB0 := Lib.hid hb0
  clear hb0
  go_wp2_with fail
  refine HH.out.mono ?_
  rintro e w' ⟨rfl, rfl⟩
  clear HH
  cases r1 with
  | true =>
    go_wp2_with fail
    go_ret
    exact ⟨rfl, HB0.out⟩
  | false =>
    go_wp2_with fail
    refine HH'.out.mono ?_
    rintro e w' ⟨rfl, rfl⟩
    clear HH'
    cases r2 with
    | true =>
      go_wp2_with fail
      go_ret
      exact ⟨rfl, HB0.out⟩
    | false =>
      cases b1 with
      | true =>
        go_wp2_with fail
        go_ret
        exact ⟨rfl, HB0.out⟩
      | false =>
        cases b2 with
        | true =>
          go_wp2_with fail
          go_ret
          exact ⟨rfl, HB0.out⟩
        | false => cases hor
/-- The law, at arguments laid open. -/
theorem treeOf_c {w : World} {A A' : Option Addr} {c c' : Nat} {l m : List ActT} (k other : Int) (hT : Tz w) (hA : ActsT w w.heap.size A l) (hl : l.length ≤ maxLen) (hA' : ActsT w w.heap.size A' m) (hm : m.length ≤ maxLen) :
    Calls Tryz.prog 6 #[.int .i64 k, .int .i64 other, .slice A l.length c, .slice A' m.length c'] w fun e w' => e = .returned (.bool true) ∧ Below w.heap.size w w' := by
  by_cases hs : (heavyA 30 l || heavyA 30 m || decide (k < 1) || decide (16 < k)) = true
  · exact treeOf_skip k other hT hA hl hA' hm _ _ _ _ rfl rfl rfl rfl hs
  · simp only [Bool.or_eq_true, not_or, Bool.not_eq_true, decide_eq_false_iff_not] at hs
    obtain ⟨⟨⟨hh, hh'⟩, h1⟩, h16⟩ := hs
    obtain ⟨n, rfl⟩ : ∃ n : Nat, k = (n : Int) := ⟨k.toNat, by omega⟩
    by_cases o1 : other < 1
    · exact treeOf_lo n other hT hA hl hA' hm hh hh' (by omega) (by omega) o1
    by_cases o2 : 16 < other
    · exact treeOf_hi n other hT hA hl hA' hm hh hh' (by omega) (by omega) o2
    obtain ⟨q, rfl⟩ : ∃ q : Nat, other = (q : Int) := ⟨other.toNat, by omega⟩
    by_cases hq : q = n
    · subst hq
      exact treeOf_same q hT hA hl hA' hm hh hh' (by omega) (by omega)
    · exact treeOf_unlike n q hT hA hl hA' hm hh hh' (by omega) (by omega) (by omega) (by omega) hq
end Go.Proofs.YtpgdoicamgfibaaGreatDoor
