import Derived.Test.YtpgdoicamgfibaaGreatDoorML7a
/-
  THE LAW TreeKeeps.
-/
namespace Go.Proofs.YtpgdoicamgfibaaGreatDoor
open Go.ChangeShapes Go.WideShapes Go.ChangeAt Go.RowKit
open Tr (T S4 Ent)

set_option maxRecDepth 100000 in
theorem treeKeeps_skip {w : World} {A A1 A2 : Option Addr} {c c1 c2 : Nat} {l p q : List ActT} (k : Int) (hT : Tz w) (hA : ActsT w w.heap.size A l) (hl : l.length ≤ maxLen) (hA1 : ActsT w w.heap.size A1 p) (hl1 : p.length ≤ maxLen) (hA2 : ActsT w w.heap.size A2 q) (hl2 : q.length ≤ maxLen) (r1 r2 r3 b1 b2 : Bool) (hh : heavyA 30 l = r1) (hh1 : heavyA 30 p = r2) (hh2 : heavyA 30 q = r3) (hb1 : decide (k < 1) = b1) (hb2 : decide (16 < k) = b2) (hor : (r1 || r2 || r3 || b1 || b2) = true) :
    Calls Tryz.prog 5 #[.int .i64 k, .slice A l.length c, .slice A1 p.length c1, .slice A2 q.length c2] w fun e w' => e = .returned (.bool true) ∧ Below w.heap.size w w' := by
  have HX := Lib.hid (And.intro hA (And.intro hl (And.intro hh hT)))
  have HY := Lib.hid (And.intro hA1 (And.intro hl1 hh1))
  have HZ := Lib.hid (And.intro hA2 (And.intro hl2 hh2))
  clear hA hl hh hT hA1 hl1 hh1 hA2 hl2 hh2
  go_enter Tryz.func5, Tryz.ntmps5
  go_wp2_with fail
  refine (awake7_c w HX.out.2.2.2).mono ?_
  rintro e w0 ⟨rfl, hb0⟩
  have HHa := Lib.hid (rheavy7_c (c := c) (HX.out.1.below hb0 (Nat.le_refl _) (Nat.le_refl _)) HX.out.2.1 30 r1 HX.out.2.2.1)
  have HHb := Lib.hid (rheavy7_c (c := c1) (HY.out.1.below hb0 (Nat.le_refl _) (Nat.le_refl _)) HY.out.2.1 30 r2 HY.out.2.2)
  have HHc := Lib.hid (rheavy7_c (c := c2) (HZ.out.1.below hb0 (Nat.le_refl _) (Nat.le_refl _)) HZ.out.2.1 30 r3 HZ.out.2.2)
  have HB0 := Lib.hid hb0
  clear hb0
  go_wp2_with fail
  refine HHa.out.mono ?_
  rintro e w' ⟨rfl, rfl⟩
  clear HHa
  cases r1 with
  | true =>
    go_wp2_with fail
    go_ret
    exact ⟨rfl, HB0.out⟩
  | false =>
    go_wp2_with fail
    refine HHb.out.mono ?_
    rintro e w' ⟨rfl, rfl⟩
    clear HHb
    cases r2 with
    | true =>
      go_wp2_with fail
      go_ret
      exact ⟨rfl, HB0.out⟩
    | false =>
      go_wp2_with fail
      refine HHc.out.mono ?_
      rintro e w' ⟨rfl, rfl⟩
      clear HHc
      cases r3 with
      | true =>
        go_wp2_with fail
        go_ret
        exact ⟨rfl, HB0.out⟩
      | false =>
        cases b1 with
        | true =>
          go_wp2_with fail
          go_ret
          exact ⟨rfl, HB0.out⟩
        | false =>
          cases b2 with
          | true =>
            go_wp2_with fail
            go_ret
            exact ⟨rfl, HB0.out⟩
          | false => cases hor
set_option maxRecDepth 100000 in
set_option maxHeartbeats 4000000 in
theorem treeKeeps_go {w : World} {A A1 A2 : Option Addr} {c c1 c2 : Nat} {l p q : List ActT} (k : Nat) (hT : Tz w) (hA : ActsT w w.heap.size A l) (hl : l.length ≤ maxLen) (hA1 : ActsT w w.heap.size A1 p) (hl1 : p.length ≤ maxLen) (hA2 : ActsT w w.heap.size A2 q) (hl2 : q.length ≤ maxLen) (hh : heavyA 30 l = false) (hh1 : heavyA 30 p = false) (hh2 : heavyA 30 q = false) (h1 : 1 ≤ k) (h16 : k ≤ 16) :
    Calls Tryz.prog 5 #[.int .i64 (k : Int), .slice A l.length c, .slice A1 p.length c1, .slice A2 q.length c2] w fun e w' => e = .returned (.bool true) ∧ Below w.heap.size w w' := by
  have hfew := heavyA_few hh
  have hfew1 := heavyA_few hh1
  have hfew2 := heavyA_few hh2
  have HX := Lib.hid (And.intro hA (And.intro hl (And.intro hh hT)))
  have HY := Lib.hid (And.intro hA1 (And.intro hl1 hh1))
  have HZ := Lib.hid (And.intro hA2 (And.intro hl2 hh2))
  have HK := Lib.hid (And.intro h1 h16)
  have d1 : decide ((k : Int) < 1) = false := decide_eq_false (by omega)
  have d2 : decide ((16 : Int) < (k : Int)) = false := decide_eq_false (by omega)
  clear hA hl hh hT hA1 hl1 hh1 hA2 hl2 hh2 h1 h16
  go_enter Tryz.func5, Tryz.ntmps5
  go_wp2_with fail
  refine (awake7_c w HX.out.2.2.2).mono ?_
  rintro e w0 ⟨rfl, hb0⟩
  have HHa := Lib.hid (rheavy7_c (c := c) (HX.out.1.below hb0 (Nat.le_refl _) (Nat.le_refl _)) HX.out.2.1 30 false HX.out.2.2.1)
  have HHb := Lib.hid (rheavy7_c (c := c1) (HY.out.1.below hb0 (Nat.le_refl _) (Nat.le_refl _)) HY.out.2.1 30 false HY.out.2.2)
  have HHc := Lib.hid (rheavy7_c (c := c2) (HZ.out.1.below hb0 (Nat.le_refl _) (Nat.le_refl _)) HZ.out.2.1 30 false HZ.out.2.2)
  have HB0 := Lib.hid hb0
  have HG := Lib.hid (grown_c (c := c) HK.out.1 HK.out.2 (HX.out.1.below hb0 (Nat.le_refl _) (Nat.le_refl _)) hb0.size (by omega))
  clear hb0
  go_wp2_with fail
  refine HHa.out.mono ?_
  rintro e w' ⟨rfl, rfl⟩
  clear HHa
  go_wp2_with fail
  refine HHb.out.mono ?_
  rintro e w' ⟨rfl, rfl⟩
  clear HHb
  go_wp2_with fail
  refine HHc.out.mono ?_
  rintro e w' ⟨rfl, rfl⟩
  clear HHc
  go_wp2_with fail
  refine HG.out.mono ?_
  rintro e w1 ⟨b, o, D, d, rfl, hd, -, hb1⟩
  have HD := Lib.hid hd
  have HB1 := Lib.hid (Below.andThen HB0.out hb1)
  clear hd hb1 HG HB0
  obtain ⟨N, hN⟩ : ∃ N, (Tr.entsO o).length = N := ⟨_, rfl⟩
  have HN := Lib.hid hN
  rw [hN]
  clear hN
  go_wp2_with fail
  go_loopw [12, 13, 14, 15, 16, 11] (fun x y vx vy i ok wr => ∃ (j b1 b2 : Nat) (o1 o2 : Option T) (D1 D2 : Option Addr) (e1 e2 : Nat), (j ≤ p.length ∨ j ≤ q.length) ∧ x = .pointer (some ⟨b1, 0, none⟩) ∧ y = .pointer (some ⟨b2, 0, none⟩) ∧ vx = .slice D1 (Tr.entsO o1).length e1 ∧ vy = .slice D2 (Tr.entsO o2).length e2 ∧ i = .int .i64 j ∧ ok = .bool true ∧
      Hand wr w.heap.size b1 k o1 D1 e1 (l.length + min j p.length) ∧ Hand wr w.heap.size b2 k o2 D2 e2 (l.length + min j q.length) ∧ Below w1.heap.size w1 wr) (fun _ _ _ _ i _ _ => max p.length q.length - (intOf i).toNat)
  case atStart => exact ⟨0, b, b, o, o, D, D, d, d, .inl (Nat.zero_le _), rfl, rfl, by rw [HN.out], by rw [HN.out], rfl, rfl, by simpa using HD.out, by simpa using HD.out, Below.refl _ _⟩
  case round =>
    obtain ⟨j, b1, b2, o1, o2, D1, D2, e1, e2, hj, rfl, rfl, rfl, rfl, rfl, rfl, ha, hb, hbr⟩ := hrel
    have hwr := Below.andThen HB1.out hbr
    have m1 : (0 : Int) ≤ (j : Int) := by omega
    have HA := Lib.hid ha
    have HBq := Lib.hid hb
    have HW := Lib.hid (And.intro hbr hwr)
    have HJ := Lib.hid hj
    clear ha hb hbr hj
    by_cases hp : j < p.length
    · have x1 : decide ((j : Int) < (p.length : Int)) = true := decide_eq_true (by omega)
      have m2 : (j : Int) < (p.length : Int) := by omega
      obtain ⟨a, haa⟩ := get_lt hp
      obtain ⟨gb, go, Ax, cx, hAA, hgb, y0, y1, y2, hpt, hm, hv⟩ := (HY.out.1.below hwr (Nat.le_refl _) (Nat.le_refl _)).at haa
      have HDn := Lib.hid (done_c (d := cx) HA.out (by omega) hpt hm hv)
      subst hAA
      clear hwr haa hpt hm hv
      by_cases hq : j < q.length
      · have x2 : decide ((j : Int) < (q.length : Int)) = true := decide_eq_true (by omega)
        have m3 : (j : Int) < (q.length : Int) := by omega
        go_wp2_with fail
        refine HDn.out.mono ?_
        rintro e w2 ⟨b3, o3, D3, e3, rfl, hh3, he3, -, hb3⟩
        have HA3 := Lib.hid hh3
        have HW3 := Lib.hid (And.intro (Below.andThen HW.out.1 hb3) (Below.andThen HW.out.2 hb3))
        have HBq := Lib.hid (HBq.out.below hb3)
        obtain ⟨a', ha'⟩ := get_lt hq
        obtain ⟨gb', go', Ax', cx', hAA', hgb', z0, z1, z2, hpt', hm', hv'⟩ := (HZ.out.1.below HW3.out.2 (Nat.le_refl _) (Nat.le_refl _)).at ha'
        have HDm := Lib.hid (done_c (d := cx') HBq.out (by omega) hpt' hm' hv')
        subst hAA'
        clear hh3 he3 hb3 y0 y1 y2 HDn ha' hpt' hm' hv' HA
        go_wp2_with fail
        refine HDm.out.mono ?_
        rintro e w3 ⟨b4, o4, D4, e4, rfl, hh4, he4, -, hb4⟩
        have HA4 := Lib.hid (And.intro (HA3.out.below hb4) (And.intro hh4 (Below.andThen HW3.out.1 hb4)))
        clear hh4 he4 hb4 z0 z1 z2 HDm HA3 HBq HW3 HW
        go_wp2_with fail
        go_roundw
        case rel => exact ⟨j + 1, b3, b4, o3, o4, D3, D4, e3, e4, .inl (by omega), rfl, rfl, rfl, rfl, by go_num, rfl, HA4.out.1.more (by omega) (by omega), HA4.out.2.1.more (by omega) (by omega), HA4.out.2.2⟩
        case measure => simp [intOf]; omega
      · have x2 : decide ((j : Int) < (q.length : Int)) = false := decide_eq_false (by omega)
        have m3 : (q.length : Int) ≤ (j : Int) := by omega
        go_wp2_with fail
        refine HDn.out.mono ?_
        rintro e w2 ⟨b3, o3, D3, e3, rfl, hh3, he3, -, hb3⟩
        have HA3 := Lib.hid (And.intro hh3 (And.intro (HBq.out.below hb3) (Below.andThen HW.out.1 hb3)))
        clear hh3 he3 hb3 y0 y1 y2 HDn HW HA HBq
        go_wp2_with fail
        go_roundw
        case rel => exact ⟨j + 1, b3, b2, o3, o2, D3, D2, e3, e2, .inl (by omega), rfl, rfl, rfl, rfl, by go_num, rfl, HA3.out.1.more (by omega) (by omega), HA3.out.2.1.more (by omega) (by omega), HA3.out.2.2⟩
        case measure => simp [intOf]; omega
    · have x1 : decide ((j : Int) < (p.length : Int)) = false := decide_eq_false (by omega)
      have m2 : (p.length : Int) ≤ (j : Int) := by omega
      by_cases hq : j < q.length
      · have x2 : decide ((j : Int) < (q.length : Int)) = true := decide_eq_true (by omega)
        have m3 : (j : Int) < (q.length : Int) := by omega
        obtain ⟨a', ha'⟩ := get_lt hq
        obtain ⟨gb', go', Ax', cx', hAA', hgb', z0, z1, z2, hpt', hm', hv'⟩ := (HZ.out.1.below hwr (Nat.le_refl _) (Nat.le_refl _)).at ha'
        have HDm := Lib.hid (done_c (d := cx') HBq.out (by omega) hpt' hm' hv')
        subst hAA'
        clear hwr ha' hpt' hm' hv'
        go_wp2_with fail
        refine HDm.out.mono ?_
        rintro e w3 ⟨b4, o4, D4, e4, rfl, hh4, he4, -, hb4⟩
        have HA4 := Lib.hid (And.intro (HA.out.below hb4) (And.intro hh4 (Below.andThen HW.out.1 hb4)))
        clear hh4 he4 hb4 z0 z1 z2 HDm HBq HW HA
        go_wp2_with fail
        go_roundw
        case rel => exact ⟨j + 1, b1, b4, o1, o4, D1, D4, e1, e4, .inr (by omega), rfl, rfl, rfl, rfl, by go_num, rfl, HA4.out.1.more (by omega) (by omega), HA4.out.2.1.more (by omega) (by omega), HA4.out.2.2⟩
        case measure => simp [intOf]; omega
      · have x2 : decide ((j : Int) < (q.length : Int)) = false := decide_eq_false (by omega)
        have m3 : (q.length : Int) ≤ (j : Int) := by omega
        have HI0 := is7_c (c := d) (HD.out.below HW.out.1).tree.1 (fun w' hb => (HX.out.2.2.2.on HW.out.2).on hb) ((HD.out.below HW.out.1).list.ents (HD.out.below HW.out.1).old (Nat.le_refl _)) HD.out.cap (by have := HD.out.few; have := HD.out.most; omega)
        rw [HN.out] at HI0
        have HI0 := Lib.hid HI0
        have hTr := Lib.hid (HX.out.2.2.2.on HW.out.2)
        clear hwr
        go_wp2_with fail
        refine HI0.out.mono ?_
        rintro e w2 ⟨rfl, hb2⟩
        have HA2 := Lib.hid (HA.out.below hb2)
        have HB2 := Lib.hid (HBq.out.below hb2)
        have HT2 := Lib.hid (hTr.out.on hb2)
        have HW2 := Lib.hid (Below.andThen HW.out.2 hb2)
        clear hb2 HI0 HA HBq
        go_wp2_with fail
        refine (is7_c (c := e1) HA2.out.tree.1 (fun w' hb => HT2.out.on hb) (HA2.out.list.ents HA2.out.old (Nat.le_refl _)) HA2.out.cap (by have := HA2.out.few; have := HA2.out.most; omega)).mono ?_
        rintro e w3 ⟨rfl, hb3⟩
        have HB3 := Lib.hid (HB2.out.below hb3)
        have HT3 := Lib.hid (HT2.out.on hb3)
        have HW3 := Lib.hid (Below.andThen HW2.out hb3)
        clear hb3 HA2 HB2
        go_wp2_with fail
        refine (is7_c (c := e2) HB3.out.tree.1 (fun w' hb => HT3.out.on hb) (HB3.out.list.ents HB3.out.old (Nat.le_refl _)) HB3.out.cap (by have := HB3.out.few; have := HB3.out.most; omega)).mono ?_
        rintro e w4 ⟨rfl, hb4⟩
        have HW4 := Lib.hid (Below.andThen HW3.out hb4)
        clear hb4 HB3
        go_wp2_with fail
        go_ret
        exact ⟨rfl, HW4.out⟩
/-- The law, at arguments laid open. -/
theorem treeKeeps_c {w : World} {A A1 A2 : Option Addr} {c c1 c2 : Nat} {l p q : List ActT} (k : Int) (hT : Tz w) (hA : ActsT w w.heap.size A l) (hl : l.length ≤ maxLen) (hA1 : ActsT w w.heap.size A1 p) (hl1 : p.length ≤ maxLen) (hA2 : ActsT w w.heap.size A2 q) (hl2 : q.length ≤ maxLen) :
    Calls Tryz.prog 5 #[.int .i64 k, .slice A l.length c, .slice A1 p.length c1, .slice A2 q.length c2] w fun e w' => e = .returned (.bool true) ∧ Below w.heap.size w w' := by
  by_cases hs : (heavyA 30 l || heavyA 30 p || heavyA 30 q || decide (k < 1) || decide (16 < k)) = true
  · exact treeKeeps_skip k hT hA hl hA1 hl1 hA2 hl2 _ _ _ _ _ rfl rfl rfl rfl rfl hs
  · simp only [Bool.or_eq_true, not_or, Bool.not_eq_true, decide_eq_false_iff_not] at hs
    obtain ⟨⟨⟨⟨hh, hh1⟩, hh2⟩, h1⟩, h16⟩ := hs
    obtain ⟨n, rfl⟩ : ∃ n : Nat, k = (n : Int) := ⟨k.toNat, by omega⟩
    exact treeKeeps_go n hT hA hl hA1 hl1 hA2 hl2 hh hh1 hh2 (by omega) (by omega)
end Go.Proofs.YtpgdoicamgfibaaGreatDoor
