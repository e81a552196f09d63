import Derived.Test.YtpgkfccfabnjdaaGreatDoorM9v
import Derived.Test.YtpgkfccfabnjdaaGreatDoorM9q
import Derived.Test.YtpgkfccfabnjdaaGreatDoorM35
import Derived.Test.YtpgkfccfabnjdaaGreatDoorM97
/-
  THE LAW EditDoes. Laid by wip/gen61.py.
-/
namespace Go.Proofs.YtpgkfccfabnjdaaGreatDoor
open Go.ChangeShapes Go.WideShapes Go.ChangeAt Go.RowKit
open Tr (T S4 Ent Chg Raw Pc)

theorem is7_at {w : World} {b k : Nat} {o : Option T} {A : Option Addr} {c n : Nat} {E : List Ent} (h : TreeX w b k o) (hT : ∀ w', Below w.heap.size w w' → Tz w') (hE : Tr.entsO o = E) (hL : Ents w w.heap.size A E) (hn : E.length = n) (hc : n ≤ c) (hl : n ≤ 1000000) :
    Calls Tryz.prog 16 #[.pointer (some ⟨b, 0, none⟩), .int .i64 (k : Int), .slice A n c] w fun e w' => e = .returned (.bool true) ∧ Below w.heap.size w w' := by
  subst hE hn
  exact is7_c h.1 hT hL hc hl
end Go.Proofs.YtpgkfccfabnjdaaGreatDoor

/-
  THE LAW EditDiffs. Laid by wip/gen62.py.
-/
namespace Go.Proofs.YtpgkfccfabnjdaaGreatDoor
open Go.ChangeShapes Go.WideShapes Go.ChangeAt Go.RowKit
open Tr (T S4 Ent Sd Fl Chg Raw Pc)

def DfSt (w W : World) (C b1 b2 k : Nat) (o1 o2 : Option T) (D1 D2 : Option Addr) (e1 e2 M1 M2 : Nat) : Prop := Hand W C b1 k o1 D1 e1 M1 ∧ Hand W C b2 k o2 D2 e2 M2 ∧ Below w.heap.size w W
theorem DfSt.below {w W W' : World} {C b1 b2 k : Nat} {o1 o2 : Option T} {D1 D2 : Option Addr} {e1 e2 M1 M2 : Nat} (h : DfSt w W C b1 b2 k o1 o2 D1 D2 e1 e2 M1 M2) (hb : Below W.heap.size W W') : DfSt w W' C b1 b2 k o1 o2 D1 D2 e1 e2 M1 M2 := ⟨h.1.below hb, h.2.1.below hb, Below.andThen h.2.2 hb⟩
theorem DfSt.tz {w W : World} {C b1 b2 k : Nat} {o1 o2 : Option T} {D1 D2 : Option Addr} {e1 e2 M1 M2 : Nat} (h : DfSt w W C b1 b2 k o1 o2 D1 D2 e1 e2 M1 M2) (hT : Tz w) : ∀ w', Below W.heap.size W w' → Tz w' := fun _ hb => (hT.on h.2.2).on hb
theorem dSame_eq {w : World} {b b' k : Nat} {x y : Option T} (hx : TreeX w b k x) (hy : TreeX w b' k y) (hT : ∀ w', Below w.heap.size w w' → Tz w') (he : Tr.entsO x = Tr.entsO y) :
    Calls Tryz.prog 34 #[.pointer (some ⟨b, 0, none⟩), .pointer (some ⟨b', 0, none⟩)] w fun e w' => e = .returned (.bool true) ∧ Below w.heap.size w w' := by
  have h0 : Tr.chO x y = [] := by
    show Tr.chL (Tr.entsO x) (Tr.entsO y) = []
    rw [he]
    exact Tr.chL_same _
  exact dSame_c hx hy hT (by rw [h0]; simp) (by rw [h0]; rfl)
set_option maxRecDepth 100000 in
set_option maxHeartbeats 2000000 in
theorem editDiffs_skip {w : World} {A A' : Option Addr} {c c' : Nat} {l m : List ActT} (k : Int) (hT : Tz w) (hA : ActsT w w.heap.size A l) (hA' : ActsT w w.heap.size A' m) (hl : l.length ≤ maxLen) (hl' : m.length ≤ maxLen) (r1 r2 b1 b2 : Bool) (hh : heavyA 30 l = r1) (hh' : heavyA 30 m = r2)
    (hb1 : decide (k < 1) = b1) (hb2 : decide (16 < k) = b2) (hor : (r1 || r2 || b1 || b2) = true) :
    Calls Tryz.prog 6 #[.int .i64 k, .slice A l.length c, .slice A' m.length c'] w fun e w' => e = .returned (.bool true) ∧ Below w.heap.size w w' := by
  have HX := Lib.hid (And.intro hA (And.intro hA' (And.intro hl (And.intro hl' (And.intro hh (And.intro hh' hT))))))
  clear hA hA' hl hl' hh hh' hT
  go_enter Tryz.func6, Tryz.ntmps6
  go_wp2_with fail
  refine (awake13_c w).mono ?_
  rintro e w1 ⟨rfl, hb1'⟩
  have HH := Lib.hid (rheavy7_c (c := c) (HX.out.1.below hb1' (Nat.le_refl _) (Nat.le_refl _)) HX.out.2.2.1 30 r1 HX.out.2.2.2.2.1)
  have HH' := Lib.hid (rheavy7_c (c := c') (HX.out.2.1.below hb1' (Nat.le_refl _) (Nat.le_refl _)) HX.out.2.2.2.1 30 r2 HX.out.2.2.2.2.2.1)
  have HB := Lib.hid hb1'
  clear hb1'
  go_wp2_with fail
  refine HH.out.mono ?_
  rintro e w' ⟨rfl, rfl⟩
  clear HH
  cases r1 with
  | true => (go_wp2_with fail); go_ret; exact ⟨rfl, HB.out⟩
  | false =>
    go_wp2_with fail
    refine HH'.out.mono ?_
    rintro e w' ⟨rfl, rfl⟩
    clear HH'
    cases r2 with
    | true => (go_wp2_with fail); go_ret; exact ⟨rfl, HB.out⟩
    | false =>
      cases b1 with
      | true => (go_wp2_with fail); go_ret; exact ⟨rfl, HB.out⟩
      | false =>
        cases b2 with
        | true => (go_wp2_with fail); go_ret; exact ⟨rfl, HB.out⟩
        | false => cases hor
set_option maxRecDepth 1000000 in
set_option maxHeartbeats 4000000 in
theorem editDiffs_go {w : World} {A A' : Option Addr} {c c' : Nat} {l m : List ActT} (k : Nat) (hT : Tz w) (hA : ActsT w w.heap.size A l) (hA' : ActsT w w.heap.size A' m) (hl : l.length ≤ maxLen) (hl' : m.length ≤ maxLen) (hh : heavyA 30 l = false) (hh' : heavyA 30 m = false) (h1 : 1 ≤ k) (h16 : k ≤ 16) :
    Calls Tryz.prog 6 #[.int .i64 (k : Int), .slice A l.length c, .slice A' m.length c'] w fun e w' => e = .returned (.bool true) ∧ Below w.heap.size w w' := by
  have hf := heavyA_few hh
  have hf' := heavyA_few hh'
  have HX := Lib.hid (And.intro hA (And.intro hA' (And.intro hl (And.intro hl' (And.intro hh (And.intro hh' hT))))))
  have HK := Lib.hid (And.intro hf (And.intro hf' (And.intro h1 h16)))
  have d1 : decide ((k : Int) < 1) = false := decide_eq_false (by omega)
  have d2 : decide ((16 : Int) < (k : Int)) = false := decide_eq_false (by omega)
  have d2' : decide (16 < k) = false := decide_eq_false (by omega)
  clear hA hA' hl hl' hh hh' hT hf hf' h1 h16
  go_enter Tryz.func6, Tryz.ntmps6
  go_wp2_with fail
  refine (awake13_c w).mono ?_
  rintro e w0 ⟨rfl, hb0⟩
  have HH := Lib.hid (rheavy7_c (c := c) (HX.out.1.below hb0 (Nat.le_refl _) (Nat.le_refl _)) HX.out.2.2.1 30 false HX.out.2.2.2.2.1)
  have HH' := Lib.hid (rheavy7_c (c := c') (HX.out.2.1.below hb0 (Nat.le_refl _) (Nat.le_refl _)) HX.out.2.2.2.1 30 false HX.out.2.2.2.2.2.1)
  have HB0 := Lib.hid hb0
  clear hb0
  go_wp2_with fail
  refine HH.out.mono ?_
  rintro e w' ⟨rfl, rfl⟩
  clear HH
  go_wp2_with fail
  refine HH'.out.mono ?_
  rintro e w' ⟨rfl, rfl⟩
  clear HH'
  go_wp2_with fail
  refine (two_c (c := c) (c' := c') HK.out.2.2.1 HK.out.2.2.2 (HX.out.1.below HB0.out (Nat.le_refl _) (Nat.le_refl _)) (HX.out.2.1.below HB0.out (Nat.le_refl _) (Nat.le_refl _)) HB0.out.size (by have := HK.out.1; omega) (by have := HK.out.2.1; omega) rfl rfl).mono ?_
  rintro e w3 ⟨t1, o1, D1, e1, t2, o2, D2, e2, rfl, hd1, hd2, hb3⟩
  have HD2 := Lib.hid (And.intro hd1 (And.intro hd2 (Below.andThen HB0.out hb3)))
  obtain ⟨N1, hN1⟩ : ∃ N, (Tr.entsO o1).length = N := ⟨_, rfl⟩
  obtain ⟨N2, hN2⟩ : ∃ N, (Tr.entsO o2).length = N := ⟨_, rfl⟩
  have HN1 := Lib.hid hN1
  have HN2 := Lib.hid hN2
  rw [hN1, hN2]
  clear hd1 hd2 hb3 hN1 hN2
  obtain ⟨zL, dL⟩ := entsO_zs (k := k) (o := o1) HD2.out.1.wf
  obtain ⟨zM, dM⟩ := entsO_zs (k := k) (o := o2) HD2.out.2.1.wf
  have hs1 : N1 ≤ 30 := by have h := HD2.out.1.few; rw [HN1.out] at h; have := HK.out.1; omega
  have hs2 : N2 ≤ 60 := by have h := HD2.out.2.1.few; rw [HN2.out] at h; have := HK.out.1; have := HK.out.2.1; omega
  have hfew := Tr.chL_len zL dL dM
  rw [HN1.out, HN2.out] at hfew
  obtain ⟨C, hC⟩ : ∃ C, Tr.chL (Tr.entsO o1) (Tr.entsO o2) = C := ⟨_, rfl⟩
  obtain ⟨n, hn⟩ : ∃ n, C.length = n := ⟨_, rfl⟩
  have hcl := Tr.CL.chL zL zM dL dM
  have hft := Tr.chL_fits zL zM dL dM
  have hdo := Tr.doL_chL zL zM dL dM
  have hun := Tr.undo_fits zL dL hcl hft
  rw [hdo] at hun
  rw [hC] at hcl hft hdo hun hfew
  rw [hn] at hfew
  have hsw : (C.map Tr.rawC).map Tr.swapR = (C.map Tr.swapC).map Tr.rawC := by rw [List.map_map, List.map_map]; rfl
  have hpl : ∀ r ∈ C.map Tr.rawC, r.1.length ≤ 1000000 := fun r hr => by
    obtain ⟨c, hc, rfl⟩ := List.mem_map.1 hr
    have := (hcl.each c hc).1
    show c.1.length ≤ _
    have := HK.out.2.2.2
    omega
  have HC := Lib.hid (And.intro hC (And.intro hn (And.intro hcl (And.intro hft (And.intro hdo (And.intro hun (And.intro hsw (And.intro hpl (And.intro hfew (And.intro hs1 hs2))))))))))
  have hn9 : (n : Int) ≤ 90 := by omega
  clear zL dL zM dM hC hn hcl hft hdo hun hsw hpl hfew hs1 hs2
  have HS3 := Lib.hid (show DfSt w w3 w.heap.size t1 t2 k o1 o2 D1 D2 e1 e2 l.length (l.length + m.length) from HD2.out)
  go_wp2_with fail
  refine (dChanges_c HS3.out.1.tree HS3.out.2.1.tree (HS3.out.tz HX.out.2.2.2.2.2.2) (C := C) HC.out.1 (by rw [HC.out.2.1]; omega) HC.out.2.1).mono ?_
  rintro e w4 ⟨X, x, rfl, hnew, hb4⟩
  have HS4 := Lib.hid (HS3.out.below hb4)
  have HX4 := Lib.hid hnew.chs.raw
  clear hnew hb4
  go_wp2_with fail
  refine (ed_do (c := x) (n := n) HS4.out.1.tree HX4.out HC.out.2.2.1 HC.out.2.1 (by have := HC.out; omega) (by rw [HN1.out]; have := HC.out; omega) HC.out.2.2.2.1).mono ?_
  rintro e w5 ⟨b5, o5, rfl, ht5, he5, -, -, hb5⟩
  have HS5 := Lib.hid (HS4.out.below hb5)
  have HX5 := Lib.hid (HX4.out.below hb5 (Nat.le_refl _) hb5.size)
  have HT5 := Lib.hid (And.intro ht5 (he5.trans HC.out.2.2.2.2.1))
  clear ht5 he5 hb5
  go_wp2_with fail
  refine (ed_undo (c := x) (n := n) HX5.out (by rw [List.length_map]; exact HC.out.2.1) (by have := HC.out; omega) HC.out.2.2.2.2.2.2.2.1).mono ?_
  rintro e w6 ⟨U, u, rfl, hu, hb6⟩
  rw [HC.out.2.2.2.2.2.2.1] at hu
  have HS6 := Lib.hid (HS5.out.below hb6)
  have HX6 := Lib.hid (HX5.out.below hb6 (Nat.le_refl _) hb6.size)
  have HT6 := Lib.hid (HT5.out.1.below hb6 (Nat.le_refl _))
  have HU6 := Lib.hid hu
  clear hu hb6
  go_wp2_with fail
  refine (ed_do (c := u) (n := n) HS6.out.2.1.tree HU6.out HC.out.2.2.1.swap (by rw [List.length_map]; exact HC.out.2.1) (by have := HC.out; omega) (by rw [HN2.out]; have := HC.out; omega) HC.out.2.2.2.2.2.1.1).mono ?_
  rintro e w7 ⟨b7, o7, rfl, ht7, he7, -, -, hb7⟩
  have HS7 := Lib.hid (HS6.out.below hb7)
  have HX7 := Lib.hid (HX6.out.below hb7 (Nat.le_refl _) hb7.size)
  have HT7 := Lib.hid (HT6.out.below hb7 (Nat.le_refl _))
  have HV7 := Lib.hid (And.intro ht7 (he7.trans HC.out.2.2.2.2.2.1.2))
  clear ht7 he7 hb7
  go_wp2_with fail
  refine (ed_right (k : Int) (c := x) (n := n) HX7.out (Nat.le_refl _) (by rw [List.length_map]; exact HC.out.2.1) (by have := HC.out; omega) (r := true) (by simpa using HC.out.2.2.1.right HK.out.2.2.1 HK.out.2.2.2)).mono ?_
  rintro e w8 ⟨rfl, hb8⟩
  have HS8 := Lib.hid (HS7.out.below hb8)
  have HT8 := Lib.hid (HT7.out.below hb8 (Nat.le_refl _))
  have HV8 := Lib.hid (HV7.out.1.below hb8 (Nat.le_refl _))
  clear hb8
  go_wp2_with fail
  refine (is7_at (k := k) (c := e2) HT8.out (HS8.out.tz HX.out.2.2.2.2.2.2) HT5.out.2 (HS8.out.2.1.list.ents HS8.out.2.1.old (Nat.le_refl _)) HN2.out (by have h := HS8.out.2.1.cap; rw [HN2.out] at h; exact h) (by have := HC.out; omega)).mono ?_
  rintro e w9 ⟨rfl, hb9⟩
  have HS9 := Lib.hid (HS8.out.below hb9)
  have HT9 := Lib.hid (HT8.out.below hb9 (Nat.le_refl _))
  have HV9 := Lib.hid (HV8.out.below hb9 (Nat.le_refl _))
  clear hb9
  go_wp2_with fail
  refine (is7_at (k := k) (c := e1) HV9.out (HS9.out.tz HX.out.2.2.2.2.2.2) HV7.out.2 (HS9.out.1.list.ents HS9.out.1.old (Nat.le_refl _)) HN1.out (by have h := HS9.out.1.cap; rw [HN1.out] at h; exact h) (by have := HC.out; omega)).mono ?_
  rintro e w10 ⟨rfl, hb10⟩
  have HS10 := Lib.hid (HS9.out.below hb10)
  have HT10 := Lib.hid (HT9.out.below hb10 (Nat.le_refl _))
  have HV10 := Lib.hid (HV9.out.below hb10 (Nat.le_refl _))
  clear hb10
  go_wp2_with fail
  refine (dSame_eq HT10.out HS10.out.2.1.tree (HS10.out.tz HX.out.2.2.2.2.2.2) HT5.out.2).mono ?_
  rintro e w11 ⟨rfl, hb11⟩
  have HS11 := Lib.hid (HS10.out.below hb11)
  have HV11 := Lib.hid (HV10.out.below hb11 (Nat.le_refl _))
  clear hb11
  go_wp2_with fail
  refine (dSame_eq HV11.out HS11.out.1.tree (HS11.out.tz HX.out.2.2.2.2.2.2) HV7.out.2).mono ?_
  rintro e w12 ⟨rfl, hb12⟩
  have HS12 := Lib.hid (HS11.out.below hb12)
  clear hb12
  go_wp2_with fail
  go_ret
  exact ⟨rfl, HS12.out.2.2⟩
theorem editDiffs_c {w : World} {A A' : Option Addr} {c c' : Nat} {l m : List ActT} (k : Int) (hT : Tz w) (hA : ActsT w w.heap.size A l) (hl : l.length ≤ maxLen) (hA' : ActsT w w.heap.size A' m) (hl' : m.length ≤ maxLen) :
    Calls Tryz.prog 6 #[.int .i64 k, .slice A l.length c, .slice A' m.length c'] w fun e w' => e = .returned (.bool true) ∧ Below w.heap.size w w' := by
  by_cases h : (heavyA 30 l || heavyA 30 m || decide (k < 1) || decide (16 < k)) = true
  · exact editDiffs_skip k hT hA hA' hl hl' _ _ _ _ rfl rfl rfl rfl h
  · simp only [Bool.or_eq_true, decide_eq_true_eq, not_or, Bool.not_eq_true] at h
    obtain ⟨⟨⟨h1, h2⟩, h3⟩, h4⟩ := h
    obtain ⟨a, rfl⟩ : ∃ a : Nat, k = (a : Int) := ⟨k.toNat, by omega⟩
    exact editDiffs_go a hT hA hA' hl hl' h1 h2 (by omega) (by omega)
end Go.Proofs.YtpgkfccfabnjdaaGreatDoor

/-
  THE LAW EditChains. Laid by wip/gen62.py.
-/
namespace Go.Proofs.YtpgkfccfabnjdaaGreatDoor
open Go.ChangeShapes Go.WideShapes Go.ChangeAt Go.RowKit
open Tr (T S4 Ent Sd Fl Chg Raw Pc)

theorem NewC.cap {base : Nat} {w : World} {A : Option Addr} {c : Nat} {L : List Chg} (h : NewC base w A c L) : L.length ≤ c := by
  obtain ⟨A', c', hv, hc, -⟩ := OwnL.rd (chG_ok _ _) (show OwnL 111 5 _ w base (.slice A L.length c) L from h)
  simp only [Value.slice.injEq] at hv
  rw [hv.2.2]
  exact hc
set_option maxRecDepth 100000 in
set_option maxHeartbeats 2000000 in
theorem editChains_skip {w : World} {A1 A2 A3 : Option Addr} {c1 c2 c3 : Nat} {l1 l2 l3 : List ActT} (k : Int) (hT : Tz w) (hA1 : ActsT w w.heap.size A1 l1) (hA2 : ActsT w w.heap.size A2 l2) (hA3 : ActsT w w.heap.size A3 l3) (hl1 : l1.length ≤ maxLen) (hl2 : l2.length ≤ maxLen) (hl3 : l3.length ≤ maxLen) (r1 r2 r3 b1 b2 : Bool) (hh1 : heavyA 20 l1 = r1) (hh2 : heavyA 20 l2 = r2) (hh3 : heavyA 20 l3 = r3)
    (hb1 : decide (k < 1) = b1) (hb2 : decide (16 < k) = b2) (hor : (r1 || r2 || r3 || b1 || b2) = true) :
    Calls Tryz.prog 7 #[.int .i64 k, .slice A1 l1.length c1, .slice A2 l2.length c2, .slice A3 l3.length c3] w fun e w' => e = .returned (.bool true) ∧ Below w.heap.size w w' := by
  have HA := Lib.hid (And.intro hA1 (And.intro hA2 (And.intro hA3 hT)))
  have HL := Lib.hid (And.intro hl1 (And.intro hl2 hl3))
  have HY := Lib.hid (And.intro hh1 (And.intro hh2 hh3))
  clear hA1 hA2 hA3 hl1 hl2 hl3 hh1 hh2 hh3 hT
  go_enter Tryz.func7, Tryz.ntmps7
  go_wp2_with fail
  refine (awake13_c w).mono ?_
  rintro e w1 ⟨rfl, hb⟩
  have G1 := Lib.hid (rheavy7_c (c := c1) (HA.out.1.below hb (Nat.le_refl _) (Nat.le_refl _)) HL.out.1 20 r1 HY.out.1)
  have G2 := Lib.hid (rheavy7_c (c := c2) (HA.out.2.1.below hb (Nat.le_refl _) (Nat.le_refl _)) HL.out.2.1 20 r2 HY.out.2.1)
  have G3 := Lib.hid (rheavy7_c (c := c3) (HA.out.2.2.1.below hb (Nat.le_refl _) (Nat.le_refl _)) HL.out.2.2 20 r3 HY.out.2.2)
  have HB := Lib.hid hb
  clear hb
  go_wp2_with fail
  refine G1.out.mono ?_
  rintro e w' ⟨rfl, rfl⟩
  clear G1
  cases r1 with
  | true => (go_wp2_with fail); go_ret; exact ⟨rfl, HB.out⟩
  | false =>
    go_wp2_with fail
    refine G2.out.mono ?_
    rintro e w' ⟨rfl, rfl⟩
    clear G2
    cases r2 with
    | true => (go_wp2_with fail); go_ret; exact ⟨rfl, HB.out⟩
    | false =>
      go_wp2_with fail
      refine G3.out.mono ?_
      rintro e w' ⟨rfl, rfl⟩
      clear G3
      cases r3 with
      | true => (go_wp2_with fail); go_ret; exact ⟨rfl, HB.out⟩
      | false =>
        cases b1 with
        | true => (go_wp2_with fail); go_ret; exact ⟨rfl, HB.out⟩
        | false =>
          cases b2 with
          | true => (go_wp2_with fail); go_ret; exact ⟨rfl, HB.out⟩
          | false => cases hor
set_option maxRecDepth 1000000 in
set_option maxHeartbeats 8000000 in
theorem editChains_go {w : World} {A1 A2 A3 : Option Addr} {c1 c2 c3 n1 n2 n3 : Nat} {l1 l2 l3 : List ActT} (k : Nat) (hT : Tz w) (hA1 : ActsT w w.heap.size A1 l1) (hA2 : ActsT w w.heap.size A2 l2) (hA3 : ActsT w w.heap.size A3 l3) (hl1 : l1.length ≤ maxLen) (hl2 : l2.length ≤ maxLen) (hl3 : l3.length ≤ maxLen) (hh1 : heavyA 20 l1 = false) (hh2 : heavyA 20 l2 = false) (hh3 : heavyA 20 l3 = false) (h1 : 1 ≤ k) (h16 : k ≤ 16) (e1 : l1.length = n1) (e2 : l2.length = n2) (e3 : l3.length = n3) :
    Calls Tryz.prog 7 #[.int .i64 (k : Int), .slice A1 n1 c1, .slice A2 n2 c2, .slice A3 n3 c3] w fun e w' => e = .returned (.bool true) ∧ Below w.heap.size w w' := by
  have hf1 := heavyA_few hh1
  have hf2 := heavyA_few hh2
  have hf3 := heavyA_few hh3
  have HA := Lib.hid (And.intro hA1 (And.intro hA2 (And.intro hA3 hT)))
  have HLn := Lib.hid (And.intro hl1 (And.intro hl2 (And.intro hl3 (And.intro e1 (And.intro e2 e3)))))
  have HY := Lib.hid (And.intro hh1 (And.intro hh2 hh3))
  have HK := Lib.hid (And.intro h1 (And.intro h16 (And.intro hf1 (And.intro hf2 hf3))))
  have d1 : decide ((k : Int) < 1) = false := decide_eq_false (by omega)
  have d2 : decide ((16 : Int) < (k : Int)) = false := decide_eq_false (by omega)
  have d2' : decide (16 < k) = false := decide_eq_false (by omega)
  have hn3 : (n3 : Int) ≤ 20 := by omega
  clear hA1 hA2 hA3 hl1 hl2 hl3 hh1 hh2 hh3 hT h1 h16 hf1 hf2 hf3
  go_enter Tryz.func7, Tryz.ntmps7
  go_wp2_with fail
  refine (awake13_c w).mono ?_
  rintro e w0 ⟨rfl, hb⟩
  have G1 := rheavy7_c (c := c1) (HA.out.1.below hb (Nat.le_refl _) (Nat.le_refl _)) HLn.out.1 20 false HY.out.1
  have G2 := rheavy7_c (c := c2) (HA.out.2.1.below hb (Nat.le_refl _) (Nat.le_refl _)) HLn.out.2.1 20 false HY.out.2.1
  have G3 := rheavy7_c (c := c3) (HA.out.2.2.1.below hb (Nat.le_refl _) (Nat.le_refl _)) HLn.out.2.2.1 20 false HY.out.2.2
  rw [e1] at G1
  rw [e2] at G2
  rw [e3] at G3
  have G1 := Lib.hid G1
  have G2 := Lib.hid G2
  have G3 := Lib.hid G3
  have HB0 := Lib.hid hb
  clear hb e1 e2 e3
  go_wp2_with fail
  refine G1.out.mono ?_
  rintro e w' ⟨rfl, rfl⟩
  clear G1
  go_wp2_with fail
  refine G2.out.mono ?_
  rintro e w' ⟨rfl, rfl⟩
  clear G2
  go_wp2_with fail
  refine G3.out.mono ?_
  rintro e w' ⟨rfl, rfl⟩
  clear G3
  go_wp2_with fail
  refine (two_c (c := c1) (c' := c2) HK.out.1 HK.out.2.1 (HA.out.1.below HB0.out (Nat.le_refl _) (Nat.le_refl _)) (HA.out.2.1.below HB0.out (Nat.le_refl _) (Nat.le_refl _)) HB0.out.size (by have := HK.out.2.2.1; omega) (by have := HK.out.2.2.2.1; omega) HLn.out.2.2.2.1 HLn.out.2.2.2.2.1).mono ?_
  rintro e w3 ⟨t1, o1, D1, e1, t2, o2, D2, e2, rfl, hd1, hd2, hb3⟩
  have H3 := Lib.hid (And.intro hd1 (And.intro hd2 (Below.andThen HB0.out hb3)))
  obtain ⟨N1, hN1⟩ : ∃ N, (Tr.entsO o1).length = N := ⟨_, rfl⟩
  have HN1 := Lib.hid hN1
  obtain ⟨N2, hN2⟩ : ∃ N, (Tr.entsO o2).length = N := ⟨_, rfl⟩
  have HN2 := Lib.hid hN2
  rw [hN1, hN2]
  clear hd1 hd2 hb3 hN1 hN2
  go_wp2_with fail
  go_loopw [12, 13, 14, 15] (fun v ok t i wr => ∃ (j b' : Nat) (o' : Option T) (D' : Option Addr) (d' : Nat), v = .slice D' (Tr.entsO o').length d' ∧ ok = .bool true ∧ t = .pointer (some ⟨b', 0, none⟩) ∧ i = .int .i64 (j : Int) ∧ j ≤ n3 ∧ Hand wr w.heap.size b' k o' D' d' (n1 + n2 + j) ∧ Below w3.heap.size w3 wr) (fun _ _ _ i _ => n3 - (intOf i).toNat)
  case atStart => exact ⟨0, t2, o2, D2, e2, by rw [HN2.out], rfl, rfl, rfl, Nat.zero_le _, H3.out.2.1, Below.refl _ _⟩
  case round =>
    obtain ⟨j, t3, o3, D3, e3, rfl, rfl, rfl, rfl, hj, hh, hbr⟩ := hrel
    by_cases hlt : j < n3
    · obtain ⟨a, ha⟩ := get_lt (us := l3) (k := j) (by rw [HLn.out.2.2.2.2.2]; exact hlt)
      have hbw := Below.andThen H3.out.2.2 hbr
      obtain ⟨gb, go, A5, c5, hAA, hgb, x0, x1, x2, hp, hpm, hv⟩ := (HA.out.2.2.1.below hbw (Nat.le_refl _) (Nat.le_refl _)).at ha
      have HD := Lib.hid (done_c (d := c5) hh (by have := HK.out; have := HLn.out; omega) hp hpm hv)
      have HY2 := Lib.hid (And.intro hbr hlt)
      subst hAA
      have f1 : decide ((j : Int) < (n3 : Int)) = true := decide_eq_true (by omega)
      have f1' : decide (j < n3) = true := decide_eq_true hlt
      have m1 : (0 : Int) ≤ (j : Int) := by omega
      have m2 : (j : Int) < (n3 : Int) := by omega
      clear hh hbr ha hp hpm hv hbw hlt hj
      go_wp2_with (go_at_call 35; refine HD.out.mono ?_; rintro e w2 ⟨b2, o4, D4, d4, rfl, hh2, -, -, hb2⟩)
      go_roundw
      case rel =>
        exact ⟨j + 1, b2, o4, D4, d4, rfl, rfl, rfl, by first | rfl | go_num, by have := HY2.out.2; omega, hh2, Below.andThen HY2.out.1 hb2⟩
      case measure =>
        have := HY2.out.2
        show n3 - ((j : Int) + 1).toNat < n3 - (j : Int).toNat
        omega
    · have hjn : n3 = j := by omega
      subst hjn
      have f1 : decide ((n3 : Int) < (n3 : Int)) = false := decide_eq_false (by omega)
      have f1' : decide (n3 < n3) = false := decide_eq_false (by omega)
      obtain ⟨N3, hN3⟩ : ∃ N, (Tr.entsO o3).length = N := ⟨_, rfl⟩
      have HN3 := Lib.hid hN3
      rw [hN3]
      have H4 := Lib.hid (And.intro (H3.out.1.below hbr) (And.intro (H3.out.2.1.below hbr) (And.intro hh (Below.andThen H3.out.2.2 hbr))))
      clear hh hbr hlt hj hN3 H3
      generalize wr = w4 at *
      have HTz : Hid (∀ w', Below w4.heap.size w4 w' → Tz w') := Lib.hid fun w' hb => (HA.out.2.2.2.on H4.out.2.2.2).on hb
      obtain ⟨zL, dL⟩ := entsO_zs (k := k) (o := o1) H4.out.1.wf
      obtain ⟨zM, dM⟩ := entsO_zs (k := k) (o := o2) H4.out.2.1.wf
      obtain ⟨zN, dN⟩ := entsO_zs (k := k) (o := o3) H4.out.2.2.1.wf
      have hs1 : N1 ≤ 20 := by have h := H4.out.1.few; rw [HN1.out] at h; have := HK.out; have := HLn.out; omega
      have hs2 : N2 ≤ 40 := by have h := H4.out.2.1.few; rw [HN2.out] at h; have := HK.out; have := HLn.out; omega
      have hs3 : N3 ≤ 60 := by have h := H4.out.2.2.1.few; rw [HN3.out] at h; have := HK.out; have := HLn.out; omega
      have q1 := Tr.chL_len zL dL dN
      have q2 := Tr.chL_len zL dL dM
      have q3 := Tr.chL_len zM dM dN
      rw [HN1.out, HN3.out] at q1
      rw [HN1.out, HN2.out] at q2
      rw [HN2.out, HN3.out] at q3
      have ht := Tr.thn_chL zL zM zN dL dM dN
      have hfi := Tr.thn_fit zL zM zN dL dM dN
      have hc2 := Tr.CL.chL zL zM dL dM
      have hc3 := Tr.CL.chL zM zN dM dN
      obtain ⟨C1, hC1⟩ : ∃ C, Tr.chL (Tr.entsO o1) (Tr.entsO o3) = C := ⟨_, rfl⟩
      obtain ⟨C2, hC2⟩ : ∃ C, Tr.chL (Tr.entsO o1) (Tr.entsO o2) = C := ⟨_, rfl⟩
      obtain ⟨C3, hC3⟩ : ∃ C, Tr.chL (Tr.entsO o2) (Tr.entsO o3) = C := ⟨_, rfl⟩
      obtain ⟨x2, hx2⟩ : ∃ n, C1.length = n := ⟨_, rfl⟩
      obtain ⟨y2, hy2⟩ : ∃ n, C2.length = n := ⟨_, rfl⟩
      obtain ⟨z2, hz2⟩ : ∃ n, C3.length = n := ⟨_, rfl⟩
      rw [hC1, hC2, hC3] at ht
      rw [hC2, hC3] at hfi
      rw [hC2] at hc2
      rw [hC3] at hc3
      rw [hC1, hx2] at q1
      rw [hC2, hy2] at q2
      rw [hC3, hz2] at q3
      have nx : (x2 : Int) ≤ 200 := by omega
      have HQ := Lib.hid (show x2 ≤ 200 ∧ y2 ≤ 200 ∧ z2 ≤ 200 by omega)
      have HC := Lib.hid (And.intro hC1 (And.intro hC2 (And.intro hC3 (And.intro hx2 (And.intro hy2 (And.intro hz2 (And.intro ht (And.intro hfi (And.intro hc2 hc3)))))))))
      clear dL zL dM zM dN zN hs1 hs2 hs3 q1 q2 q3 hC1 hC2 hC3 hx2 hy2 hz2 ht hfi hc2 hc3
      go_wp2_with fail
      refine (dChanges_c H4.out.1.tree H4.out.2.1.tree HTz.out (C := C2) HC.out.2.1 (by rw [HC.out.2.2.2.2.1]; have := HQ.out; omega) HC.out.2.2.2.2.1).mono ?_
      rintro e w5 ⟨X, x, rfl, hnew, hb5⟩
      have H5 := Lib.hid (And.intro (H4.out.1.below hb5) (And.intro (H4.out.2.1.below hb5) (And.intro (H4.out.2.2.1.below hb5) (And.intro (Below.andThen H4.out.2.2.2 hb5) (And.intro hnew.chs.raw (And.intro hnew.cap hb5))))))
      clear hb5 hnew H4
      go_wp2_with fail
      refine (dChanges_c H5.out.2.1.tree H5.out.2.2.1.tree (fun w' hb => HTz.out w' (H5.out.2.2.2.2.2.2.trans (hb.mono H5.out.2.2.2.2.2.2.size))) (C := C3) HC.out.2.2.1 (by rw [HC.out.2.2.2.2.2.1]; have := HQ.out; omega) HC.out.2.2.2.2.2.1).mono ?_
      rintro e w6 ⟨Y, y, rfl, hnew, hb6⟩
      have H6 := Lib.hid (And.intro (H5.out.1.below hb6) (And.intro (H5.out.2.2.1.below hb6) (And.intro (Below.andThen H5.out.2.2.2.1 hb6) (And.intro (H5.out.2.2.2.2.1.below hb6 (Nat.le_refl _) hb6.size) (And.intro H5.out.2.2.2.2.2.1 (And.intro hnew.chs.raw (And.intro hnew.cap (Below.andThen H5.out.2.2.2.2.2.2 hb6))))))))
      clear hb6 hnew H5
      go_wp2_with fail
      refine (dChanges_c H6.out.1.tree H6.out.2.1.tree (fun w' hb => HTz.out w' (H6.out.2.2.2.2.2.2.2.trans (hb.mono H6.out.2.2.2.2.2.2.2.size))) (C := C1) HC.out.1 (by rw [HC.out.2.2.2.1]; have := HQ.out; omega) HC.out.2.2.2.1).mono ?_
      rintro e w7 ⟨Z, z, rfl, hnew, hb7⟩
      have H7 := Lib.hid (And.intro (Below.andThen H6.out.2.2.1 hb7) (And.intro (H6.out.2.2.2.1.below hb7 (Nat.le_refl _) hb7.size) (And.intro H6.out.2.2.2.2.1 (And.intro (H6.out.2.2.2.2.2.1.below hb7 (Nat.le_refl _) hb7.size) (And.intro H6.out.2.2.2.2.2.2.1 hnew.chs.raw)))))
      clear hb7 hnew H6
      have hT := ed_then (w := w7) HK.out.1 HK.out.2.1 (c := x) (c' := y) (n := y2) (n' := z2) H7.out.2.1 H7.out.2.2.2.1 HC.out.2.2.2.2.2.2.2.2.1 HC.out.2.2.2.2.2.2.2.2.2 HC.out.2.2.2.2.1 HC.out.2.2.2.2.2.1 (by rw [← HC.out.2.2.2.2.1]; exact H7.out.2.2.1) (by rw [← HC.out.2.2.2.2.2.1]; exact H7.out.2.2.2.2.1) (by have := HQ.out; omega) (by have := HQ.out; omega) HC.out.2.2.2.2.2.2.2.1
      rw [HC.out.2.2.2.2.2.2.1, HC.out.2.2.2.1] at hT
      have HT := Lib.hid hT
      clear hT
      go_wp2_with fail
      refine HT.out.mono ?_
      rintro e w8 ⟨D8, d8, rfl, hr8, -, hb8⟩
      have H8 := Lib.hid (And.intro (Below.andThen H7.out.1 hb8) (And.intro hr8 (H7.out.2.2.2.2.2.below hb8 (Nat.le_refl _) hb8.size)))
      clear hr8 hb8 HT H7
      go_wp2_with fail
      refine (rsameR_c (c := d8) (c' := z) (n := x2) H8.out.2.1 H8.out.2.2 (by rw [List.length_map]; exact HC.out.2.2.2.1) (by have := HQ.out; omega)).mono ?_
      rintro e w9 ⟨rfl, hb9⟩
      have H9 := Lib.hid (Below.andThen H8.out.1 hb9)
      clear hb9
      go_wp2_with fail
      go_ret
      exact ⟨rfl, H9.out⟩
theorem editChains_c {w : World} {A1 A2 A3 : Option Addr} {c1 c2 c3 : Nat} {l1 l2 l3 : List ActT} (k : Int) (hT : Tz w) (hA1 : ActsT w w.heap.size A1 l1) (hl1 : l1.length ≤ maxLen) (hA2 : ActsT w w.heap.size A2 l2) (hl2 : l2.length ≤ maxLen) (hA3 : ActsT w w.heap.size A3 l3) (hl3 : l3.length ≤ maxLen) :
    Calls Tryz.prog 7 #[.int .i64 k, .slice A1 l1.length c1, .slice A2 l2.length c2, .slice A3 l3.length c3] w fun e w' => e = .returned (.bool true) ∧ Below w.heap.size w w' := by
  by_cases h : (heavyA 20 l1 || heavyA 20 l2 || heavyA 20 l3 || decide (k < 1) || decide (16 < k)) = true
  · exact editChains_skip k hT hA1 hA2 hA3 hl1 hl2 hl3 _ _ _ _ _ rfl rfl rfl rfl rfl h
  · simp only [Bool.or_eq_true, decide_eq_true_eq, not_or, Bool.not_eq_true] at h
    obtain ⟨⟨⟨⟨h1, h2⟩, h3⟩, h4⟩, h5⟩ := h
    obtain ⟨a, rfl⟩ : ∃ a : Nat, k = (a : Int) := ⟨k.toNat, by omega⟩
    exact editChains_go a hT hA1 hA2 hA3 hl1 hl2 hl3 h1 h2 h3 (by omega) (by omega) rfl rfl rfl
end Go.Proofs.YtpgkfccfabnjdaaGreatDoor
