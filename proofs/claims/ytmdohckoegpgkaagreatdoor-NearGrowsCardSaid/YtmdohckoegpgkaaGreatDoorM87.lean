import Derived.Test.YtmdohckoegpgkaaGreatDoorM86
import Derived.Test.YtmdohckoegpgkaaGreatDoorM27
import Derived.Test.YtmdohckoegpgkaaGreatDoorM18
import Derived.Test.YtmdohckoegpgkaaGreatDoorM33
import Derived.Test.YtmdohckoegpgkaaGreatDoorM69
/-
  NEAR: awake of law 11; the law NearNil.
-/
namespace Go.Proofs.YtmdohckoegpgkaaGreatDoor
open Go.ChangeShapes Go.WideShapes Go.ChangeAt Go.RowKit
open Tr (T S4 Ent)

def near11 : List Ent := [([7, 3], 1), ([4, 0], 3), ([0, 8], 2)]
theorem near11_eq : (Nr.nearL [5, 5] exL).take (Int.toNat 3) = near11 := by decide +kernel
set_option maxRecDepth 100000 in
set_option maxHeartbeats 1000000 in
theorem awake11_c (w : World) (hT : Tz w) : Calls Tryz.prog 23 #[] w fun e w' => e = .returned (.bool true) ∧ Below w.heap.size w w' := by
  have HT := Lib.hid hT
  clear hT
  go_enter Tryz.func23, Tryz.ntmps23
  go_wp2_with fail
  refine (tNew_c 2 w (by decide) (by decide)).mono ?_
  rintro e w1 ⟨rfl, ht1, hb1⟩
  have T1 := Lib.hid ht1
  have B1 := Lib.hid hb1
  clear ht1 hb1
  go_wp2_with fail
  refine (tPut_new (T1.out.below (below_alloc w1 _) (Nat.le_refl _)) (pts_two w1 7 3 (by decide) (by decide)) rfl (c := 2) 1 (by decide) (by simp [Tr.entsO]) (by decide +kernel)).mono ?_
  rintro e w2 ⟨n2, t2, rfl, ht2, he2, hb2⟩
  have T2 := Lib.hid ht2
  have E2 := Lib.hid he2
  have B2 := Lib.hid (Below.andThen B1.out (Below.andThen (below_alloc w1 _) hb2))
  clear ht2 he2 hb2 T1
  go_wp2_with fail
  refine (tPut_new (T2.out.below (below_alloc w2 _) (Nat.le_refl _)) (pts_two w2 0 8 (by decide) (by decide)) rfl (c := 2) 2 (by decide) (by rw [show Tr.entsO (some t2) = t2.ents from rfl, E2.out]; decide +kernel) (by rw [show Tr.entsO (some t2) = t2.ents from rfl, E2.out]; decide +kernel)).mono ?_
  rintro e w3 ⟨n3, t3, rfl, ht3, he3, hb3⟩
  have T3 := Lib.hid ht3
  have E3 := Lib.hid (he3.trans (by rw [show Tr.entsO (some t2) = t2.ents from rfl, E2.out]))
  have B3 := Lib.hid (Below.andThen B2.out (Below.andThen (below_alloc w2 _) hb3))
  clear ht3 he3 hb3 T2
  go_wp2_with fail
  refine (tPut_new (T3.out.below (below_alloc w3 _) (Nat.le_refl _)) (pts_two w3 4 0 (by decide) (by decide)) rfl (c := 2) 3 (by decide) (by rw [show Tr.entsO (some t3) = t3.ents from rfl, E3.out]; decide +kernel) (by rw [show Tr.entsO (some t3) = t3.ents from rfl, E3.out]; decide +kernel)).mono ?_
  rintro e w4 ⟨n4, t4, rfl, ht4, he4, hb4⟩
  have T4 := Lib.hid ht4
  have E4 : Hid (Tr.entsO (some t4) = exL) := Lib.hid (by rw [show Tr.entsO (some t4) = t4.ents from rfl, he4, show Tr.entsO (some t3) = t3.ents from rfl, E3.out]; exact exL_put)
  have B4 := Lib.hid (Below.andThen B3.out (Below.andThen (below_alloc w3 _) hb4))
  clear ht4 he4 hb4 T3
  go_wp2_with fail
  refine (nTo_c (c := 2) (T4.out.below (below_alloc w4 _) (Nat.le_refl _)) (fun w' hb => ((HT.out.on B4.out).on (below_alloc w4 _)).on hb) (by rw [E4.out]; decide) (pts_two w4 5 5 (by decide) (by decide)) rfl 3 (by decide) (L := near11) (by rw [E4.out]; exact near11_eq)).mono ?_
  rintro e w5 ⟨D, d, rfl, hnew, hb5⟩
  have B5 := Lib.hid (Below.andThen B4.out (Below.andThen (below_alloc w4 _) hb5))
  have hents := hnew.ents
  obtain ⟨gb, go, A0, c0, hD, -, -, v0, -, -, -⟩ := hents.at (i := 0) (e := ([7, 3], 1)) rfl
  obtain ⟨gb', go', A1, c1, hD', -, -, v1, -, -, -⟩ := hents.at (i := 1) (e := ([4, 0], 3)) rfl
  rw [hD] at hD'
  cases hD'
  obtain ⟨gb', go', A2, c2, hD', -, -, v2, -, -, -⟩ := hents.at (i := 2) (e := ([0, 8], 2)) rfl
  rw [hD] at hD'
  cases hD'
  subst hD
  simp only [Nat.zero_mul, Nat.add_zero, Nat.one_mul] at v0 v1 v2
  have hlen : near11.length = 3 := rfl
  clear hnew hents hb5
  simp only [hlen]
  go_wp2_with fail
  go_ret
  exact ⟨rfl, B5.out⟩
end Go.Proofs.YtmdohckoegpgkaaGreatDoor

/-
  THE LAW NearGrows.
-/
namespace Go.Proofs.YtmdohckoegpgkaaGreatDoor
open Go.ChangeShapes Go.WideShapes Go.ChangeAt Go.RowKit
open Tr (T S4 Ent)

theorem same_n {w : World} {L : List Ent} {A A' : Option Addr} {c c' n : Nat} (h : Ents w w.heap.size A L) (h' : Ents w w.heap.size A' L) (hn : L.length = n) (hl : n ≤ 1000000000) :
    Calls Tryz.prog 27 #[.slice A n c, .slice A' n c'] w fun e w' => e = .returned (.bool true) ∧ Below w.heap.size w w' := by
  subst hn
  exact rsameEnts_c h h' hl
theorem NewR.cap {base : Nat} {w : World} {A : Option Addr} {c : Nat} {L : List Ent} (h : NewR base w A c L) : L.length ≤ c := by
  obtain ⟨A', c', hv, hc⟩ := OwnL.slice h
  simp only [Value.slice.injEq] at hv
  obtain ⟨-, -, rfl⟩ := hv
  exact hc
/-- the first of a list -/
theorem ents_hi (A : Option Addr) (m c i : Nat) (hin : i ≤ m) (hnc : m ≤ c) : ∃ A', (∀ w, (Instr.sliceAt 30 (.slice A m c) none (some (.int .i64 (i : Int))) none).run Tryz.prog w = .ok (.slice A' i c) w) ∧ ∀ (w : World) (L : List Ent), L.length = m → Ents w w.heap.size A L → Ents w w.heap.size A' (L.take i) := by
  obtain ⟨A', h1, -⟩ := lst_hi (α := Ent) (Q := fun _ _ => True) 30 47 Tryz.underlying30 infoE2 A m c i hin hnc
  refine ⟨A', h1, fun w L hL hE => ?_⟩
  obtain ⟨A2, h2, h3⟩ := lst_hi (α := Ent) (Q := EntQ w w.heap.size) 30 47 Tryz.underlying30 infoE2 A m c i hin hnc
  have he := (h1 w).symm.trans (h2 w)
  simp only [Result.ok.injEq, Value.slice.injEq, and_true] at he
  rw [he]
  exact h3 w w.heap.size L hL hE
set_option maxRecDepth 100000 in
theorem nearGrows_skip {w : World} {A Ap : Option Addr} {c np cp : Nat} {l : List ActT} (k n : Int) (hT : Tz w) (hA : ActsT w w.heap.size A l) (hl : l.length ≤ maxLen) (r1 b1 b2 b3 b4 b5 : Bool) (hh : heavyA 30 l = r1)
    (hb1 : decide (k < 1) = b1) (hb2 : decide (16 < k) = b2) (hb3 : ((np : Int) != k) = b3) (hb4 : decide (n < 0) = b4) (hb5 : decide (100 < n) = b5) (hor : (r1 || b1 || b2 || b3 || b4 || b5) = true) :
    Calls Tryz.prog 8 #[.int .i64 k, .slice A l.length c, .slice Ap np cp, .int .i64 n] w fun e w' => e = .returned (.bool true) ∧ Below w.heap.size w w' := by
  have HX := Lib.hid (And.intro hA (And.intro hl (And.intro hh hT)))
  clear hA hl hh hT
  go_enter Tryz.func8, Tryz.ntmps8
  go_wp2_with fail
  refine (awake11_c w HX.out.2.2.2).mono ?_
  rintro e w1 ⟨rfl, hb1'⟩
  have HH := Lib.hid (rheavy7_c (c := c) (HX.out.1.below hb1' (Nat.le_refl _) (Nat.le_refl _)) HX.out.2.1 30 r1 HX.out.2.2.1)
  have HB := Lib.hid hb1'
  clear hb1'
  go_wp2_with fail
  refine HH.out.mono ?_
  rintro e w' ⟨rfl, rfl⟩
  clear HH
  cases r1 with
  | true => (go_wp2_with fail); go_ret; exact ⟨rfl, HB.out⟩
  | false =>
    cases b1 with
    | true => (go_wp2_with fail); go_ret; exact ⟨rfl, HB.out⟩
    | false =>
      cases b2 with
      | true => (go_wp2_with fail); go_ret; exact ⟨rfl, HB.out⟩
      | false =>
        cases b3 with
        | true => (go_wp2_with fail); go_ret; exact ⟨rfl, HB.out⟩
        | false =>
          cases b4 with
          | true => (go_wp2_with fail); go_ret; exact ⟨rfl, HB.out⟩
          | false =>
            cases b5 with
            | true => (go_wp2_with fail); go_ret; exact ⟨rfl, HB.out⟩
            | false => cases hor
set_option maxRecDepth 1000000 in
set_option maxHeartbeats 4000000 in
theorem nearGrows_go {w : World} {A Ap : Option Addr} {c np cp : Nat} {l : List ActT} {p : List Nat} (k n : Nat) (hT : Tz w) (hA : ActsT w w.heap.size A l) (hl : l.length ≤ maxLen) (hh : heavyA 30 l = false) (h1 : 1 ≤ k) (h16 : k ≤ 16) (hp : Pts w w.heap.size Ap p) (hnp : p.length = np) (hpk : np = k) (hn : n ≤ 100) :
    Calls Tryz.prog 8 #[.int .i64 (k : Int), .slice A l.length c, .slice Ap np cp, .int .i64 (n : Int)] w fun e w' => e = .returned (.bool true) ∧ Below w.heap.size w w' := by
  subst hpk
  have hfew := heavyA_few hh
  have HX := Lib.hid (And.intro hA (And.intro hl (And.intro hh (And.intro hT (And.intro hp hnp)))))
  have HK := Lib.hid (And.intro h1 (And.intro h16 (And.intro hfew hn)))
  have d1 : decide ((np : Int) < 1) = false := decide_eq_false (by omega)
  have d2 : decide ((16 : Int) < (np : Int)) = false := decide_eq_false (by omega)
  have d2' : decide (16 < np) = false := decide_eq_false (by omega)
  have d3 : ((np : Int) != (np : Int)) = false := by simp
  have d4 : decide ((n : Int) < 0) = false := decide_eq_false (by omega)
  have d5 : decide ((100 : Int) < (n : Int)) = false := decide_eq_false (by omega)
  have d5' : decide (100 < n) = false := decide_eq_false (by omega)
  have hn100 : (n : Int) ≤ 100 := by omega
  clear hA hl hh hT h1 h16 hfew hp hnp hn
  go_enter Tryz.func8, Tryz.ntmps8
  go_wp2_with fail
  refine (awake11_c w HX.out.2.2.2.1).mono ?_
  rintro e w0 ⟨rfl, hb0⟩
  have HH := Lib.hid (rheavy7_c (c := c) (HX.out.1.below hb0 (Nat.le_refl _) (Nat.le_refl _)) HX.out.2.1 30 false HX.out.2.2.1)
  have HG := Lib.hid (grown_c (c := c) HK.out.1 HK.out.2.1 (HX.out.1.below hb0 (Nat.le_refl _) (Nat.le_refl _)) hb0.size (by have := HK.out.2.2.1; omega))
  have HB0 := Lib.hid hb0
  clear hb0
  go_wp2_with fail
  refine HH.out.mono ?_
  rintro e w' ⟨rfl, rfl⟩
  clear HH
  go_wp2_with fail
  refine HG.out.mono ?_
  rintro e w2 ⟨tb, o, D2, e2, rfl, hd2, -, hb2⟩
  have HB2 := Lib.hid (Below.andThen HB0.out hb2)
  have HD := Lib.hid hd2
  have hlE : (Tr.entsO o).length ≤ 30 := by have := hd2.few; have := HK.out.2.2.1; omega
  have HT2 : Hid (∀ w', Below w2.heap.size w2 w' → Tz w') := Lib.hid fun w' hb => (HX.out.2.2.2.1.on HB2.out).on hb
  obtain ⟨hdm, hzs⟩ := tree_dz hd2.tree
  have hspec := Nr.nearL_ns HX.out.2.2.2.2.2 hzs hdm
  have hp2 : Pts w2 w2.heap.size Ap p := (HX.out.2.2.2.2.1.below' HB2.out (Nat.le_refl _)).keep HB2.out.size (fun _ _ => rfl)
  have htop := filter_top hp2.1 HX.out.2.2.2.2.2 hdm hzs
  obtain ⟨NL, hNL⟩ : ∃ NL, Nr.nearL p (Tr.entsO o) = NL := ⟨_, rfl⟩
  obtain ⟨N, hN⟩ : ∃ N, (Tr.entsO o).length = N := ⟨_, rfl⟩
  have hNLl : NL.length = N := by rw [← hNL, hspec.2.2, hN]
  obtain ⟨La, hLa⟩ : ∃ La, NL.take n = La := ⟨_, rfl⟩
  obtain ⟨Lb, hLb⟩ : ∃ Lb, NL.take (n + 1) = Lb := ⟨_, rfl⟩
  obtain ⟨la, hla⟩ : ∃ la, La.length = la := ⟨_, rfl⟩
  obtain ⟨lb, hlb⟩ : ∃ lb, Lb.length = lb := ⟨_, rfl⟩
  have hla' : la = min n N := by rw [← hla, ← hLa, List.length_take, hNLl]
  have hlb' : lb = min (n + 1) N := by rw [← hlb, ← hLb, List.length_take, hNLl]
  have HTa : Hid (Calls Tryz.prog 24 #[.pointer (some ⟨tb, 0, none⟩), .slice Ap np cp, .int .i64 (n : Int)] w2 fun e w' => ∃ D d, e = .returned (.tuple #[.slice D la d, .int .i64 0]) ∧ NewR w2.heap.size w' D d La ∧ Below w2.heap.size w2 w') := Lib.hid (by
    have h := nTo_c (c := cp) hd2.tree HT2.out (by omega) hp2 HX.out.2.2.2.2.2 (n : Int) (by omega) (L := La) (by rw [hNL, Int.toNat_natCast]; exact hLa)
    rw [hla] at h
    exact h)
  have HTb : Hid (∀ w3, Below w2.heap.size w2 w3 → Calls Tryz.prog 24 #[.pointer (some ⟨tb, 0, none⟩), .slice Ap np cp, .int .i64 ((n : Int) + 1)] w3 fun e w' => ∃ D d, e = .returned (.tuple #[.slice D lb d, .int .i64 0]) ∧ NewR w3.heap.size w' D d Lb ∧ Below w3.heap.size w3 w') := Lib.hid fun w3 hb => by
    have h := nTo_c (c := cp) (hd2.tree.below hb (Nat.le_refl _)) (fun w' hb' => HT2.out w' (hb.trans (hb'.mono hb.size))) (by omega) ((hp2.below' hb (Nat.le_refl _)).keep hb.size (fun _ _ => rfl)) HX.out.2.2.2.2.2 ((n : Int) + 1) (by omega) (L := Lb) (by rw [hNL, show ((n : Int) + 1).toNat = n + 1 by omega]; exact hLb)
    rw [hlb] at h
    exact h
  have HTc : Hid (∀ w3, Below w2.heap.size w2 w3 → Calls Tryz.prog 24 #[.pointer (some ⟨tb, 0, none⟩), .slice Ap np cp, .int .i64 (N : Int)] w3 fun e w' => ∃ D d, e = .returned (.tuple #[.slice D N d, .int .i64 0]) ∧ NewR w3.heap.size w' D d NL ∧ Below w3.heap.size w3 w') := Lib.hid fun w3 hb => by
    have h := nTo_c (c := cp) (hd2.tree.below hb (Nat.le_refl _)) (fun w' hb' => HT2.out w' (hb.trans (hb'.mono hb.size))) (by omega) ((hp2.below' hb (Nat.le_refl _)).keep hb.size (fun _ _ => rfl)) HX.out.2.2.2.2.2 (N : Int) (by omega) (L := NL) (by rw [hNL, Int.toNat_natCast, ← hNLl, List.take_length])
    rw [hNLl] at h
    exact h
  have HWi : Hid (∀ w3, Below w2.heap.size w2 w3 → Calls Tryz.prog 29 #[.pointer (some ⟨tb, 0, none⟩), .slice Ap np cp, .int .u64 18446744073709551615] w3 fun e w' => ∃ D d, e = .returned (.tuple #[.slice D N d, .int .i64 0]) ∧ NewR w3.heap.size w' D d NL ∧ Below w3.heap.size w3 w') := Lib.hid fun w3 hb => by
    have h := nWithin_c (c := cp) (hd2.tree.below hb (Nat.le_refl _)) (fun w' hb' => HT2.out w' (hb.trans (hb'.mono hb.size))) (by omega) ((hp2.below' hb (Nat.le_refl _)).keep hb.size (fun _ _ => rfl)) HX.out.2.2.2.2.2 18446744073709551615 (N := NL) (by rw [htop]; exact hNL)
    rw [hNLl] at h
    exact h
  have hlab : la ≤ lb ∧ lb ≤ la + 1 ∧ lb ≤ N ∧ N ≤ 30 := by omega
  have g1 : decide ((lb : Int) < (la : Int)) = false := decide_eq_false (by omega)
  have g1' : decide (lb < la) = false := decide_eq_false (by omega)
  have g2 : decide ((la : Int) + 1 < (lb : Int)) = false := decide_eq_false (by omega)
  have g2' : decide (la + 1 < lb) = false := decide_eq_false (by omega)
  have g3 : ((N : Int) != (N : Int)) = false := by simp
  have hla30 : (la : Int) ≤ 30 := by omega
  have hlb30 : (lb : Int) ≤ 30 := by omega
  have htk : Lb.take la = La := by
    rw [← hLb, List.take_take, ← hLa]
    rw [show min la (n + 1) = la by omega]
    rcases Nat.le_total n N with h | h
    · rw [show la = n by omega]
    · rw [List.take_of_length_le (by omega), List.take_of_length_le (by omega)]
  have HL := Lib.hid (And.intro hla (And.intro hlb (And.intro hNLl (And.intro htk hlab))))
  rw [hN]
  clear hd2 hb2 HG hdm hzs hspec hp2 htop hNL hN hNLl hLa hLb hla hlb hla' hlb' htk hlab hlE HB0
  go_wp2_with fail
  refine HTa.out.mono ?_
  rintro e w3 ⟨Da, da, rfl, hra, hb3⟩
  have H3 := Lib.hid (And.intro hra hb3)
  clear hra hb3 HTa
  go_wp2_with fail
  refine (HTb.out w3 H3.out.2).mono ?_
  rintro e w4 ⟨Db, db, rfl, hrb, hb4⟩
  have H4 := Lib.hid (And.intro (H3.out.1.below hb4) (And.intro hrb (Below.andThen H3.out.2 hb4)))
  clear hrb hb4 HTb
  go_wp2_with fail
  refine (HTc.out w4 H4.out.2.2).mono ?_
  rintro e w5 ⟨Dc, dc, rfl, hrc, hb5⟩
  have H5 := Lib.hid (And.intro (H4.out.1.below hb5) (And.intro (H4.out.2.1.below hb5) (And.intro hrc (Below.andThen H4.out.2.2 hb5))))
  clear hrc hb5 HTc
  go_wp2_with fail
  refine (HWi.out w5 H5.out.2.2.2).mono ?_
  rintro e w6 ⟨Dw, dw, rfl, hrw, hb6⟩
  have H6 := Lib.hid (And.intro (H5.out.1.below hb6) (And.intro (H5.out.2.1.below hb6) (And.intro (H5.out.2.2.1.below hb6) (And.intro hrw (Below.andThen H5.out.2.2.2 hb6)))))
  obtain ⟨Ah, hcut, hcutE⟩ := ents_hi Db lb db la HL.out.2.2.2.2.1 (by have := H6.out.2.1.cap; rw [HL.out.2.1] at this; exact this)
  have hAh : Ents w6 w6.heap.size Ah La := by
    have h := hcutE w6 Lb HL.out.2.1 H6.out.2.1.ents
    rw [HL.out.2.2.2.1] at h
    exact h
  have HS1 := Lib.hid (same_n (c := da) (c' := db) H6.out.1.ents hAh HL.out.1 (by have := HL.out.2.2.2.2; omega))
  have HS2 := Lib.hid fun (w7 : World) (hb : Below w6.heap.size w6 w7) => same_n (c := dc) (c' := dw) (H6.out.2.2.1.below hb).ents (H6.out.2.2.2.1.below hb).ents HL.out.2.2.1 (by have := HL.out.2.2.2.2; omega)
  clear hrw hb6 HWi hcutE hAh
  go_wp2_with (first
    | ((with_reducible refine HS1.out.mono ?_); rintro e w7 ⟨rfl, hb7⟩; have H7 := Lib.hid hb7; clear hb7)
    | ((with_reducible refine (HS2.out _ H7.out).mono ?_); rintro e w8 ⟨rfl, hb8⟩; have H8 := Lib.hid (Below.andThen H7.out hb8); clear hb8))
  go_ret
  exact ⟨rfl, Below.andThen HB2.out (Below.andThen H6.out.2.2.2.2 H8.out)⟩
theorem nearGrows_c {w : World} {A Ap : Option Addr} {c cp : Nat} {l : List ActT} {p : List Nat} (k n : Int) (hT : Tz w) (hA : ActsT w w.heap.size A l) (hl : l.length ≤ maxLen) (hp : Pts w w.heap.size Ap p) :
    Calls Tryz.prog 8 #[.int .i64 k, .slice A l.length c, .slice Ap p.length cp, .int .i64 n] w fun e w' => e = .returned (.bool true) ∧ Below w.heap.size w w' := by
  by_cases h : (heavyA 30 l || decide (k < 1) || decide (16 < k) || ((p.length : Int) != k) || decide (n < 0) || decide (100 < n)) = true
  · exact nearGrows_skip k n hT hA hl _ _ _ _ _ _ rfl rfl rfl rfl rfl rfl h
  · simp only [Bool.or_eq_true, decide_eq_true_eq, not_or, Bool.not_eq_true, bne_eq_false_iff_eq] at h
    obtain ⟨⟨⟨⟨⟨h1, h2⟩, h3⟩, h4⟩, h5⟩, h6⟩ := h
    obtain ⟨k', rfl⟩ : ∃ k' : Nat, k = (k' : Int) := ⟨k.toNat, by omega⟩
    obtain ⟨n', rfl⟩ : ∃ n' : Nat, n = (n' : Int) := ⟨n.toNat, by omega⟩
    exact nearGrows_go k' n' hT hA hl h1 (by omega) (by omega) hp rfl (by omega) (by omega)
end Go.Proofs.YtmdohckoegpgkaaGreatDoor
