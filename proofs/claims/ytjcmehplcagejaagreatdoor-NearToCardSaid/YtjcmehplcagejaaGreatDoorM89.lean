import Derived.Test.YtjcmehplcagejaaGreatDoorM88
import Derived.Test.YtjcmehplcagejaaGreatDoorM87
/-
  THE LAW NearTo. Laid by wip/gen50.py.
-/
namespace Go.Proofs.YtjcmehplcagejaaGreatDoor
open Go.ChangeShapes Go.WideShapes Go.ChangeAt Go.RowKit
open Tr (T S4 Ent)

/-- what the farthest's answer says against the list itself -/
def FarZ (w : World) (Ap : Option Addr) (cp np : Nat) (Dw : Option Addr) (N y : Nat) (z : Bool) : Prop :=
  (z = false → ((y : Int) == 0) = true ∧ decide ((0 : Int) < (N : Int)) = false ∧ decide (0 < N) = false) ∧
  (z = true → ∃ b o A n c, Dw = some ⟨b, o, none⟩ ∧ decide ((0 : Int) < (N : Int)) = true ∧ decide (0 < N) = true ∧ (0 : Int) < (N : Int) ∧ 0 < N ∧ (∀ w', Below w.heap.size w w' → w'.cell? ⟨b, o, none⟩ = some (.slice A n c)) ∧
    ∀ w', Below w.heap.size w w' → Calls Tryz.prog 28 #[.slice A n c, .slice Ap np cp] w' fun e w'' => e = .returned (.int .u64 (y : Int)) ∧ Below w'.heap.size w' w'')
theorem farZ_of {w : World} {Ap : Option Addr} {cp np : Nat} {Dw : Option Addr} {N y : Nat} {z : Bool} {NL : List Ent} {p : List Nat} (hE : Ents w w.heap.size Dw NL) (hp : Pts w w.heap.size Ap p) (hpl : p.length = np) (hNL : NL.length = N) (hdd : ∀ e ∈ NL, e.1.length = np) (h1 : 1 ≤ np) (h16 : np ≤ 16) (hf : FarT p NL y z) :
    FarZ w Ap cp np Dw N y z := by
  rcases hf with ⟨h0, rfl, rfl⟩ | ⟨e, he, hy, rfl⟩
  · subst h0
    simp only [List.length_nil] at hNL
    subst hNL
    exact ⟨fun _ => ⟨rfl, rfl, rfl⟩, fun h => Bool.noConfusion h⟩
  · refine ⟨fun h => Bool.noConfusion h, fun _ => ?_⟩
    have hlen : 0 < N := by
      rw [← hNL]
      exact List.length_pos_of_mem (List.mem_of_getElem? he)
    obtain ⟨b, o, A, c, hD, hlt, v0, -, px, -, -⟩ := hE.at he
    have hxk := hdd e (List.mem_of_getElem? he)
    refine ⟨b, o, A, e.1.length, c, hD, decide_eq_true (by omega), decide_eq_true hlen, by omega, hlen, fun w' hb => ?_, fun w' hb => ?_⟩
    · refine (hb.cell (p := ⟨b, _, none⟩) hlt).trans ?_
      simpa using v0
    · have h := r3far_c A Ap c cp e.1 p w'.heap.size w' y (by rw [Nr.far_comm, hxk, ← hpl]; exact hy.symm) ((px.below' hb (Nat.le_refl _)).keep hb.size (fun _ _ => rfl)) ((hp.below' hb (Nat.le_refl _)).keep hb.size (fun _ _ => rfl)) (by omega) (by omega) (by rw [hxk, hpl])
      rw [hpl] at h
      exact h

theorem nearTo_skip {w : World} {A Ap : Option Addr} {c np cp : Nat} {l : List ActT} (k : Int) (n : Int) (hT : Tz w) (hA : ActsT w w.heap.size A l) (hl : l.length ≤ maxLen) (r1 b1 b2 b3 : Bool) (hh : heavyA 40 l = r1)
    (hb1 : decide (k < 1) = b1) (hb2 : decide (16 < k) = b2) (hb3 : decide ((40 : Int) < (np : Int)) = b3) (hb3' : decide (40 < np) = b3) (hor : (r1 || b1 || b2 || b3) = true) :
    Calls Tryz.prog 5 #[.int .i64 k, .slice A l.length c, .slice Ap np cp, .int .i64 n] w fun e w' => e = .returned (.bool true) ∧ Below w.heap.size w w' := by
  have HX := Lib.hid (And.intro hA (And.intro hl (And.intro hh hT)))
  clear hA hl hh hT
  go_enter Tryz.func5, Tryz.ntmps5
  go_wp2_with fail
  refine (awake11_c w HX.out.2.2.2).mono ?_
  rintro e w1 ⟨rfl, hb1'⟩
  have HH := Lib.hid (rheavy7_c (c := c) (HX.out.1.below hb1' (Nat.le_refl _) (Nat.le_refl _)) HX.out.2.1 40 r1 HX.out.2.2.1)
  have HB := Lib.hid hb1'
  clear hb1'
  go_wp2_with fail
  refine HH.out.mono ?_
  rintro e w' ⟨rfl, rfl⟩
  clear HH
  cases r1 with
  | true => (go_wp2_with fail); go_ret; exact ⟨rfl, HB.out⟩
  | false =>
    cases b1 with
    | true => (go_wp2_with fail); go_ret; exact ⟨rfl, HB.out⟩
    | false =>
      cases b2 with
      | true => (go_wp2_with fail); go_ret; exact ⟨rfl, HB.out⟩
      | false =>
        cases b3 with
        | true => (go_wp2_with fail); go_ret; exact ⟨rfl, HB.out⟩
        | false => cases hor
set_option maxRecDepth 1000000 in
set_option maxHeartbeats 4000000 in
theorem nearTo_dim {w : World} {A Ap : Option Addr} {c np cp : Nat} {l : List ActT} {p : List Nat} (k : Nat) (n : Int) (hT : Tz w) (hA : ActsT w w.heap.size A l) (hl : l.length ≤ maxLen) (hh : heavyA 40 l = false) (h1 : 1 ≤ k) (h16 : k ≤ 16) (hp : Pts w w.heap.size Ap p) (hnp : p.length = np) (hn40 : np ≤ 40) (hpk : np ≠ k) :
    Calls Tryz.prog 5 #[.int .i64 (k : Int), .slice A l.length c, .slice Ap np cp, .int .i64 n] w fun e w' => e = .returned (.bool true) ∧ Below w.heap.size w w' := by
  have hfew := heavyA_few hh
  have HX := Lib.hid (And.intro hA (And.intro hl (And.intro hh (And.intro hT (And.intro hp hnp)))))
  have HK := Lib.hid (And.intro h1 (And.intro h16 (And.intro hfew hpk)))
  have d1 : decide ((k : Int) < 1) = false := decide_eq_false (by omega)
  have d2 : decide ((16 : Int) < (k : Int)) = false := decide_eq_false (by omega)
  have d2' : decide (16 < k) = false := decide_eq_false (by omega)
  have d3 : decide ((40 : Int) < (np : Int)) = false := decide_eq_false (by omega)
  have d3' : decide (40 < np) = false := decide_eq_false (by omega)
  have d4 : ((np : Int) != (k : Int)) = true := by simp; omega
  clear hA hl hh hT h1 h16 hfew hp hnp hpk
  go_enter Tryz.func5, Tryz.ntmps5
  go_wp2_with fail
  refine (awake11_c w HX.out.2.2.2.1).mono ?_
  rintro e w0 ⟨rfl, hb0⟩
  have HH := Lib.hid (rheavy7_c (c := c) (HX.out.1.below hb0 (Nat.le_refl _) (Nat.le_refl _)) HX.out.2.1 40 false HX.out.2.2.1)
  have HG := Lib.hid (grown_c (c := c) HK.out.1 HK.out.2.1 (HX.out.1.below hb0 (Nat.le_refl _) (Nat.le_refl _)) hb0.size (by have := HK.out.2.2.1; omega))
  have HB0 := Lib.hid hb0
  clear hb0
  go_wp2_with fail
  refine HH.out.mono ?_
  rintro e w' ⟨rfl, rfl⟩
  clear HH
  go_wp2_with fail
  refine HG.out.mono ?_
  rintro e w2 ⟨tb, o, D2, e2, rfl, hd2, hent2, hb2⟩
  have HB2 := Lib.hid (Below.andThen HB0.out hb2)
  have HD := Lib.hid hd2
  have hlE : (Tr.entsO o).length ≤ 40 := by have := hd2.few; have := HK.out.2.2.1; omega
  have HTd := Lib.hid (nTo_dim (A := Ap) (n := np) (c := cp) (m := n) hd2.tree.1.2.2.2.1 hd2.tree.1.1 (by unfold maxLen; omega) HK.out.2.2.2)
  have HFd := Lib.hid fun (w3 : World) (hb : Below w2.heap.size w2 w3) => nFar_dim (A := Ap) (n := np) (c := cp) ((hd2.tree.below hb (Nat.le_refl _)).1.2.2.2.1) ((hd2.tree.below hb (Nat.le_refl _)).1.1) (by unfold maxLen; omega) HK.out.2.2.2
  obtain ⟨N, hN⟩ : ∃ N, (Tr.entsO o).length = N := ⟨_, rfl⟩
  rw [hN]
  clear hd2 hb2 HG hlE hN hent2 HB0
  go_wp2_with fail
  refine HTd.out.mono ?_
  rintro e w3 ⟨rfl, hb3⟩
  have H3 := Lib.hid hb3
  clear hb3 HTd
  go_wp2_with fail
  refine (HFd.out w3 H3.out).mono ?_
  rintro e w4 ⟨rfl, hb4⟩
  have H4 := Lib.hid (Below.andThen H3.out hb4)
  clear hb4 HFd
  go_wp2_with fail
  go_ret
  exact ⟨rfl, Below.andThen HB2.out H4.out⟩
set_option maxRecDepth 1000000 in
set_option maxHeartbeats 4000000 in
theorem nearTo_go {w : World} {A Ap : Option Addr} {c np cp : Nat} {l : List ActT} {p : List Nat} (k : Nat) (n : Int) (hn9 : n ≤ 9223372036854775807) (hT : Tz w) (hA : ActsT w w.heap.size A l) (hl : l.length ≤ maxLen) (hh : heavyA 40 l = false) (h1 : 1 ≤ k) (h16 : k ≤ 16) (hp : Pts w w.heap.size Ap p) (hnp : p.length = np) (hn40 : np ≤ 40) (hpk : np = k) :
    Calls Tryz.prog 5 #[.int .i64 (k : Int), .slice A l.length c, .slice Ap np cp, .int .i64 n] w fun e w' => e = .returned (.bool true) ∧ Below w.heap.size w w' := by
  subst hpk
  have hpk : np = np := rfl
  have hfew := heavyA_few hh
  have HX := Lib.hid (And.intro hA (And.intro hl (And.intro hh (And.intro hT (And.intro hp hnp)))))
  have HK := Lib.hid (And.intro h1 (And.intro h16 (And.intro hfew hpk)))
  have d1 : decide ((np : Int) < 1) = false := decide_eq_false (by omega)
  have d2 : decide ((16 : Int) < (np : Int)) = false := decide_eq_false (by omega)
  have d2' : decide (16 < np) = false := decide_eq_false (by omega)
  have d3 : decide ((40 : Int) < (np : Int)) = false := decide_eq_false (by omega)
  have d3' : decide (40 < np) = false := decide_eq_false (by omega)
  have d4 : ((np : Int) != (np : Int)) = false := by simp
  clear hA hl hh hT h1 h16 hfew hp hnp hpk
  go_enter Tryz.func5, Tryz.ntmps5
  go_wp2_with fail
  refine (awake11_c w HX.out.2.2.2.1).mono ?_
  rintro e w0 ⟨rfl, hb0⟩
  have HH := Lib.hid (rheavy7_c (c := c) (HX.out.1.below hb0 (Nat.le_refl _) (Nat.le_refl _)) HX.out.2.1 40 false HX.out.2.2.1)
  have HG := Lib.hid (grown_c (c := c) HK.out.1 HK.out.2.1 (HX.out.1.below hb0 (Nat.le_refl _) (Nat.le_refl _)) hb0.size (by have := HK.out.2.2.1; omega))
  have HB0 := Lib.hid hb0
  clear hb0
  go_wp2_with fail
  refine HH.out.mono ?_
  rintro e w' ⟨rfl, rfl⟩
  clear HH
  go_wp2_with fail
  refine HG.out.mono ?_
  rintro e w2 ⟨tb, o, D2, e2, rfl, hd2, hent2, hb2⟩
  have HB2 := Lib.hid (Below.andThen HB0.out hb2)
  have HD := Lib.hid hd2
  have hlE : (Tr.entsO o).length ≤ 40 := by have := hd2.few; have := HK.out.2.2.1; omega
  have HT2 : Hid (∀ w', Below w2.heap.size w2 w' → Tz w') := Lib.hid fun w' hb => (HX.out.2.2.2.1.on HB2.out).on hb
  obtain ⟨hdm, hzs⟩ := tree_dz hd2.tree
  have hspec := Nr.nearL_ns HX.out.2.2.2.2.2 hzs hdm
  have hp2 : Pts w2 w2.heap.size Ap p := (HX.out.2.2.2.2.1.below' HB2.out (Nat.le_refl _)).keep HB2.out.size (fun _ _ => rfl)
  obtain ⟨NL, hNL⟩ : ∃ NL, Nr.nearL p (Tr.entsO o) = NL := ⟨_, rfl⟩
  obtain ⟨N, hN⟩ : ∃ N, (Tr.entsO o).length = N := ⟨_, rfl⟩
  have hNLl : NL.length = N := by rw [← hNL, hspec.2.2, hN]
  obtain ⟨La, hLa⟩ : ∃ La, NL.take n.toNat = La := ⟨_, rfl⟩
  obtain ⟨la, hla⟩ : ∃ la, La.length = la := ⟨_, rfl⟩
  have hla' : la = min n.toNat N := by rw [← hla, ← hLa, List.length_take, hNLl]
  have hdd : ∀ e ∈ NL, e.1.length = np := fun e he => by rw [← hNL] at he; exact (hdm e ((hspec.2.1 e).1 he)).1
  have HTa : Hid (Calls Tryz.prog 24 #[.pointer (some ⟨tb, 0, none⟩), .slice Ap np cp, .int .i64 n] w2 fun e w' => ∃ D d, e = .returned (.tuple #[.slice D la d, .int .i64 0]) ∧ NewR w2.heap.size w' D d La ∧ Below w2.heap.size w2 w') := Lib.hid (by
    have h := nTo_c (c := cp) hd2.tree HT2.out (by omega) hp2 HX.out.2.2.2.2.2 n hn9 (L := La) (by rw [hNL]; exact hLa)
    rw [hla] at h
    exact h)
  have HFa : Hid (∀ w3, Below w2.heap.size w2 w3 → Calls Tryz.prog 25 #[.pointer (some ⟨tb, 0, none⟩), .slice Ap np cp] w3 fun e w' => ∃ y z, e = .returned (.tuple #[.int .u64 ((y : Nat) : Int), .bool z, .int .i64 0]) ∧ FarT p NL y z ∧ Below w3.heap.size w3 w') := Lib.hid fun w3 hb => by
    have h := nFar_c (c := cp) (hd2.tree.below hb (Nat.le_refl _)) (fun w' hb' => HT2.out w' (hb.trans (hb'.mono hb.size))) (by omega) ((hp2.below' hb (Nat.le_refl _)).keep hb.size (fun _ _ => rfl)) HX.out.2.2.2.2.2
    rw [hNL] at h
    exact h
  have HAl : Hid (∀ w3, Below w2.heap.size w2 w3 → Calls Tryz.prog 26 #[.slice D2 N e2, .slice Ap np cp] w3 fun e w' => ∃ D d, e = .returned (.slice D N d) ∧ EntL w' w3.heap.size w'.heap.size D NL ∧ N ≤ d ∧ Below w3.heap.size w3 w') := Lib.hid fun w3 hb => by
    have h := rAll11_c (c := e2) (c' := cp) hzs hdm (((hd2.list.ents hd2.old (Nat.le_refl _)).below hb (Nat.le_refl _) hb.size)) ((hp2.below' hb (Nat.le_refl _)).keep hb.size (fun _ _ => rfl)) HX.out.2.2.2.2.2 HK.out.1 HK.out.2.1 (by omega)
    rw [hN, hNL] at h
    exact h
  have hN40 : (N : Int) ≤ 40 := by omega
  have hla40 : (la : Int) ≤ 40 := by omega
  have HL := Lib.hid (And.intro hla (And.intro hNLl (And.intro hLa (And.intro hla' (And.intro hlE (And.intro hdd hN))))))
  rw [hN]
  clear hd2 hb2 HG hdm hzs hspec hp2 hNL hN hNLl hLa hla hla' hdd hlE hent2 HB0
  go_wp2_with fail
  refine HTa.out.mono ?_
  rintro e w3 ⟨Da, da, rfl, hra, hb3⟩
  have H3 := Lib.hid (And.intro hra hb3)
  clear hra hb3 HTa
  go_wp2_with fail
  refine (HFa.out w3 H3.out.2).mono ?_
  rintro e w4 ⟨y, z, rfl, hfar, hb4⟩
  have H4 := Lib.hid (And.intro (H3.out.1.below hb4) (And.intro hfar (Below.andThen H3.out.2 hb4)))
  clear hfar hb4 HFa
  go_wp2_with fail
  refine (HAl.out w4 H4.out.2.2).mono ?_
  rintro e w5 ⟨Dw, dw, rfl, hrw, hdw, hb5⟩
  have H5 := Lib.hid (And.intro (H4.out.1.below hb5) (And.intro hrw (And.intro hdw (And.intro hb5 (Below.andThen H4.out.2.2 hb5)))))
  clear hrw hdw hb5 HAl
  obtain ⟨Ah, hcut, hcutE⟩ := ents_hi Dw N dw la (by have := HL.out.2.2.2.1; omega) H5.out.2.2.1
  have hEw : Ents w5 w5.heap.size Dw NL := H5.out.2.1.ents H5.out.2.2.2.1.size (Nat.le_refl _)
  have hAh : Ents w5 w5.heap.size Ah La := by
    have h := hcutE w5 NL HL.out.2.1 hEw
    have e1 : NL.take la = La := by
      rw [← HL.out.2.2.1]
      rcases Nat.le_total n.toNat N with h | h
      · rw [show la = n.toNat by have := HL.out.2.2.2.1; omega]
      · rw [List.take_of_length_le (by have := HL.out.2.2.2.1; have := HL.out.2.1; omega), List.take_of_length_le (by have := HL.out.2.1; omega)]
    rw [e1] at h
    exact h
  have HS1 := Lib.hid (same_n (c := da) (c' := dw) H5.out.1.ents hAh HL.out.1 (by have := HL.out.2.2.2.1; have := HL.out.2.2.2.2.1; have := HL.out.2.2.2.2.2.2; omega))
  have hp5 : Pts w5 w5.heap.size Ap p := (HX.out.2.2.2.2.1.below' (Below.andThen HB2.out H5.out.2.2.2.2) (Nat.le_refl _)).keep (Below.andThen HB2.out H5.out.2.2.2.2).size (fun _ _ => rfl)
  have HFZ : Hid (FarZ w5 Ap cp np Dw N y z) := Lib.hid (farZ_of hEw hp5 HX.out.2.2.2.2.2 HL.out.2.1 HL.out.2.2.2.2.2.1 HK.out.1 HK.out.2.1 H4.out.2.1)
  clear hEw hAh hcutE hp5
  have hcases : (∃ X : Int, X = (la : Int) ∧ ((N : Int) < n ∧ X = (N : Int) ∨ ¬ (N : Int) < n ∧ n < 0 ∧ X = 0 ∨ ¬ (N : Int) < n ∧ ¬ n < 0 ∧ X = n)) := ⟨(la : Int), rfl, by have := HL.out.2.2.2.1; omega⟩
  obtain ⟨X, hX, hcs⟩ := hcases
  rw [← hX] at hcut
  clear hX
  rcases hcs with ⟨hc1, rfl⟩ | ⟨hc1, hc2, rfl⟩ | ⟨hc1, hc2, rfl⟩
  · have t1 : decide ((N : Int) < n) = true := decide_eq_true hc1
    have t2 : decide ((N : Int) < 0) = false := decide_eq_false (by omega)
    clear hc1
    cases z with
    | false =>
      obtain ⟨hy0, q1, q1'⟩ := HFZ.out.1 rfl
      clear HFZ
      go_wp2_with fail
      refine HS1.out.mono ?_
      rintro e w6 ⟨rfl, hb6⟩
      have H6 := Lib.hid hb6
      clear hb6
      go_wp2_with fail
      go_ret
      exact ⟨rfl, Below.andThen HB2.out (Below.andThen H5.out.2.2.2.2 H6.out)⟩
    | true =>
      obtain ⟨b0, o0, A0, n0, c0, rfl, q1, q1', n1, n2, hld, hfr⟩ := HFZ.out.2 rfl
      clear HFZ
      have HFR := Lib.hid hfr
      clear hfr
      go_wp2_with fail
      refine HS1.out.mono ?_
      rintro e w6 ⟨rfl, hb6⟩
      have H6 := Lib.hid hb6
      have l6 := hld w6 hb6
      clear hb6 hld
      go_wp2_with fail
      refine (HFR.out w6 H6.out).mono ?_
      rintro e w7 ⟨rfl, hb7⟩
      have H7 := Lib.hid (Below.andThen H6.out hb7)
      clear hb7
      go_wp2_with fail
      go_ret
      exact ⟨rfl, Below.andThen HB2.out (Below.andThen H5.out.2.2.2.2 H7.out)⟩
  · have t1 : decide ((N : Int) < n) = false := decide_eq_false hc1
    have t2 : decide (n < 0) = true := decide_eq_true hc2
    clear hc1 hc2
    cases z with
    | false =>
      obtain ⟨hy0, q1, q1'⟩ := HFZ.out.1 rfl
      clear HFZ
      go_wp2_with fail
      refine HS1.out.mono ?_
      rintro e w6 ⟨rfl, hb6⟩
      have H6 := Lib.hid hb6
      clear hb6
      go_wp2_with fail
      go_ret
      exact ⟨rfl, Below.andThen HB2.out (Below.andThen H5.out.2.2.2.2 H6.out)⟩
    | true =>
      obtain ⟨b0, o0, A0, n0, c0, rfl, q1, q1', n1, n2, hld, hfr⟩ := HFZ.out.2 rfl
      clear HFZ
      have HFR := Lib.hid hfr
      clear hfr
      go_wp2_with fail
      refine HS1.out.mono ?_
      rintro e w6 ⟨rfl, hb6⟩
      have H6 := Lib.hid hb6
      have l6 := hld w6 hb6
      clear hb6 hld
      go_wp2_with fail
      refine (HFR.out w6 H6.out).mono ?_
      rintro e w7 ⟨rfl, hb7⟩
      have H7 := Lib.hid (Below.andThen H6.out hb7)
      clear hb7
      go_wp2_with fail
      go_ret
      exact ⟨rfl, Below.andThen HB2.out (Below.andThen H5.out.2.2.2.2 H7.out)⟩
  · have t1 : decide ((N : Int) < X) = false := decide_eq_false hc1
    have t2 : decide (X < 0) = false := decide_eq_false hc2
    clear hc1 hc2
    cases z with
    | false =>
      obtain ⟨hy0, q1, q1'⟩ := HFZ.out.1 rfl
      clear HFZ
      go_wp2_with fail
      refine HS1.out.mono ?_
      rintro e w6 ⟨rfl, hb6⟩
      have H6 := Lib.hid hb6
      clear hb6
      go_wp2_with fail
      go_ret
      exact ⟨rfl, Below.andThen HB2.out (Below.andThen H5.out.2.2.2.2 H6.out)⟩
    | true =>
      obtain ⟨b0, o0, A0, n0, c0, rfl, q1, q1', n1, n2, hld, hfr⟩ := HFZ.out.2 rfl
      clear HFZ
      have HFR := Lib.hid hfr
      clear hfr
      go_wp2_with fail
      refine HS1.out.mono ?_
      rintro e w6 ⟨rfl, hb6⟩
      have H6 := Lib.hid hb6
      have l6 := hld w6 hb6
      clear hb6 hld
      go_wp2_with fail
      refine (HFR.out w6 H6.out).mono ?_
      rintro e w7 ⟨rfl, hb7⟩
      have H7 := Lib.hid (Below.andThen H6.out hb7)
      clear hb7
      go_wp2_with fail
      go_ret
      exact ⟨rfl, Below.andThen HB2.out (Below.andThen H5.out.2.2.2.2 H7.out)⟩
theorem nearTo_c {w : World} {A Ap : Option Addr} {c cp : Nat} {l : List ActT} {p : List Nat} (k n : Int) (hT : Tz w) (hA : ActsT w w.heap.size A l) (hl : l.length ≤ maxLen) (hp : Pts w w.heap.size Ap p) (hn9 : n ≤ 9223372036854775807) :
    Calls Tryz.prog 5 #[.int .i64 k, .slice A l.length c, .slice Ap p.length cp, .int .i64 n] w fun e w' => e = .returned (.bool true) ∧ Below w.heap.size w w' := by
  by_cases h : (heavyA 40 l || decide (k < 1) || decide (16 < k) || decide ((40 : Int) < (p.length : Int))) = true
  · exact nearTo_skip k n hT hA hl _ _ _ _ rfl rfl rfl rfl (by rw [decide_eq_decide]; omega) h
  · simp only [Bool.or_eq_true, decide_eq_true_eq, not_or, Bool.not_eq_true] at h
    obtain ⟨⟨⟨h1, h2⟩, h3⟩, h4⟩ := h
    obtain ⟨k', rfl⟩ : ∃ k' : Nat, k = (k' : Int) := ⟨k.toNat, by omega⟩
    by_cases hk : p.length = k'
    · exact nearTo_go k' n hn9 hT hA hl h1 (by omega) (by omega) hp rfl (by omega) hk
    · exact nearTo_dim k' n hT hA hl h1 (by omega) (by omega) hp rfl (by omega) hk
end Go.Proofs.YtjcmehplcagejaaGreatDoor
