import Derived.Test.YtjcmehplcagejaaGreatDoorM88
import Derived.Test.YtjcmehplcagejaaGreatDoorM87
/-
  THE LAW NearWithin. Laid by wip/gen50.py.
-/
namespace Go.Proofs.YtjcmehplcagejaaGreatDoor
open Go.ChangeShapes Go.WideShapes Go.ChangeAt Go.RowKit
open Tr (T S4 Ent)
theorem _root_.Go.Proofs.YtjcmehplcagejaaGreatDoor.Ents.ents_later {w w' : World} {A : Option Addr} {L : List Ent} (h : Ents w w.heap.size A L) (hb : Below w.heap.size w w') : Ents w' w'.heap.size A L := h.below hb (Nat.le_refl _) hb.size

/-- a list in order: what is not beyond n are its first ones -/
theorem filt_take {α : Type} (f : α → Nat) (n : Nat) : ∀ L : List α, L.Pairwise (fun a b => f a ≤ f b) → L.take (L.filter fun e => decide (f e ≤ n)).length = (L.filter fun e => decide (f e ≤ n)) ∧ ∀ (i : Nat) (e : α), L[i]? = some e → (f e ≤ n ↔ i < (L.filter fun e => decide (f e ≤ n)).length)
  | [], _ => ⟨rfl, fun i e h => by simp at h⟩
  | x :: L, h => by
    obtain ⟨h1, h2⟩ := List.pairwise_cons.1 h
    by_cases hx : f x ≤ n
    · obtain ⟨i1, i2⟩ := filt_take f n L h2
      rw [List.filter_cons_of_pos (by simpa using hx)]
      refine ⟨by rw [List.length_cons, List.take_succ_cons, i1], fun i e he => ?_⟩
      cases i with
      | zero =>
        simp only [List.getElem?_cons_zero, Option.some.injEq] at he
        subst he
        simp [hx]
      | succ i =>
        rw [List.getElem?_cons_succ] at he
        rw [i2 i e he, List.length_cons]
        omega
    · have hno : ∀ y ∈ x :: L, ¬ f y ≤ n := fun y hy => by
        rcases List.mem_cons.1 hy with rfl | hy
        · exact hx
        · have := h1 y hy
          omega
      have h0 : ((x :: L).filter fun e => decide (f e ≤ n)) = [] := List.filter_eq_nil_iff.2 fun y hy => by simpa using hno y hy
      rw [h0]
      exact ⟨rfl, fun i e he => ⟨fun h => absurd h (hno e (List.mem_of_getElem? he)), fun h => by cases h⟩⟩
theorem ns_dist {k : Nat} {p : List Nat} (hp : p.length = k) {N : List Ent} (h : Nr.NS p N) (hd : ∀ e ∈ N, e.1.length = k) : N.Pairwise fun a b => Nr.dist p a.1 ≤ Nr.dist p b.1 := by
  refine List.Pairwise.imp_of_mem ?_ h
  intro a b ha hb hab
  unfold Nr.ordE at hab
  rw [hp] at hab
  rcases (Nr.lex_lt (Nr.key_bd (hd a ha)) (Nr.key_bd (hd b hb))).1 hab with h | h <;> omega

theorem nearWithin_skip {w : World} {A Ap : Option Addr} {c np cp : Nat} {l : List ActT} (k : Int) (n : Int) (hT : Tz w) (hA : ActsT w w.heap.size A l) (hl : l.length ≤ maxLen) (r1 b1 b2 b3 : Bool) (hh : heavyA 40 l = r1)
    (hb1 : decide (k < 1) = b1) (hb2 : decide (16 < k) = b2) (hb3 : decide ((40 : Int) < (np : Int)) = b3) (hb3' : decide (40 < np) = b3) (hor : (r1 || b1 || b2 || b3) = true) :
    Calls Tryz.prog 6 #[.int .i64 k, .slice A l.length c, .slice Ap np cp, .int .u64 n] w fun e w' => e = .returned (.bool true) ∧ Below w.heap.size w w' := by
  have HX := Lib.hid (And.intro hA (And.intro hl (And.intro hh hT)))
  clear hA hl hh hT
  go_enter Tryz.func6, Tryz.ntmps6
  go_wp2_with fail
  refine (awake11_c w HX.out.2.2.2).mono ?_
  rintro e w1 ⟨rfl, hb1'⟩
  have HH := Lib.hid (rheavy7_c (c := c) (HX.out.1.below hb1' (Nat.le_refl _) (Nat.le_refl _)) HX.out.2.1 40 r1 HX.out.2.2.1)
  have HB := Lib.hid hb1'
  clear hb1'
  go_wp2_with fail
  refine HH.out.mono ?_
  rintro e w' ⟨rfl, rfl⟩
  clear HH
  cases r1 with
  | true => (go_wp2_with fail); go_ret; exact ⟨rfl, HB.out⟩
  | false =>
    cases b1 with
    | true => (go_wp2_with fail); go_ret; exact ⟨rfl, HB.out⟩
    | false =>
      cases b2 with
      | true => (go_wp2_with fail); go_ret; exact ⟨rfl, HB.out⟩
      | false =>
        cases b3 with
        | true => (go_wp2_with fail); go_ret; exact ⟨rfl, HB.out⟩
        | false => cases hor
set_option maxRecDepth 1000000 in
set_option maxHeartbeats 4000000 in
theorem nearWithin_dim {w : World} {A Ap : Option Addr} {c np cp : Nat} {l : List ActT} {p : List Nat} (k : Nat) (n : Nat) (hT : Tz w) (hA : ActsT w w.heap.size A l) (hl : l.length ≤ maxLen) (hh : heavyA 40 l = false) (h1 : 1 ≤ k) (h16 : k ≤ 16) (hp : Pts w w.heap.size Ap p) (hnp : p.length = np) (hn40 : np ≤ 40) (hpk : np ≠ k) :
    Calls Tryz.prog 6 #[.int .i64 (k : Int), .slice A l.length c, .slice Ap np cp, .int .u64 (n : Int)] w fun e w' => e = .returned (.bool true) ∧ Below w.heap.size w w' := by
  have hfew := heavyA_few hh
  have HX := Lib.hid (And.intro hA (And.intro hl (And.intro hh (And.intro hT (And.intro hp hnp)))))
  have HK := Lib.hid (And.intro h1 (And.intro h16 (And.intro hfew hpk)))
  have d1 : decide ((k : Int) < 1) = false := decide_eq_false (by omega)
  have d2 : decide ((16 : Int) < (k : Int)) = false := decide_eq_false (by omega)
  have d2' : decide (16 < k) = false := decide_eq_false (by omega)
  have d3 : decide ((40 : Int) < (np : Int)) = false := decide_eq_false (by omega)
  have d3' : decide (40 < np) = false := decide_eq_false (by omega)
  have d4 : ((np : Int) != (k : Int)) = true := by simp; omega
  clear hA hl hh hT h1 h16 hfew hp hnp hpk
  go_enter Tryz.func6, Tryz.ntmps6
  go_wp2_with fail
  refine (awake11_c w HX.out.2.2.2.1).mono ?_
  rintro e w0 ⟨rfl, hb0⟩
  have HH := Lib.hid (rheavy7_c (c := c) (HX.out.1.below hb0 (Nat.le_refl _) (Nat.le_refl _)) HX.out.2.1 40 false HX.out.2.2.1)
  have HG := Lib.hid (grown_c (c := c) HK.out.1 HK.out.2.1 (HX.out.1.below hb0 (Nat.le_refl _) (Nat.le_refl _)) hb0.size (by have := HK.out.2.2.1; omega))
  have HB0 := Lib.hid hb0
  clear hb0
  go_wp2_with fail
  refine HH.out.mono ?_
  rintro e w' ⟨rfl, rfl⟩
  clear HH
  go_wp2_with fail
  refine HG.out.mono ?_
  rintro e w2 ⟨tb, o, D2, e2, rfl, hd2, hent2, hb2⟩
  have HB2 := Lib.hid (Below.andThen HB0.out hb2)
  have HD := Lib.hid hd2
  have hlE : (Tr.entsO o).length ≤ 40 := by have := hd2.few; have := HK.out.2.2.1; omega
  have HTd := Lib.hid (nWithin_dim (A := Ap) (n := np) (c := cp) (m := .int .u64 (n : Int)) hd2.tree.1.2.2.2.1 hd2.tree.1.1 (by unfold maxLen; omega) HK.out.2.2.2)
  obtain ⟨N, hN⟩ : ∃ N, (Tr.entsO o).length = N := ⟨_, rfl⟩
  rw [hN]
  clear hd2 hb2 HG hlE hN hent2 HB0
  go_wp2_with fail
  refine HTd.out.mono ?_
  rintro e w3 ⟨rfl, hb3⟩
  have H3 := Lib.hid hb3
  clear hb3 HTd
  go_wp2_with fail
  go_ret
  exact ⟨rfl, Below.andThen HB2.out H3.out⟩
set_option maxRecDepth 1000000 in
set_option maxHeartbeats 4000000 in
theorem nearWithin_go {w : World} {A Ap : Option Addr} {c np cp : Nat} {l : List ActT} {p : List Nat} (k : Nat) (n : Nat) (hT : Tz w) (hA : ActsT w w.heap.size A l) (hl : l.length ≤ maxLen) (hh : heavyA 40 l = false) (h1 : 1 ≤ k) (h16 : k ≤ 16) (hp : Pts w w.heap.size Ap p) (hnp : p.length = np) (hn40 : np ≤ 40) (hpk : np = k) :
    Calls Tryz.prog 6 #[.int .i64 (k : Int), .slice A l.length c, .slice Ap np cp, .int .u64 (n : Int)] w fun e w' => e = .returned (.bool true) ∧ Below w.heap.size w w' := by
  subst hpk
  have hpk : np = np := rfl
  have hfew := heavyA_few hh
  have HX := Lib.hid (And.intro hA (And.intro hl (And.intro hh (And.intro hT (And.intro hp hnp)))))
  have HK := Lib.hid (And.intro h1 (And.intro h16 (And.intro hfew hpk)))
  have d1 : decide ((np : Int) < 1) = false := decide_eq_false (by omega)
  have d2 : decide ((16 : Int) < (np : Int)) = false := decide_eq_false (by omega)
  have d2' : decide (16 < np) = false := decide_eq_false (by omega)
  have d3 : decide ((40 : Int) < (np : Int)) = false := decide_eq_false (by omega)
  have d3' : decide (40 < np) = false := decide_eq_false (by omega)
  have d4 : ((np : Int) != (np : Int)) = false := by simp
  clear hA hl hh hT h1 h16 hfew hp hnp hpk
  go_enter Tryz.func6, Tryz.ntmps6
  go_wp2_with fail
  refine (awake11_c w HX.out.2.2.2.1).mono ?_
  rintro e w0 ⟨rfl, hb0⟩
  have HH := Lib.hid (rheavy7_c (c := c) (HX.out.1.below hb0 (Nat.le_refl _) (Nat.le_refl _)) HX.out.2.1 40 false HX.out.2.2.1)
  have HG := Lib.hid (grown_c (c := c) HK.out.1 HK.out.2.1 (HX.out.1.below hb0 (Nat.le_refl _) (Nat.le_refl _)) hb0.size (by have := HK.out.2.2.1; omega))
  have HB0 := Lib.hid hb0
  clear hb0
  go_wp2_with fail
  refine HH.out.mono ?_
  rintro e w' ⟨rfl, rfl⟩
  clear HH
  go_wp2_with fail
  refine HG.out.mono ?_
  rintro e w2 ⟨tb, o, D2, e2, rfl, hd2, hent2, hb2⟩
  have HB2 := Lib.hid (Below.andThen HB0.out hb2)
  have HD := Lib.hid hd2
  have hlE : (Tr.entsO o).length ≤ 40 := by have := hd2.few; have := HK.out.2.2.1; omega
  have HT2 : Hid (∀ w', Below w2.heap.size w2 w' → Tz w') := Lib.hid fun w' hb => (HX.out.2.2.2.1.on HB2.out).on hb
  obtain ⟨hdm, hzs⟩ := tree_dz hd2.tree
  have hspec := Nr.nearL_ns HX.out.2.2.2.2.2 hzs hdm
  have hp2 : Pts w2 w2.heap.size Ap p := (HX.out.2.2.2.2.1.below' HB2.out (Nat.le_refl _)).keep HB2.out.size (fun _ _ => rfl)
  obtain ⟨NL, hNL⟩ : ∃ NL, Nr.nearL p (Tr.entsO o) = NL := ⟨_, rfl⟩
  obtain ⟨N, hN⟩ : ∃ N, (Tr.entsO o).length = N := ⟨_, rfl⟩
  have hNLl : NL.length = N := by rw [← hNL, hspec.2.2, hN]
  have hdd : ∀ e ∈ NL, e.1.length = np := fun e he => by rw [← hNL] at he; exact (hdm e ((hspec.2.1 e).1 he)).1
  have hord := ns_dist HX.out.2.2.2.2.2 (by have := hspec.1; rw [hNL] at this; exact this) hdd
  have hft := filt_take (fun e : Ent => Nr.dist p e.1) n NL hord
  obtain ⟨Wn, hWn⟩ : ∃ Wn, (NL.filter fun e => decide (Nr.dist p e.1 ≤ n)) = Wn := ⟨_, rfl⟩
  rw [hWn] at hft
  obtain ⟨wn, hwn⟩ : ∃ wn, Wn.length = wn := ⟨_, rfl⟩
  rw [hwn] at hft
  have hwN : wn ≤ N := by rw [← hwn, ← hft.1, List.length_take, hNLl]; exact Nat.min_le_right _ _
  have HTa : Hid (Calls Tryz.prog 29 #[.pointer (some ⟨tb, 0, none⟩), .slice Ap np cp, .int .u64 (n : Int)] w2 fun e w' => ∃ D d, e = .returned (.tuple #[.slice D wn d, .int .i64 0]) ∧ NewR w2.heap.size w' D d Wn ∧ Below w2.heap.size w2 w') := Lib.hid (by
    have h := nWithin_c (c := cp) hd2.tree HT2.out (by omega) hp2 HX.out.2.2.2.2.2 n (N := Wn) (by rw [hNL]; exact hWn)
    rw [hwn] at h
    exact h)
  have HTb : Hid (∀ w3, Below w2.heap.size w2 w3 → Calls Tryz.prog 24 #[.pointer (some ⟨tb, 0, none⟩), .slice Ap np cp, .int .i64 (wn : Int)] w3 fun e w' => ∃ D d, e = .returned (.tuple #[.slice D wn d, .int .i64 0]) ∧ NewR w3.heap.size w' D d Wn ∧ Below w3.heap.size w3 w') := Lib.hid fun w3 hb => by
    have h := nTo_c (c := cp) (hd2.tree.below hb (Nat.le_refl _)) (fun w' hb' => HT2.out w' (hb.trans (hb'.mono hb.size))) (by omega) ((hp2.below' hb (Nat.le_refl _)).keep hb.size (fun _ _ => rfl)) HX.out.2.2.2.2.2 (wn : Int) (by omega) (L := Wn) (by rw [hNL, Int.toNat_natCast]; exact hft.1)
    rw [hwn] at h
    exact h
  have HAl : Hid (∀ w3, Below w2.heap.size w2 w3 → Calls Tryz.prog 26 #[.slice D2 N e2, .slice Ap np cp] w3 fun e w' => ∃ D d, e = .returned (.slice D N d) ∧ EntL w' w3.heap.size w'.heap.size D NL ∧ N ≤ d ∧ Below w3.heap.size w3 w') := Lib.hid fun w3 hb => by
    have h := rAll11_c (c := e2) (c' := cp) hzs hdm (((hd2.list.ents hd2.old (Nat.le_refl _)).below hb (Nat.le_refl _) hb.size)) ((hp2.below' hb (Nat.le_refl _)).keep hb.size (fun _ _ => rfl)) HX.out.2.2.2.2.2 HK.out.1 HK.out.2.1 (by omega)
    rw [hN, hNL] at h
    exact h
  have hN40 : (N : Int) ≤ 40 := by omega
  have hwn40 : (wn : Int) ≤ 40 := by omega
  have HL := Lib.hid (And.intro hNLl (And.intro hft.1 (And.intro hwN (And.intro hwn (And.intro (show N ≤ 40 by omega) (And.intro hdd hft.2))))))
  rw [hN]
  clear hd2 hb2 HG hdm hzs hspec hp2 hNL hN hNLl hdd hord hft hWn hwn hwN hlE hent2 HB0
  go_wp2_with fail
  refine HTa.out.mono ?_
  rintro e w3 ⟨Da, da, rfl, hra, hb3⟩
  have H3 := Lib.hid (And.intro hra hb3)
  clear hra hb3 HTa
  go_wp2_with fail
  refine (HAl.out w3 H3.out.2).mono ?_
  rintro e w4 ⟨Dw, dw, rfl, hrw, hdw, hb4⟩
  have H4 := Lib.hid (And.intro (H3.out.1.below hb4) (And.intro (hrw.ents hb4.size (Nat.le_refl _)) (And.intro hdw (Below.andThen H3.out.2 hb4))))
  have hp4 : Pts w4 w4.heap.size Ap p := (HX.out.2.2.2.2.1.below' (Below.andThen HB2.out H4.out.2.2.2) (Nat.le_refl _)).keep (Below.andThen HB2.out H4.out.2.2.2).size (fun _ _ => rfl)
  have HP4 := Lib.hid hp4
  clear hrw hdw hb4 HAl hp4
  go_wp2_with fail
  go_loopw [15] (fun u wr => ∃ a : Nat, u = .int .i64 (a : Int) ∧ a ≤ wn ∧ Below w4.heap.size w4 wr) (fun u _ => wn - (intOf u).toNat)
  case atStart => exact ⟨0, rfl, Nat.zero_le _, Below.refl _ _⟩
  case round =>
    obtain ⟨a, rfl, haw, hb5⟩ := hrel
    have ha9 : (a : Int) ≤ 1000 := by omega
    by_cases hlt : a < N
    · obtain ⟨x, hx⟩ := get_lt (us := NL) (k := a) (by rw [HL.out.1]; exact hlt)
      obtain ⟨b0, o0, Ax, cx, hD, hblt, v0, -, px, -, -⟩ := H4.out.2.1.at hx
      have hxk := HL.out.2.2.2.2.2.1 x (List.mem_of_getElem? hx)
      have hiff := HL.out.2.2.2.2.2.2 a x hx
      have f1 : decide ((a : Int) < (N : Int)) = true := decide_eq_true (by omega)
      have f1' : decide (a < N) = true := decide_eq_true hlt
      have n1 : (0 : Int) ≤ (a : Int) := by omega
      have n2 : (a : Int) < (N : Int) := by omega
      obtain ⟨nx, hnx⟩ : ∃ nx, x.1.length = nx := ⟨_, rfl⟩
      obtain ⟨dx, hdx⟩ : ∃ dx, Nr.dist p x.1 = dx := ⟨_, rfl⟩
      have z0 : ∀ w', Below wr.heap.size wr w' → w'.cell? ⟨b0, o0 + a * 2, none⟩ = some (.slice Ax nx cx) := fun w' hb => ((Below.andThen hb5 hb).cell (p := ⟨b0, _, none⟩) hblt).trans (by rw [← hnx]; exact v0)
      have HFx : Hid (∀ w', Below wr.heap.size wr w' → Calls Tryz.prog 28 #[.slice Ax nx cx, .slice Ap np cp] w' fun e w'' => e = .returned (.int .u64 (dx : Int)) ∧ Below w'.heap.size w' w'') := Lib.hid fun w' hb => by
        have hbb := Below.andThen hb5 hb
        have h := r3far_c Ax Ap cx cp x.1 p w'.heap.size w' dx (by rw [Nr.far_comm, hxk, ← HX.out.2.2.2.2.2]; exact hdx) ((px.below' hbb (Nat.le_refl _)).keep hbb.size (fun _ _ => rfl)) ((HP4.out.below' hbb (Nat.le_refl _)).keep hbb.size (fun _ _ => rfl)) (by rw [hxk]; exact HK.out.1) (by rw [hxk]; exact HK.out.2.1) (by rw [hxk, HX.out.2.2.2.2.2])
        rw [hnx, HX.out.2.2.2.2.2] at h
        exact h
      subst hD
      have HI : Hid ((dx ≤ n ↔ a < wn) ∧ a ≤ wn ∧ Below w4.heap.size w4 wr) := Lib.hid ⟨by rw [← hdx]; exact hiff, haw, hb5⟩
      have z00 := z0 wr (Below.refl _ _)
      clear hx hblt v0 px hxk hiff hnx hdx z0 haw hb5 hlt
      by_cases hle : dx ≤ n
      · have d1 : decide (dx ≤ n) = true := decide_eq_true hle
        have d1' : decide ((dx : Int) ≤ (n : Int)) = true := decide_eq_true (by omega)
        have ha := HI.out.1.1 hle
        clear hle
        go_wp2_with fail
        refine (HFx.out _ (by first | exact Below.refl _ _ | exact below_drewN _ (Below.refl _ _))).mono ?_
        rintro e w6 ⟨rfl, hb6⟩
        have hb46 := Below.andThen HI.out.2.2 hb6
        have HA := Lib.hid (And.intro ha hb46)
        clear ha hb6 hb46
        go_wp2_with fail
        go_roundw
        case rel =>
          have := HA.out.1
          exact ⟨a + 1, by first | rfl | go_num, by omega, by first | exact HA.out.2 | ((repeat (first | refine Below.drew ?_ | (with_reducible refine below_drewN _ ?_) | refine Below.alloc ?_ (by first | omega | (simp; done) | (simp; omega)) _ | refine Below.setCell ?_ (by first | omega | (simp; done) | (simp; omega)) _)); first | exact Below.refl _ _ | assumption | exact below_drewN _ (Below.refl _ _) | exact below_drewN _ (below_drewN _ (Below.refl _ _)))⟩
        case measure =>
          have := HA.out.1
          show wn - ((a : Int) + 1).toNat < wn - (a : Int).toNat
          omega
      · have d1 : decide (dx ≤ n) = false := decide_eq_false hle
        have d1' : decide ((dx : Int) ≤ (n : Int)) = false := decide_eq_false (by omega)
        have ha : wn = a := by have := HI.out.1; have := HI.out.2.1; omega
        subst ha
        clear hle
        go_wp2_with fail
        refine (HFx.out _ (by first | exact Below.refl _ _ | exact below_drewN _ (Below.refl _ _))).mono ?_
        rintro e w5 ⟨rfl, hb5⟩
        have HL5 : Hid (Below w4.heap.size w4 w5) := Lib.hid (Below.andThen HI.out.2.2 hb5)
        have HB5 := Lib.hid HL5.out
        clear hb5 z00
        have H5 := Lib.hid (Below.andThen H4.out.2.2.2 HB5.out)
        clear HB5
        go_wp2_with fail
        refine (HTb.out _ H5.out).mono ?_
        rintro e w6 ⟨Db, db, rfl, hrb, hb6⟩
        have hb56 := Below.andThen HL5.out hb6
        have hEw := H4.out.2.1.ents_later hb56
        obtain ⟨Ah, hcut, hcutE⟩ := ents_hi (some ⟨b0, o0, none⟩) N dw wn HL.out.2.2.1 H4.out.2.2.1
        have hAh : Ents w6 w6.heap.size Ah Wn := by
          have h := hcutE w6 NL HL.out.1 hEw
          rw [HL.out.2.1] at h
          exact h
        have hEa : Ents w6 w6.heap.size Da Wn := (H4.out.1.below hb56).ents
        have HS1 := Lib.hid (same_n (c := da) (c' := dw) hEa hAh HL.out.2.2.2.1 (by have := HL.out.2.2.1; have := HL.out.2.2.2.2.1; omega))
        have HS2 := Lib.hid fun (w7 : World) (hb : Below w6.heap.size w6 w7) => same_n (c := da) (c' := db) ((H4.out.1.below hb56).below hb).ents (hrb.below hb).ents HL.out.2.2.2.1 (by have := HL.out.2.2.1; have := HL.out.2.2.2.2.1; omega)
        have H6 := Lib.hid (Below.andThen H5.out hb6)
        clear hrb hb6 hb56 hEw hcutE hAh hEa HTb HL5
        go_wp2_with (first
          | ((with_reducible refine HS1.out.mono ?_); rintro e w7 ⟨rfl, hb7⟩; have H7 := Lib.hid hb7; clear hb7 HS1)
          | ((with_reducible refine (HS2.out _ H7.out).mono ?_); rintro e w8 ⟨rfl, hb8⟩; have H8 := Lib.hid (Below.andThen H7.out hb8); clear hb8))
        go_ret
        exact ⟨rfl, Below.andThen HB2.out (Below.andThen H6.out H8.out)⟩
    · have f1 : decide ((a : Int) < (N : Int)) = false := decide_eq_false (by omega)
      have f1' : decide (a < N) = false := decide_eq_false hlt
      have ha : wn = a := by have := HL.out.2.2.1; omega
      subst ha
      have HL5 : Hid (Below w4.heap.size w4 wr) := Lib.hid hb5
      have HB5 := Lib.hid hb5
      clear hb5 hlt haw
      go_wp2_with fail
      have H5 := Lib.hid (Below.andThen H4.out.2.2.2 HB5.out)
      clear HB5
      go_wp2_with fail
      refine (HTb.out _ H5.out).mono ?_
      rintro e w6 ⟨Db, db, rfl, hrb, hb6⟩
      have hb56 := Below.andThen HL5.out hb6
      have hEw := H4.out.2.1.ents_later hb56
      obtain ⟨Ah, hcut, hcutE⟩ := ents_hi (Dw) N dw wn HL.out.2.2.1 H4.out.2.2.1
      have hAh : Ents w6 w6.heap.size Ah Wn := by
        have h := hcutE w6 NL HL.out.1 hEw
        rw [HL.out.2.1] at h
        exact h
      have hEa : Ents w6 w6.heap.size Da Wn := (H4.out.1.below hb56).ents
      have HS1 := Lib.hid (same_n (c := da) (c' := dw) hEa hAh HL.out.2.2.2.1 (by have := HL.out.2.2.1; have := HL.out.2.2.2.2.1; omega))
      have HS2 := Lib.hid fun (w7 : World) (hb : Below w6.heap.size w6 w7) => same_n (c := da) (c' := db) ((H4.out.1.below hb56).below hb).ents (hrb.below hb).ents HL.out.2.2.2.1 (by have := HL.out.2.2.1; have := HL.out.2.2.2.2.1; omega)
      have H6 := Lib.hid (Below.andThen H5.out hb6)
      clear hrb hb6 hb56 hEw hcutE hAh hEa HTb HL5
      go_wp2_with (first
        | ((with_reducible refine HS1.out.mono ?_); rintro e w7 ⟨rfl, hb7⟩; have H7 := Lib.hid hb7; clear hb7 HS1)
        | ((with_reducible refine (HS2.out _ H7.out).mono ?_); rintro e w8 ⟨rfl, hb8⟩; have H8 := Lib.hid (Below.andThen H7.out hb8); clear hb8))
      go_ret
      exact ⟨rfl, Below.andThen HB2.out (Below.andThen H6.out H8.out)⟩
theorem nearWithin_c {w : World} {A Ap : Option Addr} {c cp : Nat} {l : List ActT} {p : List Nat} (k : Int) (n : Nat) (hT : Tz w) (hA : ActsT w w.heap.size A l) (hl : l.length ≤ maxLen) (hp : Pts w w.heap.size Ap p) :
    Calls Tryz.prog 6 #[.int .i64 k, .slice A l.length c, .slice Ap p.length cp, .int .u64 (n : Int)] w fun e w' => e = .returned (.bool true) ∧ Below w.heap.size w w' := by
  by_cases h : (heavyA 40 l || decide (k < 1) || decide (16 < k) || decide ((40 : Int) < (p.length : Int))) = true
  · exact nearWithin_skip k n hT hA hl _ _ _ _ rfl rfl rfl rfl (by rw [decide_eq_decide]; omega) h
  · simp only [Bool.or_eq_true, decide_eq_true_eq, not_or, Bool.not_eq_true] at h
    obtain ⟨⟨⟨h1, h2⟩, h3⟩, h4⟩ := h
    obtain ⟨k', rfl⟩ : ∃ k' : Nat, k = (k' : Int) := ⟨k.toNat, by omega⟩
    by_cases hk : p.length = k'
    · exact nearWithin_go k' n hT hA hl h1 (by omega) (by omega) hp rfl (by omega) hk
    · exact nearWithin_dim k' n hT hA hl h1 (by omega) (by omega) hp rfl (by omega) hk
theorem nearWithin_i {w : World} {A Ap : Option Addr} {c cp : Nat} {l : List ActT} {p : List Nat} (k n : Int) (h0 : 0 ≤ n) (hT : Tz w) (hA : ActsT w w.heap.size A l) (hl : l.length ≤ maxLen) (hp : Pts w w.heap.size Ap p) :
    Calls Tryz.prog 6 #[.int .i64 k, .slice A l.length c, .slice Ap p.length cp, .int .u64 n] w fun e w' => e = .returned (.bool true) ∧ Below w.heap.size w w' := by
  obtain ⟨m, rfl⟩ : ∃ m : Nat, n = (m : Int) := ⟨n.toNat, by omega⟩
  exact nearWithin_c k m hT hA hl hp
end Go.Proofs.YtjcmehplcagejaaGreatDoor
