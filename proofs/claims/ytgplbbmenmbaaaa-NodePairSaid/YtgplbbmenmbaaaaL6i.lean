import Derived.Test.YtgplbbmenmbaaaaRa
import Derived.Test.YtgplbbmenmbaaaaIs2
import Derived.Test.YtgplbbmenmbaaaaAw6
import Derived.Test.YtgplbbmenmbaaaaTn7
import Derived.Test.YtgplbbmenmbaaaaUr
/-
  THE LAW NodePair, first part: what is skipped, and what can't be paired.
-/
namespace Go.Proofs.Ytgplbbmenmbaaaa
open Go.ChangeShapes Go.WideShapes Go.ChangeAt Go.RowKit
open Tr (T S4 Ent)

def heavyB (m : Nat) (L : List Ent) : Bool := decide (m < L.length ∨ ∃ e ∈ L, 40 < e.1.length)
set_option maxRecDepth 100000 in
theorem nodePair_skip {w : World} {A A' : Option Addr} {c c' : Nat} {L : List Ent} {q : List Nat} (h : Ents w w.heap.size A L) (hl : L.length ≤ maxLen) (hq : q.length ≤ maxLen) (hs : heavyB 3 L = true ∨ L.length < 2 ∨ 40 < q.length) :
    Calls Try.prog 3 #[.slice A L.length c, .slice A' q.length c'] w fun e w' => e = .returned (.bool true) ∧ Below w.heap.size w w' := by
  have HX := Lib.hid (And.intro h hl)
  have HH : Hid (∀ w1, Below w.heap.size w w1 → Calls Try.prog 5 #[.slice A L.length c, .int .i64 3] w1 fun e w' => e = .returned (.bool (heavyB 3 L)) ∧ w1 = w') := Lib.hid fun w1 hb1 => rheavy_c (HX.out.1.below hb1 (Nat.le_refl _) (Nat.le_refl _)) hl 3 _ rfl
  have hlm : L.length ≤ 9223372036854775807 := hl
  have hqm : q.length ≤ 9223372036854775807 := hq
  obtain ⟨r, hr⟩ : ∃ r, heavyB 3 L = r := ⟨_, rfl⟩
  rw [hr] at HH hs
  clear h hl hq hr
  cases r with
  | true =>
    clear hs
    go_enter Try.func3, Try.ntmps3
    go_wp2_with fail
    refine (awake6_c w).mono ?_
    rintro e w1 ⟨rfl, hb1⟩
    have B1 := Lib.hid hb1
    clear hb1
    go_wp2_with fail
    refine (HH.out w1 B1.out).mono ?_
    rintro e w' ⟨rfl, rfl⟩
    go_wp2_with fail
    go_ret
    exact ⟨rfl, B1.out⟩
  | false =>
    by_cases h2 : L.length < 2
    · have d1 : decide ((L.length : Int) < 2) = true := decide_eq_true (by omega)
      have d1' : decide (L.length < 2) = true := decide_eq_true h2
      clear hs
      go_enter Try.func3, Try.ntmps3
      go_wp2_with fail
      refine (awake6_c w).mono ?_
      rintro e w1 ⟨rfl, hb1⟩
      have B1 := Lib.hid hb1
      clear hb1
      go_wp2_with fail
      refine (HH.out w1 B1.out).mono ?_
      rintro e w' ⟨rfl, rfl⟩
      go_wp2_with fail
      go_ret
      exact ⟨rfl, B1.out⟩
    · have d1 : decide ((L.length : Int) < 2) = false := decide_eq_false (by omega)
      have d1' : decide (L.length < 2) = false := decide_eq_false h2
      have hq40 : 40 < q.length := by
        rcases hs with h | h | h
        · cases h
        · exact absurd h h2
        · exact h
      have d2 : decide ((40 : Int) < (q.length : Int)) = true := decide_eq_true (by omega)
      have d2' : decide (40 < q.length) = true := decide_eq_true hq40
      clear hs
      go_enter Try.func3, Try.ntmps3
      go_wp2_with fail
      refine (awake6_c w).mono ?_
      rintro e w1 ⟨rfl, hb1⟩
      have B1 := Lib.hid hb1
      clear hb1
      go_wp2_with fail
      refine (HH.out w1 B1.out).mono ?_
      rintro e w' ⟨rfl, rfl⟩
      go_wp2_with fail
      go_ret
      exact ⟨rfl, B1.out⟩
end Go.Proofs.Ytgplbbmenmbaaaa

/-
  THE LAW NodePair, second part (laid by wip/gen7.py): entries that are no points; two of unlike K; two at one point.
-/
namespace Go.Proofs.Ytgplbbmenmbaaaa
open Go.ChangeShapes Go.WideShapes Go.ChangeAt Go.RowKit
open Tr (T S4 Ent)

theorem leaf_nd {w : World} {B : Nat} {e : Ent} {t : T} (h : LeafOf w B e t) : ∃ g, t = .ent g e.1 e.2 ∧ NdAt w B g (-1) e.1 e.2 none (Tr.s1 e.2) := by
  obtain ⟨g, rfl, hn⟩ := h
  refine ⟨g, rfl, ?_⟩
  cases hn.2 with | ent _ _ _ h => exact h
set_option maxRecDepth 100000 in
set_option maxHeartbeats 2000000 in
theorem nodePair_none {w : World} {A A' : Option Addr} {c c' : Nat} {L : List Ent} {q : List Nat} (h : Ents w w.heap.size A L) (hh : heavyB 3 L = false) (hl3 : L.length ≤ 3) (hl2 : 2 ≤ L.length) (hq : q.length ≤ 40) (hQ : Pts w w.heap.size A' q) (hno : ∃ e ∈ L, ¬ (1 ≤ e.1.length ∧ e.1.length ≤ 16)) :
    Calls Try.prog 3 #[.slice A L.length c, .slice A' q.length c'] w fun e w' => e = .returned (.bool true) ∧ Below w.heap.size w w' := by
  have hlm : L.length ≤ 1000 := by have := hl3; omega
  have HX := Lib.hid (And.intro h (And.intro hh (And.intro hl3 (And.intro hl2 (And.intro hq hQ)))))
  have HH : Hid (∀ w1, Below w.heap.size w w1 → Calls Try.prog 5 #[.slice A L.length c, .int .i64 3] w1 fun e w' => e = .returned (.bool false) ∧ w1 = w') := Lib.hid fun w1 hb1 => rheavy_c (HX.out.1.below hb1 (Nat.le_refl _) (Nat.le_refl _)) (by unfold maxLen; omega) 3 _ hh
  have HV : Hid (∀ w1, Below w.heap.size w w1 → Calls Try.prog 6 #[.slice A L.length c] w1 fun e w' => (((∃ e ∈ L, ¬ (1 ≤ e.1.length ∧ e.1.length ≤ 16)) ∧ e = .returned (.tuple #[.slice none 0 0, .bool false])) ∨
       ((∀ e ∈ L, 1 ≤ e.1.length ∧ e.1.length ≤ 16) ∧ ∃ D d ls, e = .returned (.tuple #[.slice D L.length d, .bool true]) ∧ OwnV 29 w' w1.heap.size (.slice D L.length d) (ptrsV ls) ∧ AllLeaves w' w'.heap.size L ls)) ∧ Below w1.heap.size w1 w') := Lib.hid fun w1 hb1 => leaves_c (HX.out.1.below hb1 (Nat.le_refl _) (Nat.le_refl _)) hb1.size hlm
  have d1 : decide ((L.length : Int) < 2) = false := decide_eq_false (by omega)
  have d1' : decide (L.length < 2) = false := decide_eq_false (by omega)
  have d2 : decide ((40 : Int) < (q.length : Int)) = false := decide_eq_false (by omega)
  have d2' : decide (40 < q.length) = false := decide_eq_false (by omega)
  have HN := Lib.hid hno
  clear h hh hno hQ hl3 hl2 hq hlm
  go_enter Try.func3, Try.ntmps3
  go_wp2_with fail
  refine (awake6_c w).mono ?_
  rintro e w1 ⟨rfl, hb1⟩
  have B1 := Lib.hid hb1
  clear hb1
  go_wp2_with fail
  refine (HH.out w1 B1.out).mono ?_
  rintro e w' ⟨rfl, rfl⟩
  go_wp2_with fail
  refine (HV.out w1 B1.out).mono ?_
  rintro e w2 ⟨⟨-, rfl⟩ | ⟨hall, -⟩, hb2⟩
  · go_wp2_with fail
    go_ret
    exact ⟨rfl, Below.andThen B1.out hb2⟩
  · obtain ⟨e, he, hn⟩ := HN.out
    exact absurd (hall e he) hn
set_option maxRecDepth 100000 in
set_option maxHeartbeats 2000000 in
theorem nodePair_dim {w : World} {A A' : Option Addr} {c c' : Nat} {L : List Ent} {q : List Nat} (h : Ents w w.heap.size A L) (hh : heavyB 3 L = false) (hl3 : L.length ≤ 3) (hl2 : 2 ≤ L.length) (hq : q.length ≤ 40) (hQ : Pts w w.heap.size A' q) (hall : ∀ e ∈ L, 1 ≤ e.1.length ∧ e.1.length ≤ 16) (hne : ∀ (e0 e1 : Ent), L[0]? = some e0 → L[1]? = some e1 → e0.1.length ≠ e1.1.length) :
    Calls Try.prog 3 #[.slice A L.length c, .slice A' q.length c'] w fun e w' => e = .returned (.bool true) ∧ Below w.heap.size w w' := by
  have hlm : L.length ≤ 1000 := by have := hl3; omega
  have HX := Lib.hid (And.intro h (And.intro hh (And.intro hl3 (And.intro hl2 (And.intro hq hQ)))))
  have HH : Hid (∀ w1, Below w.heap.size w w1 → Calls Try.prog 5 #[.slice A L.length c, .int .i64 3] w1 fun e w' => e = .returned (.bool false) ∧ w1 = w') := Lib.hid fun w1 hb1 => rheavy_c (HX.out.1.below hb1 (Nat.le_refl _) (Nat.le_refl _)) (by unfold maxLen; omega) 3 _ hh
  have HV : Hid (∀ w1, Below w.heap.size w w1 → Calls Try.prog 6 #[.slice A L.length c] w1 fun e w' => (((∃ e ∈ L, ¬ (1 ≤ e.1.length ∧ e.1.length ≤ 16)) ∧ e = .returned (.tuple #[.slice none 0 0, .bool false])) ∨
       ((∀ e ∈ L, 1 ≤ e.1.length ∧ e.1.length ≤ 16) ∧ ∃ D d ls, e = .returned (.tuple #[.slice D L.length d, .bool true]) ∧ OwnV 29 w' w1.heap.size (.slice D L.length d) (ptrsV ls) ∧ AllLeaves w' w'.heap.size L ls)) ∧ Below w1.heap.size w1 w') := Lib.hid fun w1 hb1 => leaves_c (HX.out.1.below hb1 (Nat.le_refl _) (Nat.le_refl _)) hb1.size hlm
  have d1 : decide ((L.length : Int) < 2) = false := decide_eq_false (by omega)
  have d1' : decide (L.length < 2) = false := decide_eq_false (by omega)
  have d2 : decide ((40 : Int) < (q.length : Int)) = false := decide_eq_false (by omega)
  have d2' : decide (40 < q.length) = false := decide_eq_false (by omega)
  obtain ⟨e0, he0⟩ := get_lt (us := L) (k := 0) (by omega)
  obtain ⟨e1, he1⟩ := get_lt (us := L) (k := 1) (by omega)
  have HE := Lib.hid (And.intro he0 he1)
  obtain ⟨b, off, P0, p0c, hA, hb, x0, -, pp0, -, -⟩ := h.at he0
  subst hA
  obtain ⟨b', off', P1, p1c, hA', -, x1, -, pp1, -, -⟩ := h.at he1
  simp only [Option.some.injEq, Addr.mk.injEq, and_true] at hA'
  obtain ⟨rfl, rfl⟩ := hA'
  rw [Nat.zero_mul, Nat.add_zero] at x0
  rw [Nat.one_mul] at x1
  have y0 : ∀ w', Below w.heap.size w w' → w'.cell? ⟨b, off, none⟩ = some (.slice P0 e0.1.length p0c) := fun w' hb' => (hb'.cell (p := ⟨b, off, none⟩) hb).trans x0
  have y1 : ∀ w', Below w.heap.size w w' → w'.cell? ⟨b, off + 2, none⟩ = some (.slice P1 e1.1.length p1c) := fun w' hb' => (hb'.cell (p := ⟨b, off + 2, none⟩) hb).trans x1
  have HPP := Lib.hid (And.intro pp0 pp1)
  have HA := Lib.hid (hall e0 (List.mem_of_getElem? he0))
  have HA1 := Lib.hid (hall e1 (List.mem_of_getElem? he1))
  have hne01 := hne e0 e1 he0 he1
  have HALL := Lib.hid hall
  have HALIKE : Hid (∀ w1, Calls Try.prog 8 #[.slice P0 e0.1.length p0c, .slice P1 e1.1.length p1c] w1 fun e w' => e = .returned (.bool false) ∧ w1 = w') := Lib.hid fun w1 => ralike_no P0 P1 _ _ _ _ w1 (by have := HA.out.2; unfold maxLen; omega) (fun x => hne01 x.2)
  have HPAIR : Hid (∀ w1, Below (0 : Nat) w1 w1 → True) := Lib.hid fun _ _ => trivial
  clear HPAIR
  have HPAIR : Hid (∀ (w1 : World) {C : Nat} {wx : World}, Below C wx w1 → ∀ g0 g1, NdAt w1 C g0 (-1) e0.1 e0.2 none (Tr.s1 e0.2) → NdAt w1 C g1 (-1) e1.1 e1.2 none (Tr.s1 e1.2) → Calls Try.prog 7 #[.pointer (some ⟨g0, 0, none⟩), .pointer (some ⟨g1, 0, none⟩)] w1 fun e w' => e = .returned (.tuple #[.pointer none, .int .i64 2]) ∧ Below w1.heap.size w1 w') := Lib.hid fun w1 _ _ _ g0 g1 k0 k1 => nPair_dim k0 k1 HA.out.2 HA1.out.2 hne01
  clear h hh hQ hq hall hne he0 he1 x0 x1 pp0 pp1 hne01
  go_enter Try.func3, Try.ntmps3
  go_wp2_with fail
  refine (awake6_c w).mono ?_
  rintro e w1 ⟨rfl, hb1⟩
  have B1 := Lib.hid hb1
  clear hb1
  go_wp2_with fail
  refine (HH.out w1 B1.out).mono ?_
  rintro e w' ⟨rfl, rfl⟩
  go_wp2_with fail
  refine (HV.out w1 B1.out).mono ?_
  rintro e w2 ⟨⟨⟨e, he, hn⟩, -⟩ | ⟨-, D, d, ls, rfl, hown, hal⟩, hb2⟩
  · exact absurd (HALL.out e he) hn
  obtain ⟨t0, ht0⟩ := get_lt (us := ls) (k := 0) (by rw [hal.1]; omega)
  obtain ⟨t1, ht1⟩ := get_lt (us := ls) (k := 1) (by rw [hal.1]; omega)
  obtain ⟨g0, rfl, hn0⟩ := leaf_nd (hal.2 0 e0 t0 HE.out.1 ht0)
  obtain ⟨g1, rfl, hn1⟩ := leaf_nd (hal.2 1 e1 t1 HE.out.2 ht1)
  obtain ⟨pb, po, hD, hpb, z0⟩ := (OwnV.rd_at hown).at (i := 0) (v := .pointer (some ⟨g0, 0, none⟩)) (by simp [ptrsV, ht0, ndV, T.blk])
  obtain ⟨pb', po', hD', -, z1⟩ := (OwnV.rd_at hown).at (i := 1) (v := .pointer (some ⟨g1, 0, none⟩)) (by simp [ptrsV, ht1, ndV, T.blk])
  subst hD
  simp only [Option.some.injEq, Addr.mk.injEq, and_true] at hD'
  obtain ⟨rfl, rfl⟩ := hD'
  rw [Nat.add_zero] at z0
  have B2 := Lib.hid (Below.andThen B1.out hb2)
  have q0 : ∀ w', Below w2.heap.size w2 w' → w'.cell? ⟨pb, po, none⟩ = some (.pointer (some ⟨g0, 0, none⟩)) := fun w' hb' => (hb'.cell (p := ⟨pb, po, none⟩) hpb).trans z0
  have q1 : ∀ w', Below w2.heap.size w2 w' → w'.cell? ⟨pb, po + 1, none⟩ = some (.pointer (some ⟨g1, 0, none⟩)) := fun w' hb' => (hb'.cell (p := ⟨pb, po + 1, none⟩) hpb).trans z1
  have HNN := Lib.hid (And.intro hn0 hn1)
  have m0 : (0 : Int) < (L.length : Int) := by omega
  have m1 : (1 : Int) < (L.length : Int) := by omega
  have m0' : 0 < L.length := by omega
  have m1' : 1 < L.length := by omega
  clear hown hal hn0 hn1 z0 z1 hb2 ht0 ht1 hl3 hl2 hlm
  go_wp2_with fail
  have hbb := Below.refl w2.heap.size w2
  go_region_held3 (fun w' => Below w2.heap.size w2 w') (((repeat (first | refine Below.drew ?_ | (with_reducible refine below_drewN _ ?_) | refine Below.alloc ?_ (by first | omega | (simp; done) | (simp; omega)) _ | refine Below.setCell ?_ (by first | omega | (simp; done) | (simp; omega)) _)); first | exact Below.refl _ _ | assumption | exact below_drewN _ (Below.refl _ _) | exact below_drewN _ (below_drewN _ (Below.refl _ _))))
    ((go_at_call 7; refine (HPAIR.out _ (show Below w2.heap.size w2 _ by ((repeat (first | refine Below.drew ?_ | (with_reducible refine below_drewN _ ?_) | refine Below.alloc ?_ (by first | omega | (simp; done) | (simp; omega)) _ | refine Below.setCell ?_ (by first | omega | (simp; done) | (simp; omega)) _)); first | exact Below.refl _ _ | assumption | exact below_drewN _ (Below.refl _ _) | exact below_drewN _ (below_drewN _ (Below.refl _ _)))) g0 g1 (HNN.out.1.below (show Below w2.heap.size w2 _ by ((repeat (first | refine Below.drew ?_ | (with_reducible refine below_drewN _ ?_) | refine Below.alloc ?_ (by first | omega | (simp; done) | (simp; omega)) _ | refine Below.setCell ?_ (by first | omega | (simp; done) | (simp; omega)) _)); first | exact Below.refl _ _ | assumption | exact below_drewN _ (Below.refl _ _) | exact below_drewN _ (below_drewN _ (Below.refl _ _)))) (Nat.le_refl _) (Nat.le_refl _)) (HNN.out.2.below (show Below w2.heap.size w2 _ by ((repeat (first | refine Below.drew ?_ | (with_reducible refine below_drewN _ ?_) | refine Below.alloc ?_ (by first | omega | (simp; done) | (simp; omega)) _ | refine Below.setCell ?_ (by first | omega | (simp; done) | (simp; omega)) _)); first | exact Below.refl _ _ | assumption | exact below_drewN _ (Below.refl _ _) | exact below_drewN _ (below_drewN _ (Below.refl _ _)))) (Nat.le_refl _) (Nat.le_refl _))).mono ?_; rintro e' w3 ⟨rfl, hb3⟩; have hbD := Below.trans (show Below w2.heap.size w2 _ by ((repeat (first | refine Below.drew ?_ | (with_reducible refine below_drewN _ ?_) | refine Below.alloc ?_ (by first | omega | (simp; done) | (simp; omega)) _ | refine Below.setCell ?_ (by first | omega | (simp; done) | (simp; omega)) _)); first | exact Below.refl _ _ | assumption | exact below_drewN _ (Below.refl _ _) | exact below_drewN _ (below_drewN _ (Below.refl _ _)))) (hb3.mono (Below.size (show Below w2.heap.size w2 _ by ((repeat (first | refine Below.drew ?_ | (with_reducible refine below_drewN _ ?_) | refine Below.alloc ?_ (by first | omega | (simp; done) | (simp; omega)) _ | refine Below.setCell ?_ (by first | omega | (simp; done) | (simp; omega)) _)); first | exact Below.refl _ _ | assumption | exact below_drewN _ (Below.refl _ _) | exact below_drewN _ (below_drewN _ (Below.refl _ _)))))); clear hb3))
  have B3 := Lib.hid (Below.andThen B2.out hbD)
  clear q0 q1 hbD hbb
  have yy0 : ∀ w', Below w3.heap.size w3 w' → w'.cell? ⟨b, off, none⟩ = some (.slice P0 e0.1.length p0c) := fun w' hb' => y0 w' (Below.andThen B3.out hb')
  have yy1 : ∀ w', Below w3.heap.size w3 w' → w'.cell? ⟨b, off + 2, none⟩ = some (.slice P1 e1.1.length p1c) := fun w' hb' => y1 w' (Below.andThen B3.out hb')
  clear y0 y1
  have hbb := Below.refl w3.heap.size w3
  go_wp2_with fail
  go_region_held3 (fun w' => Below w3.heap.size w3 w') (((repeat (first | refine Below.drew ?_ | (with_reducible refine below_drewN _ ?_) | refine Below.alloc ?_ (by first | omega | (simp; done) | (simp; omega)) _ | refine Below.setCell ?_ (by first | omega | (simp; done) | (simp; omega)) _)); first | exact Below.refl _ _ | assumption | exact below_drewN _ (Below.refl _ _) | exact below_drewN _ (below_drewN _ (Below.refl _ _))))
    ((go_at_call 8; refine (HALIKE.out _).mono ?_; rintro e' w4 ⟨rfl, rfl⟩))
  clear yy0 yy1 hbb
  go_wp2_with fail
  go_ret
  exact ⟨rfl, B3.out.drew⟩
set_option maxRecDepth 100000 in
set_option maxHeartbeats 2000000 in
theorem nodePair_same {w : World} {A A' : Option Addr} {c c' : Nat} {L : List Ent} {q : List Nat} (h : Ents w w.heap.size A L) (hh : heavyB 3 L = false) (hl3 : L.length ≤ 3) (hl2 : 2 ≤ L.length) (hq : q.length ≤ 40) (hQ : Pts w w.heap.size A' q) (hall : ∀ e ∈ L, 1 ≤ e.1.length ∧ e.1.length ≤ 16) (hne : ∀ (e0 e1 : Ent), L[0]? = some e0 → L[1]? = some e1 → e0.1 = e1.1) :
    Calls Try.prog 3 #[.slice A L.length c, .slice A' q.length c'] w fun e w' => e = .returned (.bool true) ∧ Below w.heap.size w w' := by
  have hlm : L.length ≤ 1000 := by have := hl3; omega
  have HX := Lib.hid (And.intro h (And.intro hh (And.intro hl3 (And.intro hl2 (And.intro hq hQ)))))
  have HH : Hid (∀ w1, Below w.heap.size w w1 → Calls Try.prog 5 #[.slice A L.length c, .int .i64 3] w1 fun e w' => e = .returned (.bool false) ∧ w1 = w') := Lib.hid fun w1 hb1 => rheavy_c (HX.out.1.below hb1 (Nat.le_refl _) (Nat.le_refl _)) (by unfold maxLen; omega) 3 _ hh
  have HV : Hid (∀ w1, Below w.heap.size w w1 → Calls Try.prog 6 #[.slice A L.length c] w1 fun e w' => (((∃ e ∈ L, ¬ (1 ≤ e.1.length ∧ e.1.length ≤ 16)) ∧ e = .returned (.tuple #[.slice none 0 0, .bool false])) ∨
       ((∀ e ∈ L, 1 ≤ e.1.length ∧ e.1.length ≤ 16) ∧ ∃ D d ls, e = .returned (.tuple #[.slice D L.length d, .bool true]) ∧ OwnV 29 w' w1.heap.size (.slice D L.length d) (ptrsV ls) ∧ AllLeaves w' w'.heap.size L ls)) ∧ Below w1.heap.size w1 w') := Lib.hid fun w1 hb1 => leaves_c (HX.out.1.below hb1 (Nat.le_refl _) (Nat.le_refl _)) hb1.size hlm
  have d1 : decide ((L.length : Int) < 2) = false := decide_eq_false (by omega)
  have d1' : decide (L.length < 2) = false := decide_eq_false (by omega)
  have d2 : decide ((40 : Int) < (q.length : Int)) = false := decide_eq_false (by omega)
  have d2' : decide (40 < q.length) = false := decide_eq_false (by omega)
  obtain ⟨e0, he0⟩ := get_lt (us := L) (k := 0) (by omega)
  obtain ⟨e1, he1⟩ := get_lt (us := L) (k := 1) (by omega)
  have HE := Lib.hid (And.intro he0 he1)
  obtain ⟨b, off, P0, p0c, hA, hb, x0, -, pp0, -, -⟩ := h.at he0
  subst hA
  obtain ⟨b', off', P1, p1c, hA', -, x1, -, pp1, -, -⟩ := h.at he1
  simp only [Option.some.injEq, Addr.mk.injEq, and_true] at hA'
  obtain ⟨rfl, rfl⟩ := hA'
  rw [Nat.zero_mul, Nat.add_zero] at x0
  rw [Nat.one_mul] at x1
  have y0 : ∀ w', Below w.heap.size w w' → w'.cell? ⟨b, off, none⟩ = some (.slice P0 e0.1.length p0c) := fun w' hb' => (hb'.cell (p := ⟨b, off, none⟩) hb).trans x0
  have y1 : ∀ w', Below w.heap.size w w' → w'.cell? ⟨b, off + 2, none⟩ = some (.slice P1 e1.1.length p1c) := fun w' hb' => (hb'.cell (p := ⟨b, off + 2, none⟩) hb).trans x1
  have HPP := Lib.hid (And.intro pp0 pp1)
  have HA := Lib.hid (hall e0 (List.mem_of_getElem? he0))
  have HA1 := Lib.hid (hall e1 (List.mem_of_getElem? he1))
  have hne01 := hne e0 e1 he0 he1
  have HALL := Lib.hid hall
  have HALIKE : Hid (∀ w1, Calls Try.prog 8 #[.slice P0 e0.1.length p0c, .slice P1 e1.1.length p1c] w1 fun e w' => e = .returned (.bool true) ∧ w1 = w') := Lib.hid fun w1 => ralike_yes P0 P1 _ _ _ _ w1 HA.out.1 HA.out.2 (by rw [hne01])
  have HPAIR : Hid (∀ (w1 : World) {C : Nat} {wx : World}, Below C wx w1 → ∀ g0 g1, NdAt w1 C g0 (-1) e0.1 e0.2 none (Tr.s1 e0.2) → NdAt w1 C g1 (-1) e1.1 e1.2 none (Tr.s1 e1.2) → Calls Try.prog 7 #[.pointer (some ⟨g0, 0, none⟩), .pointer (some ⟨g1, 0, none⟩)] w1 fun e w' => e = .returned (.tuple #[.pointer none, .int .i64 3]) ∧ Below w1.heap.size w1 w') := Lib.hid fun w1 _ _ _ g0 g1 k0 k1 => nPair_arg k0 k1 HA.out.1 HA.out.2 (by rw [hne01]) (by rw [hne01, Z.part_same e1.1 HPP.out.2.1]; omega)
  have HSAME : Hid (∀ w1, Below w.heap.size w w1 → Calls Try.prog 9 #[.slice P0 e0.1.length p0c, .slice P1 e1.1.length p1c] w1 fun e w' => e = .returned (.bool true) ∧ Below w1.heap.size w1 w') := Lib.hid fun w1 hb1 =>
    (rsame_c P0 P1 p0c p1c e0.1 e1.1 w.heap.size w1 (HPP.out.1.below' hb1 (Nat.le_refl _)) (HPP.out.2.below' hb1 (Nat.le_refl _)) hb1.size (by have := HA.out.2; unfold maxLen; omega)).mono fun _ _ ⟨he, hw⟩ => ⟨by rw [he, decide_eq_true hne01], hw⟩
  clear h hh hQ hq hall hne he0 he1 x0 x1 pp0 pp1 hne01
  go_enter Try.func3, Try.ntmps3
  go_wp2_with fail
  refine (awake6_c w).mono ?_
  rintro e w1 ⟨rfl, hb1⟩
  have B1 := Lib.hid hb1
  clear hb1
  go_wp2_with fail
  refine (HH.out w1 B1.out).mono ?_
  rintro e w' ⟨rfl, rfl⟩
  go_wp2_with fail
  refine (HV.out w1 B1.out).mono ?_
  rintro e w2 ⟨⟨⟨e, he, hn⟩, -⟩ | ⟨-, D, d, ls, rfl, hown, hal⟩, hb2⟩
  · exact absurd (HALL.out e he) hn
  obtain ⟨t0, ht0⟩ := get_lt (us := ls) (k := 0) (by rw [hal.1]; omega)
  obtain ⟨t1, ht1⟩ := get_lt (us := ls) (k := 1) (by rw [hal.1]; omega)
  obtain ⟨g0, rfl, hn0⟩ := leaf_nd (hal.2 0 e0 t0 HE.out.1 ht0)
  obtain ⟨g1, rfl, hn1⟩ := leaf_nd (hal.2 1 e1 t1 HE.out.2 ht1)
  obtain ⟨pb, po, hD, hpb, z0⟩ := (OwnV.rd_at hown).at (i := 0) (v := .pointer (some ⟨g0, 0, none⟩)) (by simp [ptrsV, ht0, ndV, T.blk])
  obtain ⟨pb', po', hD', -, z1⟩ := (OwnV.rd_at hown).at (i := 1) (v := .pointer (some ⟨g1, 0, none⟩)) (by simp [ptrsV, ht1, ndV, T.blk])
  subst hD
  simp only [Option.some.injEq, Addr.mk.injEq, and_true] at hD'
  obtain ⟨rfl, rfl⟩ := hD'
  rw [Nat.add_zero] at z0
  have B2 := Lib.hid (Below.andThen B1.out hb2)
  have q0 : ∀ w', Below w2.heap.size w2 w' → w'.cell? ⟨pb, po, none⟩ = some (.pointer (some ⟨g0, 0, none⟩)) := fun w' hb' => (hb'.cell (p := ⟨pb, po, none⟩) hpb).trans z0
  have q1 : ∀ w', Below w2.heap.size w2 w' → w'.cell? ⟨pb, po + 1, none⟩ = some (.pointer (some ⟨g1, 0, none⟩)) := fun w' hb' => (hb'.cell (p := ⟨pb, po + 1, none⟩) hpb).trans z1
  have HNN := Lib.hid (And.intro hn0 hn1)
  have m0 : (0 : Int) < (L.length : Int) := by omega
  have m1 : (1 : Int) < (L.length : Int) := by omega
  have m0' : 0 < L.length := by omega
  have m1' : 1 < L.length := by omega
  clear hown hal hn0 hn1 z0 z1 hb2 ht0 ht1 hl3 hl2 hlm
  go_wp2_with fail
  have hbb := Below.refl w2.heap.size w2
  go_region_held3 (fun w' => Below w2.heap.size w2 w') (((repeat (first | refine Below.drew ?_ | (with_reducible refine below_drewN _ ?_) | refine Below.alloc ?_ (by first | omega | (simp; done) | (simp; omega)) _ | refine Below.setCell ?_ (by first | omega | (simp; done) | (simp; omega)) _)); first | exact Below.refl _ _ | assumption | exact below_drewN _ (Below.refl _ _) | exact below_drewN _ (below_drewN _ (Below.refl _ _))))
    ((go_at_call 7; refine (HPAIR.out _ (show Below w2.heap.size w2 _ by ((repeat (first | refine Below.drew ?_ | (with_reducible refine below_drewN _ ?_) | refine Below.alloc ?_ (by first | omega | (simp; done) | (simp; omega)) _ | refine Below.setCell ?_ (by first | omega | (simp; done) | (simp; omega)) _)); first | exact Below.refl _ _ | assumption | exact below_drewN _ (Below.refl _ _) | exact below_drewN _ (below_drewN _ (Below.refl _ _)))) g0 g1 (HNN.out.1.below (show Below w2.heap.size w2 _ by ((repeat (first | refine Below.drew ?_ | (with_reducible refine below_drewN _ ?_) | refine Below.alloc ?_ (by first | omega | (simp; done) | (simp; omega)) _ | refine Below.setCell ?_ (by first | omega | (simp; done) | (simp; omega)) _)); first | exact Below.refl _ _ | assumption | exact below_drewN _ (Below.refl _ _) | exact below_drewN _ (below_drewN _ (Below.refl _ _)))) (Nat.le_refl _) (Nat.le_refl _)) (HNN.out.2.below (show Below w2.heap.size w2 _ by ((repeat (first | refine Below.drew ?_ | (with_reducible refine below_drewN _ ?_) | refine Below.alloc ?_ (by first | omega | (simp; done) | (simp; omega)) _ | refine Below.setCell ?_ (by first | omega | (simp; done) | (simp; omega)) _)); first | exact Below.refl _ _ | assumption | exact below_drewN _ (Below.refl _ _) | exact below_drewN _ (below_drewN _ (Below.refl _ _)))) (Nat.le_refl _) (Nat.le_refl _))).mono ?_; rintro e' w3 ⟨rfl, hb3⟩; have hbD := Below.trans (show Below w2.heap.size w2 _ by ((repeat (first | refine Below.drew ?_ | (with_reducible refine below_drewN _ ?_) | refine Below.alloc ?_ (by first | omega | (simp; done) | (simp; omega)) _ | refine Below.setCell ?_ (by first | omega | (simp; done) | (simp; omega)) _)); first | exact Below.refl _ _ | assumption | exact below_drewN _ (Below.refl _ _) | exact below_drewN _ (below_drewN _ (Below.refl _ _)))) (hb3.mono (Below.size (show Below w2.heap.size w2 _ by ((repeat (first | refine Below.drew ?_ | (with_reducible refine below_drewN _ ?_) | refine Below.alloc ?_ (by first | omega | (simp; done) | (simp; omega)) _ | refine Below.setCell ?_ (by first | omega | (simp; done) | (simp; omega)) _)); first | exact Below.refl _ _ | assumption | exact below_drewN _ (Below.refl _ _) | exact below_drewN _ (below_drewN _ (Below.refl _ _)))))); clear hb3))
  have B3 := Lib.hid (Below.andThen B2.out hbD)
  clear q0 q1 hbD hbb
  have yy0 : ∀ w', Below w3.heap.size w3 w' → w'.cell? ⟨b, off, none⟩ = some (.slice P0 e0.1.length p0c) := fun w' hb' => y0 w' (Below.andThen B3.out hb')
  have yy1 : ∀ w', Below w3.heap.size w3 w' → w'.cell? ⟨b, off + 2, none⟩ = some (.slice P1 e1.1.length p1c) := fun w' hb' => y1 w' (Below.andThen B3.out hb')
  clear y0 y1
  have hbb := Below.refl w3.heap.size w3
  go_wp2_with fail
  go_region_held3 (fun w' => Below w3.heap.size w3 w') (((repeat (first | refine Below.drew ?_ | (with_reducible refine below_drewN _ ?_) | refine Below.alloc ?_ (by first | omega | (simp; done) | (simp; omega)) _ | refine Below.setCell ?_ (by first | omega | (simp; done) | (simp; omega)) _)); first | exact Below.refl _ _ | assumption | exact below_drewN _ (Below.refl _ _) | exact below_drewN _ (below_drewN _ (Below.refl _ _))))
    ((go_at_call 8; refine (HALIKE.out _).mono ?_; rintro e' w4 ⟨rfl, rfl⟩))
  go_wp2_with fail
  go_region_held3 (fun w' => Below w3.heap.size w3 w') (((repeat (first | refine Below.drew ?_ | (with_reducible refine below_drewN _ ?_) | refine Below.alloc ?_ (by first | omega | (simp; done) | (simp; omega)) _ | refine Below.setCell ?_ (by first | omega | (simp; done) | (simp; omega)) _)); first | exact Below.refl _ _ | assumption | exact below_drewN _ (Below.refl _ _) | exact below_drewN _ (below_drewN _ (Below.refl _ _))))
    ((go_at_call 9; refine (HSAME.out _ (Below.andThen B3.out (show Below w3.heap.size w3 _ by ((repeat (first | refine Below.drew ?_ | (with_reducible refine below_drewN _ ?_) | refine Below.alloc ?_ (by first | omega | (simp; done) | (simp; omega)) _ | refine Below.setCell ?_ (by first | omega | (simp; done) | (simp; omega)) _)); first | exact Below.refl _ _ | assumption | exact below_drewN _ (Below.refl _ _) | exact below_drewN _ (below_drewN _ (Below.refl _ _)))))).mono ?_; rintro e' w5 ⟨rfl, hb5⟩; have hbD := Below.trans (show Below w3.heap.size w3 _ by ((repeat (first | refine Below.drew ?_ | (with_reducible refine below_drewN _ ?_) | refine Below.alloc ?_ (by first | omega | (simp; done) | (simp; omega)) _ | refine Below.setCell ?_ (by first | omega | (simp; done) | (simp; omega)) _)); first | exact Below.refl _ _ | assumption | exact below_drewN _ (Below.refl _ _) | exact below_drewN _ (below_drewN _ (Below.refl _ _)))) (hb5.mono (Below.size (show Below w3.heap.size w3 _ by ((repeat (first | refine Below.drew ?_ | (with_reducible refine below_drewN _ ?_) | refine Below.alloc ?_ (by first | omega | (simp; done) | (simp; omega)) _ | refine Below.setCell ?_ (by first | omega | (simp; done) | (simp; omega)) _)); first | exact Below.refl _ _ | assumption | exact below_drewN _ (Below.refl _ _) | exact below_drewN _ (below_drewN _ (Below.refl _ _)))))); clear hb5))
  clear yy0 yy1 hbb
  go_wp2_with fail
  go_ret
  exact ⟨rfl, Below.andThen B3.out hbD⟩
end Go.Proofs.Ytgplbbmenmbaaaa

/-
  THE LAW NodePair, third part: the pair of two entries is that of their list.
-/
namespace Go.Proofs.Ytgplbbmenmbaaaa
open Go.ChangeShapes Go.WideShapes Go.ChangeAt Go.RowKit
open Tr (T S4 Ent)

/-- the pair of a node and an entry that it doesn't cover has the entries of the list with that entry put -/
theorem pair_ents {k g g' l v : Nat} {a : T} {p : List Nat} (ha : Tr.Wf k a) (hp : p.length = k) (ho : Z.Ok p) (hc : Tr.covers a p = false) (hl : Z.part a.pre p = (l : Int))
    (hw : Tr.Wf k (.br g l (Z.cut a.pre (l + 1)) (Sl.put (Z.addr p l) (.ent g' p v) (Sl.put (Z.addr a.pre l) a [])))) :
    (T.br g l (Z.cut a.pre (l + 1)) (Sl.put (Z.addr p l) (.ent g' p v) (Sl.put (Z.addr a.pre l) a []))).ents = Tr.putE p v a.ents := by
  have hx : Tr.PutX p v (some a) (.br g l (Z.cut a.pre (l + 1)) (Sl.put (Z.addr p l) (.ent g' p v) (Sl.put (Z.addr a.pre l) a []))) := .inr ⟨a, g, g', l, rfl, hc, hl, rfl⟩
  have ht := Tr.putX_turned hp ho (y := some a) (fun t e => by cases e; exact ha) hx
  exact turned_put ha.zs ha.dim hp ho hw.zs ht
theorem put_one (p : List Nat) (v : Nat) : Tr.putE p v [] = [(p, v)] := by simp [Tr.putE, Tr.K, Sl.put]
theorem allE_two {k : Nat} {e0 e1 : Ent} (h0 : e0.1.length = k) (h1 : e1.1.length = k) : allE k [e0, e1] = Tr.putE e1.1 e1.2 [e0] := by
  simp [allE, h0, h1, put_one]
theorem take_two {L : List Ent} {e0 e1 : Ent} (h0 : L[0]? = some e0) (h1 : L[1]? = some e1) : L.take 2 = [e0, e1] := by
  match L, h0, h1 with
  | a :: b :: r, h0, h1 => simp at h0 h1; subst h0 h1; rfl
theorem all_three {L : List Ent} {e2 : Ent} (h2 : L[2]? = some e2) (hl : L.length = 3) (k : Nat) (hk : e2.1.length = k) : allE k L = Tr.putE e2.1 e2.2 (allE k (L.take 2)) := by
  have : L = L.take 2 ++ [e2] := by
    match L, h2, hl with
    | [a, b, c], h2, _ => simp at h2; subst h2; rfl
  conv => lhs; rw [this]
  rw [allE_snoc, if_pos hk]
/-- where two points of one K part -/
theorem part_lv {p q : List Nat} (h : p.length = q.length) (hp : Z.Ok p) (hq : Z.Ok q) (hne : p ≠ q) : ∃ l : Nat, Z.part p q = (l : Int) ∧ l ≤ 63 := by
  rcases Z.part_spec h hp hq with ⟨_, e⟩ | ⟨l, hl, e, _⟩
  · exact absurd e hne
  · exact ⟨l, e, by omega⟩
theorem ent_covers {g v : Nat} {p q : List Nat} (h : p.length = q.length) (hp : Z.Ok p) (hq : Z.Ok q) (hne : p ≠ q) : Tr.covers (.ent g p v) q = false := by
  obtain ⟨l, e, _⟩ := part_lv h hp hq hne
  unfold Tr.covers levI
  rw [decide_eq_false_iff_not]
  show ¬ Z.part p q ≤ ((0 : Nat) : Int) - 1
  omega
end Go.Proofs.Ytgplbbmenmbaaaa

/-
  THE LAW NodePair, fourth part (laid by wip/gen8.py): the pair of two entries, and what is asked of it.
-/
namespace Go.Proofs.Ytgplbbmenmbaaaa
open Go.ChangeShapes Go.WideShapes Go.ChangeAt Go.RowKit
open Tr (T S4 Ent)

/-- Is, of a node and the list of its entries, wherever that lies -/
theorem is_list {w : World} {B B' R k c : Nat} {t : T} {A : Option Addr} {L : List Ent} (hn : Node w B k t) (hL : t.ents = L) (h : EntL w B' R A L) (hB : B ≤ w.heap.size) (hB' : B' ≤ w.heap.size) (hR : R ≤ w.heap.size) (hc : L.length ≤ c) (hl : L.length ≤ 1000000) :
    Calls Try.prog 11 #[.pointer (some ⟨t.blk, 0, none⟩), .slice A L.length c] w fun e w' => e = .returned (.bool true) ∧ Below w.heap.size w w' := by
  subst hL
  obtain ⟨b, off, hA, -, -⟩ := h hn.1.ne
  subst hA
  exact is_all k t w w.heap.size b off c (hn.below (Below.refl w.heap.size w) hB hB) (h.ents hB' hR) (Nat.le_refl _) hc hl
/-- the pair of two leaves -/
abbrev two (l g0 g1 g' : Nat) (e0 e1 : Ent) : T := .br g' l (Z.cut e0.1 (l + 1)) (Sl.put (Z.addr e1.1 l) (.ent g1 e1.1 e1.2) (Sl.put (Z.addr e0.1 l) (.ent g0 e0.1 e0.2) []))
set_option maxRecDepth 100000 in
set_option maxHeartbeats 2000000 in
theorem nodePair_two {w : World} {A A' : Option Addr} {c c' : Nat} {L : List Ent} {q : List Nat} (h : Ents w w.heap.size A L) (hh : heavyB 3 L = false) (hl3 : L.length ≤ 3) (hl2 : 2 ≤ L.length) (hq : q.length ≤ 40) (hQ : Pts w w.heap.size A' q) (hcap : L.length ≤ c) (h2 : L.length = 2) (hall : ∀ e ∈ L, 1 ≤ e.1.length ∧ e.1.length ≤ 16) (hk : ∀ (e0 e1 : Ent), L[0]? = some e0 → L[1]? = some e1 → e0.1.length = e1.1.length) (hne : ∀ (e0 e1 : Ent), L[0]? = some e0 → L[1]? = some e1 → e0.1 ≠ e1.1) :
    Calls Try.prog 3 #[.slice A L.length c, .slice A' q.length c'] w fun e w' => e = .returned (.bool true) ∧ Below w.heap.size w w' := by
  have hlm : L.length ≤ 1000 := by have := hl3; omega
  have HX := Lib.hid (And.intro h (And.intro hh (And.intro hl3 (And.intro hl2 (And.intro hq hQ)))))
  have HH : Hid (∀ w1, Below w.heap.size w w1 → Calls Try.prog 5 #[.slice A L.length c, .int .i64 3] w1 fun e w' => e = .returned (.bool false) ∧ w1 = w') := Lib.hid fun w1 hb1 => rheavy_c (HX.out.1.below hb1 (Nat.le_refl _) (Nat.le_refl _)) (by unfold maxLen; omega) 3 _ hh
  have HV : Hid (∀ w1, Below w.heap.size w w1 → Calls Try.prog 6 #[.slice A L.length c] w1 fun e w' => (((∃ e ∈ L, ¬ (1 ≤ e.1.length ∧ e.1.length ≤ 16)) ∧ e = .returned (.tuple #[.slice none 0 0, .bool false])) ∨
       ((∀ e ∈ L, 1 ≤ e.1.length ∧ e.1.length ≤ 16) ∧ ∃ D d ls, e = .returned (.tuple #[.slice D L.length d, .bool true]) ∧ OwnV 29 w' w1.heap.size (.slice D L.length d) (ptrsV ls) ∧ AllLeaves w' w'.heap.size L ls)) ∧ Below w1.heap.size w1 w') := Lib.hid fun w1 hb1 => leaves_c (HX.out.1.below hb1 (Nat.le_refl _) (Nat.le_refl _)) hb1.size hlm
  have d1 : decide ((L.length : Int) < 2) = false := decide_eq_false (by omega)
  have d1' : decide (L.length < 2) = false := decide_eq_false (by omega)
  have d2 : decide ((40 : Int) < (q.length : Int)) = false := decide_eq_false (by omega)
  have d2' : decide (40 < q.length) = false := decide_eq_false (by omega)
  obtain ⟨e0, he0⟩ := get_lt (us := L) (k := 0) (by omega)
  obtain ⟨e1, he1⟩ := get_lt (us := L) (k := 1) (by omega)
  have HE := Lib.hid (And.intro he0 he1)
  obtain ⟨b, off, P0, p0c, hA, hb, x0, -, pp0, -, -⟩ := h.at he0
  subst hA
  obtain ⟨b', off', P1, p1c, hA', -, x1, -, pp1, -, -⟩ := h.at he1
  simp only [Option.some.injEq, Addr.mk.injEq, and_true] at hA'
  obtain ⟨rfl, rfl⟩ := hA'
  rw [Nat.zero_mul, Nat.add_zero] at x0
  rw [Nat.one_mul] at x1
  have y0 : ∀ w', Below w.heap.size w w' → w'.cell? ⟨b, off, none⟩ = some (.slice P0 e0.1.length p0c) := fun w' hb' => (hb'.cell (p := ⟨b, off, none⟩) hb).trans x0
  have y1 : ∀ w', Below w.heap.size w w' → w'.cell? ⟨b, off + 2, none⟩ = some (.slice P1 e1.1.length p1c) := fun w' hb' => (hb'.cell (p := ⟨b, off + 2, none⟩) hb).trans x1
  have HPP := Lib.hid (And.intro pp0 pp1)
  have HA := Lib.hid (hall e0 (List.mem_of_getElem? he0))
  have HA1 := Lib.hid (hall e1 (List.mem_of_getElem? he1))
  have hk01 := hk e0 e1 he0 he1
  have hne01 := hne e0 e1 he0 he1
  have HALL := Lib.hid hall
  have HFIT := Lib.hid (EntL.fit h)
  obtain ⟨l, hpart, h63⟩ := part_lv hk01 pp0.1 pp1.1 hne01
  have HL := Lib.hid (And.intro hpart (And.intro h63 (And.intro hk01 hne01)))
  have HALIKE : Hid (∀ w1, Calls Try.prog 8 #[.slice P0 e0.1.length p0c, .slice P1 e1.1.length p1c] w1 fun e w' => e = .returned (.bool true) ∧ w1 = w') := Lib.hid fun w1 => ralike_yes P0 P1 _ _ _ _ w1 HA.out.1 HA.out.2 hk01
  have HPAIR : Hid (∀ (w1 wx : World), Below wx.heap.size wx w1 → ∀ g0 g1, Node w1 wx.heap.size e0.1.length (.ent g0 e0.1 e0.2) → Node w1 wx.heap.size e1.1.length (.ent g1 e1.1 e1.2) → Calls Try.prog 7 #[.pointer (some ⟨g0, 0, none⟩), .pointer (some ⟨g1, 0, none⟩)] w1 fun e w' => ∃ g', e = .returned (.tuple #[.pointer (some ⟨g', 0, none⟩), .int .i64 0]) ∧ Node w' w'.heap.size e0.1.length (two l g0 g1 g' e0 e1) ∧ Below w1.heap.size w1 w') := Lib.hid fun w1 wx hbx g0 g1 k0 k1 => by
    rw [← hk01] at k1
    refine (nPair_c (l := l) k0 k1 hbx.size hpart (Nat.zero_le _) (Nat.zero_le _) (by rw [Tr.ents_ent, Tr.ents_ent]; simp only [List.length_cons, List.length_nil]; omega)).mono ?_
    rintro e w' ⟨g', he, hn, -, hb⟩
    exact ⟨g', he, hn, hb⟩
  have HSAME : Hid (∀ w1, Below w.heap.size w w1 → Calls Try.prog 9 #[.slice P0 e0.1.length p0c, .slice P1 e1.1.length p1c] w1 fun e w' => e = .returned (.bool false) ∧ Below w1.heap.size w1 w') := Lib.hid fun w1 hb1 =>
    (rsame_c P0 P1 p0c p1c e0.1 e1.1 w.heap.size w1 (HPP.out.1.below' hb1 (Nat.le_refl _)) (HPP.out.2.below' hb1 (Nat.le_refl _)) hb1.size (by have := HA.out.2; unfold maxLen; omega)).mono fun _ _ ⟨he, hw⟩ => ⟨by rw [he, decide_eq_false hne01], hw⟩
  obtain ⟨A2, hcut2, hlst2⟩ := lst_hi (Q := EntQ w w.heap.size) 22 36 Try.underlying22 infoE2 (some ⟨b, off, none⟩) L.length c 2 (by omega) hcap
  have hcut3 : ∀ w, (Instr.sliceAt 22 (.slice (some ⟨b, off, none⟩) L.length c) none (some (.int .i64 2)) none).run Try.prog w = .ok (.slice A2 2 c) w := fun w => hcut2 w
  clear hcut2
  have hE2 : EntL w w.heap.size w.heap.size A2 (L.take 2) := hlst2 w _ L rfl h
  have hlt2 : (L.take 2).length = 2 := by simp; omega
  have HALL2 : Hid (∀ w1, Below w.heap.size w w1 → Calls Try.prog 10 #[.int .i64 (e0.1.length : Int), .slice A2 2 c] w1 fun e w' => ∃ D d, e = .returned (.slice D (allE e0.1.length (L.take 2)).length d) ∧ EntL w' w.heap.size w'.heap.size D (allE e0.1.length (L.take 2)) ∧ (allE e0.1.length (L.take 2)).length ≤ d ∧ Below w1.heap.size w1 w') := Lib.hid fun w1 hb1 => by
    have h9 := rall6_c (c := c) (hE2.below hb1 (Nat.le_refl _) (Nat.le_refl _) (Nat.le_refl _)) hb1.size hb1.size HA.out.1 HA.out.2 (by omega)
    rw [hlt2] at h9
    exact h9
  have HA2 := Lib.hid (show allE e0.1.length (L.take 2) = Tr.putE e1.1 e1.2 [e0] by rw [take_two he0 he1]; exact allE_two rfl hk01.symm)
  have HY0 := Lib.hid y0
  have d3 : decide ((L.length : Int) < 3) = true := decide_eq_true (by omega)
  have d3' : decide (L.length < 3) = true := decide_eq_true (by omega)
  clear h2
  clear h hh hQ hq hall hne hk he0 he1 x0 x1 pp0 pp1 hne01 hk01 hpart h63 hlst2 hE2 hlt2 hcap
  go_enter Try.func3, Try.ntmps3
  go_wp2_with fail
  refine (awake6_c w).mono ?_
  rintro e w1 ⟨rfl, hb1⟩
  have B1 := Lib.hid hb1
  clear hb1
  go_wp2_with fail
  refine (HH.out w1 B1.out).mono ?_
  rintro e w' ⟨rfl, rfl⟩
  go_wp2_with fail
  refine (HV.out w1 B1.out).mono ?_
  rintro e w2 ⟨⟨⟨e, he, hn⟩, -⟩ | ⟨-, D, d, ls, rfl, hown, hal⟩, hb2⟩
  · exact absurd (HALL.out e he) hn
  obtain ⟨t0, ht0⟩ := get_lt (us := ls) (k := 0) (by rw [hal.1]; omega)
  obtain ⟨t1, ht1⟩ := get_lt (us := ls) (k := 1) (by rw [hal.1]; omega)
  obtain ⟨g0, rfl, hn0⟩ := hal.2 0 e0 t0 HE.out.1 ht0
  obtain ⟨g1, rfl, hn1⟩ := hal.2 1 e1 t1 HE.out.2 ht1
  obtain ⟨pb, po, hD, hpb, z0⟩ := (OwnV.rd_at hown).at (i := 0) (v := .pointer (some ⟨g0, 0, none⟩)) (by simp [ptrsV, ht0, ndV, T.blk])
  obtain ⟨pb', po', hD', -, z1⟩ := (OwnV.rd_at hown).at (i := 1) (v := .pointer (some ⟨g1, 0, none⟩)) (by simp [ptrsV, ht1, ndV, T.blk])
  subst hD
  simp only [Option.some.injEq, Addr.mk.injEq, and_true] at hD'
  obtain ⟨rfl, rfl⟩ := hD'
  rw [Nat.add_zero] at z0
  have B2 := Lib.hid (Below.andThen B1.out hb2)
  have q0 : ∀ w', Below w2.heap.size w2 w' → w'.cell? ⟨pb, po, none⟩ = some (.pointer (some ⟨g0, 0, none⟩)) := fun w' hb' => (hb'.cell (p := ⟨pb, po, none⟩) hpb).trans z0
  have q1 : ∀ w', Below w2.heap.size w2 w' → w'.cell? ⟨pb, po + 1, none⟩ = some (.pointer (some ⟨g1, 0, none⟩)) := fun w' hb' => (hb'.cell (p := ⟨pb, po + 1, none⟩) hpb).trans z1
  have HNN := Lib.hid (And.intro hn0 hn1)
  have m0 : (0 : Int) < (L.length : Int) := by omega
  have m1 : (1 : Int) < (L.length : Int) := by omega
  have m0' : 0 < L.length := by omega
  have m1' : 1 < L.length := by omega
  clear hown hal hn0 hn1 z0 z1 hb2 ht0 ht1 hl3 hl2 hlm
  go_wp2_with fail
  have hbb := Below.refl w2.heap.size w2
  go_region_held3 (fun w' => Below w2.heap.size w2 w') (((repeat (first | refine Below.drew ?_ | (with_reducible refine below_drewN _ ?_) | refine Below.alloc ?_ (by first | omega | (simp; done) | (simp; omega)) _ | refine Below.setCell ?_ (by first | omega | (simp; done) | (simp; omega)) _)); first | exact Below.refl _ _ | assumption | exact below_drewN _ (Below.refl _ _) | exact below_drewN _ (below_drewN _ (Below.refl _ _))))
    ((go_at_call 7; refine (HPAIR.out _ _ (show Below w2.heap.size w2 _ by ((repeat (first | refine Below.drew ?_ | (with_reducible refine below_drewN _ ?_) | refine Below.alloc ?_ (by first | omega | (simp; done) | (simp; omega)) _ | refine Below.setCell ?_ (by first | omega | (simp; done) | (simp; omega)) _)); first | exact Below.refl _ _ | assumption | exact below_drewN _ (Below.refl _ _) | exact below_drewN _ (below_drewN _ (Below.refl _ _)))) g0 g1 (HNN.out.1.below (show Below w2.heap.size w2 _ by ((repeat (first | refine Below.drew ?_ | (with_reducible refine below_drewN _ ?_) | refine Below.alloc ?_ (by first | omega | (simp; done) | (simp; omega)) _ | refine Below.setCell ?_ (by first | omega | (simp; done) | (simp; omega)) _)); first | exact Below.refl _ _ | assumption | exact below_drewN _ (Below.refl _ _) | exact below_drewN _ (below_drewN _ (Below.refl _ _)))) (Nat.le_refl _) (Nat.le_refl _)) (HNN.out.2.below (show Below w2.heap.size w2 _ by ((repeat (first | refine Below.drew ?_ | (with_reducible refine below_drewN _ ?_) | refine Below.alloc ?_ (by first | omega | (simp; done) | (simp; omega)) _ | refine Below.setCell ?_ (by first | omega | (simp; done) | (simp; omega)) _)); first | exact Below.refl _ _ | assumption | exact below_drewN _ (Below.refl _ _) | exact below_drewN _ (below_drewN _ (Below.refl _ _)))) (Nat.le_refl _) (Nat.le_refl _))).mono ?_; rintro e' w3 ⟨g', rfl, hnp, hb3⟩; have hbD := Below.trans (show Below w2.heap.size w2 _ by ((repeat (first | refine Below.drew ?_ | (with_reducible refine below_drewN _ ?_) | refine Below.alloc ?_ (by first | omega | (simp; done) | (simp; omega)) _ | refine Below.setCell ?_ (by first | omega | (simp; done) | (simp; omega)) _)); first | exact Below.refl _ _ | assumption | exact below_drewN _ (Below.refl _ _) | exact below_drewN _ (below_drewN _ (Below.refl _ _)))) (hb3.mono (Below.size (show Below w2.heap.size w2 _ by ((repeat (first | refine Below.drew ?_ | (with_reducible refine below_drewN _ ?_) | refine Below.alloc ?_ (by first | omega | (simp; done) | (simp; omega)) _ | refine Below.setCell ?_ (by first | omega | (simp; done) | (simp; omega)) _)); first | exact Below.refl _ _ | assumption | exact below_drewN _ (Below.refl _ _) | exact below_drewN _ (below_drewN _ (Below.refl _ _)))))); have HNP := Lib.hid hnp; clear hb3 hnp))
  have B3 := Lib.hid (Below.andThen B2.out hbD)
  clear q0 q1 hbD hbb
  have yy0 : ∀ w', Below w3.heap.size w3 w' → w'.cell? ⟨b, off, none⟩ = some (.slice P0 e0.1.length p0c) := fun w' hb' => y0 w' (Below.andThen B3.out hb')
  have yy1 : ∀ w', Below w3.heap.size w3 w' → w'.cell? ⟨b, off + 2, none⟩ = some (.slice P1 e1.1.length p1c) := fun w' hb' => y1 w' (Below.andThen B3.out hb')
  clear y0 y1
  have hbb := Below.refl w3.heap.size w3
  go_wp2_with fail
  go_region_held3 (fun w' => Below w3.heap.size w3 w') (((repeat (first | refine Below.drew ?_ | (with_reducible refine below_drewN _ ?_) | refine Below.alloc ?_ (by first | omega | (simp; done) | (simp; omega)) _ | refine Below.setCell ?_ (by first | omega | (simp; done) | (simp; omega)) _)); first | exact Below.refl _ _ | assumption | exact below_drewN _ (Below.refl _ _) | exact below_drewN _ (below_drewN _ (Below.refl _ _))))
    ((go_at_call 8; refine (HALIKE.out _).mono ?_; rintro e' w4 ⟨rfl, rfl⟩))
  go_wp2_with fail
  go_region_held3 (fun w' => Below w3.heap.size w3 w') (((repeat (first | refine Below.drew ?_ | (with_reducible refine below_drewN _ ?_) | refine Below.alloc ?_ (by first | omega | (simp; done) | (simp; omega)) _ | refine Below.setCell ?_ (by first | omega | (simp; done) | (simp; omega)) _)); first | exact Below.refl _ _ | assumption | exact below_drewN _ (Below.refl _ _) | exact below_drewN _ (below_drewN _ (Below.refl _ _))))
    ((go_at_call 9; refine (HSAME.out _ (Below.andThen B3.out (show Below w3.heap.size w3 _ by ((repeat (first | refine Below.drew ?_ | (with_reducible refine below_drewN _ ?_) | refine Below.alloc ?_ (by first | omega | (simp; done) | (simp; omega)) _ | refine Below.setCell ?_ (by first | omega | (simp; done) | (simp; omega)) _)); first | exact Below.refl _ _ | assumption | exact below_drewN _ (Below.refl _ _) | exact below_drewN _ (below_drewN _ (Below.refl _ _)))))).mono ?_; rintro e' w5 ⟨rfl, hb5⟩; have hbD := Below.trans (show Below w3.heap.size w3 _ by ((repeat (first | refine Below.drew ?_ | (with_reducible refine below_drewN _ ?_) | refine Below.alloc ?_ (by first | omega | (simp; done) | (simp; omega)) _ | refine Below.setCell ?_ (by first | omega | (simp; done) | (simp; omega)) _)); first | exact Below.refl _ _ | assumption | exact below_drewN _ (Below.refl _ _) | exact below_drewN _ (below_drewN _ (Below.refl _ _)))) (hb5.mono (Below.size (show Below w3.heap.size w3 _ by ((repeat (first | refine Below.drew ?_ | (with_reducible refine below_drewN _ ?_) | refine Below.alloc ?_ (by first | omega | (simp; done) | (simp; omega)) _ | refine Below.setCell ?_ (by first | omega | (simp; done) | (simp; omega)) _)); first | exact Below.refl _ _ | assumption | exact below_drewN _ (Below.refl _ _) | exact below_drewN _ (below_drewN _ (Below.refl _ _)))))); clear hb5))
  have B5 := Lib.hid (Below.andThen B3.out hbD)
  have HNP5 := Lib.hid (HNP.out.below hbD (Nat.le_refl _) hbD.size)
  clear hbD hbb
  have zz0 : ∀ w', Below w5.heap.size w5 w' → w'.cell? ⟨b, off, none⟩ = some (.slice P0 e0.1.length p0c) := fun w' hb' => HY0.out w' (Below.andThen B5.out hb')
  have hbb := Below.refl w5.heap.size w5
  clear yy0 yy1
  go_wp2_with fail
  go_region_held3 (fun w' => Below w5.heap.size w5 w') (((repeat (first | refine Below.drew ?_ | (with_reducible refine below_drewN _ ?_) | refine Below.alloc ?_ (by first | omega | (simp; done) | (simp; omega)) _ | refine Below.setCell ?_ (by first | omega | (simp; done) | (simp; omega)) _)); first | exact Below.refl _ _ | assumption | exact below_drewN _ (Below.refl _ _) | exact below_drewN _ (below_drewN _ (Below.refl _ _))))
    ((go_at_call 10; refine (HALL2.out _ (Below.andThen B5.out (show Below w5.heap.size w5 _ by ((repeat (first | refine Below.drew ?_ | (with_reducible refine below_drewN _ ?_) | refine Below.alloc ?_ (by first | omega | (simp; done) | (simp; omega)) _ | refine Below.setCell ?_ (by first | omega | (simp; done) | (simp; omega)) _)); first | exact Below.refl _ _ | assumption | exact below_drewN _ (Below.refl _ _) | exact below_drewN _ (below_drewN _ (Below.refl _ _)))))).mono ?_; rintro e' w6 ⟨D2, d2, rfl, hel, hcl, hb6⟩; have hbD := Below.trans (show Below w5.heap.size w5 _ by ((repeat (first | refine Below.drew ?_ | (with_reducible refine below_drewN _ ?_) | refine Below.alloc ?_ (by first | omega | (simp; done) | (simp; omega)) _ | refine Below.setCell ?_ (by first | omega | (simp; done) | (simp; omega)) _)); first | exact Below.refl _ _ | assumption | exact below_drewN _ (Below.refl _ _) | exact below_drewN _ (below_drewN _ (Below.refl _ _)))) (hb6.mono (Below.size (show Below w5.heap.size w5 _ by ((repeat (first | refine Below.drew ?_ | (with_reducible refine below_drewN _ ?_) | refine Below.alloc ?_ (by first | omega | (simp; done) | (simp; omega)) _ | refine Below.setCell ?_ (by first | omega | (simp; done) | (simp; omega)) _)); first | exact Below.refl _ _ | assumption | exact below_drewN _ (Below.refl _ _) | exact below_drewN _ (below_drewN _ (Below.refl _ _)))))); have HEL := Lib.hid (And.intro hel hcl); clear hb6 hel hcl))
  have B6 := Lib.hid (Below.andThen B5.out hbD)
  have HNP6 := Lib.hid (HNP5.out.below hbD (Nat.le_refl _) hbD.size)
  clear hbD hbb zz0 hcut3
  have hents : (two l g0 g1 g' e0 e1).ents = allE e0.1.length (L.take 2) := by
    rw [HA2.out, show [e0] = (T.ent g0 e0.1 e0.2).ents by rw [Tr.ents_ent]]
    have hw := HNP6.out.1
    exact pair_ents (a := .ent g0 e0.1 e0.2) (.ent g0 e0.1 e0.2 HA.out.1 HA.out.2 rfl HPP.out.1.1 (HFIT.out e0 (List.mem_of_getElem? HE.out.1)).2) HL.out.2.2.1.symm HPP.out.2.1 (ent_covers HL.out.2.2.1 HPP.out.1.1 HPP.out.2.1 HL.out.2.2.2) HL.out.1 hw
  have HENT := Lib.hid hents
  have HIS := Lib.hid (is_list (c := d2) HNP6.out hents HEL.out.1 (Nat.le_refl _) B6.out.size (Nat.le_refl _) HEL.out.2 (by rw [HA2.out]; have := Tr.length_putE (L := [e0]) (List.pairwise_singleton _ _) e1.1 e1.2; simp at this; omega))
  clear hents
  go_wp2_with fail
  refine HIS.out.mono ?_
  rintro e w7 ⟨rfl, hb7⟩
  have B7 := Lib.hid (Below.andThen B6.out hb7)
  have HNP7 := Lib.hid (HNP6.out.below hb7 (Nat.le_refl _) hb7.size)
  clear hb7
  have y7 := HY0.out w7 B7.out
  go_wp2_with fail
  have hb77 := B7.out
  have hQ7 := HX.out.2.2.2.2.2.below' hb77 (Nat.le_refl _)
  obtain ⟨bq, hnd7⟩ : ∃ bq, NdAt w7 w7.heap.size g' (l : Int) (Z.cut e0.1 (l + 1)) 0 (some ⟨bq, 0, none⟩) (Tr.sums (Tr.entsL (Sl.put (Z.addr e1.1 l) (.ent g1 e1.1 e1.2) (Sl.put (Z.addr e0.1 l) (.ent g0 e0.1 e0.2) [])))) := by cases HNP7.out.2 with | br _ _ _ _ q h1 h2 => exact ⟨q, h1⟩
  have HND7 := Lib.hid (And.intro hnd7 hQ7)
  clear y7 hnd7 hQ7 hb77
  by_cases hcq : e0.1.length = q.length
  · have HAQ := Lib.hid (ralike_yes P0 A' e0.1.length p0c q.length c' w7 HA.out.1 HA.out.2 hcq)
    refine HAQ.out.mono ?_
    rintro e w' ⟨rfl, rfl⟩
    obtain ⟨r, hr⟩ : ∃ r, Tr.covers (two l g0 g1 g' e0 e1) q = r := ⟨_, rfl⟩
    have hpl : (Z.cut e0.1 (l + 1)).length = e0.1.length := Z.cut_length _ _
    have hcov : decide (Z.part (Z.cut e0.1 (l + 1)) q ≤ (l : Int)) = r := by
      have h1 := covers_eq hr
      rw [show levI (two l g0 g1 g' e0 e1) = (l : Int) by show ((l + 1 : Nat) : Int) - 1 = l; omega] at h1
      exact h1
    have hsam : decide (Z.cut q (l + 1) = Z.cut e0.1 (l + 1)) = r := by
      rw [← hr, Bool.eq_iff_iff, decide_eq_true_eq]
      exact (Tr.covers_iff HNP7.out.1 hcq.symm HND7.out.2.1).symm
    have HC := Lib.hid (nCovers_c HND7.out.1 (by rw [hpl]; exact HA.out.1) (by rw [hpl]; exact HA.out.2) A' q c' (HND7.out.2.keep B7.out.size (fun _ _ => rfl)) (by rw [hpl]; exact hcq) r hcov)
    have HSM := Lib.hid (And.intro hsam hpl)
    have HQ := Lib.hid hcq
    have h63 := HL.out.2.1
    clear hcov hsam hpl hcq hr
    go_wp2_with (go_at_call 12; refine HC.out.mono ?_; rintro e w' ⟨rfl, rfl⟩)
    refine (nLevel_c HND7.out.1).mono ?_
    rintro e w' ⟨rfl, rfl⟩
    go_wp2_with fail
    refine (rcut_lev A' c' q l w.heap.size w7 HND7.out.2 B7.out.size (by rw [← HQ.out]; exact HA.out.1) (by rw [← HQ.out]; exact HA.out.2) h63).mono ?_
    rintro e w8 ⟨v8, rfl, ho8, hb8⟩
    obtain ⟨A8, c8, rfl, hp8⟩ := ho8.pts
    have B8 := Lib.hid (Below.andThen B7.out hb8)
    have HP8 := Lib.hid hp8
    have HND8 := Lib.hid (HND7.out.1.below hb8 (Nat.le_refl _) hb8.size)
    clear ho8 hp8 hb8
    go_wp2_with fail
    refine (nPrefix_c HND8.out (Nat.le_refl _) (by intro x; have h1 := HSM.out.2; have h2 := HA.out.1; rw [x] at h1; simp at h1; omega) (by rw [HSM.out.2]; have := HA.out.2; omega)).mono ?_
    rintro e w9 ⟨x9, d9, rfl, ho9, hb9⟩
    obtain ⟨A9, c9, hv9, hp9⟩ := ho9.pts
    cases hv9
    have HP9 := Lib.hid (And.intro ((HP8.out.below' hb9 (Nat.le_refl _)).keep hb9.size (fun _ _ => rfl)) hp9)
    have B9 := Lib.hid (Below.andThen B8.out hb9)
    clear ho9 hb9 hp9
    go_wp2_with fail
    have HSS := rsame_c A8 (some ⟨x9, 0, none⟩) c8 d9 (Z.cut q (l + 1)) (Z.cut e0.1 (l + 1)) w9.heap.size w9 HP9.out.1 HP9.out.2 (Nat.le_refl _) (by rw [Z.cut_length]; have := HQ.out; have := HA.out.2; unfold maxLen; omega)
    rw [HSM.out.1] at HSS
    refine HSS.mono ?_
    clear HSS
    rintro e w10 ⟨rfl, hb10⟩
    have B9 := Lib.hid (Below.andThen B9.out hb10)
    have e10 : (r != r) = false := by simp
    clear hb10
    go_wp2_with fail
    go_ret
    exact ⟨rfl, B9.out⟩
  · have HAQ := Lib.hid (ralike_no P0 A' e0.1.length p0c q.length c' w7 (by have := HA.out.2; unfold maxLen; omega) (fun x => hcq x.2))
    refine HAQ.out.mono ?_
    rintro e w' ⟨rfl, rfl⟩
    have B9 := B7
    go_wp2_with fail
    go_ret
    exact ⟨rfl, B9.out⟩
end Go.Proofs.Ytgplbbmenmbaaaa

/-
  THE LAW NodePair, fifth part (laid by wip/gen9.py): a third entry that can't be paired.
-/
namespace Go.Proofs.Ytgplbbmenmbaaaa
open Go.ChangeShapes Go.WideShapes Go.ChangeAt Go.RowKit
open Tr (T S4 Ent)

/-- the third leaf, and where the row has it -/
def LK (w : World) (k : Nat) (t : T) (pb po : Nat) : Prop := Node w w.heap.size k t ∧ w.cell? ⟨pb, po + 2, none⟩ = some (.pointer (some ⟨t.blk, 0, none⟩)) ∧ pb < w.heap.size
theorem LK.below {w w' : World} {k : Nat} {t : T} {pb po : Nat} (h : LK w k t pb po) (hb : Below w.heap.size w w') : LK w' k t pb po :=
  ⟨h.1.below hb (Nat.le_refl _) hb.size, (hb.cell (p := ⟨pb, po + 2, none⟩) h.2.2).trans h.2.1, Nat.lt_of_lt_of_le h.2.2 hb.size⟩
set_option maxRecDepth 100000 in
set_option maxHeartbeats 2000000 in
theorem nodePair_dim3 {w : World} {A A' : Option Addr} {c c' : Nat} {L : List Ent} {q : List Nat} (h : Ents w w.heap.size A L) (hh : heavyB 3 L = false) (hl3 : L.length ≤ 3) (hl2 : 2 ≤ L.length) (hq : q.length ≤ 40) (hQ : Pts w w.heap.size A' q) (hcap : L.length ≤ c) (h3 : L.length = 3) (hall : ∀ e ∈ L, 1 ≤ e.1.length ∧ e.1.length ≤ 16) (hk : ∀ (e0 e1 : Ent), L[0]? = some e0 → L[1]? = some e1 → e0.1.length = e1.1.length) (hne : ∀ (e0 e1 : Ent), L[0]? = some e0 → L[1]? = some e1 → e0.1 ≠ e1.1)
    (hx : ∀ (e0 e2 : Ent), L[0]? = some e0 → L[2]? = some e2 → e0.1.length ≠ e2.1.length) :
    Calls Try.prog 3 #[.slice A L.length c, .slice A' q.length c'] w fun e w' => e = .returned (.bool true) ∧ Below w.heap.size w w' := by
  have hlm : L.length ≤ 1000 := by have := hl3; omega
  have HX := Lib.hid (And.intro h (And.intro hh (And.intro hl3 (And.intro hl2 (And.intro hq hQ)))))
  have HH : Hid (∀ w1, Below w.heap.size w w1 → Calls Try.prog 5 #[.slice A L.length c, .int .i64 3] w1 fun e w' => e = .returned (.bool false) ∧ w1 = w') := Lib.hid fun w1 hb1 => rheavy_c (HX.out.1.below hb1 (Nat.le_refl _) (Nat.le_refl _)) (by unfold maxLen; omega) 3 _ hh
  have HV : Hid (∀ w1, Below w.heap.size w w1 → Calls Try.prog 6 #[.slice A L.length c] w1 fun e w' => (((∃ e ∈ L, ¬ (1 ≤ e.1.length ∧ e.1.length ≤ 16)) ∧ e = .returned (.tuple #[.slice none 0 0, .bool false])) ∨
       ((∀ e ∈ L, 1 ≤ e.1.length ∧ e.1.length ≤ 16) ∧ ∃ D d ls, e = .returned (.tuple #[.slice D L.length d, .bool true]) ∧ OwnV 29 w' w1.heap.size (.slice D L.length d) (ptrsV ls) ∧ AllLeaves w' w'.heap.size L ls)) ∧ Below w1.heap.size w1 w') := Lib.hid fun w1 hb1 => leaves_c (HX.out.1.below hb1 (Nat.le_refl _) (Nat.le_refl _)) hb1.size hlm
  have d1 : decide ((L.length : Int) < 2) = false := decide_eq_false (by omega)
  have d1' : decide (L.length < 2) = false := decide_eq_false (by omega)
  have d2 : decide ((40 : Int) < (q.length : Int)) = false := decide_eq_false (by omega)
  have d2' : decide (40 < q.length) = false := decide_eq_false (by omega)
  obtain ⟨e0, he0⟩ := get_lt (us := L) (k := 0) (by omega)
  obtain ⟨e1, he1⟩ := get_lt (us := L) (k := 1) (by omega)
  have HE := Lib.hid (And.intro he0 he1)
  obtain ⟨b, off, P0, p0c, hA, hb, x0, -, pp0, -, -⟩ := h.at he0
  subst hA
  obtain ⟨b', off', P1, p1c, hA', -, x1, -, pp1, -, -⟩ := h.at he1
  simp only [Option.some.injEq, Addr.mk.injEq, and_true] at hA'
  obtain ⟨rfl, rfl⟩ := hA'
  rw [Nat.zero_mul, Nat.add_zero] at x0
  rw [Nat.one_mul] at x1
  have y0 : ∀ w', Below w.heap.size w w' → w'.cell? ⟨b, off, none⟩ = some (.slice P0 e0.1.length p0c) := fun w' hb' => (hb'.cell (p := ⟨b, off, none⟩) hb).trans x0
  have y1 : ∀ w', Below w.heap.size w w' → w'.cell? ⟨b, off + 2, none⟩ = some (.slice P1 e1.1.length p1c) := fun w' hb' => (hb'.cell (p := ⟨b, off + 2, none⟩) hb).trans x1
  have HPP := Lib.hid (And.intro pp0 pp1)
  have HA := Lib.hid (hall e0 (List.mem_of_getElem? he0))
  have HA1 := Lib.hid (hall e1 (List.mem_of_getElem? he1))
  obtain ⟨e2, he2⟩ := get_lt (us := L) (k := 2) (by omega)
  have HE2 := Lib.hid he2
  obtain ⟨b2, off2, P2, p2c, hA2, -, x2, -, pp2, -, -⟩ := h.at he2
  simp only [Option.some.injEq, Addr.mk.injEq, and_true] at hA2
  obtain ⟨rfl, rfl⟩ := hA2
  have y2 : Hid (∀ w', Below w.heap.size w w' → w'.cell? ⟨b, off + 4, none⟩ = some (.slice P2 e2.1.length p2c)) := Lib.hid fun w' hb' => (hb'.cell (p := ⟨b, off + 4, none⟩) hb).trans x2
  have HA3 := Lib.hid (hall e2 (List.mem_of_getElem? he2))
  have HP2 := Lib.hid pp2
  have hk01 := hk e0 e1 he0 he1
  have hne01 := hne e0 e1 he0 he1
  have HALL := Lib.hid hall
  have HFIT := Lib.hid (EntL.fit h)
  obtain ⟨l, hpart, h63⟩ := part_lv hk01 pp0.1 pp1.1 hne01
  have HL := Lib.hid (And.intro hpart (And.intro h63 (And.intro hk01 hne01)))
  have HALIKE : Hid (∀ w1, Calls Try.prog 8 #[.slice P0 e0.1.length p0c, .slice P1 e1.1.length p1c] w1 fun e w' => e = .returned (.bool true) ∧ w1 = w') := Lib.hid fun w1 => ralike_yes P0 P1 _ _ _ _ w1 HA.out.1 HA.out.2 hk01
  have HPAIR : Hid (∀ (w1 wx : World), Below wx.heap.size wx w1 → ∀ g0 g1, Node w1 wx.heap.size e0.1.length (.ent g0 e0.1 e0.2) → Node w1 wx.heap.size e1.1.length (.ent g1 e1.1 e1.2) → Calls Try.prog 7 #[.pointer (some ⟨g0, 0, none⟩), .pointer (some ⟨g1, 0, none⟩)] w1 fun e w' => ∃ g', e = .returned (.tuple #[.pointer (some ⟨g', 0, none⟩), .int .i64 0]) ∧ Node w' w'.heap.size e0.1.length (two l g0 g1 g' e0 e1) ∧ Below w1.heap.size w1 w') := Lib.hid fun w1 wx hbx g0 g1 k0 k1 => by
    rw [← hk01] at k1
    refine (nPair_c (l := l) k0 k1 hbx.size hpart (Nat.zero_le _) (Nat.zero_le _) (by rw [Tr.ents_ent, Tr.ents_ent]; simp only [List.length_cons, List.length_nil]; omega)).mono ?_
    rintro e w' ⟨g', he, hn, -, hb⟩
    exact ⟨g', he, hn, hb⟩
  have HSAME : Hid (∀ w1, Below w.heap.size w w1 → Calls Try.prog 9 #[.slice P0 e0.1.length p0c, .slice P1 e1.1.length p1c] w1 fun e w' => e = .returned (.bool false) ∧ Below w1.heap.size w1 w') := Lib.hid fun w1 hb1 =>
    (rsame_c P0 P1 p0c p1c e0.1 e1.1 w.heap.size w1 (HPP.out.1.below' hb1 (Nat.le_refl _)) (HPP.out.2.below' hb1 (Nat.le_refl _)) hb1.size (by have := HA.out.2; unfold maxLen; omega)).mono fun _ _ ⟨he, hw⟩ => ⟨by rw [he, decide_eq_false hne01], hw⟩
  obtain ⟨A2, hcut2, hlst2⟩ := lst_hi (Q := EntQ w w.heap.size) 22 36 Try.underlying22 infoE2 (some ⟨b, off, none⟩) L.length c 2 (by omega) hcap
  have hcut3 : ∀ w, (Instr.sliceAt 22 (.slice (some ⟨b, off, none⟩) L.length c) none (some (.int .i64 2)) none).run Try.prog w = .ok (.slice A2 2 c) w := fun w => hcut2 w
  clear hcut2
  have hE2 : EntL w w.heap.size w.heap.size A2 (L.take 2) := hlst2 w _ L rfl h
  have hlt2 : (L.take 2).length = 2 := by simp; omega
  have HALL2 : Hid (∀ w1, Below w.heap.size w w1 → Calls Try.prog 10 #[.int .i64 (e0.1.length : Int), .slice A2 2 c] w1 fun e w' => ∃ D d, e = .returned (.slice D (allE e0.1.length (L.take 2)).length d) ∧ EntL w' w.heap.size w'.heap.size D (allE e0.1.length (L.take 2)) ∧ (allE e0.1.length (L.take 2)).length ≤ d ∧ Below w1.heap.size w1 w') := Lib.hid fun w1 hb1 => by
    have h9 := rall6_c (c := c) (hE2.below hb1 (Nat.le_refl _) (Nat.le_refl _) (Nat.le_refl _)) hb1.size hb1.size HA.out.1 HA.out.2 (by omega)
    rw [hlt2] at h9
    exact h9
  have HA2 := Lib.hid (show allE e0.1.length (L.take 2) = Tr.putE e1.1 e1.2 [e0] by rw [take_two he0 he1]; exact allE_two rfl hk01.symm)
  have HY0 := Lib.hid y0
  have H3L := Lib.hid h3
  have d3 : decide ((L.length : Int) < 3) = false := decide_eq_false (by omega)
  have d3' : decide (L.length < 3) = false := decide_eq_false (by omega)
  have HK2 := Lib.hid (hx e0 e2 he0 he2)
  clear hx
  clear h hh hQ hq hall hne hk he0 he1 x0 x1 pp0 pp1 hne01 hk01 hpart h63 hlst2 hE2 hlt2 hcap he2 x2 pp2 h3
  go_enter Try.func3, Try.ntmps3
  go_wp2_with fail
  refine (awake6_c w).mono ?_
  rintro e w1 ⟨rfl, hb1⟩
  have B1 := Lib.hid hb1
  clear hb1
  go_wp2_with fail
  refine (HH.out w1 B1.out).mono ?_
  rintro e w' ⟨rfl, rfl⟩
  go_wp2_with fail
  refine (HV.out w1 B1.out).mono ?_
  rintro e w2 ⟨⟨⟨e, he, hn⟩, -⟩ | ⟨-, D, d, ls, rfl, hown, hal⟩, hb2⟩
  · exact absurd (HALL.out e he) hn
  obtain ⟨t0, ht0⟩ := get_lt (us := ls) (k := 0) (by rw [hal.1]; omega)
  obtain ⟨t1, ht1⟩ := get_lt (us := ls) (k := 1) (by rw [hal.1]; omega)
  obtain ⟨g0, rfl, hn0⟩ := hal.2 0 e0 t0 HE.out.1 ht0
  obtain ⟨g1, rfl, hn1⟩ := hal.2 1 e1 t1 HE.out.2 ht1
  obtain ⟨t2, ht2⟩ := get_lt (us := ls) (k := 2) (by rw [hal.1]; have := H3L.out; omega)
  obtain ⟨g2, rfl, hn2⟩ := hal.2 2 e2 t2 HE2.out ht2
  obtain ⟨pb2, po2, hD2, -, z2⟩ := (OwnV.rd_at hown).at (i := 2) (v := .pointer (some ⟨g2, 0, none⟩)) (by simp [ptrsV, ht2, ndV, T.blk])
  obtain ⟨pb, po, hD, hpb, z0⟩ := (OwnV.rd_at hown).at (i := 0) (v := .pointer (some ⟨g0, 0, none⟩)) (by simp [ptrsV, ht0, ndV, T.blk])
  obtain ⟨pb', po', hD', -, z1⟩ := (OwnV.rd_at hown).at (i := 1) (v := .pointer (some ⟨g1, 0, none⟩)) (by simp [ptrsV, ht1, ndV, T.blk])
  subst hD
  simp only [Option.some.injEq, Addr.mk.injEq, and_true] at hD'
  obtain ⟨rfl, rfl⟩ := hD'
  rw [Nat.add_zero] at z0
  simp only [Option.some.injEq, Addr.mk.injEq, and_true] at hD2
  obtain ⟨rfl, rfl⟩ := hD2
  have HT : Hid (LK w2 e2.1.length (.ent g2 e2.1 e2.2) pb po) := Lib.hid ⟨hn2, z2, hpb⟩
  have m2 : (2 : Int) < (L.length : Int) := by have := H3L.out; omega
  have m2' : 2 < L.length := by have := H3L.out; omega
  have B2 := Lib.hid (Below.andThen B1.out hb2)
  have q0 : ∀ w', Below w2.heap.size w2 w' → w'.cell? ⟨pb, po, none⟩ = some (.pointer (some ⟨g0, 0, none⟩)) := fun w' hb' => (hb'.cell (p := ⟨pb, po, none⟩) hpb).trans z0
  have q1 : ∀ w', Below w2.heap.size w2 w' → w'.cell? ⟨pb, po + 1, none⟩ = some (.pointer (some ⟨g1, 0, none⟩)) := fun w' hb' => (hb'.cell (p := ⟨pb, po + 1, none⟩) hpb).trans z1
  have HNN := Lib.hid (And.intro hn0 hn1)
  have m0 : (0 : Int) < (L.length : Int) := by omega
  have m1 : (1 : Int) < (L.length : Int) := by omega
  have m0' : 0 < L.length := by omega
  have m1' : 1 < L.length := by omega
  clear hown hal hn0 hn1 z0 z1 hb2 ht0 ht1 z2 hn2 ht2 hl3 hl2 hlm
  go_wp2_with fail
  have hbb := Below.refl w2.heap.size w2
  go_region_held3 (fun w' => Below w2.heap.size w2 w') (((repeat (first | refine Below.drew ?_ | (with_reducible refine below_drewN _ ?_) | refine Below.alloc ?_ (by first | omega | (simp; done) | (simp; omega)) _ | refine Below.setCell ?_ (by first | omega | (simp; done) | (simp; omega)) _)); first | exact Below.refl _ _ | assumption | exact below_drewN _ (Below.refl _ _) | exact below_drewN _ (below_drewN _ (Below.refl _ _))))
    ((go_at_call 7; refine (HPAIR.out _ _ (show Below w2.heap.size w2 _ by ((repeat (first | refine Below.drew ?_ | (with_reducible refine below_drewN _ ?_) | refine Below.alloc ?_ (by first | omega | (simp; done) | (simp; omega)) _ | refine Below.setCell ?_ (by first | omega | (simp; done) | (simp; omega)) _)); first | exact Below.refl _ _ | assumption | exact below_drewN _ (Below.refl _ _) | exact below_drewN _ (below_drewN _ (Below.refl _ _)))) g0 g1 (HNN.out.1.below (show Below w2.heap.size w2 _ by ((repeat (first | refine Below.drew ?_ | (with_reducible refine below_drewN _ ?_) | refine Below.alloc ?_ (by first | omega | (simp; done) | (simp; omega)) _ | refine Below.setCell ?_ (by first | omega | (simp; done) | (simp; omega)) _)); first | exact Below.refl _ _ | assumption | exact below_drewN _ (Below.refl _ _) | exact below_drewN _ (below_drewN _ (Below.refl _ _)))) (Nat.le_refl _) (Nat.le_refl _)) (HNN.out.2.below (show Below w2.heap.size w2 _ by ((repeat (first | refine Below.drew ?_ | (with_reducible refine below_drewN _ ?_) | refine Below.alloc ?_ (by first | omega | (simp; done) | (simp; omega)) _ | refine Below.setCell ?_ (by first | omega | (simp; done) | (simp; omega)) _)); first | exact Below.refl _ _ | assumption | exact below_drewN _ (Below.refl _ _) | exact below_drewN _ (below_drewN _ (Below.refl _ _)))) (Nat.le_refl _) (Nat.le_refl _))).mono ?_; rintro e' w3 ⟨g', rfl, hnp, hb3⟩; have hbD := Below.trans (show Below w2.heap.size w2 _ by ((repeat (first | refine Below.drew ?_ | (with_reducible refine below_drewN _ ?_) | refine Below.alloc ?_ (by first | omega | (simp; done) | (simp; omega)) _ | refine Below.setCell ?_ (by first | omega | (simp; done) | (simp; omega)) _)); first | exact Below.refl _ _ | assumption | exact below_drewN _ (Below.refl _ _) | exact below_drewN _ (below_drewN _ (Below.refl _ _)))) (hb3.mono (Below.size (show Below w2.heap.size w2 _ by ((repeat (first | refine Below.drew ?_ | (with_reducible refine below_drewN _ ?_) | refine Below.alloc ?_ (by first | omega | (simp; done) | (simp; omega)) _ | refine Below.setCell ?_ (by first | omega | (simp; done) | (simp; omega)) _)); first | exact Below.refl _ _ | assumption | exact below_drewN _ (Below.refl _ _) | exact below_drewN _ (below_drewN _ (Below.refl _ _)))))); have HNP := Lib.hid hnp; clear hb3 hnp))
  have HT := Lib.hid (HT.out.below hbD)
  have B3 := Lib.hid (Below.andThen B2.out hbD)
  clear q0 q1 hbD hbb
  have yy0 : ∀ w', Below w3.heap.size w3 w' → w'.cell? ⟨b, off, none⟩ = some (.slice P0 e0.1.length p0c) := fun w' hb' => y0 w' (Below.andThen B3.out hb')
  have yy1 : ∀ w', Below w3.heap.size w3 w' → w'.cell? ⟨b, off + 2, none⟩ = some (.slice P1 e1.1.length p1c) := fun w' hb' => y1 w' (Below.andThen B3.out hb')
  clear y0 y1
  have hbb := Below.refl w3.heap.size w3
  go_wp2_with fail
  go_region_held3 (fun w' => Below w3.heap.size w3 w') (((repeat (first | refine Below.drew ?_ | (with_reducible refine below_drewN _ ?_) | refine Below.alloc ?_ (by first | omega | (simp; done) | (simp; omega)) _ | refine Below.setCell ?_ (by first | omega | (simp; done) | (simp; omega)) _)); first | exact Below.refl _ _ | assumption | exact below_drewN _ (Below.refl _ _) | exact below_drewN _ (below_drewN _ (Below.refl _ _))))
    ((go_at_call 8; refine (HALIKE.out _).mono ?_; rintro e' w4 ⟨rfl, rfl⟩))
  go_wp2_with fail
  go_region_held3 (fun w' => Below w3.heap.size w3 w') (((repeat (first | refine Below.drew ?_ | (with_reducible refine below_drewN _ ?_) | refine Below.alloc ?_ (by first | omega | (simp; done) | (simp; omega)) _ | refine Below.setCell ?_ (by first | omega | (simp; done) | (simp; omega)) _)); first | exact Below.refl _ _ | assumption | exact below_drewN _ (Below.refl _ _) | exact below_drewN _ (below_drewN _ (Below.refl _ _))))
    ((go_at_call 9; refine (HSAME.out _ (Below.andThen B3.out (show Below w3.heap.size w3 _ by ((repeat (first | refine Below.drew ?_ | (with_reducible refine below_drewN _ ?_) | refine Below.alloc ?_ (by first | omega | (simp; done) | (simp; omega)) _ | refine Below.setCell ?_ (by first | omega | (simp; done) | (simp; omega)) _)); first | exact Below.refl _ _ | assumption | exact below_drewN _ (Below.refl _ _) | exact below_drewN _ (below_drewN _ (Below.refl _ _)))))).mono ?_; rintro e' w5 ⟨rfl, hb5⟩; have hbD := Below.trans (show Below w3.heap.size w3 _ by ((repeat (first | refine Below.drew ?_ | (with_reducible refine below_drewN _ ?_) | refine Below.alloc ?_ (by first | omega | (simp; done) | (simp; omega)) _ | refine Below.setCell ?_ (by first | omega | (simp; done) | (simp; omega)) _)); first | exact Below.refl _ _ | assumption | exact below_drewN _ (Below.refl _ _) | exact below_drewN _ (below_drewN _ (Below.refl _ _)))) (hb5.mono (Below.size (show Below w3.heap.size w3 _ by ((repeat (first | refine Below.drew ?_ | (with_reducible refine below_drewN _ ?_) | refine Below.alloc ?_ (by first | omega | (simp; done) | (simp; omega)) _ | refine Below.setCell ?_ (by first | omega | (simp; done) | (simp; omega)) _)); first | exact Below.refl _ _ | assumption | exact below_drewN _ (Below.refl _ _) | exact below_drewN _ (below_drewN _ (Below.refl _ _)))))); clear hb5))
  have HT := Lib.hid (HT.out.below hbD)
  have B5 := Lib.hid (Below.andThen B3.out hbD)
  have HNP5 := Lib.hid (HNP.out.below hbD (Nat.le_refl _) hbD.size)
  clear hbD hbb
  have zz0 : ∀ w', Below w5.heap.size w5 w' → w'.cell? ⟨b, off, none⟩ = some (.slice P0 e0.1.length p0c) := fun w' hb' => HY0.out w' (Below.andThen B5.out hb')
  have hbb := Below.refl w5.heap.size w5
  clear yy0 yy1
  go_wp2_with fail
  go_region_held3 (fun w' => Below w5.heap.size w5 w') (((repeat (first | refine Below.drew ?_ | (with_reducible refine below_drewN _ ?_) | refine Below.alloc ?_ (by first | omega | (simp; done) | (simp; omega)) _ | refine Below.setCell ?_ (by first | omega | (simp; done) | (simp; omega)) _)); first | exact Below.refl _ _ | assumption | exact below_drewN _ (Below.refl _ _) | exact below_drewN _ (below_drewN _ (Below.refl _ _))))
    ((go_at_call 10; refine (HALL2.out _ (Below.andThen B5.out (show Below w5.heap.size w5 _ by ((repeat (first | refine Below.drew ?_ | (with_reducible refine below_drewN _ ?_) | refine Below.alloc ?_ (by first | omega | (simp; done) | (simp; omega)) _ | refine Below.setCell ?_ (by first | omega | (simp; done) | (simp; omega)) _)); first | exact Below.refl _ _ | assumption | exact below_drewN _ (Below.refl _ _) | exact below_drewN _ (below_drewN _ (Below.refl _ _)))))).mono ?_; rintro e' w6 ⟨D2, d2, rfl, hel, hcl, hb6⟩; have hbD := Below.trans (show Below w5.heap.size w5 _ by ((repeat (first | refine Below.drew ?_ | (with_reducible refine below_drewN _ ?_) | refine Below.alloc ?_ (by first | omega | (simp; done) | (simp; omega)) _ | refine Below.setCell ?_ (by first | omega | (simp; done) | (simp; omega)) _)); first | exact Below.refl _ _ | assumption | exact below_drewN _ (Below.refl _ _) | exact below_drewN _ (below_drewN _ (Below.refl _ _)))) (hb6.mono (Below.size (show Below w5.heap.size w5 _ by ((repeat (first | refine Below.drew ?_ | (with_reducible refine below_drewN _ ?_) | refine Below.alloc ?_ (by first | omega | (simp; done) | (simp; omega)) _ | refine Below.setCell ?_ (by first | omega | (simp; done) | (simp; omega)) _)); first | exact Below.refl _ _ | assumption | exact below_drewN _ (Below.refl _ _) | exact below_drewN _ (below_drewN _ (Below.refl _ _)))))); have HEL := Lib.hid (And.intro hel hcl); clear hb6 hel hcl))
  have HT := Lib.hid (HT.out.below hbD)
  have B6 := Lib.hid (Below.andThen B5.out hbD)
  have HNP6 := Lib.hid (HNP5.out.below hbD (Nat.le_refl _) hbD.size)
  clear hbD hbb zz0 hcut3
  have hents : (two l g0 g1 g' e0 e1).ents = allE e0.1.length (L.take 2) := by
    rw [HA2.out, show [e0] = (T.ent g0 e0.1 e0.2).ents by rw [Tr.ents_ent]]
    have hw := HNP6.out.1
    exact pair_ents (a := .ent g0 e0.1 e0.2) (.ent g0 e0.1 e0.2 HA.out.1 HA.out.2 rfl HPP.out.1.1 (HFIT.out e0 (List.mem_of_getElem? HE.out.1)).2) HL.out.2.2.1.symm HPP.out.2.1 (ent_covers HL.out.2.2.1 HPP.out.1.1 HPP.out.2.1 HL.out.2.2.2) HL.out.1 hw
  have HENT := Lib.hid hents
  have HIS := Lib.hid (is_list (c := d2) HNP6.out hents HEL.out.1 (Nat.le_refl _) B6.out.size (Nat.le_refl _) HEL.out.2 (by rw [HA2.out]; have := Tr.length_putE (L := [e0]) (List.pairwise_singleton _ _) e1.1 e1.2; simp at this; omega))
  clear hents
  go_wp2_with fail
  refine HIS.out.mono ?_
  rintro e w7 ⟨rfl, hb7⟩
  have HT := Lib.hid (HT.out.below hb7)
  have B7 := Lib.hid (Below.andThen B6.out hb7)
  have HNP7 := Lib.hid (HNP6.out.below hb7 (Nat.le_refl _) hb7.size)
  clear hb7
  have y7 := HY0.out w7 B7.out
  go_wp2_with fail
  have hb77 := B7.out
  have hQ7 := HX.out.2.2.2.2.2.below' hb77 (Nat.le_refl _)
  obtain ⟨bq, hnd7⟩ : ∃ bq, NdAt w7 w7.heap.size g' (l : Int) (Z.cut e0.1 (l + 1)) 0 (some ⟨bq, 0, none⟩) (Tr.sums (Tr.entsL (Sl.put (Z.addr e1.1 l) (.ent g1 e1.1 e1.2) (Sl.put (Z.addr e0.1 l) (.ent g0 e0.1 e0.2) [])))) := by cases HNP7.out.2 with | br _ _ _ _ q h1 h2 => exact ⟨q, h1⟩
  have HND7 := Lib.hid (And.intro hnd7 hQ7)
  clear y7 hnd7 hQ7 hb77
  by_cases hcq : e0.1.length = q.length
  · have HAQ := Lib.hid (ralike_yes P0 A' e0.1.length p0c q.length c' w7 HA.out.1 HA.out.2 hcq)
    refine HAQ.out.mono ?_
    rintro e w' ⟨rfl, rfl⟩
    obtain ⟨r, hr⟩ : ∃ r, Tr.covers (two l g0 g1 g' e0 e1) q = r := ⟨_, rfl⟩
    have hpl : (Z.cut e0.1 (l + 1)).length = e0.1.length := Z.cut_length _ _
    have hcov : decide (Z.part (Z.cut e0.1 (l + 1)) q ≤ (l : Int)) = r := by
      have h1 := covers_eq hr
      rw [show levI (two l g0 g1 g' e0 e1) = (l : Int) by show ((l + 1 : Nat) : Int) - 1 = l; omega] at h1
      exact h1
    have hsam : decide (Z.cut q (l + 1) = Z.cut e0.1 (l + 1)) = r := by
      rw [← hr, Bool.eq_iff_iff, decide_eq_true_eq]
      exact (Tr.covers_iff HNP7.out.1 hcq.symm HND7.out.2.1).symm
    have HC := Lib.hid (nCovers_c HND7.out.1 (by rw [hpl]; exact HA.out.1) (by rw [hpl]; exact HA.out.2) A' q c' (HND7.out.2.keep B7.out.size (fun _ _ => rfl)) (by rw [hpl]; exact hcq) r hcov)
    have HSM := Lib.hid (And.intro hsam hpl)
    have HQ := Lib.hid hcq
    have h63 := HL.out.2.1
    clear hcov hsam hpl hcq hr
    go_wp2_with (go_at_call 12; refine HC.out.mono ?_; rintro e w' ⟨rfl, rfl⟩)
    refine (nLevel_c HND7.out.1).mono ?_
    rintro e w' ⟨rfl, rfl⟩
    go_wp2_with fail
    refine (rcut_lev A' c' q l w.heap.size w7 HND7.out.2 B7.out.size (by rw [← HQ.out]; exact HA.out.1) (by rw [← HQ.out]; exact HA.out.2) h63).mono ?_
    rintro e w8 ⟨v8, rfl, ho8, hb8⟩
    obtain ⟨A8, c8, rfl, hp8⟩ := ho8.pts
    have HT := Lib.hid (HT.out.below hb8)
    have HNP7 := Lib.hid (HNP7.out.below hb8 (Nat.le_refl _) hb8.size)
    have B8 := Lib.hid (Below.andThen B7.out hb8)
    have HP8 := Lib.hid hp8
    have HND8 := Lib.hid (HND7.out.1.below hb8 (Nat.le_refl _) hb8.size)
    clear ho8 hp8 hb8
    go_wp2_with fail
    refine (nPrefix_c HND8.out (Nat.le_refl _) (by intro x; have h1 := HSM.out.2; have h2 := HA.out.1; rw [x] at h1; simp at h1; omega) (by rw [HSM.out.2]; have := HA.out.2; omega)).mono ?_
    rintro e w9 ⟨x9, d9, rfl, ho9, hb9⟩
    obtain ⟨A9, c9, hv9, hp9⟩ := ho9.pts
    cases hv9
    have HP9 := Lib.hid (And.intro ((HP8.out.below' hb9 (Nat.le_refl _)).keep hb9.size (fun _ _ => rfl)) hp9)
    have HT := Lib.hid (HT.out.below hb9)
    have HNP7 := Lib.hid (HNP7.out.below hb9 (Nat.le_refl _) hb9.size)
    have B9 := Lib.hid (Below.andThen B8.out hb9)
    clear ho9 hb9 hp9
    go_wp2_with fail
    have HSS := rsame_c A8 (some ⟨x9, 0, none⟩) c8 d9 (Z.cut q (l + 1)) (Z.cut e0.1 (l + 1)) w9.heap.size w9 HP9.out.1 HP9.out.2 (Nat.le_refl _) (by rw [Z.cut_length]; have := HQ.out; have := HA.out.2; unfold maxLen; omega)
    rw [HSM.out.1] at HSS
    refine HSS.mono ?_
    clear HSS
    rintro e w10 ⟨rfl, hb10⟩
    have HT := Lib.hid (HT.out.below hb10)
    have HNP7 := Lib.hid (HNP7.out.below hb10 (Nat.le_refl _) hb10.size)
    have B9 := Lib.hid (Below.andThen B9.out hb10)
    have e10 : (r != r) = false := by simp
    clear hb10
    generalize w10 = W9 at *
    have hz2 := HT.out.2.1
    simp only [T.blk] at hz2
    have hndn : ∃ bq, NdAt W9 W9.heap.size g' (l : Int) (Z.cut e0.1 (l + 1)) 0 (some ⟨bq, 0, none⟩) (Tr.sums (Tr.entsL (Sl.put (Z.addr e1.1 l) (.ent g1 e1.1 e1.2) (Sl.put (Z.addr e0.1 l) (.ent g0 e0.1 e0.2) [])))) := by cases HNP7.out.2 with | br _ _ _ _ q h1 h2 => exact ⟨q, h1⟩
    obtain ⟨bn, hndn⟩ := hndn
    have hnd2 : NdAt W9 W9.heap.size g2 (-1) e2.1 e2.2 none (Tr.s1 e2.2) := by cases HT.out.1.2 with | ent _ _ _ h => exact h
    have HPD := Lib.hid (nPair_dim hndn hnd2 (by rw [Z.cut_length]; exact HA.out.2) HA3.out.2 (by rw [Z.cut_length]; exact HK2.out))
    clear hndn hnd2
    go_wp2_with fail
    refine HPD.out.mono ?_
    rintro e wp ⟨rfl, hbp⟩
    have BP := Lib.hid (Below.andThen B9.out hbp)
    have a0 : ∀ w', Below wp.heap.size wp w' → w'.cell? ⟨b, off, none⟩ = some (.slice P0 e0.1.length p0c) := fun w' hb' => HY0.out w' (Below.andThen BP.out hb')
    have a2 : ∀ w', Below wp.heap.size wp w' → w'.cell? ⟨b, off + 4, none⟩ = some (.slice P2 e2.1.length p2c) := fun w' hb' => y2.out w' (Below.andThen BP.out hb')
    have hbb := Below.refl wp.heap.size wp
    have HAL := Lib.hid (fun w1 => ralike_no P0 P2 e0.1.length p0c e2.1.length p2c w1 (by have := HA.out.2; unfold maxLen; omega) (fun x => HK2.out x.2))
    clear hz2 hbp
    go_wp2_with fail
    go_region_held3 (fun w' => Below wp.heap.size wp w') (((repeat (first | refine Below.drew ?_ | (with_reducible refine below_drewN _ ?_) | refine Below.alloc ?_ (by first | omega | (simp; done) | (simp; omega)) _ | refine Below.setCell ?_ (by first | omega | (simp; done) | (simp; omega)) _)); first | exact Below.refl _ _ | assumption | exact below_drewN _ (Below.refl _ _) | exact below_drewN _ (below_drewN _ (Below.refl _ _))))
      ((go_at_call 8; refine (HAL.out _).mono ?_; rintro e' wq ⟨rfl, rfl⟩))
    clear a0 a2 hbb
    go_wp2_with fail
    go_ret
    exact ⟨rfl, BP.out.drew⟩
  · have HAQ := Lib.hid (ralike_no P0 A' e0.1.length p0c q.length c' w7 (by have := HA.out.2; unfold maxLen; omega) (fun x => hcq x.2))
    refine HAQ.out.mono ?_
    rintro e w' ⟨rfl, rfl⟩
    have B9 := B7
    generalize w7 = W9 at *
    have hz2 := HT.out.2.1
    simp only [T.blk] at hz2
    have hndn : ∃ bq, NdAt W9 W9.heap.size g' (l : Int) (Z.cut e0.1 (l + 1)) 0 (some ⟨bq, 0, none⟩) (Tr.sums (Tr.entsL (Sl.put (Z.addr e1.1 l) (.ent g1 e1.1 e1.2) (Sl.put (Z.addr e0.1 l) (.ent g0 e0.1 e0.2) [])))) := by cases HNP7.out.2 with | br _ _ _ _ q h1 h2 => exact ⟨q, h1⟩
    obtain ⟨bn, hndn⟩ := hndn
    have hnd2 : NdAt W9 W9.heap.size g2 (-1) e2.1 e2.2 none (Tr.s1 e2.2) := by cases HT.out.1.2 with | ent _ _ _ h => exact h
    have HPD := Lib.hid (nPair_dim hndn hnd2 (by rw [Z.cut_length]; exact HA.out.2) HA3.out.2 (by rw [Z.cut_length]; exact HK2.out))
    clear hndn hnd2
    go_wp2_with fail
    refine HPD.out.mono ?_
    rintro e wp ⟨rfl, hbp⟩
    have BP := Lib.hid (Below.andThen B9.out hbp)
    have a0 : ∀ w', Below wp.heap.size wp w' → w'.cell? ⟨b, off, none⟩ = some (.slice P0 e0.1.length p0c) := fun w' hb' => HY0.out w' (Below.andThen BP.out hb')
    have a2 : ∀ w', Below wp.heap.size wp w' → w'.cell? ⟨b, off + 4, none⟩ = some (.slice P2 e2.1.length p2c) := fun w' hb' => y2.out w' (Below.andThen BP.out hb')
    have hbb := Below.refl wp.heap.size wp
    have HAL := Lib.hid (fun w1 => ralike_no P0 P2 e0.1.length p0c e2.1.length p2c w1 (by have := HA.out.2; unfold maxLen; omega) (fun x => HK2.out x.2))
    clear hz2 hbp
    go_wp2_with fail
    go_region_held3 (fun w' => Below wp.heap.size wp w') (((repeat (first | refine Below.drew ?_ | (with_reducible refine below_drewN _ ?_) | refine Below.alloc ?_ (by first | omega | (simp; done) | (simp; omega)) _ | refine Below.setCell ?_ (by first | omega | (simp; done) | (simp; omega)) _)); first | exact Below.refl _ _ | assumption | exact below_drewN _ (Below.refl _ _) | exact below_drewN _ (below_drewN _ (Below.refl _ _))))
      ((go_at_call 8; refine (HAL.out _).mono ?_; rintro e' wq ⟨rfl, rfl⟩))
    clear a0 a2 hbb
    go_wp2_with fail
    go_ret
    exact ⟨rfl, BP.out.drew⟩
set_option maxRecDepth 100000 in
set_option maxHeartbeats 2000000 in
theorem nodePair_arg3 {w : World} {A A' : Option Addr} {c c' : Nat} {L : List Ent} {q : List Nat} (h : Ents w w.heap.size A L) (hh : heavyB 3 L = false) (hl3 : L.length ≤ 3) (hl2 : 2 ≤ L.length) (hq : q.length ≤ 40) (hQ : Pts w w.heap.size A' q) (hcap : L.length ≤ c) (h3 : L.length = 3) (hall : ∀ e ∈ L, 1 ≤ e.1.length ∧ e.1.length ≤ 16) (hk : ∀ (e0 e1 : Ent), L[0]? = some e0 → L[1]? = some e1 → e0.1.length = e1.1.length) (hne : ∀ (e0 e1 : Ent), L[0]? = some e0 → L[1]? = some e1 → e0.1 ≠ e1.1)
    (hx : ∀ (e0 e2 : Ent), L[0]? = some e0 → L[2]? = some e2 → e0.1.length = e2.1.length)
    (hy : ∀ (e0 e1 e2 : Ent) (l : Nat), L[0]? = some e0 → L[1]? = some e1 → L[2]? = some e2 → Z.part e0.1 e1.1 = (l : Int) → Z.part (Z.cut e0.1 (l + 1)) e2.1 ≤ (l : Int)) :
    Calls Try.prog 3 #[.slice A L.length c, .slice A' q.length c'] w fun e w' => e = .returned (.bool true) ∧ Below w.heap.size w w' := by
  have hlm : L.length ≤ 1000 := by have := hl3; omega
  have HX := Lib.hid (And.intro h (And.intro hh (And.intro hl3 (And.intro hl2 (And.intro hq hQ)))))
  have HH : Hid (∀ w1, Below w.heap.size w w1 → Calls Try.prog 5 #[.slice A L.length c, .int .i64 3] w1 fun e w' => e = .returned (.bool false) ∧ w1 = w') := Lib.hid fun w1 hb1 => rheavy_c (HX.out.1.below hb1 (Nat.le_refl _) (Nat.le_refl _)) (by unfold maxLen; omega) 3 _ hh
  have HV : Hid (∀ w1, Below w.heap.size w w1 → Calls Try.prog 6 #[.slice A L.length c] w1 fun e w' => (((∃ e ∈ L, ¬ (1 ≤ e.1.length ∧ e.1.length ≤ 16)) ∧ e = .returned (.tuple #[.slice none 0 0, .bool false])) ∨
       ((∀ e ∈ L, 1 ≤ e.1.length ∧ e.1.length ≤ 16) ∧ ∃ D d ls, e = .returned (.tuple #[.slice D L.length d, .bool true]) ∧ OwnV 29 w' w1.heap.size (.slice D L.length d) (ptrsV ls) ∧ AllLeaves w' w'.heap.size L ls)) ∧ Below w1.heap.size w1 w') := Lib.hid fun w1 hb1 => leaves_c (HX.out.1.below hb1 (Nat.le_refl _) (Nat.le_refl _)) hb1.size hlm
  have d1 : decide ((L.length : Int) < 2) = false := decide_eq_false (by omega)
  have d1' : decide (L.length < 2) = false := decide_eq_false (by omega)
  have d2 : decide ((40 : Int) < (q.length : Int)) = false := decide_eq_false (by omega)
  have d2' : decide (40 < q.length) = false := decide_eq_false (by omega)
  obtain ⟨e0, he0⟩ := get_lt (us := L) (k := 0) (by omega)
  obtain ⟨e1, he1⟩ := get_lt (us := L) (k := 1) (by omega)
  have HE := Lib.hid (And.intro he0 he1)
  obtain ⟨b, off, P0, p0c, hA, hb, x0, -, pp0, -, -⟩ := h.at he0
  subst hA
  obtain ⟨b', off', P1, p1c, hA', -, x1, -, pp1, -, -⟩ := h.at he1
  simp only [Option.some.injEq, Addr.mk.injEq, and_true] at hA'
  obtain ⟨rfl, rfl⟩ := hA'
  rw [Nat.zero_mul, Nat.add_zero] at x0
  rw [Nat.one_mul] at x1
  have y0 : ∀ w', Below w.heap.size w w' → w'.cell? ⟨b, off, none⟩ = some (.slice P0 e0.1.length p0c) := fun w' hb' => (hb'.cell (p := ⟨b, off, none⟩) hb).trans x0
  have y1 : ∀ w', Below w.heap.size w w' → w'.cell? ⟨b, off + 2, none⟩ = some (.slice P1 e1.1.length p1c) := fun w' hb' => (hb'.cell (p := ⟨b, off + 2, none⟩) hb).trans x1
  have HPP := Lib.hid (And.intro pp0 pp1)
  have HA := Lib.hid (hall e0 (List.mem_of_getElem? he0))
  have HA1 := Lib.hid (hall e1 (List.mem_of_getElem? he1))
  obtain ⟨e2, he2⟩ := get_lt (us := L) (k := 2) (by omega)
  have HE2 := Lib.hid he2
  obtain ⟨b2, off2, P2, p2c, hA2, -, x2, -, pp2, -, -⟩ := h.at he2
  simp only [Option.some.injEq, Addr.mk.injEq, and_true] at hA2
  obtain ⟨rfl, rfl⟩ := hA2
  have y2 : Hid (∀ w', Below w.heap.size w w' → w'.cell? ⟨b, off + 4, none⟩ = some (.slice P2 e2.1.length p2c)) := Lib.hid fun w' hb' => (hb'.cell (p := ⟨b, off + 4, none⟩) hb).trans x2
  have HA3 := Lib.hid (hall e2 (List.mem_of_getElem? he2))
  have HP2 := Lib.hid pp2
  have hk01 := hk e0 e1 he0 he1
  have hne01 := hne e0 e1 he0 he1
  have HALL := Lib.hid hall
  have HFIT := Lib.hid (EntL.fit h)
  obtain ⟨l, hpart, h63⟩ := part_lv hk01 pp0.1 pp1.1 hne01
  have HL := Lib.hid (And.intro hpart (And.intro h63 (And.intro hk01 hne01)))
  have HALIKE : Hid (∀ w1, Calls Try.prog 8 #[.slice P0 e0.1.length p0c, .slice P1 e1.1.length p1c] w1 fun e w' => e = .returned (.bool true) ∧ w1 = w') := Lib.hid fun w1 => ralike_yes P0 P1 _ _ _ _ w1 HA.out.1 HA.out.2 hk01
  have HPAIR : Hid (∀ (w1 wx : World), Below wx.heap.size wx w1 → ∀ g0 g1, Node w1 wx.heap.size e0.1.length (.ent g0 e0.1 e0.2) → Node w1 wx.heap.size e1.1.length (.ent g1 e1.1 e1.2) → Calls Try.prog 7 #[.pointer (some ⟨g0, 0, none⟩), .pointer (some ⟨g1, 0, none⟩)] w1 fun e w' => ∃ g', e = .returned (.tuple #[.pointer (some ⟨g', 0, none⟩), .int .i64 0]) ∧ Node w' w'.heap.size e0.1.length (two l g0 g1 g' e0 e1) ∧ Below w1.heap.size w1 w') := Lib.hid fun w1 wx hbx g0 g1 k0 k1 => by
    rw [← hk01] at k1
    refine (nPair_c (l := l) k0 k1 hbx.size hpart (Nat.zero_le _) (Nat.zero_le _) (by rw [Tr.ents_ent, Tr.ents_ent]; simp only [List.length_cons, List.length_nil]; omega)).mono ?_
    rintro e w' ⟨g', he, hn, -, hb⟩
    exact ⟨g', he, hn, hb⟩
  have HSAME : Hid (∀ w1, Below w.heap.size w w1 → Calls Try.prog 9 #[.slice P0 e0.1.length p0c, .slice P1 e1.1.length p1c] w1 fun e w' => e = .returned (.bool false) ∧ Below w1.heap.size w1 w') := Lib.hid fun w1 hb1 =>
    (rsame_c P0 P1 p0c p1c e0.1 e1.1 w.heap.size w1 (HPP.out.1.below' hb1 (Nat.le_refl _)) (HPP.out.2.below' hb1 (Nat.le_refl _)) hb1.size (by have := HA.out.2; unfold maxLen; omega)).mono fun _ _ ⟨he, hw⟩ => ⟨by rw [he, decide_eq_false hne01], hw⟩
  obtain ⟨A2, hcut2, hlst2⟩ := lst_hi (Q := EntQ w w.heap.size) 22 36 Try.underlying22 infoE2 (some ⟨b, off, none⟩) L.length c 2 (by omega) hcap
  have hcut3 : ∀ w, (Instr.sliceAt 22 (.slice (some ⟨b, off, none⟩) L.length c) none (some (.int .i64 2)) none).run Try.prog w = .ok (.slice A2 2 c) w := fun w => hcut2 w
  clear hcut2
  have hE2 : EntL w w.heap.size w.heap.size A2 (L.take 2) := hlst2 w _ L rfl h
  have hlt2 : (L.take 2).length = 2 := by simp; omega
  have HALL2 : Hid (∀ w1, Below w.heap.size w w1 → Calls Try.prog 10 #[.int .i64 (e0.1.length : Int), .slice A2 2 c] w1 fun e w' => ∃ D d, e = .returned (.slice D (allE e0.1.length (L.take 2)).length d) ∧ EntL w' w.heap.size w'.heap.size D (allE e0.1.length (L.take 2)) ∧ (allE e0.1.length (L.take 2)).length ≤ d ∧ Below w1.heap.size w1 w') := Lib.hid fun w1 hb1 => by
    have h9 := rall6_c (c := c) (hE2.below hb1 (Nat.le_refl _) (Nat.le_refl _) (Nat.le_refl _)) hb1.size hb1.size HA.out.1 HA.out.2 (by omega)
    rw [hlt2] at h9
    exact h9
  have HA2 := Lib.hid (show allE e0.1.length (L.take 2) = Tr.putE e1.1 e1.2 [e0] by rw [take_two he0 he1]; exact allE_two rfl hk01.symm)
  have HY0 := Lib.hid y0
  have H3L := Lib.hid h3
  have d3 : decide ((L.length : Int) < 3) = false := decide_eq_false (by omega)
  have d3' : decide (L.length < 3) = false := decide_eq_false (by omega)
  have HK2 := Lib.hid (hx e0 e2 he0 he2)
  have HCC := Lib.hid (hy e0 e1 e2 l he0 he1 he2 hpart)
  clear hx hy
  clear h hh hQ hq hall hne hk he0 he1 x0 x1 pp0 pp1 hne01 hk01 hpart h63 hlst2 hE2 hlt2 hcap he2 x2 pp2 h3
  go_enter Try.func3, Try.ntmps3
  go_wp2_with fail
  refine (awake6_c w).mono ?_
  rintro e w1 ⟨rfl, hb1⟩
  have B1 := Lib.hid hb1
  clear hb1
  go_wp2_with fail
  refine (HH.out w1 B1.out).mono ?_
  rintro e w' ⟨rfl, rfl⟩
  go_wp2_with fail
  refine (HV.out w1 B1.out).mono ?_
  rintro e w2 ⟨⟨⟨e, he, hn⟩, -⟩ | ⟨-, D, d, ls, rfl, hown, hal⟩, hb2⟩
  · exact absurd (HALL.out e he) hn
  obtain ⟨t0, ht0⟩ := get_lt (us := ls) (k := 0) (by rw [hal.1]; omega)
  obtain ⟨t1, ht1⟩ := get_lt (us := ls) (k := 1) (by rw [hal.1]; omega)
  obtain ⟨g0, rfl, hn0⟩ := hal.2 0 e0 t0 HE.out.1 ht0
  obtain ⟨g1, rfl, hn1⟩ := hal.2 1 e1 t1 HE.out.2 ht1
  obtain ⟨t2, ht2⟩ := get_lt (us := ls) (k := 2) (by rw [hal.1]; have := H3L.out; omega)
  obtain ⟨g2, rfl, hn2⟩ := hal.2 2 e2 t2 HE2.out ht2
  obtain ⟨pb2, po2, hD2, -, z2⟩ := (OwnV.rd_at hown).at (i := 2) (v := .pointer (some ⟨g2, 0, none⟩)) (by simp [ptrsV, ht2, ndV, T.blk])
  obtain ⟨pb, po, hD, hpb, z0⟩ := (OwnV.rd_at hown).at (i := 0) (v := .pointer (some ⟨g0, 0, none⟩)) (by simp [ptrsV, ht0, ndV, T.blk])
  obtain ⟨pb', po', hD', -, z1⟩ := (OwnV.rd_at hown).at (i := 1) (v := .pointer (some ⟨g1, 0, none⟩)) (by simp [ptrsV, ht1, ndV, T.blk])
  subst hD
  simp only [Option.some.injEq, Addr.mk.injEq, and_true] at hD'
  obtain ⟨rfl, rfl⟩ := hD'
  rw [Nat.add_zero] at z0
  simp only [Option.some.injEq, Addr.mk.injEq, and_true] at hD2
  obtain ⟨rfl, rfl⟩ := hD2
  have HT : Hid (LK w2 e2.1.length (.ent g2 e2.1 e2.2) pb po) := Lib.hid ⟨hn2, z2, hpb⟩
  have m2 : (2 : Int) < (L.length : Int) := by have := H3L.out; omega
  have m2' : 2 < L.length := by have := H3L.out; omega
  have B2 := Lib.hid (Below.andThen B1.out hb2)
  have q0 : ∀ w', Below w2.heap.size w2 w' → w'.cell? ⟨pb, po, none⟩ = some (.pointer (some ⟨g0, 0, none⟩)) := fun w' hb' => (hb'.cell (p := ⟨pb, po, none⟩) hpb).trans z0
  have q1 : ∀ w', Below w2.heap.size w2 w' → w'.cell? ⟨pb, po + 1, none⟩ = some (.pointer (some ⟨g1, 0, none⟩)) := fun w' hb' => (hb'.cell (p := ⟨pb, po + 1, none⟩) hpb).trans z1
  have HNN := Lib.hid (And.intro hn0 hn1)
  have m0 : (0 : Int) < (L.length : Int) := by omega
  have m1 : (1 : Int) < (L.length : Int) := by omega
  have m0' : 0 < L.length := by omega
  have m1' : 1 < L.length := by omega
  clear hown hal hn0 hn1 z0 z1 hb2 ht0 ht1 z2 hn2 ht2 hl3 hl2 hlm
  go_wp2_with fail
  have hbb := Below.refl w2.heap.size w2
  go_region_held3 (fun w' => Below w2.heap.size w2 w') (((repeat (first | refine Below.drew ?_ | (with_reducible refine below_drewN _ ?_) | refine Below.alloc ?_ (by first | omega | (simp; done) | (simp; omega)) _ | refine Below.setCell ?_ (by first | omega | (simp; done) | (simp; omega)) _)); first | exact Below.refl _ _ | assumption | exact below_drewN _ (Below.refl _ _) | exact below_drewN _ (below_drewN _ (Below.refl _ _))))
    ((go_at_call 7; refine (HPAIR.out _ _ (show Below w2.heap.size w2 _ by ((repeat (first | refine Below.drew ?_ | (with_reducible refine below_drewN _ ?_) | refine Below.alloc ?_ (by first | omega | (simp; done) | (simp; omega)) _ | refine Below.setCell ?_ (by first | omega | (simp; done) | (simp; omega)) _)); first | exact Below.refl _ _ | assumption | exact below_drewN _ (Below.refl _ _) | exact below_drewN _ (below_drewN _ (Below.refl _ _)))) g0 g1 (HNN.out.1.below (show Below w2.heap.size w2 _ by ((repeat (first | refine Below.drew ?_ | (with_reducible refine below_drewN _ ?_) | refine Below.alloc ?_ (by first | omega | (simp; done) | (simp; omega)) _ | refine Below.setCell ?_ (by first | omega | (simp; done) | (simp; omega)) _)); first | exact Below.refl _ _ | assumption | exact below_drewN _ (Below.refl _ _) | exact below_drewN _ (below_drewN _ (Below.refl _ _)))) (Nat.le_refl _) (Nat.le_refl _)) (HNN.out.2.below (show Below w2.heap.size w2 _ by ((repeat (first | refine Below.drew ?_ | (with_reducible refine below_drewN _ ?_) | refine Below.alloc ?_ (by first | omega | (simp; done) | (simp; omega)) _ | refine Below.setCell ?_ (by first | omega | (simp; done) | (simp; omega)) _)); first | exact Below.refl _ _ | assumption | exact below_drewN _ (Below.refl _ _) | exact below_drewN _ (below_drewN _ (Below.refl _ _)))) (Nat.le_refl _) (Nat.le_refl _))).mono ?_; rintro e' w3 ⟨g', rfl, hnp, hb3⟩; have hbD := Below.trans (show Below w2.heap.size w2 _ by ((repeat (first | refine Below.drew ?_ | (with_reducible refine below_drewN _ ?_) | refine Below.alloc ?_ (by first | omega | (simp; done) | (simp; omega)) _ | refine Below.setCell ?_ (by first | omega | (simp; done) | (simp; omega)) _)); first | exact Below.refl _ _ | assumption | exact below_drewN _ (Below.refl _ _) | exact below_drewN _ (below_drewN _ (Below.refl _ _)))) (hb3.mono (Below.size (show Below w2.heap.size w2 _ by ((repeat (first | refine Below.drew ?_ | (with_reducible refine below_drewN _ ?_) | refine Below.alloc ?_ (by first | omega | (simp; done) | (simp; omega)) _ | refine Below.setCell ?_ (by first | omega | (simp; done) | (simp; omega)) _)); first | exact Below.refl _ _ | assumption | exact below_drewN _ (Below.refl _ _) | exact below_drewN _ (below_drewN _ (Below.refl _ _)))))); have HNP := Lib.hid hnp; clear hb3 hnp))
  have HT := Lib.hid (HT.out.below hbD)
  have B3 := Lib.hid (Below.andThen B2.out hbD)
  clear q0 q1 hbD hbb
  have yy0 : ∀ w', Below w3.heap.size w3 w' → w'.cell? ⟨b, off, none⟩ = some (.slice P0 e0.1.length p0c) := fun w' hb' => y0 w' (Below.andThen B3.out hb')
  have yy1 : ∀ w', Below w3.heap.size w3 w' → w'.cell? ⟨b, off + 2, none⟩ = some (.slice P1 e1.1.length p1c) := fun w' hb' => y1 w' (Below.andThen B3.out hb')
  clear y0 y1
  have hbb := Below.refl w3.heap.size w3
  go_wp2_with fail
  go_region_held3 (fun w' => Below w3.heap.size w3 w') (((repeat (first | refine Below.drew ?_ | (with_reducible refine below_drewN _ ?_) | refine Below.alloc ?_ (by first | omega | (simp; done) | (simp; omega)) _ | refine Below.setCell ?_ (by first | omega | (simp; done) | (simp; omega)) _)); first | exact Below.refl _ _ | assumption | exact below_drewN _ (Below.refl _ _) | exact below_drewN _ (below_drewN _ (Below.refl _ _))))
    ((go_at_call 8; refine (HALIKE.out _).mono ?_; rintro e' w4 ⟨rfl, rfl⟩))
  go_wp2_with fail
  go_region_held3 (fun w' => Below w3.heap.size w3 w') (((repeat (first | refine Below.drew ?_ | (with_reducible refine below_drewN _ ?_) | refine Below.alloc ?_ (by first | omega | (simp; done) | (simp; omega)) _ | refine Below.setCell ?_ (by first | omega | (simp; done) | (simp; omega)) _)); first | exact Below.refl _ _ | assumption | exact below_drewN _ (Below.refl _ _) | exact below_drewN _ (below_drewN _ (Below.refl _ _))))
    ((go_at_call 9; refine (HSAME.out _ (Below.andThen B3.out (show Below w3.heap.size w3 _ by ((repeat (first | refine Below.drew ?_ | (with_reducible refine below_drewN _ ?_) | refine Below.alloc ?_ (by first | omega | (simp; done) | (simp; omega)) _ | refine Below.setCell ?_ (by first | omega | (simp; done) | (simp; omega)) _)); first | exact Below.refl _ _ | assumption | exact below_drewN _ (Below.refl _ _) | exact below_drewN _ (below_drewN _ (Below.refl _ _)))))).mono ?_; rintro e' w5 ⟨rfl, hb5⟩; have hbD := Below.trans (show Below w3.heap.size w3 _ by ((repeat (first | refine Below.drew ?_ | (with_reducible refine below_drewN _ ?_) | refine Below.alloc ?_ (by first | omega | (simp; done) | (simp; omega)) _ | refine Below.setCell ?_ (by first | omega | (simp; done) | (simp; omega)) _)); first | exact Below.refl _ _ | assumption | exact below_drewN _ (Below.refl _ _) | exact below_drewN _ (below_drewN _ (Below.refl _ _)))) (hb5.mono (Below.size (show Below w3.heap.size w3 _ by ((repeat (first | refine Below.drew ?_ | (with_reducible refine below_drewN _ ?_) | refine Below.alloc ?_ (by first | omega | (simp; done) | (simp; omega)) _ | refine Below.setCell ?_ (by first | omega | (simp; done) | (simp; omega)) _)); first | exact Below.refl _ _ | assumption | exact below_drewN _ (Below.refl _ _) | exact below_drewN _ (below_drewN _ (Below.refl _ _)))))); clear hb5))
  have HT := Lib.hid (HT.out.below hbD)
  have B5 := Lib.hid (Below.andThen B3.out hbD)
  have HNP5 := Lib.hid (HNP.out.below hbD (Nat.le_refl _) hbD.size)
  clear hbD hbb
  have zz0 : ∀ w', Below w5.heap.size w5 w' → w'.cell? ⟨b, off, none⟩ = some (.slice P0 e0.1.length p0c) := fun w' hb' => HY0.out w' (Below.andThen B5.out hb')
  have hbb := Below.refl w5.heap.size w5
  clear yy0 yy1
  go_wp2_with fail
  go_region_held3 (fun w' => Below w5.heap.size w5 w') (((repeat (first | refine Below.drew ?_ | (with_reducible refine below_drewN _ ?_) | refine Below.alloc ?_ (by first | omega | (simp; done) | (simp; omega)) _ | refine Below.setCell ?_ (by first | omega | (simp; done) | (simp; omega)) _)); first | exact Below.refl _ _ | assumption | exact below_drewN _ (Below.refl _ _) | exact below_drewN _ (below_drewN _ (Below.refl _ _))))
    ((go_at_call 10; refine (HALL2.out _ (Below.andThen B5.out (show Below w5.heap.size w5 _ by ((repeat (first | refine Below.drew ?_ | (with_reducible refine below_drewN _ ?_) | refine Below.alloc ?_ (by first | omega | (simp; done) | (simp; omega)) _ | refine Below.setCell ?_ (by first | omega | (simp; done) | (simp; omega)) _)); first | exact Below.refl _ _ | assumption | exact below_drewN _ (Below.refl _ _) | exact below_drewN _ (below_drewN _ (Below.refl _ _)))))).mono ?_; rintro e' w6 ⟨D2, d2, rfl, hel, hcl, hb6⟩; have hbD := Below.trans (show Below w5.heap.size w5 _ by ((repeat (first | refine Below.drew ?_ | (with_reducible refine below_drewN _ ?_) | refine Below.alloc ?_ (by first | omega | (simp; done) | (simp; omega)) _ | refine Below.setCell ?_ (by first | omega | (simp; done) | (simp; omega)) _)); first | exact Below.refl _ _ | assumption | exact below_drewN _ (Below.refl _ _) | exact below_drewN _ (below_drewN _ (Below.refl _ _)))) (hb6.mono (Below.size (show Below w5.heap.size w5 _ by ((repeat (first | refine Below.drew ?_ | (with_reducible refine below_drewN _ ?_) | refine Below.alloc ?_ (by first | omega | (simp; done) | (simp; omega)) _ | refine Below.setCell ?_ (by first | omega | (simp; done) | (simp; omega)) _)); first | exact Below.refl _ _ | assumption | exact below_drewN _ (Below.refl _ _) | exact below_drewN _ (below_drewN _ (Below.refl _ _)))))); have HEL := Lib.hid (And.intro hel hcl); clear hb6 hel hcl))
  have HT := Lib.hid (HT.out.below hbD)
  have B6 := Lib.hid (Below.andThen B5.out hbD)
  have HNP6 := Lib.hid (HNP5.out.below hbD (Nat.le_refl _) hbD.size)
  clear hbD hbb zz0 hcut3
  have hents : (two l g0 g1 g' e0 e1).ents = allE e0.1.length (L.take 2) := by
    rw [HA2.out, show [e0] = (T.ent g0 e0.1 e0.2).ents by rw [Tr.ents_ent]]
    have hw := HNP6.out.1
    exact pair_ents (a := .ent g0 e0.1 e0.2) (.ent g0 e0.1 e0.2 HA.out.1 HA.out.2 rfl HPP.out.1.1 (HFIT.out e0 (List.mem_of_getElem? HE.out.1)).2) HL.out.2.2.1.symm HPP.out.2.1 (ent_covers HL.out.2.2.1 HPP.out.1.1 HPP.out.2.1 HL.out.2.2.2) HL.out.1 hw
  have HENT := Lib.hid hents
  have HIS := Lib.hid (is_list (c := d2) HNP6.out hents HEL.out.1 (Nat.le_refl _) B6.out.size (Nat.le_refl _) HEL.out.2 (by rw [HA2.out]; have := Tr.length_putE (L := [e0]) (List.pairwise_singleton _ _) e1.1 e1.2; simp at this; omega))
  clear hents
  go_wp2_with fail
  refine HIS.out.mono ?_
  rintro e w7 ⟨rfl, hb7⟩
  have HT := Lib.hid (HT.out.below hb7)
  have B7 := Lib.hid (Below.andThen B6.out hb7)
  have HNP7 := Lib.hid (HNP6.out.below hb7 (Nat.le_refl _) hb7.size)
  clear hb7
  have y7 := HY0.out w7 B7.out
  go_wp2_with fail
  have hb77 := B7.out
  have hQ7 := HX.out.2.2.2.2.2.below' hb77 (Nat.le_refl _)
  obtain ⟨bq, hnd7⟩ : ∃ bq, NdAt w7 w7.heap.size g' (l : Int) (Z.cut e0.1 (l + 1)) 0 (some ⟨bq, 0, none⟩) (Tr.sums (Tr.entsL (Sl.put (Z.addr e1.1 l) (.ent g1 e1.1 e1.2) (Sl.put (Z.addr e0.1 l) (.ent g0 e0.1 e0.2) [])))) := by cases HNP7.out.2 with | br _ _ _ _ q h1 h2 => exact ⟨q, h1⟩
  have HND7 := Lib.hid (And.intro hnd7 hQ7)
  clear y7 hnd7 hQ7 hb77
  by_cases hcq : e0.1.length = q.length
  · have HAQ := Lib.hid (ralike_yes P0 A' e0.1.length p0c q.length c' w7 HA.out.1 HA.out.2 hcq)
    refine HAQ.out.mono ?_
    rintro e w' ⟨rfl, rfl⟩
    obtain ⟨r, hr⟩ : ∃ r, Tr.covers (two l g0 g1 g' e0 e1) q = r := ⟨_, rfl⟩
    have hpl : (Z.cut e0.1 (l + 1)).length = e0.1.length := Z.cut_length _ _
    have hcov : decide (Z.part (Z.cut e0.1 (l + 1)) q ≤ (l : Int)) = r := by
      have h1 := covers_eq hr
      rw [show levI (two l g0 g1 g' e0 e1) = (l : Int) by show ((l + 1 : Nat) : Int) - 1 = l; omega] at h1
      exact h1
    have hsam : decide (Z.cut q (l + 1) = Z.cut e0.1 (l + 1)) = r := by
      rw [← hr, Bool.eq_iff_iff, decide_eq_true_eq]
      exact (Tr.covers_iff HNP7.out.1 hcq.symm HND7.out.2.1).symm
    have HC := Lib.hid (nCovers_c HND7.out.1 (by rw [hpl]; exact HA.out.1) (by rw [hpl]; exact HA.out.2) A' q c' (HND7.out.2.keep B7.out.size (fun _ _ => rfl)) (by rw [hpl]; exact hcq) r hcov)
    have HSM := Lib.hid (And.intro hsam hpl)
    have HQ := Lib.hid hcq
    have h63 := HL.out.2.1
    clear hcov hsam hpl hcq hr
    go_wp2_with (go_at_call 12; refine HC.out.mono ?_; rintro e w' ⟨rfl, rfl⟩)
    refine (nLevel_c HND7.out.1).mono ?_
    rintro e w' ⟨rfl, rfl⟩
    go_wp2_with fail
    refine (rcut_lev A' c' q l w.heap.size w7 HND7.out.2 B7.out.size (by rw [← HQ.out]; exact HA.out.1) (by rw [← HQ.out]; exact HA.out.2) h63).mono ?_
    rintro e w8 ⟨v8, rfl, ho8, hb8⟩
    obtain ⟨A8, c8, rfl, hp8⟩ := ho8.pts
    have HT := Lib.hid (HT.out.below hb8)
    have HNP7 := Lib.hid (HNP7.out.below hb8 (Nat.le_refl _) hb8.size)
    have B8 := Lib.hid (Below.andThen B7.out hb8)
    have HP8 := Lib.hid hp8
    have HND8 := Lib.hid (HND7.out.1.below hb8 (Nat.le_refl _) hb8.size)
    clear ho8 hp8 hb8
    go_wp2_with fail
    refine (nPrefix_c HND8.out (Nat.le_refl _) (by intro x; have h1 := HSM.out.2; have h2 := HA.out.1; rw [x] at h1; simp at h1; omega) (by rw [HSM.out.2]; have := HA.out.2; omega)).mono ?_
    rintro e w9 ⟨x9, d9, rfl, ho9, hb9⟩
    obtain ⟨A9, c9, hv9, hp9⟩ := ho9.pts
    cases hv9
    have HP9 := Lib.hid (And.intro ((HP8.out.below' hb9 (Nat.le_refl _)).keep hb9.size (fun _ _ => rfl)) hp9)
    have HT := Lib.hid (HT.out.below hb9)
    have HNP7 := Lib.hid (HNP7.out.below hb9 (Nat.le_refl _) hb9.size)
    have B9 := Lib.hid (Below.andThen B8.out hb9)
    clear ho9 hb9 hp9
    go_wp2_with fail
    have HSS := rsame_c A8 (some ⟨x9, 0, none⟩) c8 d9 (Z.cut q (l + 1)) (Z.cut e0.1 (l + 1)) w9.heap.size w9 HP9.out.1 HP9.out.2 (Nat.le_refl _) (by rw [Z.cut_length]; have := HQ.out; have := HA.out.2; unfold maxLen; omega)
    rw [HSM.out.1] at HSS
    refine HSS.mono ?_
    clear HSS
    rintro e w10 ⟨rfl, hb10⟩
    have HT := Lib.hid (HT.out.below hb10)
    have HNP7 := Lib.hid (HNP7.out.below hb10 (Nat.le_refl _) hb10.size)
    have B9 := Lib.hid (Below.andThen B9.out hb10)
    have e10 : (r != r) = false := by simp
    clear hb10
    generalize w10 = W9 at *
    have hz2 := HT.out.2.1
    simp only [T.blk] at hz2
    have hndn : ∃ bq, NdAt W9 W9.heap.size g' (l : Int) (Z.cut e0.1 (l + 1)) 0 (some ⟨bq, 0, none⟩) (Tr.sums (Tr.entsL (Sl.put (Z.addr e1.1 l) (.ent g1 e1.1 e1.2) (Sl.put (Z.addr e0.1 l) (.ent g0 e0.1 e0.2) [])))) := by cases HNP7.out.2 with | br _ _ _ _ q h1 h2 => exact ⟨q, h1⟩
    obtain ⟨bn, hndn⟩ := hndn
    have hnd2 : NdAt W9 W9.heap.size g2 (-1) e2.1 e2.2 none (Tr.s1 e2.2) := by cases HT.out.1.2 with | ent _ _ _ h => exact h
    have HPD := Lib.hid (nPair_arg hndn hnd2 (by rw [Z.cut_length]; exact HA.out.1) (by rw [Z.cut_length]; exact HA.out.2) (by rw [Z.cut_length]; exact HK2.out) (by have := HCC.out; omega))
    clear hndn hnd2
    go_wp2_with fail
    refine HPD.out.mono ?_
    rintro e wp ⟨rfl, hbp⟩
    have BP := Lib.hid (Below.andThen B9.out hbp)
    have HNP8 := Lib.hid (HNP7.out.below hbp (Nat.le_refl _) hbp.size)
    have a0 : ∀ w', Below wp.heap.size wp w' → w'.cell? ⟨b, off, none⟩ = some (.slice P0 e0.1.length p0c) := fun w' hb' => HY0.out w' (Below.andThen BP.out hb')
    have a2 : ∀ w', Below wp.heap.size wp w' → w'.cell? ⟨b, off + 4, none⟩ = some (.slice P2 e2.1.length p2c) := fun w' hb' => y2.out w' (Below.andThen BP.out hb')
    have hbb := Below.refl wp.heap.size wp
    have HAL := Lib.hid (fun w1 => ralike_yes P0 P2 e0.1.length p0c e2.1.length p2c w1 HA.out.1 HA.out.2 HK2.out)
    clear hz2 hbp
    go_wp2_with fail
    go_region_held3 (fun w' => Below wp.heap.size wp w') (((repeat (first | refine Below.drew ?_ | (with_reducible refine below_drewN _ ?_) | refine Below.alloc ?_ (by first | omega | (simp; done) | (simp; omega)) _ | refine Below.setCell ?_ (by first | omega | (simp; done) | (simp; omega)) _)); first | exact Below.refl _ _ | assumption | exact below_drewN _ (Below.refl _ _) | exact below_drewN _ (below_drewN _ (Below.refl _ _))))
      ((go_at_call 8; refine (HAL.out _).mono ?_; rintro e' wq ⟨rfl, rfl⟩))
    have a2' := a2 wp.drew hbb.drew
    have hnd8 : ∃ bq, NdAt wp.drew wp.heap.size g' (l : Int) (Z.cut e0.1 (l + 1)) 0 (some ⟨bq, 0, none⟩) (Tr.sums (Tr.entsL (Sl.put (Z.addr e1.1 l) (.ent g1 e1.1 e1.2) (Sl.put (Z.addr e0.1 l) (.ent g0 e0.1 e0.2) [])))) := by cases HNP8.out.2 with | br _ _ _ _ q h1 h2 => exact ⟨q, h1⟩
    obtain ⟨bn8, hnd8⟩ := hnd8
    have HCV := Lib.hid (nCovers_c hnd8 (by rw [Z.cut_length]; exact HA.out.1) (by rw [Z.cut_length]; exact HA.out.2) P2 e2.1 p2c (HP2.out.below' BP.out.drew (Nat.le_refl _) |>.keep BP.out.size (fun _ _ => rfl)) (by rw [Z.cut_length]; exact HK2.out) true (decide_eq_true HCC.out))
    clear a0 a2 hbb hnd8
    go_wp2_with (go_at_call 12; refine HCV.out.mono ?_; rintro e w' ⟨rfl, rfl⟩)
    go_ret
    exact ⟨rfl, BP.out.drew⟩
  · have HAQ := Lib.hid (ralike_no P0 A' e0.1.length p0c q.length c' w7 (by have := HA.out.2; unfold maxLen; omega) (fun x => hcq x.2))
    refine HAQ.out.mono ?_
    rintro e w' ⟨rfl, rfl⟩
    have B9 := B7
    generalize w7 = W9 at *
    have hz2 := HT.out.2.1
    simp only [T.blk] at hz2
    have hndn : ∃ bq, NdAt W9 W9.heap.size g' (l : Int) (Z.cut e0.1 (l + 1)) 0 (some ⟨bq, 0, none⟩) (Tr.sums (Tr.entsL (Sl.put (Z.addr e1.1 l) (.ent g1 e1.1 e1.2) (Sl.put (Z.addr e0.1 l) (.ent g0 e0.1 e0.2) [])))) := by cases HNP7.out.2 with | br _ _ _ _ q h1 h2 => exact ⟨q, h1⟩
    obtain ⟨bn, hndn⟩ := hndn
    have hnd2 : NdAt W9 W9.heap.size g2 (-1) e2.1 e2.2 none (Tr.s1 e2.2) := by cases HT.out.1.2 with | ent _ _ _ h => exact h
    have HPD := Lib.hid (nPair_arg hndn hnd2 (by rw [Z.cut_length]; exact HA.out.1) (by rw [Z.cut_length]; exact HA.out.2) (by rw [Z.cut_length]; exact HK2.out) (by have := HCC.out; omega))
    clear hndn hnd2
    go_wp2_with fail
    refine HPD.out.mono ?_
    rintro e wp ⟨rfl, hbp⟩
    have BP := Lib.hid (Below.andThen B9.out hbp)
    have HNP8 := Lib.hid (HNP7.out.below hbp (Nat.le_refl _) hbp.size)
    have a0 : ∀ w', Below wp.heap.size wp w' → w'.cell? ⟨b, off, none⟩ = some (.slice P0 e0.1.length p0c) := fun w' hb' => HY0.out w' (Below.andThen BP.out hb')
    have a2 : ∀ w', Below wp.heap.size wp w' → w'.cell? ⟨b, off + 4, none⟩ = some (.slice P2 e2.1.length p2c) := fun w' hb' => y2.out w' (Below.andThen BP.out hb')
    have hbb := Below.refl wp.heap.size wp
    have HAL := Lib.hid (fun w1 => ralike_yes P0 P2 e0.1.length p0c e2.1.length p2c w1 HA.out.1 HA.out.2 HK2.out)
    clear hz2 hbp
    go_wp2_with fail
    go_region_held3 (fun w' => Below wp.heap.size wp w') (((repeat (first | refine Below.drew ?_ | (with_reducible refine below_drewN _ ?_) | refine Below.alloc ?_ (by first | omega | (simp; done) | (simp; omega)) _ | refine Below.setCell ?_ (by first | omega | (simp; done) | (simp; omega)) _)); first | exact Below.refl _ _ | assumption | exact below_drewN _ (Below.refl _ _) | exact below_drewN _ (below_drewN _ (Below.refl _ _))))
      ((go_at_call 8; refine (HAL.out _).mono ?_; rintro e' wq ⟨rfl, rfl⟩))
    have a2' := a2 wp.drew hbb.drew
    have hnd8 : ∃ bq, NdAt wp.drew wp.heap.size g' (l : Int) (Z.cut e0.1 (l + 1)) 0 (some ⟨bq, 0, none⟩) (Tr.sums (Tr.entsL (Sl.put (Z.addr e1.1 l) (.ent g1 e1.1 e1.2) (Sl.put (Z.addr e0.1 l) (.ent g0 e0.1 e0.2) [])))) := by cases HNP8.out.2 with | br _ _ _ _ q h1 h2 => exact ⟨q, h1⟩
    obtain ⟨bn8, hnd8⟩ := hnd8
    have HCV := Lib.hid (nCovers_c hnd8 (by rw [Z.cut_length]; exact HA.out.1) (by rw [Z.cut_length]; exact HA.out.2) P2 e2.1 p2c (HP2.out.below' BP.out.drew (Nat.le_refl _) |>.keep BP.out.size (fun _ _ => rfl)) (by rw [Z.cut_length]; exact HK2.out) true (decide_eq_true HCC.out))
    clear a0 a2 hbb hnd8
    go_wp2_with (go_at_call 12; refine HCV.out.mono ?_; rintro e w' ⟨rfl, rfl⟩)
    go_ret
    exact ⟨rfl, BP.out.drew⟩
end Go.Proofs.Ytgplbbmenmbaaaa

/-
  THE LAW NodePair, sixth part (laid by wip/gen10.py): a third entry that can be paired.
-/
namespace Go.Proofs.Ytgplbbmenmbaaaa
open Go.ChangeShapes Go.WideShapes Go.ChangeAt Go.RowKit
open Tr (T S4 Ent)

set_option maxRecDepth 100000 in
set_option maxHeartbeats 4000000 in
theorem nodePair_ok3 {w : World} {A A' : Option Addr} {c c' : Nat} {L : List Ent} {q : List Nat} (h : Ents w w.heap.size A L) (hh : heavyB 3 L = false) (hl3 : L.length ≤ 3) (hl2 : 2 ≤ L.length) (hq : q.length ≤ 40) (hQ : Pts w w.heap.size A' q) (hcap : L.length ≤ c) (h3 : L.length = 3) (hall : ∀ e ∈ L, 1 ≤ e.1.length ∧ e.1.length ≤ 16) (hk : ∀ (e0 e1 : Ent), L[0]? = some e0 → L[1]? = some e1 → e0.1.length = e1.1.length) (hne : ∀ (e0 e1 : Ent), L[0]? = some e0 → L[1]? = some e1 → e0.1 ≠ e1.1)
    (hx : ∀ (e0 e2 : Ent), L[0]? = some e0 → L[2]? = some e2 → e0.1.length = e2.1.length)
    (hy : ∀ (e0 e1 e2 : Ent) (l : Nat), L[0]? = some e0 → L[1]? = some e1 → L[2]? = some e2 → Z.part e0.1 e1.1 = (l : Int) → (l : Int) < Z.part (Z.cut e0.1 (l + 1)) e2.1) :
    Calls Try.prog 3 #[.slice A L.length c, .slice A' q.length c'] w fun e w' => e = .returned (.bool true) ∧ Below w.heap.size w w' := by
  have hlm : L.length ≤ 1000 := by have := hl3; omega
  have HX := Lib.hid (And.intro h (And.intro hh (And.intro hl3 (And.intro hl2 (And.intro hq hQ)))))
  have HH : Hid (∀ w1, Below w.heap.size w w1 → Calls Try.prog 5 #[.slice A L.length c, .int .i64 3] w1 fun e w' => e = .returned (.bool false) ∧ w1 = w') := Lib.hid fun w1 hb1 => rheavy_c (HX.out.1.below hb1 (Nat.le_refl _) (Nat.le_refl _)) (by unfold maxLen; omega) 3 _ hh
  have HV : Hid (∀ w1, Below w.heap.size w w1 → Calls Try.prog 6 #[.slice A L.length c] w1 fun e w' => (((∃ e ∈ L, ¬ (1 ≤ e.1.length ∧ e.1.length ≤ 16)) ∧ e = .returned (.tuple #[.slice none 0 0, .bool false])) ∨
       ((∀ e ∈ L, 1 ≤ e.1.length ∧ e.1.length ≤ 16) ∧ ∃ D d ls, e = .returned (.tuple #[.slice D L.length d, .bool true]) ∧ OwnV 29 w' w1.heap.size (.slice D L.length d) (ptrsV ls) ∧ AllLeaves w' w'.heap.size L ls)) ∧ Below w1.heap.size w1 w') := Lib.hid fun w1 hb1 => leaves_c (HX.out.1.below hb1 (Nat.le_refl _) (Nat.le_refl _)) hb1.size hlm
  have d1 : decide ((L.length : Int) < 2) = false := decide_eq_false (by omega)
  have d1' : decide (L.length < 2) = false := decide_eq_false (by omega)
  have d2 : decide ((40 : Int) < (q.length : Int)) = false := decide_eq_false (by omega)
  have d2' : decide (40 < q.length) = false := decide_eq_false (by omega)
  obtain ⟨e0, he0⟩ := get_lt (us := L) (k := 0) (by omega)
  obtain ⟨e1, he1⟩ := get_lt (us := L) (k := 1) (by omega)
  have HE := Lib.hid (And.intro he0 he1)
  obtain ⟨b, off, P0, p0c, hA, hb, x0, -, pp0, -, -⟩ := h.at he0
  subst hA
  obtain ⟨b', off', P1, p1c, hA', -, x1, -, pp1, -, -⟩ := h.at he1
  simp only [Option.some.injEq, Addr.mk.injEq, and_true] at hA'
  obtain ⟨rfl, rfl⟩ := hA'
  rw [Nat.zero_mul, Nat.add_zero] at x0
  rw [Nat.one_mul] at x1
  have y0 : ∀ w', Below w.heap.size w w' → w'.cell? ⟨b, off, none⟩ = some (.slice P0 e0.1.length p0c) := fun w' hb' => (hb'.cell (p := ⟨b, off, none⟩) hb).trans x0
  have y1 : ∀ w', Below w.heap.size w w' → w'.cell? ⟨b, off + 2, none⟩ = some (.slice P1 e1.1.length p1c) := fun w' hb' => (hb'.cell (p := ⟨b, off + 2, none⟩) hb).trans x1
  have HPP := Lib.hid (And.intro pp0 pp1)
  have HA := Lib.hid (hall e0 (List.mem_of_getElem? he0))
  have HA1 := Lib.hid (hall e1 (List.mem_of_getElem? he1))
  obtain ⟨e2, he2⟩ := get_lt (us := L) (k := 2) (by omega)
  have HE2 := Lib.hid he2
  obtain ⟨b2, off2, P2, p2c, hA2, -, x2, -, pp2, -, -⟩ := h.at he2
  simp only [Option.some.injEq, Addr.mk.injEq, and_true] at hA2
  obtain ⟨rfl, rfl⟩ := hA2
  have y2 : Hid (∀ w', Below w.heap.size w w' → w'.cell? ⟨b, off + 4, none⟩ = some (.slice P2 e2.1.length p2c)) := Lib.hid fun w' hb' => (hb'.cell (p := ⟨b, off + 4, none⟩) hb).trans x2
  have HA3 := Lib.hid (hall e2 (List.mem_of_getElem? he2))
  have HP2 := Lib.hid pp2
  have hk01 := hk e0 e1 he0 he1
  have hne01 := hne e0 e1 he0 he1
  have HALL := Lib.hid hall
  have HFIT := Lib.hid (EntL.fit h)
  obtain ⟨l, hpart, h63⟩ := part_lv hk01 pp0.1 pp1.1 hne01
  have HL := Lib.hid (And.intro hpart (And.intro h63 (And.intro hk01 hne01)))
  have HALIKE : Hid (∀ w1, Calls Try.prog 8 #[.slice P0 e0.1.length p0c, .slice P1 e1.1.length p1c] w1 fun e w' => e = .returned (.bool true) ∧ w1 = w') := Lib.hid fun w1 => ralike_yes P0 P1 _ _ _ _ w1 HA.out.1 HA.out.2 hk01
  have HPAIR : Hid (∀ (w1 wx : World), Below wx.heap.size wx w1 → ∀ g0 g1, Node w1 wx.heap.size e0.1.length (.ent g0 e0.1 e0.2) → Node w1 wx.heap.size e1.1.length (.ent g1 e1.1 e1.2) → Calls Try.prog 7 #[.pointer (some ⟨g0, 0, none⟩), .pointer (some ⟨g1, 0, none⟩)] w1 fun e w' => ∃ g', e = .returned (.tuple #[.pointer (some ⟨g', 0, none⟩), .int .i64 0]) ∧ Node w' w'.heap.size e0.1.length (two l g0 g1 g' e0 e1) ∧ Below w1.heap.size w1 w') := Lib.hid fun w1 wx hbx g0 g1 k0 k1 => by
    rw [← hk01] at k1
    refine (nPair_c (l := l) k0 k1 hbx.size hpart (Nat.zero_le _) (Nat.zero_le _) (by rw [Tr.ents_ent, Tr.ents_ent]; simp only [List.length_cons, List.length_nil]; omega)).mono ?_
    rintro e w' ⟨g', he, hn, -, hb⟩
    exact ⟨g', he, hn, hb⟩
  have HSAME : Hid (∀ w1, Below w.heap.size w w1 → Calls Try.prog 9 #[.slice P0 e0.1.length p0c, .slice P1 e1.1.length p1c] w1 fun e w' => e = .returned (.bool false) ∧ Below w1.heap.size w1 w') := Lib.hid fun w1 hb1 =>
    (rsame_c P0 P1 p0c p1c e0.1 e1.1 w.heap.size w1 (HPP.out.1.below' hb1 (Nat.le_refl _)) (HPP.out.2.below' hb1 (Nat.le_refl _)) hb1.size (by have := HA.out.2; unfold maxLen; omega)).mono fun _ _ ⟨he, hw⟩ => ⟨by rw [he, decide_eq_false hne01], hw⟩
  obtain ⟨A2, hcut2, hlst2⟩ := lst_hi (Q := EntQ w w.heap.size) 22 36 Try.underlying22 infoE2 (some ⟨b, off, none⟩) L.length c 2 (by omega) hcap
  have hcut3 : ∀ w, (Instr.sliceAt 22 (.slice (some ⟨b, off, none⟩) L.length c) none (some (.int .i64 2)) none).run Try.prog w = .ok (.slice A2 2 c) w := fun w => hcut2 w
  clear hcut2
  have hE2 : EntL w w.heap.size w.heap.size A2 (L.take 2) := hlst2 w _ L rfl h
  have hlt2 : (L.take 2).length = 2 := by simp; omega
  have HALL2 : Hid (∀ w1, Below w.heap.size w w1 → Calls Try.prog 10 #[.int .i64 (e0.1.length : Int), .slice A2 2 c] w1 fun e w' => ∃ D d, e = .returned (.slice D (allE e0.1.length (L.take 2)).length d) ∧ EntL w' w.heap.size w'.heap.size D (allE e0.1.length (L.take 2)) ∧ (allE e0.1.length (L.take 2)).length ≤ d ∧ Below w1.heap.size w1 w') := Lib.hid fun w1 hb1 => by
    have h9 := rall6_c (c := c) (hE2.below hb1 (Nat.le_refl _) (Nat.le_refl _) (Nat.le_refl _)) hb1.size hb1.size HA.out.1 HA.out.2 (by omega)
    rw [hlt2] at h9
    exact h9
  have HA2 := Lib.hid (show allE e0.1.length (L.take 2) = Tr.putE e1.1 e1.2 [e0] by rw [take_two he0 he1]; exact allE_two rfl hk01.symm)
  have HY0 := Lib.hid y0
  have H3L := Lib.hid h3
  have d3 : decide ((L.length : Int) < 3) = false := decide_eq_false (by omega)
  have d3' : decide (L.length < 3) = false := decide_eq_false (by omega)
  have HK2 := Lib.hid (hx e0 e2 he0 he2)
  obtain ⟨l2, hp2', hl2'⟩ : ∃ l2 : Nat, Z.part (Z.cut e0.1 (l + 1)) e2.1 = (l2 : Int) ∧ l < l2 := by
    have h9 := hy e0 e1 e2 l he0 he1 he2 hpart
    exact ⟨(Z.part (Z.cut e0.1 (l + 1)) e2.1).toNat, by omega, by omega⟩
  have HCC := Lib.hid (And.intro hp2' hl2')
  have hbd := Z.part_bd (us := Z.cut e0.1 (l + 1)) (vs := e2.1) (by rw [Z.cut_length]; exact HK2.out) (Z.cut_ok HPP.out.1.1 _) pp2.1
  have H263 := Lib.hid (show l2 ≤ 63 by omega)
  have HALL3 : Hid (∀ w1, Below w.heap.size w w1 → Calls Try.prog 10 #[.int .i64 (e0.1.length : Int), .slice (some ⟨b, off, none⟩) L.length c] w1 fun e w' => ∃ D d, e = .returned (.slice D (allE e0.1.length L).length d) ∧ EntL w' w.heap.size w'.heap.size D (allE e0.1.length L) ∧ (allE e0.1.length L).length ≤ d ∧ Below w1.heap.size w1 w') := Lib.hid fun w1 hb1 =>
    rall6_c (EntL.below (Ents.entL HX.out.1) hb1 (Nat.le_refl _) (Nat.le_refl _) (Nat.le_refl _)) hb1.size hb1.size HA.out.1 HA.out.2 (by have := HX.out.2.2.1; omega)
  have HA9 := Lib.hid (show allE e0.1.length L = Tr.putE e2.1 e2.2 (allE e0.1.length (L.take 2)) by exact all_three he2 h3 _ HK2.out.symm)
  have HE2' := Lib.hid (HFIT.out e2 (List.mem_of_getElem? he2)).2
  clear hx hy hp2' hl2' hbd
  clear h hh hQ hq hall hne hk he0 he1 x0 x1 pp0 pp1 hne01 hk01 hpart h63 hlst2 hE2 hlt2 hcap he2 x2 pp2 h3
  go_enter Try.func3, Try.ntmps3
  go_wp2_with fail
  refine (awake6_c w).mono ?_
  rintro e w1 ⟨rfl, hb1⟩
  have B1 := Lib.hid hb1
  clear hb1
  go_wp2_with fail
  refine (HH.out w1 B1.out).mono ?_
  rintro e w' ⟨rfl, rfl⟩
  go_wp2_with fail
  refine (HV.out w1 B1.out).mono ?_
  rintro e w2 ⟨⟨⟨e, he, hn⟩, -⟩ | ⟨-, D, d, ls, rfl, hown, hal⟩, hb2⟩
  · exact absurd (HALL.out e he) hn
  obtain ⟨t0, ht0⟩ := get_lt (us := ls) (k := 0) (by rw [hal.1]; omega)
  obtain ⟨t1, ht1⟩ := get_lt (us := ls) (k := 1) (by rw [hal.1]; omega)
  obtain ⟨g0, rfl, hn0⟩ := hal.2 0 e0 t0 HE.out.1 ht0
  obtain ⟨g1, rfl, hn1⟩ := hal.2 1 e1 t1 HE.out.2 ht1
  obtain ⟨t2, ht2⟩ := get_lt (us := ls) (k := 2) (by rw [hal.1]; have := H3L.out; omega)
  obtain ⟨g2, rfl, hn2⟩ := hal.2 2 e2 t2 HE2.out ht2
  obtain ⟨pb2, po2, hD2, -, z2⟩ := (OwnV.rd_at hown).at (i := 2) (v := .pointer (some ⟨g2, 0, none⟩)) (by simp [ptrsV, ht2, ndV, T.blk])
  obtain ⟨pb, po, hD, hpb, z0⟩ := (OwnV.rd_at hown).at (i := 0) (v := .pointer (some ⟨g0, 0, none⟩)) (by simp [ptrsV, ht0, ndV, T.blk])
  obtain ⟨pb', po', hD', -, z1⟩ := (OwnV.rd_at hown).at (i := 1) (v := .pointer (some ⟨g1, 0, none⟩)) (by simp [ptrsV, ht1, ndV, T.blk])
  subst hD
  simp only [Option.some.injEq, Addr.mk.injEq, and_true] at hD'
  obtain ⟨rfl, rfl⟩ := hD'
  rw [Nat.add_zero] at z0
  simp only [Option.some.injEq, Addr.mk.injEq, and_true] at hD2
  obtain ⟨rfl, rfl⟩ := hD2
  have HT : Hid (LK w2 e2.1.length (.ent g2 e2.1 e2.2) pb po) := Lib.hid ⟨hn2, z2, hpb⟩
  have m2 : (2 : Int) < (L.length : Int) := by have := H3L.out; omega
  have m2' : 2 < L.length := by have := H3L.out; omega
  have B2 := Lib.hid (Below.andThen B1.out hb2)
  have q0 : ∀ w', Below w2.heap.size w2 w' → w'.cell? ⟨pb, po, none⟩ = some (.pointer (some ⟨g0, 0, none⟩)) := fun w' hb' => (hb'.cell (p := ⟨pb, po, none⟩) hpb).trans z0
  have q1 : ∀ w', Below w2.heap.size w2 w' → w'.cell? ⟨pb, po + 1, none⟩ = some (.pointer (some ⟨g1, 0, none⟩)) := fun w' hb' => (hb'.cell (p := ⟨pb, po + 1, none⟩) hpb).trans z1
  have HNN := Lib.hid (And.intro hn0 hn1)
  have m0 : (0 : Int) < (L.length : Int) := by omega
  have m1 : (1 : Int) < (L.length : Int) := by omega
  have m0' : 0 < L.length := by omega
  have m1' : 1 < L.length := by omega
  clear hown hal hn0 hn1 z0 z1 hb2 ht0 ht1 z2 hn2 ht2 hl3 hl2 hlm
  go_wp2_with fail
  have hbb := Below.refl w2.heap.size w2
  go_region_held3 (fun w' => Below w2.heap.size w2 w') (((repeat (first | refine Below.drew ?_ | (with_reducible refine below_drewN _ ?_) | refine Below.alloc ?_ (by first | omega | (simp; done) | (simp; omega)) _ | refine Below.setCell ?_ (by first | omega | (simp; done) | (simp; omega)) _)); first | exact Below.refl _ _ | assumption | exact below_drewN _ (Below.refl _ _) | exact below_drewN _ (below_drewN _ (Below.refl _ _))))
    ((go_at_call 7; refine (HPAIR.out _ _ (show Below w2.heap.size w2 _ by ((repeat (first | refine Below.drew ?_ | (with_reducible refine below_drewN _ ?_) | refine Below.alloc ?_ (by first | omega | (simp; done) | (simp; omega)) _ | refine Below.setCell ?_ (by first | omega | (simp; done) | (simp; omega)) _)); first | exact Below.refl _ _ | assumption | exact below_drewN _ (Below.refl _ _) | exact below_drewN _ (below_drewN _ (Below.refl _ _)))) g0 g1 (HNN.out.1.below (show Below w2.heap.size w2 _ by ((repeat (first | refine Below.drew ?_ | (with_reducible refine below_drewN _ ?_) | refine Below.alloc ?_ (by first | omega | (simp; done) | (simp; omega)) _ | refine Below.setCell ?_ (by first | omega | (simp; done) | (simp; omega)) _)); first | exact Below.refl _ _ | assumption | exact below_drewN _ (Below.refl _ _) | exact below_drewN _ (below_drewN _ (Below.refl _ _)))) (Nat.le_refl _) (Nat.le_refl _)) (HNN.out.2.below (show Below w2.heap.size w2 _ by ((repeat (first | refine Below.drew ?_ | (with_reducible refine below_drewN _ ?_) | refine Below.alloc ?_ (by first | omega | (simp; done) | (simp; omega)) _ | refine Below.setCell ?_ (by first | omega | (simp; done) | (simp; omega)) _)); first | exact Below.refl _ _ | assumption | exact below_drewN _ (Below.refl _ _) | exact below_drewN _ (below_drewN _ (Below.refl _ _)))) (Nat.le_refl _) (Nat.le_refl _))).mono ?_; rintro e' w3 ⟨g', rfl, hnp, hb3⟩; have hbD := Below.trans (show Below w2.heap.size w2 _ by ((repeat (first | refine Below.drew ?_ | (with_reducible refine below_drewN _ ?_) | refine Below.alloc ?_ (by first | omega | (simp; done) | (simp; omega)) _ | refine Below.setCell ?_ (by first | omega | (simp; done) | (simp; omega)) _)); first | exact Below.refl _ _ | assumption | exact below_drewN _ (Below.refl _ _) | exact below_drewN _ (below_drewN _ (Below.refl _ _)))) (hb3.mono (Below.size (show Below w2.heap.size w2 _ by ((repeat (first | refine Below.drew ?_ | (with_reducible refine below_drewN _ ?_) | refine Below.alloc ?_ (by first | omega | (simp; done) | (simp; omega)) _ | refine Below.setCell ?_ (by first | omega | (simp; done) | (simp; omega)) _)); first | exact Below.refl _ _ | assumption | exact below_drewN _ (Below.refl _ _) | exact below_drewN _ (below_drewN _ (Below.refl _ _)))))); have HNP := Lib.hid hnp; clear hb3 hnp))
  have HT := Lib.hid (HT.out.below hbD)
  have B3 := Lib.hid (Below.andThen B2.out hbD)
  clear q0 q1 hbD hbb
  have yy0 : ∀ w', Below w3.heap.size w3 w' → w'.cell? ⟨b, off, none⟩ = some (.slice P0 e0.1.length p0c) := fun w' hb' => y0 w' (Below.andThen B3.out hb')
  have yy1 : ∀ w', Below w3.heap.size w3 w' → w'.cell? ⟨b, off + 2, none⟩ = some (.slice P1 e1.1.length p1c) := fun w' hb' => y1 w' (Below.andThen B3.out hb')
  clear y0 y1
  have hbb := Below.refl w3.heap.size w3
  go_wp2_with fail
  go_region_held3 (fun w' => Below w3.heap.size w3 w') (((repeat (first | refine Below.drew ?_ | (with_reducible refine below_drewN _ ?_) | refine Below.alloc ?_ (by first | omega | (simp; done) | (simp; omega)) _ | refine Below.setCell ?_ (by first | omega | (simp; done) | (simp; omega)) _)); first | exact Below.refl _ _ | assumption | exact below_drewN _ (Below.refl _ _) | exact below_drewN _ (below_drewN _ (Below.refl _ _))))
    ((go_at_call 8; refine (HALIKE.out _).mono ?_; rintro e' w4 ⟨rfl, rfl⟩))
  go_wp2_with fail
  go_region_held3 (fun w' => Below w3.heap.size w3 w') (((repeat (first | refine Below.drew ?_ | (with_reducible refine below_drewN _ ?_) | refine Below.alloc ?_ (by first | omega | (simp; done) | (simp; omega)) _ | refine Below.setCell ?_ (by first | omega | (simp; done) | (simp; omega)) _)); first | exact Below.refl _ _ | assumption | exact below_drewN _ (Below.refl _ _) | exact below_drewN _ (below_drewN _ (Below.refl _ _))))
    ((go_at_call 9; refine (HSAME.out _ (Below.andThen B3.out (show Below w3.heap.size w3 _ by ((repeat (first | refine Below.drew ?_ | (with_reducible refine below_drewN _ ?_) | refine Below.alloc ?_ (by first | omega | (simp; done) | (simp; omega)) _ | refine Below.setCell ?_ (by first | omega | (simp; done) | (simp; omega)) _)); first | exact Below.refl _ _ | assumption | exact below_drewN _ (Below.refl _ _) | exact below_drewN _ (below_drewN _ (Below.refl _ _)))))).mono ?_; rintro e' w5 ⟨rfl, hb5⟩; have hbD := Below.trans (show Below w3.heap.size w3 _ by ((repeat (first | refine Below.drew ?_ | (with_reducible refine below_drewN _ ?_) | refine Below.alloc ?_ (by first | omega | (simp; done) | (simp; omega)) _ | refine Below.setCell ?_ (by first | omega | (simp; done) | (simp; omega)) _)); first | exact Below.refl _ _ | assumption | exact below_drewN _ (Below.refl _ _) | exact below_drewN _ (below_drewN _ (Below.refl _ _)))) (hb5.mono (Below.size (show Below w3.heap.size w3 _ by ((repeat (first | refine Below.drew ?_ | (with_reducible refine below_drewN _ ?_) | refine Below.alloc ?_ (by first | omega | (simp; done) | (simp; omega)) _ | refine Below.setCell ?_ (by first | omega | (simp; done) | (simp; omega)) _)); first | exact Below.refl _ _ | assumption | exact below_drewN _ (Below.refl _ _) | exact below_drewN _ (below_drewN _ (Below.refl _ _)))))); clear hb5))
  have HT := Lib.hid (HT.out.below hbD)
  have B5 := Lib.hid (Below.andThen B3.out hbD)
  have HNP5 := Lib.hid (HNP.out.below hbD (Nat.le_refl _) hbD.size)
  clear hbD hbb
  have zz0 : ∀ w', Below w5.heap.size w5 w' → w'.cell? ⟨b, off, none⟩ = some (.slice P0 e0.1.length p0c) := fun w' hb' => HY0.out w' (Below.andThen B5.out hb')
  have hbb := Below.refl w5.heap.size w5
  clear yy0 yy1
  go_wp2_with fail
  go_region_held3 (fun w' => Below w5.heap.size w5 w') (((repeat (first | refine Below.drew ?_ | (with_reducible refine below_drewN _ ?_) | refine Below.alloc ?_ (by first | omega | (simp; done) | (simp; omega)) _ | refine Below.setCell ?_ (by first | omega | (simp; done) | (simp; omega)) _)); first | exact Below.refl _ _ | assumption | exact below_drewN _ (Below.refl _ _) | exact below_drewN _ (below_drewN _ (Below.refl _ _))))
    ((go_at_call 10; refine (HALL2.out _ (Below.andThen B5.out (show Below w5.heap.size w5 _ by ((repeat (first | refine Below.drew ?_ | (with_reducible refine below_drewN _ ?_) | refine Below.alloc ?_ (by first | omega | (simp; done) | (simp; omega)) _ | refine Below.setCell ?_ (by first | omega | (simp; done) | (simp; omega)) _)); first | exact Below.refl _ _ | assumption | exact below_drewN _ (Below.refl _ _) | exact below_drewN _ (below_drewN _ (Below.refl _ _)))))).mono ?_; rintro e' w6 ⟨D2, d2, rfl, hel, hcl, hb6⟩; have hbD := Below.trans (show Below w5.heap.size w5 _ by ((repeat (first | refine Below.drew ?_ | (with_reducible refine below_drewN _ ?_) | refine Below.alloc ?_ (by first | omega | (simp; done) | (simp; omega)) _ | refine Below.setCell ?_ (by first | omega | (simp; done) | (simp; omega)) _)); first | exact Below.refl _ _ | assumption | exact below_drewN _ (Below.refl _ _) | exact below_drewN _ (below_drewN _ (Below.refl _ _)))) (hb6.mono (Below.size (show Below w5.heap.size w5 _ by ((repeat (first | refine Below.drew ?_ | (with_reducible refine below_drewN _ ?_) | refine Below.alloc ?_ (by first | omega | (simp; done) | (simp; omega)) _ | refine Below.setCell ?_ (by first | omega | (simp; done) | (simp; omega)) _)); first | exact Below.refl _ _ | assumption | exact below_drewN _ (Below.refl _ _) | exact below_drewN _ (below_drewN _ (Below.refl _ _)))))); have HEL := Lib.hid (And.intro hel hcl); clear hb6 hel hcl))
  have HT := Lib.hid (HT.out.below hbD)
  have B6 := Lib.hid (Below.andThen B5.out hbD)
  have HNP6 := Lib.hid (HNP5.out.below hbD (Nat.le_refl _) hbD.size)
  clear hbD hbb zz0 hcut3
  have hents : (two l g0 g1 g' e0 e1).ents = allE e0.1.length (L.take 2) := by
    rw [HA2.out, show [e0] = (T.ent g0 e0.1 e0.2).ents by rw [Tr.ents_ent]]
    have hw := HNP6.out.1
    exact pair_ents (a := .ent g0 e0.1 e0.2) (.ent g0 e0.1 e0.2 HA.out.1 HA.out.2 rfl HPP.out.1.1 (HFIT.out e0 (List.mem_of_getElem? HE.out.1)).2) HL.out.2.2.1.symm HPP.out.2.1 (ent_covers HL.out.2.2.1 HPP.out.1.1 HPP.out.2.1 HL.out.2.2.2) HL.out.1 hw
  have HENT := Lib.hid hents
  have HIS := Lib.hid (is_list (c := d2) HNP6.out hents HEL.out.1 (Nat.le_refl _) B6.out.size (Nat.le_refl _) HEL.out.2 (by rw [HA2.out]; have := Tr.length_putE (L := [e0]) (List.pairwise_singleton _ _) e1.1 e1.2; simp at this; omega))
  clear hents
  go_wp2_with fail
  refine HIS.out.mono ?_
  rintro e w7 ⟨rfl, hb7⟩
  have HT := Lib.hid (HT.out.below hb7)
  have B7 := Lib.hid (Below.andThen B6.out hb7)
  have HNP7 := Lib.hid (HNP6.out.below hb7 (Nat.le_refl _) hb7.size)
  clear hb7
  have y7 := HY0.out w7 B7.out
  go_wp2_with fail
  have hb77 := B7.out
  have hQ7 := HX.out.2.2.2.2.2.below' hb77 (Nat.le_refl _)
  obtain ⟨bq, hnd7⟩ : ∃ bq, NdAt w7 w7.heap.size g' (l : Int) (Z.cut e0.1 (l + 1)) 0 (some ⟨bq, 0, none⟩) (Tr.sums (Tr.entsL (Sl.put (Z.addr e1.1 l) (.ent g1 e1.1 e1.2) (Sl.put (Z.addr e0.1 l) (.ent g0 e0.1 e0.2) [])))) := by cases HNP7.out.2 with | br _ _ _ _ q h1 h2 => exact ⟨q, h1⟩
  have HND7 := Lib.hid (And.intro hnd7 hQ7)
  clear y7 hnd7 hQ7 hb77
  by_cases hcq : e0.1.length = q.length
  · have HAQ := Lib.hid (ralike_yes P0 A' e0.1.length p0c q.length c' w7 HA.out.1 HA.out.2 hcq)
    refine HAQ.out.mono ?_
    rintro e w' ⟨rfl, rfl⟩
    obtain ⟨r, hr⟩ : ∃ r, Tr.covers (two l g0 g1 g' e0 e1) q = r := ⟨_, rfl⟩
    have hpl : (Z.cut e0.1 (l + 1)).length = e0.1.length := Z.cut_length _ _
    have hcov : decide (Z.part (Z.cut e0.1 (l + 1)) q ≤ (l : Int)) = r := by
      have h1 := covers_eq hr
      rw [show levI (two l g0 g1 g' e0 e1) = (l : Int) by show ((l + 1 : Nat) : Int) - 1 = l; omega] at h1
      exact h1
    have hsam : decide (Z.cut q (l + 1) = Z.cut e0.1 (l + 1)) = r := by
      rw [← hr, Bool.eq_iff_iff, decide_eq_true_eq]
      exact (Tr.covers_iff HNP7.out.1 hcq.symm HND7.out.2.1).symm
    have HC := Lib.hid (nCovers_c HND7.out.1 (by rw [hpl]; exact HA.out.1) (by rw [hpl]; exact HA.out.2) A' q c' (HND7.out.2.keep B7.out.size (fun _ _ => rfl)) (by rw [hpl]; exact hcq) r hcov)
    have HSM := Lib.hid (And.intro hsam hpl)
    have HQ := Lib.hid hcq
    have h63 := HL.out.2.1
    clear hcov hsam hpl hcq hr
    go_wp2_with (go_at_call 12; refine HC.out.mono ?_; rintro e w' ⟨rfl, rfl⟩)
    refine (nLevel_c HND7.out.1).mono ?_
    rintro e w' ⟨rfl, rfl⟩
    go_wp2_with fail
    refine (rcut_lev A' c' q l w.heap.size w7 HND7.out.2 B7.out.size (by rw [← HQ.out]; exact HA.out.1) (by rw [← HQ.out]; exact HA.out.2) h63).mono ?_
    rintro e w8 ⟨v8, rfl, ho8, hb8⟩
    obtain ⟨A8, c8, rfl, hp8⟩ := ho8.pts
    have HT := Lib.hid (HT.out.below hb8)
    have HNP7 := Lib.hid (HNP7.out.below hb8 (Nat.le_refl _) hb8.size)
    have B8 := Lib.hid (Below.andThen B7.out hb8)
    have HP8 := Lib.hid hp8
    have HND8 := Lib.hid (HND7.out.1.below hb8 (Nat.le_refl _) hb8.size)
    clear ho8 hp8 hb8
    go_wp2_with fail
    refine (nPrefix_c HND8.out (Nat.le_refl _) (by intro x; have h1 := HSM.out.2; have h2 := HA.out.1; rw [x] at h1; simp at h1; omega) (by rw [HSM.out.2]; have := HA.out.2; omega)).mono ?_
    rintro e w9 ⟨x9, d9, rfl, ho9, hb9⟩
    obtain ⟨A9, c9, hv9, hp9⟩ := ho9.pts
    cases hv9
    have HP9 := Lib.hid (And.intro ((HP8.out.below' hb9 (Nat.le_refl _)).keep hb9.size (fun _ _ => rfl)) hp9)
    have HT := Lib.hid (HT.out.below hb9)
    have HNP7 := Lib.hid (HNP7.out.below hb9 (Nat.le_refl _) hb9.size)
    have B9 := Lib.hid (Below.andThen B8.out hb9)
    clear ho9 hb9 hp9
    go_wp2_with fail
    have HSS := rsame_c A8 (some ⟨x9, 0, none⟩) c8 d9 (Z.cut q (l + 1)) (Z.cut e0.1 (l + 1)) w9.heap.size w9 HP9.out.1 HP9.out.2 (Nat.le_refl _) (by rw [Z.cut_length]; have := HQ.out; have := HA.out.2; unfold maxLen; omega)
    rw [HSM.out.1] at HSS
    refine HSS.mono ?_
    clear HSS
    rintro e w10 ⟨rfl, hb10⟩
    have HT := Lib.hid (HT.out.below hb10)
    have HNP7 := Lib.hid (HNP7.out.below hb10 (Nat.le_refl _) hb10.size)
    have B9 := Lib.hid (Below.andThen B9.out hb10)
    have e10 : (r != r) = false := by simp
    clear hb10
    generalize w10 = W9 at *
    have hz2 := HT.out.2.1
    simp only [T.blk] at hz2
    have hN2 : Node W9 W9.heap.size e0.1.length (.ent g2 e2.1 e2.2) := by rw [HK2.out]; exact HT.out.1
    have hcnt : (two l g0 g1 g' e0 e1).ents.length + (T.ent g2 e2.1 e2.2).ents.length < 18446744073709551616 := by
      rw [HENT.out, HA2.out, Tr.ents_ent]
      have := Tr.length_putE (L := [e0]) (List.pairwise_singleton _ _) e1.1 e1.2
      simp at this ⊢
      omega
    have hlv : (two l g0 g1 g' e0 e1).lv ≤ l2 := HCC.out.2
    have HPD := Lib.hid (nPair_c (l := l2) HNP7.out hN2 (Nat.le_refl _) HCC.out.1 hlv (Nat.zero_le _) hcnt)
    clear hN2 hcnt hlv
    go_wp2_with fail
    refine HPD.out.mono ?_
    rintro e wp ⟨g3, rfl, hnm, -, hbp⟩
    have BP := Lib.hid (Below.andThen B9.out hbp)
    have HNM := Lib.hid (hnm.below (Below.refl wp.heap.size wp).drew (Nat.le_refl _) (Nat.le_refl _))
    have HNP8 := Lib.hid ((HNP7.out.below hbp (Nat.le_refl _) hbp.size).below (Below.refl wp.heap.size wp).drew (Nat.le_refl _) (Nat.le_refl _))
    have HT := Lib.hid ((HT.out.below hbp).below (Below.refl wp.heap.size wp).drew)
    have a0 : ∀ w', Below wp.heap.size wp w' → w'.cell? ⟨b, off, none⟩ = some (.slice P0 e0.1.length p0c) := fun w' hb' => HY0.out w' (Below.andThen BP.out hb')
    have a2 : ∀ w', Below wp.heap.size wp w' → w'.cell? ⟨b, off + 4, none⟩ = some (.slice P2 e2.1.length p2c) := fun w' hb' => y2.out w' (Below.andThen BP.out hb')
    have hbb := Below.refl wp.heap.size wp
    have HAL := Lib.hid (fun w1 => ralike_yes P0 P2 e0.1.length p0c e2.1.length p2c w1 HA.out.1 HA.out.2 HK2.out)
    clear hz2 hbp hnm
    go_wp2_with fail
    go_region_held3 (fun w' => Below wp.heap.size wp w') (((repeat (first | refine Below.drew ?_ | (with_reducible refine below_drewN _ ?_) | refine Below.alloc ?_ (by first | omega | (simp; done) | (simp; omega)) _ | refine Below.setCell ?_ (by first | omega | (simp; done) | (simp; omega)) _)); first | exact Below.refl _ _ | assumption | exact below_drewN _ (Below.refl _ _) | exact below_drewN _ (below_drewN _ (Below.refl _ _))))
      ((go_at_call 8; refine (HAL.out _).mono ?_; rintro e' wq ⟨rfl, rfl⟩))
    have BQ := Lib.hid BP.out.drew
    have a2' := a2 wp.drew hbb.drew
    have hnd8 : ∃ bq, NdAt wp.drew wp.heap.size g' (l : Int) (Z.cut e0.1 (l + 1)) 0 (some ⟨bq, 0, none⟩) (Tr.sums (Tr.entsL (Sl.put (Z.addr e1.1 l) (.ent g1 e1.1 e1.2) (Sl.put (Z.addr e0.1 l) (.ent g0 e0.1 e0.2) [])))) := by cases HNP8.out.2 with | br _ _ _ _ q h1 h2 => exact ⟨q, h1⟩
    obtain ⟨bn8, hnd8⟩ := hnd8
    have HCV := Lib.hid (nCovers_c hnd8 (by rw [Z.cut_length]; exact HA.out.1) (by rw [Z.cut_length]; exact HA.out.2) P2 e2.1 p2c (HP2.out.below' BQ.out (Nat.le_refl _) |>.keep BQ.out.size (fun _ _ => rfl)) (by rw [Z.cut_length]; exact HK2.out) false (decide_eq_false (by have := HCC.out; omega)))
    clear hnd8
    go_wp2_with (go_at_call 12; refine HCV.out.mono ?_; rintro e w' ⟨rfl, rfl⟩)
    clear a0 a2 hbb a2'
    have HNM := Lib.hid (HNM.out.below (Below.refl wp.heap.size wp.drew) (Nat.le_refl _) (show wp.heap.size ≤ wp.drew.heap.size from Nat.le_refl _))
    generalize hwq : wp.drew = wq at *
    clear hwq
    -- the pair of the node and the third leaf: its entries, its kids
    have hcn : Tr.covers (two l g0 g1 g' e0 e1) e2.1 = false := by
      unfold Tr.covers
      rw [decide_eq_false_iff_not, show levI (two l g0 g1 g' e0 e1) = (l : Int) by show ((l + 1 : Nat) : Int) - 1 = l; omega]
      have := HCC.out
      show ¬ Z.part (Z.cut e0.1 (l + 1)) e2.1 ≤ _
      omega
    have hm3 := pair_ents (a := two l g0 g1 g' e0 e1) HNP8.out.1 HK2.out.symm HP2.out.1 hcn HCC.out.1 HNM.out.1
    rw [HENT.out, ← HA9.out] at hm3
    have wn := HNP8.out.1
    have wm := HNM.out.1
    have hmem0 : e0 ∈ (two l g0 g1 g' e0 e1).ents := by
      rw [HENT.out, HA2.out, Tr.mem_putE (List.pairwise_singleton _ _)]
      refine .inr ⟨List.mem_singleton.2 rfl, fun x => HL.out.2.2.2 ((Tr.key_inj HL.out.2.2.1 HPP.out.1.1 HPP.out.2.1).1 x)⟩
    have had0 : Z.addr e0.1 l2 = Z.addr (Z.cut e0.1 (l + 1)) l2 := wn.addr_at hmem0 (show (two l g0 g1 g' e0 e1).lv ≤ l2 from HCC.out.2)
    have hadn : Z.addr (Z.cut e0.1 (l + 1)) l2 ≠ Z.addr e2.1 l2 := by
      rcases Z.part_spec (us := Z.cut e0.1 (l + 1)) (vs := e2.1) (by rw [Z.cut_length]; exact HK2.out) (Z.cut_ok HPP.out.1.1 _) HP2.out.1 with ⟨x1, _⟩ | ⟨m, _, x1, x2, _⟩
      · have := HCC.out.1; omega
      · have : m = l2 := by have := HCC.out.1; omega
        subst this; exact x2
    generalize hmm : T.br g3 l2 (Z.cut (two l g0 g1 g' e0 e1).pre (l2 + 1)) (Sl.put (Z.addr (T.ent g2 e2.1 e2.2).pre l2) (T.ent g2 e2.1 e2.2) (Sl.put (Z.addr (two l g0 g1 g' e0 e1).pre l2) (two l g0 g1 g' e0 e1) [])) = mm at HNM wm
    have hm3' : mm.ents = allE e0.1.length L := by rw [← hmm]; exact hm3
    have hks : mm.ks = Sl.put (Z.addr e2.1 l2) (T.ent g2 e2.1 e2.2) (Sl.put (Z.addr (Z.cut e0.1 (l + 1)) l2) (two l g0 g1 g' e0 e1) []) := by rw [← hmm]; rfl
    have hblk : mm.blk = g3 := by rw [← hmm]; rfl
    have s1 : Sl.Srt (Sl.put (Z.addr (Z.cut e0.1 (l + 1)) l2) (two l g0 g1 g' e0 e1) ([] : List (Nat × T))) := Sl.srt_put _ _ Sl.srt_nil
    have hk0 : (Sl.get (kidL mm.ks) (Z.addr e0.1 l2 : Int)).getD none = some ⟨g', 0, none⟩ := by
      rw [rootP_kid, hks, had0, Sl.get_put s1, if_neg (by omega), Sl.get_put Sl.srt_nil, if_pos rfl]; rfl
    have hk2 : (Sl.get (kidL mm.ks) (Z.addr e2.1 l2 : Int)).getD none = some ⟨g2, 0, none⟩ := by
      rw [rootP_kid, hks, Sl.get_put s1, if_pos rfl]; rfl
    have hlm3 : levI mm = (l2 : Int) := by rw [← hmm]; show ((l2 + 1 : Nat) : Int) - 1 = l2; omega
    have HMM := Lib.hid (And.intro hm3' (And.intro hk0 hk2))
    have a0 : ∀ w', Below wq.heap.size wq w' → w'.cell? ⟨b, off, none⟩ = some (.slice P0 e0.1.length p0c) := fun w' hb' => HY0.out w' (Below.andThen BQ.out hb')
    have a2 : ∀ w', Below wq.heap.size wq w' → w'.cell? ⟨b, off + 4, none⟩ = some (.slice P2 e2.1.length p2c) := fun w' hb' => y2.out w' (Below.andThen BQ.out hb')
    have a3 : ∀ w', Below wq.heap.size wq w' → w'.cell? ⟨pb, po + 2, none⟩ = some (.pointer (some ⟨g2, 0, none⟩)) := fun w' hb' => (HT.out.below hb').2.1
    have HLV : Hid (∀ w1, Below wq.heap.size wq w1 → Calls Try.prog 14 #[.pointer (some ⟨g3, 0, none⟩)] w1 fun e w' => e = .returned (.int .i64 (l2 : Int)) ∧ w1 = w') := Lib.hid fun w1 hb1 => by
      obtain ⟨kp, hnd⟩ := (HNM.out.below hb1 (Nat.le_refl _) hb1.size).2.nd
      rw [hlm3, hblk] at hnd
      exact nLevel_c hnd
    have HKD0 : Hid (∀ w1, Below wq.heap.size wq w1 → Calls Try.prog 16 #[.pointer (some ⟨g3, 0, none⟩), .int .i64 (Z.addr e0.1 l2 : Int)] w1 fun e w' => e = .returned (.pointer (some ⟨g', 0, none⟩)) ∧ ∃ n, w' = w1.drewN n) := Lib.hid fun w1 hb1 => by
      have h9 := nKid_c (HNM.out.below hb1 (Nat.le_refl _) hb1.size).2 (Z.addr e0.1 l2 : Int) _ HMM.out.2.1
      rw [hblk] at h9
      exact h9
    have HKD2 : Hid (∀ w1, Below wq.heap.size wq w1 → Calls Try.prog 16 #[.pointer (some ⟨g3, 0, none⟩), .int .i64 (Z.addr e2.1 l2 : Int)] w1 fun e w' => e = .returned (.pointer (some ⟨g2, 0, none⟩)) ∧ ∃ n, w' = w1.drewN n) := Lib.hid fun w1 hb1 => by
      have h9 := nKid_c (HNM.out.below hb1 (Nat.le_refl _) hb1.size).2 (Z.addr e2.1 l2 : Int) _ HMM.out.2.2
      rw [hblk] at h9
      exact h9
    have HAD0 : Hid (∀ w1, Below wq.heap.size wq w1 → Calls Try.prog 17 #[.slice P0 e0.1.length p0c, .int .i64 (l2 : Int)] w1 fun e w' => e = .returned (.int .i64 (Z.addr e0.1 l2 : Int)) ∧ w1 = w') := Lib.hid fun w1 hb1 => raddr_c P0 p0c e0.1 l2 w.heap.size w1 (HPP.out.1.below' (Below.andThen BQ.out hb1) (Nat.le_refl _)) HA.out.1 HA.out.2 H263.out
    have HAD2 : Hid (∀ w1, Below wq.heap.size wq w1 → Calls Try.prog 17 #[.slice P2 e2.1.length p2c, .int .i64 (l2 : Int)] w1 fun e w' => e = .returned (.int .i64 (Z.addr e2.1 l2 : Int)) ∧ w1 = w') := Lib.hid fun w1 hb1 => raddr_c P2 p2c e2.1 l2 w.heap.size w1 (HP2.out.below' (Below.andThen BQ.out hb1) (Nat.le_refl _)) HA3.out.1 HA3.out.2 H263.out
    have HIM : Hid (∀ wa (D : Option Addr) (d : Nat), Below wq.heap.size wq wa → EntL wa w.heap.size wa.heap.size D (allE e0.1.length L) → (allE e0.1.length L).length ≤ d → Calls Try.prog 11 #[.pointer (some ⟨g3, 0, none⟩), .slice D (allE e0.1.length L).length d] wa fun e w' => e = .returned (.bool true) ∧ Below wa.heap.size wa w') := Lib.hid fun wa D d hba hel hcd => by
      have hal := (allE_ok e0.1.length _ L rfl HFIT.out).2.2
      have h9 := is_list (c := d) (HNM.out.below hba (Nat.le_refl _) hba.size) HMM.out.1 hel (Nat.le_refl _) (Nat.le_trans BQ.out.size hba.size) (Nat.le_refl _) hcd (by have := HX.out.2.2.1; omega)
      rw [hblk] at h9
      exact h9
    have hpe := ptr_eq
    have hbb := Below.refl wq.heap.size wq
    clear hcn hm3 wn wm hmem0 had0 hadn hmm hm3' hks hblk s1 hk0 hk2 hlm3
    go_wp2_with fail
    go_region_held3 (fun w' => Below wq.heap.size wq w') (((repeat (first | refine Below.drew ?_ | (with_reducible refine below_drewN _ ?_) | refine Below.alloc ?_ (by first | omega | (simp; done) | (simp; omega)) _ | refine Below.setCell ?_ (by first | omega | (simp; done) | (simp; omega)) _)); first | exact Below.refl _ _ | assumption | exact below_drewN _ (Below.refl _ _) | exact below_drewN _ (below_drewN _ (Below.refl _ _))))
      ((first
        | (go_at_call 10; refine (HALL3.out _ (Below.andThen BQ.out (show Below wq.heap.size wq _ by ((repeat (first | refine Below.drew ?_ | (with_reducible refine below_drewN _ ?_) | refine Below.alloc ?_ (by first | omega | (simp; done) | (simp; omega)) _ | refine Below.setCell ?_ (by first | omega | (simp; done) | (simp; omega)) _)); first | exact Below.refl _ _ | assumption | exact below_drewN _ (Below.refl _ _) | exact below_drewN _ (below_drewN _ (Below.refl _ _)))))).mono ?_; rintro e' wa ⟨D3, q3, rfl, hel, hcl, hba⟩; have hbA := Below.trans (show Below wq.heap.size wq _ by ((repeat (first | refine Below.drew ?_ | (with_reducible refine below_drewN _ ?_) | refine Below.alloc ?_ (by first | omega | (simp; done) | (simp; omega)) _ | refine Below.setCell ?_ (by first | omega | (simp; done) | (simp; omega)) _)); first | exact Below.refl _ _ | assumption | exact below_drewN _ (Below.refl _ _) | exact below_drewN _ (below_drewN _ (Below.refl _ _)))) (hba.mono (Below.size (show Below wq.heap.size wq _ by ((repeat (first | refine Below.drew ?_ | (with_reducible refine below_drewN _ ?_) | refine Below.alloc ?_ (by first | omega | (simp; done) | (simp; omega)) _ | refine Below.setCell ?_ (by first | omega | (simp; done) | (simp; omega)) _)); first | exact Below.refl _ _ | assumption | exact below_drewN _ (Below.refl _ _) | exact below_drewN _ (below_drewN _ (Below.refl _ _)))))); have HEL3 := Lib.hid (And.intro hel hcl); clear hba hel hcl)
        | (go_at_call 11; refine (HIM.out wa D3 q3 hbA HEL3.out.1 HEL3.out.2).mono ?_; rintro e' wb ⟨rfl, hbb2⟩; have hbB := Below.trans hbA (hbb2.mono hbA.size); clear hbb2)
        | (go_at_call 14; refine (HLV.out _ (show Below wq.heap.size wq _ by ((repeat (first | refine Below.drew ?_ | (with_reducible refine below_drewN _ ?_) | refine Below.alloc ?_ (by first | omega | (simp; done) | (simp; omega)) _ | refine Below.setCell ?_ (by first | omega | (simp; done) | (simp; omega)) _)); first | exact Below.refl _ _ | assumption | exact below_drewN _ (Below.refl _ _) | exact below_drewN _ (below_drewN _ (Below.refl _ _))))).mono ?_; rintro e' w' ⟨rfl, rfl⟩)
        | (go_at_call 17; (with_reducible refine (HAD0.out _ (show Below wq.heap.size wq _ by ((repeat (first | refine Below.drew ?_ | (with_reducible refine below_drewN _ ?_) | refine Below.alloc ?_ (by first | omega | (simp; done) | (simp; omega)) _ | refine Below.setCell ?_ (by first | omega | (simp; done) | (simp; omega)) _)); first | exact Below.refl _ _ | assumption | exact below_drewN _ (Below.refl _ _) | exact below_drewN _ (below_drewN _ (Below.refl _ _))))).mono ?_); rintro e' w' ⟨rfl, rfl⟩; clear HAD0)
        | (go_at_call 17; (with_reducible refine (HAD2.out _ (show Below wq.heap.size wq _ by ((repeat (first | refine Below.drew ?_ | (with_reducible refine below_drewN _ ?_) | refine Below.alloc ?_ (by first | omega | (simp; done) | (simp; omega)) _ | refine Below.setCell ?_ (by first | omega | (simp; done) | (simp; omega)) _)); first | exact Below.refl _ _ | assumption | exact below_drewN _ (Below.refl _ _) | exact below_drewN _ (below_drewN _ (Below.refl _ _))))).mono ?_); rintro e' w' ⟨rfl, rfl⟩)
        | (go_at_call 16; (with_reducible refine (HKD0.out _ (show Below wq.heap.size wq _ by ((repeat (first | refine Below.drew ?_ | (with_reducible refine below_drewN _ ?_) | refine Below.alloc ?_ (by first | omega | (simp; done) | (simp; omega)) _ | refine Below.setCell ?_ (by first | omega | (simp; done) | (simp; omega)) _)); first | exact Below.refl _ _ | assumption | exact below_drewN _ (Below.refl _ _) | exact below_drewN _ (below_drewN _ (Below.refl _ _))))).mono ?_); rintro e' w' ⟨rfl, n, rfl⟩; clear HKD0)
        | (go_at_call 16; (with_reducible refine (HKD2.out _ (show Below wq.heap.size wq _ by ((repeat (first | refine Below.drew ?_ | (with_reducible refine below_drewN _ ?_) | refine Below.alloc ?_ (by first | omega | (simp; done) | (simp; omega)) _ | refine Below.setCell ?_ (by first | omega | (simp; done) | (simp; omega)) _)); first | exact Below.refl _ _ | assumption | exact below_drewN _ (Below.refl _ _) | exact below_drewN _ (below_drewN _ (Below.refl _ _))))).mono ?_); rintro e' w' ⟨rfl, n, rfl⟩)))
    go_wp2_with fail
    go_ret
    exact ⟨rfl, Below.andThen BQ.out (show Below wq.heap.size wq _ by ((repeat (first | refine Below.drew ?_ | (with_reducible refine below_drewN _ ?_) | refine Below.alloc ?_ (by first | omega | (simp; done) | (simp; omega)) _ | refine Below.setCell ?_ (by first | omega | (simp; done) | (simp; omega)) _)); first | exact Below.refl _ _ | assumption | exact below_drewN _ (Below.refl _ _) | exact below_drewN _ (below_drewN _ (Below.refl _ _))))⟩
  · have HAQ := Lib.hid (ralike_no P0 A' e0.1.length p0c q.length c' w7 (by have := HA.out.2; unfold maxLen; omega) (fun x => hcq x.2))
    refine HAQ.out.mono ?_
    rintro e w' ⟨rfl, rfl⟩
    have B9 := B7
    generalize w7 = W9 at *
    have hz2 := HT.out.2.1
    simp only [T.blk] at hz2
    have hN2 : Node W9 W9.heap.size e0.1.length (.ent g2 e2.1 e2.2) := by rw [HK2.out]; exact HT.out.1
    have hcnt : (two l g0 g1 g' e0 e1).ents.length + (T.ent g2 e2.1 e2.2).ents.length < 18446744073709551616 := by
      rw [HENT.out, HA2.out, Tr.ents_ent]
      have := Tr.length_putE (L := [e0]) (List.pairwise_singleton _ _) e1.1 e1.2
      simp at this ⊢
      omega
    have hlv : (two l g0 g1 g' e0 e1).lv ≤ l2 := HCC.out.2
    have HPD := Lib.hid (nPair_c (l := l2) HNP7.out hN2 (Nat.le_refl _) HCC.out.1 hlv (Nat.zero_le _) hcnt)
    clear hN2 hcnt hlv
    go_wp2_with fail
    refine HPD.out.mono ?_
    rintro e wp ⟨g3, rfl, hnm, -, hbp⟩
    have BP := Lib.hid (Below.andThen B9.out hbp)
    have HNM := Lib.hid (hnm.below (Below.refl wp.heap.size wp).drew (Nat.le_refl _) (Nat.le_refl _))
    have HNP8 := Lib.hid ((HNP7.out.below hbp (Nat.le_refl _) hbp.size).below (Below.refl wp.heap.size wp).drew (Nat.le_refl _) (Nat.le_refl _))
    have HT := Lib.hid ((HT.out.below hbp).below (Below.refl wp.heap.size wp).drew)
    have a0 : ∀ w', Below wp.heap.size wp w' → w'.cell? ⟨b, off, none⟩ = some (.slice P0 e0.1.length p0c) := fun w' hb' => HY0.out w' (Below.andThen BP.out hb')
    have a2 : ∀ w', Below wp.heap.size wp w' → w'.cell? ⟨b, off + 4, none⟩ = some (.slice P2 e2.1.length p2c) := fun w' hb' => y2.out w' (Below.andThen BP.out hb')
    have hbb := Below.refl wp.heap.size wp
    have HAL := Lib.hid (fun w1 => ralike_yes P0 P2 e0.1.length p0c e2.1.length p2c w1 HA.out.1 HA.out.2 HK2.out)
    clear hz2 hbp hnm
    go_wp2_with fail
    go_region_held3 (fun w' => Below wp.heap.size wp w') (((repeat (first | refine Below.drew ?_ | (with_reducible refine below_drewN _ ?_) | refine Below.alloc ?_ (by first | omega | (simp; done) | (simp; omega)) _ | refine Below.setCell ?_ (by first | omega | (simp; done) | (simp; omega)) _)); first | exact Below.refl _ _ | assumption | exact below_drewN _ (Below.refl _ _) | exact below_drewN _ (below_drewN _ (Below.refl _ _))))
      ((go_at_call 8; refine (HAL.out _).mono ?_; rintro e' wq ⟨rfl, rfl⟩))
    have BQ := Lib.hid BP.out.drew
    have a2' := a2 wp.drew hbb.drew
    have hnd8 : ∃ bq, NdAt wp.drew wp.heap.size g' (l : Int) (Z.cut e0.1 (l + 1)) 0 (some ⟨bq, 0, none⟩) (Tr.sums (Tr.entsL (Sl.put (Z.addr e1.1 l) (.ent g1 e1.1 e1.2) (Sl.put (Z.addr e0.1 l) (.ent g0 e0.1 e0.2) [])))) := by cases HNP8.out.2 with | br _ _ _ _ q h1 h2 => exact ⟨q, h1⟩
    obtain ⟨bn8, hnd8⟩ := hnd8
    have HCV := Lib.hid (nCovers_c hnd8 (by rw [Z.cut_length]; exact HA.out.1) (by rw [Z.cut_length]; exact HA.out.2) P2 e2.1 p2c (HP2.out.below' BQ.out (Nat.le_refl _) |>.keep BQ.out.size (fun _ _ => rfl)) (by rw [Z.cut_length]; exact HK2.out) false (decide_eq_false (by have := HCC.out; omega)))
    clear hnd8
    go_wp2_with (go_at_call 12; refine HCV.out.mono ?_; rintro e w' ⟨rfl, rfl⟩)
    clear a0 a2 hbb a2'
    have HNM := Lib.hid (HNM.out.below (Below.refl wp.heap.size wp.drew) (Nat.le_refl _) (show wp.heap.size ≤ wp.drew.heap.size from Nat.le_refl _))
    generalize hwq : wp.drew = wq at *
    clear hwq
    -- the pair of the node and the third leaf: its entries, its kids
    have hcn : Tr.covers (two l g0 g1 g' e0 e1) e2.1 = false := by
      unfold Tr.covers
      rw [decide_eq_false_iff_not, show levI (two l g0 g1 g' e0 e1) = (l : Int) by show ((l + 1 : Nat) : Int) - 1 = l; omega]
      have := HCC.out
      show ¬ Z.part (Z.cut e0.1 (l + 1)) e2.1 ≤ _
      omega
    have hm3 := pair_ents (a := two l g0 g1 g' e0 e1) HNP8.out.1 HK2.out.symm HP2.out.1 hcn HCC.out.1 HNM.out.1
    rw [HENT.out, ← HA9.out] at hm3
    have wn := HNP8.out.1
    have wm := HNM.out.1
    have hmem0 : e0 ∈ (two l g0 g1 g' e0 e1).ents := by
      rw [HENT.out, HA2.out, Tr.mem_putE (List.pairwise_singleton _ _)]
      refine .inr ⟨List.mem_singleton.2 rfl, fun x => HL.out.2.2.2 ((Tr.key_inj HL.out.2.2.1 HPP.out.1.1 HPP.out.2.1).1 x)⟩
    have had0 : Z.addr e0.1 l2 = Z.addr (Z.cut e0.1 (l + 1)) l2 := wn.addr_at hmem0 (show (two l g0 g1 g' e0 e1).lv ≤ l2 from HCC.out.2)
    have hadn : Z.addr (Z.cut e0.1 (l + 1)) l2 ≠ Z.addr e2.1 l2 := by
      rcases Z.part_spec (us := Z.cut e0.1 (l + 1)) (vs := e2.1) (by rw [Z.cut_length]; exact HK2.out) (Z.cut_ok HPP.out.1.1 _) HP2.out.1 with ⟨x1, _⟩ | ⟨m, _, x1, x2, _⟩
      · have := HCC.out.1; omega
      · have : m = l2 := by have := HCC.out.1; omega
        subst this; exact x2
    generalize hmm : T.br g3 l2 (Z.cut (two l g0 g1 g' e0 e1).pre (l2 + 1)) (Sl.put (Z.addr (T.ent g2 e2.1 e2.2).pre l2) (T.ent g2 e2.1 e2.2) (Sl.put (Z.addr (two l g0 g1 g' e0 e1).pre l2) (two l g0 g1 g' e0 e1) [])) = mm at HNM wm
    have hm3' : mm.ents = allE e0.1.length L := by rw [← hmm]; exact hm3
    have hks : mm.ks = Sl.put (Z.addr e2.1 l2) (T.ent g2 e2.1 e2.2) (Sl.put (Z.addr (Z.cut e0.1 (l + 1)) l2) (two l g0 g1 g' e0 e1) []) := by rw [← hmm]; rfl
    have hblk : mm.blk = g3 := by rw [← hmm]; rfl
    have s1 : Sl.Srt (Sl.put (Z.addr (Z.cut e0.1 (l + 1)) l2) (two l g0 g1 g' e0 e1) ([] : List (Nat × T))) := Sl.srt_put _ _ Sl.srt_nil
    have hk0 : (Sl.get (kidL mm.ks) (Z.addr e0.1 l2 : Int)).getD none = some ⟨g', 0, none⟩ := by
      rw [rootP_kid, hks, had0, Sl.get_put s1, if_neg (by omega), Sl.get_put Sl.srt_nil, if_pos rfl]; rfl
    have hk2 : (Sl.get (kidL mm.ks) (Z.addr e2.1 l2 : Int)).getD none = some ⟨g2, 0, none⟩ := by
      rw [rootP_kid, hks, Sl.get_put s1, if_pos rfl]; rfl
    have hlm3 : levI mm = (l2 : Int) := by rw [← hmm]; show ((l2 + 1 : Nat) : Int) - 1 = l2; omega
    have HMM := Lib.hid (And.intro hm3' (And.intro hk0 hk2))
    have a0 : ∀ w', Below wq.heap.size wq w' → w'.cell? ⟨b, off, none⟩ = some (.slice P0 e0.1.length p0c) := fun w' hb' => HY0.out w' (Below.andThen BQ.out hb')
    have a2 : ∀ w', Below wq.heap.size wq w' → w'.cell? ⟨b, off + 4, none⟩ = some (.slice P2 e2.1.length p2c) := fun w' hb' => y2.out w' (Below.andThen BQ.out hb')
    have a3 : ∀ w', Below wq.heap.size wq w' → w'.cell? ⟨pb, po + 2, none⟩ = some (.pointer (some ⟨g2, 0, none⟩)) := fun w' hb' => (HT.out.below hb').2.1
    have HLV : Hid (∀ w1, Below wq.heap.size wq w1 → Calls Try.prog 14 #[.pointer (some ⟨g3, 0, none⟩)] w1 fun e w' => e = .returned (.int .i64 (l2 : Int)) ∧ w1 = w') := Lib.hid fun w1 hb1 => by
      obtain ⟨kp, hnd⟩ := (HNM.out.below hb1 (Nat.le_refl _) hb1.size).2.nd
      rw [hlm3, hblk] at hnd
      exact nLevel_c hnd
    have HKD0 : Hid (∀ w1, Below wq.heap.size wq w1 → Calls Try.prog 16 #[.pointer (some ⟨g3, 0, none⟩), .int .i64 (Z.addr e0.1 l2 : Int)] w1 fun e w' => e = .returned (.pointer (some ⟨g', 0, none⟩)) ∧ ∃ n, w' = w1.drewN n) := Lib.hid fun w1 hb1 => by
      have h9 := nKid_c (HNM.out.below hb1 (Nat.le_refl _) hb1.size).2 (Z.addr e0.1 l2 : Int) _ HMM.out.2.1
      rw [hblk] at h9
      exact h9
    have HKD2 : Hid (∀ w1, Below wq.heap.size wq w1 → Calls Try.prog 16 #[.pointer (some ⟨g3, 0, none⟩), .int .i64 (Z.addr e2.1 l2 : Int)] w1 fun e w' => e = .returned (.pointer (some ⟨g2, 0, none⟩)) ∧ ∃ n, w' = w1.drewN n) := Lib.hid fun w1 hb1 => by
      have h9 := nKid_c (HNM.out.below hb1 (Nat.le_refl _) hb1.size).2 (Z.addr e2.1 l2 : Int) _ HMM.out.2.2
      rw [hblk] at h9
      exact h9
    have HAD0 : Hid (∀ w1, Below wq.heap.size wq w1 → Calls Try.prog 17 #[.slice P0 e0.1.length p0c, .int .i64 (l2 : Int)] w1 fun e w' => e = .returned (.int .i64 (Z.addr e0.1 l2 : Int)) ∧ w1 = w') := Lib.hid fun w1 hb1 => raddr_c P0 p0c e0.1 l2 w.heap.size w1 (HPP.out.1.below' (Below.andThen BQ.out hb1) (Nat.le_refl _)) HA.out.1 HA.out.2 H263.out
    have HAD2 : Hid (∀ w1, Below wq.heap.size wq w1 → Calls Try.prog 17 #[.slice P2 e2.1.length p2c, .int .i64 (l2 : Int)] w1 fun e w' => e = .returned (.int .i64 (Z.addr e2.1 l2 : Int)) ∧ w1 = w') := Lib.hid fun w1 hb1 => raddr_c P2 p2c e2.1 l2 w.heap.size w1 (HP2.out.below' (Below.andThen BQ.out hb1) (Nat.le_refl _)) HA3.out.1 HA3.out.2 H263.out
    have HIM : Hid (∀ wa (D : Option Addr) (d : Nat), Below wq.heap.size wq wa → EntL wa w.heap.size wa.heap.size D (allE e0.1.length L) → (allE e0.1.length L).length ≤ d → Calls Try.prog 11 #[.pointer (some ⟨g3, 0, none⟩), .slice D (allE e0.1.length L).length d] wa fun e w' => e = .returned (.bool true) ∧ Below wa.heap.size wa w') := Lib.hid fun wa D d hba hel hcd => by
      have hal := (allE_ok e0.1.length _ L rfl HFIT.out).2.2
      have h9 := is_list (c := d) (HNM.out.below hba (Nat.le_refl _) hba.size) HMM.out.1 hel (Nat.le_refl _) (Nat.le_trans BQ.out.size hba.size) (Nat.le_refl _) hcd (by have := HX.out.2.2.1; omega)
      rw [hblk] at h9
      exact h9
    have hpe := ptr_eq
    have hbb := Below.refl wq.heap.size wq
    clear hcn hm3 wn wm hmem0 had0 hadn hmm hm3' hks hblk s1 hk0 hk2 hlm3
    go_wp2_with fail
    go_region_held3 (fun w' => Below wq.heap.size wq w') (((repeat (first | refine Below.drew ?_ | (with_reducible refine below_drewN _ ?_) | refine Below.alloc ?_ (by first | omega | (simp; done) | (simp; omega)) _ | refine Below.setCell ?_ (by first | omega | (simp; done) | (simp; omega)) _)); first | exact Below.refl _ _ | assumption | exact below_drewN _ (Below.refl _ _) | exact below_drewN _ (below_drewN _ (Below.refl _ _))))
      ((first
        | (go_at_call 10; refine (HALL3.out _ (Below.andThen BQ.out (show Below wq.heap.size wq _ by ((repeat (first | refine Below.drew ?_ | (with_reducible refine below_drewN _ ?_) | refine Below.alloc ?_ (by first | omega | (simp; done) | (simp; omega)) _ | refine Below.setCell ?_ (by first | omega | (simp; done) | (simp; omega)) _)); first | exact Below.refl _ _ | assumption | exact below_drewN _ (Below.refl _ _) | exact below_drewN _ (below_drewN _ (Below.refl _ _)))))).mono ?_; rintro e' wa ⟨D3, q3, rfl, hel, hcl, hba⟩; have hbA := Below.trans (show Below wq.heap.size wq _ by ((repeat (first | refine Below.drew ?_ | (with_reducible refine below_drewN _ ?_) | refine Below.alloc ?_ (by first | omega | (simp; done) | (simp; omega)) _ | refine Below.setCell ?_ (by first | omega | (simp; done) | (simp; omega)) _)); first | exact Below.refl _ _ | assumption | exact below_drewN _ (Below.refl _ _) | exact below_drewN _ (below_drewN _ (Below.refl _ _)))) (hba.mono (Below.size (show Below wq.heap.size wq _ by ((repeat (first | refine Below.drew ?_ | (with_reducible refine below_drewN _ ?_) | refine Below.alloc ?_ (by first | omega | (simp; done) | (simp; omega)) _ | refine Below.setCell ?_ (by first | omega | (simp; done) | (simp; omega)) _)); first | exact Below.refl _ _ | assumption | exact below_drewN _ (Below.refl _ _) | exact below_drewN _ (below_drewN _ (Below.refl _ _)))))); have HEL3 := Lib.hid (And.intro hel hcl); clear hba hel hcl)
        | (go_at_call 11; refine (HIM.out wa D3 q3 hbA HEL3.out.1 HEL3.out.2).mono ?_; rintro e' wb ⟨rfl, hbb2⟩; have hbB := Below.trans hbA (hbb2.mono hbA.size); clear hbb2)
        | (go_at_call 14; refine (HLV.out _ (show Below wq.heap.size wq _ by ((repeat (first | refine Below.drew ?_ | (with_reducible refine below_drewN _ ?_) | refine Below.alloc ?_ (by first | omega | (simp; done) | (simp; omega)) _ | refine Below.setCell ?_ (by first | omega | (simp; done) | (simp; omega)) _)); first | exact Below.refl _ _ | assumption | exact below_drewN _ (Below.refl _ _) | exact below_drewN _ (below_drewN _ (Below.refl _ _))))).mono ?_; rintro e' w' ⟨rfl, rfl⟩)
        | (go_at_call 17; (with_reducible refine (HAD0.out _ (show Below wq.heap.size wq _ by ((repeat (first | refine Below.drew ?_ | (with_reducible refine below_drewN _ ?_) | refine Below.alloc ?_ (by first | omega | (simp; done) | (simp; omega)) _ | refine Below.setCell ?_ (by first | omega | (simp; done) | (simp; omega)) _)); first | exact Below.refl _ _ | assumption | exact below_drewN _ (Below.refl _ _) | exact below_drewN _ (below_drewN _ (Below.refl _ _))))).mono ?_); rintro e' w' ⟨rfl, rfl⟩; clear HAD0)
        | (go_at_call 17; (with_reducible refine (HAD2.out _ (show Below wq.heap.size wq _ by ((repeat (first | refine Below.drew ?_ | (with_reducible refine below_drewN _ ?_) | refine Below.alloc ?_ (by first | omega | (simp; done) | (simp; omega)) _ | refine Below.setCell ?_ (by first | omega | (simp; done) | (simp; omega)) _)); first | exact Below.refl _ _ | assumption | exact below_drewN _ (Below.refl _ _) | exact below_drewN _ (below_drewN _ (Below.refl _ _))))).mono ?_); rintro e' w' ⟨rfl, rfl⟩)
        | (go_at_call 16; (with_reducible refine (HKD0.out _ (show Below wq.heap.size wq _ by ((repeat (first | refine Below.drew ?_ | (with_reducible refine below_drewN _ ?_) | refine Below.alloc ?_ (by first | omega | (simp; done) | (simp; omega)) _ | refine Below.setCell ?_ (by first | omega | (simp; done) | (simp; omega)) _)); first | exact Below.refl _ _ | assumption | exact below_drewN _ (Below.refl _ _) | exact below_drewN _ (below_drewN _ (Below.refl _ _))))).mono ?_); rintro e' w' ⟨rfl, n, rfl⟩; clear HKD0)
        | (go_at_call 16; (with_reducible refine (HKD2.out _ (show Below wq.heap.size wq _ by ((repeat (first | refine Below.drew ?_ | (with_reducible refine below_drewN _ ?_) | refine Below.alloc ?_ (by first | omega | (simp; done) | (simp; omega)) _ | refine Below.setCell ?_ (by first | omega | (simp; done) | (simp; omega)) _)); first | exact Below.refl _ _ | assumption | exact below_drewN _ (Below.refl _ _) | exact below_drewN _ (below_drewN _ (Below.refl _ _))))).mono ?_); rintro e' w' ⟨rfl, n, rfl⟩)))
    go_wp2_with fail
    go_ret
    exact ⟨rfl, Below.andThen BQ.out (show Below wq.heap.size wq _ by ((repeat (first | refine Below.drew ?_ | (with_reducible refine below_drewN _ ?_) | refine Below.alloc ?_ (by first | omega | (simp; done) | (simp; omega)) _ | refine Below.setCell ?_ (by first | omega | (simp; done) | (simp; omega)) _)); first | exact Below.refl _ _ | assumption | exact below_drewN _ (Below.refl _ _) | exact below_drewN _ (below_drewN _ (Below.refl _ _))))⟩
end Go.Proofs.Ytgplbbmenmbaaaa

/-
  THE LAW NodePair, seventh part: the law.
-/
namespace Go.Proofs.Ytgplbbmenmbaaaa
open Go.ChangeShapes Go.WideShapes Go.ChangeAt Go.RowKit
open Tr (T S4 Ent)

/-- The law, at arguments laid open. -/
theorem nodePair_c {w : World} {A A' : Option Addr} {c c' : Nat} {L : List Ent} {q : List Nat} (h : Ents w w.heap.size A L ∧ L.length ≤ c) (hQ : Pts w w.heap.size A' q) (hl : L.length ≤ maxLen) (hql : q.length ≤ maxLen) :
    Calls Try.prog 3 #[.slice A L.length c, .slice A' q.length c'] w fun e w' => e = .returned (.bool true) ∧ Below w.heap.size w w' := by
  by_cases hs : heavyB 3 L = true ∨ L.length < 2 ∨ 40 < q.length
  · exact nodePair_skip h.1 hl hql hs
  have hh : heavyB 3 L = false := by cases hx : heavyB 3 L with
    | false => rfl
    | true => exact (hs (.inl hx)).elim
  have hl2 : 2 ≤ L.length := by by_cases hx : L.length < 2; exact (hs (.inr (.inl hx))).elim; omega
  have hq : q.length ≤ 40 := by by_cases hx : 40 < q.length; exact (hs (.inr (.inr hx))).elim; omega
  have hl3 : L.length ≤ 3 := by
    by_cases hx : 3 < L.length
    · have : heavyB 3 L = true := decide_eq_true (.inl hx)
      rw [this] at hh; cases hh
    · omega
  by_cases hall : ∀ e ∈ L, 1 ≤ e.1.length ∧ e.1.length ≤ 16
  · obtain ⟨e0, he0⟩ : ∃ e, L[0]? = some e := ⟨L[0], List.getElem?_eq_getElem (by omega)⟩
    obtain ⟨e1, he1⟩ : ∃ e, L[1]? = some e := ⟨L[1], List.getElem?_eq_getElem (by omega)⟩
    by_cases hk : e0.1.length = e1.1.length
    · by_cases hne : e0.1 = e1.1
      · refine nodePair_same h.1 hh hl3 hl2 hq hQ hall fun x0 x1 y0 y1 => ?_
        cases he0.symm.trans y0; cases he1.symm.trans y1; exact hne
      · have Hk : ∀ (x0 x1 : Ent), L[0]? = some x0 → L[1]? = some x1 → x0.1.length = x1.1.length := fun x0 x1 y0 y1 => by
          cases he0.symm.trans y0; cases he1.symm.trans y1; exact hk
        have Hne : ∀ (x0 x1 : Ent), L[0]? = some x0 → L[1]? = some x1 → x0.1 ≠ x1.1 := fun x0 x1 y0 y1 => by
          cases he0.symm.trans y0; cases he1.symm.trans y1; exact hne
        by_cases h2 : L.length = 2
        · exact nodePair_two h.1 hh hl3 hl2 hq hQ h.2 h2 hall Hk Hne
        have h3 : L.length = 3 := by omega
        obtain ⟨e2, he2⟩ : ∃ e, L[2]? = some e := ⟨L[2], List.getElem?_eq_getElem (by omega)⟩
        by_cases hx : e0.1.length = e2.1.length
        · have Hx : ∀ (x0 x2 : Ent), L[0]? = some x0 → L[2]? = some x2 → x0.1.length = x2.1.length := fun x0 x2 y0 y2 => by
            cases he0.symm.trans y0; cases he2.symm.trans y2; exact hx
          by_cases hy : ∀ l : Nat, Z.part e0.1 e1.1 = (l : Int) → (l : Int) < Z.part (Z.cut e0.1 (l + 1)) e2.1
          · refine nodePair_ok3 h.1 hh hl3 hl2 hq hQ h.2 h3 hall Hk Hne Hx fun x0 x1 x2 l y0 y1 y2 y => ?_
            cases he0.symm.trans y0; cases he1.symm.trans y1; cases he2.symm.trans y2; exact hy l y
          · refine nodePair_arg3 h.1 hh hl3 hl2 hq hQ h.2 h3 hall Hk Hne Hx fun x0 x1 x2 l y0 y1 y2 y => ?_
            cases he0.symm.trans y0; cases he1.symm.trans y1; cases he2.symm.trans y2
            obtain ⟨m, hm⟩ := Classical.not_forall.1 hy
            obtain ⟨hm1, hm2⟩ := Classical.not_imp.1 hm
            have : m = l := by omega
            subst this; omega
        · refine nodePair_dim3 h.1 hh hl3 hl2 hq hQ h.2 h3 hall Hk Hne fun x0 x2 y0 y2 => ?_
          cases he0.symm.trans y0; cases he2.symm.trans y2; exact hx
    · refine nodePair_dim h.1 hh hl3 hl2 hq hQ hall fun x0 x1 y0 y1 => ?_
      cases he0.symm.trans y0; cases he1.symm.trans y1; exact hk
  · refine nodePair_none h.1 hh hl3 hl2 hq hQ ?_
    obtain ⟨e, he⟩ := Classical.not_forall.1 hall
    obtain ⟨h1, h2⟩ := Classical.not_imp.1 he
    exact ⟨e, h1, h2⟩
end Go.Proofs.Ytgplbbmenmbaaaa
