import Derived.Test.YtpgkfccfabnjdaaM9p
import Derived.Test.YtpgkfccfabnjdaaM13
import Derived.Test.YtpgkfccfabnjdaaM16
/-
  CONTRACTS of pantileref13.Heavy; of package edit, fourth part: Fits, Do.
-/
namespace Go.Proofs.Ytpgkfccfabnjdaa
open Go.ChangeShapes Go.WideShapes Go.ChangeAt Go.RowKit
open Tr (T S4 Ent Chg Raw)

set_option maxRecDepth 100000 in
theorem r13heavy {w : World} {B : Nat} {A : Option Addr} {c : Nat} {L : List Raw} (h : RwL w B A L) (hl : L.length ≤ maxLen) (m : Nat) (r : Bool) (hr : decide (m < L.length ∨ ∃ e ∈ L, 40 < e.1.length) = r) :
    Calls Try.prog 6 #[.slice A L.length c, .int .i64 (m : Int)] w fun e w' => e = .returned (.bool r) ∧ w = w' := by
  have HX := Lib.hid (And.intro h hr)
  have hm : L.length ≤ 9223372036854775807 := by unfold maxLen at hl; omega
  clear h hr hl
  by_cases hbig : m < L.length
  · have d1 : decide ((m : Int) < (L.length : Int)) = true := decide_eq_true (by omega)
    have hrt : Hid (r = true) := Lib.hid (by rw [← HX.out.2]; exact decide_eq_true (.inl hbig))
    have d1' : decide (m < L.length) = true := decide_eq_true hbig
    go_enter Try.func6, Try.ntmps6
    go_wp2
    go_ret
    exact ⟨by rw [hrt.out]; rfl, rfl⟩
  · have d1 : decide ((m : Int) < (L.length : Int)) = false := decide_eq_false (by omega)
    have d1' : decide (m < L.length) = false := decide_eq_false hbig
    have HB := Lib.hid hbig
    go_enter Try.func6, Try.ntmps6
    go_wp2
    go_loopw [5] (fun i wr => ∃ j : Nat, j ≤ L.length ∧ i = .int .i64 j ∧ wr = w ∧ ∀ q e, q < j → L[q]? = some e → ¬ 40 < e.1.length) (fun i _ => L.length - (intOf i).toNat)
    case atStart => exact ⟨0, Nat.zero_le _, (by first | rfl | trivial), (by first | rfl | trivial), fun m e hm => by omega⟩
    case round =>
      obtain ⟨j, hj, rfl, rfl, hbe⟩ := hrel
      by_cases hlt : j < L.length
      · obtain ⟨e, he⟩ := get_lt hlt
        obtain ⟨b, off, A1, c1, hA, -, x0, -, -, -, -, -, -, -, -⟩ := HX.out.1.at he
        subst hA
        have m1 : (0 : Int) ≤ (j : Int) := by omega
        have m2 : (j : Int) < (L.length : Int) := by omega
        have HY := Lib.hid (And.intro he hbe)
        by_cases hc : 40 < e.1.length
        · have d2 : decide ((40 : Int) < (e.1.length : Int)) = true := decide_eq_true (by omega)
          have hrt : Hid (r = true) := Lib.hid (by rw [← HX.out.2]; exact decide_eq_true (.inr ⟨e, List.mem_of_getElem? he, hc⟩))
          clear he hbe hc
          go_wp2_with fail
          go_ret
          exact ⟨by rw [hrt.out]; rfl, rfl⟩
        · have d2 : decide ((40 : Int) < (e.1.length : Int)) = false := decide_eq_false (by omega)
          have hc := Lib.hid hc
          clear he hbe
          go_wp2_with fail
          go_roundw
          case rel =>
            refine ⟨j + 1, by omega, by go_num, (by first | rfl | trivial), fun q e' hq he' => ?_⟩
            by_cases c : q < j
            · exact HY.out.2 q e' c he'
            · have : q = j := by omega
              subst this
              rw [HY.out.1] at he'
              cases he'
              exact hc.out
          case measure => simp [intOf]; omega
      · have hrf : Hid (r = false) := Lib.hid (by
          rw [← HX.out.2]
          refine decide_eq_false ?_
          rintro (h | ⟨e, he, h40⟩)
          · exact HB.out h
          · obtain ⟨q, hq⟩ := List.mem_iff_getElem?.1 he
            exact hbe q e (by have := lt_get hq; omega) hq h40)
        clear hbe
        go_wp2_with fail
        go_ret
        exact ⟨by rw [hrf.out]; rfl, rfl⟩

def heavyC (m : Nat) (L : List Raw) : Bool := decide (m < L.length ∨ ∃ a ∈ L, 40 < a.1.length)
theorem heavyC_few {m : Nat} {L : List Raw} (h : heavyC m L = false) : L.length ≤ m := by
  simp only [heavyC, decide_eq_false_iff_not, not_or] at h
  omega

/-! ### Fits -/
theorem opt_thing (x g : Option Nat) : (x.isSome == g.isSome && (((x.getD 0 : Nat) : Int) == ((g.getD 0 : Nat) : Int))) = decide (x = g) := by
  cases x with
  | none => cases g <;> simp
  | some a =>
    cases g with
    | none => simp
    | some b =>
      by_cases e : a = b
      · subst e; simp
      · rw [decide_eq_false (by simpa using e)]
        simp only [Option.isSome_some, Option.getD_some, beq_self_eq_true, Bool.true_and, beq_eq_false_iff_ne]
        omega
end Go.Proofs.Ytpgkfccfabnjdaa

/-
  CONTRACTS of package pantileref13, second part: Fits, Do.
-/
namespace Go.Proofs.Ytpgkfccfabnjdaa
open Go.ChangeShapes Go.WideShapes Go.ChangeAt Go.RowKit
open Tr (T S4 Ent Chg Raw)

set_option maxRecDepth 1000000 in
set_option maxHeartbeats 4000000 in
theorem r13do_c {w : World} {B R k N n c c' : Nat} {A A' : Option Addr} {L : List Ent} {C : List Chg} (zL : Tr.ZS L) (dL : Tr.Dim k L) (hE : EntL w B R A L) (hR : R ≤ w.heap.size) (hB : B ≤ w.heap.size) (hN : L.length = N) (hNl : N ≤ 100000) (hc : N ≤ c) (h : RwL w B A' (C.map Tr.rawC)) (hC : Tr.CL k C) (hn : C.length = n) (hl : n ≤ 100000) (h1 : 1 ≤ k) (h16 : k ≤ 16) :
    Calls Try.prog 27 #[.slice A N c, .slice A' n c'] w fun e w' => ∃ D d N', e = .returned (.slice D N' d) ∧ (Tr.doL L C).length = N' ∧ EntL w' B w'.heap.size D (Tr.doL L C) ∧ N' ≤ d ∧ Below w.heap.size w w' := by
  have hE0 := EntL.below (R := R) hE (Below.refl w.heap.size w) hB hR hR
  have HX := Lib.hid (And.intro zL (And.intro dL (And.intro hB (And.intro hN (And.intro hNl (And.intro h (And.intro hC (And.intro hn (And.intro hl (And.intro h1 (And.intro h16 (And.intro hE0 hc))))))))))))
  have hn9 : (n : Int) ≤ 100000 := by omega
  clear zL dL hE hE0 hR hB hN hNl hc h hC hn hl h1 h16
  go_enter Try.func27, Try.ntmps27
  go_wp2_with fail
  go_loopw [0, 5] (fun u v wr => ∃ (j m : Nat) (D : Option Addr) (d : Nat), u = .slice D m d ∧ v = .int .i64 (j : Int) ∧ j ≤ n ∧ (Tr.doL L (C.take j)).length = m ∧ EntL wr B wr.heap.size D (Tr.doL L (C.take j)) ∧ m ≤ d ∧ Below w.heap.size w wr) (fun _ v _ => n - (intOf v).toNat)
  case atStart => exact ⟨0, N, A, c, rfl, rfl, Nat.zero_le _, HX.out.2.2.2.1, HX.out.2.2.2.2.2.2.2.2.2.2.2.1, HX.out.2.2.2.2.2.2.2.2.2.2.2.2, Below.refl _ _⟩
  case round =>
    obtain ⟨j, m, D, d, rfl, rfl, hj, hm, hE, hmd, hb⟩ := hrel
    by_cases hlt : j < n
    · obtain ⟨zL, dL, hB, hN, hNl, h, hC, hn, hl, h1, h16, -, -⟩ := HX.out
      obtain ⟨y, hy⟩ := get_lt (us := C) (k := j) (by rw [hn]; exact hlt)
      obtain ⟨q, off, P, pc, hA, hq, e0, e1, e2, e3, e4, pp, pl, -, -⟩ := (h.below hb hB (Nat.le_refl _)).at (i := j) (r := Tr.rawC y) (by rw [List.getElem?_map, hy]; rfl)
      have hey := hC.each y (List.mem_of_getElem? hy)
      obtain ⟨np, hnp⟩ : ∃ np, y.1.length = np := ⟨_, rfl⟩
      replace e0 : wr.cell? ⟨q, off + j * 5, none⟩ = some (.slice P np pc) := by rw [← hnp]; exact e0
      replace e2 : wr.cell? ⟨q, off + j * 5 + 2, none⟩ = some (.bool y.2.2.isSome) := e2
      replace e4 : wr.cell? ⟨q, off + j * 5 + 4, none⟩ = some (.int .u64 ((y.2.2.getD 0 : Nat) : Int)) := e4
      obtain ⟨z1, d1, l1⟩ := Tr.doL_zd zL dL (hC.take j)
      have hlt2 : (C.take j).length ≤ n := by rw [List.length_take]; omega
      have hdo := Tr.doL_take (L := L) hy
      have f1 : decide ((j : Int) < (n : Int)) = true := decide_eq_true (by omega)
      have f1' : decide (j < n) = true := decide_eq_true hlt
      have n1 : (0 : Int) ≤ (j : Int) := by omega
      have n2 : (j : Int) < (n : Int) := by omega
      have n3 : (j : Int) ≤ 100000 := by omega
      have hqr : q < wr.heap.size := Nat.lt_of_lt_of_le hq (Nat.le_trans hB hb.size)
      subst hA
      cases hnew : y.2.2 with
      | some v =>
        have hP := fun w1 (hb1 : Below wr.heap.size wr w1) => rput6_c (p := y.1) (c := d) (c' := pc) (w := w1) (R := wr.heap.size) z1 d1 (hE.below hb1 (Nat.le_trans hB hb.size) (Nat.le_refl _) (Nat.le_refl _)) (pp.below' hb1 (Nat.le_trans hB hb.size)) hey.1 h1 h16 (by omega) hb1.size (Nat.le_trans (Nat.le_trans hB hb.size) hb1.size) (by rw [hm]; exact hmd) v (hey.2.2.2.2 v hnew)
        have hdc : Tr.doL L (C.take (j + 1)) = Tr.putE y.1 v (Tr.doL L (C.take j)) := by rw [hdo]; unfold Tr.doC; rw [hnew]
        rw [← hdc, hm, hnp] at hP
        obtain ⟨m2, hm2⟩ : ∃ m2, (Tr.doL L (C.take (j + 1))).length = m2 := ⟨_, rfl⟩
        rw [hm2] at hP
        rw [hnew] at e2 e4
        replace e2 : wr.cell? ⟨q, off + j * 5 + 2, none⟩ = some (.bool true) := e2
        replace e4 : wr.cell? ⟨q, off + j * 5 + 4, none⟩ = some (.int .u64 (v : Int)) := e4
        have HP := Lib.hid hP
        have HE := Lib.hid (And.intro hb (And.intro hm2 hlt))
        have a0 : ∀ w', Below wr.heap.size wr w' → w'.cell? ⟨q, off + j * 5, none⟩ = some (.slice P np pc) := fun w' h => (h.cell (p := ⟨q, off + j * 5, none⟩) hqr).trans e0
        have a4 : ∀ w', Below wr.heap.size wr w' → w'.cell? ⟨q, off + j * 5 + 4, none⟩ = some (.int .u64 (v : Int)) := fun w' h => (h.cell (p := ⟨q, off + j * 5 + 4, none⟩) hqr).trans e4
        have hb0 : Below wr.heap.size wr wr := Below.refl _ _
        clear hP hb hm2 hlt hnp z1 d1 l1 hlt2 pp hey hE hm hmd hy zL dL hN hNl h hC hn hl h1 h16 hj hB hdo hdc hnew pl hq e1 e3
        go_wp2_with fail
        go_region_held3 (fun w' => Below wr.heap.size wr w') (((repeat (first | refine Below.drew ?_ | (with_reducible refine below_drewN _ ?_) | refine Below.alloc ?_ (by first | omega | (simp; done) | (simp; omega)) _ | refine Below.setCell ?_ (by first | omega | (simp; done) | (simp; omega)) _)); first | exact Below.refl _ _ | assumption | exact below_drewN _ (Below.refl _ _) | exact below_drewN _ (below_drewN _ (Below.refl _ _))))
          ((go_at_call 25; refine (HP.out _ (show Below wr.heap.size wr _ by ((repeat (first | refine Below.drew ?_ | (with_reducible refine below_drewN _ ?_) | refine Below.alloc ?_ (by first | omega | (simp; done) | (simp; omega)) _ | refine Below.setCell ?_ (by first | omega | (simp; done) | (simp; omega)) _)); first | exact Below.refl _ _ | assumption | exact below_drewN _ (Below.refl _ _) | exact below_drewN _ (below_drewN _ (Below.refl _ _))))).mono ?_; rintro e w2 ⟨D2, d2, rfl, hE2, hd2, hb2⟩; have hbD := Below.andThen (show Below wr.heap.size wr _ by ((repeat (first | refine Below.drew ?_ | (with_reducible refine below_drewN _ ?_) | refine Below.alloc ?_ (by first | omega | (simp; done) | (simp; omega)) _ | refine Below.setCell ?_ (by first | omega | (simp; done) | (simp; omega)) _)); first | exact Below.refl _ _ | assumption | exact below_drewN _ (Below.refl _ _) | exact below_drewN _ (below_drewN _ (Below.refl _ _)))) hb2; have H2 := Lib.hid (And.intro hE2 hd2); clear hE2 hd2 hb2))
        clear a0 a4 e0 e2 e4
        go_wp2_with fail
        go_roundw
        case rel => exact ⟨j + 1, m2, D2, d2, rfl, by first | rfl | go_num, by have := HE.out.2.2; omega, HE.out.2.1, H2.out.1, H2.out.2, HE.out.1.trans (hbD.mono HE.out.1.size)⟩
        case measure =>
          have := HE.out.2.2
          show n - ((j : Int) + 1).toNat < n - (j : Int).toNat
          omega
      | none =>
        have hP := rdel6_c (p := y.1) (c := d) (c' := pc) z1 d1 hE pp hey.1 h1 h16 (by omega) (Nat.le_refl _) (Nat.le_trans hB hb.size) (by rw [hm]; exact hmd)
        have hdc : Tr.doL L (C.take (j + 1)) = Tr.delE y.1 (Tr.doL L (C.take j)) := by rw [hdo]; unfold Tr.doC; rw [hnew]
        rw [← hdc, hm, hnp] at hP
        obtain ⟨m2, hm2⟩ : ∃ m2, (Tr.doL L (C.take (j + 1))).length = m2 := ⟨_, rfl⟩
        rw [hm2] at hP
        rw [hnew] at e2
        replace e2 : wr.cell? ⟨q, off + j * 5 + 2, none⟩ = some (.bool false) := e2
        have HP := Lib.hid hP
        have HE := Lib.hid (And.intro hb (And.intro hm2 hlt))
        clear hP hb hm2 hlt hnp z1 d1 l1 hlt2 pp hey hE hm hmd hy zL dL hN hNl h hC hn hl h1 h16 hj hB hdo hdc hnew pl hq e1 e3 e4
        go_wp2_with (go_at_call 40; refine HP.out.mono ?_; rintro e w2 ⟨D2, d2, rfl, hE2, hd2, hb2⟩; have H2 := Lib.hid (And.intro hE2 (And.intro hd2 (Below.andThen HE.out.1 hb2))); clear hE2 hd2 hb2)
        go_roundw
        case rel => exact ⟨j + 1, m2, D2, d2, rfl, by first | rfl | go_num, by have := HE.out.2.2; omega, HE.out.2.1, H2.out.1, H2.out.2.1, H2.out.2.2⟩
        case measure =>
          have := HE.out.2.2
          show n - ((j : Int) + 1).toNat < n - (j : Int).toNat
          omega
    · have hjn : n = j := by omega
      subst hjn
      have f1 : decide ((n : Int) < (n : Int)) = false := decide_eq_false (by omega)
      have f1' : decide (n < n) = false := decide_eq_false (by omega)
      rw [show C.take n = C by rw [← HX.out.2.2.2.2.2.2.2.1, List.take_length]] at hm hE
      have HR := Lib.hid (And.intro hm (And.intro hE (And.intro hmd hb)))
      clear hm hE hmd hb hlt hj
      go_wp2_with fail
      go_ret
      exact ⟨D, d, m, rfl, HR.out.1, HR.out.2.1, HR.out.2.2.1, HR.out.2.2.2⟩
end Go.Proofs.Ytpgkfccfabnjdaa
