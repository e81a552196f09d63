import Derived.Test.YtpgkfccfabnjdaaM9p
import Derived.Test.YtpgkfccfabnjdaaM13
/-
  CONTRACTS of pantileref13.Heavy; of package edit, fourth part: Fits, Do.
-/
namespace Go.Proofs.Ytpgkfccfabnjdaa
open Go.ChangeShapes Go.WideShapes Go.ChangeAt Go.RowKit
open Tr (T S4 Ent Chg Raw)

set_option maxRecDepth 100000 in
theorem r13heavy {w : World} {B : Nat} {A : Option Addr} {c : Nat} {L : List Raw} (h : RwL w B A L) (hl : L.length ≤ maxLen) (m : Nat) (r : Bool) (hr : decide (m < L.length ∨ ∃ e ∈ L, 40 < e.1.length) = r) :
    Calls Try.prog 6 #[.slice A L.length c, .int .i64 (m : Int)] w fun e w' => e = .returned (.bool r) ∧ w = w' := by
  have HX := Lib.hid (And.intro h hr)
  have hm : L.length ≤ 9223372036854775807 := by unfold maxLen at hl; omega
  clear h hr hl
  by_cases hbig : m < L.length
  · have d1 : decide ((m : Int) < (L.length : Int)) = true := decide_eq_true (by omega)
    have hrt : Hid (r = true) := Lib.hid (by rw [← HX.out.2]; exact decide_eq_true (.inl hbig))
    have d1' : decide (m < L.length) = true := decide_eq_true hbig
    go_enter Try.func6, Try.ntmps6
    go_wp2
    go_ret
    exact ⟨by rw [hrt.out]; rfl, rfl⟩
  · have d1 : decide ((m : Int) < (L.length : Int)) = false := decide_eq_false (by omega)
    have d1' : decide (m < L.length) = false := decide_eq_false hbig
    have HB := Lib.hid hbig
    go_enter Try.func6, Try.ntmps6
    go_wp2
    go_loopw [5] (fun i wr => ∃ j : Nat, j ≤ L.length ∧ i = .int .i64 j ∧ wr = w ∧ ∀ q e, q < j → L[q]? = some e → ¬ 40 < e.1.length) (fun i _ => L.length - (intOf i).toNat)
    case atStart => exact ⟨0, Nat.zero_le _, (by first | rfl | trivial), (by first | rfl | trivial), fun m e hm => by omega⟩
    case round =>
      obtain ⟨j, hj, rfl, rfl, hbe⟩ := hrel
      by_cases hlt : j < L.length
      · obtain ⟨e, he⟩ := get_lt hlt
        obtain ⟨b, off, A1, c1, hA, -, x0, -, -, -, -, -, -, -, -⟩ := HX.out.1.at he
        subst hA
        have m1 : (0 : Int) ≤ (j : Int) := by omega
        have m2 : (j : Int) < (L.length : Int) := by omega
        have HY := Lib.hid (And.intro he hbe)
        by_cases hc : 40 < e.1.length
        · have d2 : decide ((40 : Int) < (e.1.length : Int)) = true := decide_eq_true (by omega)
          have hrt : Hid (r = true) := Lib.hid (by rw [← HX.out.2]; exact decide_eq_true (.inr ⟨e, List.mem_of_getElem? he, hc⟩))
          clear he hbe hc
          go_wp2_with fail
          go_ret
          exact ⟨by rw [hrt.out]; rfl, rfl⟩
        · have d2 : decide ((40 : Int) < (e.1.length : Int)) = false := decide_eq_false (by omega)
          have hc := Lib.hid hc
          clear he hbe
          go_wp2_with fail
          go_roundw
          case rel =>
            refine ⟨j + 1, by omega, by go_num, (by first | rfl | trivial), fun q e' hq he' => ?_⟩
            by_cases c : q < j
            · exact HY.out.2 q e' c he'
            · have : q = j := by omega
              subst this
              rw [HY.out.1] at he'
              cases he'
              exact hc.out
          case measure => simp [intOf]; omega
      · have hrf : Hid (r = false) := Lib.hid (by
          rw [← HX.out.2]
          refine decide_eq_false ?_
          rintro (h | ⟨e, he, h40⟩)
          · exact HB.out h
          · obtain ⟨q, hq⟩ := List.mem_iff_getElem?.1 he
            exact hbe q e (by have := lt_get hq; omega) hq h40)
        clear hbe
        go_wp2_with fail
        go_ret
        exact ⟨by rw [hrf.out]; rfl, rfl⟩

def heavyC (m : Nat) (L : List Raw) : Bool := decide (m < L.length ∨ ∃ a ∈ L, 40 < a.1.length)
/-! ### Fits -/
theorem opt_thing (x g : Option Nat) : (x.isSome == g.isSome && (((x.getD 0 : Nat) : Int) == ((g.getD 0 : Nat) : Int))) = decide (x = g) := by
  cases x with
  | none => cases g <;> simp
  | some a =>
    cases g with
    | none => simp
    | some b =>
      by_cases e : a = b
      · subst e; simp
      · rw [decide_eq_false (by simpa using e)]
        simp only [Option.isSome_some, Option.getD_some, beq_self_eq_true, Bool.true_and, beq_eq_false_iff_ne]
        omega
theorem ed_fits_nil (A : Option Addr) (n c : Nat) (w : World) : Calls Try.prog 14 #[.pointer none, .slice A n c] w fun e w' => e = .returned (.tuple #[.bool false, .int .i64 1]) ∧ w = w' := by
  go_enter Try.func14, Try.ntmps14
  go_wp2_with fail
  go_ret2
  exact ⟨rfl, rfl⟩
end Go.Proofs.Ytpgkfccfabnjdaa

/-
  CONTRACTS of package edit, fifth part: Do.
-/
namespace Go.Proofs.Ytpgkfccfabnjdaa
open Go.ChangeShapes Go.WideShapes Go.ChangeAt Go.RowKit
open Tr (T S4 Ent Chg Raw)

theorem ed_do_nil (A : Option Addr) (n c : Nat) (w : World) : Calls Try.prog 15 #[.pointer none, .slice A n c] w fun e w' => e = .returned (.tuple #[.pointer none, .int .i64 1]) ∧ w = w' := by
  go_enter Try.func15, Try.ntmps15
  go_wp2_with (go_at_call 14; refine (ed_fits_nil A n c w).mono ?_; rintro e w' ⟨rfl, rfl⟩)
  go_ret2
  exact ⟨rfl, rfl⟩
end Go.Proofs.Ytpgkfccfabnjdaa
