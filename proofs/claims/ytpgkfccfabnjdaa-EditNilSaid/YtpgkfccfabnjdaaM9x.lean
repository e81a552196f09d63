import Derived.Test.YtpgkfccfabnjdaaM9v
/-
  THE LAW EditNil.
-/
namespace Go.Proofs.Ytpgkfccfabnjdaa
open Go.ChangeShapes Go.WideShapes Go.ChangeAt Go.RowKit
open Tr (T S4 Ent Chg Raw Pc)

set_option maxRecDepth 100000 in
set_option maxHeartbeats 2000000 in
theorem editNil_c {w : World} {A : Option Addr} {c : Nat} {L : List Raw} (hL : RwL w w.heap.size A L) (hl : L.length ≤ maxLen) :
    Calls Try.prog 4 #[.slice A L.length c] w fun e w' => e = .returned (.bool true) ∧ Below w.heap.size w w' := by
  obtain ⟨r, hr⟩ : ∃ r, heavyC 30 L = r := ⟨_, rfl⟩
  have HX := Lib.hid (And.intro hL (And.intro hl hr))
  clear hL hl hr
  go_enter Try.func4, Try.ntmps4
  go_wp2_with fail
  refine (awake13_c w).mono ?_
  rintro e w1 ⟨rfl, hb1⟩
  have HH := Lib.hid (r13heavy (c := c) (HX.out.1.below hb1 (Nat.le_refl _) (Nat.le_refl _)) HX.out.2.1 30 r HX.out.2.2)
  have HB := Lib.hid hb1
  clear hb1
  cases r with
  | true =>
    go_wp2_with fail
    refine HH.out.mono ?_
    rintro e w' ⟨rfl, rfl⟩
    go_wp2_with fail
    go_ret
    exact ⟨rfl, HB.out⟩
  | false =>
    go_wp2_with fail
    refine HH.out.mono ?_
    rintro e w' ⟨rfl, rfl⟩
    clear HH
    go_wp2_with fail
    refine (ed_fits_nil A L.length c _).mono ?_
    rintro e w' ⟨rfl, rfl⟩
    go_wp2_with fail
    refine (ed_do_nil A L.length c _).mono ?_
    rintro e w' ⟨rfl, rfl⟩
    go_wp2_with fail
    go_ret
    exact ⟨rfl, HB.out⟩
end Go.Proofs.Ytpgkfccfabnjdaa
