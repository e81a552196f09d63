import Derived.Test.YtjcmehplcagejaaDoorM95
/-
  THE LAW DiffNil.
-/
namespace Go.Proofs.YtjcmehplcagejaaDoor
open Go.ChangeShapes Go.WideShapes Go.ChangeAt Go.RowKit
open Tr (T S4 Ent Sd Fl Chg)

set_option maxRecDepth 100000 in
set_option maxHeartbeats 2000000 in
theorem diffNil_no {w : World} (hT : Tz w) (k : Int) (hk : ¬ (1 ≤ k ∧ k ≤ 16)) : Calls Tryd.prog 3 #[.int .i64 k] w fun e w' => e = .returned (.bool true) ∧ Below w.heap.size w w' := by
  have HT := Lib.hid hT
  have HN := Lib.hid fun w1 : World => tNew_arg k w1 hk
  clear hT hk
  go_enter Tryd.func3, Tryd.ntmps3
  go_wp2_with fail
  refine (awake12_c w HT.out).mono ?_
  rintro e w1 ⟨rfl, hb1⟩
  have B1 := Lib.hid hb1
  clear hb1
  go_wp2_with fail
  refine (HN.out w1).mono ?_
  rintro e w' ⟨rfl, rfl⟩
  clear HN
  go_wp2_with fail
  refine (dChanges_nil w1 none none (.inl rfl)).mono ?_
  rintro e w2 ⟨rfl, hb2⟩
  have B2 := Lib.hid (Below.andThen B1.out hb2)
  clear hb2
  go_wp2_with fail
  refine (dChanges_nil w2 none none (.inl rfl)).mono ?_
  rintro e w3 ⟨rfl, hb3⟩
  have B3 := Lib.hid (Below.andThen B2.out hb3)
  clear hb3
  go_wp2_with fail
  refine (dCount_nil w3 none none (.inl rfl)).mono ?_
  rintro e w4 ⟨rfl, hb4⟩
  have B4 := Lib.hid (Below.andThen B3.out hb4)
  clear hb4
  go_wp2_with fail
  refine (dSteps_nil1 w4 _).mono ?_
  rintro e w' ⟨rfl, rfl⟩
  go_wp2_with fail
  refine (dSame_same w4 none).mono ?_
  rintro e w' ⟨rfl, rfl⟩
  go_wp2_with fail
  refine (dSame_same w4 none).mono ?_
  rintro e w' ⟨rfl, rfl⟩
  go_wp2_with fail
  refine (dSame_same w4 none).mono ?_
  rintro e w' ⟨rfl, rfl⟩
  go_wp2_with fail
  go_ret
  exact ⟨rfl, B4.out⟩
set_option maxRecDepth 100000 in
set_option maxHeartbeats 2000000 in
theorem diffNil_yes {w : World} (hT : Tz w) (k : Nat) (h1 : 1 ≤ k) (h16 : k ≤ 16) : Calls Tryd.prog 3 #[.int .i64 (k : Int)] w fun e w' => e = .returned (.bool true) ∧ Below w.heap.size w w' := by
  have HT := Lib.hid hT
  have HN := Lib.hid fun w1 : World => tNew_c k w1 h1 h16
  clear hT h1 h16
  go_enter Tryd.func3, Tryd.ntmps3
  go_wp2_with fail
  refine (awake12_c w HT.out).mono ?_
  rintro e w1 ⟨rfl, hb1⟩
  have B1 := Lib.hid hb1
  clear hb1
  go_wp2_with fail
  refine (HN.out w1).mono ?_
  rintro e w2 ⟨rfl, -, hb2⟩
  have B2 := Lib.hid (Below.andThen B1.out hb2)
  obtain ⟨g, hg⟩ : ∃ g, w1.heap.size = g := ⟨_, rfl⟩
  rw [hg]
  clear HN hb2 hg
  go_wp2_with fail
  refine (dChanges_nil w2 none (some ⟨g, 0, none⟩) (.inl rfl)).mono ?_
  rintro e w3 ⟨rfl, hb3⟩
  have B3 := Lib.hid (Below.andThen B2.out hb3)
  clear hb3
  go_wp2_with fail
  refine (dChanges_nil w3 (some ⟨g, 0, none⟩) none (.inr rfl)).mono ?_
  rintro e w4 ⟨rfl, hb4⟩
  have B4 := Lib.hid (Below.andThen B3.out hb4)
  clear hb4
  go_wp2_with fail
  refine (dCount_nil w4 none none (.inl rfl)).mono ?_
  rintro e w5 ⟨rfl, hb5⟩
  have B5 := Lib.hid (Below.andThen B4.out hb5)
  clear hb5
  go_wp2_with fail
  refine (dSteps_nil1 w5 _).mono ?_
  rintro e w' ⟨rfl, rfl⟩
  go_wp2_with fail
  refine (dSame_same w5 none).mono ?_
  rintro e w' ⟨rfl, rfl⟩
  go_wp2_with fail
  refine (dSame_nil2 w5 ⟨g, 0, none⟩).mono ?_
  rintro e w6 ⟨rfl, hb6⟩
  have B6 := Lib.hid (Below.andThen B5.out hb6)
  clear hb6
  go_wp2_with fail
  refine (dSame_nil1 w6 ⟨g, 0, none⟩).mono ?_
  rintro e w7 ⟨rfl, hb7⟩
  have B7 := Lib.hid (Below.andThen B6.out hb7)
  clear hb7
  go_wp2_with fail
  go_ret
  exact ⟨rfl, B7.out⟩
theorem diffNil_c {w : World} (hT : Tz w) (k : Int) : Calls Tryd.prog 3 #[.int .i64 k] w fun e w' => e = .returned (.bool true) ∧ Below w.heap.size w w' := by
  by_cases h : 1 ≤ k ∧ k ≤ 16
  · obtain ⟨n, rfl⟩ : ∃ n : Nat, k = (n : Int) := ⟨k.toNat, by omega⟩
    exact diffNil_yes hT n (by omega) (by omega)
  · exact diffNil_no hT k h
end Go.Proofs.YtjcmehplcagejaaDoor
