/-
  THE CONTRACT of pantilelaw05.awake: the chapter's example is met: it returns true.
-/
import Derived.Test.YtdejnkihofhjoaaDoorS9u
namespace Go.Proofs.YtdejnkihofhjoaaDoor
open Go.ChangeShapes Go.WideShapes Go.ChangeAt Go.RowKit
open Go.Proofs.YtdejnkihofhjoaaDoor.Su

theorem aw5_a (w : World) {b : Nat} (h : At w w.heap.size b 1 []) : Calls Tryd.prog 11 #[.pointer (some ⟨b, 0, none⟩), .int .i64 0, .int .u64 7] w fun e w' => ∃ p, e = .returned (.tuple #[.pointer (some ⟨p, 0, none⟩), .int .i64 0]) ∧ At w' w'.heap.size p 1 [(0, 7)] ∧ Below w.heap.size w w' :=
  sPut_c h (Nat.le_refl _) 0 (by decide) 7
theorem aw5_b (w : World) {b : Nat} (h : At w w.heap.size b 1 [(0, 7)]) : Calls Tryd.prog 11 #[.pointer (some ⟨b, 0, none⟩), .int .i64 1, .int .u64 8] w fun e w' => ∃ p, e = .returned (.tuple #[.pointer (some ⟨p, 0, none⟩), .int .i64 0]) ∧ At w' w'.heap.size p 1 [(0, 7), (1, 8)] ∧ Below w.heap.size w w' :=
  sPut_c h (Nat.le_refl _) 1 (by decide) 8
set_option maxRecDepth 100000 in
theorem awake5_c (w : World) : Calls Tryd.prog 5 #[] w fun e w' => e = .returned (.bool true) ∧ Below w.heap.size w w' := by
  go_enter Tryd.func5, Tryd.ntmps5
  go_wp2_with fail
  refine (sNew_yes 1 _ (by omega) (by omega)).mono ?_
  rintro e w1 ⟨b1, rfl, hat1, hb1⟩
  have A1 := Lib.hid hat1
  have B1 := Lib.hid hb1
  clear hat1 hb1
  go_wp2_with fail
  refine (aw5_a _ A1.out).mono ?_
  rintro e w2 ⟨b2, rfl, hat2, hb2⟩
  have A2 := Lib.hid hat2
  have B2 := Lib.hid (Below.andThen B1.out hb2)
  clear hat2 hb2
  go_wp2_with fail
  refine (aw5_b _ A2.out).mono ?_
  rintro e w3 ⟨b3, rfl, hat3, hb3⟩
  have A23 := Lib.hid (A2.out.below hb3 (Nat.le_refl _) (Nat.le_refl _))
  have A3 := Lib.hid hat3
  have B3 := Lib.hid (Below.andThen B2.out hb3)
  clear hat3 hb3
  have D2 := Lib.hid (sDense_c (d := false) A23.out.2)
  have D3 := Lib.hid (sDense_c (d := true) A3.out.2)
  have L2 := Lib.hid (sLen_c (d := false) A23.out.1 A23.out.2)
  go_wp2_with fail
  refine D2.out.mono ?_
  rintro e w' ⟨rfl, rfl⟩
  go_wp2_with fail
  refine D3.out.mono ?_
  rintro e w' ⟨rfl, rfl⟩
  go_wp2_with fail
  refine L2.out.mono ?_
  rintro e w' ⟨rfl, rfl⟩
  go_wp2_with fail
  go_ret
  exact ⟨rfl, B3.out⟩
end Go.Proofs.YtdejnkihofhjoaaDoor
