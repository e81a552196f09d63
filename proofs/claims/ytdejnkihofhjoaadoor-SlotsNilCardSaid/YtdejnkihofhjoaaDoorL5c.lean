/-
  THE WALK of the law SlotsNil: the law's call returns true.
-/
import Derived.Test.YtdejnkihofhjoaaDoorAw5
import Derived.Test.YtdejnkihofhjoaaDoorScu
import Derived.Test.YtdejnkihofhjoaaDoorSau
import Derived.Test.YtdejnkihofhjoaaDoorSbu
namespace Go.Proofs.YtdejnkihofhjoaaDoor
open Go.ChangeShapes Go.WideShapes Go.ChangeAt Go.RowKit
open Go.Proofs.YtdejnkihofhjoaaDoor.Su

set_option maxRecDepth 100000 in
set_option maxHeartbeats 4000000 in
theorem slotsNil_c (a x : Int) (w : World) :
    Calls Tryd.prog 4 #[.int .i64 a, .int .u64 x] w fun e w' => e = .returned (.bool true) ∧ Below w.heap.size w w' := by
  go_enter Tryd.func4, Tryd.ntmps4
  go_wp2_with fail
  refine (awake5_c _).mono ?_
  rintro e w1 ⟨rfl, hb1⟩
  have B1 := Lib.hid hb1
  clear hb1
  go_wp2_with fail
  refine (sPut_nil _ _ _).mono ?_
  rintro e w' ⟨rfl, rfl⟩
  go_wp2_with fail
  refine (sDel_nil _ _).mono ?_
  rintro e w' ⟨rfl, rfl⟩
  go_wp2_with fail
  refine (sGet_nil _ _).mono ?_
  rintro e w' ⟨rfl, rfl⟩
  go_wp2_with fail
  refine (sFrom_nil _ _).mono ?_
  rintro e w' ⟨rfl, rfl⟩
  go_wp2_with fail
  refine (sUpTo_nil _ _).mono ?_
  rintro e w' ⟨rfl, rfl⟩
  go_wp2_with fail
  refine (sK_nil _).mono ?_
  rintro e w' ⟨rfl, rfl⟩
  go_wp2_with fail
  refine (sLen_nil _).mono ?_
  rintro e w' ⟨rfl, rfl⟩
  go_wp2_with fail
  refine (sDense_nil _).mono ?_
  rintro e w' ⟨rfl, rfl⟩
  go_wp2_with fail
  refine (sPlaces_nil _).mono ?_
  rintro e w2 ⟨⟨A9, rfl⟩, hb9⟩
  have B9 := Lib.hid (Below.andThen B1.out hb9)
  clear hb9
  go_wp2_with fail
  refine (sAll_nil _).mono ?_
  rintro e w3 ⟨⟨A8, rfl⟩, hb8⟩
  have B8 := Lib.hid (Below.andThen B9.out hb8)
  clear hb8
  go_wp2_with fail
  go_ret
  exact ⟨rfl, B8.out⟩
end Go.Proofs.YtdejnkihofhjoaaDoor
