/-
  THE WALK of the law NodeNil: the law's call returns true.
-/
import Derived.Test.YtlmlflaiaebemaaDoorAw6
import Derived.Test.YtlmlflaiaebemaaDoorTn8
namespace Go.Proofs.YtlmlflaiaebemaaDoor
open Go.ChangeShapes Go.WideShapes Go.ChangeAt Go.RowKit
open Tr (T S4 Ent)

set_option maxRecDepth 100000 in
theorem nodeNil_big (A : Option Addr) (n c : Nat) (a : Int) (w : World) (h : 40 < n) (hm : n ≤ maxLen) :
    Calls Tryd.prog 5 #[.slice A n c, .int .i64 a] w fun e w' => e = .returned (.bool true) ∧ Below w.heap.size w w' := by
  unfold maxLen at hm
  go_enter Tryd.func5, Tryd.ntmps5
  go_wp2_with fail
  refine (awake6_c _).mono ?_
  rintro e w1 ⟨rfl, hb1⟩
  have B1 := Lib.hid hb1
  clear hb1
  go_wp2_with fail
  go_ret
  exact ⟨rfl, B1.out⟩
set_option maxRecDepth 100000 in
set_option maxHeartbeats 4000000 in
theorem nodeNil_go (A : Option Addr) (n c : Nat) (a : Int) (w : World) (h : n ≤ 40) :
    Calls Tryd.prog 5 #[.slice A n c, .int .i64 a] w fun e w' => e = .returned (.bool true) ∧ Below w.heap.size w w' := by
  go_enter Tryd.func5, Tryd.ntmps5
  go_wp2_with fail
  refine (awake6_c _).mono ?_
  rintro e w1 ⟨rfl, hb1⟩
  have B1 := Lib.hid hb1
  clear hb1
  go_wp2_with fail
  refine (nLeaf_c [1] _ 1 _ 2 _ (Nat.le_refl _) (pts_list (g := w1.heap.size) (t := 23) (us := [1]) (by intro u hu; simp at hu; omega) (heap_at _ _ _ rfl)) (by decide) (by decide) (by decide)).mono ?_
  rintro e w2 ⟨g, rfl, hn, -, hb2⟩
  have B2 := Lib.hid (Below.andThen B1.out (Below.andThen (below_alloc w1 _) hb2))
  clear hn hb2
  go_wp2_with fail
  refine (nPair_nil _ _).mono ?_
  rintro e w' ⟨rfl, rfl⟩
  go_wp2_with fail
  refine (nPair_kid _ _).mono ?_
  rintro e w' ⟨rfl, rfl⟩
  go_wp2_with fail
  refine (nWith_nil _ _).mono ?_
  rintro e w' ⟨rfl, rfl⟩
  go_wp2_with fail
  refine (nWith_kid _ _).mono ?_
  rintro e w' ⟨rfl, rfl⟩
  go_wp2_with fail
  refine (nWithout_nil _ _).mono ?_
  rintro e w' ⟨rfl, rfl⟩
  go_wp2_with fail
  refine (nEntry_nil _).mono ?_
  rintro e w3 ⟨rfl, hb3⟩
  have B3 := Lib.hid (Below.andThen B2.out hb3)
  clear hb3
  go_wp2_with fail
  refine (nFrom_nil _ _).mono ?_
  rintro e w' ⟨rfl, rfl⟩
  go_wp2_with fail
  refine (nUpTo_nil _ _).mono ?_
  rintro e w' ⟨rfl, rfl⟩
  go_wp2_with fail
  refine (nK_nil _).mono ?_
  rintro e w' ⟨rfl, rfl⟩
  go_wp2_with fail
  refine (nLevel_nil _).mono ?_
  rintro e w' ⟨rfl, rfl⟩
  go_wp2_with fail
  refine (nPrefix_nil _).mono ?_
  rintro e w' ⟨rfl, rfl⟩
  go_wp2_with fail
  refine (nKid_nil _ _).mono ?_
  rintro e w' ⟨rfl, rfl⟩
  go_wp2_with fail
  refine (nCovers_nil _ _ _ _).mono ?_
  rintro e w' ⟨rfl, rfl⟩
  go_wp2_with fail
  refine (nSums_nil _).mono ?_
  rintro e w4 ⟨rfl, hb4⟩
  have B4 := Lib.hid (Below.andThen (Below.andThen B3.out (below_alloc w3 _)) hb4)
  clear hb4
  go_wp2_with fail
  refine (nShape_nil _).mono ?_
  rintro e w5 ⟨rfl, hb5⟩
  have B5 := Lib.hid (Below.andThen B4.out hb5)
  clear hb5
  go_wp2_with fail
  refine (rsameShape_c 0 none 0 none 0 none 0 none 0 [] [] false 0 (Pts.nil _ _ _) (Pts.nil _ _ _) (RdV.nil _ _ _) (RdV.nil _ _ _) (Nat.le_refl _) (by decide) (by decide)).mono ?_
  rintro e w6 ⟨rfl, hb6⟩
  have B6 := Lib.hid (Below.andThen B5.out hb6)
  clear hb6
  go_wp2_with fail
  go_ret
  exact ⟨rfl, B6.out⟩
theorem nodeNil_c (A : Option Addr) (us : List Nat) (c : Nat) (a : Int) (w : World) (hm : us.length ≤ maxLen) :
    Calls Tryd.prog 5 #[.slice A us.length c, .int .i64 a] w fun e w' => e = .returned (.bool true) ∧ Below w.heap.size w w' := by
  by_cases h : 40 < us.length
  · exact nodeNil_big A us.length c a w h hm
  · exact nodeNil_go A us.length c a w (by omega)
end Go.Proofs.YtlmlflaiaebemaaDoor
