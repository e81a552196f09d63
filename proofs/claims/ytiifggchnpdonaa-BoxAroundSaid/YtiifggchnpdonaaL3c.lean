/-
  THE WALK of the law BoxAround: whatever the two points, the number and the level, the law's call returns true, and what was there stays.
-/
import Derived.Test.YtiifggchnpdonaaL3a
namespace Go.Proofs.Ytiifggchnpdonaa
open Go.ChangeShapes Go.WideShapes Go.ChangeAt Go.RowKit

theorem bcell_lv (A : Option Addr) (c k : Nat) (l : Int) (us ml mh : List Nat) (B : Nat) (w : World) (hl : l = (k : Int) - 1) (hml : Z.cut us k = ml) (hmh : Bx.cellHi us k = mh) (hp : Pts w B A us) (hB : B ≤ w.heap.size) (h1 : 1 ≤ us.length) (h16 : us.length ≤ 16) (hk : k ≤ 64) :
    Calls Try.prog 22 #[.slice A us.length c, .int .i64 l] w fun e w' => ∃ A1 c1 A2 c2, e = .returned (.tuple #[boxV A1 ml.length c1 A2 mh.length c2, .int .i64 0]) ∧ Pts w' w'.heap.size A1 ml ∧ Pts w' w'.heap.size A2 mh ∧ Below w.heap.size w w' := by
  subst hl
  exact bcell_yes A c k us ml mh B w hml hmh hp hB h1 h16 hk
theorem r3cell_lv (A : Option Addr) (c k : Nat) (l : Int) (us ml mh : List Nat) (B : Nat) (w : World) (hl : l = (k : Int) - 1) (hml : Z.cut us k = ml) (hmh : Bx.cellHi us k = mh) (hp : Pts w B A us) (hB : B ≤ w.heap.size) (h1 : 1 ≤ us.length) (h16 : us.length ≤ 16) (hk : k ≤ 64) :
    Calls Try.prog 27 #[.slice A us.length c, .int .i64 l] w fun e w' => ∃ A1 c1 A2 c2, e = .returned (boxV A1 ml.length c1 A2 mh.length c2) ∧ Pts w' w'.heap.size A1 ml ∧ Pts w' w'.heap.size A2 mh ∧ Below w.heap.size w w' := by
  subst hl
  exact r3cell_c A c k us ml mh B w hml hmh hp hB h1 h16 hk

set_option maxRecDepth 100000 in
theorem boxAround_big (A D : Option Addr) (n c q e : Nat) (x l : Int) (w : World) (hn : n ≤ maxLen) (hq : q ≤ maxLen) (hb : 40 < n ∨ 40 < q) :
    Calls Try.prog 5 #[.slice A n c, .slice D q e, .int .u64 x, .int .i64 l] w fun e w' => e = .returned (.bool true) ∧ Below w.heap.size w w' := by
  unfold maxLen at hn hq
  have hc : 40 < n ∨ (n ≤ 40 ∧ 40 < q) := by omega
  clear hb
  rcases hc with h | ⟨h, h'⟩
  · go_enter Try.func5, Try.ntmps5
    go_wp2_with fail
    refine (awake3_c _).mono ?_
    rintro e w1 ⟨rfl, hb1⟩
    go_wp2_with fail
    go_ret
    exact ⟨rfl, hb1⟩
  · go_enter Try.func5, Try.ntmps5
    go_wp2_with fail
    refine (awake3_c _).mono ?_
    rintro e w1 ⟨rfl, hb1⟩
    go_wp2_with fail
    go_ret
    exact ⟨rfl, hb1⟩

set_option maxRecDepth 100000 in
theorem boxAround_dim (A D : Option Addr) (n c q e : Nat) (x : Nat) (l : Int) (w : World) (hn : n ≤ 40) (hq : q ≤ 40) (hr : ¬ (1 ≤ n ∧ n ≤ 16)) :
    Calls Try.prog 5 #[.slice A n c, .slice D q e, .int .u64 (x : Int), .int .i64 l] w fun e w' => e = .returned (.bool true) ∧ Below w.heap.size w w' := by
  have Hr := Lib.hid hr
  have Hn : Hid (n ≤ maxLen) := Lib.hid (by unfold maxLen; omega)
  clear hr
  go_enter Try.func5, Try.ntmps5
  go_wp2_with fail
  refine (awake3_c _).mono ?_
  rintro e w1 ⟨rfl, hb1⟩
  go_wp2_with fail
  refine (baround_no A n c x w1 Hn.out Hr.out).mono ?_
  rintro e w2 ⟨rfl, hb2⟩
  go_wp2_with fail
  refine (bcell_dim A n c l _ Hn.out Hr.out).mono ?_
  rintro e w3 ⟨rfl, hb3⟩
  have x1 := ((boxAt_new w2 none 0 0 none 0 0).below hb3 (by simp)).below (below_alloc w3 (.cells #[.slice none 0 0, .slice none 0 0] 24)) (by have := hb3.size; rw [World.size_alloc] at this; omega)
  obtain ⟨k0, k1⟩ := x1
  have hbel : Below w.heap.size w (w3.alloc (.cells #[.slice none 0 0, .slice none 0 0] 24)) := by
    have h12 := Below.andThen hb1 hb2
    have h23 : Below w2.heap.size w2 w3 := Below.andThen (below_alloc _ _) hb3
    exact Below.andThen (Below.andThen h12 h23) (below_alloc _ _)
  go_wp2_with fail
  refine (bfar_no A D n c q _ _ Hn.out (fun h => Hr.out h.1)).mono ?_
  rintro e w4 ⟨rfl, rfl⟩
  go_wp2_with fail
  refine (rright_no A n c _ Hn.out Hr.out).mono ?_
  rintro e w4 ⟨rfl, rfl⟩
  go_wp2_with fail
  go_ret
  exact ⟨rfl, hbel⟩

/-- what Far tells of two slices, of as many coordinates or not -/
def FarIs (A D : Option Addr) (c e : Nat) (us vs : List Nat) (dd gc : Nat) (wx : World) : Prop :=
  Calls Try.prog 23 #[.slice A us.length c, .slice D vs.length e] wx fun e w' => e = .returned (.tuple #[.int .u64 (dd : Int), .int .i64 (gc : Int)]) ∧ wx = w'
theorem farIs_yes {A D : Option Addr} {c e : Nat} {us vs : List Nat} {w : World} (hp : Pts w w.heap.size A us) (hq : Pts w w.heap.size D vs) (h1 : 1 ≤ us.length) (h16 : us.length ≤ 16) (hl : us.length = vs.length) : ∀ wx, Below w.heap.size w wx → FarIs A D c e us vs (Bx.far us vs us.length) 0 wx :=
  fun wx hb => bfar_yes A D c e us vs w.heap.size wx _ rfl (hp.below' hb (Nat.le_refl _)) (hq.below' hb (Nat.le_refl _)) h1 h16 hl
theorem farIs_no {A D : Option Addr} {c e : Nat} {us vs : List Nat} {w : World} (h16 : us.length ≤ 16) (hl : us.length ≠ vs.length) : ∀ wx, Below w.heap.size w wx → FarIs A D c e us vs 0 2 wx :=
  fun wx _ => bfar_no A D _ c _ e wx (by unfold maxLen; omega) (fun h => hl h.2)

end Go.Proofs.Ytiifggchnpdonaa
