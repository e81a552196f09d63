import Derived.Test.YtpgdoicamgfibaaDoorM27
/-
  THE LAW TreeNil.
-/
namespace Go.Proofs.YtpgdoicamgfibaaDoor
open Go.ChangeShapes Go.WideShapes Go.ChangeAt Go.RowKit
open Tr (T S4 Ent Shp)

set_option maxRecDepth 100000 in
theorem tShapes_nil (w : World) (hT : ∀ w', Below w.heap.size w w' → Tz w') :
    Calls Tryd.prog 46 #[.pointer none] w fun e w' => ∃ D d, e = .returned (.slice D 0 d) ∧ Below w.heap.size w w' := by
  have hal := below_alloc w (.cells #[.slice none 0 0] 82)
  have hsz : (w.alloc (.cells #[.slice none 0 0] 82)).heap.size = w.heap.size + 1 := by simp
  have hI : ShInv w.heap.size w.heap.size 1 [] (w.alloc (.cells #[.slice none 0 0] 82)) (fun x => x = w.heap.size ∨ (Value.slice none 0 0).ownBlock = some x ∨ False) :=
    ⟨.slice none 0 0, _, fun _ => False, rfl, Nat.le_refl _, heap_at w _ _ rfl, ownL_none _ _ _, by simp [Value.ownBlock], fun b h => h.elim⟩
  have HD := through_c (o := none) (shapes_visit w.heap.size w.heap.size 1) hI (NodeO.none _ _ _) (by rw [hsz]; omega) (fun w' hb => hT w' (hal.trans hb)) (by simp [Tr.allO]) (Nat.le_refl _)
  simp only [rootP, Tr.allO] at HD
  have HD := Lib.hid HD
  have HX := Lib.hid (And.intro hal hsz)
  clear hI hal hsz hT
  go_enter Tryd.func46, Tryd.ntmps46
  go_wp2_with (first
    | (go_at_call 44; refine (tRoot_nil _).mono ?_; rintro e w' ⟨rfl, rfl⟩)
    | (go_at_call 80; refine HD.out.mono ?_; rintro e w2 ⟨rfl, F2, hi2, hF2, hfo2⟩; obtain ⟨v, t, D0, hF2e, hBg, hg2, ho2, hne2, hD2⟩ := hi2; have q0 : w2.cell? ⟨w.heap.size, 0, none⟩ = some v := (by rw [cell_of_row w2 w.heap.size _ _ t (0, 0) hg2]; rfl); have q1 : w2.frozen? ⟨w.heap.size, 0, none⟩ = false := frozen_of_row w2 w.heap.size _ _ t hg2; obtain ⟨D, d, hv, hcap⟩ := OwnL.slice ho2; subst hv))
  refine bodyPost_ret (v := .slice D 0 d) (by simp [results, Tryd.results46, go_sem]) rfl ?_
  have hb2 : Below w.heap.size w w2 := HX.out.1.trans (hfo2.below (B := w.heap.size) (by rw [HX.out.2]; omega) (fun q hq => by rcases hq with rfl | hq | hq; exact Nat.le_refl _; simp [Value.ownBlock] at hq; exact hq.elim))
  exact ⟨D, d, rfl, hb2⟩
set_option maxRecDepth 100000 in
theorem treeNil_big {w : World} (hT : Tz w) (A : Option Addr) (n c : Nat) (v : Int) (hn : 40 < n) (hm : n ≤ maxLen) :
    Calls Tryd.prog 7 #[.slice A n c, .int .u64 v] w fun e w' => e = .returned (.bool true) ∧ Below w.heap.size w w' := by
  have HT := Lib.hid hT
  have hn2 : n ≤ 9223372036854775807 := by unfold maxLen at hm; omega
  have d1 : decide ((40 : Int) < (n : Int)) = true := decide_eq_true (by omega)
  have d1' : decide (40 < n) = true := decide_eq_true hn
  clear hT hm
  go_enter Tryd.func7, Tryd.ntmps7
  go_wp2_with fail
  refine (awake7_c w HT.out).mono ?_
  rintro e w0 ⟨rfl, hb0⟩
  have HB0 := Lib.hid hb0
  clear hb0
  go_wp2_with fail
  go_ret
  exact ⟨rfl, HB0.out⟩
set_option maxRecDepth 100000 in
set_option maxHeartbeats 1000000 in
theorem treeNil_go {w : World} (hT : Tz w) (A : Option Addr) (n c : Nat) (v : Nat) (hn : n ≤ 40) :
    Calls Tryd.prog 7 #[.slice A n c, .int .u64 (v : Int)] w fun e w' => e = .returned (.bool true) ∧ Below w.heap.size w w' := by
  have HT := Lib.hid hT
  have d1 : decide ((40 : Int) < (n : Int)) = false := decide_eq_false (by omega)
  have d1' : decide (40 < n) = false := decide_eq_false (by omega)
  clear hT
  go_enter Tryd.func7, Tryd.ntmps7
  go_wp2_with fail
  refine (awake7_c w HT.out).mono ?_
  rintro e w0 ⟨rfl, hb0⟩
  have HB0 := Lib.hid hb0
  have HT0 := Lib.hid (HT.out.on hb0)
  clear hb0
  go_wp2_with (first
    | (go_at_call 40; refine (tGet_nil A n c _).mono ?_; rintro e w' ⟨rfl, rfl⟩)
    | (go_at_call 41; refine (tPut_nil A n c v _).mono ?_; rintro e w' ⟨rfl, rfl⟩)
    | (go_at_call 42; refine (tDel_nil A n c _).mono ?_; rintro e w' ⟨rfl, rfl⟩)
    | (go_at_call 37; refine (tPath_nil A n c _).mono ?_; rintro e w' ⟨rfl, rfl⟩)
    | (go_at_call 43; refine (tK_nil _).mono ?_; rintro e w' ⟨rfl, rfl⟩)
    | (go_at_call 44; refine (tRoot_nil _).mono ?_; rintro e w' ⟨rfl, rfl⟩))
  refine (tLen_nil _).mono ?_
  rintro e w2 ⟨rfl, hb2⟩
  have HB2 := Lib.hid (Below.andThen HB0.out hb2)
  have HT2 := Lib.hid (HT0.out.on hb2)
  clear hb2
  go_wp2_with fail
  refine (tShapes_nil _ (fun w' hb => HT2.out.on hb)).mono ?_
  rintro e w3 ⟨D, d, rfl, hb3⟩
  have HB3 := Lib.hid (Below.andThen HB2.out hb3)
  clear hb3
  go_wp2_with fail
  go_ret
  exact ⟨rfl, HB3.out⟩
/-- The law, at arguments laid open. -/
theorem treeNil_c {w : World} (hT : Tz w) (A : Option Addr) (n c : Nat) (v : Int) (hm : n ≤ maxLen) (hv : (Lit.int .u64 v).wf = true) :
    Calls Tryd.prog 7 #[.slice A n c, .int .u64 v] w fun e w' => e = .returned (.bool true) ∧ Below w.heap.size w w' := by
  by_cases h : 40 < n
  · exact treeNil_big hT A n c v h hm
  · have b := bounds_u64 hv
    obtain ⟨u, rfl⟩ : ∃ u : Nat, v = (u : Int) := ⟨v.toNat, by omega⟩
    exact treeNil_go hT A n c u (by omega)
end Go.Proofs.YtpgdoicamgfibaaDoor
