/-
  THE CHAPTER's EXAMPLES of layer 2 hold: 'awake' of the statements returns true.
-/
import Derived.Test.YtkhfjcaobjompaaDoorNh
import Derived.Test.YtkhfjcaobjompaaDoorRf1
namespace Go.Proofs.YtkhfjcaobjompaaDoor
open Go.ChangeShapes Go.WideShapes Go.ChangeAt Go.RowKit

theorem pts_two (w : World) (u v : Nat) (hu : u < 18446744073709551616) (hv : v < 18446744073709551616) (e : TypeId) : Pts (w.alloc (.cells #[.int .u64 (u : Int), .int .u64 (v : Int)] e)) (w.heap.size + 1) (some ⟨w.heap.size, 0, none⟩) [u, v] := by
  refine ⟨fun x hx => by simp at hx; omega, fun _ => ⟨w.heap.size, 0, rfl, by omega, fun i x hi => ?_⟩⟩
  rw [Nat.zero_add, World.cell?_alloc_new]
  rcases i with _ | i
  · simp at hi; subst hi; rfl
  · rcases i with _ | i
    · simp at hi; subst hi; rfl
    · simp at hi
theorem box_text : T.boxText [1, 2] [3, 4] = [49, 44, 50, 46, 46, 51, 44, 52] := by
  have d1 : Lib.decDigits 1 = [49] := by rw [Lib.decDigits, dif_pos (by omega)]; rfl
  have d2 : Lib.decDigits 2 = [50] := by rw [Lib.decDigits, dif_pos (by omega)]; rfl
  have d3 : Lib.decDigits 3 = [51] := by rw [Lib.decDigits, dif_pos (by omega)]; rfl
  have d4 : Lib.decDigits 4 = [52] := by rw [Lib.decDigits, dif_pos (by omega)]; rfl
  unfold T.boxText T.ptText
  simp only [List.map_cons, List.map_nil, d1, d2, d3, d4]
  rfl
theorem point_text : T.rdPoint [49, 44, 44, 50] = ([], 8) := by decide +kernel

set_option maxRecDepth 100000 in
theorem awake2_c (w : World) (hw : Ready w) :
    Calls Tryd.prog 5 #[] w fun e w' => e = .returned (.bool true) ∧ Below w.heap.size w w' := by
  have hB0 : Below w.heap.size w ((w.alloc (.cells #[.int .u64 1, .int .u64 2] 23)).alloc (.cells #[.int .u64 3, .int .u64 4] 23)) := ((Below.refl _ w).alloc (Nat.le_refl _) _).alloc (by simp) _
  have hp : Pts ((w.alloc (.cells #[.int .u64 1, .int .u64 2] 23)).alloc (.cells #[.int .u64 3, .int .u64 4] 23)) ((w.alloc (.cells #[.int .u64 1, .int .u64 2] 23)).alloc (.cells #[.int .u64 3, .int .u64 4] 23)).heap.size (some ⟨w.heap.size, 0, none⟩) [1, 2] :=
    (pts_two w 1 2 (by omega) (by omega) 23).below ((Below.refl _ _).alloc (by simp) _) (by simp)
  have hq : Pts ((w.alloc (.cells #[.int .u64 1, .int .u64 2] 23)).alloc (.cells #[.int .u64 3, .int .u64 4] 23)) ((w.alloc (.cells #[.int .u64 1, .int .u64 2] 23)).alloc (.cells #[.int .u64 3, .int .u64 4] 23)).heap.size (some ⟨w.heap.size + 1, 0, none⟩) [3, 4] := by
    have := pts_two (w.alloc (.cells #[.int .u64 1, .int .u64 2] 23)) 3 4 (by omega) (by omega) 23
    simp only [World.size_alloc] at this ⊢
    exact this
  have hbox := box_yes (some ⟨w.heap.size, 0, none⟩) (some ⟨w.heap.size + 1, 0, none⟩) 2 2 [1, 2] [3, 4] _ (hw.on hB0) hp hq (by simp) (by simp) rfl
  rw [box_text, show ([1, 2] : List Nat).length = 2 from rfl, show ([3, 4] : List Nat).length = 2 from rfl] at hbox
  have Hbox := Lib.hid hbox
  have HB0 := Lib.hid hB0
  have hrp : ∀ w1, Ready w1 → Calls Tryd.prog 8 #[.string ⟨#[49, 44, 44, 50]⟩] w1 fun e w' => ∃ A c, e = .returned (.tuple #[.slice A 0 c, .int .i64 8]) ∧ Below w1.heap.size w1 w' := fun w1 h1 =>
    (readPoint_c ⟨#[49, 44, 44, 50]⟩ w1 (by decide) h1).mono fun e w' ⟨A, c, he, _, hb⟩ => by
      rw [show (⟨#[49, 44, 44, 50]⟩ : ByteArray).data.toList = [49, 44, 44, 50] from rfl, point_text] at he
      exact ⟨A, c, he, hb⟩
  have Hrp := Lib.hid hrp
  clear hbox hB0 hp hq hrp
  go_enter Tryd.func5, Tryd.ntmps5
  go_wp2_with (first
    | (go_at_call 16; (with_reducible refine Hbox.out.mono ?_); rintro e w1 ⟨rfl, hb1⟩)
    | (go_at_call 8; (with_reducible refine (Hrp.out _ ((hw.on HB0.out).on hb1)).mono ?_); rintro e w2 ⟨A2, c2, rfl, hb2⟩))
  go_ret
  exact ⟨rfl, Below.andThen (Below.andThen HB0.out hb1) hb2⟩
end Go.Proofs.YtkhfjcaobjompaaDoor
