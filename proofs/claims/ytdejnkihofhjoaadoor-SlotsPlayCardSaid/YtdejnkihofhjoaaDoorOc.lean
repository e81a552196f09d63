/-
  HOW THE ACTS OF THE LAW SlotsPlay ARE OPENED, as the row's reading hands them over.
-/
import Derived.Test.YtdejnkihofhjoaaDoorL5b
import Derived.Test.YtdejnkihofhjoaaDoorOl
import Derived.Deep.Strs
namespace Go.Proofs.YtdejnkihofhjoaaDoor
open Go.ChangeShapes Go.WideShapes Go.ChangeAt Go.RowKit

theorem cells_act : Tryd.prog.cellsOf 36 = 3 := by kernel_rfl
theorem cells_b1 : Tryd.prog.cellsOf 4 = 1 := by kernel_rfl
theorem cells_i1 : Tryd.prog.cellsOf 3 = 1 := by kernel_rfl
theorem cells_u1 : Tryd.prog.cellsOf 28 = 1 := by kernel_rfl
/-- an argument of type []Act -/
theorem open_acts {H : Type} {enc : TypeId × Value → H} {W : World} {v : Value} {d : DataW H} {ps : List MemPlace} (hv : Value.okWide Tryd.prog W .any 0 22 v) (h : DataW.Trod enc Tryd.prog W 0 (fun _ => true) true 22 v d ps) :
    ∃ (A : Option Addr) (c : Nat) (l : List (Bool × Int × Nat)), v = .slice A l.length c ∧ l.length ≤ maxLen ∧ Acts W W.heap.size A l := by
  obtain ⟨a, len, cap, rfl⟩ := okWide_slice Tryd.underlying22 hv
  obtain ⟨fuel, hf⟩ := h
  obtain ⟨A, c, l, hcs, hm, _, hl⟩ := open_list (α := Bool × Int × Nat) (n := 3)
    (fun f t => (f 0 = some (.bool t.1) ∧ f 1 = some (.int .i64 t.2.1) ∧ f 2 = some (.int .u64 (t.2.2 : Int))) ∧ -9223372036854775808 ≤ t.2.1 ∧ t.2.1 ≤ 9223372036854775807)
    Tryd.underlying22 cells_act (by decide) (fun fuel cs x f hlen ht hc => by
      obtain ⟨y0, y1, y2, n, -, -, g0, g1, g2⟩ := Go.Deep.trod_struct3 Tryd.underlying36 ht
      match cs, hlen with
      | [v0, v1, v2], _ =>
        simp [cells_b1, cells_i1, cells_u1] at g0 g1 g2
        obtain ⟨b, e0, _⟩ := DataW.trod_bool Tryd.underlying4 g0
        obtain ⟨n1, e1, _, w1⟩ := DataW.trod_int Tryd.underlying3 g1
        obtain ⟨n2, e2, _, w2⟩ := DataW.trod_int Tryd.underlying28 g2
        simp at e0 e1 e2
        subst e0 e1 e2
        have b1 := bounds_i64 w1
        have b2 := bounds_u64 w2
        refine ⟨(b, n1, n2.toNat), ⟨?_, ?_, ?_⟩, by simp only; omega, by simp only; omega⟩
        · rw [hc 0 (by decide)]; rfl
        · rw [hc 1 (by decide)]; rfl
        · rw [hc 2 (by decide)]; simp only [List.getElem?_cons_succ, List.getElem?_cons_zero]; rw [Int.toNat_of_nonneg (by omega)]) hf
  simp [Value.cells] at hcs
  obtain ⟨rfl, rfl, rfl⟩ := hcs
  refine ⟨_, _, l, rfl, hm, ?_⟩
  intro hn
  obtain ⟨b, off, hA, hb, hq⟩ := hl hn
  exact ⟨b, off, hA, hb, fun i t ht => hq i t ht⟩
/-- THE LAW SlotsPlay AT ANY ARGUMENTS -/
theorem slotsPlay_c (k a : Int) (A : Option Addr) (l : List (Bool × Int × Nat)) (c : Nat) (w : World) (hl : Acts w w.heap.size A l) (hm : l.length ≤ maxLen) (hT : Tz w) (ha : (Lit.int .i64 a).wf = true) :
    Calls Tryd.prog 3 #[.int .i64 k, .slice A l.length c, .int .i64 a] w fun e w' => e = .returned (.bool true) ∧ Below w.heap.size w w' := by
  have hb := bounds_i64 ha
  by_cases h : 100 < l.length
  · exact slotsPlay_big k a A l.length c w h hm
  · by_cases hk : k < 1 ∨ 16 < k
    · exact slotsPlay_arg k a A l.length c w (by omega) hk
    · obtain ⟨m, rfl⟩ : ∃ m : Nat, k = (m : Int) := ⟨k.toNat, by omega⟩
      exact slotsPlay_go m a A l c w hl (by omega) (by omega) (by omega) hT (by omega) (by omega)
end Go.Proofs.YtdejnkihofhjoaaDoor
