import Derived.Test.YtccefboifhfkdaaDoorM16
import Derived.Test.YtccefboifhfkdaaDoorM17
import Derived.ChangeSame
/-
  HOW A LIST OF ENTRIES AMONG A LAW's ARGUMENTS IS OPENED.
-/
namespace Go.Proofs.YtccefboifhfkdaaDoor
open Go.ChangeShapes Go.WideShapes Go.ChangeAt Go.RowKit
open Tr (T S4 Ent)

theorem cells_entry : Tryd.prog.cellsOf 31 = 2 := by kernel_rfl
theorem cells_eu64 : Tryd.prog.cellsOf 29 = 1 := by kernel_rfl
set_option maxRecDepth 100000 in
/-- an argument of type []api.Entry -/
theorem open_entries {H : Type} {enc : TypeId × Value → H} {W : World} {v : Value} {d : DataW H} {ps : List MemPlace} (hv : Value.okWide Tryd.prog W .any 0 22 v) (h : DataW.Trod enc Tryd.prog W 0 (fun _ => true) true 22 v d ps) :
    ∃ (A : Option Addr) (c : Nat) (l : List Ent), v = .slice A l.length c ∧ l.length ≤ maxLen ∧ (Ents W W.heap.size A l ∧ l.length ≤ c) := by
  obtain ⟨a, len, cap, rfl⟩ := okWide_slice Tryd.underlying22 hv
  obtain ⟨fuel, hf⟩ := h
  obtain ⟨A, c, l, hcs, hm, hc, hl⟩ := open_list (α := Ent) (n := 2) (EntQ W W.heap.size) Tryd.underlying22 cells_entry (by decide) (fun fuel cs x f hlen ht hc => by
      obtain ⟨y0, y1, n, -, -, g0, g1⟩ := trod_struct2 Tryd.underlying31 ht
      match cs, hlen with
      | [v0, v1], _ =>
        simp [cells_u64s, cells_eu64] at g0 g1
        obtain ⟨A, c, us, e0, m0, p0⟩ := open_u64s g0
        obtain ⟨n1, e1, _, w1⟩ := DataW.trod_int Tryd.underlying29 g1
        simp at e0 e1
        subst e0 e1
        have b1 := bounds_u64 w1
        refine ⟨(us, n1.toNat), A, c, ?_, ?_, p0, m0, by simp only; omega⟩
        · rw [hc 0 (by decide)]; rfl
        · rw [hc 1 (by decide)]; simp only [List.getElem?_cons_succ, List.getElem?_cons_zero]; rw [Int.toNat_of_nonneg (by omega)]) hf
  simp [Value.cells] at hcs
  obtain ⟨rfl, rfl, rfl⟩ := hcs
  exact ⟨_, _, l, rfl, hm, hl, hc⟩
end Go.Proofs.YtccefboifhfkdaaDoor
