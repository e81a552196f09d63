import Derived.Test.YtpgdoicamgfibaaDoorM17
/-
  HOW AN ACT AMONG A LAW's ARGUMENTS IS OPENED.
-/
namespace Go.Proofs.YtpgdoicamgfibaaDoor
open Go.ChangeShapes Go.WideShapes Go.ChangeAt Go.RowKit

set_option maxRecDepth 100000 in
theorem open_act {H : Type} {enc : TypeId × Value → H} {W : World} {v : Value} {d : DataW H} {ps : List MemPlace} (hv : Value.okWide Tryd.prog W .any 0 65 v) (h : DataW.Trod enc Tryd.prog W 0 (fun _ => true) true 65 v d ps) :
    ∃ (del : Bool) (A : Option Addr) (c : Nat) (us : List Nat) (x : Nat), v = actV del A us.length c x ∧ us.length ≤ maxLen ∧ Pts W W.heap.size A us ∧ x < 18446744073709551616 := by
  obtain ⟨cs, rfl, hs⟩ := okWide_struct Tryd.underlying65 hv
  rw [cells_actT] at hs
  obtain ⟨l⟩ := cs
  match l, hs with
  | [v0, v1, v2], _ =>
    obtain ⟨fuel, hf⟩ := h
    obtain ⟨xs, n, _, _, _, hxl, hfs⟩ := DataW.trod_struct Tryd.underlying65 hf
    match xs, hxl with
    | [y0, y1, y2], _ =>
      have g0 := hfs 0 _ rfl
      have g1 := hfs 1 _ rfl
      have g2 := hfs 2 _ rfl
      simp [Value.cells, cells_tb1, cells_tp1, cells_tu1] at g0 g1 g2
      obtain ⟨b, e0, _⟩ := DataW.trod_bool Tryd.underlying4 g0
      obtain ⟨A, c, us, e1, m1, p1⟩ := open_u64s g1
      obtain ⟨n2, e2, _, w2⟩ := DataW.trod_int Tryd.underlying23 g2
      simp at e0 e1 e2
      subst e0 e1 e2
      have b2 := bounds_u64 w2
      refine ⟨b, A, c, us, n2.toNat, ?_, m1, p1, by omega⟩
      show Value.agg #[.bool b, .slice A us.length c, .int .u64 n2] = Value.agg #[.bool b, .slice A us.length c, .int .u64 ((n2.toNat : Nat) : Int)]
      rw [Int.toNat_of_nonneg (by omega)]
end Go.Proofs.YtpgdoicamgfibaaDoor
