import Derived.Test.YtgplbbmenmbaaaaBase
import Derived.ShutString
import Derived.ChangeOld
import Derived.Test.YtgplbbmenmbaaaaRn1
import Derived.ChangeSame
import Derived.Test.YtgplbbmenmbaaaaRows
import Derived.Test.YtgplbbmenmbaaaaL6i
import Derived.WalkKit
import Derived.ProofKit
import Derived.OpenShut
import Derived.Below
/-
  HOW A POINT AMONG A LAW's ARGUMENTS IS OPENED, as the row's reading hands it over.
-/
namespace Go.Proofs.Ytgplbbmenmbaaaa
open Go.ChangeShapes Go.WideShapes Go.ChangeAt Go.RowKit

theorem cells_u64s : Try.prog.cellsOf 23 = 1 := by kernel_rfl
set_option maxRecDepth 100000 in
/-- the cells that read as a slice of uint64 -/
theorem open_u64s {H : Type} {enc : TypeId × Value → H} {W : World} {fuel : Nat} {cs : List Value} {x : DataW H × List MemPlace} (h : DataW.trod enc Try.prog W 0 (fun _ => true) true fuel 23 cs = some x) :
    ∃ (A : Option Addr) (c : Nat) (us : List Nat), cs = [.slice A us.length c] ∧ us.length ≤ maxLen ∧ Pts W W.heap.size A us := by
  rcases open_ints Try.underlying23 Try.underlying34 (by kernel_rfl) h with ⟨hcs, _⟩ | ⟨a, l, c, zs, hcs, _, hl, hm, hz, _, hcell, hwz⟩
  · obtain ⟨us, hus, hm, hp⟩ := pts_of_row (w := W) (a := none) (len := 0) (cap := 0) (zs := []) (.inl ⟨rfl, rfl, rfl, rfl⟩)
    exact ⟨none, 0, us, by rw [hcs, hus], by omega, hp⟩
  · obtain ⟨us, hus, hm', hp⟩ := pts_of_row (w := W) (a := some a) (len := l) (cap := c) (zs := zs) (.inr ⟨a, rfl, hl, hm, by simpa using hz, hcell, hwz⟩)
    exact ⟨some a, c, us, by rw [hcs, hus], by omega, hp⟩
set_option maxRecDepth 100000 in
/-- an argument of type []uint64 -/
theorem open_pts {H : Type} {enc : TypeId × Value → H} {W : World} {v : Value} {d : DataW H} {ps : List MemPlace} (hv : Value.okWide Try.prog W .any 0 23 v) (h : DataW.Trod enc Try.prog W 0 (fun _ => true) true 23 v d ps) :
    ∃ (A : Option Addr) (c : Nat) (us : List Nat), v = .slice A us.length c ∧ us.length ≤ maxLen ∧ Pts W W.heap.size A us := by
  obtain ⟨a, len, cap, rfl⟩ := okWide_slice Try.underlying23 hv
  obtain ⟨fuel, hf⟩ := h
  obtain ⟨A, c, us, hcs, hm, hp⟩ := open_u64s hf
  simp [Value.cells] at hcs
  obtain ⟨rfl, rfl, rfl⟩ := hcs
  exact ⟨_, _, us, rfl, hm, hp⟩
end Go.Proofs.Ytgplbbmenmbaaaa

/-
  HOW A LIST OF ENTRIES AMONG A LAW's ARGUMENTS IS OPENED.
-/
namespace Go.Proofs.Ytgplbbmenmbaaaa
open Go.ChangeShapes Go.WideShapes Go.ChangeAt Go.RowKit
open Tr (T S4 Ent)

theorem cells_entry : Try.prog.cellsOf 36 = 2 := by kernel_rfl
theorem cells_eu64 : Try.prog.cellsOf 34 = 1 := by kernel_rfl
set_option maxRecDepth 100000 in
/-- an argument of type []api.Entry -/
theorem open_entries {H : Type} {enc : TypeId × Value → H} {W : World} {v : Value} {d : DataW H} {ps : List MemPlace} (hv : Value.okWide Try.prog W .any 0 22 v) (h : DataW.Trod enc Try.prog W 0 (fun _ => true) true 22 v d ps) :
    ∃ (A : Option Addr) (c : Nat) (l : List Ent), v = .slice A l.length c ∧ l.length ≤ maxLen ∧ (Ents W W.heap.size A l ∧ l.length ≤ c) := by
  obtain ⟨a, len, cap, rfl⟩ := okWide_slice Try.underlying22 hv
  obtain ⟨fuel, hf⟩ := h
  obtain ⟨A, c, l, hcs, hm, hc, hl⟩ := open_list (α := Ent) (n := 2) (EntQ W W.heap.size) Try.underlying22 cells_entry (by decide) (fun fuel cs x f hlen ht hc => by
      obtain ⟨y0, y1, n, -, -, g0, g1⟩ := trod_struct2 Try.underlying36 ht
      match cs, hlen with
      | [v0, v1], _ =>
        simp [cells_u64s, cells_eu64] at g0 g1
        obtain ⟨A, c, us, e0, m0, p0⟩ := open_u64s g0
        obtain ⟨n1, e1, _, w1⟩ := DataW.trod_int Try.underlying34 g1
        simp at e0 e1
        subst e0 e1
        have b1 := bounds_u64 w1
        refine ⟨(us, n1.toNat), A, c, ?_, ?_, p0, m0, by simp only; omega⟩
        · rw [hc 0 (by decide)]; rfl
        · rw [hc 1 (by decide)]; simp only [List.getElem?_cons_succ, List.getElem?_cons_zero]; rw [Int.toNat_of_nonneg (by omega)]) hf
  simp [Value.cells] at hcs
  obtain ⟨rfl, rfl, rfl⟩ := hcs
  exact ⟨_, _, l, rfl, hm, hl, hc⟩
end Go.Proofs.Ytgplbbmenmbaaaa

/-
  THE LAW NodePair of the node (pantilelaw06): proved at commit a0c99744.
-/
namespace Go.Proofs.Ytgplbbmenmbaaaa.nodePair
open Go.ChangeShapes Go.WideShapes Go.ChangeAt Go.RowKit
open Go.ChangeMaps (open_string shut_string)
set_option linter.unusedVariables false

theorem own : ownKnob Try.prog.godebug = none := by kernel_rfl
theorem laidOut : laidOutB Try.prog = true := by kernel_rfl

set_option maxRecDepth 100000 in
theorem lifted (os : Os) (started : os.Started) (H : Type) (enc : TypeId × Value → H) :
    ReturnsInHanded {} Try.checked os 3 .any (Rows.nodePairSpec.pre6 enc Try.prog Try.f3 Rows.nodePairRow.domain false) (Rows.nodePairSpec.post enc Try.prog Try.f3 false true false false) := by
  refine returnsInHanded_of_change (C := Try.checked) own started (by kernel_rfl) Try.func3
    (ChangeSpec.witness6 (enc := enc) (C := Try.checked) false ⟨#[], #[.slice none 0 0, .slice none 0 0], []⟩ 8 (by kernel_rfl) (by kernel_rfl) (by kernel_rfl) (by kernel_rfl)) ?_
  intro W base args ds gs before hval0 hW hcnd _
  have hval : ∀ (j : Nat) t v, Try.f3.params[j]? = some t → args[j]? = some v → Value.okWide Try.prog W .any base t v := hval0
  have hW' := hW
  obtain ⟨p, q, hA0, hV, rfl, hfz, hnd⟩ := hW
  have hA : DataW.TrodAll enc Try.prog W 0 (fun _ => true) true Try.f3.params.toList args.toList ds p := hA0
  rw [Try.params3] at hA hval
  obtain ⟨v0, vs0, d0, ds0, p0, q0, hargs, rfl, rfl, h0, r0⟩ := trodAll_cons hA
  obtain ⟨v1, vs1, d1, ds1, p1, q1, rfl, rfl, rfl, h1, r1⟩ := trodAll_cons r0
  obtain ⟨rfl, rfl, rfl⟩ := trodAll_nil r1
  obtain rfl : args = #[v0, v1] := by cases args; simp_all
  obtain ⟨rfl, rfl⟩ := trodVars_none hV
  have k0 := h0
  have lt0 : ∀ x ∈ p0, x.block < W.heap.size := by obtain ⟨m, hm⟩ := k0; exact DataW.trod_lt m _ _ _ hm
  obtain ⟨A0, c0, l0, rfl, m0, pt0⟩ := open_entries (hval 0 22 v0 rfl rfl) h0
  have k1 := h1
  have lt1 : ∀ x ∈ p1, x.block < W.heap.size := by obtain ⟨m, hm⟩ := k1; exact DataW.trod_lt m _ _ _ hm
  obtain ⟨A1, c1, l1, rfl, m1, pt1⟩ := open_pts (hval 1 23 v1 rfl rfl) h1
  clear hA0 hval0
  refine (nodePair_c pt0 pt1 m0 m1).mono fun e W' ⟨he, bel⟩ => ?_
  subst he
  exact ⟨_, rfl, _, _, _, [], _, [], hW', trodAll_mk1 (shut_bool Try.underlying4 _), (trodAll_cons_mk (Below.trod laidOut (by kernel_rfl) (of_decide_eq_true (by kernel_rfl)) k0 bel lt0) (trodAll_cons_mk (Below.trod laidOut (by kernel_rfl) (of_decide_eq_true (by kernel_rfl)) k1 bel lt1) trodAll_mk0)), rfl, bel.frame _, fun h => by cases h⟩

theorem over : Rows.nodePairRow.holds Try.pinned (OpenSpec.ofChange Rows.nodePairSpec) :=
  OpenClaim.holds_of_wide 3 Try.f3 rfl rfl rfl rfl rfl rfl rfl ⟨rfl, rfl, rfl, rfl, rfl⟩ rfl rfl rfl rfl rfl (by kernel_rfl) Try.func3 (by kernel_rfl)
    (of_decide_eq_true (by kernel_rfl)) (by unfold Func.isWrapper; first | (rw [if_pos (by decide +kernel)]; kernel_rfl) | (rw [if_neg (by decide +kernel)]; exact ⟨rfl, rfl⟩))
    (fun os started H enc _ => lifted os started H enc)

theorem proved : Rows.NodePairSaid := over
#print axioms proved
end Go.Proofs.Ytgplbbmenmbaaaa.nodePair
