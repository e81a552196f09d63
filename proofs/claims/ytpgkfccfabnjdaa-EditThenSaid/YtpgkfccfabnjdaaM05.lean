import Derived.Test.YtpgkfccfabnjdaaM02
import Derived.Test.YtpgkfccfabnjdaaM03
import Derived.Test.YtpgkfccfabnjdaaM04
import Derived.Lib.SliceRun
import Derived.Deep.RegionHeld3
import Derived.Deep.Cut
import Derived.BigQuiet
import Derived.Deep.RegionLaw
/-
  NODES IN MEMORY ('NdAt': what a node's block holds; 'Mem': a node with all below it), and CONTRACTS of package node, first part: slices.Clone, K, Level, Sums, together, sumsOf, having.
-/
namespace Go.Proofs.Ytpgkfccfabnjdaa
open Go.ChangeShapes Go.WideShapes Go.ChangeAt Go.RowKit
open Tr (T S4)

/-! ### slices.Clone of a point -/
set_option maxRecDepth 100000 in
theorem clone_pts (us : List Nat) (A : Option Addr) (c B : Nat) (w : World) (hB : B ≤ w.heap.size) (hA : Pts w B A us) (hne : us ≠ []) (hl : us.length ≤ 1000000) :
    Calls Try.prog 19 #[.slice A us.length c] w fun e w' => ∃ g d, e = .returned (.slice (some ⟨g, 0, none⟩) us.length d) ∧ Own w' w.heap.size (.slice (some ⟨g, 0, none⟩) us.length d) us ∧ Below w.heap.size w w' := by
  obtain ⟨b, off, hAA, hb, _⟩ := hA.2 hne
  have Hok := Lib.hid hA.1
  have hv : vals us ≠ [] := by intro h; apply hne; simpa [vals] using h
  subst hAA
  have Hh := Lib.hid (pts_rdV hA)
  have Hl := Lib.hid (And.intro hl hv)
  have Ho := Lib.hid (ownV_nil 40 w)
  have hq : ∀ (w : World) (a : Option Addr) (n c n' c' : Nat), (binOp .eql 41 (.slice a n c) (.slice none n' c')).run Try.prog w = .ok (.bool a.isNone) w := fun w a n c n' c' => Lib.run_eql_slice_nil w _ _ a n c n' c' Try.underlying41
  clear hA hl hne hv
  go_enter Try.func19, Try.ntmps19
  go_wp2_with (at_builtin; refine wpList_append_vals 41 40 (Value.int .u64 0) 8 Try.underlying41 info_u64 rfl (by omega) rfl (.tmp 5) (.tmp 6) rfl w.heap.size _ [] (vals us) rfl Ho.out B _ _ c (vals_length us) rfl (Hh.out.below (below_alloc _ _) hB (Nat.le_refl _)) (vals_one us) (by have := Hl.out.1; rw [vals_length]; simp; omega) (by simp) ?_; intro v2 w2 hown2 hgrow2 _)
  go_ret
  rw [List.nil_append] at hown2
  obtain ⟨g, d, hv⟩ := hown2.row Hl.out.2
  rw [vals_length] at hv
  subst hv
  refine ⟨g, d, rfl, ⟨Hok.out, ?_⟩, ((Below.refl w.heap.size w).alloc (Nat.le_refl _) _).grown hgrow2 (by simp) (fun q hq => (Ho.out.lt q hq).1)⟩
  have := hown2.2
  rw [vals_length] at this
  exact this

/-! ### nodes in memory -/
def TrB (w : World) (b : Nat) : Prop := ∃ c ty, w.heap[b]? = some (.cells c ty (0, 0))
theorem TrB.lt {w : World} {b : Nat} (h : TrB w b) : b < w.heap.size := by
  obtain ⟨c, ty, h⟩ := h
  exact (Array.getElem?_eq_some_iff.1 h).1
theorem TrB.below {w w' : World} {b C : Nat} (h : TrB w b) (hb : Below C w w') (hC : b < C) : TrB w' b := by
  obtain ⟨c, ty, h⟩ := h
  exact ⟨c, ty, (hb.block b hC).trans h⟩
theorem TrB.keep {w w' : World} {b : Nat} (h : TrB w b) (hb : w'.heap[b]? = w.heap[b]?) : TrB w' b := by
  obtain ⟨c, ty, h⟩ := h
  exact ⟨c, ty, hb.trans h⟩
theorem TrB.setCell {w : World} {b : Nat} (h : TrB w b) {g off : Nat} (v : Value) : TrB (w.setCell ⟨g, off, none⟩ v) b := by
  by_cases e : b = g
  · obtain ⟨c, ty, h⟩ := h
    subst e
    exact ⟨_, ty, heap_setCell_same w b off c ty v h⟩
  · exact h.keep (Below.heap_setCell w ⟨g, off, none⟩ v b e)
def kidL (ks : List (Nat × T)) : Sn.Al := ks.map fun x => (x.1, some ⟨x.2.blk, 0, none⟩)
def levI (t : T) : Int := (t.lv : Int) - 1
/-! ### K, Level, Sums -/
end Go.Proofs.Ytpgkfccfabnjdaa

/-
  CONTRACTS of package node, third part: Leaf, Kid, Prefix, Entry, Covers.
-/
namespace Go.Proofs.Ytpgkfccfabnjdaa
open Go.ChangeShapes Go.WideShapes Go.ChangeAt Go.RowKit
open Tr (T S4)

/-! ### Leaf -/
/-! ### Kid -/
/-! ### Prefix, Entry -/
theorem cells2 (w : World) (x y : Value) (t : TypeId) : (w.alloc (.cells #[x, y] t)).cell? ⟨w.heap.size, 0, none⟩ = some x ∧ (w.alloc (.cells #[x, y] t)).cell? ⟨w.heap.size, 1, none⟩ = some y ∧ (w.alloc (.cells #[x, y] t)).frozen? ⟨w.heap.size, 0, none⟩ = false ∧ (w.alloc (.cells #[x, y] t)).frozen? ⟨w.heap.size, 1, none⟩ = false :=
  ⟨by rw [World.cell?_alloc_new]; rfl, by rw [World.cell?_alloc_new]; rfl, frozen_of_row _ _ _ _ t (heap_at w _ _ rfl), frozen_of_row _ _ _ _ t (heap_at w _ _ rfl)⟩
/-! ### Covers -/
end Go.Proofs.Ytpgkfccfabnjdaa
