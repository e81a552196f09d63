/-
  TREES IN MEMORY ('TreeAt'), and CONTRACTS of package tree, first part: K, Root, Len, New, Of, refusal.
-/
import Derived.Test.YtgplbbmenmbaaaaTn3
import Derived.Test.YtgplbbmenmbaaaaUp
import Derived.BigQuiet
namespace Go.Proofs.Ytgplbbmenmbaaaa
open Go.ChangeShapes Go.WideShapes Go.ChangeAt Go.RowKit
open Tr (T S4 Ent)

/-- where a node is that may be there -/
def rootP : Option T → Option Addr
  | none => none
  | some t => some ⟨t.blk, 0, none⟩
theorem rootP_kid {ks : List (Nat × T)} (a : Int) : (Sl.get (kidL ks) a).getD none = rootP (Sl.get ks a) := by
  rw [kidL_get]
  cases Sl.get ks a <;> rfl
def NodeO (w : World) (B k : Nat) (o : Option T) : Prop := ∀ t, o = some t → Node w B k t
theorem NodeO.below {w w' : World} {B B' C k : Nat} {o : Option T} (h : NodeO w B k o) (hb : Below C w w') (hC : B ≤ C) (hB : B ≤ B') : NodeO w' B' k o := fun t e => (h t e).below hb hC hB
theorem NodeO.none (w : World) (B k : Nat) : NodeO w B k none := fun t e => by cases e
theorem NodeO.some {w : World} {B k : Nat} {t : T} (h : Node w B k t) : NodeO w B k (some t) := fun s e => by cases e; exact h
/-- WHAT A TREE'S BLOCK HOLDS: how many coordinates, where its root is. -/
def TreC (w : World) (b k : Nat) (r : Option Addr) : Prop := w.cell? ⟨b, 0, none⟩ = some (.int .i64 (k : Int)) ∧ w.cell? ⟨b, 1, none⟩ = some (.pointer r)
/-- A TREE IN MEMORY, in block b: its root o. -/
def TreeAt (w : World) (B b k : Nat) (o : Option T) : Prop := b < B ∧ 1 ≤ k ∧ k ≤ 16 ∧ TreC w b k (rootP o) ∧ NodeO w B k o
theorem TreC.below {w w' : World} {b k C : Nat} {r : Option Addr} (h : TreC w b k r) (hb : Below C w w') (hC : b < C) : TreC w' b k r :=
  ⟨(hb.cell (p := ⟨b, 0, none⟩) hC).trans h.1, (hb.cell (p := ⟨b, 1, none⟩) hC).trans h.2⟩
theorem TreeAt.below {w w' : World} {B B' C b k : Nat} {o : Option T} (h : TreeAt w B b k o) (hb : Below C w w') (hC : B ≤ C) (hB : B ≤ B') : TreeAt w' B' b k o :=
  ⟨Nat.lt_of_lt_of_le h.1 hB, h.2.1, h.2.2.1, h.2.2.2.1.below hb (Nat.lt_of_lt_of_le h.1 hC), h.2.2.2.2.below hb hC hB⟩
theorem treC_at {w : World} {b k : Nat} {r : Option Addr} {t : TypeId} (h : w.heap[b]? = some (.cells #[.int .i64 (k : Int), .pointer r] t (0, 0))) : TreC w b k r :=
  ⟨by rw [cell_of_row w b _ _ t (0, 0) h]; rfl, by rw [cell_of_row w b _ _ t (0, 0) h]; rfl⟩

/-- the first of a node's sums -/
theorem sums_count (w : World) (a b c d : Value) : (Instr.field 56 (.agg #[a, b, c, d]) 0).run Try.prog w = .ok a w := by kernel_rfl
theorem nSums_o {w : World} {B k : Nat} {o : Option T} (h : NodeO w B k o) (hB : B ≤ w.heap.size) :
    Calls Try.prog 30 #[.pointer (rootP o)] w fun e w' => e = .returned (sumsV (Tr.sums (Tr.entsO o))) ∧ Below w.heap.size w w' := by
  cases o with
  | none => exact nSums_nil w
  | some t =>
    obtain ⟨kp, hnd⟩ := (h t rfl).2.nd
    exact nSums_c hnd hB
/-! ### New, Of -/
/-! ### refusal -/
end Go.Proofs.Ytgplbbmenmbaaaa
