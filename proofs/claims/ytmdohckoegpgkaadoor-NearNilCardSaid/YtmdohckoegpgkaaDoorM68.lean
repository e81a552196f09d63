import Derived.Test.YtmdohckoegpgkaaDoorM67
import Derived.Test.YtmdohckoegpgkaaDoorM32
/-
  CONTRACTS of package rank, ninth part: Range. Laid by wip/gen41.py.
-/
namespace Go.Proofs.YtmdohckoegpgkaaDoor
open Go.ChangeShapes Go.WideShapes Go.ChangeAt Go.RowKit
open Tr (T S4 Ent)

/-- a list of entries and its points, in new blocks -/
def NewR (base : Nat) (w : World) (A : Option Addr) (c : Nat) (L : List Ent) : Prop :=
  OwnL 38 2 (EntG w (fun b => base ≤ b ∧ A.map (·.block) ≠ some b)) w base (.slice A L.length c) L
theorem NewR.mono {base base' : Nat} {w : World} {A : Option Addr} {c : Nat} {L : List Ent} (h : NewR base w A c L) (hb : base' ≤ base) : NewR base' w A c L :=
  (OwnL.mono h hb).imp (EntG.step (Nat.le_refl _) fun _ _ hG => ⟨rfl, Nat.le_trans hb hG.1, hG.2⟩)
theorem NewR.ents {base : Nat} {w : World} {A : Option Addr} {c : Nat} {L : List Ent} (h : NewR base w A c L) : Ents w w.heap.size A L := by
  obtain ⟨A', c', hv, -, hl⟩ := OwnL.rd (entG_ok _ _) h
  simp only [Value.slice.injEq] at hv
  obtain ⟨rfl, -, -⟩ := hv
  intro hn
  obtain ⟨b, off, h1, h2, h3⟩ := hl hn
  refine ⟨b, off, h1, h2, fun i a ha => ?_⟩
  obtain ⟨A', c'', h4, h5, h6, h7⟩ := h3 i a ha
  exact ⟨A', c'', h4, h5, h6.pts, h7⟩
end Go.Proofs.YtmdohckoegpgkaaDoor
