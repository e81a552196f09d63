import Derived.Test.YtmdohckoegpgkaaGreatDoorM68
import Derived.Test.YtmdohckoegpgkaaGreatDoorM35
import Derived.Test.YtmdohckoegpgkaaGreatDoorM37
/-
  THE LAW RankRows. Laid by wip/gen42.py.
-/
namespace Go.Proofs.YtmdohckoegpgkaaGreatDoor
open Go.ChangeShapes Go.WideShapes Go.ChangeAt Go.RowKit
open Tr (T S4 Ent)

theorem NewR.below {base : Nat} {w w' : World} {A : Option Addr} {c : Nat} {L : List Ent} (h : NewR base w A c L) (hb : Below w.heap.size w w') : NewR base w' A c L :=
  (OwnL.below h hb (Nat.le_refl _)).imp (EntG.step hb.size fun b hlt hG => ⟨hb.block b hlt, hG⟩)
theorem NewR.app {base m d c : Nat} {w w' : World} {A D : Option Addr} {L M : List Ent} (h : NewR base w A c L) (hm : (L ++ M).length = m)
    (hown : OwnL 47 2 (EntG w fun b => base ≤ b ∧ A.map (·.block) ≠ some b) w' base (.slice D m d) (L ++ M)) (hgr : w.grownBy w' (Value.slice A L.length c).ownBlock) (hat : (Value.slice D m d).ownBlock = (Value.slice A L.length c).ownBlock ∨ (Value.slice D m d).ownBlock = some w.heap.size) (hbase : base ≤ w.heap.size) :
    NewR base w' D d (L ++ M) ∧ Below base w w' := by
  subst hm
  have hlt := OwnL.lt h
  rw [own_block, own_block] at hat
  rw [own_block] at hgr hlt
  have hk : ∀ b, b < w.heap.size → A.map (·.block) ≠ some b → w'.heap[b]? = w.heap[b]? := fun b hb hn => hgr.block b hb (fun e => hn e.symm)
  refine ⟨hown.imp (EntG.step hgr.size fun b hb hG => ⟨hk b hb hG.2, hG.1, ?_⟩), hgr.os, hgr.tape, hgr.output, hgr.size, fun b hb => hk b (by omega) (fun e => by have := (hlt b e).1; omega)⟩
  rcases hat with e | e
  · rw [e]; exact hG.2
  · rw [e]; intro e'; simp only [Option.some.injEq] at e'; omega
end Go.Proofs.YtmdohckoegpgkaaGreatDoor
