import Derived.Test.YtmdohckoegpgkaaGreatDoorM29
import Derived.Test.YtmdohckoegpgkaaGreatDoorM23
/-
  CONTRACTS of package walk: Back. Laid by wip/gen20.py.
-/
namespace Go.Proofs.YtmdohckoegpgkaaGreatDoor
open Go.ChangeShapes Go.WideShapes Go.ChangeAt Go.RowKit
open Tr (T S4 Ent)

/-- the kid at the greatest address up to a -/
def upK (ks : List (Nat × T)) (a : Int) : Option (Nat × T) := if Sl.idx ks (a + 1) = 0 then none else ks[Sl.idx ks (a + 1) - 1]?
theorem upK_kid (ks : List (Nat × T)) (a : Int) : (Sn.upE (kidL ks) a).getD (0, none) = kidP (upK ks a) := by
  unfold Sn.upE upK
  rw [idx_kidL]
  split
  · rfl
  · rw [kidL, List.getElem?_map]
    cases ks[Sl.idx ks (a + 1) - 1]? <;> rfl
theorem nUpTo_k {w : World} {B k : Nat} {t : T} (h : Mem w B k t) (a : Int) (p : Nat × Option Addr) (hp : kidP (upK t.ks a) = p) :
    Calls Tryz.prog 109 #[.pointer (some ⟨t.blk, 0, none⟩), .int .i64 a] w fun e w' => e = .returned (atKid p.1 p.2) ∧ ∃ n, w' = w.drewN n := by
  subst hp
  cases h with
  | ent g q v hn => exact (nUpTo_ent hn a).mono fun e w' h => ⟨h.1, 0, h.2.symm⟩
  | br g l pre ks b hn ha hk => exact nUpTo_br hn ha a _ (upK_kid ks a)
end Go.Proofs.YtmdohckoegpgkaaGreatDoor
