import Derived.Test.YtpgkfccfabnjdaaM71
import Derived.Test.YtpgkfccfabnjdaaM22
/-
  PLAIN MATHEMATICS of layer 12: the changes from one list of entries to another one, point by point ('chL'); kids of two nodes side by side ('mrg').
-/
namespace Go.Proofs.Ytpgkfccfabnjdaa
open Tr (T S4 Ent)
namespace Tr
open Go.Proofs.Ytpgkfccfabnjdaa.Z

/-! ### changes -/
abbrev Chg := List Nat × Option Nat × Option Nat
def CS (L : List Chg) : Prop := L.Pairwise fun a b => key a.1 < key b.1
theorem CS.ext : ∀ {L M : List Chg}, CS L → CS M → (∀ e, e ∈ L ↔ e ∈ M) → L = M
  | [], [], _, _, _ => rfl
  | [], b :: M, _, _, h => by have := (h b).2 List.mem_cons_self; cases this
  | a :: L, [], _, _, h => by have := (h a).1 List.mem_cons_self; cases this
  | a :: L, b :: M, hL, hM, h => by
    obtain ⟨l1, l2⟩ := List.pairwise_cons.1 hL
    obtain ⟨m1, m2⟩ := List.pairwise_cons.1 hM
    have hab : a = b := by
      rcases List.mem_cons.1 ((h a).1 List.mem_cons_self) with e | e
      · exact e
      · rcases List.mem_cons.1 ((h b).2 List.mem_cons_self) with f | f
        · exact f.symm
        · have := l1 b f; have := m1 a e; omega
    subst hab
    congr 1
    refine CS.ext l2 m2 fun e => ⟨fun he => ?_, fun he => ?_⟩
    · rcases List.mem_cons.1 ((h e).1 (List.mem_cons_of_mem _ he)) with f | f
      · rw [f] at he; have := l1 a he; omega
      · exact f
    · rcases List.mem_cons.1 ((h e).2 (List.mem_cons_of_mem _ he)) with f | f
      · rw [f] at he; have := m1 a he; omega
      · exact f
section
variable {k : Nat} {L M : List Ent}
end
/-! ### two rows of kids side by side -/
end Tr
end Go.Proofs.Ytpgkfccfabnjdaa

/-
  PLAIN MATHEMATICS of layer 12, second part: pairs of nodes at a level ('Fr'), what is left of them, how much there is to be done.
-/
namespace Go.Proofs.Ytpgkfccfabnjdaa
open Tr (T S4 Ent)
namespace Tr
open Go.Proofs.Ytpgkfccfabnjdaa.Z

/-! ### from an address on -/
/-! ### sides, frames -/
structure Sd where
  t : T
  kd : Bool
  a : Nat
def Sd.L (s : Sd) : List (Nat × T) := match s.kd with
  | true => s.t.ks
  | false => [(s.a, s.t)]
structure Fr where
  x : Sd
  y : Sd
  n : Nat
/-! ### how much there is to be done -/
/-! ### a pair's frame -/
/-! ### the stack -/
abbrev Fl := Nat × Fr
end Tr
end Go.Proofs.Ytpgkfccfabnjdaa
