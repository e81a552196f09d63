import Derived.Test.YtpgkfccfabnjdaaM28
import Derived.Test.YtpgkfccfabnjdaaM12
import Derived.Test.YtpgkfccfabnjdaaM13
/-
  PLAIN MATHEMATICS of rank's Join: two nodes, all entries of the one ahead of all of the other one ('Bef'). What becomes of them ('Meets': the node of the kids of both, and the two kids that meet at one address of it).
-/
namespace Go.Proofs.Ytpgkfccfabnjdaa
open Tr (T S4 Ent)
namespace Tr
open Go.Proofs.Ytpgkfccfabnjdaa.Z

/-! ### a node that fits below another one -/
section
variable {k g l : Nat} {pre : List Nat} {ks : List (Nat × T)}
end
section
variable {k g l : Nat} {pre : List Nat} {ks : List (Nat × T)}
end
/-! ### the kids of two nodes of one level and prefix -/
section
variable {k g l : Nat} {pre : List Nat} {ks : List (Nat × T)}
end
theorem addr_le {k l : Nat} {pre : List Nat} {p q : List Nat} (hp : p.length = k) (hq : q.length = k) (op : Ok p) (oq : Ok q) (cp : cut p (l + 1) = pre) (cq : cut q (l + 1) = pre) (h : key p < key q) : addr p l ≤ addr q l := by
  have hl : p.length = q.length := by rw [hp, hq]
  refine Classical.byContradiction fun hn => ?_
  have h1 : Z.part p q < ((l + 1 : Nat) : Int) := (cut_eq_iff hl op oq (l + 1)).1 (cp.trans cq.symm)
  have h2 : ¬ Z.part p q < (l : Int) := fun c => by
    have h2 := (cut_eq_iff hl op oq l).2 c
    have c1 := cut_addr p l l
    have c2 := cut_addr q l l
    rw [if_pos (Nat.le_refl _)] at c1 c2
    rw [h2] at c1
    omega
  have h3 : Z.part p q = (l : Int) := by omega
  rw [key_lt hl op oq, cmp_at h3, if_neg (by omega)] at h
  omega
section
variable {k ga gb l g : Nat} {pre : List Nat} {ka kb ks : List (Nat × T)}
end
end Tr
end Go.Proofs.Ytpgkfccfabnjdaa
