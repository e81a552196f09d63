import Derived.Test.YtpgkfccfabnjdaaGreatDoorM28
import Derived.Test.YtpgkfccfabnjdaaGreatDoorM12
import Derived.Test.YtpgkfccfabnjdaaGreatDoorM13
/-
  PLAIN MATHEMATICS of rank's Join: two nodes, all entries of the one ahead of all of the other one ('Bef'). What becomes of them ('Meets': the node of the kids of both, and the two kids that meet at one address of it).
-/
namespace Go.Proofs.YtpgkfccfabnjdaaGreatDoor
open Tr (T S4 Ent)
namespace Tr
open Go.Proofs.YtpgkfccfabnjdaaGreatDoor.Z

def Bef (L M : List Ent) : Prop := ∀ e ∈ L, ∀ f ∈ M, key e.1 < key f.1
theorem Bef.zs {L M : List Ent} (h : Bef L M) (hL : ZS L) (hM : ZS M) : ZS (L ++ M) := List.pairwise_append.2 ⟨hL, hM, h⟩
theorem cut_down {u v : List Nat} (hl : u.length = v.length) (hu : Ok u) (hv : Ok v) {l : Nat} (hc : cut u (l + 1) = cut v (l + 1)) (ha : addr u l = addr v l) : cut u l = cut v l := by
  refine points_eq (by simp [cut_length, hl]) (cut_ok hu l) (cut_ok hv l) fun m hm => ?_
  rw [cut_addr, cut_addr]
  split
  · rcases Nat.lt_or_ge l m with h | h
    · have c1 := cut_addr u (l + 1) m
      have c2 := cut_addr v (l + 1) m
      rw [if_pos (by omega)] at c1 c2
      rw [← c1, ← c2, hc]
    · have : m = l := by omega
      rw [this]
      exact ha
  · rfl
/-! ### a node that fits below another one -/
section
variable {k g l : Nat} {pre : List Nat} {ks : List (Nat × T)}
end
section
variable {k g l : Nat} {pre : List Nat} {ks : List (Nat × T)}
end
/-! ### the kids of two nodes of one level and prefix -/
section
variable {k g l : Nat} {pre : List Nat} {ks : List (Nat × T)}
end
theorem addr_le {k l : Nat} {pre : List Nat} {p q : List Nat} (hp : p.length = k) (hq : q.length = k) (op : Ok p) (oq : Ok q) (cp : cut p (l + 1) = pre) (cq : cut q (l + 1) = pre) (h : key p < key q) : addr p l ≤ addr q l := by
  have hl : p.length = q.length := by rw [hp, hq]
  refine Classical.byContradiction fun hn => ?_
  have h1 : Z.part p q < ((l + 1 : Nat) : Int) := (cut_eq_iff hl op oq (l + 1)).1 (cp.trans cq.symm)
  have h2 : ¬ Z.part p q < (l : Int) := fun c => by
    have h2 := (cut_eq_iff hl op oq l).2 c
    have c1 := cut_addr p l l
    have c2 := cut_addr q l l
    rw [if_pos (Nat.le_refl _)] at c1 c2
    rw [h2] at c1
    omega
  have h3 : Z.part p q = (l : Int) := by omega
  rw [key_lt hl op oq, cmp_at h3, if_neg (by omega)] at h
  omega
section
variable {k ga gb l g : Nat} {pre : List Nat} {ka kb ks : List (Nat × T)}
theorem kids_fit (h : Wf k (.br ga l pre ka)) : (∀ x ∈ ka, Wf k x.2 ∧ x.2.lv ≤ l ∧ cut x.2.pre (l + 1) = pre ∧ addr x.2.pre l = x.1) ∧ Sl.Srt ka := by
  cases h with
  | br _ _ _ _ h63 hw h2 hl ho hk hc => exact ⟨fun x hx => ⟨hk x hx, hc x hx⟩, hw.srt⟩
end
end Tr
end Go.Proofs.YtpgkfccfabnjdaaGreatDoor
