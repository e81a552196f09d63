import Derived.Test.YtpgkfccfabnjdaaGreatDoorM71
import Derived.Test.YtpgkfccfabnjdaaGreatDoorM22
/-
  PLAIN MATHEMATICS of layer 12: the changes from one list of entries to another one, point by point ('chL'); kids of two nodes side by side ('mrg').
-/
namespace Go.Proofs.YtpgkfccfabnjdaaGreatDoor
open Tr (T S4 Ent)
namespace Tr
open Go.Proofs.YtpgkfccfabnjdaaGreatDoor.Z

/-! ### changes -/
abbrev Chg := List Nat × Option Nat × Option Nat
def CS (L : List Chg) : Prop := L.Pairwise fun a b => key a.1 < key b.1
theorem CS.ext : ∀ {L M : List Chg}, CS L → CS M → (∀ e, e ∈ L ↔ e ∈ M) → L = M
  | [], [], _, _, _ => rfl
  | [], b :: M, _, _, h => by have := (h b).2 List.mem_cons_self; cases this
  | a :: L, [], _, _, h => by have := (h a).1 List.mem_cons_self; cases this
  | a :: L, b :: M, hL, hM, h => by
    obtain ⟨l1, l2⟩ := List.pairwise_cons.1 hL
    obtain ⟨m1, m2⟩ := List.pairwise_cons.1 hM
    have hab : a = b := by
      rcases List.mem_cons.1 ((h a).1 List.mem_cons_self) with e | e
      · exact e
      · rcases List.mem_cons.1 ((h b).2 List.mem_cons_self) with f | f
        · exact f.symm
        · have := l1 b f; have := m1 a e; omega
    subst hab
    congr 1
    refine CS.ext l2 m2 fun e => ⟨fun he => ?_, fun he => ?_⟩
    · rcases List.mem_cons.1 ((h e).1 (List.mem_cons_of_mem _ he)) with f | f
      · rw [f] at he; have := l1 a he; omega
      · exact f
    · rcases List.mem_cons.1 ((h e).2 (List.mem_cons_of_mem _ he)) with f | f
      · rw [f] at he; have := m1 a he; omega
      · exact f
def ptsU (L M : List Ent) : List Ent := M.foldl (fun A e => putE e.1 0 A) L
theorem ptsU_nil (L : List Ent) : ptsU L [] = L := rfl
theorem ptsU_cons (L : List Ent) (e : Ent) (M : List Ent) : ptsU L (e :: M) = ptsU (putE e.1 0 L) M := rfl
theorem ptsU_zs {k : Nat} : ∀ {M L : List Ent}, ZS L → Dim k L → Dim k M → ZS (ptsU L M) ∧ Dim k (ptsU L M) ∧ (ptsU L M).length ≤ L.length + M.length ∧ ∀ p, (∃ v, (p, v) ∈ ptsU L M) ↔ (∃ v, (p, v) ∈ L) ∨ ∃ v, (p, v) ∈ M
  | [], L, hz, hd, _ => ⟨hz, hd, Nat.le_refl _, fun p => by rw [ptsU_nil]; simp⟩
  | e :: M, L, hz, hd, hm => by
    have he := hm e List.mem_cons_self
    obtain ⟨h1, h2, h3, h4⟩ := ptsU_zs (hz.put e.1 0) (Dim.put hz hd he.1 he.2.1 (by omega)) (fun x hx => hm x (List.mem_cons_of_mem _ hx))
    rw [ptsU_cons]
    refine ⟨h1, h2, ?_, fun p => ?_⟩
    · have := length_putE hz e.1 0
      simp only [List.length_cons]
      omega
    · rw [h4 p]
      constructor
      · rintro (⟨v, hv⟩ | ⟨v, hv⟩)
        · rcases (mem_putE hz).1 hv with c | c
          · simp only [Prod.mk.injEq] at c
            exact .inr ⟨e.2, by rw [c.1]; exact List.mem_cons_self⟩
          · exact .inl ⟨v, c.1⟩
        · exact .inr ⟨v, List.mem_cons_of_mem _ hv⟩
      · rintro (⟨v, hv⟩ | ⟨v, hv⟩)
        · by_cases c : key p = key e.1
          · have hp : p = e.1 := (key_inj (by rw [(hd _ hv).1, he.1]) (hd _ hv).2.1 he.2.1).1 c
            exact .inl ⟨0, (mem_putE hz).2 (.inl (by rw [hp]))⟩
          · exact .inl ⟨v, (mem_putE hz).2 (.inr ⟨hv, c⟩)⟩
        · rcases List.mem_cons.1 hv with c | c
          · exact .inl ⟨0, (mem_putE hz).2 (.inl (by rw [← c]))⟩
          · exact .inr ⟨v, c⟩
def chgAt (L M : List Ent) (p : List Nat) : Option Chg := if getE L p = getE M p then none else some (p, getE L p, getE M p)
def chL (L M : List Ent) : List Chg := (ptsU L M).filterMap fun e => chgAt L M e.1
def IsChg (L M : List Ent) (c : Chg) : Prop := (∀ v, c.2.1 = some v ↔ (c.1, v) ∈ L) ∧ (∀ v, c.2.2 = some v ↔ (c.1, v) ∈ M) ∧ c.2.1 ≠ c.2.2
theorem chgAt_fst {L M : List Ent} {p : List Nat} {c : Chg} (h : chgAt L M p = some c) : c = (p, getE L p, getE M p) ∧ getE L p ≠ getE M p := by
  unfold chgAt at h
  split at h
  · cases h
  · rename_i hne
    exact ⟨(Option.some.inj h).symm, hne⟩
theorem cs_filterMap {L M : List Ent} : ∀ {U : List Ent}, ZS U → CS (U.filterMap fun e => chgAt L M e.1)
  | [], _ => List.Pairwise.nil
  | e :: U, h => by
    obtain ⟨h1, h2⟩ := List.pairwise_cons.1 h
    have ih := cs_filterMap (L := L) (M := M) h2
    rw [List.filterMap_cons]
    split
    · exact ih
    · rename_i c hc
      refine List.pairwise_cons.2 ⟨fun d hd => ?_, ih⟩
      obtain ⟨f, hf, hfd⟩ := List.mem_filterMap.1 hd
      rw [(chgAt_fst hc).1, (chgAt_fst hfd).1]
      exact h1 f hf
section
variable {k : Nat} {L M : List Ent}
theorem chL_cs (zL : ZS L) (dL : Dim k L) (dM : Dim k M) : CS (chL L M) := cs_filterMap (ptsU_zs zL dL dM).1
theorem mem_chL (zL : ZS L) (zM : ZS M) (dL : Dim k L) (dM : Dim k M) {c : Chg} : c ∈ chL L M ↔ IsChg L M c := by
  obtain ⟨-, hd, -, hp⟩ := ptsU_zs zL dL dM
  unfold chL
  rw [List.mem_filterMap]
  constructor
  · rintro ⟨e, he, hc⟩
    obtain ⟨rfl, hne⟩ := chgAt_fst hc
    have de := hd e he
    exact ⟨fun v => getE_iff zL dL de.1 de.2.1, fun v => getE_iff zM dM de.1 de.2.1, hne⟩
  · rintro ⟨h1, h2, h3⟩
    obtain ⟨p, a, b⟩ := c
    simp only at h1 h2 h3
    have hex : (∃ v, (p, v) ∈ L) ∨ ∃ v, (p, v) ∈ M := by
      cases a with
      | some v => exact .inl ⟨v, (h1 v).1 rfl⟩
      | none =>
        cases b with
        | some v => exact .inr ⟨v, (h2 v).1 rfl⟩
        | none => exact absurd rfl h3
    obtain ⟨u, hu⟩ := (hp p).2 hex
    have de := hd _ hu
    have ea : getE L p = a := by
      cases a with
      | some v => exact (getE_iff zL dL de.1 de.2.1).2 ((h1 v).1 rfl)
      | none =>
        cases hg : getE L p with
        | none => rfl
        | some v => have := (h1 v).2 ((getE_iff zL dL de.1 de.2.1).1 hg); cases this
    have eb : getE M p = b := by
      cases b with
      | some v => exact (getE_iff zM dM de.1 de.2.1).2 ((h2 v).1 rfl)
      | none =>
        cases hg : getE M p with
        | none => rfl
        | some v => have := (h2 v).2 ((getE_iff zM dM de.1 de.2.1).1 hg); cases this
    refine ⟨(p, u), hu, ?_⟩
    unfold chgAt
    rw [ea, eb, if_neg h3]
theorem IsChg.point {c : Chg} (h : IsChg L M c) : (∃ v, (c.1, v) ∈ L) ∨ ∃ v, (c.1, v) ∈ M := by
  obtain ⟨h1, h2, h3⟩ := h
  cases ha : c.2.1 with
  | some v => exact .inl ⟨v, (h1 v).1 ha⟩
  | none =>
    cases hb : c.2.2 with
    | some v => exact .inr ⟨v, (h2 v).1 hb⟩
    | none => exact absurd (ha.trans hb.symm) h3
end
/-! ### two rows of kids side by side -/
abbrev Pr := Nat × Option T × Option T
end Tr
end Go.Proofs.YtpgkfccfabnjdaaGreatDoor

/-
  PLAIN MATHEMATICS of layer 12, second part: pairs of nodes at a level ('Fr'), what is left of them, how much there is to be done.
-/
namespace Go.Proofs.YtpgkfccfabnjdaaGreatDoor
open Tr (T S4 Ent)
namespace Tr
open Go.Proofs.YtpgkfccfabnjdaaGreatDoor.Z

/-! ### from an address on -/
/-! ### sides, frames -/
structure Sd where
  t : T
  kd : Bool
  a : Nat
def Sd.L (s : Sd) : List (Nat × T) := match s.kd with
  | true => s.t.ks
  | false => [(s.a, s.t)]
structure Fr where
  x : Sd
  y : Sd
  n : Nat
def Fr.to (f : Fr) (n : Nat) : Fr := ⟨f.x, f.y, n⟩
/-! ### how much there is to be done -/
def wgt (x y : Option T) : Nat := max 1 (2 * ((allO x).length + (allO y).length) - 1)
def wM (qs : List Pr) : Nat := (qs.map fun q => wgt q.2.1 q.2.2).sum
/-! ### a pair's frame -/
/-! ### the stack -/
abbrev Fl := Nat × Fr
end Tr
end Go.Proofs.YtpgkfccfabnjdaaGreatDoor
