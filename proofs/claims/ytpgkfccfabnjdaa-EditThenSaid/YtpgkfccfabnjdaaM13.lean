import Derived.Test.YtpgkfccfabnjdaaM12
/-
  PLAIN MATHEMATICS of layer 7, second part: what a path leads to; what having makes of it.
-/
namespace Go.Proofs.Ytpgkfccfabnjdaa
open Tr (T S4 Ent)
namespace Tr
open Go.Proofs.Ytpgkfccfabnjdaa.Z

def isBr : T → Prop
  | .br _ _ _ _ => True
  | .ent _ _ _ => False
def Chain (p : List Nat) : Option T → List T → Option T → Prop
  | o, [], y => y = o
  | o, u :: L, y => o = some u ∧ isBr u ∧ covers u p = true ∧ Chain p (kidAt u p) L y
theorem chain_y {p : List Nat} {k : Nat} : ∀ {L : List T} {o y : Option T}, Chain p o L y → (∀ t, o = some t → Wf k t) → ∀ t, y = some t → Wf k t
  | [], _, _, h, hw, t, ht => hw t (by rw [← show _ = _ from h]; exact ht)
  | _ :: _, _, _, h, hw, t, ht => chain_y h.2.2.2 (fun s hs => (kidAt_wf (hw _ h.1) hs).1) t ht
end Tr
open Tr

theorem entsO_zs {k : Nat} {o : Option T} (h : ∀ t, o = some t → Wf k t) : ZS (entsO o) ∧ Dim k (entsO o) := by
  cases o with
  | none => exact ⟨ZS.nil, fun e he => by simp [entsO] at he⟩
  | some t => exact ⟨(h t rfl).zs, (h t rfl).dim⟩
end Go.Proofs.Ytpgkfccfabnjdaa

/-
  PLAIN MATHEMATICS of layer 7, third part: what is at a point, by its path; what a put puts there.
-/
namespace Go.Proofs.Ytpgkfccfabnjdaa
open Tr (T S4 Ent)
namespace Tr
open Go.Proofs.Ytpgkfccfabnjdaa.Z

theorem chain_at {k : Nat} {p : List Nat} : ∀ {L : List T} {o y : Option T}, Chain p o L y → (∀ t, o = some t → Wf k t) → ∀ e : Ent, e.1 = p → (e ∈ entsO o ↔ e ∈ entsO y)
  | [], _, _, h, _, e, _ => by rw [show _ = _ from h]
  | u :: L, o, y, h, hw, e, he => by
    obtain ⟨h1, h2, h3, h4⟩ := h
    have wu := hw u h1
    rw [← chain_at h4 (fun s hs => (kidAt_wf wu hs).1) e he, h1]
    cases u with
    | ent _ _ _ => exact h2.elim
    | br g l pre ks =>
      rw [mem_kidAt wu, he]
      simp [entsO]
theorem not_at {k : Nat} {b : T} (h : Wf k b) {p : List Nat} (hp : p.length = k) (ho : Ok p) (hc : covers b p = false) : ∀ e ∈ b.ents, e.1 ≠ p := by
  rintro e he rfl
  have := (covers_iff h hp ho).2 (h.each e he).2.2.2
  rw [hc] at this
  cases this
theorem get_none {k : Nat} {p : List Nat} (hp : p.length = k) (ho : Ok p) {L : List T} {o y : Option T} (hw : ∀ t, o = some t → Wf k t) (h : Chain p o L y) (hy : ∀ t, y = some t → covers t p = false) : getE (entsO o) p = none := by
  have hz := entsO_zs hw
  rw [getE_none hz.1 hz.2 hp ho]
  intro e he hep
  have h1 := (chain_at h hw e hep).1 he
  cases y with
  | none => simp [entsO] at h1
  | some b => exact not_at (chain_y h hw b rfl) hp ho (hy b rfl) e h1 hep
end Tr
end Go.Proofs.Ytpgkfccfabnjdaa
