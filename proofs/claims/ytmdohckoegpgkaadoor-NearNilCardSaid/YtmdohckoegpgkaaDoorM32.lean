import Derived.Test.YtmdohckoegpgkaaDoorM31
import Derived.Test.YtmdohckoegpgkaaDoorM16
/-
  CONTRACTS of package walk: All, a list that grows while a cursor moves. Laid by wip/gen23.py.
-/
namespace Go.Proofs.YtmdohckoegpgkaaDoor
open Go.ChangeShapes Go.WideShapes Go.ChangeAt Go.RowKit
open Tr (T S4 Ent)

/-- a point in memory, in one of the blocks G -/
def PtsG (w : World) (G : Nat → Prop) (A : Option Addr) (us : List Nat) : Prop :=
  Z.Ok us ∧ (us ≠ [] → ∃ b off, A = some ⟨b, off, none⟩ ∧ G b ∧ b < w.heap.size ∧ ∀ (i u : Nat), us[i]? = some u → w.cell? ⟨b, off + i, none⟩ = some (.int .u64 (u : Int)))
theorem PtsG.pts {w : World} {G : Nat → Prop} {A : Option Addr} {us : List Nat} (h : PtsG w G A us) : Pts w w.heap.size A us :=
  ⟨h.1, fun hn => by obtain ⟨b, off, h1, _, h3, h4⟩ := h.2 hn; exact ⟨b, off, h1, h3, h4⟩⟩
theorem PtsG.step {w w' : World} {G G' : Nat → Prop} {A : Option Addr} {us : List Nat} (h : PtsG w G A us) (hs : w.heap.size ≤ w'.heap.size) (hk : ∀ b, b < w.heap.size → G b → w'.heap[b]? = w.heap[b]? ∧ G' b) : PtsG w' G' A us :=
  ⟨h.1, fun hn => by
    obtain ⟨b, off, h1, h2, h3, h4⟩ := h.2 hn
    obtain ⟨h5, h6⟩ := hk b h3 h2
    exact ⟨b, off, h1, h6, by omega, fun i u hu => (World.cell?_of_block (a := ⟨b, off + i, none⟩) h5).trans (h4 i u hu)⟩⟩
theorem Own.ptsG {w : World} {base h n d : Nat} {us : List Nat} {G : Nat → Prop} (ho : Own w base (.slice (some ⟨h, 0, none⟩) n d) us) (hG : G h) : PtsG w G (some ⟨h, 0, none⟩) us := by
  obtain ⟨A, c, hv, hp⟩ := ho.pts
  simp only [Value.slice.injEq] at hv
  obtain ⟨rfl, -, -⟩ := hv
  refine ⟨hp.1, fun hn => ?_⟩
  obtain ⟨b, off, h1, h2, h3⟩ := hp.2 hn
  simp only [Option.some.injEq, Addr.mk.injEq, and_true] at h1
  obtain ⟨rfl, rfl⟩ := h1
  exact ⟨h, 0, rfl, hG, h2, h3⟩
def EntG (w : World) (G : Nat → Prop) (f : Nat → Option Value) (e : Ent) : Prop :=
  ∃ A c, f 0 = some (.slice A e.1.length c) ∧ f 1 = some (.int .u64 (e.2 : Int)) ∧ PtsG w G A e.1 ∧ e.1.length ≤ maxLen ∧ e.2 < 18446744073709551616
theorem entG_ok (w : World) (G : Nat → Prop) : QOk 2 (EntG w G) where
  ext := by
    rintro f g a h ⟨A, c, h0, h1, r⟩
    exact ⟨A, c, by rw [← h 0 (by omega)]; exact h0, by rw [← h 1 (by omega)]; exact h1, r⟩
  has := by
    rintro f a ⟨A, c, h0, h1, r⟩ j hj
    match j, hj with
    | 0, _ => exact ⟨_, h0, rfl⟩
    | 1, _ => exact ⟨_, h1, rfl⟩
theorem EntG.step {w w' : World} {G G' : Nat → Prop} (hs : w.heap.size ≤ w'.heap.size) (hk : ∀ b, b < w.heap.size → G b → w'.heap[b]? = w.heap[b]? ∧ G' b) : ∀ f e, EntG w G f e → EntG w' G' f e := by
  rintro f e ⟨A, c, h0, h1, h2, r⟩
  exact ⟨A, c, h0, h1, h2.step hs hk, r⟩
end Go.Proofs.YtmdohckoegpgkaaDoor
