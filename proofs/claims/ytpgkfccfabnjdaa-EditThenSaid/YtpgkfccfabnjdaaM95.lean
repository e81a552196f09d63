import Derived.Test.YtpgkfccfabnjdaaM94
import Derived.Test.YtpgkfccfabnjdaaM16
/-
  DIFF: lists of changes that can be read (Chs); pantileref12.Same.
-/
namespace Go.Proofs.Ytpgkfccfabnjdaa
open Go.ChangeShapes Go.WideShapes Go.ChangeAt Go.RowKit
open Tr (T S4 Ent Sd Fl Chg)

def Chs (w : World) (A : Option Addr) (L : List Chg) : Prop :=
  L ≠ [] → ∃ b off, A = some ⟨b, off, none⟩ ∧ b < w.heap.size ∧ ∀ (i : Nat) (c : Chg), L[i]? = some c → ∃ P n, w.cell? ⟨b, off + i * 5, none⟩ = some (.slice P c.1.length n) ∧ w.cell? ⟨b, off + i * 5 + 1, none⟩ = some (.bool c.2.1.isSome) ∧ w.cell? ⟨b, off + i * 5 + 2, none⟩ = some (.bool c.2.2.isSome) ∧
    w.cell? ⟨b, off + i * 5 + 3, none⟩ = some (.int .u64 ((c.2.1.getD 0 : Nat) : Int)) ∧ w.cell? ⟨b, off + i * 5 + 4, none⟩ = some (.int .u64 ((c.2.2.getD 0 : Nat) : Int)) ∧ Pts w w.heap.size P c.1 ∧ c.1.length ≤ maxLen ∧ c.2.1.getD 0 < 18446744073709551616 ∧ c.2.2.getD 0 < 18446744073709551616
theorem Chs.below {w w' : World} {A : Option Addr} {L : List Chg} (h : Chs w A L) (hb : Below w.heap.size w w') : Chs w' A L := by
  intro hn
  obtain ⟨b, off, hA, hbl, hc⟩ := h hn
  refine ⟨b, off, hA, Nat.lt_of_lt_of_le hbl hb.size, fun i c hi => ?_⟩
  obtain ⟨P, n, h0, h1, h2, h3, h4, h5, h6⟩ := hc i c hi
  exact ⟨P, n, (hb.cell (p := ⟨b, _, none⟩) hbl).trans h0, (hb.cell (p := ⟨b, _, none⟩) hbl).trans h1, (hb.cell (p := ⟨b, _, none⟩) hbl).trans h2, (hb.cell (p := ⟨b, _, none⟩) hbl).trans h3, (hb.cell (p := ⟨b, _, none⟩) hbl).trans h4,
    (h5.below' hb (Nat.le_refl _)).keep hb.size (fun _ _ => rfl), h6⟩
theorem Chs.nil (w : World) (A : Option Addr) : Chs w A [] := fun h => absurd rfl h
theorem Chs.at {w : World} {A : Option Addr} {L : List Chg} (h : Chs w A L) {i : Nat} {c : Chg} (hi : L[i]? = some c) : ∃ b off P n, A = some ⟨b, off, none⟩ ∧ b < w.heap.size ∧ w.cell? ⟨b, off + i * 5, none⟩ = some (.slice P c.1.length n) ∧ w.cell? ⟨b, off + i * 5 + 1, none⟩ = some (.bool c.2.1.isSome) ∧ w.cell? ⟨b, off + i * 5 + 2, none⟩ = some (.bool c.2.2.isSome) ∧
    w.cell? ⟨b, off + i * 5 + 3, none⟩ = some (.int .u64 ((c.2.1.getD 0 : Nat) : Int)) ∧ w.cell? ⟨b, off + i * 5 + 4, none⟩ = some (.int .u64 ((c.2.2.getD 0 : Nat) : Int)) ∧ Pts w w.heap.size P c.1 ∧ c.1.length ≤ maxLen ∧ c.2.1.getD 0 < 18446744073709551616 ∧ c.2.2.getD 0 < 18446744073709551616 := by
  obtain ⟨b, off, hA, hbl, hc⟩ := h (by rintro rfl; simp at hi)
  obtain ⟨P, n, hh⟩ := hc i c hi
  exact ⟨b, off, P, n, hA, hbl, hh⟩
theorem chG_own {w : World} {G : Nat → Prop} {base : Nat} {A : Option Addr} {c m : Nat} {L : List Chg} (h : OwnL 43 5 (ChG w G) w base (.slice A m c) L) : Chs w A L := by
  obtain ⟨A', c', hv, -, hl⟩ := OwnL.rd (chG_ok _ _) h
  simp only [Value.slice.injEq] at hv
  obtain ⟨rfl, -, -⟩ := hv
  intro hn
  obtain ⟨b, off, hA, hbl, hc⟩ := hl hn
  refine ⟨b, off, hA, hbl, fun i c hi => ?_⟩
  obtain ⟨P, n, h0, h1, h2, h3, h4, h5, h6⟩ := hc i c hi
  exact ⟨P, n, h0, h1, h2, h3, h4, h5.pts, h6⟩
end Go.Proofs.Ytpgkfccfabnjdaa
