/-
  HOW A LIST (a slice of elements of whatever type) AMONG A LAW's ARGUMENTS IS OPENED: 'Q' says what an element's cells hold.
-/
import Derived.Test.YtgplbbmenmbaaaaBase
import Derived.Deep.Slices
import Derived.ShutString
import Derived.ChangeOld
namespace Go.Proofs.Ytgplbbmenmbaaaa
open Go.ChangeShapes Go.WideShapes Go.ChangeAt Go.RowKit

/-- A LIST IN MEMORY: each element has n cells, of which 'Q' says what they hold. -/
def Lst {α : Type} (n : Nat) (Q : (Nat → Option Value) → α → Prop) (w : World) (B : Nat) (A : Option Addr) (l : List α) : Prop :=
  l ≠ [] → ∃ b off, A = some ⟨b, off, none⟩ ∧ b < B ∧ ∀ (i : Nat) (a : α), l[i]? = some a → Q (fun j => w.cell? ⟨b, off + i * n + j, none⟩) a

theorem open_list {α H : Type} {enc : TypeId × Value → H} {W : World} {t e : TypeId} {n : Nat} (Q : (Nat → Option Value) → α → Prop) (ht : Try.prog.underlying t = some (.slice e)) (hn : Try.prog.cellsOf e = n) (hpos : 0 < n)
    (each : ∀ (fuel : Nat) (cs : List Value) (x : DataW H × List MemPlace) (f : Nat → Option Value), cs.length = n → DataW.trod enc Try.prog W 0 (fun _ => true) true fuel e cs = some x → (∀ j, j < n → f j = cs[j]?) → ∃ a, Q f a)
    {fuel : Nat} {cs : List Value} {x : DataW H × List MemPlace} (h : DataW.trod enc Try.prog W 0 (fun _ => true) true fuel t cs = some x) :
    ∃ (A : Option Addr) (c : Nat) (l : List α), cs = [.slice A l.length c] ∧ l.length ≤ maxLen ∧ l.length ≤ c ∧ Lst n Q W W.heap.size A l := by
  rcases Go.Deep.open_slice ht h with ⟨rfl, _⟩ | ⟨a, len, cap, m, fl, D, Pl, rfl, _, hl, hm, hmm, _, hx⟩
  · exact ⟨none, 0, [], rfl, Nat.zero_le _, Nat.le_refl _, fun h => absurd rfl h⟩
  · rw [hn] at hx
    have hlm : len ≤ m := by rw [hmm]; split <;> omega
    have hsp : 0 < len → ∃ b off, a = ⟨b, off, none⟩ ∧ b < W.heap.size := by
      intro hi
      obtain ⟨cs', h1, _⟩ := hx 0 (by omega)
      obtain ⟨_, hlen, hc⟩ := World.cells?_some h1
      have h0 := hc 0 hpos
      rw [List.getElem?_eq_getElem (by omega)] at h0
      obtain ⟨b, off, spot⟩ := a
      have hspot : spot = none := by
        have := World.cell?_spot h0
        simpa [Addr.add] using this
      subst hspot
      rw [add_plain, add_plain] at h0
      exact ⟨b, off, rfl, World.block_lt_of_cell? W _ h0⟩
    have all : ∀ k, k ≤ len → ∃ l : List α, l.length = k ∧ ∀ (i : Nat) (u : α), l[i]? = some u → Q (fun j => W.cell? ((a.add (i * n)).add j)) u := by
      intro k
      induction k with
      | zero => exact fun _ => ⟨[], rfl, fun i u hu => by simp at hu⟩
      | succ k ih =>
        intro hk
        obtain ⟨l, hlen, hq⟩ := ih (by omega)
        obtain ⟨cs', h1, h2⟩ := hx k (by omega)
        obtain ⟨_, hcl, hc⟩ := World.cells?_some h1
        obtain ⟨u, hu⟩ := each _ cs' _ (fun j => W.cell? ((a.add (k * n)).add j)) hcl h2 hc
        refine ⟨l ++ [u], by simp [hlen], fun i v hv => ?_⟩
        by_cases hi : i < l.length
        · rw [List.getElem?_append_left hi] at hv
          exact hq i v hv
        · rw [List.getElem?_append_right (by omega)] at hv
          have hik : i = k := by
            rcases Nat.lt_or_ge (i - l.length) 1 with h | h
            · omega
            · rw [List.getElem?_eq_none (by simpa using h)] at hv; cases hv
          subst hik
          rw [show i - l.length = 0 by omega] at hv
          cases hv
          exact hu
    obtain ⟨l, hlen, hq⟩ := all len (Nat.le_refl _)
    refine ⟨some a, cap, l, by rw [hlen], by omega, by omega, fun hne => ?_⟩
    have hlp : 0 < len := by
      rcases Nat.eq_zero_or_pos len with h | h
      · rw [h] at hlen; exact absurd (List.eq_nil_of_length_eq_zero hlen) hne
      · exact h
    obtain ⟨b, off, rfl, hb⟩ := hsp hlp
    refine ⟨b, off, rfl, hb, fun i u hu => ?_⟩
    have := hq i u hu
    simp only [add_plain] at this
    exact this
end Go.Proofs.Ytgplbbmenmbaaaa
