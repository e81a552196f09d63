import Derived.Test.YtjcmehplcagejaaDoorM15
import Derived.Test.YtjcmehplcagejaaDoorM14
import Derived.Test.YtjcmehplcagejaaDoorM06
import Derived.Deep.RegionLaw
/-
  ENTRIES IN MEMORY ('Ents'), and CONTRACTS of package pantileref06 (the document's answers for layer 6), first part: SameShape, Dense, Level.
-/
namespace Go.Proofs.YtjcmehplcagejaaDoor
open Go.ChangeShapes Go.WideShapes Go.ChangeAt Go.RowKit
open Tr (T S4 Ent)

/-- what an entry's cells hold -/
def EntQ (w : World) (B : Nat) (f : Nat → Option Value) (e : Ent) : Prop :=
  ∃ A c, f 0 = some (.slice A e.1.length c) ∧ f 1 = some (.int .u64 (e.2 : Int)) ∧ Pts w B A e.1 ∧ e.1.length ≤ maxLen ∧ e.2 < 18446744073709551616
/-- A LIST OF ENTRIES IN MEMORY. -/
def Ents (w : World) (B : Nat) (A : Option Addr) (L : List Ent) : Prop := Lst 2 (EntQ w B) w B A L
theorem Ents.nil (w : World) (B : Nat) (A : Option Addr) : Ents w B A [] := fun h => absurd rfl h
theorem Ents.keep {w w' : World} {B B' : Nat} {A : Option Addr} {L : List Ent} (h : Ents w B A L) (hB : B ≤ B') (hw : ∀ p : Addr, p.block < B → w'.cell? p = w.cell? p) : Ents w' B' A L := by
  intro hn
  obtain ⟨b, off, hA, hb, hq⟩ := h hn
  refine ⟨b, off, hA, by omega, fun i e he => ?_⟩
  obtain ⟨A', c', h0, h1, hp, hl, hv⟩ := hq i e he
  exact ⟨A', c', (hw _ hb).trans h0, (hw _ hb).trans h1, hp.keep hB hw, hl, hv⟩
theorem Ents.below {w w' : World} {B B' C : Nat} {A : Option Addr} {L : List Ent} (h : Ents w B A L) (hb : Below C w w') (hC : B ≤ C) (hB : B ≤ B') : Ents w' B' A L := h.keep hB fun _ hp => hb.cell (Nat.lt_of_lt_of_le hp hC)
theorem Ents.drew {w : World} {B : Nat} {A : Option Addr} {L : List Ent} (h : Ents w B A L) : Ents w.drew B A L := h
theorem Ents.at {w : World} {B : Nat} {A : Option Addr} {L : List Ent} (h : Ents w B A L) {i : Nat} {e : Ent} (he : L[i]? = some e) :
    ∃ b off A' c', A = some ⟨b, off, none⟩ ∧ b < B ∧ w.cell? ⟨b, off + i * 2, none⟩ = some (.slice A' e.1.length c') ∧ w.cell? ⟨b, off + i * 2 + 1, none⟩ = some (.int .u64 (e.2 : Int)) ∧ Pts w B A' e.1 ∧ e.1.length ≤ maxLen ∧ e.2 < 18446744073709551616 := by
  obtain ⟨b, off, hA, hb, hq⟩ := h (by rintro rfl; simp at he)
  obtain ⟨A', c', h0, h1, hp, hl, hv⟩ := hq i e he
  exact ⟨b, off, A', c', hA, hb, h0, h1, hp, hl, hv⟩
/-- a part of a list of entries -/
theorem Ents.part {w : World} {B b off : Nat} {L : List Ent} (h : Ents w B (some ⟨b, off, none⟩) L) (i n : Nat) (hi : i + n ≤ L.length) : Ents w B (some ⟨b, off + i * 2, none⟩) ((L.drop i).take n) := by
  intro hn
  have hL : L ≠ [] := by rintro rfl; simp at hn
  obtain ⟨b', off', hA, hb, hq⟩ := h hL
  simp only [Option.some.injEq, Addr.mk.injEq, and_true] at hA
  obtain ⟨rfl, rfl⟩ := hA
  refine ⟨b, off + i * 2, rfl, hb, fun j e he => ?_⟩
  rw [List.getElem?_take] at he
  split at he
  · rw [List.getElem?_drop] at he
    have := hq (i + j) e he
    obtain ⟨A', c', h0, h1, hp, hl, hv⟩ := this
    refine ⟨A', c', ?_, ?_, hp, hl, hv⟩
    · rw [← h0]; show w.cell? ⟨b, off + i * 2 + j * 2 + 0, none⟩ = w.cell? ⟨b, off + (i + j) * 2 + 0, none⟩; rw [show off + i * 2 + j * 2 = off + (i + j) * 2 by omega]
    · rw [← h1]; show w.cell? ⟨b, off + i * 2 + j * 2 + 1, none⟩ = w.cell? ⟨b, off + (i + j) * 2 + 1, none⟩; rw [show off + i * 2 + j * 2 = off + (i + j) * 2 by omega]
  · cases he

theorem rsame_self (A A' : Option Addr) (c c' : Nat) (us : List Nat) (B : Nat) (w : World) (hp : Pts w B A us) (hq : Pts w B A' us) (hB : B ≤ w.heap.size) (hm : us.length ≤ maxLen) :
    Calls Tryd.prog 26 #[.slice A us.length c, .slice A' us.length c'] w fun e w' => e = .returned (.bool true) ∧ Below w.heap.size w w' :=
  (rsame_c A A' c c' us us B w hp hq hB hm).mono fun _ _ ⟨he, hw⟩ => ⟨by rw [he, decide_eq_true rfl], hw⟩
end Go.Proofs.YtjcmehplcagejaaDoor

/-
  CONTRACTS of package pantileref06, seventh part: Place, Get.
-/
namespace Go.Proofs.YtjcmehplcagejaaDoor
open Go.ChangeShapes Go.WideShapes Go.ChangeAt Go.RowKit
open Tr (T S4 Ent)

/-- A LIST OF ENTRIES IN MEMORY: its points below B, its row below R -/
def EntL (w : World) (B R : Nat) (A : Option Addr) (L : List Ent) : Prop := Lst 2 (EntQ w B) w R A L
theorem EntL.ents {w : World} {B R : Nat} {A : Option Addr} {L : List Ent} (h : EntL w B R A L) {C : Nat} (hB : B ≤ C) (hR : R ≤ C) : Ents w C A L := by
  intro hn
  obtain ⟨b, off, hA, hb, hq⟩ := h hn
  refine ⟨b, off, hA, by omega, fun i e he => ?_⟩
  obtain ⟨A', c', h0, h1, hp, r⟩ := hq i e he
  exact ⟨A', c', h0, h1, hp.keep hB (fun _ _ => rfl), r⟩
theorem EntL.keep {w w' : World} {B R R' : Nat} {A : Option Addr} {L : List Ent} (h : EntL w B R A L) (hR : R ≤ R') (hw : ∀ p : Addr, p.block < B ∨ p.block < R → w'.cell? p = w.cell? p) : EntL w' B R' A L := by
  intro hn
  obtain ⟨b, off, hA, hb, hq⟩ := h hn
  refine ⟨b, off, hA, by omega, fun i e he => ?_⟩
  obtain ⟨A', c', h0, h1, hp, hl, hv⟩ := hq i e he
  exact ⟨A', c', (hw _ (.inr hb)).trans h0, (hw _ (.inr hb)).trans h1, hp.keep (Nat.le_refl _) (fun p hp => hw p (.inl hp)), hl, hv⟩
theorem EntL.below {w w' : World} {B R R' C : Nat} {A : Option Addr} {L : List Ent} (h : EntL w B R A L) (hb : Below C w w') (hB : B ≤ C) (hC : R ≤ C) (hR : R ≤ R') : EntL w' B R' A L :=
  h.keep hR fun _ hp => hb.cell (by rcases hp with hp | hp <;> omega)
theorem EntL.nil (w : World) (B R : Nat) (A : Option Addr) : EntL w B R A [] := fun h => absurd rfl h
theorem EntL.at {w : World} {B R : Nat} {A : Option Addr} {L : List Ent} (h : EntL w B R A L) {i : Nat} {e : Ent} (he : L[i]? = some e) :
    ∃ b off A' c', A = some ⟨b, off, none⟩ ∧ b < R ∧ w.cell? ⟨b, off + i * 2, none⟩ = some (.slice A' e.1.length c') ∧ w.cell? ⟨b, off + i * 2 + 1, none⟩ = some (.int .u64 (e.2 : Int)) ∧ Pts w B A' e.1 ∧ e.1.length ≤ maxLen ∧ e.2 < 18446744073709551616 := by
  obtain ⟨b, off, hA, hb, hq⟩ := h (by rintro rfl; simp at he)
  obtain ⟨A', c', h0, h1, hp, hl, hv⟩ := hq i e he
  exact ⟨b, off, A', c', hA, hb, h0, h1, hp, hl, hv⟩
/-- a row of entries that the call made -/
def OwnE (w : World) (B base : Nat) (v : Value) (L : List Ent) : Prop := OwnL 67 2 (EntQ w B) w base v L
theorem entQ_mono {w w' : World} {B : Nat} (hw : ∀ p : Addr, p.block < B → w'.cell? p = w.cell? p) : ∀ f a, EntQ w B f a → EntQ w' B f a := by
  rintro f a ⟨A, c, h0, h1, hp, r⟩
  exact ⟨A, c, h0, h1, hp.keep (Nat.le_refl _) hw, r⟩
theorem OwnE.below {w w' : World} {B base C : Nat} {v : Value} {L : List Ent} (h : OwnE w B base v L) (hb : Below C w w') (hC : w.heap.size ≤ C) (hB : B ≤ C) : OwnE w' B base v L :=
  (OwnL.below h hb hC).imp (entQ_mono fun _ hp => hb.cell (Nat.lt_of_lt_of_le hp hB))

/-! ### Place -/
end Go.Proofs.YtjcmehplcagejaaDoor

/-
  CONTRACTS of package pantileref06, eighth part: Del, Put.
-/
namespace Go.Proofs.YtjcmehplcagejaaDoor
open Go.ChangeShapes Go.WideShapes Go.ChangeAt Go.RowKit
open Tr (T S4 Ent)

theorem infoE2 : (Tryd.prog.info? 67).map (fun i => (i.zero, i.size, i.bytes)) = some (some (.agg #[.slice none 0 0, .int .u64 0]), 2, 32) := by kernel_rfl
end Go.Proofs.YtjcmehplcagejaaDoor
