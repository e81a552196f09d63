import Derived.Test.YtjcmehplcagejaaGreatDoorM20
import Derived.Test.YtjcmehplcagejaaGreatDoorM24
/-
  CONTRACTS of package pantileref06: Shape of any list, Shapes.
-/
namespace Go.Proofs.YtjcmehplcagejaaGreatDoor
open Go.ChangeShapes Go.WideShapes Go.ChangeAt Go.RowKit
open Tr (T S4 Ent Shp)

/-- an own row of shapes and where its lists lie -/
def ShRow (base B : Nat) (w : World) (v : Value) (L : List Shp) : Prop :=
  ∃ F : Nat → Prop, OwnL 150 5 (ShQ w F) w base v L ∧ ∀ q, F q → (q < B ∨ base ≤ q) ∧ q < w.heap.size ∧ v.ownBlock ≠ some q
theorem ShRow.drewN {base B : Nat} {w : World} {v : Value} {L : List Shp} (h : ShRow base B w v L) (n : Nat) : ShRow base B (w.drewN n) v L := h
theorem ShRow.below {base B C : Nat} {w w' : World} {v : Value} {L : List Shp} (h : ShRow base B w v L) (hb : Below C w w') (hC : w.heap.size ≤ C) : ShRow base B w' v L := by
  obtain ⟨F, h1, h2⟩ := h
  refine ⟨F, (h1.below hb hC).imp fun f a hf => hf.imp (fun b hb' => hb.block b (by have := (h2 b hb').2.1; omega)) fun _ h => h, fun q hq => ⟨(h2 q hq).1, ?_, (h2 q hq).2.2⟩⟩
  have := (h2 q hq).2.1
  have := hb.size
  omega
theorem ShRow.slice {base B : Nat} {w : World} {v : Value} {L : List Shp} (h : ShRow base B w v L) : ∃ A c, v = .slice A L.length c ∧ L.length ≤ c := by
  obtain ⟨F, h1, -⟩ := h
  exact OwnL.slice h1
end Go.Proofs.YtjcmehplcagejaaGreatDoor

/-
  CONTRACTS of package pantileref06: SameShapes, of the same.
-/
namespace Go.Proofs.YtjcmehplcagejaaGreatDoor
open Go.ChangeShapes Go.WideShapes Go.ChangeAt Go.RowKit
open Tr (T S4 Ent Shp)

theorem ptsW {w : World} {B : Nat} {A : Option Addr} {us : List Nat} (h : Pts w B A us) : Pts w w.heap.size A us := by
  refine ⟨h.1, fun hn => ?_⟩
  obtain ⟨b, off, hA, -, hc⟩ := h.2 hn
  refine ⟨b, off, hA, ?_, hc⟩
  obtain ⟨u, hu⟩ : ∃ u, us[0]? = some u := by cases us with | nil => exact absurd rfl hn | cons a l => exact ⟨a, rfl⟩
  exact World.block_lt_of_cell? w _ (hc 0 u hu)
theorem rdVW {w : World} {B : Nat} {A : Option Addr} {xs : List Value} (h : RdV w B A xs) : RdV w w.heap.size A xs := by
  intro hn
  obtain ⟨b, off, hA, -, hc⟩ := h hn
  refine ⟨b, off, hA, ?_, hc⟩
  obtain ⟨u, hu⟩ : ∃ u, xs[0]? = some u := by cases xs with | nil => exact absurd rfl hn | cons a l => exact ⟨a, rfl⟩
  exact World.block_lt_of_cell? w _ (hc 0 u hu)
/-- a row of shapes that can be read -/
def Shps (w : World) (A : Option Addr) (L : List Shp) : Prop := ∃ D R, Lst 5 (ShQ w D) w R A L ∧ R ≤ w.heap.size
theorem Shps.at {w : World} {A : Option Addr} {L : List Shp} (h : Shps w A L) {i : Nat} {s : Shp} (hs : L[i]? = some s) :
    ∃ b off C c C' c', A = some ⟨b, off, none⟩ ∧ b < w.heap.size ∧ w.cell? ⟨b, off + i * 5, none⟩ = some (.int .i64 s.lev) ∧ w.cell? ⟨b, off + i * 5 + 1, none⟩ = some (.slice C s.pre.length c) ∧ w.cell? ⟨b, off + i * 5 + 2, none⟩ = some (.slice C' s.ks.length c') ∧ w.cell? ⟨b, off + i * 5 + 3, none⟩ = some (.bool s.dn) ∧ w.cell? ⟨b, off + i * 5 + 4, none⟩ = some (.int .u64 (s.val : Int)) ∧
      Pts w w.heap.size C s.pre ∧ RdV w w.heap.size C' (Sn.intV s.ks) := by
  obtain ⟨D, R, h1, h2⟩ := h
  obtain ⟨b, off, hA, hb, hq⟩ := h1 (by rintro rfl; simp at hs)
  obtain ⟨C, c, C', c', e0, e1, e2, e3, e4, ⟨B, p⟩, ⟨B', r⟩, -, -⟩ := hq i s hs
  exact ⟨b, off, C, c, C', c', hA, by omega, e0, e1, e2, e3, e4, ptsW p, rdVW r⟩
theorem Shps.cut {w : World} {A : Option Addr} {L : List Shp} {i : Nat} {s : Shp} (h : Shps w A L) (hs : L[i]? = some s) {wr : World} (hr : Below w.heap.size w wr) :
    ∃ b off C c C' c', A = some ⟨b, off, none⟩ ∧ (∀ w', Below wr.heap.size wr w' → w'.cell? ⟨b, off + i * 5, none⟩ = some (.int .i64 s.lev)) ∧ (∀ w', Below wr.heap.size wr w' → w'.cell? ⟨b, off + i * 5 + 1, none⟩ = some (.slice C s.pre.length c)) ∧ (∀ w', Below wr.heap.size wr w' → w'.cell? ⟨b, off + i * 5 + 2, none⟩ = some (.slice C' s.ks.length c')) ∧ (∀ w', Below wr.heap.size wr w' → w'.cell? ⟨b, off + i * 5 + 3, none⟩ = some (.bool s.dn)) ∧ (∀ w', Below wr.heap.size wr w' → w'.cell? ⟨b, off + i * 5 + 4, none⟩ = some (.int .u64 (s.val : Int))) ∧
      (∀ w', Below wr.heap.size wr w' → Pts w' w'.heap.size C s.pre) ∧ (∀ w', Below wr.heap.size wr w' → RdV w' w'.heap.size C' (Sn.intV s.ks)) := by
  obtain ⟨b, off, C, c, C', c', hA, hlt, e0, e1, e2, e3, e4, p, r⟩ := h.at hs
  have hbb : ∀ w', Below wr.heap.size wr w' → Below w.heap.size w w' := fun w' hb => hr.trans (hb.mono hr.size)
  exact ⟨b, off, C, c, C', c', hA, fun w' hb => ((hbb w' hb).cell (p := ⟨b, off + i * 5, none⟩) hlt).trans e0, fun w' hb => ((hbb w' hb).cell (p := ⟨b, off + i * 5 + 1, none⟩) hlt).trans e1, fun w' hb => ((hbb w' hb).cell (p := ⟨b, off + i * 5 + 2, none⟩) hlt).trans e2, fun w' hb => ((hbb w' hb).cell (p := ⟨b, off + i * 5 + 3, none⟩) hlt).trans e3, fun w' hb => ((hbb w' hb).cell (p := ⟨b, off + i * 5 + 4, none⟩) hlt).trans e4,
    fun w' hb => (p.below' (hbb w' hb) (Nat.le_refl _)).keep (hbb w' hb).size (fun _ _ => rfl), fun w' hb => r.below (hbb w' hb) (Nat.le_refl _) (hbb w' hb).size⟩
end Go.Proofs.YtjcmehplcagejaaGreatDoor
