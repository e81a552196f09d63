import Derived.Test.YtjcmehplcagejaaGreatDoorM25
import Derived.Test.YtjcmehplcagejaaGreatDoorM26
import Derived.Test.YtjcmehplcagejaaGreatDoorM13
/-
  THE CONTRACT of pantilelaw07.Is: a tree is that of the list of its entries.
-/
namespace Go.Proofs.YtjcmehplcagejaaGreatDoor
open Go.ChangeShapes Go.WideShapes Go.ChangeAt Go.RowKit
open Tr (T S4 Ent Shp)

theorem Shps.below {w w' : World} {A : Option Addr} {L : List Shp} (h : Shps w A L) (hb : Below w.heap.size w w') : Shps w' A L := by
  obtain ⟨D, R, h1, h2⟩ := h
  refine ⟨fun _ => True, R, fun hn => ?_, Nat.le_trans h2 hb.size⟩
  obtain ⟨b, off, hA, hlt, hq⟩ := h1 hn
  refine ⟨b, off, hA, hlt, fun i s hs => ?_⟩
  obtain ⟨C, c, C', c', e0, e1, e2, e3, e4, ⟨B1, p⟩, ⟨B2, r⟩, -, -⟩ := hq i s hs
  have hbw : b < w.heap.size := by omega
  exact ⟨C, c, C', c', (hb.cell (p := ⟨b, off + i * 5 + 0, none⟩) hbw).trans e0, (hb.cell (p := ⟨b, off + i * 5 + 1, none⟩) hbw).trans e1, (hb.cell (p := ⟨b, off + i * 5 + 2, none⟩) hbw).trans e2, (hb.cell (p := ⟨b, off + i * 5 + 3, none⟩) hbw).trans e3, (hb.cell (p := ⟨b, off + i * 5 + 4, none⟩) hbw).trans e4,
    ⟨_, (ptsW p).below' hb (Nat.le_refl _)⟩, ⟨_, (rdVW r).below hb (Nat.le_refl _) (Nat.le_refl _)⟩, fun _ _ _ => trivial, fun _ _ _ => trivial⟩
end Go.Proofs.YtjcmehplcagejaaGreatDoor

/-
  THE CONTRACT of pantilelaw07.awake: the chapter's example is met: it returns true.
-/
namespace Go.Proofs.YtjcmehplcagejaaGreatDoor
open Go.ChangeShapes Go.WideShapes Go.ChangeAt Go.RowKit
open Tr (T S4 Ent Shp)

theorem Shps.lev {w : World} {A : Option Addr} {L : List Shp} {ls : List Int} (h : Shps w A L) (hm : L.map (·.lev) = ls) {w' : World} (hb : Below w.heap.size w w') : ls ≠ [] →
    ∃ b off, A = some ⟨b, off, none⟩ ∧ ∀ i v, ls[i]? = some v → w'.cell? ⟨b, off + i * 5, none⟩ = some (.int .i64 v) := by
  intro hne
  have hL : L ≠ [] := by rintro rfl; exact hne hm.symm
  obtain ⟨s, hs⟩ : ∃ s, L[0]? = some s := by cases L with | nil => exact absurd rfl hL | cons a l => exact ⟨a, rfl⟩
  obtain ⟨b, off, -, -, -, -, hA, -⟩ := h.at hs
  refine ⟨b, off, hA, fun i v hv => ?_⟩
  rw [← hm, List.getElem?_map] at hv
  obtain ⟨s, hs, rfl⟩ := Option.map_eq_some_iff.1 hv
  obtain ⟨b', off', -, -, -, -, hA', hlt, e0, -⟩ := h.at hs
  rw [hA] at hA'
  cases hA'
  exact (hb.cell (p := ⟨b, off + i * 5, none⟩) hlt).trans e0
/-- PUT of a point without the very same value -/
theorem tPut_new {w : World} {b k : Nat} {o : Option T} (h : TreeX w b k o) {p : List Nat} {A : Option Addr} {c : Nat} (hp : Pts w w.heap.size A p) (hl : p.length = k) (v : Nat) (hv : v < 18446744073709551616) (hN : (Tr.entsO o).length ≤ 1000) (hg : Tr.getE (Tr.entsO o) p ≠ some v) :
    Calls Tryz.prog 42 #[.pointer (some ⟨b, 0, none⟩), .slice A p.length c, .int .u64 (v : Int)] w fun e w' => ∃ n t, e = .returned (.tuple #[.pointer (some ⟨n, 0, none⟩), .int .i64 0]) ∧ TreeX w' n k (some t) ∧ t.ents = Tr.putE p v (Tr.entsO o) ∧ Below w.heap.size w w' := by
  refine (tPut_c h.1 (Nat.le_refl _) hp hl v hv (by omega)).mono ?_
  rintro e w' (⟨h1, -⟩ | ⟨-, n, t, rfl, ⟨h1, -, h2, -, -⟩, h3⟩)
  · exact absurd h1 hg
  · exact ⟨n, t, rfl, h1, h2, h3⟩
theorem pts_two (w : World) (a b : Nat) (ha : a < 1000) (hb : b < 1000) : Pts (w.alloc (.cells #[.int .u64 (a : Int), .int .u64 (b : Int)] 46)) (w.alloc (.cells #[.int .u64 (a : Int), .int .u64 (b : Int)] 46)).heap.size (some ⟨w.heap.size, 0, none⟩) [a, b] :=
  pts_list (t := 46) (by intro u hu; simp at hu; omega) (heap_at w _ _ rfl)
end Go.Proofs.YtjcmehplcagejaaGreatDoor
