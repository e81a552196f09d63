/-
  CONTRACTS of package pantileref02 (the document's answers for layer 2), fourth part: boxes.
-/
import Derived.Test.YtkhfjcaobjompaaDoorRf4
import Derived.Deep.RegionHeld3
namespace Go.Proofs.YtkhfjcaobjompaaDoor
open Go.ChangeShapes Go.WideShapes Go.ChangeAt Go.RowKit

/-- a world behind w in which the box at block w.heap.size is as it was laid -/
def Held (w w' : World) : Prop := Below w.heap.size w w' ∧ w.heap.size + 1 ≤ w'.heap.size
theorem Held.drew {w w' : World} (h : Held w w') : Held w w'.drew := ⟨h.1.drew, h.2⟩
theorem Held.alloc (w : World) (o : Obj) : Held w (w.alloc o) := ⟨(Below.refl _ w).alloc (Nat.le_refl _) o, by simp⟩

theorem rpoint_held (A0 A1 : Option Addr) (n0 c0 n1 c1 : Nat) (A : Option Addr) (c : Nat) (us : List Nat) (w w1 : World) (hp : Pts w w.heap.size A us) (h1 : 1 ≤ us.length) (h16 : us.length ≤ 16)
    (g0 : w1.cell? ⟨w.heap.size, 0, none⟩ = some (.slice A0 n0 c0)) (g1 : w1.cell? ⟨w.heap.size, 1, none⟩ = some (.slice A1 n1 c1)) (hh : Held w w1) :
    Calls Tryd.prog 20 #[.slice A us.length c] w1 fun e w2 => e = .returned (.string (str (T.ptText us))) ∧ w2.cell? ⟨w.heap.size, 0, none⟩ = some (.slice A0 n0 c0) ∧ w2.cell? ⟨w.heap.size, 1, none⟩ = some (.slice A1 n1 c1) ∧ Held w w2 :=
  (rpoint_c A c us w.heap.size w1 (hp.below' hh.1 (Nat.le_refl _)) hh.1.size h1 h16).mono fun _ _ ⟨he, hb⟩ =>
    ⟨he, by rw [hb.cell (p := ⟨w.heap.size, 0, none⟩) (Nat.lt_of_succ_le hh.2)]; exact g0, by rw [hb.cell (p := ⟨w.heap.size, 1, none⟩) (Nat.lt_of_succ_le hh.2)]; exact g1,
      ⟨hh.1.trans (hb.mono hh.1.size), Nat.le_trans hh.2 hb.size⟩⟩

set_option maxRecDepth 100000 in
theorem rbox_c (A A' : Option Addr) (c c' : Nat) (us vs : List Nat) (w : World) (hp : Pts w w.heap.size A us) (hq : Pts w w.heap.size A' vs) (h1 : 1 ≤ us.length) (h16 : us.length ≤ 16) (hlen : us.length = vs.length) :
    Calls Tryd.prog 21 #[.agg #[.slice A us.length c, .slice A' vs.length c']] w fun e w' => e = .returned (.string (str (T.boxText us vs))) ∧ Below w.heap.size w w' := by
  have hl1 := T.ptText_len us hp.ok
  have hl2 := T.ptText_len vs hq.ok
  have h2 : 1 ≤ vs.length := by omega
  have h26 : vs.length ≤ 16 := by omega
  clear hlen
  obtain ⟨X, hX⟩ : ∃ X, T.ptText us = X := ⟨_, rfl⟩
  obtain ⟨Y, hY⟩ : ∃ Y, T.ptText vs = Y := ⟨_, rfl⟩
  rw [hX] at hl1
  rw [hY] at hl2
  have n1 : ¬ (9223372036854775807 < X.length + 2) := by omega
  have n2 : ¬ (9223372036854775807 < X.length + 2 + Y.length) := by omega
  have hres : Hid (Ending.returned (.string (str X ++ ⟨#[46, 46]⟩ ++ str Y)) = .returned (.string (str (T.boxText us vs)))) := by
    show _ = _
    have e : (⟨#[46, 46]⟩ : ByteArray) = str T.dots := rfl
    rw [e, str_app, str_app, ← hX, ← hY]
    rfl
  have HX := Lib.hid hX
  have HY := Lib.hid hY
  clear hX hY
  go_enter Tryd.func21, Tryd.ntmps21
  go_wp2
  have hH := Held.alloc w (.cells #[.slice A us.length c, .slice A' vs.length c'] 31)
  have hc0 : (w.alloc (.cells #[.slice A us.length c, .slice A' vs.length c'] 31)).cell? ⟨w.heap.size, 0, none⟩ = some (.slice A us.length c) := by rw [World.cell?_alloc_new]; rfl
  have hc1 : (w.alloc (.cells #[.slice A us.length c, .slice A' vs.length c'] 31)).cell? ⟨w.heap.size, 1, none⟩ = some (.slice A' vs.length c') := by rw [World.cell?_alloc_new]; rfl
  generalize (w.alloc (.cells #[.slice A us.length c, .slice A' vs.length c'] 31)) = W at *
  have hc0' : W.drew.cell? ⟨w.heap.size, 0, none⟩ = some (.slice A us.length c) := hc0
  have hc1' : W.drew.cell? ⟨w.heap.size, 1, none⟩ = some (.slice A' vs.length c') := hc1
  have hH' := hH.drew
  go_region_held3 (fun w' => w'.cell? ⟨w.heap.size, 0, none⟩ = some (.slice A us.length c) ∧ w'.cell? ⟨w.heap.size, 1, none⟩ = some (.slice A' vs.length c') ∧ Held w w')
    (first | exact ⟨hc0', hc1', hH'⟩ | exact ⟨hc0, hc1, hH⟩ | exact ⟨hc0, hc1, hH.drew⟩ | exact ⟨by assumption, by assumption, by assumption⟩)
    (first
      | (go_at_call 20; with_reducible (refine (rpoint_held A A' us.length c vs.length c' A c us w _ hp h1 h16 (by assumption) (by assumption) (by assumption)).mono ?_); rintro e w' ⟨rfl, k0, k1, kh⟩; rw [HX.out])
      | (go_at_call 20; with_reducible (refine (rpoint_held A A' us.length c vs.length c' A' c' vs w _ hq h2 h26 (by assumption) (by assumption) (by assumption)).mono ?_); rintro e w' ⟨rfl, k0, k1, kh⟩; rw [HY.out]))
  all_goals
    rename_i hS
    go_wp2
    go_ret
    exact ⟨hres.out, hS.2.2.1⟩
end Go.Proofs.YtkhfjcaobjompaaDoor
