import Derived.Test.YtpgkfccfabnjdaaM06
import Derived.Test.YtpgkfccfabnjdaaM15
import Derived.Test.YtpgkfccfabnjdaaM14
/-
  PLAIN MATHEMATICS of layer 7: all nodes of a tree, each ahead of its kids; what is left of these on the way through (a stack); trees of the same entries have the same shapes.
-/
namespace Go.Proofs.Ytpgkfccfabnjdaa.Tr
open Go.Proofs.Ytpgkfccfabnjdaa.Z
open Go.Proofs.Ytpgkfccfabnjdaa (kidL levI denseT)

/-! ### all nodes -/
def T.all (t : T) : List T :=
  match t with
  | .ent g p v => [.ent g p v]
  | .br g l pre ks => .br g l pre ks :: ks.attach.flatMap fun x => T.all x.1.2
termination_by SizeOf.sizeOf t
decreasing_by
  have := kid_lt x.2 g l pre
  simpa using this
def allK (ks : List (Nat × T)) : List T := ks.flatMap fun x => x.2.all
/-! ### what is left on the way through -/
def rest : List (T × Nat) → List T
  | [] => []
  | (t, n) :: S => allK (t.ks.drop (Sl.idx t.ks (n : Int))) ++ rest S
/-! ### shapes -/
structure Shp where
  lev : Int
  pre : List Nat
  ks : List Nat
  dn : Bool
  val : Nat
/-! ### trees of the same entries -/
end Go.Proofs.Ytpgkfccfabnjdaa.Tr

/-
  ROWS OF SHAPES in memory ('ShQ'), rows of wide elements that are cut or written to, and scopes that are gone through again and again ('wp_scope_count').
-/
namespace Go.Proofs.Ytpgkfccfabnjdaa
open Go.ChangeShapes Go.WideShapes Go.ChangeAt Go.RowKit
open Tr (T S4 Ent Shp)

/-! ### a scope that counts -/
/-! ### rows of wide elements: cut, written to -/
variable {α : Type} {n : Nat} {Q Q' : (Nat → Option Value) → α → Prop}
theorem LCells.take {vs : List Value} {L : List α} (hQ : QOk n Q) (h : LCells n Q vs L) (i : Nat) (hi : i ≤ L.length) : LCells n Q (vs.take (i * n)) (L.take i) := by
  have hm : i * n ≤ L.length * n := Nat.mul_le_mul_right n hi
  refine ⟨by rw [List.length_take, List.length_take, h.1, Nat.min_eq_left hm, Nat.min_eq_left hi], fun j a ha => ?_⟩
  have hj : j < i := by have := lt_get ha; simp at this; omega
  rw [List.getElem?_take_of_lt hj] at ha
  refine hQ.ext _ _ _ (fun q hq => ?_) (h.2 j a ha)
  have h1 : j * n + q < i * n := idx_lt hj hq
  rw [List.getElem?_take_of_lt h1]
theorem OwnL.take {e : TypeId} {w : World} {base m c : Nat} {A : Option Addr} {L : List α} (hQ : QOk n Q) (h : OwnL e n Q w base (.slice A m c) L) (i : Nat) (hi : i ≤ L.length) : OwnL e n Q w base (.slice A i c) (L.take i) := by
  obtain ⟨vs, h1, h2⟩ := h
  have hm : i * n ≤ L.length * n := Nat.mul_le_mul_right n hi
  refine ⟨vs.take (i * n), h1.take hQ i hi, by rw [List.length_take, List.length_take, h1.1, Nat.min_eq_left hm, Nat.min_eq_left hi], ?_⟩
  rw [List.length_take, Nat.min_eq_left hi]
  rcases h2.2 with ⟨hv, hn⟩ | ⟨g, cap, cur, hv, hg, hh, hnc, hcm, hsz, hcur⟩
  · cases hv
    exact .inl ⟨by rw [show i = 0 by omega], by omega⟩
  · cases hv
    refine .inr ⟨g, c, cur, rfl, hg, hh, by omega, hcm, hsz, ?_⟩
    rw [← hcur, List.take_take, Nat.min_eq_left hm]
theorem OwnL.set {e : TypeId} {w : World} {base m c : Nat} {A : Option Addr} {L : List α} (h : OwnL e n Q w base (.slice A m c) L) {i j : Nat} {x : α} {u : Value} (hQ : QOk n Q) (hi : i < L.length) (hj : j < n)
    (hx : ∀ f a, L[i]? = some a → Q f a → Q (fun q => if q = j then some u else f q) x) :
    ∃ g, A = some ⟨g, 0, none⟩ ∧ OwnL e n Q (w.setCell ⟨g, i * n + j, none⟩ u) base (.slice A m c) (L.set i x) := by
  obtain ⟨vs, h1, h2⟩ := h
  rcases h2.2 with ⟨hv, hn⟩ | ⟨g, cap, cur, hv, hg, hh, hnc, hcm, hsz, hcur⟩
  · omega
  · cases hv
    have hlt : i * n + j < L.length * n := idx_lt hi hj
    have hlv : i * n + j < vs.length := by rw [h1.1]; exact hlt
    have hls : (L.set i x).length = L.length := List.length_set
    refine ⟨g, rfl, ⟨vs.set (i * n + j) u, ⟨by rw [List.length_set, hls]; exact h1.1, fun k a ha => ?_⟩, by rw [List.length_set, hls]; exact h2.1, ?_⟩⟩
    · by_cases hki : k = i
      · subst hki
        rw [List.getElem?_set_self hi] at ha
        cases ha
        refine hQ.ext _ _ _ (fun q hq => ?_) (hx _ _ (List.getElem?_eq_getElem hi) (h1.2 k _ (List.getElem?_eq_getElem hi)))
        by_cases hqj : q = j
        · subst hqj
          rw [if_pos rfl, List.getElem?_set_self hlv]
        · rw [if_neg hqj, List.getElem?_set_ne (by omega)]
      · rw [List.getElem?_set_ne (fun e => hki e.symm)] at ha
        refine hQ.ext _ _ _ (fun q hq => ?_) (h1.2 k a ha)
        have hne : i * n + j ≠ k * n + q := fun e => by
          have e1 : (i * n + j) / n = i := by rw [Nat.mul_comm, Nat.mul_add_div (by omega), Nat.div_eq_of_lt hj, Nat.add_zero]
          have e2 : (k * n + q) / n = k := by rw [Nat.mul_comm, Nat.mul_add_div (by omega), Nat.div_eq_of_lt hq, Nat.add_zero]
          rw [e] at e1
          exact hki (e2.symm.trans e1)
        rw [List.getElem?_set_ne hne]
    · rw [hls]
      refine .inr ⟨g, c, cur.setIfInBounds (i * n + j) u, rfl, hg, heap_setCell_same w g (i * n + j) cur e u hh, hnc, hcm, by simpa using hsz, ?_⟩
      rw [Array.toList_setIfInBounds, List.take_set, hcur]

/-! ### rows of shapes -/
end Go.Proofs.Ytpgkfccfabnjdaa
