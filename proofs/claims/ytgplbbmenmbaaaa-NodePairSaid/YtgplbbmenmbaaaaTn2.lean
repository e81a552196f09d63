/-
  CONTRACTS of package node, second part: together, sumsOf, having.
-/
import Derived.Test.YtgplbbmenmbaaaaTn1
import Derived.Deep.RegionHeld3
import Derived.Deep.Cut
import Derived.BigQuiet
import Derived.Deep.RegionLaw
namespace Go.Proofs.Ytgplbbmenmbaaaa
open Go.ChangeShapes Go.WideShapes Go.ChangeAt Go.RowKit
open Tr (T S4)

set_option maxRecDepth 100000 in
theorem together_zero (a b : S4) (w : World) (h : a.c = 0) :
    Calls Try.prog 47 #[sumsV a, sumsV b] w fun e w' => e = .returned (sumsV (Tr.tog a b)) ∧ Below w.heap.size w w' := by
  have h1 : ((a.c : Int) == 0) = true := by rw [beq_iff_eq]; omega
  have ht : Hid (Tr.tog a b = b) := Lib.hid (by simp [Tr.tog, h])
  obtain ⟨b0, b1, b2, b3⟩ := b
  obtain ⟨a0, a1, a2, a3⟩ := a
  simp only at h1 ht
  clear h
  go_enter Try.func47, Try.ntmps47
  go_wp2
  refine bodyPost_ret (v := sumsV ⟨b0, b1, b2, b3⟩) (by simp [results, Try.results47, go_sem, sumsV]) rfl ?_
  exact ⟨by rw [ht.out], by ((repeat (first | refine Below.drew ?_ | (with_reducible refine below_drewN _ ?_) | refine Below.alloc ?_ (by first | omega | (simp; done) | (simp; omega)) _ | refine Below.setCell ?_ (by first | omega | (simp; done) | (simp; omega)) _)); first | exact Below.refl _ _ | assumption | exact below_drewN _ (Below.refl _ _) | exact below_drewN _ (below_drewN _ (Below.refl _ _)))⟩
set_option maxRecDepth 100000 in
theorem together_two (a b : S4) (w : World) (ha : a.c ≠ 0) (hb : b.c ≠ 0) (hc : a.c + b.c < 18446744073709551616) :
    Calls Try.prog 47 #[sumsV a, sumsV b] w fun e w' => e = .returned (sumsV (Tr.tog a b)) ∧ Below w.heap.size w w' := by
  have h1 : ((a.c : Int) == 0) = false := by rw [beq_eq_false_iff_ne]; omega
  have e1 : IntKind.u64.wrap ((a.c : Int) + (b.c : Int)) = ((a.c + b.c : Nat) : Int) := by rw [IntKind.wrap_u64]; omega
  have e2 : IntKind.u64.wrap ((a.s : Int) + (b.s : Int)) = (((a.s + b.s) % 18446744073709551616 : Nat) : Int) := by rw [IntKind.wrap_u64]; omega
  have ht : Hid (Tr.tog a b = ⟨a.c + b.c, (a.s + b.s) % 18446744073709551616, min a.lo b.lo, max a.hi b.hi⟩) := Lib.hid (by simp [Tr.tog, ha, hb])
  obtain ⟨b0, b1, b2, b3⟩ := b
  obtain ⟨a0, a1, a2, a3⟩ := a
  simp only at h1 ht e1 e2
  clear ha hb hc
  have H := Lib.hid (And.intro e1 e2)
  clear e1 e2

  go_enter Try.func47, Try.ntmps47
  go_wp2
  refine bodyPost_ret (v := sumsV ⟨a0 + b0, (a1 + b1) % 18446744073709551616, min a2 b2, max a3 b3⟩) (by simp [results, Try.results47, go_sem, sumsV, H.out.1, H.out.2]; refine ⟨by omega, by omega⟩) rfl ?_
  exact ⟨by rw [ht.out], by ((repeat (first | refine Below.drew ?_ | (with_reducible refine below_drewN _ ?_) | refine Below.alloc ?_ (by first | omega | (simp; done) | (simp; omega)) _ | refine Below.setCell ?_ (by first | omega | (simp; done) | (simp; omega)) _)); first | exact Below.refl _ _ | assumption | exact below_drewN _ (Below.refl _ _) | exact below_drewN _ (below_drewN _ (Below.refl _ _)))⟩
/-- the sums of two nodes -/
theorem together_c (a b : S4) (w : World) (hb : b.c ≠ 0) (hc : a.c + b.c < 18446744073709551616) :
    Calls Try.prog 47 #[sumsV a, sumsV b] w fun e w' => e = .returned (sumsV (Tr.tog a b)) ∧ Below w.heap.size w w' := by
  by_cases ha : a.c = 0
  · exact together_zero a b w ha
  · exact together_two a b w ha hb hc
/-! ### having -/
theorem nd_at {w : World} {B B' g : Nat} {A : Option Addr} {c : Nat} {lev : Int} {pre : List Nat} {v : Nat} {kp : Option Addr} {a0 a1 a2 a3 : Nat} {t : TypeId} (hp : Pts w B A pre)
    (h : w.heap[g]? = some (.cells #[.int .i64 lev, .slice A pre.length c, .int .u64 (v : Int), .pointer kp, .int .u64 (a0 : Int), .int .u64 (a1 : Int), .int .u64 (a2 : Int), .int .u64 (a3 : Int)] t (0, 0))) (hB : B ≤ B') (hg : g < B') : NdAt w B' g lev pre v kp ⟨a0, a1, a2, a3⟩ := by
  refine ⟨hg, ⟨A, c, hp.keep hB (fun _ _ => rfl), ?_⟩, ?_, ?_, ?_, ?_, ?_, ?_, ?_⟩ <;> (rw [cell_of_row w g _ _ t (0, 0) h]; rfl)
set_option maxRecDepth 100000 in
theorem having_c {w : World} {B g : Nat} {lev : Int} {pre : List Nat} {v : Nat} {kp : Option Addr} {s : S4} (h : NdAt w B g lev pre v kp s) (hB : B ≤ w.heap.size) (kp' : Option Addr) (s' : S4) :
    Calls Try.prog 46 #[.pointer (some ⟨g, 0, none⟩), .pointer kp', sumsV s'] w fun e w' => ∃ g', e = .returned (.pointer (some ⟨g', 0, none⟩)) ∧ NdAt w' w'.heap.size g' lev pre 0 kp' s' ∧ w.heap.size ≤ g' ∧ Below w.heap.size w w' := by
  obtain ⟨hg, ⟨A, c, hp, h1⟩, h0, h2, h3, h4⟩ := h
  have hgw : g < w.heap.size := by omega
  have HP := Lib.hid hp
  clear hp h4
  obtain ⟨s0, s1, s2, s3⟩ := s'

  go_enter Try.func46, Try.ntmps46
  go_wp2_with fail
  go_region
  all_goals go_wp2_with fail
  all_goals go_ret
  all_goals refine ⟨_, rfl, nd_at (HP.out.below' (C := w.heap.size) (by ((repeat (first | refine Below.drew ?_ | (with_reducible refine below_drewN _ ?_) | refine Below.alloc ?_ (by first | omega | (simp; done) | (simp; omega)) _ | refine Below.setCell ?_ (by first | omega | (simp; done) | (simp; omega)) _)); first | exact Below.refl _ _ | assumption | exact below_drewN _ (Below.refl _ _) | exact below_drewN _ (below_drewN _ (Below.refl _ _)))) hB) (v := 0) (by (first | (refine heap_at _ _ _ ?_; simp; done) | (refine heap_past _ (heap_at _ _ _ ?_); simp; done) | (refine heap_past _ (heap_past _ (heap_at _ _ _ ?_)); simp; done) | (refine heap_past _ (heap_past _ (heap_past _ (heap_at _ _ _ ?_))); simp; done))) (by (first | omega | (simp; done) | (simp; omega))) (by (first | omega | (simp; done) | (simp; omega))), by omega, by ((repeat (first | refine Below.drew ?_ | (with_reducible refine below_drewN _ ?_) | refine Below.alloc ?_ (by first | omega | (simp; done) | (simp; omega)) _ | refine Below.setCell ?_ (by first | omega | (simp; done) | (simp; omega)) _)); first | exact Below.refl _ _ | assumption | exact below_drewN _ (Below.refl _ _) | exact below_drewN _ (below_drewN _ (Below.refl _ _)))⟩

/-! ### sumsOf -/
/-- the sums of nodes one behind the other -/
def togF (ss : List S4) : S4 := ss.foldl Tr.tog Tr.s0
theorem togF_take {ss : List S4} {j : Nat} {s : S4} (h : ss[j]? = some s) : togF (ss.take (j + 1)) = Tr.tog (togF (ss.take j)) s := by
  obtain ⟨hj, rfl⟩ := List.getElem?_eq_some_iff.1 h
  rw [List.take_succ_eq_append_getElem hj, togF, List.foldl_append]
  rfl
theorem togF_c (ss : List S4) : (togF ss).c = (ss.map (·.c)).sum := by
  have h : ∀ (ss : List S4) (a : S4), (ss.foldl Tr.tog a).c = a.c + (ss.map (·.c)).sum := by
    intro ss
    induction ss with
    | nil => simp
    | cons s ss ih => intro a; simp only [List.foldl_cons, List.map_cons, List.sum_cons]; rw [ih, Tr.tog_c]; omega
  rw [togF, h]
  simp [Tr.s0]
theorem sum_take_le : ∀ (l : List Nat) (j : Nat), (l.take j).sum ≤ l.sum
  | [], j => by simp
  | x :: l, 0 => by simp
  | x :: l, j + 1 => by have := sum_take_le l j; simp only [List.take_succ_cons, List.sum_cons]; omega
/-- nodes in memory of which the sums alone are of interest -/
def SumsAt (w : World) (B : Nat) (xs : List (Option Addr)) (ss : List S4) : Prop := xs.length = ss.length ∧ ∀ (i : Nat) (s : S4), ss[i]? = some s → s.c ≠ 0 ∧ ∃ g, xs[i]? = some (some ⟨g, 0, none⟩) ∧ g < B ∧ SumAt w g s
theorem SumsAt.below {w w' : World} {B C : Nat} {xs : List (Option Addr)} {ss : List S4} (h : SumsAt w B xs ss) (hb : Below C w w') (hC : B ≤ C) : SumsAt w' B xs ss :=
  ⟨h.1, fun i s hs => by obtain ⟨h0, g, h1, h2, h3⟩ := h.2 i s hs; exact ⟨h0, g, h1, h2, h3.below hb (by omega)⟩⟩
/-- block g holds four numbers, and may be written -/
def Q4 (w : World) (g : Nat) (s : S4) : Prop :=
  (w.cell? ⟨g, 0, none⟩ = some (.int .u64 (s.c : Int)) ∧ w.cell? ⟨g, 1, none⟩ = some (.int .u64 (s.s : Int)) ∧ w.cell? ⟨g, 2, none⟩ = some (.int .u64 (s.lo : Int)) ∧ w.cell? ⟨g, 3, none⟩ = some (.int .u64 (s.hi : Int))) ∧
    (w.frozen? ⟨g, 0, none⟩ = false ∧ w.frozen? ⟨g, 1, none⟩ = false ∧ w.frozen? ⟨g, 2, none⟩ = false ∧ w.frozen? ⟨g, 3, none⟩ = false) ∧ g < w.heap.size
theorem q4_at {w : World} {g a b c d : Nat} {t : TypeId} (h : w.heap[g]? = some (.cells #[.int .u64 (a : Int), .int .u64 (b : Int), .int .u64 (c : Int), .int .u64 (d : Int)] t (0, 0))) : Q4 w g ⟨a, b, c, d⟩ := by
  refine ⟨⟨?_, ?_, ?_, ?_⟩, ⟨?_, ?_, ?_, ?_⟩, (Array.getElem?_eq_some_iff.1 h).1⟩
  · rw [cell_of_row w g _ _ t (0, 0) h]; rfl
  · rw [cell_of_row w g _ _ t (0, 0) h]; rfl
  · rw [cell_of_row w g _ _ t (0, 0) h]; rfl
  · rw [cell_of_row w g _ _ t (0, 0) h]; rfl
  all_goals exact frozen_of_row w g _ _ t h
theorem Q4.below {w w' : World} {C g : Nat} {s : S4} (h : Q4 w g s) (hb : Below C w w') (hg : g < C) : Q4 w' g s :=
  ⟨⟨(hb.cell (p := ⟨g, 0, none⟩) hg).trans h.1.1, (hb.cell (p := ⟨g, 1, none⟩) hg).trans h.1.2.1, (hb.cell (p := ⟨g, 2, none⟩) hg).trans h.1.2.2.1, (hb.cell (p := ⟨g, 3, none⟩) hg).trans h.1.2.2.2⟩,
    ⟨(hb.frozen (p := ⟨g, 0, none⟩) hg).trans h.2.1.1, (hb.frozen (p := ⟨g, 1, none⟩) hg).trans h.2.1.2.1, (hb.frozen (p := ⟨g, 2, none⟩) hg).trans h.2.1.2.2.1, (hb.frozen (p := ⟨g, 3, none⟩) hg).trans h.2.1.2.2.2⟩, Nat.lt_of_lt_of_le h.2.2 hb.size⟩
theorem Q4.other {w : World} {g : Nat} {s : S4} (h : Q4 w g s) (a : Addr) (v : Value) (ha : a.block ≠ g) : Q4 (w.setCell a v) g s := by
  have e : ∀ i, (w.setCell a v).cell? ⟨g, i, none⟩ = w.cell? ⟨g, i, none⟩ := fun i => World.cell?_setCell_other _ _ _ _ (by rintro rfl; exact ha rfl)
  have f : ∀ i, (w.setCell a v).frozen? ⟨g, i, none⟩ = w.frozen? ⟨g, i, none⟩ := fun i => World.frozen?_setCell _ _ _ _
  exact ⟨⟨(e 0).trans h.1.1, (e 1).trans h.1.2.1, (e 2).trans h.1.2.2.1, (e 3).trans h.1.2.2.2⟩, ⟨(f 0).trans h.2.1.1, (f 1).trans h.2.1.2.1, (f 2).trans h.2.1.2.2.1, (f 3).trans h.2.1.2.2.2⟩, by simpa using h.2.2⟩
theorem Q4.set {w : World} {g : Nat} {s : S4} (h : Q4 w g s) (a b c d : Nat) :
    Q4 ((((w.setCell ⟨g, 0, none⟩ (.int .u64 (a : Int))).setCell ⟨g, 1, none⟩ (.int .u64 (b : Int))).setCell ⟨g, 2, none⟩ (.int .u64 (c : Int))).setCell ⟨g, 3, none⟩ (.int .u64 (d : Int))) g ⟨a, b, c, d⟩ := by
  obtain ⟨⟨h0, h1, h2, h3⟩, ⟨f0, f1, f2, f3⟩, hs⟩ := h
  have e : ∀ (w : World) (v : Value) (i j : Nat), i ≠ j → (w.setCell ⟨g, i, none⟩ v).cell? ⟨g, j, none⟩ = w.cell? ⟨g, j, none⟩ := fun w v i j hij => World.cell?_setCell_other _ _ _ _ (by first | (simp; done) | (simp; omega))
  have f : ∀ (w : World) (v : Value) (i j : Nat), (w.setCell ⟨g, i, none⟩ v).frozen? ⟨g, j, none⟩ = w.frozen? ⟨g, j, none⟩ := fun w v i j => World.frozen?_setCell _ _ _ _
  refine ⟨⟨?_, ?_, ?_, ?_⟩, ⟨by rw [f, f, f, f]; exact f0, by rw [f, f, f, f]; exact f1, by rw [f, f, f, f]; exact f2, by rw [f, f, f, f]; exact f3⟩, by simpa using hs⟩
  · rw [e _ _ 3 0 (by omega), e _ _ 2 0 (by omega), e _ _ 1 0 (by omega)]; exact World.cell?_setCell_same _ _ _ h0
  · rw [e _ _ 3 1 (by omega), e _ _ 2 1 (by omega)]; exact World.cell?_setCell_same _ _ _ ((e _ _ 0 1 (by omega)).trans h1)
  · rw [e _ _ 3 2 (by omega)]; exact World.cell?_setCell_same _ _ _ ((e _ _ 1 2 (by omega)).trans ((e _ _ 0 2 (by omega)).trans h2))
  · exact World.cell?_setCell_same _ _ _ ((e _ _ 2 3 (by omega)).trans ((e _ _ 1 3 (by omega)).trans ((e _ _ 0 3 (by omega)).trans h3)))
set_option maxRecDepth 100000 in
set_option maxHeartbeats 2000000 in
theorem sumsOf_c {w : World} {B : Nat} {A : Option Addr} {c : Nat} {xs : List (Option Addr)} {ss : List S4} (hx : RdV w B A (Sn.elV xs)) (hs : SumsAt w B xs ss) (hB : B ≤ w.heap.size) (hc : (togF ss).c < 18446744073709551616) (hl : xs.length ≤ maxLen) :
    Calls Try.prog 48 #[.slice A xs.length c] w fun e w' => e = .returned (sumsV (togF ss)) ∧ Below w.heap.size w w' := by
  have HX := Lib.hid (And.intro hx (And.intro hs hc))
  have Hl := Lib.hid hs.1
  have Hm := Lib.hid hl
  unfold maxLen at hl
  clear hx hs hc
  go_enter Try.func48, Try.ntmps48
  go_wp2_with fail
  have B0 : Hid (Below w.heap.size w ((w.alloc (.cells #[.int .u64 0, .int .u64 0, .int .u64 0, .int .u64 0] 56)).alloc (.cells #[.int .u64 0, .int .u64 0, .int .u64 0, .int .u64 0] 56))) := Lib.hid (by ((repeat (first | refine Below.drew ?_ | (with_reducible refine below_drewN _ ?_) | refine Below.alloc ?_ (by first | omega | (simp; done) | (simp; omega)) _ | refine Below.setCell ?_ (by first | omega | (simp; done) | (simp; omega)) _)); first | exact Below.refl _ _ | assumption | exact below_drewN _ (Below.refl _ _) | exact below_drewN _ (below_drewN _ (Below.refl _ _))))
  have G0 := Lib.hid (q4_at (w := ((w.alloc (.cells #[.int .u64 0, .int .u64 0, .int .u64 0, .int .u64 0] 56)).alloc (.cells #[.int .u64 0, .int .u64 0, .int .u64 0, .int .u64 0] 56))) (g := w.heap.size) (a := 0) (b := 0) (c := 0) (d := 0) (t := 56) (by (first | (refine heap_at _ _ _ ?_; simp; done) | (refine heap_past _ (heap_at _ _ _ ?_); simp; done) | (refine heap_past _ (heap_past _ (heap_at _ _ _ ?_)); simp; done) | (refine heap_past _ (heap_past _ (heap_past _ (heap_at _ _ _ ?_))); simp; done))))
  have G1 := Lib.hid (q4_at (w := ((w.alloc (.cells #[.int .u64 0, .int .u64 0, .int .u64 0, .int .u64 0] 56)).alloc (.cells #[.int .u64 0, .int .u64 0, .int .u64 0, .int .u64 0] 56))) (g := w.heap.size + 1) (a := 0) (b := 0) (c := 0) (d := 0) (t := 56) (by (first | (refine heap_at _ _ _ ?_; simp; done) | (refine heap_past _ (heap_at _ _ _ ?_); simp; done) | (refine heap_past _ (heap_past _ (heap_at _ _ _ ?_)); simp; done) | (refine heap_past _ (heap_past _ (heap_past _ (heap_at _ _ _ ?_))); simp; done))))
  go_loopw [8] (fun i wr => ∃ j : Nat, j ≤ xs.length ∧ i = .int .i64 j ∧ Q4 wr w.heap.size Tr.s0 ∧ Q4 wr (w.heap.size + 1) (togF (ss.take j)) ∧ Below w.heap.size w wr) (fun i _ => xs.length - (intOf i).toNat)
  case atStart => exact ⟨0, Nat.zero_le _, rfl, G0.out, G1.out, B0.out⟩
  case round =>
    clear B0 G0 G1
    obtain ⟨j, hj, rfl, hr0, hr1, hrb⟩ := hrel
    by_cases hlt : j < xs.length
    · obtain ⟨s, hs⟩ := get_lt (show j < ss.length by rw [← Hl.out]; exact hlt)
      obtain ⟨hsc, g, hxj, hgB, hsg⟩ := HX.out.2.1.2 j s hs
      obtain ⟨pb, po, hAA, hpb, hcell⟩ := HX.out.1.at (Sn.elV_get hxj)
      subst hAA
      have hgw : g < wr.heap.size := by have := hrb.size; omega
      have hpw : pb < wr.heap.size := by have := hrb.size; omega
      have hcr : wr.cell? ⟨pb, po + j, none⟩ = some (.pointer (some ⟨g, 0, none⟩)) := (hrb.cell (p := ⟨pb, po + j, none⟩) (by show pb < _; omega)).trans hcell
      have hsr := hsg.below hrb (by omega)
      have hz := hr1.2.2
      have q0 : ∀ w', Below wr.heap.size wr w' → w'.cell? ⟨w.heap.size + 1, 0, none⟩ = some (.int .u64 ((togF (ss.take j)).c : Int)) := fun w' hb => (hr1.below hb hz).1.1
      have q1 : ∀ w', Below wr.heap.size wr w' → w'.cell? ⟨w.heap.size + 1, 1, none⟩ = some (.int .u64 ((togF (ss.take j)).s : Int)) := fun w' hb => (hr1.below hb hz).1.2.1
      have q2 : ∀ w', Below wr.heap.size wr w' → w'.cell? ⟨w.heap.size + 1, 2, none⟩ = some (.int .u64 ((togF (ss.take j)).lo : Int)) := fun w' hb => (hr1.below hb hz).1.2.2.1
      have q3 : ∀ w', Below wr.heap.size wr w' → w'.cell? ⟨w.heap.size + 1, 3, none⟩ = some (.int .u64 ((togF (ss.take j)).hi : Int)) := fun w' hb => (hr1.below hb hz).1.2.2.2
      have f0 : ∀ w', Below wr.heap.size wr w' → w'.frozen? ⟨w.heap.size + 1, 0, none⟩ = false := fun w' hb => (hr1.below hb hz).2.1.1
      have f1 : ∀ w', Below wr.heap.size wr w' → w'.frozen? ⟨w.heap.size + 1, 1, none⟩ = false := fun w' hb => (hr1.below hb hz).2.1.2.1
      have f2 : ∀ w', Below wr.heap.size wr w' → w'.frozen? ⟨w.heap.size + 1, 2, none⟩ = false := fun w' hb => (hr1.below hb hz).2.1.2.2.1
      have f3 : ∀ w', Below wr.heap.size wr w' → w'.frozen? ⟨w.heap.size + 1, 3, none⟩ = false := fun w' hb => (hr1.below hb hz).2.1.2.2.2
      have n0 : ∀ w', Below wr.heap.size wr w' → w'.cell? ⟨g, 4, none⟩ = some (.int .u64 (s.c : Int)) := fun w' hb => (hsr.below hb hgw).1
      have n1 : ∀ w', Below wr.heap.size wr w' → w'.cell? ⟨g, 5, none⟩ = some (.int .u64 (s.s : Int)) := fun w' hb => (hsr.below hb hgw).2.1
      have n2 : ∀ w', Below wr.heap.size wr w' → w'.cell? ⟨g, 6, none⟩ = some (.int .u64 (s.lo : Int)) := fun w' hb => (hsr.below hb hgw).2.2.1
      have n3 : ∀ w', Below wr.heap.size wr w' → w'.cell? ⟨g, 7, none⟩ = some (.int .u64 (s.hi : Int)) := fun w' hb => (hsr.below hb hgw).2.2.2
      have HC : Hid ((togF (ss.take j)).c + s.c < 18446744073709551616 ∧ s.c ≠ 0) := Lib.hid ⟨by
        have h1 := togF_take hs
        have h2 : (togF (ss.take (j + 1))).c = (togF (ss.take j)).c + s.c := by rw [h1, Tr.tog_c]
        have h3 := togF_c (ss.take (j + 1))
        have h4 := togF_c ss
        have h5 := sum_take_le (ss.map (·.c)) (j + 1)
        rw [← List.map_take] at h5
        have := HX.out.2.2
        omega, hsc⟩
      have HR := Lib.hid (And.intro hr0 (And.intro hr1 hrb))
      have HT := Lib.hid (togF_take hs)
      have hb0 : Below wr.heap.size wr wr := Below.refl _ _
      have hb1 : Below wr.heap.size wr wr.drew := (Below.refl _ _).drew
      clear hr0 hr1 hrb hsr hsg hs hsc hxj hcell
      go_wp2_with fail
      go_region_with ((go_at_call 47; refine (together_c (togF (ss.take j)) s _ HC.out.2 HC.out.1).mono ?_; rintro e w3 ⟨rfl, hb3⟩; have hB3 := Below.andThen (show Below wr.heap.size wr _ by ((repeat (first | refine Below.drew ?_ | (with_reducible refine below_drewN _ ?_) | refine Below.alloc ?_ (by first | omega | (simp; done) | (simp; omega)) _ | refine Below.setCell ?_ (by first | omega | (simp; done) | (simp; omega)) _)); first | exact Below.refl _ _ | assumption | exact below_drewN _ (Below.refl _ _) | exact below_drewN _ (below_drewN _ (Below.refl _ _)))) hb3; clear hb3; have k0 := q0 _ hB3; have k1 := q1 _ hB3; have k2 := q2 _ hB3; have k3 := q3 _ hB3; have k4 := f0 _ hB3; have k5 := f1 _ hB3; have k6 := f2 _ hB3; have k7 := f3 _ hB3))
      all_goals (
        have HB := Lib.hid hB3
        clear q0 q1 q2 q3 f0 f1 f2 f3 n0 n1 n2 n3 k0 k1 k2 k3 k4 k5 k6 k7 hB3 hb0 hb1
        go_wp2_with fail
        go_roundw
        case rel =>
          have h1 := (HR.out.2.1.below HB.out hz).set (Tr.tog (togF (ss.take j)) s).c (Tr.tog (togF (ss.take j)) s).s (Tr.tog (togF (ss.take j)) s).lo (Tr.tog (togF (ss.take j)) s).hi
          have h0 := ((((HR.out.1.below HB.out (by omega)).other ⟨w.heap.size + 1, 0, none⟩ (.int .u64 ((Tr.tog (togF (ss.take j)) s).c : Int)) (by simp)).other ⟨w.heap.size + 1, 1, none⟩ (.int .u64 ((Tr.tog (togF (ss.take j)) s).s : Int)) (by simp)).other ⟨w.heap.size + 1, 2, none⟩ (.int .u64 ((Tr.tog (togF (ss.take j)) s).lo : Int)) (by simp)).other ⟨w.heap.size + 1, 3, none⟩ (.int .u64 ((Tr.tog (togF (ss.take j)) s).hi : Int)) (by simp)
          have h2 := HR.out.2.2.trans (HB.out.mono HR.out.2.2.size)
          exact ⟨j + 1, by omega, by go_num, h0, by rw [HT.out]; exact h1, by ((repeat (first | refine Below.drew ?_ | (with_reducible refine below_drewN _ ?_) | refine Below.alloc ?_ (by first | omega | (simp; done) | (simp; omega)) _ | refine Below.setCell ?_ (by first | omega | (simp; done) | (simp; omega)) _)); first | exact Below.refl _ _ | assumption | exact below_drewN _ (Below.refl _ _) | exact below_drewN _ (below_drewN _ (Below.refl _ _)))⟩
        case measure => simp [intOf]; omega)
    · have hjx : j = xs.length := by omega
      obtain ⟨⟨q0, q1, q2, q3⟩, -⟩ := hr1
      obtain ⟨⟨r0, r1, r2, r3⟩, ⟨f0, f1, f2, f3⟩, hz⟩ := hr0
      have HR := Lib.hid (And.intro hrb (show Q4 wr w.heap.size Tr.s0 from ⟨⟨r0, r1, r2, r3⟩, ⟨f0, f1, f2, f3⟩, hz⟩))
      have HT : Hid (togF (ss.take j) = togF ss) := Lib.hid (by rw [List.take_of_length_le (by rw [← Hl.out]; omega)])
      clear hrb hjx
      go_wp2_with fail
      have hq := (HR.out.2.set (togF (ss.take j)).c (togF (ss.take j)).s (togF (ss.take j)).lo (togF (ss.take j)).hi).1
      obtain ⟨k0, k1, k2, k3⟩ := hq
      refine bodyPost_ret (v := sumsV (togF (ss.take j))) (by simp [results, Try.results48, go_sem, k0, k1, k2, k3]) rfl ?_
      have hb := HR.out.1
      exact ⟨by rw [HT.out], by ((repeat (first | refine Below.drew ?_ | (with_reducible refine below_drewN _ ?_) | refine Below.alloc ?_ (by first | omega | (simp; done) | (simp; omega)) _ | refine Below.setCell ?_ (by first | omega | (simp; done) | (simp; omega)) _)); first | exact Below.refl _ _ | assumption | exact below_drewN _ (Below.refl _ _) | exact below_drewN _ (below_drewN _ (Below.refl _ _)))⟩
end Go.Proofs.Ytgplbbmenmbaaaa
