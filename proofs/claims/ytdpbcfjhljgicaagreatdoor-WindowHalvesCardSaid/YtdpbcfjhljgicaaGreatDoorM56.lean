import Derived.Test.YtdpbcfjhljgicaaGreatDoorM55
import Derived.Test.YtdpbcfjhljgicaaGreatDoorM52
import Derived.Test.YtdpbcfjhljgicaaGreatDoorM24
import Derived.Test.YtdpbcfjhljgicaaGreatDoorM28
/-
  PLAIN MATHEMATICS of layer 9, second part: to which kid the guide goes next.
-/
namespace Go.Proofs.YtdpbcfjhljgicaaGreatDoor
open Go.ChangeShapes
open Tr (T S4 Ent)

/-- the kids at addresses that a mask leaves, beyond an address -/
def bey (k l h : Nat) (ks : List (Nat × T)) (a : Int) : List (Nat × T) := ks.filter fun x => decide (a < (x.1 : Int)) && Mk.has k l h x.1
theorem nextI_least {k l h : Nat} {a : Int} {n : Nat} (e : nextI k l h a = some n) : a < (n : Int) ∧ Mk.has k l h n = true ∧ ∀ m : Nat, a < (m : Int) → Mk.has k l h m = true → n ≤ m := by
  unfold nextI at e
  obtain ⟨h1, us, vs, h2, h3⟩ := List.find?_eq_some_iff_append.1 e
  refine ⟨by simpa using h1, Mk.mem_left.1 (by rw [h2]; simp), fun m hm hh => ?_⟩
  have hs := Mk.left_sorted k l h
  have hmem := Mk.mem_left.2 hh
  rw [h2] at hs hmem
  have h4 := (List.pairwise_append.1 hs).2.1
  rcases List.mem_append.1 hmem with c | c
  · have := h3 m c
    simp at this
    omega
  · rcases List.mem_cons.1 c with c | c
    · omega
    · have := (List.pairwise_cons.1 h4).1 m c
      omega
theorem nextI_none {k l h : Nat} {a : Int} (e : nextI k l h a = none) : ∀ m : Nat, a < (m : Int) → Mk.has k l h m = false := by
  intro m hm
  unfold nextI at e
  cases c : Mk.has k l h m
  · rfl
  · have := List.find?_eq_none.1 e m (Mk.mem_left.2 c)
    simp at this
    omega
theorem bey_stop {k l h : Nat} {ks : List (Nat × T)} {a : Int} (e : nextI k l h a = none) : bey k l h ks a = [] := by
  refine List.filter_eq_nil_iff.2 fun x _ => ?_
  by_cases c : a < (x.1 : Int)
  · simp [nextI_none e x.1 c]
  · simp [c]
theorem bey_end {k l h : Nat} {ks : List (Nat × T)} {a : Int} {n : Nat} (e : nextI k l h a = some n) (hk : ks[Sl.idx ks (n : Int)]? = none) : bey k l h ks a = [] := by
  refine List.filter_eq_nil_iff.2 fun x hx => ?_
  obtain ⟨j, hj⟩ := List.getElem?_of_mem hx
  have h1 : j < Sl.idx ks (n : Int) := by
    have := List.getElem?_eq_none_iff.1 hk
    have := (List.getElem?_eq_some_iff.1 hj).1
    omega
  have h2 := Sl.idx_below ks n j x h1 hj
  intro c
  simp only [Bool.and_eq_true, decide_eq_true_eq] at c
  have := (nextI_least e).2.2 x.1 c.1 c.2
  omega
theorem bey_kid {k l h : Nat} {ks : List (Nat × T)} (hs : Sl.Srt ks) {a : Int} {n : Nat} (e : nextI k l h a = some n) {x : Nat × T} (hk : ks[Sl.idx ks (n : Int)]? = some x) :
    bey k l h ks a = (if Mk.has k l h x.1 = true then [x] else []) ++ bey k l h ks (x.1 : Int) ∧ a < (x.1 : Int) := by
  obtain ⟨l1, l2, l3⟩ := nextI_least e
  have hax := Sl.idx_at ks n x hk
  have hlt := (List.getElem?_eq_some_iff.1 hk).1
  generalize hi : Sl.idx ks (n : Int) = i at *
  have hsplit : ks = ks.take i ++ x :: ks.drop (i + 1) := by
    have h1 := List.drop_eq_getElem_cons hlt
    rw [(List.getElem?_eq_some_iff.1 hk).2] at h1
    rw [← h1, List.take_append_drop]
  have hA : ∀ y ∈ ks.take i, (y.1 : Int) < n := fun y hy => by
    obtain ⟨j, hj⟩ := List.getElem?_of_mem hy
    have hji : j < i := by have := (List.getElem?_eq_some_iff.1 hj).1; simp at this; omega
    rw [List.getElem?_take_of_lt hji] at hj
    exact Sl.idx_below ks n j y (by omega) hj
  have hC : ∀ y ∈ ks.drop (i + 1), x.1 < y.1 := fun y hy => by
    rw [hsplit] at hs
    exact (List.pairwise_cons.1 (List.pairwise_append.1 hs).2.1).1 y hy
  refine ⟨?_, by omega⟩
  have hf1 : bey k l h (ks.take i) a = [] := List.filter_eq_nil_iff.2 fun y hy c => by
    simp only [Bool.and_eq_true, decide_eq_true_eq] at c
    have h1 := l3 y.1 c.1 c.2
    have h2 := hA y hy
    omega
  have hf2 : bey k l h (ks.take i) (x.1 : Int) = [] := List.filter_eq_nil_iff.2 fun y hy c => by
    simp only [Bool.and_eq_true, decide_eq_true_eq] at c
    have h2 := hA y hy
    omega
  have hf3 : bey k l h (ks.drop (i + 1)) a = bey k l h (ks.drop (i + 1)) (x.1 : Int) := List.filter_congr fun y hy => by
    have h2 := hC y hy
    have h3 : a < (y.1 : Int) := by omega
    have h4 : (x.1 : Int) < (y.1 : Int) := by omega
    simp only [decide_eq_true h3, decide_eq_true h4]
  have h5 : a < (x.1 : Int) := by omega
  have key : ∀ b : Int, bey k l h ks b = bey k l h (ks.take i) b ++ (if (decide (b < (x.1 : Int)) && Mk.has k l h x.1) = true then [x] else []) ++ bey k l h (ks.drop (i + 1)) b := fun b => by
    conv => lhs; rw [hsplit]
    unfold bey
    rw [List.filter_append, List.filter_cons]
    split <;> simp
  rw [key a, key (x.1 : Int), hf1, hf2, hf3, decide_eq_true h5, decide_eq_false (show ¬ (x.1 : Int) < (x.1 : Int) by omega)]
  simp
/-- how many kids are beyond an address -/
def byn (ks : List (Nat × T)) (a : Int) : Nat := (ks.filter fun x => decide (a < (x.1 : Int))).length
theorem byn_lt {ks : List (Nat × T)} {a : Int} {x : Nat × T} (hx : x ∈ ks) (h : a < (x.1 : Int)) : byn ks (x.1 : Int) < byn ks a := by
  unfold byn
  have h1 : (ks.filter fun y => decide ((x.1 : Int) < (y.1 : Int))) = (ks.filter fun y => decide (a < (y.1 : Int))).filter fun y => decide ((x.1 : Int) < (y.1 : Int)) := by
    rw [List.filter_filter]
    refine List.filter_congr fun y _ => ?_
    by_cases c : (x.1 : Int) < (y.1 : Int)
    · have : a < (y.1 : Int) := by omega
      simp [c, this]
    · simp [c]
  rw [h1]
  refine List.length_filter_lt_length_iff_exists.2 ⟨x, List.mem_filter.2 ⟨hx, by simpa using h⟩, by simp⟩
end Go.Proofs.YtdpbcfjhljgicaaGreatDoor

/-
  CONTRACTS of package window, second part: step.next.
-/
namespace Go.Proofs.YtdpbcfjhljgicaaGreatDoor
open Go.ChangeShapes Go.WideShapes Go.ChangeAt Go.RowKit
open Tr (T S4 Ent)

/-- a step in a row: the cells from 'off' on of block q -/
structure StepC (cs : Array Value) (off g k l h : Nat) (a : Int) (p : Option Addr) : Prop where
  c0 : cs[off]? = some (.pointer (some ⟨g, 0, none⟩))
  c1 : cs[off + 1]? = some (.int .i64 (k : Int))
  c2 : cs[off + 2]? = some (.int .i64 (l : Int))
  c3 : cs[off + 3]? = some (.int .i64 (h : Int))
  c4 : cs[off + 4]? = some (.int .i64 a)
  c5 : cs[off + 5]? = some (.pointer p)
/-- the step, when the guide has gone on in it -/
def stepTo (cs : Array Value) (off : Nat) (a : Int) (p : Option Addr) : Array Value := (cs.setIfInBounds (off + 4) (.int .i64 a)).setIfInBounds (off + 5) (.pointer p)
theorem StepC.to {cs : Array Value} {off g k l h : Nat} {a : Int} {p : Option Addr} (s : StepC cs off g k l h a p) (a' : Int) (p' : Option Addr) : StepC (stepTo cs off a' p') off g k l h a' p' := by
  have h4 := (Array.getElem?_eq_some_iff.1 s.c4).1
  have h5 := (Array.getElem?_eq_some_iff.1 s.c5).1
  unfold stepTo
  refine ⟨?_, ?_, ?_, ?_, ?_, ?_⟩
  · rw [Array.getElem?_setIfInBounds_ne (by omega), Array.getElem?_setIfInBounds_ne (by omega)]; exact s.c0
  · rw [Array.getElem?_setIfInBounds_ne (by omega), Array.getElem?_setIfInBounds_ne (by omega)]; exact s.c1
  · rw [Array.getElem?_setIfInBounds_ne (by omega), Array.getElem?_setIfInBounds_ne (by omega)]; exact s.c2
  · rw [Array.getElem?_setIfInBounds_ne (by omega), Array.getElem?_setIfInBounds_ne (by omega)]; exact s.c3
  · rw [Array.getElem?_setIfInBounds_ne (by omega), Array.getElem?_setIfInBounds_self_of_lt h4]
  · rw [Array.getElem?_setIfInBounds_self_of_lt (by simpa using h5)]
theorem stepTo_again (cs : Array Value) (off : Nat) (a a' : Int) (p p' : Option Addr) : stepTo (stepTo cs off a p) off a' p' = stepTo cs off a' p' := by
  unfold stepTo
  apply Array.ext_getElem?
  intro i
  simp only [Array.getElem?_setIfInBounds, Array.size_setIfInBounds]
  split <;> split <;> simp_all
theorem StepC.self {cs : Array Value} {off g k l h : Nat} {a : Int} {p : Option Addr} (s : StepC cs off g k l h a p) : stepTo cs off a p = cs := by
  have h4 := Array.getElem?_eq_some_iff.1 s.c4
  have h5 := Array.getElem?_eq_some_iff.1 s.c5
  unfold stepTo
  apply Array.ext_getElem?
  intro i
  simp only [Array.getElem?_setIfInBounds, Array.size_setIfInBounds]
  split
  · subst_vars; rw [if_pos h5.1, s.c5]
  · split
    · subst_vars; rw [if_pos h4.1, s.c4]
    · rfl
/-- what the pass of the loop knows -/
structure NxtI (w : World) (q off g k l h : Nat) (ks : List (Nat × T)) (cs : Array Value) (ty : TypeId) (a0 : Int) (w' : World) (a : Int) (p : Option Addr) : Prop where
  blk : w'.heap[q]? = some (.cells (stepTo cs off a p) ty (0, 0))
  cell : StepC (stepTo cs off a p) off g k l h a p
  foot : Foot (fun b => b = q) w w'
  same : bey k l h ks a = bey k l h ks a0
  lo : -1 ≤ a
  hi : a ≤ 65536
theorem step_cells {q off g k l h : Nat} {cs : Array Value} {ty : TypeId} {w' : World} {a : Int} {p : Option Addr} (hblk : w'.heap[q]? = some (.cells cs ty (0, 0))) (hcell : StepC cs off g k l h a p) :
    ∀ w2 : World, Below w'.heap.size w' w2 → w2.cell? ⟨q, off, none⟩ = some (.pointer (some ⟨g, 0, none⟩)) ∧ w2.cell? ⟨q, off + 1, none⟩ = some (.int .i64 (k : Int)) ∧ w2.cell? ⟨q, off + 1 + 1, none⟩ = some (.int .i64 (l : Int)) ∧ w2.cell? ⟨q, off + 1 + 2, none⟩ = some (.int .i64 (h : Int)) ∧
      w2.cell? ⟨q, off + 4, none⟩ = some (.int .i64 a) ∧ w2.cell? ⟨q, off + 5, none⟩ = some (.pointer p) ∧ w2.frozen? ⟨q, off + 4, none⟩ = false ∧ w2.frozen? ⟨q, off + 5, none⟩ = false := by
  intro w2 hb
  have hq : q < w'.heap.size := (Array.getElem?_eq_some_iff.1 hblk).1
  have h2 := (hb.block q hq).trans hblk
  obtain ⟨c0, c1, c2, c3, c4, c5⟩ := hcell
  exact ⟨by rw [cell_of_row w2 _ _ _ _ (0, 0) h2]; exact c0, by rw [cell_of_row w2 _ _ _ _ (0, 0) h2]; exact c1, by rw [cell_of_row w2 _ _ _ _ (0, 0) h2]; exact c2, by rw [cell_of_row w2 _ _ _ _ (0, 0) h2]; exact c3, by rw [cell_of_row w2 _ _ _ _ (0, 0) h2]; exact c4, by rw [cell_of_row w2 _ _ _ _ (0, 0) h2]; exact c5,
    frozen_of_row w2 _ _ _ ty h2, frozen_of_row w2 _ _ _ ty h2⟩
theorem NxtI.store {w : World} {q off g k l h : Nat} {ks : List (Nat × T)} {cs : Array Value} {ty : TypeId} {a0 : Int} {w' : World} {a : Int} {p : Option Addr} (s : NxtI w q off g k l h ks cs ty a0 w' a p) {wc : World} (hb : Below w'.heap.size w' wc) (i : Nat) (a' : Int) (p' : Option Addr) :
    (((wc.drewN i).setCell ⟨q, off + 4, none⟩ (.int .i64 a')).setCell ⟨q, off + 5, none⟩ (.pointer p')).heap[q]? = some (.cells (stepTo cs off a' p') ty (0, 0)) ∧ StepC (stepTo cs off a' p') off g k l h a' p' ∧
      Foot (fun b => b = q) w (((wc.drewN i).setCell ⟨q, off + 4, none⟩ (.int .i64 a')).setCell ⟨q, off + 5, none⟩ (.pointer p')) := by
  have h1 := ((below_drewN i hb).block q (Array.getElem?_eq_some_iff.1 s.blk).1).trans s.blk
  have h2 := block_set (i := off + 5) (block_set (i := off + 4) h1 (.int .i64 a')) (.pointer p')
  have e : ((stepTo cs off a p).setIfInBounds (off + 4) (.int .i64 a')).setIfInBounds (off + 5) (.pointer p') = stepTo cs off a' p' := stepTo_again cs off a a' p p'
  rw [e] at h2
  have h3 := s.cell.to a' p'
  rw [stepTo_again] at h3
  exact ⟨h2, h3, ((s.foot.trans (Foot.of_below (F := fun b => b = q) (below_drewN i hb)) (fun b hb => .inl hb)).trans (Foot.setCell _ (F := fun b => b = q) (a := ⟨q, off + 4, none⟩) rfl _) (fun b hb => .inl hb)).trans (Foot.setCell _ (F := fun b => b = q) (a := ⟨q, off + 5, none⟩) rfl _) (fun b hb => .inl hb)⟩
theorem NxtI.cells {w : World} {q off g k l h : Nat} {ks : List (Nat × T)} {cs : Array Value} {ty : TypeId} {a0 : Int} {w' : World} {a : Int} {p : Option Addr} (s : NxtI w q off g k l h ks cs ty a0 w' a p) :
    ∀ w2 : World, Below w'.heap.size w' w2 → w2.cell? ⟨q, off, none⟩ = some (.pointer (some ⟨g, 0, none⟩)) ∧ w2.cell? ⟨q, off + 1, none⟩ = some (.int .i64 (k : Int)) ∧ w2.cell? ⟨q, off + 1 + 1, none⟩ = some (.int .i64 (l : Int)) ∧ w2.cell? ⟨q, off + 1 + 2, none⟩ = some (.int .i64 (h : Int)) ∧
      w2.cell? ⟨q, off + 4, none⟩ = some (.int .i64 a) ∧ w2.cell? ⟨q, off + 5, none⟩ = some (.pointer p) ∧ w2.frozen? ⟨q, off + 4, none⟩ = false ∧ w2.frozen? ⟨q, off + 5, none⟩ = false := by
  exact step_cells s.blk s.cell
/-- the address in a step -/
def adrOf (q off : Nat) (w : World) : Int := match w.cell? ⟨q, off + 4, none⟩ with
  | some (.int _ a) => a
  | _ => 0

set_option maxRecDepth 1000000 in
set_option maxHeartbeats 4000000 in
theorem stepNext_c {w : World} {B k g lv l h : Nat} {pre : List Nat} {ks : List (Nat × T)} (hN : Node w B k (.br g lv pre ks)) (hT : ∀ w', Below B w w' → Tz w') {q off : Nat} {cs : Array Value} {ty : TypeId} (hB : B ≤ q)
    (hq : w.heap[q]? = some (.cells cs ty (0, 0))) {a : Int} {p : Option Addr} (hc : StepC cs off g k l h a p) (ha : -1 ≤ a) (ha2 : a ≤ 65536) (hl : l < 2 ^ k) (hh : h < 2 ^ k) :
    Calls Tryz.prog 145 #[.pointer (some ⟨q, off, none⟩)] w fun e w' => ∃ (a' : Int) (p' : Option Addr), -1 ≤ a' ∧ a' ≤ 65536 ∧
      e = .returned (.bool (!(bey k l h ks a).isEmpty)) ∧ (∀ x r, bey k l h ks a = x :: r → a' = (x.1 : Int) ∧ p' = some ⟨x.2.blk, 0, none⟩ ∧ x ∈ ks ∧ bey k l h ks (x.1 : Int) = r) ∧
      w'.heap[q]? = some (.cells (stepTo cs off a' p') ty (0, 0)) ∧ Foot (fun b => b = q) w w' := by
  have hqs : q < w.heap.size := (Array.getElem?_eq_some_iff.1 hq).1
  have I0 : NxtI w q off g k l h ks cs ty a w a p := ⟨by rw [hc.self]; exact hq, by rw [hc.self]; exact hc, Foot.refl _ _, rfl, ha, ha2⟩
  have hk1 := hN.1.k1
  have hk16 := hN.1.k16
  have HX := Lib.hid (And.intro hN (And.intro hT (And.intro hB (And.intro hqs (And.intro hk1 (And.intro hk16 (And.intro hl hh)))))))
  have H0 := Lib.hid I0
  clear hN hT hB hq hc ha ha2 hl hh hqs I0 hk1 hk16
  go_enter Tryz.func145, Tryz.ntmps145
  go_wp2_with fail
  refine wp_scope_again 0 (fun a' w' => ∃ (a1 : Int) (p1 : Option Addr) (u1 u2 u3 u4 u5 u6 u7 u8 u9 u10 u11 u12 u13 u14 u15 u16 u17 u18 u19 u20 u21 u22 u23 u24 u25 u26 u27 u28 u29 u30 u31 u32 u33 u34 u35 u36 u37 u38 u39 u40 u41 u42 u43 u44 u45 u46 u47 u48 u49 u50 u51 u52 u53 u54 u55 : Value), a' = { tmps := #[.pointer (some ⟨q, off, none⟩), u1, u2, u3, u4, u5, u6, u7, u8, u9, u10, u11, u12, u13, u14, u15, u16, u17, u18, u19, u20, u21, u22, u23, u24, u25, u26, u27, u28, u29, u30, u31, u32, u33, u34, u35, u36, u37, u38, u39, u40, u41, u42, u43, u44, u45, u46, u47, u48, u49, u50, u51, u52, u53, u54, u55], defers := [] } ∧ NxtI w q off g k l h ks cs ty a w' a1 p1) (fun _ w' => byn ks (adrOf q off w')) rfl ?first ?pass
  case first =>
    intro hp
    refine wp_seq (wp_label (hp _ _ ⟨a, p, _, _, _, _, _, _, _, _, _, _, _, _, _, _, _, _, _, _, _, _, _, _, _, _, _, _, _, _, _, _, _, _, _, _, _, _, _, _, _, _, _, _, _, _, _, _, _, _, _, _, _, _, _, _, _, rfl, H0.out⟩))
  case pass =>
    rintro a' w' ⟨a1, p1, u1, u2, u3, u4, u5, u6, u7, u8, u9, u10, u11, u12, u13, u14, u15, u16, u17, u18, u19, u20, u21, u22, u23, u24, u25, u26, u27, u28, u29, u30, u31, u32, u33, u34, u35, u36, u37, u38, u39, u40, u41, u42, u43, u44, u45, u46, u47, u48, u49, u50, u51, u52, u53, u54, u55, rfl, hI⟩
    obtain ⟨o, ho⟩ : ∃ o, nextI k l h a1 = o := ⟨_, rfl⟩
    have HI := Lib.hid hI
    have HNx := Lib.hid fun w2 : World => mnext_yes k l h a1 w2 o ho ⟨by have := HI.out.lo; omega, by have := HI.out.hi; omega⟩ HX.out.2.2.2.2.1 HX.out.2.2.2.2.2.1 HX.out.2.2.2.2.2.2.1 HX.out.2.2.2.2.2.2.2
    have m0 : ∀ w2, Below w'.heap.size w' w2 → w2.cell? ⟨q, off + 1, none⟩ = some (.int .i64 (k : Int)) := fun w2 hb => (HI.out.cells w2 hb).2.1
    have m1 : ∀ w2, Below w'.heap.size w' w2 → w2.cell? ⟨q, off + 1 + 1, none⟩ = some (.int .i64 (l : Int)) := fun w2 hb => (HI.out.cells w2 hb).2.2.1
    have m2 : ∀ w2, Below w'.heap.size w' w2 → w2.cell? ⟨q, off + 1 + 2, none⟩ = some (.int .i64 (h : Int)) := fun w2 hb => (HI.out.cells w2 hb).2.2.2.1
    have m3 : ∀ w2, Below w'.heap.size w' w2 → w2.cell? ⟨q, off + 4, none⟩ = some (.int .i64 a1) := fun w2 hb => (HI.out.cells w2 hb).2.2.2.2.1
    have hbb := Below.refl w'.heap.size w'
    have HO := Lib.hid ho
    clear hI ho H0
    go_wp2_with fail
    go_region_held3 (fun w2 => Below w'.heap.size w' w2) (((repeat (first | refine Below.drew ?_ | (with_reducible refine below_drewN _ ?_) | refine Below.alloc ?_ (by first | omega | (simp; done) | (simp; omega)) _ | refine Below.setCell ?_ (by first | omega | (simp; done) | (simp; omega)) _)); first | exact Below.refl _ _ | assumption | exact below_drewN _ (Below.refl _ _) | exact below_drewN _ (below_drewN _ (Below.refl _ _))))
      ((go_at_call 171; refine (HNx.out _).mono ?_; rintro e wc ⟨rfl, hbc⟩; have hBc := Below.trans (show Below w'.heap.size w' _ by ((repeat (first | refine Below.drew ?_ | (with_reducible refine below_drewN _ ?_) | refine Below.alloc ?_ (by first | omega | (simp; done) | (simp; omega)) _ | refine Below.setCell ?_ (by first | omega | (simp; done) | (simp; omega)) _)); first | exact Below.refl _ _ | assumption | exact below_drewN _ (Below.refl _ _) | exact below_drewN _ (below_drewN _ (Below.refl _ _)))) (hbc.mono (Below.size (show Below w'.heap.size w' _ by ((repeat (first | refine Below.drew ?_ | (with_reducible refine below_drewN _ ?_) | refine Below.alloc ?_ (by first | omega | (simp; done) | (simp; omega)) _ | refine Below.setCell ?_ (by first | omega | (simp; done) | (simp; omega)) _)); first | exact Below.refl _ _ | assumption | exact below_drewN _ (Below.refl _ _) | exact below_drewN _ (below_drewN _ (Below.refl _ _)))))); clear hbc))
    clear m0 m1 m2 m3
    cases o with
    | none =>
      simp only [Option.getD_none, Option.isSome_none]
      go_wp2_with fail
      simp only [Exit.jump]
      go_ret
      have e := bey_stop (ks := ks) HO.out
      rw [HI.out.same] at e
      have hI2 := HI.out
      refine ⟨a1, p1, hI2.lo, hI2.hi, by rw [e]; rfl, fun x r hx => by rw [e] at hx; simp at hx, (hBc.block q (Array.getElem?_eq_some_iff.1 hI2.blk).1).trans hI2.blk, hI2.foot.trans (Foot.of_below (F := fun b => b = q) hBc) (fun b hb => .inl hb)⟩
    | some n =>
      simp only [Option.getD_some, Option.isSome_some]
      have hn := Lib.hid (nextI_least HO.out)
      have hn16 : n < 65536 := by
        have h1 := (Mk.has_iff.1 hn.out.2.1).1
        have h2 := pow16 HX.out.2.2.2.2.2.1
        omega
      obtain ⟨kx, hkx⟩ : ∃ kx, ks[Sl.idx ks (n : Int)]? = kx := ⟨_, rfl⟩
      have hbel : Below B w wc := (HI.out.foot.below (show B ≤ w.heap.size by have := HX.out.2.2.1; have := HX.out.2.2.2.1; omega) (fun b hb => by have := HX.out.2.2.1; omega)).trans (hBc.mono (by have := HX.out.2.2.1; have := HX.out.2.2.2.1; have := HI.out.foot.size; omega))
      have HFr := Lib.hid (nFrom_c (HX.out.1.below hbel (Nat.le_refl _) (Nat.le_refl _)).2 (HX.out.2.1 _ hbel) (n : Int) (by omega) (by omega) (kidP kx) (by rw [← hkx]; rfl))
      simp only [T.blk] at HFr
      have cc : ∀ i, Hid _ := fun i => Lib.hid (HI.out.cells (wc.drewN i) (below_drewN i hBc))
      obtain ⟨b0, -, -, -, -, -, -, -⟩ := HI.out.cells wc hBc
      have Hst := Lib.hid fun i => HI.out.store hBc i ((kidP kx).1 : Int) (kidP kx).2
      have Hkx := Lib.hid hkx
      clear hkx hbel hBc
      cases kx with
      | none =>
        simp only [kidP, Option.map_none, Option.getD_none] at HFr Hst
        go_wp2_with (go_at_call 117; refine HFr.out.mono ?_; rintro e w3 ⟨rfl, i, rfl⟩; obtain ⟨b0', b1, b2, b3, b4, b5, f4, f5⟩ := (cc i).out)
        obtain ⟨s1, s2, s3⟩ := Hst.out i
        revert s1 s3
        generalize World.setCell _ _ _ = W3
        intro s1 s3
        obtain ⟨-, -, -, -, -, b5, -, -⟩ := step_cells s1 s2 W3 (Below.refl _ _)
        have HS := Lib.hid (And.intro s1 s3)
        clear s1 s2 s3 Hst cc b0 b0' b1 b2 b3 b4 f4 f5
        go_quiet (fail)
        go_wp2_with fail
        simp only [Exit.jump]
        go_ret
        have e := bey_end HO.out Hkx.out
        rw [HI.out.same] at e
        exact ⟨((0 : Nat) : Int), none, by omega, by omega, by rw [e]; rfl, fun x r hx => by rw [e] at hx; simp at hx, HS.out.1, HS.out.2.drewN _⟩
      | some x =>
        simp only [kidP, Option.map_some, Option.getD_some] at HFr Hst
        go_wp2_with (go_at_call 117; refine HFr.out.mono ?_; rintro e w3 ⟨rfl, i, rfl⟩; obtain ⟨b0', b1, b2, b3, b4, b5, f4, f5⟩ := (cc i).out)
        obtain ⟨s1, s2, s3⟩ := Hst.out i
        revert s1 s3
        generalize World.setCell _ _ _ = W3
        intro s1 s3
        have hcx := Lib.hid (step_cells s1 s2)
        have m0 : ∀ w2, Below W3.heap.size W3 w2 → w2.cell? ⟨q, off + 1, none⟩ = some (.int .i64 (k : Int)) := fun w2 hb => (hcx.out w2 hb).2.1
        have m1 : ∀ w2, Below W3.heap.size W3 w2 → w2.cell? ⟨q, off + 1 + 1, none⟩ = some (.int .i64 (l : Int)) := fun w2 hb => (hcx.out w2 hb).2.2.1
        have m2 : ∀ w2, Below W3.heap.size W3 w2 → w2.cell? ⟨q, off + 1 + 2, none⟩ = some (.int .i64 (h : Int)) := fun w2 hb => (hcx.out w2 hb).2.2.2.1
        have m3 : ∀ w2, Below W3.heap.size W3 w2 → w2.cell? ⟨q, off + 4, none⟩ = some (.int .i64 (x.1 : Int)) := fun w2 hb => (hcx.out w2 hb).2.2.2.2.1
        have m4 : ∀ w2, Below W3.heap.size W3 w2 → w2.cell? ⟨q, off + 5, none⟩ = some (.pointer (some ⟨x.2.blk, 0, none⟩)) := fun w2 hb => (hcx.out w2 hb).2.2.2.2.2.1
        have hbb := Below.refl W3.heap.size W3
        have hmem := List.mem_of_getElem? Hkx.out
        have hx16 : x.1 < 65536 := by
          have h1 := HX.out.1.1
          cases h1 with
          | br _ _ _ _ _ hw _ _ _ _ _ =>
            have h2 := hw.lt x hmem
            have h3 := pow16 HX.out.2.2.2.2.2.1
            omega
        obtain ⟨r, hr⟩ : ∃ r, Mk.hasI k l h (x.1 : Int) = r := ⟨_, rfl⟩
        have HHs := Lib.hid fun w2 : World => mhas_yes k l h (x.1 : Int) w2 r hr HX.out.2.2.2.2.1 HX.out.2.2.2.2.2.1 HX.out.2.2.2.2.2.2.1 HX.out.2.2.2.2.2.2.2 (i64_nat hx16)
        have HS := Lib.hid (And.intro s1 (And.intro s2 (And.intro s3 (And.intro hmem (And.intro hx16 hr)))))
        clear s1 s2 s3 Hst cc b0 b0' b1 b2 b3 b4 b5 f4 f5 hmem hx16 hr
        go_region_held3 (fun w2 => Below W3.heap.size W3 w2) (((repeat (first | refine Below.drew ?_ | (with_reducible refine below_drewN _ ?_) | refine Below.alloc ?_ (by first | omega | (simp; done) | (simp; omega)) _ | refine Below.setCell ?_ (by first | omega | (simp; done) | (simp; omega)) _)); first | exact Below.refl _ _ | assumption | exact below_drewN _ (Below.refl _ _) | exact below_drewN _ (below_drewN _ (Below.refl _ _))))
          ((go_at_call 172; refine (HHs.out _).mono ?_; rintro e wd ⟨rfl, hbd⟩; have hBd := Below.trans (show Below W3.heap.size W3 _ by ((repeat (first | refine Below.drew ?_ | (with_reducible refine below_drewN _ ?_) | refine Below.alloc ?_ (by first | omega | (simp; done) | (simp; omega)) _ | refine Below.setCell ?_ (by first | omega | (simp; done) | (simp; omega)) _)); first | exact Below.refl _ _ | assumption | exact below_drewN _ (Below.refl _ _) | exact below_drewN _ (below_drewN _ (Below.refl _ _)))) (hbd.mono (Below.size (show Below W3.heap.size W3 _ by ((repeat (first | refine Below.drew ?_ | (with_reducible refine below_drewN _ ?_) | refine Below.alloc ?_ (by first | omega | (simp; done) | (simp; omega)) _ | refine Below.setCell ?_ (by first | omega | (simp; done) | (simp; omega)) _)); first | exact Below.refl _ _ | assumption | exact below_drewN _ (Below.refl _ _) | exact below_drewN _ (below_drewN _ (Below.refl _ _)))))); clear hbd))
        have m5 := m4 _ hBd
        clear m0 m1 m2 m3 m4
        cases r with
        | true =>
          go_wp2_with fail
          simp only [Exit.jump]
          go_ret
          obtain ⟨s1, s2, s3, hmem, hx16, hr⟩ := HS.out
          have e := (bey_kid HX.out.1.1.srt HO.out Hkx.out).1
          rw [Mk.hasI_nat] at hr
          simp only [T.ks] at e
          rw [if_pos hr, HI.out.same] at e
          exact ⟨(x.1 : Int), some ⟨x.2.blk, 0, none⟩, by omega, by omega, by rw [e]; rfl, fun y r hy => by
            rw [e] at hy
            simp only [List.cons_append, List.nil_append, List.cons.injEq] at hy
            obtain ⟨rfl, rfl⟩ := hy
            exact ⟨rfl, rfl, hmem, rfl⟩, (hBd.block q (Array.getElem?_eq_some_iff.1 s1).1).trans s1, s3.trans (Foot.of_below (F := fun b => b = q) hBd) (fun b hb => .inl hb)⟩
        | false =>
          go_wp2_with fail
          obtain ⟨s1, s2, s3, hmem, hx16, hr⟩ := HS.out
          have hks := bey_kid HX.out.1.1.srt HO.out Hkx.out
          have e := hks.1
          have hlt := hks.2
          rw [Mk.hasI_nat] at hr
          simp only [T.ks] at e
          rw [if_neg (by simp [hr]), List.nil_append, HI.out.same] at e
          have hblk := (hBd.block q (Array.getElem?_eq_some_iff.1 s1).1).trans s1
          have hfin : NxtI w q off g k l h ks cs ty a wd (x.1 : Int) (some ⟨x.2.blk, 0, none⟩) := ⟨hblk, s2, s3.trans (Foot.of_below (F := fun b => b = q) hBd) (fun b hb => .inl hb), e.symm, by omega, by omega⟩
          refine wp_goto ?_
          simp only [Exit.then]
          have a1e : adrOf q off w' = a1 := by unfold adrOf; rw [(HI.out.cells w' (Below.refl _ _)).2.2.2.2.1]
          have a2e : adrOf q off wd = (x.1 : Int) := by unfold adrOf; rw [(hfin.cells wd (Below.refl _ _)).2.2.2.2.1]
          have key : byn ks (adrOf q off wd) < byn ks (adrOf q off w') := by rw [a1e, a2e]; exact byn_lt hmem hlt
          exact ⟨rfl, ⟨(x.1 : Int), some ⟨x.2.blk, 0, none⟩, _, _, _, _, _, _, _, _, _, _, _, _, _, _, _, _, _, _, _, _, _, _, _, _, _, _, _, _, _, _, _, _, _, _, _, _, _, _, _, _, _, _, _, _, _, _, _, _, _, _, _, _, _, _, _, rfl, hfin⟩, key⟩
end Go.Proofs.YtdpbcfjhljgicaaGreatDoor
