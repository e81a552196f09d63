/-
  CONTRACTS of package num, sixth part: ReadPoint.
-/
import Derived.Test.YtkhfjcaobjompaaDoorSq
import Derived.Maps.AppendAt
import Derived.RangeFuncBox
namespace Go.Proofs.YtkhfjcaobjompaaDoor
open Go.RowKit Go.Shelf
attribute [local go_sem] Oper.semAt_some

theorem splitSeq_c (s : ByteArray) (w : World) :
    Calls Tryd.prog 24 #[.string s, .string ⟨#[44]⟩] w fun e w' => e = .returned (.func (.func 47) #[] #[.pointer (some ⟨w.heap.size + 1, 0, none⟩), .pointer (some ⟨w.heap.size, 0, none⟩), .pointer (some ⟨w.heap.size + 1 + 1, 0, none⟩)]) ∧
      w' = ((w.alloc (.cells #[.string s] 9)).alloc (.cells #[.string ⟨#[44]⟩] 9)).alloc (.cells #[.int .i64 0] 3) := by
  have h : Calls Tryd.prog 35 #[.string s, .string ⟨#[44]⟩, .int .i64 0] w fun e w' => e = .returned (.func (.func 47) #[] #[.pointer (some ⟨w.heap.size + 1, 0, none⟩), .pointer (some ⟨w.heap.size, 0, none⟩), .pointer (some ⟨w.heap.size + 1 + 1, 0, none⟩)]) ∧
      w' = ((w.alloc (.cells #[.string s] 9)).alloc (.cells #[.string ⟨#[44]⟩] 9)).alloc (.cells #[.int .i64 0] 3) := by
    go_enter Tryd.func35, Tryd.ntmps35
    go_wp2
    go_ret
    exact ⟨rfl, rfl⟩
  go_enter Tryd.func24, Tryd.ntmps24
  go_wp2_with (go_at_call 35; refine h.mono ?_; rintro e w' ⟨rfl, rfl⟩)
  go_ret
  exact ⟨rfl, rfl⟩

/-- WHAT HOLDS BETWEEN TWO ROUNDS, the parts ps having come, but for the loop's own record: the result's cells, the point so far, the iterator's separator, the block for deferred calls. -/
structure Core (w : World) (ps : List (List UInt8)) (W : World) : Prop where
  ok : T.AllOk ps
  c0 : W.cell? ⟨w.heap.size, 0, none⟩ = some (.slice none 0 0)
  f0 : W.frozen? ⟨w.heap.size, 0, none⟩ = false
  c1 : W.cell? ⟨w.heap.size + 1, 0, none⟩ = some (.int .i64 0)
  f1 : W.frozen? ⟨w.heap.size + 1, 0, none⟩ = false
  own : ∃ A c, W.cell? ⟨w.heap.size + 1 + 1, 0, none⟩ = some (.slice A ((T.nums ps).take 17).length c) ∧ W.frozen? ⟨w.heap.size + 1 + 1, 0, none⟩ = false ∧ Own W (w.heap.size + 6) (.slice A ((T.nums ps).take 17).length c) ((T.nums ps).take 17)
  sep : W.cell? ⟨w.heap.size + 1 + 1 + 1 + 1, 0, none⟩ = some (.string ⟨#[44]⟩)
  save : W.cell? ⟨w.heap.size + 1 + 1 + 1 + 1 + 1, 0, none⟩ = some (.int .i64 0)
  dfr : W.heap[w.heap.size + 6]? = some (.deferred (some []))
  bel : Below w.heap.size w W
  size : w.heap.size + 8 ≤ W.heap.size
/-- what a turn of the world must leave -/
structure Keeps (b : Nat) (W W' : World) : Prop where
  low : ∀ k, k ≤ b + 6 → k ≠ b + 3 → W'.heap[k]? = W.heap[k]?
  rows : ∀ k cs t fz, b + 6 ≤ k → W.heap[k]? = some (.cells cs t fz) → W'.heap[k]? = some (.cells cs t fz)
  bel : Below b W W'
theorem Keeps.cell {b : Nat} {W W' : World} (h : Keeps b W W') {k o : Nat} (hk : k ≤ b + 6) (h3 : k ≠ b + 3) : W'.cell? ⟨k, o, none⟩ = W.cell? ⟨k, o, none⟩ := World.cell?_of_block (w := W) (h.low k hk h3)
theorem Keeps.frozen {b : Nat} {W W' : World} (h : Keeps b W W') {k o : Nat} (hk : k ≤ b + 6) (h3 : k ≠ b + 3) : W'.frozen? ⟨k, o, none⟩ = W.frozen? ⟨k, o, none⟩ := World.frozen?_of_block (w := W) (h.low k hk h3)
theorem own_keeps {b : Nat} {W W' : World} (h : Keeps b W W') {v : Value} {us : List Nat} (ho : Own W (b + 6) v us) : Own W' (b + 6) v us := by
  refine ⟨ho.1, ho.2.1, ?_⟩
  rcases ho.2.2 with h2 | ⟨g, cap, cur, hv, hg, hh, r⟩
  · exact .inl h2
  · exact .inr ⟨g, cap, cur, hv, hg, h.rows g _ _ _ hg hh, r⟩
theorem Core.keeps {w W W' : World} {ps : List (List UInt8)} (h : Core w ps W) (hk : Keeps w.heap.size W W') : Core w ps W' := by
  obtain ⟨A, c, g1, g2, g3⟩ := h.own
  refine ⟨h.ok, ?_, ?_, ?_, ?_, ⟨A, c, ?_, ?_, own_keeps hk g3⟩, ?_, ?_, ?_, h.bel.trans hk.bel, Nat.le_trans h.size hk.bel.size⟩
  · rw [hk.cell (by omega) (by omega)]; exact h.c0
  · rw [hk.frozen (by omega) (by omega)]; exact h.f0
  · rw [hk.cell (by omega) (by omega)]; exact h.c1
  · rw [hk.frozen (by omega) (by omega)]; exact h.f1
  · rw [hk.cell (by omega) (by omega)]; exact g1
  · rw [hk.frozen (by omega) (by omega)]; exact g2
  · rw [hk.cell (by omega) (by omega)]; exact h.sep
  · rw [hk.cell (by omega) (by omega)]; exact h.save
  · rw [hk.low _ (by omega) (by omega)]; exact h.dfr
theorem keeps_set (b : Nat) (W : World) (v : Value) : Keeps b W (W.setCell ⟨b + 1 + 1 + 1, 0, none⟩ v) :=
  ⟨fun k _ h3 => Below.heap_setCell W _ v k (by simp; omega), fun k cs t fz hk hh => (Below.heap_setCell W _ v k (by simp; omega)).trans hh, (Below.refl _ _).setCell (by simp; omega) _⟩
theorem keeps_put (b : Nat) (W : World) (o o' : Loop) (hl : W.heap[b + 7]? = some (.loop o)) (o2 : Obj) (ho : o2 = .loop o') : Keeps b W (W.putObj (b + 7) o2) := by
  subst ho
  refine ⟨fun k hk _ => World.putObj_heap_other (by omega), fun k cs t fz _ hh => ?_, ?_⟩
  · rw [World.putObj_heap_other]
    · exact hh
    · rintro rfl
      rw [hl] at hh
      cases hh
  · exact ⟨rfl, rfl, rfl, by simp, fun k hk => World.putObj_heap_other (by omega)⟩
theorem keeps_below {b : Nat} {W W' : World} (hb : Below W.heap.size W W') (hs : b + 8 ≤ W.heap.size) : Keeps b W W' :=
  ⟨fun k hk _ => hb.block k (by omega), fun k cs t fz _ hh => (hb.block k (Array.getElem?_eq_some_iff.1 hh).1).trans hh, hb.mono (by omega)⟩

theorem split_mem_len (c : UInt8) : ∀ (l p : List UInt8), p ∈ T.split c l → p.length ≤ l.length
  | [], p, h => by simp [T.split] at h; simp [h]
  | b :: l, p, h => by
    have ih := split_mem_len c l
    unfold T.split at h
    split at h
    · rcases List.mem_cons.1 h with rfl | h
      · simp
      · have := ih p h; simp; omega
    · split at h
      · simp at h; simp [h]
      · rename_i q qs e
        rcases List.mem_cons.1 h with rfl | h
        · have := ih q (by rw [e]; simp); simp; omega
        · have := ih p (by rw [e]; exact List.mem_cons_of_mem _ h); simp; omega
/-- the world in which the loop begins -/
def loopWorld (w : World) (s : ByteArray) : World :=
  (((((w.alloc (.cells #[.slice none 0 0] 27)).alloc (.cells #[.int .i64 0] 24)).alloc (.cells #[.slice none 0 0] 27)).alloc
    (.cells #[.string s] 9)).alloc (.cells #[.string ⟨#[44]⟩] 9)).alloc (.cells #[.int .i64 0] 3)
theorem loopWorld_size (w : World) (s : ByteArray) : (loopWorld w s).heap.size = w.heap.size + 6 := by simp [loopWorld]
theorem heap_next {w : World} {o : Obj} {k : Nat} (hk : w.heap.size = k) : (w.alloc o).heap[k]? = some o := by subst hk; exact World.alloc_heap_new w o
theorem heap_old {w : World} {o x : Obj} {k : Nat} (h : w.heap[k]? = some x) : (w.alloc o).heap[k]? = some x := (Below.heap_alloc w o k (Array.getElem?_eq_some_iff.1 h).1).trans h
theorem cell_at {w : World} {k : Nat} {v : Value} {t : TypeId} (h : w.heap[k]? = some (.cells #[v] t)) : w.cell? ⟨k, 0, none⟩ = some v ∧ w.frozen? ⟨k, 0, none⟩ = false := by
  constructor
  · simp [World.cell?, h]
  · simp [World.frozen?, h]
theorem core_start (w : World) (s : ByteArray) (r : Loop) : Core w [] (rangeWorld (loopWorld w s) r) ∧ (rangeWorld (loopWorld w s) r).cell? ⟨w.heap.size + 1 + 1 + 1, 0, none⟩ = some (.string s) ∧
    (rangeWorld (loopWorld w s) r).frozen? ⟨w.heap.size + 1 + 1 + 1, 0, none⟩ = false ∧ (rangeWorld (loopWorld w s) r).heap[w.heap.size + 7]? = some (.loop r) := by
  have hb : Below w.heap.size w (rangeWorld (loopWorld w s) r) := ((((((((Below.refl _ w).alloc (Nat.le_refl _) _).alloc (by simp) _).alloc (by simp; omega) _).alloc (by simp; omega) _).alloc (by simp; omega) _).alloc (by simp; omega) _).alloc (by simp; omega) _).alloc (by simp; omega) _
  have g0 : (rangeWorld (loopWorld w s) r).heap[w.heap.size]? = some (.cells #[.slice none 0 0] 27) := heap_old (heap_old (heap_old (heap_old (heap_old (heap_old (heap_old (heap_next rfl)))))))
  have g1 : (rangeWorld (loopWorld w s) r).heap[w.heap.size + 1]? = some (.cells #[.int .i64 0] 24) := heap_old (heap_old (heap_old (heap_old (heap_old (heap_old (heap_next (by simp)))))))
  have g2 : (rangeWorld (loopWorld w s) r).heap[w.heap.size + 1 + 1]? = some (.cells #[.slice none 0 0] 27) := heap_old (heap_old (heap_old (heap_old (heap_old (heap_next (by simp))))))
  have g3 : (rangeWorld (loopWorld w s) r).heap[w.heap.size + 1 + 1 + 1]? = some (.cells #[.string s] 9) := heap_old (heap_old (heap_old (heap_old (heap_next (by simp)))))
  have g4 : (rangeWorld (loopWorld w s) r).heap[w.heap.size + 1 + 1 + 1 + 1]? = some (.cells #[.string ⟨#[44]⟩] 9) := heap_old (heap_old (heap_old (heap_next (by simp))))
  have g5 : (rangeWorld (loopWorld w s) r).heap[w.heap.size + 1 + 1 + 1 + 1 + 1]? = some (.cells #[.int .i64 0] 3) := heap_old (heap_old (heap_next (by simp)))
  have g6 : (rangeWorld (loopWorld w s) r).heap[w.heap.size + 6]? = some (.deferred (some [])) := heap_old (heap_next (loopWorld_size w s))
  have g7 : (rangeWorld (loopWorld w s) r).heap[w.heap.size + 7]? = some (.loop r) := heap_next (by rw [World.size_alloc, loopWorld_size])
  have hsz : w.heap.size + 8 ≤ (rangeWorld (loopWorld w s) r).heap.size := by have := (Array.getElem?_eq_some_iff.1 g7).1; omega
  exact ⟨⟨fun _ h => by simp at h, (cell_at g0).1, (cell_at g0).2, (cell_at g1).1, (cell_at g1).2, ⟨none, 0, (cell_at g2).1, (cell_at g2).2, ⟨fun _ h => by simp [T.nums] at h, by simp [T.nums, vals], .inl ⟨rfl, by simp [T.nums]⟩⟩⟩,
    (cell_at g4).1, (cell_at g5).1, g6, hb, hsz⟩, (cell_at g3).1, (cell_at g3).2, g7⟩
/-- WHAT HOLDS WHERE A PART WAS NO NUMBER: the result's cells, and the loop's record with its pending return. -/
structure Stop (w : World) (r : Loop) (x : ByteArray) (W : World) : Prop where
  c0 : W.cell? ⟨w.heap.size, 0, none⟩ = some (.slice none 0 0)
  c1 : W.cell? ⟨w.heap.size + 1, 0, none⟩ = some (.int .i64 ((T.rdNum x.data.toList).2 : Int))
  dfr : W.heap[w.heap.size + 6]? = some (.deferred (some []))
  lp : W.heap[w.heap.size + 7]? = some (.loop { r with state := .done, pending := some .ret })
  bel : Below w.heap.size w W

/-- an append to the point leaves every block up to the loop's record -/
theorem grown_lt {W W' : World} {b : Nat} {e : TypeId} {v : Value} {n : Nat} {xs : List Value} (hown : W.ownsRow (b + 6) e 1 v n xs) (hg : W.grownBy W' v.ownBlock) {k : Nat} (hk : k < W.heap.size) (hb : k < b + 6) : W'.heap[k]? = W.heap[k]? := by
  obtain ⟨_, _, _, _, hbk⟩ := hg
  refine hbk k hk ?_
  intro hv
  have hle := (hown.lt k hv.symm).1
  omega
theorem grown_obj {W W' : World} {b : Nat} {e : TypeId} {v : Value} {n : Nat} {xs : List Value} (hown : W.ownsRow (b + 6) e 1 v n xs) (hg : W.grownBy W' v.ownBlock) {k : Nat} {o : Obj} (hk : W.heap[k]? = some o) (ho : o.isCells = false) : W'.heap[k]? = some o := by
  obtain ⟨_, _, _, _, hbk⟩ := hg
  refine (hbk k (Array.getElem?_eq_some_iff.1 hk).1 ?_).trans hk
  intro hv
  rcases hown.2 with ⟨rfl, _⟩ | ⟨g, cap, cur, rfl, _, hh, _⟩
  · simp [Value.ownBlock] at hv
  · simp [Value.ownBlock] at hv
    subst hv
    rw [hk] at hh
    rw [Option.some.inj hh] at ho
    cases ho
theorem take_more {ps : List (List UInt8)} (x : List UInt8) (h : ((T.nums ps).take 17).length ≤ 16) : (T.nums ps).take 17 ++ [(T.rdNum x).1] = (T.nums (ps ++ [x])).take 17 := by
  rw [List.length_take] at h
  rw [T.nums_snoc, List.take_of_length_le (by omega), List.take_of_length_le (by simp; omega)]
theorem nums_ok17 (ps : List (List UInt8)) : ∀ y ∈ (T.nums ps).take 17, y < 18446744073709551616 := fun y hy => T.nums_ok ps y (List.mem_of_mem_take hy)
theorem vals_app (us : List Nat) (u : Nat) : vals (us ++ [u]) = vals us ++ [.int .u64 (u : Int)] := by simp [vals]
theorem take_full {ps : List (List UInt8)} (x : List UInt8) (h : ¬ ((T.nums ps).take 17).length ≤ 16) : (T.nums (ps ++ [x])).take 17 = (T.nums ps).take 17 := by
  rw [List.length_take] at h
  rw [T.nums_snoc, List.take_append_of_le_length (by omega)]

/-- HOW THE BODY OF A ROUND IS LEFT, from the world W1 where the record was made busy. -/
def RoundPost (w : World) (R2 : Loop) (ps : List (List UInt8)) (x : ByteArray) (W1 : World) : Exit → Act → World → Prop
  | .normal, _, W3 => W3.heap[w.heap.size + 7]? = some (.loop R2) ∧ Core w (ps ++ [x.data.toList]) W3 ∧ W3.cell? ⟨w.heap.size + 1 + 1 + 1, 0, none⟩ = W1.cell? ⟨w.heap.size + 1 + 1 + 1, 0, none⟩ ∧ W3.frozen? ⟨w.heap.size + 1 + 1 + 1, 0, none⟩ = W1.frozen? ⟨w.heap.size + 1 + 1 + 1, 0, none⟩
  | .ret, _, W3 => W3.heap[w.heap.size + 7]? = some (.loop R2) ∧ (T.rdNum x.data.toList).2 ≠ 0 ∧ W3.cell? ⟨w.heap.size, 0, none⟩ = some (.slice none 0 0) ∧ W3.cell? ⟨w.heap.size + 1, 0, none⟩ = some (.int .i64 ((T.rdNum x.data.toList).2 : Int)) ∧
      W3.heap[w.heap.size + 6]? = some (.deferred (some [])) ∧ Below w.heap.size w W3
  | _, _, _ => False
theorem body_eq {F : Fence} {n : Nat} {P : Program} {c d : Code} {Q : Exit → Act → World → Prop} {a : Act} {w : World} (h : c = d) (k : c.wpIn F n P Q a w) : d.wpIn F n P Q a w := h ▸ k
theorem cell_put {W : World} {k l o : Nat} {x : Obj} (h : k ≠ l) : (W.putObj l x).cell? ⟨k, o, none⟩ = W.cell? ⟨k, o, none⟩ ∧ (W.putObj l x).frozen? ⟨k, o, none⟩ = W.frozen? ⟨k, o, none⟩ :=
  ⟨World.cell?_of_block (w := W) (World.putObj_heap_other h), World.frozen?_of_block (w := W) (World.putObj_heap_other h)⟩

/-- the world at the return: both cells of the result stored, the block for deferred calls shut -/
def endWorld (w W : World) (x y : Value) : World := ((W.setCell ⟨w.heap.size, 0, none⟩ x).setCell ⟨w.heap.size + 1, 0, none⟩ y).putObj (w.heap.size + 6) (.deferred none)
theorem end_cells {w W : World} {ps : List (List UInt8)} (h : Core w ps W) (x y : Value) :
    ((W.setCell ⟨w.heap.size, 0, none⟩ x).setCell ⟨w.heap.size + 1, 0, none⟩ y).heap[w.heap.size + 6]? = some (.deferred (some [])) ∧
    (endWorld w W x y).cell? ⟨w.heap.size, 0, none⟩ = some x ∧ (endWorld w W x y).cell? ⟨w.heap.size + 1, 0, none⟩ = some y ∧ Below w.heap.size w (endWorld w W x y) := by
  have hs1 : (W.setCell ⟨w.heap.size, 0, none⟩ x).cell? ⟨w.heap.size + 1, 0, none⟩ = some (.int .i64 0) := by rw [World.cell?_setCell_other _ _ _ _ (by simp)]; exact h.c1
  refine ⟨?_, ?_, ?_, ?_⟩
  · rw [Below.heap_setCell _ _ _ _ (by simp), Below.heap_setCell _ _ _ _ (by simp)]; exact h.dfr
  · refine ((cell_put (show w.heap.size ≠ w.heap.size + 6 by omega)).1).trans ?_
    rw [World.cell?_setCell_other _ _ _ _ (by simp)]; exact World.cell?_setCell_same _ _ _ h.c0
  · exact ((cell_put (show w.heap.size + 1 ≠ w.heap.size + 6 by omega)).1).trans (World.cell?_setCell_same _ _ _ hs1)
  · exact ⟨h.bel.os, h.bel.tape, h.bel.output, by have := h.bel.size; simp [endWorld]; omega, fun k hk => by
      unfold endWorld
      rw [World.putObj_heap_other (by omega), Below.heap_setCell _ _ _ _ (by simp; omega), Below.heap_setCell _ _ _ _ (by simp; omega)]
      exact h.bel.block k hk⟩
theorem own_put {W : World} {base k : Nat} {v : Value} {us : List Nat} {o o' : Obj} (h : Own W base v us) (hk : W.heap[k]? = some o) (ho : o.isCells = false) : Own (W.putObj k o') base v us := by
  refine ⟨h.1, h.2.1, ?_⟩
  rcases h.2.2 with h2 | ⟨g, cap, cur, hv, hg, hh, r⟩
  · exact .inl h2
  · refine .inr ⟨g, cap, cur, hv, hg, (World.putObj_heap_other ?_).trans hh, r⟩
    rintro rfl
    rw [hk] at hh
    rw [Option.some.inj hh] at ho
    cases ho
theorem own_set {W : World} {base : Nat} {v : Value} {us : List Nat} (h : Own W base v us) {a : Addr} (ha : a.block < base) (x : Value) : Own (W.setCell a x) base v us := ⟨h.1, ownsRow_setCell_below h.2 ha x⟩
theorem own_end {w W : World} {ps : List (List UInt8)} (h : Core w ps W) {v : Value} {us : List Nat} (ho : Own W (w.heap.size + 6) v us) (x y : Value) : Own (endWorld w W x y) (w.heap.size + 6) v us :=
  own_put (own_set (own_set ho (a := ⟨w.heap.size, 0, none⟩) (by simp) x) (a := ⟨w.heap.size + 1, 0, none⟩) (by simp) y) (end_cells h x y).1 rfl
theorem below_put {w W : World} {b k : Nat} {o : Obj} (h : Below b w W) (hk : b ≤ k) : Below b w (W.putObj k o) := h.trans ⟨rfl, rfl, rfl, by simp, fun j hj => World.putObj_heap_other (by omega)⟩

set_option maxRecDepth 100000 in
set_option maxHeartbeats 2000000 in
theorem readPoint_c (s : ByteArray) (w : World) (hs : s.size < 4294967281) (hw : Ready w) :
    Calls Tryd.prog 8 #[.string s] w (RdPt w s.data.toList) := by
  refine (callsIn_wide (n := 8)).1 ?_
  refine callsIn_of_wp_marks Tryd.func8 rfl trivial ?_ rfl
  simp only [Tryd.ntmps8, List.size_toArray, List.length_cons, List.length_nil, Nat.reduceAdd, Nat.reduceSub, Array.replicate_succ, Array.replicate_zero, List.push_toArray, List.append_toArray, List.nil_append, List.cons_append]
  gi_wp2_with (refine ⟨trivial, ?_⟩; (with_reducible refine (callsIn_wide.2 (splitSeq_c s _)).mono ?_); rintro e w' ⟨rfl, rfl⟩)
  have hW6 := loopWorld_size w s
  change Code.wpIn _ _ _ _ _ _ (loopWorld w s)
  generalize hW : loopWorld w s = W6 at *
  refine range_at rfl (by omega) (gf := 47) (lb := #[.pointer (some ⟨w.heap.size + 1 + 1 + 1 + 1, 0, none⟩), .pointer (some ⟨w.heap.size + 1 + 1 + 1, 0, none⟩), .pointer (some ⟨w.heap.size + 1 + 1 + 1 + 1 + 1, 0, none⟩)]) rfl trivial (enters_of Tryd.func47 (by kernel_rfl) rfl) ?_
  intro fn _
  generalize hr : recOf fn _ _ _ _ _ = r
  obtain ⟨hC, hs3, hf3, hrec⟩ := core_start w s r
  rw [hW] at hC hs3 hf3 hrec
  have hL : W6.heap.size + 1 = w.heap.size + 7 := by rw [hW6]
  rw [hL]
  refine (seq_in 7 (by omega) (w.heap.size + 7) (w.heap.size + 1 + 1 + 1) s
    (fun pre W => Core w (lists pre) W ∧ W.heap[w.heap.size + 7]? = some (.loop r))
    (fun pre W => ∃ p0 x, pre = p0 ++ [x] ∧ T.AllOk (lists p0) ∧ (T.rdNum x.data.toList).2 ≠ 0 ∧ Stop w r x W)
    ?store ?cells ?round (rangeWorld W6 r) hs3 hf3 hs ⟨hC, hrec⟩).mono ?post
  case store => exact fun pre W v h => ⟨h.1.keeps (keeps_set _ _ _), (Below.heap_setCell W _ v _ (by simp)).trans h.2⟩
  case cells => exact fun pre W h => ⟨h.1.sep, h.1.save⟩
  case round =>
    intro pre x W hJ hsp
    obtain ⟨hC, hrec⟩ := hJ
    obtain ⟨post, hpost⟩ := hsp
    have hxs : x.size < 4294967281 := by
      have h1 := split_mem_len 44 s.data.toList x.data.toList (by rw [hpost]; simp)
      simp at h1
      omega
    refine one_round (r := r) (a1 := { tmps := #[.string s, undef, .pointer (some ⟨w.heap.size, 0, none⟩), .pointer (some ⟨w.heap.size + 1, 0, none⟩), .pointer (some ⟨w.heap.size + 1 + 1, 0, none⟩), .string x, undef, undef, .string s,
      .func (.func 47) #[] #[.pointer (some ⟨w.heap.size + 1 + 1 + 1 + 1, 0, none⟩), .pointer (some ⟨w.heap.size + 1 + 1 + 1, 0, none⟩), .pointer (some ⟨w.heap.size + 1 + 1 + 1 + 1 + 1, 0, none⟩)], .string x,
      undef, undef, undef, undef, undef, undef, undef, undef, undef, undef, undef, undef, undef, undef, undef, undef, undef, undef, undef], defers := [] }) trivial hrec (by rw [← hr]; rfl) (by rw [← hr]; rfl) ?assign ?body
    case assign =>
      intro K hK
      rw [← hr]
      simp only [recOf]
      gi_wp2
      exact hK
    case body =>
      have hC1 := hC.keeps (keeps_put w.heap.size W r { r with state := .busy } hrec _ rfl)
      have hl1 : (W.putObj (w.heap.size + 7) (.loop { r with state := .busy })).heap[w.heap.size + 7]? = some (.loop { r with state := .busy }) := World.putObj_heap_same (Array.getElem?_eq_some_iff.1 hrec).1
      have hsame := cell_put (W := W) (l := w.heap.size + 7) (o := 0) (x := .loop { r with state := .busy }) (show w.heap.size + 1 + 1 + 1 ≠ w.heap.size + 7 by omega)
      have hb1 := congrArg Loop.body hr
      obtain ⟨R2, hR2⟩ : ∃ R2, R2 = { r with state := .busy } := ⟨_, rfl⟩
      refine wpIn_mono (body_eq hb1 (?walk : Code.wpIn _ _ _ _ (RoundPost w R2 (lists pre) x (W.putObj (w.heap.size + 7) (.loop { r with state := .busy }))) _ _)) ?conv
      case conv =>
        intro e a3 W3 hp
        cases e with
        | normal =>
          obtain ⟨p1, p2, p3, p4⟩ := hp
          subst hR2
          have hq := cell_put (W := W3) (l := w.heap.size + 7) (o := 0) (x := .loop { r with state := .ready, pending := none }) (show w.heap.size + 1 + 1 + 1 ≠ w.heap.size + 7 by omega)
          have hrr : ({ r with state := .ready, pending := none } : Loop) = r := by rw [← hr]; rfl
          refine ⟨p1, .inl ⟨rfl, ⟨?_, ?_⟩, ?_, ?_⟩⟩
          · rw [show lists (pre ++ [x]) = lists pre ++ [x.data.toList] by simp]
            exact p2.keeps (keeps_put w.heap.size W3 _ _ p1 _ rfl)
          · have := World.putObj_heap_same (w := W3) (o := .loop { r with state := .ready, pending := none }) (Array.getElem?_eq_some_iff.1 p1).1
            rw [hrr] at this ⊢
            exact this
          · exact hq.1.trans (p3.trans hsame.1)
          · exact hq.2.trans (p4.trans hsame.2)
        | ret =>
          obtain ⟨p1, p2, p3, p4, p5, p6⟩ := hp
          subst hR2
          refine ⟨p1, .inr ⟨rfl, pre, x, rfl, hC.ok, p2, ?_⟩⟩
          exact ⟨((cell_put (show w.heap.size ≠ w.heap.size + 7 by omega)).1).trans p3, ((cell_put (show w.heap.size + 1 ≠ w.heap.size + 7 by omega)).1).trans p4, (World.putObj_heap_other (by omega)).trans p5,
            World.putObj_heap_same (Array.getElem?_eq_some_iff.1 p1).1, p6.trans (keeps_put w.heap.size W3 _ _ p1 _ rfl).bel⟩
        | exit id => exact hp.elim
        | goto t => exact hp.elim
        | panic ch => exact hp.elim
        | outgrown => exact hp.elim
      case walk =>
      rw [← hR2] at hC1 hl1 ⊢
      generalize hW1 : W.putObj (w.heap.size + 7) (.loop R2) = W1 at *
      simp only [recOf]
      clear hb1 hW1 hsame hr
      obtain ⟨A, c, g1, g2, g3⟩ := hC1.own
      have hc0 := hC1.c0
      have hf0 := hC1.f0
      have hc1 := hC1.c1
      have hf1 := hC1.f1
      have hrd := Lib.hid (hw.on hC1.bel)
      have hn := T.rdNum_lt x.data.toList
      obtain ⟨u, hu⟩ : ∃ u, (T.rdNum x.data.toList).1 = u := ⟨_, rfl⟩
      obtain ⟨m, hm⟩ : ∃ m, (T.rdNum x.data.toList).2 = m := ⟨_, rfl⟩
      rw [hu] at hn
      have Hu := Lib.hid hu
      have Hm := Lib.hid hm
      have Hn := Lib.hid hn
      have HC := Lib.hid hC1
      have G3 := Lib.hid g3
      have Hl := Lib.hid hl1
      have HR2 := Lib.hid hR2
      have Hrec := Lib.hid hrec
      have Hpost := Lib.hid hpost
      clear hu hm hn hC1 g3 hl1 hR2 hC hrec hpost
      by_cases hz : m = 0
      · subst hz
        obtain ⟨N, hN⟩ : ∃ N, ((T.nums (lists pre)).take 17).length = N := ⟨_, rfl⟩
        rw [hN] at g1 G3
        have hNle : N ≤ 17 := by rw [← hN]; simp; omega
        obtain ⟨i0, hi0, hz0, hz1, hz2⟩ := info_parts info_u64
        by_cases h16 : N ≤ 16
        · have hmore := take_more (ps := lists pre) x.data.toList (by rw [hN]; exact h16)
          rw [Hu.out] at hmore
          have Hmore := Lib.hid hmore
          have HN := Lib.hid hN
          clear hmore hN
          gi_wp2_with (first
            | (refine ⟨trivial, ?_⟩; (with_reducible refine (CallsIn.inRound (w.heap.size + 7) (callsIn_wide.2 (readNumber_c x _ hxs hrd.out))).mono ?_); rintro e W2 ⟨rfl, hb2⟩; rw [Hu.out, Hm.out]; have hK2 := Lib.hid (keeps_below hb2 HC.out.size); have Hb2 := Lib.hid hb2; clear hb2; have k0 := (HC.out.keeps hK2.out).c0; have kf0 := (HC.out.keeps hK2.out).f0; have k1 := (HC.out.keeps hK2.out).c1; have kf1 := (HC.out.keeps hK2.out).f1; have k2 := (hK2.out.cell (k := w.heap.size + 1 + 1) (o := 0) (by omega) (by omega)).trans g1; have kf2 := (hK2.out.frozen (k := w.heap.size + 1 + 1) (o := 0) (by omega) (by omega)).trans g2)
            | (gi_at_builtin; refine wpListIn_append_own _ rfl (.tmp 22) (.tmp 24) 27 rfl (w.heap.size + 6) 23 i0 (.int .u64 0) 1 8 Tryd.underlying27 hi0 hz0 hz1 hz2 rfl (by decide) (.slice A N c) N (vals ((T.nums (lists pre)).take 17)) rfl (by have := (own_keeps hK2.out G3.out).2; rw [HN.out] at this; exact this.alloc _) ⟨W2.heap.size, 0, none⟩ 1 1 [.int .u64 (u : Int)] rfl rfl (cell_one_new _ _ _) (by intro y hy; simp at hy; subst hy; rfl) (by unfold maxLen; omega) (by omega) (by have := HC.out.size; have := Hb2.out.size; simp; omega) ?_; intro v4 W4 hown4 hgrow4 hnil4; clear hnil4; obtain ⟨A4, c4, rfl⟩ := ownsRow_succ hown4; have H4 := Lib.hid hown4; have Hg4 := Lib.hid hgrow4; have hrow2 := Lib.hid ((by have := (own_keeps hK2.out G3.out).2; rw [HN.out] at this; exact this.alloc _) : (W2.alloc (.cells #[.int .u64 (u : Int)] 23)).ownsRow (w.heap.size + 6) 23 1 (.slice A N c) N (vals ((T.nums (lists pre)).take 17))); clear hown4 hgrow4; have hsz2 : w.heap.size + 8 ≤ W2.heap.size := Nat.le_trans HC.out.size Hb2.out.size; have hlt4 := Lib.hid (fun (k : Nat) (hk : k < w.heap.size + 6) => (grown_lt hrow2.out Hg4.out (k := k) (by simp; omega) hk).trans (Below.heap_alloc W2 _ k (by omega))); have q2 := (World.cell?_of_block (a := ⟨w.heap.size + 1 + 1, 0, none⟩) (hlt4.out (w.heap.size + 1 + 1) (by omega))).trans k2; have qf2 := (World.frozen?_of_block (a := ⟨w.heap.size + 1 + 1, 0, none⟩) (hlt4.out (w.heap.size + 1 + 1) (by omega))).trans kf2))
          have hC2 := HC.out.keeps hK2.out
          have hlo : ∀ k, k < w.heap.size + 6 → k ≠ w.heap.size + 1 + 1 → (W4.setCell ⟨w.heap.size + 1 + 1, 0, none⟩ (.slice (some ⟨A4, 0, none⟩) (N + 1) c4)).heap[k]? = W2.heap[k]? := fun k hk hne => (Below.heap_setCell _ _ _ k hne).trans (hlt4.out k hk)
          have hbig : ∀ k o, w.heap.size + 6 ≤ k → W2.heap[k]? = some o → o.isCells = false → (W4.setCell ⟨w.heap.size + 1 + 1, 0, none⟩ (.slice (some ⟨A4, 0, none⟩) (N + 1) c4)).heap[k]? = some o := fun k o hk ho hc => (Below.heap_setCell _ _ _ k (by simp; omega)).trans (grown_obj hrow2.out Hg4.out (heap_old ho) hc)
          have hbel4 : Below w.heap.size W2 W4 := ((Below.refl _ W2).alloc (by omega) _).grown Hg4.out (by simp; omega) (fun k hk => by have := (hrow2.out.lt k hk).1; omega)
          have hlen : ((T.nums (lists pre ++ [x.data.toList])).take 17).length = N + 1 := by rw [← Hmore.out, List.length_append, HN.out]; rfl
          refine ⟨hbig _ _ (by omega) ((Hb2.out.block _ (by have := HC.out.size; omega)).trans Hl.out) rfl, ⟨T.allOk_snoc HC.out.ok Hm.out, ?_, ?_, ?_, ?_, ⟨some ⟨A4, 0, none⟩, c4, ?_, ?_, ?_⟩, ?_, ?_, ?_, ?_, ?_⟩, ?_, ?_⟩
          · exact (World.cell?_of_block (hlo _ (by simp) (by simp; omega))).trans hC2.c0
          · exact (World.frozen?_of_block (hlo _ (by simp) (by simp; omega))).trans hC2.f0
          · exact (World.cell?_of_block (hlo _ (by simp <;> omega) (by simp <;> omega))).trans hC2.c1
          · exact (World.frozen?_of_block (hlo _ (by simp <;> omega) (by simp <;> omega))).trans hC2.f1
          · rw [hlen]; exact World.cell?_setCell_same _ _ _ q2
          · rw [World.frozen?_setCell]; exact qf2
          · rw [hlen]
            refine ⟨fun y hy => nums_ok17 _ y hy, ?_⟩
            rw [hlen, ← Hmore.out, vals_app]
            exact ownsRow_setCell_below H4.out (by simp) _
          · exact (World.cell?_of_block (hlo _ (by simp <;> omega) (by simp <;> omega))).trans hC2.sep
          · exact (World.cell?_of_block (hlo _ (by simp <;> omega) (by simp <;> omega))).trans hC2.save
          · exact hbig _ _ (by omega) hC2.dfr rfl
          · exact ((HC.out.bel.trans hK2.out.bel).trans hbel4).setCell (p := ⟨w.heap.size + 1 + 1, 0, none⟩) (by simp; omega) _
          · have := hbel4.size; simp; omega
          · exact (World.cell?_of_block (hlo _ (by simp <;> omega) (by simp <;> omega))).trans (World.cell?_of_block (Hb2.out.block _ (by have := HC.out.size; simp; omega)))
          · exact (World.frozen?_of_block (hlo _ (by simp <;> omega) (by simp <;> omega))).trans (World.frozen?_of_block (Hb2.out.block _ (by have := HC.out.size; simp; omega)))
        · have hfull := take_full (ps := lists pre) x.data.toList (by rw [hN]; exact h16)
          have Hfull := Lib.hid hfull
          have HN := Lib.hid hN
          clear hfull hN
          gi_wp2_with (refine ⟨trivial, ?_⟩; (with_reducible refine (CallsIn.inRound (w.heap.size + 7) (callsIn_wide.2 (readNumber_c x _ hxs hrd.out))).mono ?_); rintro e W2 ⟨rfl, hb2⟩; rw [Hu.out, Hm.out]; have hK2 := Lib.hid (keeps_below hb2 HC.out.size); have Hb2 := Lib.hid hb2; clear hb2; have k0 := (HC.out.keeps hK2.out).c0; have kf0 := (HC.out.keeps hK2.out).f0; have k1 := (HC.out.keeps hK2.out).c1; have kf1 := (HC.out.keeps hK2.out).f1; have k2 := (hK2.out.cell (k := w.heap.size + 1 + 1) (o := 0) (by omega) (by omega)).trans g1; have kf2 := (hK2.out.frozen (k := w.heap.size + 1 + 1) (o := 0) (by omega) (by omega)).trans g2)
          have hC2 := HC.out.keeps hK2.out
          obtain ⟨A2, c2, o1, o2, o3⟩ := hC2.own
          refine ⟨(Hb2.out.block _ (by have := HC.out.size; omega)).trans Hl.out, ⟨T.allOk_snoc HC.out.ok Hm.out, hC2.c0, hC2.f0, hC2.c1, hC2.f1, ⟨A2, c2, by rw [Hfull.out]; exact o1, o2, by rw [Hfull.out]; exact o3⟩, hC2.sep, hC2.save, hC2.dfr, hC2.bel, hC2.size⟩, ?_, ?_⟩
          · exact World.cell?_of_block (Hb2.out.block _ (by have := HC.out.size; simp; omega))
          · exact World.frozen?_of_block (Hb2.out.block _ (by have := HC.out.size; simp; omega))
      · have f : ((m : Int) != 0) = true := by rw [bne_iff_ne]; omega
        have hz' := Lib.hid hz
        clear hz
        gi_wp2_with (refine ⟨trivial, ?_⟩; (with_reducible refine (CallsIn.inRound (w.heap.size + 7) (callsIn_wide.2 (readNumber_c x _ hxs hrd.out))).mono ?_); rintro e W2 ⟨rfl, hb2⟩; rw [Hu.out, Hm.out]; have hK2 := Lib.hid (keeps_below hb2 HC.out.size); have Hb2 := Lib.hid hb2; clear hb2; have k0 := (HC.out.keeps hK2.out).c0; have kf0 := (HC.out.keeps hK2.out).f0; have k1 := (HC.out.keeps hK2.out).c1; have kf1 := (HC.out.keeps hK2.out).f1; have k2 := (hK2.out.cell (k := w.heap.size + 1 + 1) (o := 0) (by omega) (by omega)).trans g1; have kf2 := (hK2.out.frozen (k := w.heap.size + 1 + 1) (o := 0) (by omega) (by omega)).trans g2)
        have hlow : ∀ k, k ≠ w.heap.size → k ≠ w.heap.size + 1 → ((W2.setCell ⟨w.heap.size, 0, none⟩ (.slice none 0 0)).setCell ⟨w.heap.size + 1, 0, none⟩ (.int .i64 (m : Int))).heap[k]? = W2.heap[k]? := fun k h0 h1 =>
          (Below.heap_setCell _ _ _ k h1).trans (Below.heap_setCell _ _ _ k h0)
        have hs1 : (W2.setCell ⟨w.heap.size, 0, none⟩ (.slice none 0 0)).cell? ⟨w.heap.size + 1, 0, none⟩ = some (.int .i64 0) := by rw [World.cell?_setCell_other _ _ _ _ (by simp)]; exact k1
        refine ⟨?_, by rw [Hm.out]; exact hz'.out, ?_, ?_, ?_, ?_⟩
        · rw [hlow _ (by omega) (by omega), Hb2.out.block _ (by have := HC.out.size; omega)]; exact Hl.out
        · rw [World.cell?_setCell_other _ _ _ _ (by simp)]; exact World.cell?_setCell_same _ _ _ k0
        · rw [Hm.out]; exact World.cell?_setCell_same _ _ _ hs1
        · rw [hlow _ (by omega) (by omega), Hb2.out.block _ (by have := HC.out.size; omega)]; exact HC.out.dfr
        · exact ((HC.out.bel.trans hK2.out.bel).setCell (p := ⟨w.heap.size, 0, none⟩) (Nat.le_refl _) _).setCell (p := ⟨w.heap.size + 1, 0, none⟩) (by simp) _
  case post =>
    have hQ : Hid (r.pending = none ∧ r.state ≠ .busy) := Lib.hid (by rw [← hr]; exact ⟨rfl, by intro h; cases h⟩)
    rintro e W1 ⟨⟨v, rfl⟩, (⟨xs, hxs, hC, hrec⟩ | ⟨pre, x, post, hsp, p0, x', hpx, hok, hne, hst⟩)⟩
    · refine ⟨none, W1.putObj (w.heap.size + 7) (.loop { r with state := .exhausted }), by rw [← hQ.out.1]; exact run_endLoop hrec hQ.out.2, ?_⟩
      have hC1 := hC.keeps (keeps_put w.heap.size W1 r { r with state := .exhausted } hrec _ rfl)
      generalize hWW : W1.putObj (w.heap.size + 7) (.loop { r with state := .exhausted }) = W2 at *
      clear hWW hC hrec
      simp only [marked, hW6]
      clear hr hQ hW hW6 hs3 hf3 hL
      obtain ⟨A, c, g1, g2, g3⟩ := hC1.own
      obtain ⟨us, hus⟩ : ∃ us, (T.nums (lists xs)).take 17 = us := ⟨_, rfl⟩
      rw [hus] at g1 g3
      have hc0 := hC1.c0
      have hf0 := hC1.f0
      have hc1 := hC1.c1
      have hf1 := hC1.f1
      have HC := Lib.hid hC1
      have G3 := Lib.hid g3
      have Hus := Lib.hid hus
      have Hxs := Lib.hid hxs
      clear hC1 g3 hus hxs
      by_cases h16 : 1 ≤ us.length ∧ us.length ≤ 16
      · obtain ⟨h1, h2⟩ := h16
        gi_wp2_with (refine ⟨trivial, ?_⟩; (with_reducible refine (callsIn_wide.2 (zright_yes _ _ _ _ h1 h2)).mono ?_); rintro e w' ⟨rfl, rfl⟩)
        obtain ⟨eK, e1, e2, eB⟩ := end_cells HC.out (.slice A us.length c) (.int .i64 0)
        have hlen : (T.nums (lists xs)).length ≤ 16 := by
          have := congrArg List.length Hus.out
          rw [List.length_take] at this
          omega
        have hall : us = T.nums (T.split 44 s.data.toList) := by rw [← Hus.out, List.take_of_length_le (by omega), Hxs.out]
        have hpt : T.rdPoint s.data.toList = (us, 0) := by
          rw [hall]
          exact T.rdPoint_ok (by rw [← Hxs.out]; exact HC.out.ok) (by rw [← Hxs.out]; simpa [T.nums] using hlen)
        unfold endWorld at e1 e2
        refine ⟨by simp, .inl ⟨_, _, rfl, run_takeDeferred eK, ?_⟩⟩
        exact ⟨.tuple #[.slice A us.length c, .int .i64 0], by simp [results, Tryd.f8, go_sem, e1, e2], rdPt_own hpt (own_end HC.out G3.out _ _) eB⟩
      · have hus1 : 1 ≤ us.length := by
          rw [← Hus.out, List.length_take]
          have : 1 ≤ (T.split 44 s.data.toList).length := List.length_pos_iff.2 (T.split_ne 44 _)
          rw [← Hxs.out] at this
          simp [T.nums] at this ⊢
          omega
        have hus2 : us.length ≤ 17 := by rw [← Hus.out, List.length_take]; omega
        have H16 := Lib.hid h16
        clear h16
        gi_wp2_with (refine ⟨trivial, ?_⟩; (with_reducible refine (callsIn_wide.2 (zright_no _ _ _ _ (by unfold maxLen; omega) H16.out)).mono ?_); rintro e w' ⟨rfl, rfl⟩)
        obtain ⟨eK, e1, e2, eB⟩ := end_cells HC.out (.slice none 0 0) (.int .i64 2)
        have hlen : 16 < (T.nums (lists xs)).length := by
          have := congrArg List.length Hus.out
          have h16 := H16.out
          rw [List.length_take] at this
          omega
        have hpt : T.rdPoint s.data.toList = ([], 2) := T.rdPoint_many (by rw [← Hxs.out]; exact HC.out.ok) (by rw [← Hxs.out]; simpa [T.nums] using hlen)
        unfold endWorld at e1 e2
        refine ⟨by simp, .inl ⟨_, _, rfl, run_takeDeferred eK, ?_⟩⟩
        exact ⟨.tuple #[.slice none 0 0, .int .i64 2], by simp [results, Tryd.f8, go_sem, e1, e2], rdPt_err hpt eB⟩
    · obtain ⟨rfl, hx⟩ := List.append_inj' hpx rfl
      obtain rfl : x = x' := by simpa using hx
      have hst' := hst
      refine ⟨some .ret, _, run_endLoop hst.lp (by simp), ?_⟩
      have hpt := T.rdPoint_bad hsp hok hne
      have hdf : (W1.putObj (w.heap.size + 7) (.loop { r with state := .exhausted, pending := some .ret })).heap[w.heap.size + 6]? = some (.deferred (some [])) := (World.putObj_heap_other (by omega)).trans hst.dfr
      have e1 : ((W1.putObj (w.heap.size + 7) (.loop { r with state := .exhausted, pending := some .ret })).putObj (w.heap.size + 6) (.deferred none)).cell? ⟨w.heap.size, 0, none⟩ = some (.slice none 0 0) := ((cell_put (by omega)).1).trans (((cell_put (by omega)).1).trans hst.c0)
      have e2 : ((W1.putObj (w.heap.size + 7) (.loop { r with state := .exhausted, pending := some .ret })).putObj (w.heap.size + 6) (.deferred none)).cell? ⟨w.heap.size + 1, 0, none⟩ = some (.int .i64 ((T.rdNum x.data.toList).2 : Int)) := ((cell_put (by omega)).1).trans (((cell_put (by omega)).1).trans hst.c1)
      have eB : Below w.heap.size w ((W1.putObj (w.heap.size + 7) (.loop { r with state := .exhausted, pending := some .ret })).putObj (w.heap.size + 6) (.deferred none)) := below_put (below_put hst.bel (by omega)) (by omega)
      generalize hWW : W1.putObj (w.heap.size + 7) (.loop { r with state := .exhausted, pending := some .ret }) = W2 at *
      simp only [marked, hW6]
      clear hWW hr hW hs3 hf3 hL hst hst' hQ
      gi_wp2
      refine ⟨by simp, .inl ⟨_, _, rfl, run_takeDeferred hdf, ?_⟩⟩
      exact ⟨.tuple #[.slice none 0 0, .int .i64 ((T.rdNum x.data.toList).2 : Int)], by simp [results, Tryd.f8, go_sem, e1, e2], rdPt_err hpt eB⟩
end Go.Proofs.YtkhfjcaobjompaaDoor
