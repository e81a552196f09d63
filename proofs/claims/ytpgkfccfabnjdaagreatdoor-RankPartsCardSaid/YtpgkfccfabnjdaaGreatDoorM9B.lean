import Derived.Test.YtpgkfccfabnjdaaGreatDoorM9A
import Derived.Test.YtpgkfccfabnjdaaGreatDoorM64
import Derived.Test.YtpgkfccfabnjdaaGreatDoorM74
import Derived.Test.YtpgkfccfabnjdaaGreatDoorM75
/-
  RANK, for RankParts: slices.Backward over the steps of a way.
-/
namespace Go.Proofs.YtpgkfccfabnjdaaGreatDoor
open Go.RowKit Go.Shelf
open Tr (T S4 Ent)
attribute [local go_sem] Oper.semAt_some

theorem backS_c (A : Option Addr) (n c : Nat) (w : World) :
    Calls Tryz.prog 59 #[.slice A n c] w fun e w' => e = .returned (.func (.func 121) #[] #[.pointer (some ⟨w.heap.size, 0, none⟩)]) ∧ w' = w.alloc (.cells #[.slice A n c] 92) := by
  go_enter Tryz.func59, Tryz.ntmps59
  go_wp2
  go_ret
  exact ⟨rfl, rfl⟩
set_option maxRecDepth 100000 in
set_option maxHeartbeats 2000000 in
theorem backS_in (n : Nat) (hn : 1 ≤ n) (L Bs : Nat) (A : Option Addr) (c Bm : Nat) (xs : List (T × Nat)) (hl : xs.length ≤ 1000000) (J : Nat → World → Prop)
    (hJc : ∀ j W, J j W → W.cell? ⟨Bs, 0, none⟩ = some (.slice A xs.length c) ∧ Lst 2 StQ W Bm A xs)
    (hY : ∀ j t a W, J j W → j < xs.length → xs[xs.length - 1 - j]? = some (t, a) → YieldAt Fence.wide (n - 1) Tryz.prog L #[.int .i64 ((xs.length : Int) - 1 - (j : Int)), .agg #[.pointer (some ⟨t.blk, 0, none⟩), .int .i64 (a : Int)]] W fun e W' => e = .returned (.bool true) ∧ J (j + 1) W')
    (W : World) (h0 : J 0 W) :
    CallsIn Fence.wide n Tryz.prog 121 #[.func (Fn.yield L) #[] #[], .pointer (some ⟨Bs, 0, none⟩)] W fun e W' => (∃ v, e = .returned v) ∧ J xs.length W' := by
  refine callsIn_of_wp Tryz.func121 rfl trivial ?_ rfl
  simp only [Tryz.ntmps121, List.size_toArray, List.length_cons, List.length_nil, Nat.reduceAdd, Nat.reduceSub, Array.replicate_succ, Array.replicate_zero, List.push_toArray, List.append_toArray, List.nil_append, List.cons_append]
  obtain ⟨c0, -⟩ := hJc 0 W h0
  obtain ⟨N, hN⟩ : ∃ N, xs.length = N := ⟨_, rfl⟩
  rw [hN] at hl c0 hJc hY ⊢
  have HN := Lib.hid hN
  clear hN
  gi_wp2
  gi_loopw [3] (fun i wr => ∃ j : Nat, j ≤ N ∧ i = .int .i64 ((N : Int) - 1 - (j : Int)) ∧ J j wr) (fun i _ => (intOf i + 1).toNat)
  case atStart => exact ⟨0, Nat.zero_le _, by simp, h0⟩
  case round =>
    obtain ⟨j, hj, rfl, hjj⟩ := hrel
    clear c0
    obtain ⟨c0, hrd⟩ := hJc j wr hjj
    by_cases hlt : j < N
    · obtain ⟨x, hx⟩ := get_lt (us := xs) (k := N - 1 - j) (by rw [HN.out]; omega)
      obtain ⟨t, a⟩ := x
      obtain ⟨b, off, hA, hb, hQ⟩ := hrd (by rintro rfl; simp at hx)
      obtain ⟨e0, e1⟩ := hQ _ _ hx
      subst hA
      obtain ⟨I, hI⟩ : ∃ I : Nat, N - 1 - j = I := ⟨_, rfl⟩
      have hI' : (N : Int) - 1 - (j : Int) = (I : Int) := by omega
      rw [hI] at hx e0 e1
      replace e0 : wr.cell? ⟨b, off + I * 2, none⟩ = some (.pointer (some ⟨t.blk, 0, none⟩)) := e0
      replace e1 : wr.cell? ⟨b, off + I * 2 + 1, none⟩ = some (.int .i64 (a : Int)) := e1
      have hYj := hY j t a wr hjj hlt (by rw [hI]; exact hx)
      rw [hI'] at hYj ⊢
      obtain ⟨fn, tmps, assign, body, hy, hR⟩ := hYj
      have m1 : (0 : Int) ≤ (I : Int) := by omega
      have m2 : (I : Int) < (N : Int) := by omega
      have HI := Lib.hid hI'
      clear hI hI' hx hY hJc hjj hrd hQ
      gi_wp2
      refine hR.mono ?_
      rintro e W3 ⟨rfl, hJ3⟩
      clear c0 e0 e1 hy hR
      gi_wp2
      go_roundw
      case rel => exact ⟨j + 1, by omega, by (have := HI.out; first | (congr 1; omega) | (simp; omega)), hJ3⟩
      case measure => simp [intOf]
    · obtain rfl : j = N := by omega
      have e1 : (j : Int) - 1 - (j : Int) = -1 := by omega
      rw [e1]
      gi_wp2
      go_end0
      exact ⟨⟨_, rfl⟩, hjj⟩
end Go.Proofs.YtpgkfccfabnjdaaGreatDoor

/-
  RANK, for RankParts: the mathematics of a way's steps.
-/
namespace Go.Proofs.YtpgkfccfabnjdaaGreatDoor
open Go.RowKit Go.Shelf
open Tr (T S4 Ent)
namespace Tr

theorem way_inv {p : List Nat} {o oj : Option T} {t : T} {a : Nat} {R : List (T × Nat)} (h : Way p o ((t, a) :: R) oj) : Way p o R (some t) ∧ oj = kidAt t p ∧ t.lv ≠ 0 ∧ a = Z.addr p (t.lv - 1) := by
  cases h with
  | step h hl hc => exact ⟨h, rfl, hl, rfl⟩
theorem way_nil {p : List Nat} {o oj : Option T} (h : Way p o [] oj) : oj = o := by cases h; rfl
theorem kids_cut {ks : List (Nat × T)} (hs : Sl.Srt ks) (a : Nat) : entsL ks = entsL (ks.take (Sl.idx ks (a : Int))) ++ entsO (Sl.get ks (a : Int)) ++ entsL (ks.drop (Sl.idx ks (a : Int) + (if Sl.has ks (a : Int) = true then 1 else 0))) := by
  cases hg : Sl.get ks (a : Int) with
  | none =>
    have hh : Sl.has ks (a : Int) = false := by unfold Sl.has; rw [hg]; rfl
    rw [hh]
    simp only [Bool.false_eq_true, if_false, Nat.add_zero, entsO, List.append_nil]
    rw [← entsL_append, List.take_append_drop]
  | some s =>
    have hh : Sl.has ks (a : Int) = true := by unfold Sl.has; rw [hg]; rfl
    rw [hh]
    simp only [if_true]
    obtain ⟨u, hu, hmem⟩ := Sl.get_mem ks _ _ hg
    obtain rfl : u = a := by omega
    obtain ⟨j, hj⟩ := List.mem_iff_getElem?.1 hmem
    have e1 : Sl.idx ks (u : Int) = j := Sl.idx_of hs hj
    rw [e1]
    obtain ⟨hl, he⟩ := List.getElem?_eq_some_iff.1 hj
    have hsp : ks = ks.take j ++ (u, s) :: ks.drop (j + 1) := by rw [← he, ← List.drop_eq_getElem_cons hl, List.take_append_drop]
    conv => lhs; rw [hsp]
    rw [entsL_append]
    simp [entsL, entsO]
theorem step_facts {k : Nat} {p : List Nat} {o oj : Option T} {t : T} {a : Nat} {R : List (T × Nat)} (hp : p.length = k) (hok : Z.Ok p) (h : Way p o ((t, a) :: R) oj) (ho : ∀ t, o = some t → Wf k t) :
    ∃ g l pre ks, t = .br g l pre ks ∧ (∀ e ∈ entsL (ks.take (Sl.idx ks (a : Int))), key e.1 < key p) ∧ (∀ e ∈ entsL (ks.drop (Sl.idx ks (a : Int) + (if Sl.has ks (a : Int) = true then 1 else 0))), key p < key e.1) ∧
      entsL ks = entsL (ks.take (Sl.idx ks (a : Int))) ++ entsO oj ++ entsL (ks.drop (Sl.idx ks (a : Int) + (if Sl.has ks (a : Int) = true then 1 else 0))) := by
  obtain ⟨s1, s2, s3⟩ := h.sides hp hok ho
  have hw := (h.wf ho).2 (t, a) List.mem_cons_self
  obtain ⟨h1, h2, h3, h4⟩ := way_inv h
  cases t with
  | ent g q v => exact absurd rfl h3
  | br g l pre ks =>
    have hsrt := (kids_fit hw).2
    have hoj : oj = Sl.get ks (a : Int) := by rw [h2, h4]; rfl
    refine ⟨g, l, pre, ks, rfl, fun e he => s1 e (List.mem_append_right _ he), fun e he => ?_, by rw [hoj]; exact kids_cut hsrt a⟩
    cases hg : Sl.get ks (a : Int) with
    | none =>
      have hh : Sl.has ks (a : Int) = false := by unfold Sl.has; rw [hg]; rfl
      rw [hh] at he
      simp only [Bool.false_eq_true, if_false, Nat.add_zero] at he
      exact s3 (by rw [hoj, hg]) e (List.mem_append_left _ he)
    | some s =>
      have hh : Sl.has ks (a : Int) = true := by unfold Sl.has; rw [hg]; rfl
      rw [hh] at he
      simp only [if_true] at he
      exact s2 ⟨s, by rw [hoj, hg]⟩ e (List.mem_append_left _ he)
end Tr
end Go.Proofs.YtpgkfccfabnjdaaGreatDoor

/-
  RANK, for RankParts: Part. Laid by wip/gen64.py.
-/
namespace Go.Proofs.YtpgkfccfabnjdaaGreatDoor
open Go.RowKit Go.Shelf
open Tr (T S4 Ent key)
attribute [local go_sem] Oper.semAt_some

theorem isAheadO_c {w : World} {B k : Nat} {o : Option T} (hn : NodeO w B k o) (hB : B ≤ w.heap.size) {p : List Nat} {A : Option Addr} {c B' : Nat} (hp : Pts w B' A p) (hB' : B' ≤ w.heap.size) (hl : p.length = k) (k16 : k ≤ 16) (hs : Tr.Stop p o) :
    Calls Tryz.prog 58 #[.pointer (rootP o), .slice A p.length c] w fun e w' => ∃ r, e = .returned (.bool r) ∧ (r = true → ∀ e ∈ Tr.entsO o, key e.1 < key p) ∧ (r = false → ∀ e ∈ Tr.entsO o, key p ≤ key e.1) ∧ Below w.heap.size w w' := by
  cases o with
  | none =>
    refine (isAhead_no A p.length c w (by unfold maxLen; omega)).mono ?_
    rintro e w' ⟨rfl, rfl⟩
    exact ⟨false, rfl, fun h => (by cases h), fun _ e he => (by cases he), Below.refl _ _⟩
  | some t =>
    have hnt := hn t rfl
    obtain ⟨s1, s2, -, -⟩ := Tr.stop_side hnt.1 hl hp.1 hs
    obtain ⟨r, hr⟩ : ∃ r, decide (Z.cmp t.pre p < 0) = r := ⟨_, rfl⟩
    refine (isAhead_c (c := c) hnt hB hp hB' hl r hr).mono ?_
    rintro e w' ⟨rfl, hb⟩
    exact ⟨r, rfl, fun h => s1 (by subst h; exact of_decide_eq_true hr), fun h => s2 (by subst h; have := of_decide_eq_false hr; omega), hb⟩

structure PaJ (w1 : World) (k : Nat) (p : List Nat) (o : Option T) (us : List (T × Nat)) (D : Option Addr) (d g b j : Nat) (W : World) : Prop where
  cur : ∃ x y oj, W.heap[g]? = some (.cells #[.pointer (rootP x)] 75 (0, 0)) ∧ W.heap[g + 1]? = some (.cells #[.pointer (rootP y)] 75 (0, 0)) ∧ NodeO W W.heap.size k x ∧ NodeO W W.heap.size k y ∧ Tr.Way p o (us.drop j) oj ∧ Tr.entsO x ++ Tr.entsO y = Tr.entsO oj ∧ (∀ e ∈ Tr.entsO x, key e.1 < key p) ∧ (∀ e ∈ Tr.entsO y, key p ≤ key e.1)
  box : W.cell? ⟨b, 0, none⟩ = some (.slice D us.length d)
  dfr : W.heap[b + 1]? = some (.deferred (some []))
  bel : Below w1.heap.size w1 W
  size : b + 3 ≤ W.heap.size
theorem PaJ.put {w1 W : World} {k : Nat} {p : List Nat} {o : Option T} {us : List (T × Nat)} {D : Option Addr} {d g b j : Nat} (h : PaJ w1 k p o us D d g b j W) (hg : w1.heap.size ≤ g) (hgb : g + 1 < b) {q o' : Obj} (hl : W.heap[b + 2]? = some q) (hq : q.isCells = false) : PaJ w1 k p o us D d g b j (W.putObj (b + 2) o') := by
  obtain ⟨x, y, oj, c1, c2, c3, c4, c5⟩ := h.cur
  have hk : CellKeep W (W.putObj (b + 2) o') := CellKeep.putObj hl hq
  have hs : W.heap.size ≤ (W.putObj (b + 2) o').heap.size := by simp
  exact ⟨⟨x, y, oj, (World.putObj_heap_other (by omega)).trans c1, (World.putObj_heap_other (by omega)).trans c2, c3.keepc hk hs, c4.keepc hk hs, c5⟩, hk.cells _ _ h.box, (World.putObj_heap_other (by omega)).trans h.dfr, h.bel.trans (below_putObj W o' (by omega)), Nat.le_trans h.size hs⟩
theorem nodeO_var {W : World} {X B k : Nat} {q : Option Addr} {v : Value} {ty : TypeId} (h : W.heap[X]? = some (.cells #[.pointer q] ty (0, 0))) {t : Option T} (hn : NodeO W B k t) : NodeO (W.setCell ⟨X, 0, none⟩ v) B k t := fun s e => node_var h (hn s e)
theorem pa_step {w1 W1 W3 : World} {k : Nat} {p : List Nat} {o : Option T} {us : List (T × Nat)} {D : Option Addr} {d g b j : Nat} (hC : PaJ w1 k p o us D d g b j W1) (hg : w1.heap.size ≤ g) (hgb : g + 1 < b) {R2 : Loop} (hl : W1.heap[b + 2]? = some (.loop R2)) (hb2 : Below W1.heap.size W1 W3)
    {n1 n2 oj : Option T} (h1 : NodeO W3 W3.heap.size k n1) (h2 : NodeO W3 W3.heap.size k n2) (hw : Tr.Way p o (us.drop (j + 1)) oj) (he : Tr.entsO n1 ++ Tr.entsO n2 = Tr.entsO oj) (ha : ∀ e ∈ Tr.entsO n1, key e.1 < key p) (hp : ∀ e ∈ Tr.entsO n2, key p ≤ key e.1) :
    ((W3.setCell ⟨g, 0, none⟩ (.pointer (rootP n1))).setCell ⟨g + 1, 0, none⟩ (.pointer (rootP n2))).heap[b + 2]? = some (.loop R2) ∧ PaJ w1 k p o us D d g b (j + 1) ((W3.setCell ⟨g, 0, none⟩ (.pointer (rootP n1))).setCell ⟨g + 1, 0, none⟩ (.pointer (rootP n2))) := by
  obtain ⟨x, y, oj', c1, c2, -⟩ := hC.cur
  have hsz := hC.size
  have hs2 := hb2.size
  have x1 : W3.heap[g]? = some (.cells #[.pointer (rootP x)] 75 (0, 0)) := (hb2.block _ (by omega)).trans c1
  have x2 : W3.heap[g + 1]? = some (.cells #[.pointer (rootP y)] 75 (0, 0)) := (hb2.block _ (by omega)).trans c2
  have y1 := heap_setCell_same W3 g 0 _ 75 (.pointer (rootP n1)) x1
  have y2 : (W3.setCell ⟨g, 0, none⟩ (.pointer (rootP n1))).heap[g + 1]? = some (.cells #[.pointer (rootP y)] 75 (0, 0)) := (Below.heap_setCell _ _ _ _ (show g + 1 ≠ g by omega)).trans x2
  have z2 := heap_setCell_same _ (g + 1) 0 _ 75 (.pointer (rootP n2)) y2
  have hlow : ∀ q, q ≠ g → q ≠ g + 1 → ((W3.setCell ⟨g, 0, none⟩ (.pointer (rootP n1))).setCell ⟨g + 1, 0, none⟩ (.pointer (rootP n2))).heap[q]? = W3.heap[q]? := fun q a1 a2 => (Below.heap_setCell _ _ _ q a2).trans (Below.heap_setCell _ _ _ q a1)
  have n1' := nodeO_var (v := .pointer (rootP n2)) y2 (nodeO_var (v := .pointer (rootP n1)) x1 h1)
  have n2' := nodeO_var (v := .pointer (rootP n2)) y2 (nodeO_var (v := .pointer (rootP n1)) x1 h2)
  have hB : Below w1.heap.size w1 ((W3.setCell ⟨g, 0, none⟩ (.pointer (rootP n1))).setCell ⟨g + 1, 0, none⟩ (.pointer (rootP n2))) := ((hC.bel.trans (hb2.mono hC.bel.size)).setCell (p := ⟨g, 0, none⟩) hg _).setCell (p := ⟨g + 1, 0, none⟩) (by show _ ≤ g + 1; omega) _
  refine ⟨(hlow _ (by omega) (by omega)).trans ((hb2.block _ (by omega)).trans hl), ⟨n1, n2, oj, (Below.heap_setCell _ _ _ _ (show g ≠ g + 1 by omega)).trans y1, z2, ?_, ?_, hw, he, ha, hp⟩, ?_, ?_, hB, ?_⟩
  · rw [World.size_setCell, World.size_setCell]; exact n1'
  · rw [World.size_setCell, World.size_setCell]; exact n2'
  · exact (World.cell?_of_block (hlow b (by omega) (by omega))).trans ((hb2.cell (p := ⟨b, 0, none⟩) (by show b < _; omega)).trans hC.box)
  · exact (hlow _ (by omega) (by omega)).trans ((hb2.block _ (by omega)).trans hC.dfr)
  · rw [World.size_setCell, World.size_setCell]; omega
theorem TreeX.keepc {w w' : World} {b k : Nat} {o : Option T} (h : TreeX w b k o) (hk : CellKeep w w') (hs : w.heap.size ≤ w'.heap.size) : TreeX w' b k o := by
  obtain ⟨⟨h1, h2, h3, h4, h5⟩, h6⟩ := h
  exact ⟨⟨Nat.lt_of_lt_of_le h1 hs, h2, h3, ⟨hk.cells _ _ h4.1, hk.cells _ _ h4.2⟩, h5.keepc hk hs⟩, hk.trb _ h6⟩
theorem PaJ.later {w1 W W' : World} {k : Nat} {p : List Nat} {o : Option T} {us : List (T × Nat)} {D : Option Addr} {d g b j : Nat} (h : PaJ w1 k p o us D d g b j W) (hgb : g + 1 < b) (hb : Below W.heap.size W W') : PaJ w1 k p o us D d g b j W' := by
  obtain ⟨x, y, oj, c1, c2, c3, c4, c5⟩ := h.cur
  have hs := h.size
  exact ⟨⟨x, y, oj, (hb.block _ (by omega)).trans c1, (hb.block _ (by omega)).trans c2, c3.below hb (Nat.le_refl _) hb.size, c4.below hb (Nat.le_refl _) hb.size, c5⟩, (hb.cell (p := ⟨b, 0, none⟩) (by show b < _; omega)).trans h.box, (hb.block _ (by omega)).trans h.dfr, Below.andThen h.bel hb, Nat.le_trans hs hb.size⟩
theorem one_round2 {F : Fence} {m : Nat} {P : Program} {L : Nat} {r : Loop} {args : Array Value} {W W1 : World} {a1 : Act} {R : Ending → World → Prop} (hF : F.fn r.fn)
    (hl : W.heap[L]? = some (.loop r)) (hl1 : W1.heap[L]? = some (.loop r)) (hr : r.state = .ready) (hs : args.size = r.params.size)
    (hassign : ∀ K : Act → World → Prop, K a1 W1 → r.assign.wpIn (F.inRound L) m P (Exit.then K (fun _ _ _ => False)) { tmps := (r.params.zip args).foldl (fun t (p, v) => t.setIfInBounds p v) r.tmps, defers := [] } W)
    (hbody : r.body.wpIn (F.inRound L) m P (fun e _ W3 => match e with
      | .normal => W3.heap[L]? = some (.loop { r with state := .busy }) ∧ R (.returned (.bool true)) (W3.putObj L (.loop { r with state := .ready, pending := none }))
      | .ret => W3.heap[L]? = some (.loop { r with state := .busy }) ∧ R (.returned (.bool false)) (W3.putObj L (.loop { r with state := .done, pending := some .ret }))
      | _ => False) a1 (W1.putObj L (.loop { r with state := .busy }))) :
    YieldAt F m P L args W R := by
  refine ⟨r.fn, _, r.assign, r.body, run_yield hl hs, roundIn_of_wpIn hF (hassign _ ⟨_, run_beginRound hl1 hr, wpIn_mono hbody ?_⟩)⟩
  intro e a3 W3 h
  cases e with
  | normal => exact ⟨_, _, run_endRound none h.1, h.2⟩
  | ret => exact ⟨_, _, run_endRound (some .ret) h.1, h.2⟩
  | exit id => exact h.elim
  | goto t => exact h.elim
  | panic ch => exact h.elim
  | outgrown => exact h.elim
theorem pa_start {w1 W5 : World} {k : Nat} {p : List Nat} {o : Option T} {us : List (T × Nat)} {D : Option Addr} {d : Nat} {x y o' : Option T} (h0 : W5.heap[w1.heap.size]? = some (.cells #[.pointer (rootP x)] 75 (0, 0))) (h1 : W5.heap[w1.heap.size + 1]? = some (.cells #[.pointer (rootP y)] 75 (0, 0))) (nx : NodeO W5 W5.heap.size k x) (ny : NodeO W5 W5.heap.size k y)
    (hw : Tr.Way p o us o') (he : Tr.entsO x ++ Tr.entsO y = Tr.entsO o') (ha : ∀ e ∈ Tr.entsO x, key e.1 < key p) (hp : ∀ e ∈ Tr.entsO y, key p ≤ key e.1) (hb : Below w1.heap.size w1 W5) (r0 : Loop) :
    PaJ w1 k p o us D d w1.heap.size W5.heap.size 0 (rangeWorld (W5.alloc (.cells #[.slice D us.length d] 92)) r0) ∧ (rangeWorld (W5.alloc (.cells #[.slice D us.length d] 92)) r0).heap[W5.heap.size + 2]? = some (.loop r0) := by
  have hbl : Below W5.heap.size W5 (rangeWorld (W5.alloc (.cells #[.slice D us.length d] 92)) r0) := (((Below.refl _ W5).alloc (Nat.le_refl _) _).alloc (by simp) _).alloc (by simp; omega) _
  have g1 : (rangeWorld (W5.alloc (.cells #[.slice D us.length d] 92)) r0).heap[W5.heap.size]? = some (.cells #[.slice D us.length d] 92) := hav_old (hav_old (hav_next rfl))
  have g2 : (rangeWorld (W5.alloc (.cells #[.slice D us.length d] 92)) r0).heap[W5.heap.size + 1]? = some (.deferred (some [])) := hav_old (hav_next (by simp))
  have g3 : (rangeWorld (W5.alloc (.cells #[.slice D us.length d] 92)) r0).heap[W5.heap.size + 2]? = some (.loop r0) := hav_next (by simp)
  have hsz : W5.heap.size + 3 ≤ (rangeWorld (W5.alloc (.cells #[.slice D us.length d] 92)) r0).heap.size := by have := (Array.getElem?_eq_some_iff.1 g3).1; omega
  exact ⟨⟨⟨x, y, o', hav_old (hav_old (hav_old h0)), hav_old (hav_old (hav_old h1)), nx.below hbl (Nat.le_refl _) hbl.size, ny.below hbl (Nat.le_refl _) hbl.size, by rw [List.drop_zero]; exact hw, he, ha, hp⟩, (hav_cell g1).1, g2, hb.trans (hbl.mono hb.size), hsz⟩, g3⟩
theorem pa_math {k : Nat} {oj x y : Option T} {g l : Nat} {pre : List Nat} {ks : List (Nat × T)} {f la : Nat} (hw : Tr.Wf k (.br g l pre ks)) (he : Tr.entsO x ++ Tr.entsO y = Tr.entsO oj) (hall : Tr.entsL ks = Tr.entsL (ks.take f) ++ Tr.entsO oj ++ Tr.entsL (ks.drop la)) :
    Tr.Bef (Tr.entsL (ks.take f)) (Tr.entsO x) ∧ Tr.Bef (Tr.entsO y) (Tr.entsL (ks.drop la)) ∧ Tr.entsL ks = Tr.entsL (ks.take f) ++ (Tr.entsO x ++ Tr.entsO y) ++ Tr.entsL (ks.drop la) := by
  have hz : Tr.ZS (Tr.entsL ks) := by have := hw.zs; rw [Tr.ents_br] at this; exact this
  rw [hall, ← he] at hz
  have h1 := List.pairwise_append.1 hz
  have h2 := List.pairwise_append.1 h1.1
  exact ⟨fun e m f' m' => h2.2.2 e m f' (List.mem_append_left _ m'), fun e m f' m' => h1.2.2 e (List.mem_append_right _ (List.mem_append_right _ m)) f' m', by rw [he]; exact hall⟩
end Go.Proofs.YtpgkfccfabnjdaaGreatDoor

/-
  RANK, for RankParts: Part, the walk. Laid by wip/gen65.py.
-/
namespace Go.Proofs.YtpgkfccfabnjdaaGreatDoor
open Go.RowKit Go.Shelf
open Tr (T S4 Ent key)
attribute [local go_sem] Oper.semAt_some
set_option maxRecDepth 1000000 in
set_option maxHeartbeats 8000000 in
theorem kPart_c {w : World} {b k : Nat} {o : Option T} (ht : TreeX w b k o) (hT : ∀ w', Below w.heap.size w w' → Tz w') (hN : (Tr.entsO o).length ≤ 100000000) {p : List Nat} {A : Option Addr} {c : Nat} (hp : Pts w w.heap.size A p) (hl : p.length = k) :
    Calls Tryz.prog 18 #[.pointer (some ⟨b, 0, none⟩), .slice A p.length c] w fun e w' => ∃ b1 o1 b2 o2, e = .returned (.tuple #[.pointer (some ⟨b1, 0, none⟩), .pointer (some ⟨b2, 0, none⟩), .int .i64 0]) ∧ TreeX w' b1 k o1 ∧ TreeX w' b2 k o2 ∧ Tr.entsO o1 ++ Tr.entsO o2 = Tr.entsO o ∧ (∀ e ∈ Tr.entsO o1, key e.1 < key p) ∧ (∀ e ∈ Tr.entsO o2, key p ≤ key e.1) ∧ Below w.heap.size w w' := by
  have htt := ht
  obtain ⟨⟨hbB, k1, k16, htc, hno⟩, -⟩ := htt
  refine (callsIn_wide (n := 8)).1 ?_
  refine callsIn_of_wp_marks Tryz.func18 rfl trivial ?_ rfl
  simp only [Tryz.ntmps18, List.size_toArray, List.length_cons, List.length_nil, Nat.reduceAdd, Nat.reduceSub, Array.replicate_succ, Array.replicate_zero, List.push_toArray, List.append_toArray, List.nil_append, List.cons_append]
  have HR := Lib.hid (kRef_ok htc A p.length c k1 k16 hl)
  have HO := Lib.hid (tRoot_c htc)
  have HW := Lib.hid (wayTo_c (c := c) hno (Nat.le_refl _) hp hl)
  have HX := Lib.hid (And.intro ht (And.intro hno (And.intro hT (And.intro hN (And.intro hp (And.intro hl (And.intro k1 k16)))))))
  clear hbB k1 k16 htc hno hT hN hp hl ht
  gi_wp2_with (refine ⟨trivial, ?_⟩; first
    | ((with_reducible refine (callsIn_wide.2 HR.out).mono ?_); rintro e w' ⟨rfl, rfl⟩)
    | ((with_reducible refine (callsIn_wide.2 HO.out).mono ?_); rintro e w' ⟨rfl, rfl⟩)
    | ((with_reducible refine (callsIn_wide.2 HW.out).mono ?_); rintro e w1 ⟨us, o', D, d, hway, hstop, rfl, hrow, hb1⟩; have H1 := Lib.hid (And.intro hway (And.intro hstop (And.intro hrow hb1))); clear hway hstop hrow hb1))
  obtain ⟨W2, hW2⟩ : ∃ W2, W2 = (w1.alloc (.cells #[.pointer none] 75)).alloc (.cells #[.pointer none] 75) := ⟨_, rfl⟩
  rw [← hW2]
  have hb12 : Below w1.heap.size w1 W2 := by rw [hW2]; ((repeat (first | refine Below.drew ?_ | (with_reducible refine below_drewN _ ?_) | refine Below.alloc ?_ (by first | omega | (simp; done) | (simp; omega)) _ | refine Below.setCell ?_ (by first | omega | (simp; done) | (simp; omega)) _)); first | exact Below.refl _ _ | assumption | exact below_drewN _ (Below.refl _ _) | exact below_drewN _ (below_drewN _ (Below.refl _ _)))
  have g0 : W2.heap[w1.heap.size]? = some (.cells #[.pointer none] 75) := by rw [hW2]; exact hav_old (hav_next rfl)
  have g1 : W2.heap[w1.heap.size + 1]? = some (.cells #[.pointer none] 75) := by rw [hW2]; exact hav_next (by simp)
  clear hW2
  have hb02 := H1.out.2.2.2.trans (hb12.mono H1.out.2.2.2.size)
  have hno' : NodeO w w.heap.size k o' := way_node HX.out.2.1 H1.out.1
  have HA := Lib.hid (isAheadO_c (c := c) (hno'.below hb02 (Nat.le_refl _) hb02.size) (Nat.le_refl _) (HX.out.2.2.2.2.1.below' hb02 (Nat.le_refl _)) hb02.size HX.out.2.2.2.2.2.1 HX.out.2.2.2.2.2.2.2 H1.out.2.1)
  clear hno'
  gi_wp2_with fail
  refine ⟨trivial, ?_⟩
  refine (callsIn_wide.2 HA.out).mono ?_
  rintro e w3 ⟨r, rfl, hr1, hr2, hb3⟩
  have hsz2 : w1.heap.size + 2 ≤ W2.heap.size := by have := (Array.getElem?_eq_some_iff.1 g1).1; omega
  have x0 := (hb3.block _ (by omega)).trans g0
  have x1 := (hb3.block _ (by omega)).trans g1
  have c0 : w3.cell? ⟨w1.heap.size, 0, none⟩ = some (.pointer none) := by rw [cell_of_row w3 _ _ _ _ (0, 0) x0]; rfl
  have c1 : w3.cell? ⟨w1.heap.size + 1, 0, none⟩ = some (.pointer none) := by rw [cell_of_row w3 _ _ _ _ (0, 0) x1]; rfl
  have f0 := frozen_of_row w3 w1.heap.size 0 _ _ x0
  have f1 := frozen_of_row w3 (w1.heap.size + 1) 0 _ _ x1
  have hb13 := hb12.trans (hb3.mono hb12.size)
  have hb03 := H1.out.2.2.2.trans (hb13.mono H1.out.2.2.2.size)
  have hno' : NodeO w3 w3.heap.size k o' := NodeO.below (B := w.heap.size) (way_node HX.out.2.1 H1.out.1) hb03 (Nat.le_refl _) hb03.size
  have hsz3 : w1.heap.size + 2 ≤ w3.heap.size := Nat.le_trans hsz2 hb3.size
  have HS := Lib.hid (And.intro x0 (And.intro x1 (And.intro hb13 (And.intro hno' hsz3))))
  clear HA x0 x1 hb13 hb03 hno' hb3 hb12 hb02 g0 g1 hsz2 hsz3
  have hpl : us.reverse.length = us.length := List.length_reverse
  have hl64 := (H1.out.1.len (fun t e => (HX.out.2.1 t e).1)).1
  have hrow := H1.out.2.2.1
  obtain ⟨A', c', hv', hc', hrd⟩ := OwnL.rd stQ_ok hrow
  rw [hpl] at hv'
  simp only [Value.slice.injEq, true_and] at hv'
  obtain ⟨rfl, rfl⟩ := hv'
  have HL := Lib.hid (And.intro hpl (And.intro hl64 hrd))
  clear hpl hl64 hrow hc' hrd
  cases r with
  | true =>
    gi_wp2_with fail
    obtain ⟨W5, hW5⟩ : ∃ W5, W5 = w3.setCell ⟨w1.heap.size, 0, none⟩ (.pointer (rootP o')) := ⟨_, rfl⟩
    rw [← hW5]
    have y0 : W5.heap[w1.heap.size]? = some (.cells #[.pointer (rootP o')] 75 (0, 0)) := by rw [hW5]; exact heap_setCell_same w3 w1.heap.size 0 _ _ (.pointer (rootP o')) HS.out.1
    have y1 : W5.heap[w1.heap.size + 1]? = some (.cells #[.pointer (rootP none)] 75 (0, 0)) := by rw [hW5]; exact (Below.heap_setCell _ _ _ _ (show w1.heap.size + 1 ≠ w1.heap.size by omega)).trans HS.out.2.1
    have yn : NodeO W5 W5.heap.size k o' := by rw [hW5, World.size_setCell]; exact nodeO_var HS.out.1 HS.out.2.2.2.1
    have yb : Below w1.heap.size w1 W5 := by rw [hW5]; exact HS.out.2.2.1.setCell (p := ⟨w1.heap.size, 0, none⟩) (by show _ ≤ w1.heap.size; omega) _
    have ys : w1.heap.size + 2 ≤ W5.heap.size := by rw [hW5, World.size_setCell]; exact HS.out.2.2.2.2
    have hST := fun r0 => pa_start (x := o') (y := none) y0 y1 yn (NodeO.none _ _ _) H1.out.1 (List.append_nil _) (hr1 (by first | rfl | trivial)) (fun e he => (by cases he)) yb r0 (D := D) (d := d)
    have HB5 := Lib.hid (And.intro yb (And.intro ys hST))
    clear hW5 y0 y1 yn yb hST hr1 hr2 c0 c1 f0 f1 HS
    refine ⟨trivial, ?_⟩
    refine (callsIn_wide.2 (backS_c D us.length d _)).mono ?_
    rintro e w' ⟨rfl, rfl⟩
    gi_wp2_with fail
    refine range_at rfl (by omega) (gf := 121) (lb := #[.pointer (some ⟨W5.heap.size, 0, none⟩)]) rfl trivial (enters_of Tryz.func121 (by kernel_rfl) rfl) ?_
    intro fn _
    generalize hr : recOf fn _ _ _ _ _ = r0
    obtain ⟨hC, hrec⟩ := HB5.out.2.2 r0
    obtain ⟨W6, hW6⟩ : ∃ W6, W6 = W5.alloc (.cells #[.slice D us.length d] 92) := ⟨_, rfl⟩
    rw [← hW6] at hC hrec hr ⊢
    have hs6 : W6.heap.size = W5.heap.size + 1 := by rw [hW6]; simp
    have hL : W6.heap.size + 1 = W5.heap.size + 2 := by omega
    rw [hL]
    clear hW6
    refine (backS_in 7 (by omega) (W5.heap.size + 2) W5.heap.size D d w1.heap.size us.reverse (by rw [HL.out.1]; have := HL.out.2.1; omega) (fun j W => PaJ w1 k p o us D d w1.heap.size W5.heap.size j W ∧ W.heap[W5.heap.size + 2]? = some (.loop r0)) ?cells ?round (rangeWorld W6 r0) ⟨hC, hrec⟩).mono ?post
    case cells => exact fun j W h => ⟨by rw [HL.out.1]; exact h.1.box, lst_later2 stQ_ok HL.out.2.2 h.1.bel (Nat.le_refl _)⟩
    case round =>
      intro j t a W hJ hlt hy
      obtain ⟨hC, hrec⟩ := hJ
      rw [HL.out.1] at hlt hy ⊢
      have hui : us[j]? = some (t, a) := by
        rw [List.getElem?_reverse (by omega)] at hy
        rw [← hy]
        congr 1
        omega
      obtain ⟨huj, hue⟩ := List.getElem?_eq_some_iff.1 hui
      have hdrop : us.drop j = (t, a) :: us.drop (j + 1) := by rw [List.drop_eq_getElem_cons huj, hue]
      obtain ⟨x, y, oj, c1, c2, nx, ny, hway, hents, hax, hpy⟩ := hC.cur
      rw [hdrop] at hway
      obtain ⟨gg, l, pre, ks, htb, s1, s2, s3⟩ := Tr.step_facts (k := k) HX.out.2.2.2.2.2.1 HX.out.2.2.2.2.1.1 hway (fun t e => (HX.out.2.1 t e).1)
      have hwn := (Tr.way_inv hway).1
      have hb1 := H1.out.2.2.2
      have hbW := hb1.trans (hC.bel.mono hb1.size)
      have hnt : Node w w.heap.size k t := way_node_at HX.out.2.1 H1.out.1 (j := us.length - 1 - j) hy
      have hcnt := way_count HX.out.2.1 H1.out.1 (j := us.length - 1 - j) hy (by omega)
      subst htb
      rw [Tr.ents_br] at hcnt
      obtain ⟨m1, m2, m3⟩ := pa_math hnt.1 hents s3
      have hsz := hC.size
      refine one_round2 (r := r0) (W1 := W.alloc (.cells #[.pointer (some ⟨gg, 0, none⟩), .int .i64 (a : Int)] 100)) (a1 := { tmps := #[.pointer (some ⟨b, 0, none⟩), .slice A p.length c, undef, undef, .pointer none, .pointer none, .int .i64 0, .int .i64 0, .slice D us.length d, .pointer (rootP o'), .pointer (some ⟨w1.heap.size, 0, none⟩), .pointer (some ⟨w1.heap.size + 1, 0, none⟩), undef, .pointer (some ⟨W.heap.size, 0, none⟩), .pointer (some ⟨b, 0, none⟩), .slice A p.length c, .int .i64 0, .int .i64 0, .bool false, undef, .tuple #[.slice D us.length d, .pointer (rootP o')], .pointer (some ⟨b, 0, none⟩), .pointer (rootP o), .slice A p.length c, .tuple #[.slice D us.length d, .pointer (rootP o')], .slice D us.length d, .pointer (rootP o'), .pointer (rootP o'), .slice A p.length c, .bool true, .pointer (rootP o'), undef, .slice D us.length d, .func (.func 121) #[] #[.pointer (some ⟨W5.heap.size, 0, none⟩)], .int .i64 ((us.length : Int) - 1 - (j : Int)), .agg #[.pointer (some ⟨gg, 0, none⟩), .int .i64 (a : Int)], undef, undef, undef, undef, undef, undef, undef, undef, undef, undef, undef, undef, undef], defers := [] }) trivial hrec (hav_old hrec) (by rw [← hr]; rfl) (by rw [← hr]; rfl) ?assign ?body
      case assign =>
        intro K hK
        rw [← hr]
        simp only [recOf]
        gi_wp2
        exact hK
      case body =>
        have hC0 := hC.later (by omega) (below_alloc W (.cells #[.pointer (some ⟨gg, 0, none⟩), .int .i64 (a : Int)] 100))
        have hrec0 : (W.alloc (.cells #[.pointer (some ⟨gg, 0, none⟩), .int .i64 (a : Int)] 100)).heap[W5.heap.size + 2]? = some (.loop r0) := hav_old hrec
        have hst0 : (W.alloc (.cells #[.pointer (some ⟨gg, 0, none⟩), .int .i64 (a : Int)] 100)).heap[W.heap.size]? = some (.cells #[.pointer (some ⟨gg, 0, none⟩), .int .i64 (a : Int)] 100) := hav_next rfl
        have hbA := below_alloc W (.cells #[.pointer (some ⟨gg, 0, none⟩), .int .i64 (a : Int)] 100)
        generalize W.alloc (.cells #[.pointer (some ⟨gg, 0, none⟩), .int .i64 (a : Int)] 100) = WA at *
        have ys := HB5.out.2.1
        have hC1 := hC0.put (o' := .loop { r0 with state := .busy }) (Nat.le_refl _) (by omega) hrec0 rfl
        have hl1 : (WA.putObj (W5.heap.size + 2) (.loop { r0 with state := .busy })).heap[W5.heap.size + 2]? = some (.loop { r0 with state := .busy }) := World.putObj_heap_same (Array.getElem?_eq_some_iff.1 hrec0).1
        have hst1 := (World.putObj_heap_other (w := WA) (o := .loop { r0 with state := .busy }) (show W.heap.size ≠ W5.heap.size + 2 by omega)).trans hst0
        have hbP : Below w1.heap.size w1 (WA.putObj (W5.heap.size + 2) (.loop { r0 with state := .busy })) := hC1.bel
        have nx1 := (nx.below hbA (Nat.le_refl _) hbA.size).keepc (CellKeep.putObj (o' := .loop { r0 with state := .busy }) hrec0 rfl) (show WA.heap.size ≤ (WA.putObj (W5.heap.size + 2) (.loop { r0 with state := .busy })).heap.size by simp)
        have ny1 := (ny.below hbA (Nat.le_refl _) hbA.size).keepc (CellKeep.putObj (o' := .loop { r0 with state := .busy }) hrec0 rfl) (show WA.heap.size ≤ (WA.putObj (W5.heap.size + 2) (.loop { r0 with state := .busy })).heap.size by simp)
        have d1 := (World.putObj_heap_other (w := WA) (o := .loop { r0 with state := .busy }) (show w1.heap.size ≠ W5.heap.size + 2 by omega)).trans ((hbA.block _ (by omega)).trans c1)
        have d2 := (World.putObj_heap_other (w := WA) (o := .loop { r0 with state := .busy }) (show w1.heap.size + 1 ≠ W5.heap.size + 2 by omega)).trans ((hbA.block _ (by omega)).trans c2)
        have hbody := congrArg Loop.body hr
        obtain ⟨R2, hR2⟩ : ∃ R2, R2 = { r0 with state := .busy } := ⟨_, rfl⟩
        rw [← hR2] at hC1 hl1 hst1 hbP nx1 ny1 d1 d2
        refine wpIn_mono (body_eq hbody (?walk : Code.wpIn _ _ _ _ (fun e _ W3 => match e with | .normal => W3.heap[W5.heap.size + 2]? = some (.loop R2) ∧ PaJ w1 k p o us D d w1.heap.size W5.heap.size (j + 1) W3 | _ => False) _ _)) ?conv
        case conv =>
          intro e a3 W3 hp
          cases e with
          | normal =>
            obtain ⟨p1, p2⟩ := hp
            have hrr : ({ r0 with state := .ready, pending := none } : Loop) = r0 := by rw [← hr]; rfl
            refine ⟨by rw [← hR2]; exact p1, rfl, p2.put (Nat.le_refl _) (by omega) p1 rfl, ?_⟩
            have := World.putObj_heap_same (w := W3) (o := .loop { r0 with state := .ready, pending := none }) (Array.getElem?_eq_some_iff.1 p1).1
            rw [hrr] at this ⊢
            exact this
          | ret => exact hp.elim
          | exit id => exact hp.elim
          | goto t => exact hp.elim
          | panic ch => exact hp.elim
          | outgrown => exact hp.elim
        case walk =>
        rw [← hR2]
        generalize hW1 : WA.putObj (W5.heap.size + 2) (.loop R2) = W1 at *
        simp only [recOf]
        have hnt1 := hnt.below (hb1.trans (hbP.mono hb1.size)) (Nat.le_refl _) (Nat.le_trans hb1.size hbP.size)
        have HP := Lib.hid (part_c (w := W1) (B := W1.heap.size) hnt1 (Nat.le_refl _) (fun w' h => HX.out.2.2.1 w' ((hb1.trans (hbP.mono hb1.size)).trans (h.mono (Nat.le_trans hb1.size hbP.size)))) (nx1.keepc (CellKeep.refl _) (by rw [← hW1]; simp)) (ny1.keepc (CellKeep.refl _) (by rw [← hW1]; simp)) a rfl rfl rfl m1 m2 m3 (by have := HX.out.2.2.2.1; omega))
        have k0 : W1.cell? ⟨W.heap.size, 0, none⟩ = some (.pointer (some ⟨gg, 0, none⟩)) := by rw [cell_of_row W1 _ _ _ _ (0, 0) hst1]; rfl
        have k1 : W1.cell? ⟨W.heap.size, 1, none⟩ = some (.int .i64 (a : Int)) := by rw [cell_of_row W1 _ _ _ _ (0, 0) hst1]; rfl
        have c0 : W1.cell? ⟨w1.heap.size, 0, none⟩ = some (.pointer (rootP x)) := by rw [cell_of_row W1 _ _ _ _ (0, 0) d1]; rfl
        have c0' : W1.cell? ⟨w1.heap.size + 1, 0, none⟩ = some (.pointer (rootP y)) := by rw [cell_of_row W1 _ _ _ _ (0, 0) d2]; rfl
        have HC := Lib.hid (And.intro hC1 (And.intro hl1 (And.intro hwn (And.intro hents (And.intro s1 (And.intro s2 (And.intro s3 (And.intro hax (And.intro hpy ys)))))))))
        have HD := Lib.hid (And.intro d1 d2)
        clear hC1 hl1 hwn hents s1 s2 s3 hax hpy m1 m2 m3 hC hrec hC0 hrec0 hst0 hst1 hbA nx ny nx1 ny1 d1 d2 c1 c2 hbody hR2 hW1 hnt hnt1 hcnt hbP hbW hb1 hway hdrop hue huj hui hy hlt hsz hr ys
        gi_wp2_with (refine ⟨trivial, ?_⟩; (with_reducible refine (CallsIn.inRound (W5.heap.size + 2) (callsIn_wide.2 HP.out)).mono ?_); rintro e W3 ⟨n1, n2, rfl, hn1, hn2, he1, he2, hb2⟩; have q0 := (hb2.cell (p := ⟨w1.heap.size, 0, none⟩) (by have := HC.out.1.size; have := HC.out.2.2.2.2.2.2.2.2.2; show w1.heap.size < _; omega)).trans c0; have q1 := (hb2.cell (p := ⟨w1.heap.size + 1, 0, none⟩) (by have := HC.out.1.size; have := HC.out.2.2.2.2.2.2.2.2.2; show w1.heap.size + 1 < _; omega)).trans c0'; have q2 := frozen_of_row W3 w1.heap.size 0 _ _ ((hb2.block _ (by have := HC.out.1.size; have := HC.out.2.2.2.2.2.2.2.2.2; omega)).trans HD.out.1); have q3 := frozen_of_row W3 (w1.heap.size + 1) 0 _ _ ((hb2.block _ (by have := HC.out.1.size; have := HC.out.2.2.2.2.2.2.2.2.2; omega)).trans HD.out.2); have H3 := Lib.hid (And.intro hn1 (And.intro hn2 (And.intro he1 (And.intro he2 hb2)))); clear hn1 hn2 he1 he2 hb2)
        obtain ⟨hC1, hl1, hwn, hents, s1, s2, s3, hax, hpy, ys⟩ := HC.out
        obtain ⟨hn1, hn2, he1, he2, hb2⟩ := H3.out
        refine pa_step hC1 (Nat.le_refl _) (by omega) hl1 hb2 hn1 hn2 hwn ?_ ?_ ?_
        · rw [he1, he2]
          show _ = (T.br gg l pre ks).ents
          rw [Tr.ents_br, s3, ← hents]
          simp [List.append_assoc]
        · intro e he
          rw [he1] at he
          rcases List.mem_append.1 he with h | h
          · exact s1 e h
          · exact hax e h
        · intro e he
          rw [he2] at he
          rcases List.mem_append.1 he with h | h
          · exact hpy e h
          · exact Nat.le_of_lt (s2 e h)
    case post =>
      have hQ : Hid (r0.pending = none ∧ r0.state ≠ .busy) := Lib.hid (by rw [← hr]; exact ⟨rfl, by intro h; cases h⟩)
      rintro e W1 ⟨⟨v, rfl⟩, hC, hrec⟩
      have ys := HB5.out.2.1
      refine ⟨none, W1.putObj (W5.heap.size + 2) (.loop { r0 with state := .exhausted }), by rw [← hQ.out.1]; exact run_endLoop hrec hQ.out.2, ?_⟩
      have hC1 := hC.put (o' := .loop { r0 with state := .exhausted }) (Nat.le_refl _) (by omega) hrec rfl
      generalize W1.putObj (W5.heap.size + 2) (.loop { r0 with state := .exhausted }) = WW at *
      clear hC hrec
      simp only [marked, hs6]
      clear hr hQ hL
      rw [HL.out.1] at hC1
      obtain ⟨x, y, oj, c1, c2, nx, ny, hway, hents, hax, hpy⟩ := hC1.cur
      rw [List.drop_length] at hway
      have hoj := Tr.way_nil hway
      subst hoj
      have hb1 := H1.out.2.2.2
      have hbW := hb1.trans (hC1.bel.mono hb1.size)
      have hsz := hC1.size
      have htW := fun w' (h : Below WW.heap.size WW w') => HX.out.1.below (hbW.trans (h.mono hbW.size)) (Nat.le_refl _)
      have HH1 := Lib.hid (fun w' (h : Below WW.heap.size WW w') => rhaving_c (htW w' h) (nx.below h (Nat.le_refl _) h.size))
      have HH2 := Lib.hid (fun w' (h : Below WW.heap.size WW w') => rhaving_c (htW w' h) (ny.below h (Nat.le_refl _) h.size))
      have a0 : ∀ w', Below WW.heap.size WW w' → w'.cell? ⟨w1.heap.size, 0, none⟩ = some (.pointer (rootP x)) := fun w' h => by rw [cell_of_row w' _ _ _ _ (0, 0) ((h.block _ (by omega)).trans c1)]; rfl
      have a1 : ∀ w', Below WW.heap.size WW w' → w'.cell? ⟨w1.heap.size + 1, 0, none⟩ = some (.pointer (rootP y)) := fun w' h => by rw [cell_of_row w' _ _ _ _ (0, 0) ((h.block _ (by omega)).trans c2)]; rfl
      have HE := Lib.hid (And.intro hC1.dfr (And.intro hents (And.intro hax (And.intro hpy (And.intro hbW hsz)))))
      have hb0 : Below WW.heap.size WW WW := Below.refl _ _
      clear hC1 c1 c2 nx ny hway hents hax hpy hb1 hbW hsz htW ys hs6
      clear hC hrec
      gi_wp2
      refine wpIn_calm (fun Q2 hQ2 => ?_)
      refine wpIn_wide.2 ?_
      go_region_held3 (fun w' => Below WW.heap.size WW w') (((repeat (first | refine Below.drew ?_ | (with_reducible refine below_drewN _ ?_) | refine Below.alloc ?_ (by first | omega | (simp; done) | (simp; omega)) _ | refine Below.setCell ?_ (by first | omega | (simp; done) | (simp; omega)) _)); first | exact Below.refl _ _ | assumption | exact below_drewN _ (Below.refl _ _) | exact below_drewN _ (below_drewN _ (Below.refl _ _))))
        ((first
          | (go_at_call 61; refine (HH1.out _ (show Below WW.heap.size WW _ by ((repeat (first | refine Below.drew ?_ | (with_reducible refine below_drewN _ ?_) | refine Below.alloc ?_ (by first | omega | (simp; done) | (simp; omega)) _ | refine Below.setCell ?_ (by first | omega | (simp; done) | (simp; omega)) _)); first | exact Below.refl _ _ | assumption | exact below_drewN _ (Below.refl _ _) | exact below_drewN _ (below_drewN _ (Below.refl _ _))))).mono ?_; rintro e w4 ⟨b1, o1, rfl, ht1, he1, hb4⟩; have hB4 := Below.andThen (show Below WW.heap.size WW _ by ((repeat (first | refine Below.drew ?_ | (with_reducible refine below_drewN _ ?_) | refine Below.alloc ?_ (by first | omega | (simp; done) | (simp; omega)) _ | refine Below.setCell ?_ (by first | omega | (simp; done) | (simp; omega)) _)); first | exact Below.refl _ _ | assumption | exact below_drewN _ (Below.refl _ _) | exact below_drewN _ (below_drewN _ (Below.refl _ _)))) hb4; have H4 := Lib.hid (And.intro ht1 he1); clear HH1 ht1 he1 hb4)
          | (go_at_call 61; refine (HH2.out _ (show Below WW.heap.size WW _ by ((repeat (first | refine Below.drew ?_ | (with_reducible refine below_drewN _ ?_) | refine Below.alloc ?_ (by first | omega | (simp; done) | (simp; omega)) _ | refine Below.setCell ?_ (by first | omega | (simp; done) | (simp; omega)) _)); first | exact Below.refl _ _ | assumption | exact below_drewN _ (Below.refl _ _) | exact below_drewN _ (below_drewN _ (Below.refl _ _))))).mono ?_; rintro e w5 ⟨b2, o2, rfl, ht2, he2, hb5⟩; have hB5 := Below.andThen (show Below WW.heap.size WW _ by ((repeat (first | refine Below.drew ?_ | (with_reducible refine below_drewN _ ?_) | refine Below.alloc ?_ (by first | omega | (simp; done) | (simp; omega)) _ | refine Below.setCell ?_ (by first | omega | (simp; done) | (simp; omega)) _)); first | exact Below.refl _ _ | assumption | exact below_drewN _ (Below.refl _ _) | exact below_drewN _ (below_drewN _ (Below.refl _ _)))) hb5; have hb45 := Below.andThen (show Below w4.heap.size w4 _ by ((repeat (first | refine Below.drew ?_ | (with_reducible refine below_drewN _ ?_) | refine Below.alloc ?_ (by first | omega | (simp; done) | (simp; omega)) _ | refine Below.setCell ?_ (by first | omega | (simp; done) | (simp; omega)) _)); first | exact Below.refl _ _ | assumption | exact below_drewN _ (Below.refl _ _) | exact below_drewN _ (below_drewN _ (Below.refl _ _)))) hb5; have H5 := Lib.hid (And.intro ht2 (And.intro he2 (And.intro hb45 hB5))); clear ht2 he2 hb5 hb45 HH2)))
      refine hQ2 _ _ ?_
      clear hQ2 a0 a1
      gi_wp2
      obtain ⟨hdf, hents, hax, hpy, hbW, hsz⟩ := HE.out
      obtain ⟨ht2, he2, hb45, hB5'⟩ := H5.out
      have hK : w5.heap[W5.heap.size + 1]? = some (.deferred (some [])) := (hB5'.block _ (by omega)).trans hdf
      have hput : Below w.heap.size w5 (w5.putObj (W5.heap.size + 1) (.deferred none)) := below_putObj _ _ (by have := H1.out.2.2.2.size; have := HB5.out.2.1; omega)
      refine ⟨by simp, .inl ⟨_, _, rfl, run_takeDeferred hK, ?_⟩⟩
      exact ⟨.tuple #[.pointer (some ⟨b1, 0, none⟩), .pointer (some ⟨b2, 0, none⟩), .int .i64 0], by simp [results, Tryz.f18, go_sem], b1, o1, b2, o2, rfl, (H4.out.1.below hb45 (Nat.le_refl _)).keepc (CellKeep.putObj hK rfl) (by simp), ht2.keepc (CellKeep.putObj hK rfl) (by simp), by rw [H4.out.2, he2]; exact hents, fun e he => hax e (by rw [← H4.out.2]; exact he), fun e he => hpy e (by rw [← he2]; exact he), (hbW.trans (hB5'.mono hbW.size)).trans hput⟩
  | false =>
    gi_wp2_with fail
    obtain ⟨W5, hW5⟩ : ∃ W5, W5 = w3.setCell ⟨w1.heap.size + 1, 0, none⟩ (.pointer (rootP o')) := ⟨_, rfl⟩
    rw [← hW5]
    have y0 : W5.heap[w1.heap.size]? = some (.cells #[.pointer (rootP none)] 75 (0, 0)) := by rw [hW5]; exact (Below.heap_setCell _ _ _ _ (show w1.heap.size ≠ w1.heap.size + 1 by omega)).trans HS.out.1
    have y1 : W5.heap[w1.heap.size + 1]? = some (.cells #[.pointer (rootP o')] 75 (0, 0)) := by rw [hW5]; exact heap_setCell_same w3 (w1.heap.size + 1) 0 _ _ (.pointer (rootP o')) HS.out.2.1
    have yn : NodeO W5 W5.heap.size k o' := by rw [hW5, World.size_setCell]; exact nodeO_var HS.out.2.1 HS.out.2.2.2.1
    have yb : Below w1.heap.size w1 W5 := by rw [hW5]; exact HS.out.2.2.1.setCell (p := ⟨w1.heap.size + 1, 0, none⟩) (by show _ ≤ w1.heap.size + 1; omega) _
    have ys : w1.heap.size + 2 ≤ W5.heap.size := by rw [hW5, World.size_setCell]; exact HS.out.2.2.2.2
    have hST := fun r0 => pa_start (x := none) (y := o') y0 y1 (NodeO.none _ _ _) yn H1.out.1 rfl (fun e he => (by cases he)) (hr2 (by first | rfl | trivial)) yb r0 (D := D) (d := d)
    have HB5 := Lib.hid (And.intro yb (And.intro ys hST))
    clear hW5 y0 y1 yn yb hST hr1 hr2 c0 c1 f0 f1 HS
    refine ⟨trivial, ?_⟩
    refine (callsIn_wide.2 (backS_c D us.length d _)).mono ?_
    rintro e w' ⟨rfl, rfl⟩
    gi_wp2_with fail
    refine range_at rfl (by omega) (gf := 121) (lb := #[.pointer (some ⟨W5.heap.size, 0, none⟩)]) rfl trivial (enters_of Tryz.func121 (by kernel_rfl) rfl) ?_
    intro fn _
    generalize hr : recOf fn _ _ _ _ _ = r0
    obtain ⟨hC, hrec⟩ := HB5.out.2.2 r0
    obtain ⟨W6, hW6⟩ : ∃ W6, W6 = W5.alloc (.cells #[.slice D us.length d] 92) := ⟨_, rfl⟩
    rw [← hW6] at hC hrec hr ⊢
    have hs6 : W6.heap.size = W5.heap.size + 1 := by rw [hW6]; simp
    have hL : W6.heap.size + 1 = W5.heap.size + 2 := by omega
    rw [hL]
    clear hW6
    refine (backS_in 7 (by omega) (W5.heap.size + 2) W5.heap.size D d w1.heap.size us.reverse (by rw [HL.out.1]; have := HL.out.2.1; omega) (fun j W => PaJ w1 k p o us D d w1.heap.size W5.heap.size j W ∧ W.heap[W5.heap.size + 2]? = some (.loop r0)) ?cells ?round (rangeWorld W6 r0) ⟨hC, hrec⟩).mono ?post
    case cells => exact fun j W h => ⟨by rw [HL.out.1]; exact h.1.box, lst_later2 stQ_ok HL.out.2.2 h.1.bel (Nat.le_refl _)⟩
    case round =>
      intro j t a W hJ hlt hy
      obtain ⟨hC, hrec⟩ := hJ
      rw [HL.out.1] at hlt hy ⊢
      have hui : us[j]? = some (t, a) := by
        rw [List.getElem?_reverse (by omega)] at hy
        rw [← hy]
        congr 1
        omega
      obtain ⟨huj, hue⟩ := List.getElem?_eq_some_iff.1 hui
      have hdrop : us.drop j = (t, a) :: us.drop (j + 1) := by rw [List.drop_eq_getElem_cons huj, hue]
      obtain ⟨x, y, oj, c1, c2, nx, ny, hway, hents, hax, hpy⟩ := hC.cur
      rw [hdrop] at hway
      obtain ⟨gg, l, pre, ks, htb, s1, s2, s3⟩ := Tr.step_facts (k := k) HX.out.2.2.2.2.2.1 HX.out.2.2.2.2.1.1 hway (fun t e => (HX.out.2.1 t e).1)
      have hwn := (Tr.way_inv hway).1
      have hb1 := H1.out.2.2.2
      have hbW := hb1.trans (hC.bel.mono hb1.size)
      have hnt : Node w w.heap.size k t := way_node_at HX.out.2.1 H1.out.1 (j := us.length - 1 - j) hy
      have hcnt := way_count HX.out.2.1 H1.out.1 (j := us.length - 1 - j) hy (by omega)
      subst htb
      rw [Tr.ents_br] at hcnt
      obtain ⟨m1, m2, m3⟩ := pa_math hnt.1 hents s3
      have hsz := hC.size
      refine one_round2 (r := r0) (W1 := W.alloc (.cells #[.pointer (some ⟨gg, 0, none⟩), .int .i64 (a : Int)] 100)) (a1 := { tmps := #[.pointer (some ⟨b, 0, none⟩), .slice A p.length c, undef, undef, .pointer none, .pointer none, .int .i64 0, .int .i64 0, .slice D us.length d, .pointer (rootP o'), .pointer (some ⟨w1.heap.size, 0, none⟩), .pointer (some ⟨w1.heap.size + 1, 0, none⟩), undef, .pointer (some ⟨W.heap.size, 0, none⟩), .pointer (some ⟨b, 0, none⟩), .slice A p.length c, .int .i64 0, .int .i64 0, .bool false, undef, .tuple #[.slice D us.length d, .pointer (rootP o')], .pointer (some ⟨b, 0, none⟩), .pointer (rootP o), .slice A p.length c, .tuple #[.slice D us.length d, .pointer (rootP o')], .slice D us.length d, .pointer (rootP o'), .pointer (rootP o'), .slice A p.length c, .bool false, undef, .pointer (rootP o'), .slice D us.length d, .func (.func 121) #[] #[.pointer (some ⟨W5.heap.size, 0, none⟩)], .int .i64 ((us.length : Int) - 1 - (j : Int)), .agg #[.pointer (some ⟨gg, 0, none⟩), .int .i64 (a : Int)], undef, undef, undef, undef, undef, undef, undef, undef, undef, undef, undef, undef, undef], defers := [] }) trivial hrec (hav_old hrec) (by rw [← hr]; rfl) (by rw [← hr]; rfl) ?assign ?body
      case assign =>
        intro K hK
        rw [← hr]
        simp only [recOf]
        gi_wp2
        exact hK
      case body =>
        have hC0 := hC.later (by omega) (below_alloc W (.cells #[.pointer (some ⟨gg, 0, none⟩), .int .i64 (a : Int)] 100))
        have hrec0 : (W.alloc (.cells #[.pointer (some ⟨gg, 0, none⟩), .int .i64 (a : Int)] 100)).heap[W5.heap.size + 2]? = some (.loop r0) := hav_old hrec
        have hst0 : (W.alloc (.cells #[.pointer (some ⟨gg, 0, none⟩), .int .i64 (a : Int)] 100)).heap[W.heap.size]? = some (.cells #[.pointer (some ⟨gg, 0, none⟩), .int .i64 (a : Int)] 100) := hav_next rfl
        have hbA := below_alloc W (.cells #[.pointer (some ⟨gg, 0, none⟩), .int .i64 (a : Int)] 100)
        generalize W.alloc (.cells #[.pointer (some ⟨gg, 0, none⟩), .int .i64 (a : Int)] 100) = WA at *
        have ys := HB5.out.2.1
        have hC1 := hC0.put (o' := .loop { r0 with state := .busy }) (Nat.le_refl _) (by omega) hrec0 rfl
        have hl1 : (WA.putObj (W5.heap.size + 2) (.loop { r0 with state := .busy })).heap[W5.heap.size + 2]? = some (.loop { r0 with state := .busy }) := World.putObj_heap_same (Array.getElem?_eq_some_iff.1 hrec0).1
        have hst1 := (World.putObj_heap_other (w := WA) (o := .loop { r0 with state := .busy }) (show W.heap.size ≠ W5.heap.size + 2 by omega)).trans hst0
        have hbP : Below w1.heap.size w1 (WA.putObj (W5.heap.size + 2) (.loop { r0 with state := .busy })) := hC1.bel
        have nx1 := (nx.below hbA (Nat.le_refl _) hbA.size).keepc (CellKeep.putObj (o' := .loop { r0 with state := .busy }) hrec0 rfl) (show WA.heap.size ≤ (WA.putObj (W5.heap.size + 2) (.loop { r0 with state := .busy })).heap.size by simp)
        have ny1 := (ny.below hbA (Nat.le_refl _) hbA.size).keepc (CellKeep.putObj (o' := .loop { r0 with state := .busy }) hrec0 rfl) (show WA.heap.size ≤ (WA.putObj (W5.heap.size + 2) (.loop { r0 with state := .busy })).heap.size by simp)
        have d1 := (World.putObj_heap_other (w := WA) (o := .loop { r0 with state := .busy }) (show w1.heap.size ≠ W5.heap.size + 2 by omega)).trans ((hbA.block _ (by omega)).trans c1)
        have d2 := (World.putObj_heap_other (w := WA) (o := .loop { r0 with state := .busy }) (show w1.heap.size + 1 ≠ W5.heap.size + 2 by omega)).trans ((hbA.block _ (by omega)).trans c2)
        have hbody := congrArg Loop.body hr
        obtain ⟨R2, hR2⟩ : ∃ R2, R2 = { r0 with state := .busy } := ⟨_, rfl⟩
        rw [← hR2] at hC1 hl1 hst1 hbP nx1 ny1 d1 d2
        refine wpIn_mono (body_eq hbody (?walk : Code.wpIn _ _ _ _ (fun e _ W3 => match e with | .normal => W3.heap[W5.heap.size + 2]? = some (.loop R2) ∧ PaJ w1 k p o us D d w1.heap.size W5.heap.size (j + 1) W3 | _ => False) _ _)) ?conv
        case conv =>
          intro e a3 W3 hp
          cases e with
          | normal =>
            obtain ⟨p1, p2⟩ := hp
            have hrr : ({ r0 with state := .ready, pending := none } : Loop) = r0 := by rw [← hr]; rfl
            refine ⟨by rw [← hR2]; exact p1, rfl, p2.put (Nat.le_refl _) (by omega) p1 rfl, ?_⟩
            have := World.putObj_heap_same (w := W3) (o := .loop { r0 with state := .ready, pending := none }) (Array.getElem?_eq_some_iff.1 p1).1
            rw [hrr] at this ⊢
            exact this
          | ret => exact hp.elim
          | exit id => exact hp.elim
          | goto t => exact hp.elim
          | panic ch => exact hp.elim
          | outgrown => exact hp.elim
        case walk =>
        rw [← hR2]
        generalize hW1 : WA.putObj (W5.heap.size + 2) (.loop R2) = W1 at *
        simp only [recOf]
        have hnt1 := hnt.below (hb1.trans (hbP.mono hb1.size)) (Nat.le_refl _) (Nat.le_trans hb1.size hbP.size)
        have HP := Lib.hid (part_c (w := W1) (B := W1.heap.size) hnt1 (Nat.le_refl _) (fun w' h => HX.out.2.2.1 w' ((hb1.trans (hbP.mono hb1.size)).trans (h.mono (Nat.le_trans hb1.size hbP.size)))) (nx1.keepc (CellKeep.refl _) (by rw [← hW1]; simp)) (ny1.keepc (CellKeep.refl _) (by rw [← hW1]; simp)) a rfl rfl rfl m1 m2 m3 (by have := HX.out.2.2.2.1; omega))
        have k0 : W1.cell? ⟨W.heap.size, 0, none⟩ = some (.pointer (some ⟨gg, 0, none⟩)) := by rw [cell_of_row W1 _ _ _ _ (0, 0) hst1]; rfl
        have k1 : W1.cell? ⟨W.heap.size, 1, none⟩ = some (.int .i64 (a : Int)) := by rw [cell_of_row W1 _ _ _ _ (0, 0) hst1]; rfl
        have c0 : W1.cell? ⟨w1.heap.size, 0, none⟩ = some (.pointer (rootP x)) := by rw [cell_of_row W1 _ _ _ _ (0, 0) d1]; rfl
        have c0' : W1.cell? ⟨w1.heap.size + 1, 0, none⟩ = some (.pointer (rootP y)) := by rw [cell_of_row W1 _ _ _ _ (0, 0) d2]; rfl
        have HC := Lib.hid (And.intro hC1 (And.intro hl1 (And.intro hwn (And.intro hents (And.intro s1 (And.intro s2 (And.intro s3 (And.intro hax (And.intro hpy ys)))))))))
        have HD := Lib.hid (And.intro d1 d2)
        clear hC1 hl1 hwn hents s1 s2 s3 hax hpy m1 m2 m3 hC hrec hC0 hrec0 hst0 hst1 hbA nx ny nx1 ny1 d1 d2 c1 c2 hbody hR2 hW1 hnt hnt1 hcnt hbP hbW hb1 hway hdrop hue huj hui hy hlt hsz hr ys
        gi_wp2_with (refine ⟨trivial, ?_⟩; (with_reducible refine (CallsIn.inRound (W5.heap.size + 2) (callsIn_wide.2 HP.out)).mono ?_); rintro e W3 ⟨n1, n2, rfl, hn1, hn2, he1, he2, hb2⟩; have q0 := (hb2.cell (p := ⟨w1.heap.size, 0, none⟩) (by have := HC.out.1.size; have := HC.out.2.2.2.2.2.2.2.2.2; show w1.heap.size < _; omega)).trans c0; have q1 := (hb2.cell (p := ⟨w1.heap.size + 1, 0, none⟩) (by have := HC.out.1.size; have := HC.out.2.2.2.2.2.2.2.2.2; show w1.heap.size + 1 < _; omega)).trans c0'; have q2 := frozen_of_row W3 w1.heap.size 0 _ _ ((hb2.block _ (by have := HC.out.1.size; have := HC.out.2.2.2.2.2.2.2.2.2; omega)).trans HD.out.1); have q3 := frozen_of_row W3 (w1.heap.size + 1) 0 _ _ ((hb2.block _ (by have := HC.out.1.size; have := HC.out.2.2.2.2.2.2.2.2.2; omega)).trans HD.out.2); have H3 := Lib.hid (And.intro hn1 (And.intro hn2 (And.intro he1 (And.intro he2 hb2)))); clear hn1 hn2 he1 he2 hb2)
        obtain ⟨hC1, hl1, hwn, hents, s1, s2, s3, hax, hpy, ys⟩ := HC.out
        obtain ⟨hn1, hn2, he1, he2, hb2⟩ := H3.out
        refine pa_step hC1 (Nat.le_refl _) (by omega) hl1 hb2 hn1 hn2 hwn ?_ ?_ ?_
        · rw [he1, he2]
          show _ = (T.br gg l pre ks).ents
          rw [Tr.ents_br, s3, ← hents]
          simp [List.append_assoc]
        · intro e he
          rw [he1] at he
          rcases List.mem_append.1 he with h | h
          · exact s1 e h
          · exact hax e h
        · intro e he
          rw [he2] at he
          rcases List.mem_append.1 he with h | h
          · exact hpy e h
          · exact Nat.le_of_lt (s2 e h)
    case post =>
      have hQ : Hid (r0.pending = none ∧ r0.state ≠ .busy) := Lib.hid (by rw [← hr]; exact ⟨rfl, by intro h; cases h⟩)
      rintro e W1 ⟨⟨v, rfl⟩, hC, hrec⟩
      have ys := HB5.out.2.1
      refine ⟨none, W1.putObj (W5.heap.size + 2) (.loop { r0 with state := .exhausted }), by rw [← hQ.out.1]; exact run_endLoop hrec hQ.out.2, ?_⟩
      have hC1 := hC.put (o' := .loop { r0 with state := .exhausted }) (Nat.le_refl _) (by omega) hrec rfl
      generalize W1.putObj (W5.heap.size + 2) (.loop { r0 with state := .exhausted }) = WW at *
      clear hC hrec
      simp only [marked, hs6]
      clear hr hQ hL
      rw [HL.out.1] at hC1
      obtain ⟨x, y, oj, c1, c2, nx, ny, hway, hents, hax, hpy⟩ := hC1.cur
      rw [List.drop_length] at hway
      have hoj := Tr.way_nil hway
      subst hoj
      have hb1 := H1.out.2.2.2
      have hbW := hb1.trans (hC1.bel.mono hb1.size)
      have hsz := hC1.size
      have htW := fun w' (h : Below WW.heap.size WW w') => HX.out.1.below (hbW.trans (h.mono hbW.size)) (Nat.le_refl _)
      have HH1 := Lib.hid (fun w' (h : Below WW.heap.size WW w') => rhaving_c (htW w' h) (nx.below h (Nat.le_refl _) h.size))
      have HH2 := Lib.hid (fun w' (h : Below WW.heap.size WW w') => rhaving_c (htW w' h) (ny.below h (Nat.le_refl _) h.size))
      have a0 : ∀ w', Below WW.heap.size WW w' → w'.cell? ⟨w1.heap.size, 0, none⟩ = some (.pointer (rootP x)) := fun w' h => by rw [cell_of_row w' _ _ _ _ (0, 0) ((h.block _ (by omega)).trans c1)]; rfl
      have a1 : ∀ w', Below WW.heap.size WW w' → w'.cell? ⟨w1.heap.size + 1, 0, none⟩ = some (.pointer (rootP y)) := fun w' h => by rw [cell_of_row w' _ _ _ _ (0, 0) ((h.block _ (by omega)).trans c2)]; rfl
      have HE := Lib.hid (And.intro hC1.dfr (And.intro hents (And.intro hax (And.intro hpy (And.intro hbW hsz)))))
      have hb0 : Below WW.heap.size WW WW := Below.refl _ _
      clear hC1 c1 c2 nx ny hway hents hax hpy hb1 hbW hsz htW ys hs6
      clear hC hrec
      gi_wp2
      refine wpIn_calm (fun Q2 hQ2 => ?_)
      refine wpIn_wide.2 ?_
      go_region_held3 (fun w' => Below WW.heap.size WW w') (((repeat (first | refine Below.drew ?_ | (with_reducible refine below_drewN _ ?_) | refine Below.alloc ?_ (by first | omega | (simp; done) | (simp; omega)) _ | refine Below.setCell ?_ (by first | omega | (simp; done) | (simp; omega)) _)); first | exact Below.refl _ _ | assumption | exact below_drewN _ (Below.refl _ _) | exact below_drewN _ (below_drewN _ (Below.refl _ _))))
        ((first
          | (go_at_call 61; refine (HH1.out _ (show Below WW.heap.size WW _ by ((repeat (first | refine Below.drew ?_ | (with_reducible refine below_drewN _ ?_) | refine Below.alloc ?_ (by first | omega | (simp; done) | (simp; omega)) _ | refine Below.setCell ?_ (by first | omega | (simp; done) | (simp; omega)) _)); first | exact Below.refl _ _ | assumption | exact below_drewN _ (Below.refl _ _) | exact below_drewN _ (below_drewN _ (Below.refl _ _))))).mono ?_; rintro e w4 ⟨b1, o1, rfl, ht1, he1, hb4⟩; have hB4 := Below.andThen (show Below WW.heap.size WW _ by ((repeat (first | refine Below.drew ?_ | (with_reducible refine below_drewN _ ?_) | refine Below.alloc ?_ (by first | omega | (simp; done) | (simp; omega)) _ | refine Below.setCell ?_ (by first | omega | (simp; done) | (simp; omega)) _)); first | exact Below.refl _ _ | assumption | exact below_drewN _ (Below.refl _ _) | exact below_drewN _ (below_drewN _ (Below.refl _ _)))) hb4; have H4 := Lib.hid (And.intro ht1 he1); clear HH1 ht1 he1 hb4)
          | (go_at_call 61; refine (HH2.out _ (show Below WW.heap.size WW _ by ((repeat (first | refine Below.drew ?_ | (with_reducible refine below_drewN _ ?_) | refine Below.alloc ?_ (by first | omega | (simp; done) | (simp; omega)) _ | refine Below.setCell ?_ (by first | omega | (simp; done) | (simp; omega)) _)); first | exact Below.refl _ _ | assumption | exact below_drewN _ (Below.refl _ _) | exact below_drewN _ (below_drewN _ (Below.refl _ _))))).mono ?_; rintro e w5 ⟨b2, o2, rfl, ht2, he2, hb5⟩; have hB5 := Below.andThen (show Below WW.heap.size WW _ by ((repeat (first | refine Below.drew ?_ | (with_reducible refine below_drewN _ ?_) | refine Below.alloc ?_ (by first | omega | (simp; done) | (simp; omega)) _ | refine Below.setCell ?_ (by first | omega | (simp; done) | (simp; omega)) _)); first | exact Below.refl _ _ | assumption | exact below_drewN _ (Below.refl _ _) | exact below_drewN _ (below_drewN _ (Below.refl _ _)))) hb5; have hb45 := Below.andThen (show Below w4.heap.size w4 _ by ((repeat (first | refine Below.drew ?_ | (with_reducible refine below_drewN _ ?_) | refine Below.alloc ?_ (by first | omega | (simp; done) | (simp; omega)) _ | refine Below.setCell ?_ (by first | omega | (simp; done) | (simp; omega)) _)); first | exact Below.refl _ _ | assumption | exact below_drewN _ (Below.refl _ _) | exact below_drewN _ (below_drewN _ (Below.refl _ _)))) hb5; have H5 := Lib.hid (And.intro ht2 (And.intro he2 (And.intro hb45 hB5))); clear ht2 he2 hb5 hb45 HH2)))
      refine hQ2 _ _ ?_
      clear hQ2 a0 a1
      gi_wp2
      obtain ⟨hdf, hents, hax, hpy, hbW, hsz⟩ := HE.out
      obtain ⟨ht2, he2, hb45, hB5'⟩ := H5.out
      have hK : w5.heap[W5.heap.size + 1]? = some (.deferred (some [])) := (hB5'.block _ (by omega)).trans hdf
      have hput : Below w.heap.size w5 (w5.putObj (W5.heap.size + 1) (.deferred none)) := below_putObj _ _ (by have := H1.out.2.2.2.size; have := HB5.out.2.1; omega)
      refine ⟨by simp, .inl ⟨_, _, rfl, run_takeDeferred hK, ?_⟩⟩
      exact ⟨.tuple #[.pointer (some ⟨b1, 0, none⟩), .pointer (some ⟨b2, 0, none⟩), .int .i64 0], by simp [results, Tryz.f18, go_sem], b1, o1, b2, o2, rfl, (H4.out.1.below hb45 (Nat.le_refl _)).keepc (CellKeep.putObj hK rfl) (by simp), ht2.keepc (CellKeep.putObj hK rfl) (by simp), by rw [H4.out.2, he2]; exact hents, fun e he => hax e (by rw [← H4.out.2]; exact he), fun e he => hpy e (by rw [← he2]; exact he), (hbW.trans (hB5'.mono hbW.size)).trans hput⟩
end Go.Proofs.YtpgkfccfabnjdaaGreatDoor

/-
  THE LAW RankParts. Laid by wip/gen66.py.
-/
namespace Go.Proofs.YtpgkfccfabnjdaaGreatDoor
open Go.ChangeShapes Go.WideShapes Go.ChangeAt Go.RowKit
open Tr (T S4 Ent key)

theorem kPart_dim {w : World} {b k : Nat} {r : Option Addr} (h : TreC w b k r) (A : Option Addr) (n c : Nat) (hn : n ≤ maxLen) (hne : n ≠ k) :
    Calls Tryz.prog 18 #[.pointer (some ⟨b, 0, none⟩), .slice A n c] w fun e w' => e = .returned (.tuple #[.pointer none, .pointer none, .int .i64 2]) ∧ w = w' := by
  have H := Lib.hid (kRef_dim h A n c hn hne)
  clear h hn hne
  go_enter Tryz.func18, Tryz.ntmps18
  go_wp2_with (go_at_call 56; refine H.out.mono ?_; rintro e w' ⟨rfl, rfl⟩)
  go_ret3
  exact ⟨rfl, rfl⟩
theorem ahd_of {k : Nat} {p : List Nat} {L M : List Ent} (hL : Tr.Dim k L) (hM : Tr.Dim k M) (h1 : Ahead p L) (h2 : Past p M) : Ahd L M := fun x y hx hy => by
  have mx := List.mem_of_getLast? hx
  have my := List.mem_of_mem_head? (by rw [hy]; rfl : y ∈ M.head?)
  have a := h1 x mx
  have b := h2 y my
  rcases Tr.key_cases (by rw [(hL x mx).1, (hM y my).1]) (hL x mx).2.1 (hM y my).2.1 with ⟨e1, e2⟩ | ⟨e1, e2⟩ | ⟨e1, e2⟩
  · rw [e1] at a; omega
  · omega
  · omega
theorem back_of {k : Nat} {p : List Nat} {L M : List Ent} (hL : Tr.Dim k L) (hM : Tr.Dim k M) (h1 : Ahead p L) (h2 : Past p M) {x y : Ent} (hx : M.getLast? = some x) (hy : L.head? = some y) : 0 ≤ Z.cmp x.1 y.1 := by
  have mx := List.mem_of_getLast? hx
  have my := List.mem_of_mem_head? (by rw [hy]; rfl : y ∈ L.head?)
  have a := h2 x mx
  have b := h1 y my
  rcases Tr.key_cases (by rw [(hM x mx).1, (hL y my).1]) (hM x mx).2.1 (hL y my).2.1 with ⟨e1, e2⟩ | ⟨e1, e2⟩ | ⟨e1, e2⟩
  · omega
  · omega
  · omega
def PtSt (w W : World) (C b k : Nat) (o : Option T) (D : Option Addr) (e M : Nat) (A : Option Addr) (p : List Nat) : Prop := Hand W C b k o D e M ∧ Below w.heap.size w W ∧ Pts W W.heap.size A p
theorem PtSt.below {w W W' : World} {C b k : Nat} {o : Option T} {D : Option Addr} {e M : Nat} {A : Option Addr} {p : List Nat} (h : PtSt w W C b k o D e M A p) (hb : Below W.heap.size W W') : PtSt w W' C b k o D e M A p := ⟨h.1.below hb, Below.andThen h.2.1 hb, (h.2.2.below' hb (Nat.le_refl _)).keep hb.size (fun _ _ => rfl)⟩
theorem PtSt.tz {w W : World} {C b k : Nat} {o : Option T} {D : Option Addr} {e M : Nat} {A : Option Addr} {p : List Nat} (h : PtSt w W C b k o D e M A p) (hT : Tz w) : ∀ w', Below W.heap.size W w' → Tz w' := fun _ hb => (hT.on h.2.1).on hb
theorem PtSt.ents {w W : World} {C b k : Nat} {o : Option T} {D : Option Addr} {e M : Nat} {A : Option Addr} {p : List Nat} (h : PtSt w W C b k o D e M A p) : Ents W W.heap.size D (Tr.entsO o) := EntL.ents h.1.list h.1.old (Nat.le_refl _)

theorem rankParts_skip {w : World} {A : Option Addr} {c : Nat} {l : List ActT} (k : Int) (Ap : Option Addr) (np cp : Nat) (hT : Tz w) (hA : ActsT w w.heap.size A l) (hl : l.length ≤ maxLen) (hh : heavyA 50 l = true) :
    Calls Tryz.prog 4 #[.int .i64 k, .slice A l.length c, .slice Ap np cp] w fun e w' => e = .returned (.bool true) ∧ Below w.heap.size w w' := by
  have HX := Lib.hid (And.intro hA (And.intro hl (And.intro hh hT)))
  clear hA hl hh hT
  go_enter Tryz.func4, Tryz.ntmps4
  go_wp2_with fail
  refine (awake10_c w HX.out.2.2.2).mono ?_
  rintro e w1 ⟨rfl, hb1⟩
  have HH := Lib.hid (rheavy7_c (c := c) (HX.out.1.below hb1 (Nat.le_refl _) (Nat.le_refl _)) HX.out.2.1 50 true HX.out.2.2.1)
  have HB := Lib.hid hb1
  clear hb1
  go_wp2_with (go_at_call 9; refine HH.out.mono ?_; rintro e w' ⟨rfl, rfl⟩)
  go_ret
  exact ⟨rfl, HB.out⟩

theorem rankParts_low {w : World} {A : Option Addr} {c : Nat} {l : List ActT} (k : Int) (Ap : Option Addr) (np cp : Nat) (hT : Tz w) (hA : ActsT w w.heap.size A l) (hl : l.length ≤ maxLen) (hh : heavyA 50 l = false) (h : k < 1) :
    Calls Tryz.prog 4 #[.int .i64 k, .slice A l.length c, .slice Ap np cp] w fun e w' => e = .returned (.bool true) ∧ Below w.heap.size w w' := by
  have HX := Lib.hid (And.intro hA (And.intro hl (And.intro hh hT)))
  have d1 : decide (k < 1) = true := decide_eq_true (by omega)
  clear h
  clear hA hl hh hT
  go_enter Tryz.func4, Tryz.ntmps4
  go_wp2_with fail
  refine (awake10_c w HX.out.2.2.2).mono ?_
  rintro e w1 ⟨rfl, hb1⟩
  have HH := Lib.hid (rheavy7_c (c := c) (HX.out.1.below hb1 (Nat.le_refl _) (Nat.le_refl _)) HX.out.2.1 50 false HX.out.2.2.1)
  have HB := Lib.hid hb1
  clear hb1
  go_wp2_with (go_at_call 9; refine HH.out.mono ?_; rintro e w' ⟨rfl, rfl⟩)
  go_ret
  exact ⟨rfl, HB.out⟩

theorem rankParts_high {w : World} {A : Option Addr} {c : Nat} {l : List ActT} (k : Int) (Ap : Option Addr) (np cp : Nat) (hT : Tz w) (hA : ActsT w w.heap.size A l) (hl : l.length ≤ maxLen) (hh : heavyA 50 l = false) (h : 16 < k) :
    Calls Tryz.prog 4 #[.int .i64 k, .slice A l.length c, .slice Ap np cp] w fun e w' => e = .returned (.bool true) ∧ Below w.heap.size w w' := by
  have HX := Lib.hid (And.intro hA (And.intro hl (And.intro hh hT)))
  have d1 : decide (k < 1) = false := decide_eq_false (by omega)
  have d2 : decide (16 < k) = true := decide_eq_true (by omega)
  clear h
  clear hA hl hh hT
  go_enter Tryz.func4, Tryz.ntmps4
  go_wp2_with fail
  refine (awake10_c w HX.out.2.2.2).mono ?_
  rintro e w1 ⟨rfl, hb1⟩
  have HH := Lib.hid (rheavy7_c (c := c) (HX.out.1.below hb1 (Nat.le_refl _) (Nat.le_refl _)) HX.out.2.1 50 false HX.out.2.2.1)
  have HB := Lib.hid hb1
  clear hb1
  go_wp2_with (go_at_call 9; refine HH.out.mono ?_; rintro e w' ⟨rfl, rfl⟩)
  go_ret
  exact ⟨rfl, HB.out⟩

theorem rankParts_long {w : World} {A : Option Addr} {c : Nat} {l : List ActT} (k : Int) (Ap : Option Addr) (np cp : Nat) (hT : Tz w) (hA : ActsT w w.heap.size A l) (hl : l.length ≤ maxLen) (hh : heavyA 50 l = false) (hk : 1 ≤ k ∧ k ≤ 16) (h : 40 < np) :
    Calls Tryz.prog 4 #[.int .i64 k, .slice A l.length c, .slice Ap np cp] w fun e w' => e = .returned (.bool true) ∧ Below w.heap.size w w' := by
  have HX := Lib.hid (And.intro hA (And.intro hl (And.intro hh hT)))
  have d1 : decide (k < 1) = false := decide_eq_false (by omega)
  have d2 : decide (16 < k) = false := decide_eq_false (by omega)
  have d3 : decide ((40 : Int) < (np : Int)) = true := decide_eq_true (by omega)
  have d3' : decide (40 < np) = true := decide_eq_true (by omega)
  clear h hk
  clear hA hl hh hT
  go_enter Tryz.func4, Tryz.ntmps4
  go_wp2_with fail
  refine (awake10_c w HX.out.2.2.2).mono ?_
  rintro e w1 ⟨rfl, hb1⟩
  have HH := Lib.hid (rheavy7_c (c := c) (HX.out.1.below hb1 (Nat.le_refl _) (Nat.le_refl _)) HX.out.2.1 50 false HX.out.2.2.1)
  have HB := Lib.hid hb1
  clear hb1
  go_wp2_with (go_at_call 9; refine HH.out.mono ?_; rintro e w' ⟨rfl, rfl⟩)
  go_ret
  exact ⟨rfl, HB.out⟩

set_option maxRecDepth 1000000 in
set_option maxHeartbeats 8000000 in
theorem rankParts_dim {w : World} {A : Option Addr} {c : Nat} {l : List ActT} (k : Nat) {Ap : Option Addr} {p : List Nat} {cp : Nat} (hT : Tz w) (hA : ActsT w w.heap.size A l) (hl : l.length ≤ maxLen) (hh : heavyA 50 l = false) (h1 : 1 ≤ k) (h16 : k ≤ 16) (hp : Pts w w.heap.size Ap p) (hp40 : p.length ≤ 40) (hne : p.length ≠ k) :
    Calls Tryz.prog 4 #[.int .i64 (k : Int), .slice A l.length c, .slice Ap p.length cp] w fun e w' => e = .returned (.bool true) ∧ Below w.heap.size w w' := by
  obtain ⟨np, hnp⟩ : ∃ np, p.length = np := ⟨_, rfl⟩
  rw [hnp] at hp40 hne ⊢
  have d3 : decide ((40 : Int) < (np : Int)) = false := decide_eq_false (by omega)
  have d3' : decide (40 < np) = false := decide_eq_false (by omega)
  have b0 : ((np : Int) != (k : Int)) = true := by rw [bne_iff_ne]; omega
  have b0' : ((np : Int) == (k : Int)) = false := by rw [beq_eq_false_iff_ne]; omega
  have b1 : (np != k) = true := by rw [bne_iff_ne]; omega
  have b1' : (np == k) = false := by rw [beq_eq_false_iff_ne]; omega
  have HNE := Lib.hid (And.intro hp40 hne)
  clear hnp hp40 hne
  have hfew := heavyA_few hh
  have HX := Lib.hid (And.intro hA (And.intro hl (And.intro hh (And.intro hT hp))))
  have HK := Lib.hid (And.intro h1 (And.intro h16 hfew))
  have d1 : decide ((k : Int) < 1) = false := decide_eq_false (by omega)
  have d2 : decide ((16 : Int) < (k : Int)) = false := decide_eq_false (by omega)
  have d2' : decide (16 < k) = false := decide_eq_false (by omega)
  clear hA hl hh hT h1 h16 hfew hp
  go_enter Tryz.func4, Tryz.ntmps4
  go_wp2_with fail
  refine (awake10_c w HX.out.2.2.2.1).mono ?_
  rintro e w0 ⟨rfl, hb0⟩
  have HH := Lib.hid (rheavy7_c (c := c) (HX.out.1.below hb0 (Nat.le_refl _) (Nat.le_refl _)) HX.out.2.1 50 false HX.out.2.2.1)
  have HG := Lib.hid (grown_c (c := c) HK.out.1 HK.out.2.1 (HX.out.1.below hb0 (Nat.le_refl _) (Nat.le_refl _)) hb0.size (by have := HK.out.2.2; omega))
  have HB0 := Lib.hid hb0
  clear hb0
  go_wp2_with fail
  refine HH.out.mono ?_
  rintro e w' ⟨rfl, rfl⟩
  clear HH
  go_wp2_with fail
  refine HG.out.mono ?_
  rintro e w2 ⟨tb, o, D, d, rfl, hd2, -, hb2⟩
  have HS2 : Hid (PtSt w w2 _ tb k o D d l.length Ap p) := Lib.hid ⟨hd2, Below.andThen HB0.out hb2, (HX.out.2.2.2.2.below' (Below.andThen HB0.out hb2) (Nat.le_refl _)).keep (Below.andThen HB0.out hb2).size (fun _ _ => rfl)⟩
  obtain ⟨N, hN⟩ : ∃ N, (Tr.entsO o).length = N := ⟨_, rfl⟩
  have hfew : N ≤ 50 := by have h := hd2.few; rw [hN] at h; have := HK.out.2.2; omega
  have hcap : N ≤ d := by rw [← hN]; exact hd2.cap
  rw [hN]
  have HN := Lib.hid (And.intro hN hcap)
  clear hd2 hb2 HG hN hcap
  go_wp2_with fail
  refine (kPart_dim HS2.out.1.tree.1.2.2.2.1 Ap np cp (by have := HNE.out.1; unfold maxLen; omega) HNE.out.2).mono ?_
  rintro e w3 ⟨rfl, rfl⟩
  go_wp2_with fail
  go_ret
  exact ⟨rfl, HS2.out.2.1⟩
set_option maxRecDepth 1000000 in
set_option maxHeartbeats 8000000 in
theorem rankParts_go {w : World} {A : Option Addr} {c : Nat} {l : List ActT} (k : Nat) {Ap : Option Addr} {p : List Nat} {cp : Nat} (hT : Tz w) (hA : ActsT w w.heap.size A l) (hl : l.length ≤ maxLen) (hh : heavyA 50 l = false) (h1 : 1 ≤ k) (h16 : k ≤ 16) (hp : Pts w w.heap.size Ap p) (hpl : p.length = k) :
    Calls Tryz.prog 4 #[.int .i64 (k : Int), .slice A l.length c, .slice Ap k cp] w fun e w' => e = .returned (.bool true) ∧ Below w.heap.size w w' := by
  have d3 : decide ((40 : Int) < (k : Int)) = false := decide_eq_false (by omega)
  have d3' : decide (40 < k) = false := decide_eq_false (by omega)
  have b0 : ((k : Int) != (k : Int)) = false := by simp
  have HPL := Lib.hid hpl
  clear hpl
  have hfew := heavyA_few hh
  have HX := Lib.hid (And.intro hA (And.intro hl (And.intro hh (And.intro hT hp))))
  have HK := Lib.hid (And.intro h1 (And.intro h16 hfew))
  have d1 : decide ((k : Int) < 1) = false := decide_eq_false (by omega)
  have d2 : decide ((16 : Int) < (k : Int)) = false := decide_eq_false (by omega)
  have d2' : decide (16 < k) = false := decide_eq_false (by omega)
  clear hA hl hh hT h1 h16 hfew hp
  go_enter Tryz.func4, Tryz.ntmps4
  go_wp2_with fail
  refine (awake10_c w HX.out.2.2.2.1).mono ?_
  rintro e w0 ⟨rfl, hb0⟩
  have HH := Lib.hid (rheavy7_c (c := c) (HX.out.1.below hb0 (Nat.le_refl _) (Nat.le_refl _)) HX.out.2.1 50 false HX.out.2.2.1)
  have HG := Lib.hid (grown_c (c := c) HK.out.1 HK.out.2.1 (HX.out.1.below hb0 (Nat.le_refl _) (Nat.le_refl _)) hb0.size (by have := HK.out.2.2; omega))
  have HB0 := Lib.hid hb0
  clear hb0
  go_wp2_with fail
  refine HH.out.mono ?_
  rintro e w' ⟨rfl, rfl⟩
  clear HH
  go_wp2_with fail
  refine HG.out.mono ?_
  rintro e w2 ⟨tb, o, D, d, rfl, hd2, -, hb2⟩
  have HS2 : Hid (PtSt w w2 _ tb k o D d l.length Ap p) := Lib.hid ⟨hd2, Below.andThen HB0.out hb2, (HX.out.2.2.2.2.below' (Below.andThen HB0.out hb2) (Nat.le_refl _)).keep (Below.andThen HB0.out hb2).size (fun _ _ => rfl)⟩
  obtain ⟨N, hN⟩ : ∃ N, (Tr.entsO o).length = N := ⟨_, rfl⟩
  have hfew : N ≤ 50 := by have h := hd2.few; rw [hN] at h; have := HK.out.2.2; omega
  have hcap : N ≤ d := by rw [← hN]; exact hd2.cap
  rw [hN]
  have HN := Lib.hid (And.intro hN hcap)
  clear hd2 hb2 HG hN hcap
  have HP := Lib.hid (kPart_c (c := cp) HS2.out.1.tree (HS2.out.tz HX.out.2.2.2.1) (by rw [HN.out.1]; omega) HS2.out.2.2 HPL.out)
  rw [HPL.out] at HP
  go_wp2_with fail
  refine HP.out.mono ?_
  rintro e w3 ⟨b1, o1, b2, o2, rfl, t1, t2, he, ha, hp, hb1⟩
  have HS3 := Lib.hid (HS2.out.below hb1)
  obtain ⟨M, hM⟩ : ∃ M, (Tr.entsO o1).length = M := ⟨_, rfl⟩
  have hMN : M + (Tr.entsO o2).length = N := by rw [← hM, ← List.length_append, he]; exact HN.out.1
  have hMle : M ≤ N := by omega
  obtain ⟨Ah, q1, q2⟩ := lst_hi (Q := EntQ w3 w3.heap.size) 30 73 Tryz.underlying30 infoE2 D N d M hMle HN.out.2
  obtain ⟨Al, q3, q4⟩ := lst_lo (Q := EntQ w3 w3.heap.size) 30 73 Tryz.underlying30 infoE2 D N d M hMle HN.out.2
  have hE1 : Ents w3 w3.heap.size Ah (Tr.entsO o1) := by
    have := q2 w3 w3.heap.size (Tr.entsO o) HN.out.1 HS3.out.ents
    rw [← he, ← hM, List.take_left] at this
    exact this
  have hE2 : Ents w3 w3.heap.size Al (Tr.entsO o2) := by
    have := q4 w3 w3.heap.size (Tr.entsO o) HN.out.1 HS3.out.ents
    rw [← he, ← hM, List.drop_left] at this
    exact this
  have hdz := dim_o HS3.out.1.tree
  have hd1 := (dim_o t1).1
  have hd2 := (dim_o t2).1
  have hn2 : (Tr.entsO o2).length = N - M := by omega
  have HF := Lib.hid (rfrom8_c (A := D) (A' := Ap) (c := d) (c' := cp) hdz.1 HS3.out.ents HS3.out.2.2 HPL.out HK.out.1 HK.out.2.1 (by rw [HN.out.1]; omega) he.symm ha hp)
  rw [HN.out.1, HPL.out, hM] at HF
  have HT1 := Lib.hid t1
  have HT2 := Lib.hid t2
  have HE1 := Lib.hid hE1
  have HE2 := Lib.hid hE2
  have HI := Lib.hid (And.intro he (And.intro ha (And.intro hp (And.intro hM (And.intro hn2 (And.intro hd1 hd2))))))
  have m0 : (0 : Int) ≤ (M : Int) := by omega
  have m1 : (M : Int) ≤ (N : Int) := by omega
  have m2 : (N : Int) ≤ 50 := by omega
  clear t1 t2 he ha hp hb1 hM hMN q2 q4 hE1 hE2 hdz hd1 hd2 hn2 HP
  go_wp2_with fail
  refine HF.out.mono ?_
  rintro e w' ⟨rfl, rfl⟩
  clear HF
  go_wp2_with fail
  refine (is7_n (c := d) HT1.out (HS3.out.tz HX.out.2.2.2.1) HE1.out rfl HI.out.2.2.2.1 (by have := HN.out.2; omega) (by omega)).mono ?_
  rintro e w4 ⟨rfl, hb1⟩
  have HS4 := Lib.hid (HS3.out.below hb1)
  have HU1 := Lib.hid (HT1.out.below hb1 (Nat.le_refl _))
  have HU2 := Lib.hid (HT2.out.below hb1 (Nat.le_refl _))
  have HE4 := Lib.hid (HE2.out.below hb1 (Nat.le_refl _) hb1.size)
  clear HT1 HT2 HE1 HE2
  clear hb1
  go_wp2_with fail
  refine (is7_n (n := N - M) (c := d - M) HU2.out (HS4.out.tz HX.out.2.2.2.1) HE4.out rfl HI.out.2.2.2.2.1 (by have := HN.out.2; omega) (by omega)).mono ?_
  rintro e w5 ⟨rfl, hb1⟩
  have HS5 := Lib.hid (HS4.out.below hb1)
  have HV1 := Lib.hid (HU1.out.below hb1 (Nat.le_refl _))
  have HV2 := Lib.hid (HU2.out.below hb1 (Nat.le_refl _))
  clear HU1 HU2 HE4
  clear hb1
  go_wp2_with fail
  refine (kJoin_fine HV1.out HV2.out (HS5.out.tz HX.out.2.2.2.1) (ahd_of HI.out.2.2.2.2.2.1 HI.out.2.2.2.2.2.2 HI.out.2.1 HI.out.2.2.1) (by rw [HI.out.2.2.2.1, HI.out.2.2.2.2.1]; omega)).mono ?_
  rintro e w6 ⟨b3, o3, rfl, t3, he3, hb1⟩
  have HS6 := Lib.hid (HS5.out.below hb1)
  have HT3 := Lib.hid t3
  have HE3 := Lib.hid (he3.trans HI.out.1)
  have HA1 := Lib.hid (HV1.out.below hb1 (Nat.le_refl _))
  have HA2 := Lib.hid (HV2.out.below hb1 (Nat.le_refl _))
  clear HV1 HV2 t3 he3
  clear hb1
  go_wp2_with fail
  rcases Nat.eq_zero_or_pos M with hz | hpos
  · have hnil : Tr.entsO o1 = [] := List.eq_nil_of_length_eq_zero (HI.out.2.2.2.1.trans hz)
    have g1 : decide ((0 : Int) < (M : Int)) = false := decide_eq_false (by omega)
    have g1' : decide (0 < M) = false := decide_eq_false (by omega)
    have HZ := Lib.hid hz
    clear hz
    refine (kJoin_fine HA2.out HA1.out (HS6.out.tz HX.out.2.2.2.1) (fun x y hx hy => by rw [hnil] at hy; cases hy) (by rw [HI.out.2.2.2.1, HI.out.2.2.2.2.1]; omega)).mono ?_
    rintro e w7 ⟨b4, o4, rfl, t4, he4, hb1⟩
    have HS7 := Lib.hid (HS6.out.below hb1)
    have HU3 := Lib.hid (HT3.out.below hb1 (Nat.le_refl _))
    have V7 := Lib.hid t4
    have HE5 : Hid (Tr.entsO o4 = Tr.entsO o) := Lib.hid (by
      have h := HI.out.1
      rw [he4]
      rw [hnil] at h ⊢
      rw [List.append_nil]
      exact h)
    clear hb1 t4 he4 hnil
    go_wp2_with fail
    refine (is7_n (c := d) HU3.out (HS7.out.tz HX.out.2.2.2.1) HS7.out.ents HE3.out HN.out.1 HN.out.2 (by omega)).mono ?_
    rintro e w8 ⟨rfl, hb1⟩
    have HS8 := Lib.hid (HS7.out.below hb1)
    have V8 := Lib.hid (V7.out.below hb1 (Nat.le_refl _))
    clear hb1
    go_wp2_with fail
    refine (is7_n (c := d) HS8.out.1.tree (HS8.out.tz HX.out.2.2.2.1) HS8.out.ents rfl HN.out.1 HN.out.2 (by omega)).mono ?_
    rintro e w9 ⟨rfl, hb1⟩
    have HS9 := Lib.hid (HS8.out.below hb1)
    have V9 := Lib.hid (V8.out.below hb1 (Nat.le_refl _))
    clear hb1
    go_wp2_with fail
    refine (is7_n (c := d) V9.out (HS9.out.tz HX.out.2.2.2.1) HS9.out.ents HE5.out HN.out.1 HN.out.2 (by omega)).mono ?_
    rintro e w10 ⟨rfl, hb1⟩
    have HS10 := Lib.hid (HS9.out.below hb1)
    clear hb1
    go_wp2_with fail
    go_ret
    exact ⟨rfl, HS10.out.2.1⟩
  · by_cases hMN : M < N
    · obtain ⟨x, hx⟩ : ∃ x, (Tr.entsO o2).getLast? = some x := by
        cases h : (Tr.entsO o2).getLast? with
        | none => rw [List.getLast?_eq_none_iff] at h; have := HI.out.2.2.2.2.1; rw [h] at this; simp at this; omega
        | some x => exact ⟨x, rfl⟩
      obtain ⟨y, hy⟩ : ∃ y, (Tr.entsO o1).head? = some y := by
        cases h : (Tr.entsO o1).head? with
        | none => rw [List.head?_eq_none_iff] at h; have := HI.out.2.2.2.1; rw [h] at this; simp at this; omega
        | some y => exact ⟨y, rfl⟩
      have hbk := back_of HI.out.2.2.2.2.2.1 HI.out.2.2.2.2.2.2 HI.out.2.1 HI.out.2.2.1 hx hy
      have g1 : decide ((0 : Int) < (M : Int)) = true := decide_eq_true (by omega)
      have g1' : decide (0 < M) = true := decide_eq_true (by omega)
      have g2 : decide ((M : Int) < (N : Int)) = true := decide_eq_true (by omega)
      have g2' : decide (M < N) = true := decide_eq_true (by omega)
      have HZ := Lib.hid (And.intro hpos hMN)
      have HJ := Lib.hid (kJoin_no HA2.out HA1.out (HS6.out.tz HX.out.2.2.2.1) hx hy hbk)
      clear hpos hMN hx hy hbk
      refine HJ.out.mono ?_
      rintro e w7 ⟨rfl, hb1⟩
      have HS7 := Lib.hid (HS6.out.below hb1)
      have HU3 := Lib.hid (HT3.out.below hb1 (Nat.le_refl _))
      clear hb1 HJ
      go_wp2_with fail
      refine (is7_n (c := d) HU3.out (HS7.out.tz HX.out.2.2.2.1) HS7.out.ents HE3.out HN.out.1 HN.out.2 (by omega)).mono ?_
      rintro e w8 ⟨rfl, hb1⟩
      have HS8 := Lib.hid (HS7.out.below hb1)
      clear hb1
      go_wp2_with fail
      refine (is7_n (c := d) HS8.out.1.tree (HS8.out.tz HX.out.2.2.2.1) HS8.out.ents rfl HN.out.1 HN.out.2 (by omega)).mono ?_
      rintro e w9 ⟨rfl, hb1⟩
      have HS9 := Lib.hid (HS8.out.below hb1)
      clear hb1
      go_wp2_with fail
      go_ret
      exact ⟨rfl, HS9.out.2.1⟩
    · have hnil : Tr.entsO o2 = [] := List.eq_nil_of_length_eq_zero (HI.out.2.2.2.2.1.trans (by omega))
      have g1 : decide ((0 : Int) < (M : Int)) = true := decide_eq_true (by omega)
      have g1' : decide (0 < M) = true := decide_eq_true (by omega)
      have g2 : decide ((M : Int) < (N : Int)) = false := decide_eq_false (by omega)
      have g2' : decide (M < N) = false := decide_eq_false hMN
      have HZ := Lib.hid (And.intro hpos hMN)
      clear hpos hMN
      refine (kJoin_fine HA2.out HA1.out (HS6.out.tz HX.out.2.2.2.1) (fun x y hx hy => by rw [hnil] at hx; cases hx) (by rw [HI.out.2.2.2.1, HI.out.2.2.2.2.1]; omega)).mono ?_
      rintro e w7 ⟨b4, o4, rfl, t4, he4, hb1⟩
      have HS7 := Lib.hid (HS6.out.below hb1)
      have HU3 := Lib.hid (HT3.out.below hb1 (Nat.le_refl _))
      have V7 := Lib.hid t4
      have HE5 : Hid (Tr.entsO o4 = Tr.entsO o) := Lib.hid (by
        have h := HI.out.1
        rw [he4]
        rw [hnil, List.append_nil] at h
        rw [hnil]
        exact h)
      clear hb1 t4 he4 hnil
      go_wp2_with fail
      refine (is7_n (c := d) HU3.out (HS7.out.tz HX.out.2.2.2.1) HS7.out.ents HE3.out HN.out.1 HN.out.2 (by omega)).mono ?_
      rintro e w8 ⟨rfl, hb1⟩
      have HS8 := Lib.hid (HS7.out.below hb1)
      have V8 := Lib.hid (V7.out.below hb1 (Nat.le_refl _))
      clear hb1
      go_wp2_with fail
      refine (is7_n (c := d) HS8.out.1.tree (HS8.out.tz HX.out.2.2.2.1) HS8.out.ents rfl HN.out.1 HN.out.2 (by omega)).mono ?_
      rintro e w9 ⟨rfl, hb1⟩
      have HS9 := Lib.hid (HS8.out.below hb1)
      have V9 := Lib.hid (V8.out.below hb1 (Nat.le_refl _))
      clear hb1
      go_wp2_with fail
      refine (is7_n (c := d) V9.out (HS9.out.tz HX.out.2.2.2.1) HS9.out.ents HE5.out HN.out.1 HN.out.2 (by omega)).mono ?_
      rintro e w10 ⟨rfl, hb1⟩
      have HS10 := Lib.hid (HS9.out.below hb1)
      clear hb1
      go_wp2_with fail
      go_ret
      exact ⟨rfl, HS10.out.2.1⟩
theorem rankParts_c {w : World} {A : Option Addr} {c : Nat} {l : List ActT} (k : Int) {Ap : Option Addr} {p : List Nat} {cp : Nat} (hT : Tz w) (hA : ActsT w w.heap.size A l) (hl : l.length ≤ maxLen) (hp : Pts w w.heap.size Ap p) :
    Calls Tryz.prog 4 #[.int .i64 k, .slice A l.length c, .slice Ap p.length cp] w fun e w' => e = .returned (.bool true) ∧ Below w.heap.size w w' := by
  rcases hh : heavyA 50 l with _ | _
  · by_cases h1 : k < 1
    · exact rankParts_low k Ap p.length cp hT hA hl hh h1
    · by_cases h2 : 16 < k
      · exact rankParts_high k Ap p.length cp hT hA hl hh h2
      · by_cases h3 : 40 < p.length
        · exact rankParts_long k Ap p.length cp hT hA hl hh (by omega) h3
        · obtain ⟨k', rfl⟩ : ∃ k' : Nat, k = (k' : Int) := ⟨k.toNat, by omega⟩
          by_cases hpl : p.length = k'
          · have := rankParts_go k' (cp := cp) (c := c) hT hA hl hh (by omega) (by omega) hp hpl
            rw [hpl]
            exact this
          · exact rankParts_dim k' hT hA hl hh (by omega) (by omega) hp (by omega) hpl
  · exact rankParts_skip k Ap p.length cp hT hA hl hh
end Go.Proofs.YtpgkfccfabnjdaaGreatDoor
