import Derived.Test.YtpgkfccfabnjdaaM9r
/-
  CONTRACTS of package edit, seventh part: firsts.
-/
namespace Go.Proofs.Ytpgkfccfabnjdaa
open Go.ChangeShapes Go.WideShapes Go.ChangeAt Go.RowKit
open Tr (T S4 Ent Chg Raw Pc)

def fstP (A : Option Addr) : Option Chg → Option Addr
  | none => none
  | some _ => A
def fstQ : List Chg → List Chg → Pc
  | [], [] => (none, none)
  | x :: _, [] => (some x, none)
  | [], y :: _ => (none, some y)
  | x :: _, y :: _ => if Tr.key x.1 < Tr.key y.1 then (some x, none) else if Tr.key y.1 < Tr.key x.1 then (none, some y) else (some x, some y)
theorem head_cells {w : World} {B : Nat} {A : Option Addr} {x : Chg} {xs : List Chg} (h : RwL w B A ((x :: xs).map Tr.rawC)) {m : Nat} (hm : x.1.length = m) :
    ∃ b off P pc, A = some ⟨b, off, none⟩ ∧ b < B ∧ w.cell? ⟨b, off, none⟩ = some (.slice P m pc) ∧ Pts w B P x.1 := by
  obtain ⟨b, off, P, n, hA, hb, h0, -, -, -, -, hp, -, -, -⟩ := h.at (i := 0) (r := Tr.rawC x) rfl
  rw [Nat.zero_mul, Nat.add_zero] at h0
  subst hm
  exact ⟨b, off, P, n, hA, hb, h0, hp⟩
set_option maxRecDepth 1000000 in
set_option maxHeartbeats 4000000 in
theorem ed_firsts {w : World} {B k : Nat} {A1 A2 : Option Addr} {c1 c2 n1 n2 : Nat} {xs ys : List Chg} (h1 : RwL w B A1 (xs.map Tr.rawC)) (h2 : RwL w B A2 (ys.map Tr.rawC)) (hB : B ≤ w.heap.size) (hx : Tr.CL k xs) (hy : Tr.CL k ys) (k1 : 1 ≤ k) (k16 : k ≤ 16) (hn1 : xs.length = n1) (hn2 : ys.length = n2) (hl1 : n1 ≤ 1000000) (hl2 : n2 ≤ 1000000)
    {q : Pc} (hq : fstQ xs ys = q) {px py : Option Addr} (hpx : fstP A1 q.1 = px) (hpy : fstP A2 q.2 = py) :
    Calls Try.prog 37 #[.slice A1 n1 c1, .slice A2 n2 c2] w fun e w' => e = .returned (.tuple #[.pointer px, .pointer py]) ∧ Below w.heap.size w w' := by
  have g1 : (0 : Int) ≤ (n1 : Int) := by omega
  have g2 : (0 : Int) ≤ (n2 : Int) := by omega
  have g3 : (n1 : Int) ≤ 1000000 := by omega
  have g4 : (n2 : Int) ≤ 1000000 := by omega
  cases xs with
  | nil =>
    have e1 : n1 = 0 := by rw [← hn1]; rfl
    subst e1
    cases ys with
    | nil =>
      have e2 : n2 = 0 := by rw [← hn2]; rfl
      subst e2
      obtain rfl : q = (none, none) := hq.symm
      obtain rfl : px = none := hpx.symm
      obtain rfl : py = none := hpy.symm
      clear h1 h2 hB hx hy k1 k16 hn1 hn2 hl1 hl2 hq hpx hpy g1 g2 g3 g4
      go_enter Try.func37, Try.ntmps37
      go_wp2_with fail
      go_quiet (fail)
      go_wp2_with fail
      go_quiet (fail)
      go_wp2_with fail
      go_ret2
      exact ⟨rfl, by ((repeat (first | refine Below.drew ?_ | (with_reducible refine below_drewN _ ?_) | refine Below.alloc ?_ (by first | omega | (simp; done) | (simp; omega)) _ | refine Below.setCell ?_ (by first | omega | (simp; done) | (simp; omega)) _)); first | exact Below.refl _ _ | assumption | exact below_drewN _ (Below.refl _ _) | exact below_drewN _ (below_drewN _ (Below.refl _ _)))⟩
    | cons y ys =>
      have d1 : decide ((0 : Int) < (n2 : Int)) = true := decide_eq_true (by rw [← hn2, List.length_cons]; omega)
      have l1 : (0 : Int) < (n2 : Int) := of_decide_eq_true d1
      have d1' : decide (0 < n2) = true := decide_eq_true (by omega)
      obtain rfl : q = (none, some y) := hq.symm
      obtain rfl : px = none := hpx.symm
      obtain rfl : py = A2 := hpy.symm
      obtain ⟨b, off, P, pc, rfl, -, c0, -⟩ := head_cells h2 rfl
      clear h1 h2 hB hx hy k1 k16 hn1 hn2 hl1 hl2 hq hpx hpy
      go_enter Try.func37, Try.ntmps37
      go_wp2_with fail
      go_quiet (fail)
      go_wp2_with fail
      go_quiet (fail)
      go_wp2_with fail
      go_ret2
      exact ⟨rfl, by ((repeat (first | refine Below.drew ?_ | (with_reducible refine below_drewN _ ?_) | refine Below.alloc ?_ (by first | omega | (simp; done) | (simp; omega)) _ | refine Below.setCell ?_ (by first | omega | (simp; done) | (simp; omega)) _)); first | exact Below.refl _ _ | assumption | exact below_drewN _ (Below.refl _ _) | exact below_drewN _ (below_drewN _ (Below.refl _ _)))⟩
  | cons x xs =>
    have d1 : decide ((0 : Int) < (n1 : Int)) = true := decide_eq_true (by rw [← hn1, List.length_cons]; omega)
    have l1 : (0 : Int) < (n1 : Int) := of_decide_eq_true d1
    have d2 : ((n1 : Int) == 0) = false := by rw [beq_eq_false_iff_ne]; omega
    have d2' : (n1 == 0) = false := by rw [beq_eq_false_iff_ne]; omega
    have d1' : decide (0 < n1) = true := decide_eq_true (by omega)
    cases ys with
    | nil =>
      have e2 : n2 = 0 := by rw [← hn2]; rfl
      subst e2
      obtain rfl : q = (some x, none) := hq.symm
      obtain rfl : px = A1 := hpx.symm
      obtain rfl : py = none := hpy.symm
      obtain ⟨b, off, P, pc, rfl, -, c0, -⟩ := head_cells h1 rfl
      clear h1 h2 hB hx hy k1 k16 hn1 hn2 hl1 hl2 hq hpx hpy
      go_enter Try.func37, Try.ntmps37
      go_wp2_with fail
      go_quiet (fail)
      go_wp2_with fail
      go_quiet (fail)
      go_wp2_with fail
      go_ret2
      exact ⟨rfl, by ((repeat (first | refine Below.drew ?_ | (with_reducible refine below_drewN _ ?_) | refine Below.alloc ?_ (by first | omega | (simp; done) | (simp; omega)) _ | refine Below.setCell ?_ (by first | omega | (simp; done) | (simp; omega)) _)); first | exact Below.refl _ _ | assumption | exact below_drewN _ (Below.refl _ _) | exact below_drewN _ (below_drewN _ (Below.refl _ _)))⟩
    | cons y ys =>
      have d3 : decide ((0 : Int) < (n2 : Int)) = true := decide_eq_true (by rw [← hn2, List.length_cons]; omega)
      have l3 : (0 : Int) < (n2 : Int) := of_decide_eq_true d3
      have d4 : ((n2 : Int) == 0) = false := by rw [beq_eq_false_iff_ne]; omega
      have d4' : (n2 == 0) = false := by rw [beq_eq_false_iff_ne]; omega
      have d3' : decide (0 < n2) = true := decide_eq_true (by omega)
      have hex := hx.each x List.mem_cons_self
      have hey := hy.each y List.mem_cons_self
      obtain ⟨b, off, P, pc, rfl, hb, c0, hp⟩ := head_cells h1 hex.1
      obtain ⟨b', off', P', pc', rfl, hb', c0', hp'⟩ := head_cells h2 hey.1
      have kxy := Tr.key_lt (p := x.1) (q := y.1) (by rw [hex.1, hey.1]) hex.2.1 hey.2.1
      have kyx := Tr.key_lt (p := y.1) (q := x.1) (by rw [hex.1, hey.1]) hey.2.1 hex.2.1
      obtain ⟨r1, hr1⟩ : ∃ r, decide (Z.cmp x.1 y.1 < 0) = r := ⟨_, rfl⟩
      obtain ⟨r2, hr2⟩ : ∃ r, decide (Z.cmp y.1 x.1 < 0) = r := ⟨_, rfl⟩
      have HI1 : Hid (∀ w1, Below w.heap.size w w1 → Calls Try.prog 29 #[.slice P k pc, .slice P' k pc'] w1 fun e w' => e = .returned (.bool r1) ∧ w1 = w') := Lib.hid fun w1 hb1 =>
        ed_isAhead (hp.below' hb1 hB) (Nat.le_trans hB hb1.size) (hp'.below' hb1 hB) (Nat.le_trans hB hb1.size) hex.1 hey.1 k1 k16 hex.1 hey.1 hr1
      have HI2 : Hid (∀ w1, Below w.heap.size w w1 → Calls Try.prog 29 #[.slice P' k pc', .slice P k pc] w1 fun e w' => e = .returned (.bool r2) ∧ w1 = w') := Lib.hid fun w1 hb1 =>
        ed_isAhead (hp'.below' hb1 hB) (Nat.le_trans hB hb1.size) (hp.below' hb1 hB) (Nat.le_trans hB hb1.size) hey.1 hex.1 k1 k16 hey.1 hex.1 hr2
      have HQ : Hid ((r1 = true → q = (some x, none)) ∧ (r1 = false → r2 = true → q = (none, some y)) ∧ (r1 = false → r2 = false → q = (some x, some y)) ∧ ¬ (r1 = true ∧ r2 = true)) := Lib.hid (by
        have hq' : (if Tr.key x.1 < Tr.key y.1 then ((some x, none) : Pc) else if Tr.key y.1 < Tr.key x.1 then (none, some y) else (some x, some y)) = q := hq
        subst hr1 hr2
        refine ⟨fun h => ?_, fun h h' => ?_, fun h h' => ?_, fun h => ?_⟩
        · rw [← hq', if_pos (kxy.2 (of_decide_eq_true h))]
        · have h := of_decide_eq_false h
          have h' := kyx.2 (of_decide_eq_true h')
          rw [← hq', if_neg (by omega), if_pos h']
        · have h := of_decide_eq_false h
          have h' := of_decide_eq_false h'
          rw [← hq', if_neg (fun e => h (kxy.1 e)), if_neg (fun e => h' (kyx.1 e))]
        · have h1 := kxy.2 (of_decide_eq_true h.1)
          have h2 := kyx.2 (of_decide_eq_true h.2)
          omega)
      have HPx := Lib.hid hpx
      have HPy := Lib.hid hpy
      clear h1 h2 hB hx hy k1 k16 hn1 hn2 hl1 hl2 hq hex hey hb hb' hp hp' kxy kyx hr1 hr2 hpx hpy
      cases r1 with
      | true =>
        have hqq := HQ.out.1 rfl
        subst hqq
        obtain rfl : px = some ⟨b, off, none⟩ := HPx.out.symm
        obtain rfl : py = none := HPy.out.symm
        cases r2 with
        | true => exact absurd ⟨rfl, rfl⟩ HQ.out.2.2.2
        | false =>
          go_enter Try.func37, Try.ntmps37
          go_wp2_with fail
          go_quiet ((go_at_call 29; exact Calls.quiet_of_same ((HI2.out _ (show Below w.heap.size w _ by ((repeat (first | refine Below.drew ?_ | (with_reducible refine below_drewN _ ?_) | refine Below.alloc ?_ (by first | omega | (simp; done) | (simp; omega)) _ | refine Below.setCell ?_ (by first | omega | (simp; done) | (simp; omega)) _)); first | exact Below.refl _ _ | assumption | exact below_drewN _ (Below.refl _ _) | exact below_drewN _ (below_drewN _ (Below.refl _ _))))).mono fun e w' h => ⟨h.1, h.2.symm⟩)))
          go_wp2_with fail
          obtain ⟨W1, hW1⟩ : ∃ W1, W1 = w.drewN nq := ⟨_, rfl⟩
          rw [← hW1]
          have hb1 : Below w.heap.size w W1 := by rw [hW1]; exact below_drewN _ (Below.refl _ _)
          have q0 : W1.cell? ⟨b, off, none⟩ = some (.slice P k pc) := by rw [hW1]; exact c0
          have q0' : W1.cell? ⟨b', off', none⟩ = some (.slice P' k pc') := by rw [hW1]; exact c0'
          clear hW1 c0 c0'
          go_quiet ((go_at_call 29; exact Calls.quiet_of_same ((HI1.out _ (show Below w.heap.size w _ by ((repeat (first | refine Below.drew ?_ | (with_reducible refine below_drewN _ ?_) | refine Below.alloc ?_ (by first | omega | (simp; done) | (simp; omega)) _ | refine Below.setCell ?_ (by first | omega | (simp; done) | (simp; omega)) _)); first | exact Below.refl _ _ | assumption | exact below_drewN _ (Below.refl _ _) | exact below_drewN _ (below_drewN _ (Below.refl _ _))))).mono fun e w' h => ⟨h.1, h.2.symm⟩)))
          go_wp2_with fail
          go_ret2
          exact ⟨rfl, by ((repeat (first | refine Below.drew ?_ | (with_reducible refine below_drewN _ ?_) | refine Below.alloc ?_ (by first | omega | (simp; done) | (simp; omega)) _ | refine Below.setCell ?_ (by first | omega | (simp; done) | (simp; omega)) _)); first | exact Below.refl _ _ | assumption | exact below_drewN _ (Below.refl _ _) | exact below_drewN _ (below_drewN _ (Below.refl _ _)))⟩
      | false =>
        cases r2 with
        | true =>
          have hqq := HQ.out.2.1 rfl rfl
          subst hqq
          obtain rfl : px = none := HPx.out.symm
          obtain rfl : py = some ⟨b', off', none⟩ := HPy.out.symm
          go_enter Try.func37, Try.ntmps37
          go_wp2_with fail
          go_quiet ((go_at_call 29; exact Calls.quiet_of_same ((HI2.out _ (show Below w.heap.size w _ by ((repeat (first | refine Below.drew ?_ | (with_reducible refine below_drewN _ ?_) | refine Below.alloc ?_ (by first | omega | (simp; done) | (simp; omega)) _ | refine Below.setCell ?_ (by first | omega | (simp; done) | (simp; omega)) _)); first | exact Below.refl _ _ | assumption | exact below_drewN _ (Below.refl _ _) | exact below_drewN _ (below_drewN _ (Below.refl _ _))))).mono fun e w' h => ⟨h.1, h.2.symm⟩)))
          go_wp2_with fail
          obtain ⟨W1, hW1⟩ : ∃ W1, W1 = w.drewN nq := ⟨_, rfl⟩
          rw [← hW1]
          have hb1 : Below w.heap.size w W1 := by rw [hW1]; exact below_drewN _ (Below.refl _ _)
          have q0 : W1.cell? ⟨b, off, none⟩ = some (.slice P k pc) := by rw [hW1]; exact c0
          have q0' : W1.cell? ⟨b', off', none⟩ = some (.slice P' k pc') := by rw [hW1]; exact c0'
          clear hW1 c0 c0'
          go_quiet ((go_at_call 29; exact Calls.quiet_of_same ((HI1.out _ (show Below w.heap.size w _ by ((repeat (first | refine Below.drew ?_ | (with_reducible refine below_drewN _ ?_) | refine Below.alloc ?_ (by first | omega | (simp; done) | (simp; omega)) _ | refine Below.setCell ?_ (by first | omega | (simp; done) | (simp; omega)) _)); first | exact Below.refl _ _ | assumption | exact below_drewN _ (Below.refl _ _) | exact below_drewN _ (below_drewN _ (Below.refl _ _))))).mono fun e w' h => ⟨h.1, h.2.symm⟩)))
          go_wp2_with fail
          go_ret2
          exact ⟨rfl, by ((repeat (first | refine Below.drew ?_ | (with_reducible refine below_drewN _ ?_) | refine Below.alloc ?_ (by first | omega | (simp; done) | (simp; omega)) _ | refine Below.setCell ?_ (by first | omega | (simp; done) | (simp; omega)) _)); first | exact Below.refl _ _ | assumption | exact below_drewN _ (Below.refl _ _) | exact below_drewN _ (below_drewN _ (Below.refl _ _)))⟩
        | false =>
          have hqq := HQ.out.2.2.1 rfl rfl
          subst hqq
          obtain rfl : px = some ⟨b, off, none⟩ := HPx.out.symm
          obtain rfl : py = some ⟨b', off', none⟩ := HPy.out.symm
          go_enter Try.func37, Try.ntmps37
          go_wp2_with fail
          go_quiet ((go_at_call 29; exact Calls.quiet_of_same ((HI2.out _ (show Below w.heap.size w _ by ((repeat (first | refine Below.drew ?_ | (with_reducible refine below_drewN _ ?_) | refine Below.alloc ?_ (by first | omega | (simp; done) | (simp; omega)) _ | refine Below.setCell ?_ (by first | omega | (simp; done) | (simp; omega)) _)); first | exact Below.refl _ _ | assumption | exact below_drewN _ (Below.refl _ _) | exact below_drewN _ (below_drewN _ (Below.refl _ _))))).mono fun e w' h => ⟨h.1, h.2.symm⟩)))
          go_wp2_with fail
          obtain ⟨W1, hW1⟩ : ∃ W1, W1 = w.drewN nq := ⟨_, rfl⟩
          rw [← hW1]
          have hb1 : Below w.heap.size w W1 := by rw [hW1]; exact below_drewN _ (Below.refl _ _)
          have q0 : W1.cell? ⟨b, off, none⟩ = some (.slice P k pc) := by rw [hW1]; exact c0
          have q0' : W1.cell? ⟨b', off', none⟩ = some (.slice P' k pc') := by rw [hW1]; exact c0'
          clear hW1 c0 c0'
          go_quiet ((go_at_call 29; exact Calls.quiet_of_same ((HI1.out _ (show Below w.heap.size w _ by ((repeat (first | refine Below.drew ?_ | (with_reducible refine below_drewN _ ?_) | refine Below.alloc ?_ (by first | omega | (simp; done) | (simp; omega)) _ | refine Below.setCell ?_ (by first | omega | (simp; done) | (simp; omega)) _)); first | exact Below.refl _ _ | assumption | exact below_drewN _ (Below.refl _ _) | exact below_drewN _ (below_drewN _ (Below.refl _ _))))).mono fun e w' h => ⟨h.1, h.2.symm⟩)))
          go_wp2_with fail
          go_ret2
          exact ⟨rfl, by ((repeat (first | refine Below.drew ?_ | (with_reducible refine below_drewN _ ?_) | refine Below.alloc ?_ (by first | omega | (simp; done) | (simp; omega)) _ | refine Below.setCell ?_ (by first | omega | (simp; done) | (simp; omega)) _)); first | exact Below.refl _ _ | assumption | exact below_drewN _ (Below.refl _ _) | exact below_drewN _ (below_drewN _ (Below.refl _ _)))⟩
end Go.Proofs.Ytpgkfccfabnjdaa

/-
  CONTRACTS of package edit, eighth part: join.
-/
namespace Go.Proofs.Ytpgkfccfabnjdaa
open Go.ChangeShapes Go.WideShapes Go.ChangeAt Go.RowKit
open Tr (T S4 Ent Chg Raw Pc)

structure ChAt (w : World) (b off : Nat) (P : Option Addr) (n c : Nat) (h s : Bool) (o v : Nat) : Prop where
  c0 : w.cell? ⟨b, off, none⟩ = some (.slice P n c)
  c1 : w.cell? ⟨b, off + 1, none⟩ = some (.bool h)
  c2 : w.cell? ⟨b, off + 2, none⟩ = some (.bool s)
  c3 : w.cell? ⟨b, off + 3, none⟩ = some (.int .u64 (o : Int))
  c4 : w.cell? ⟨b, off + 4, none⟩ = some (.int .u64 (v : Int))
theorem ChAt.below {w w' : World} {B b off : Nat} {P : Option Addr} {n c : Nat} {h s : Bool} {o v : Nat} (x : ChAt w b off P n c h s o v) (hb : Below B w w') (hB : b < B) : ChAt w' b off P n c h s o v :=
  ⟨(hb.cell (p := ⟨b, off, none⟩) hB).trans x.c0, (hb.cell (p := ⟨b, off + 1, none⟩) hB).trans x.c1, (hb.cell (p := ⟨b, off + 2, none⟩) hB).trans x.c2, (hb.cell (p := ⟨b, off + 3, none⟩) hB).trans x.c3, (hb.cell (p := ⟨b, off + 4, none⟩) hB).trans x.c4⟩
theorem ch_at {w : World} {g : Nat} {P : Option Addr} {n c : Nat} {h s : Bool} {o v : Nat} {t : TypeId} (hr : w.heap[g]? = some (.cells #[.slice P n c, .bool h, .bool s, .int .u64 (o : Int), .int .u64 (v : Int)] t (0, 0))) : ChAt w g 0 P n c h s o v :=
  ⟨by rw [cell_of_row w _ _ _ _ (0, 0) hr]; rfl, by rw [cell_of_row w _ _ _ _ (0, 0) hr]; rfl, by rw [cell_of_row w _ _ _ _ (0, 0) hr]; rfl, by rw [cell_of_row w _ _ _ _ (0, 0) hr]; rfl, by rw [cell_of_row w _ _ _ _ (0, 0) hr]; rfl⟩
set_option maxRecDepth 100000 in
theorem ed_join_r {w : World} {b off : Nat} {P : Option Addr} {n c : Nat} {h s : Bool} {o v : Nat} (y : ChAt w b off P n c h s o v) (hb : b < w.heap.size) :
    Calls Try.prog 17 #[.pointer none, .pointer (some ⟨b, off, none⟩)] w fun e w' => e = .returned (.tuple #[chV P n c h s o v, .bool true]) ∧ Below w.heap.size w w' := by
  have hal := below_alloc w (.cells #[.slice none 0 0, .bool false, .bool false, .int .u64 0, .int .u64 0] 43)
  obtain ⟨c0, c1, c2, c3, c4⟩ := y.below hal hb
  clear y hal hb
  go_enter Try.func17, Try.ntmps17
  go_wp2_with fail
  refine bodyPost_ret (v := .tuple #[chV P n c h s o v, .bool true]) (by simp [results, Try.results17, go_sem]) rfl ?_
  exact ⟨rfl, by ((repeat (first | refine Below.drew ?_ | (with_reducible refine below_drewN _ ?_) | refine Below.alloc ?_ (by first | omega | (simp; done) | (simp; omega)) _ | refine Below.setCell ?_ (by first | omega | (simp; done) | (simp; omega)) _)); first | exact Below.refl _ _ | assumption | exact below_drewN _ (Below.refl _ _) | exact below_drewN _ (below_drewN _ (Below.refl _ _)))⟩
set_option maxRecDepth 100000 in
theorem ed_join_l {w : World} {b off : Nat} {P : Option Addr} {n c : Nat} {h s : Bool} {o v : Nat} (x : ChAt w b off P n c h s o v) (hb : b < w.heap.size) :
    Calls Try.prog 17 #[.pointer (some ⟨b, off, none⟩), .pointer none] w fun e w' => e = .returned (.tuple #[chV P n c h s o v, .bool true]) ∧ Below w.heap.size w w' := by
  have hal := below_alloc w (.cells #[.slice none 0 0, .bool false, .bool false, .int .u64 0, .int .u64 0] 43)
  obtain ⟨c0, c1, c2, c3, c4⟩ := x.below hal hb
  clear x hal hb
  go_enter Try.func17, Try.ntmps17
  go_wp2_with fail
  refine bodyPost_ret (v := .tuple #[chV P n c h s o v, .bool true]) (by simp [results, Try.results17, go_sem]) rfl ?_
  exact ⟨rfl, by ((repeat (first | refine Below.drew ?_ | (with_reducible refine below_drewN _ ?_) | refine Below.alloc ?_ (by first | omega | (simp; done) | (simp; omega)) _ | refine Below.setCell ?_ (by first | omega | (simp; done) | (simp; omega)) _)); first | exact Below.refl _ _ | assumption | exact below_drewN _ (Below.refl _ _) | exact below_drewN _ (below_drewN _ (Below.refl _ _)))⟩
abbrev set5 (w : World) (g : Nat) (x0 x1 x2 x3 x4 : Value) : World := ((((w.setCell ⟨g, 0, none⟩ x0).setCell ⟨g, 1, none⟩ x1).setCell ⟨g, 2, none⟩ x2).setCell ⟨g, 3, none⟩ x3).setCell ⟨g, 4, none⟩ x4
theorem set5_other (w : World) (g : Nat) (x0 x1 x2 x3 x4 : Value) (b : Nat) (hb : b ≠ g) : (set5 w g x0 x1 x2 x3 x4).heap[b]? = w.heap[b]? :=
  (Below.heap_setCell _ _ _ _ hb).trans ((Below.heap_setCell _ _ _ _ hb).trans ((Below.heap_setCell _ _ _ _ hb).trans ((Below.heap_setCell _ _ _ _ hb).trans (Below.heap_setCell _ _ _ _ hb))))
theorem set5_row (w : World) (g : Nat) (x0 x1 x2 x3 x4 a0 a1 a2 a3 a4 : Value) (t : TypeId) (h : w.heap[g]? = some (.cells #[a0, a1, a2, a3, a4] t (0, 0))) : (set5 w g x0 x1 x2 x3 x4).heap[g]? = some (.cells #[x0, x1, x2, x3, x4] t (0, 0)) :=
  heap_setCell_same _ g 4 _ t x4 (heap_setCell_same _ g 3 _ t x3 (heap_setCell_same _ g 2 _ t x2 (heap_setCell_same _ g 1 _ t x1 (heap_setCell_same w g 0 _ t x0 h))))
theorem set5_below {B : Nat} {w w' : World} (h : Below B w w') (g : Nat) (x0 x1 x2 x3 x4 : Value) (hg : B ≤ g) : Below B w (set5 w' g x0 x1 x2 x3 x4) :=
  ((((h.setCell (p := ⟨g, 0, none⟩) hg x0).setCell (p := ⟨g, 1, none⟩) hg x1).setCell (p := ⟨g, 2, none⟩) hg x2).setCell (p := ⟨g, 3, none⟩) hg x3).setCell (p := ⟨g, 4, none⟩) hg x4
set_option maxRecDepth 100000 in
set_option maxHeartbeats 2000000 in
theorem ed_join_b {w : World} {b off b' off' : Nat} {P P' : Option Addr} {n c n' c' : Nat} {h s h' s' : Bool} {o v o' v' : Nat} (x : ChAt w b off P n c h s o v) (y : ChAt w b' off' P' n' c' h' s' o' v') (hb : b < w.heap.size) (hb' : b' < w.heap.size) {r : Bool} (hr : (s == h' && (v : Int) == (o' : Int)) = r) :
    Calls Try.prog 17 #[.pointer (some ⟨b, off, none⟩), .pointer (some ⟨b', off', none⟩)] w fun e w' => e = .returned (.tuple #[chV P n c h s' o v', .bool r]) ∧ Below w.heap.size w w' := by
  have hal := below_alloc w (.cells #[.slice none 0 0, .bool false, .bool false, .int .u64 0, .int .u64 0] 43)
  have hrow := heap_at w (.cells #[.slice none 0 0, .bool false, .bool false, .int .u64 0, .int .u64 0] 43) _ rfl
  have hsz : (w.alloc (.cells #[.slice none 0 0, .bool false, .bool false, .int .u64 0, .int .u64 0] 43)).heap.size = w.heap.size + 1 := by simp
  have hx := x.below hal hb
  have hy := y.below hal hb'
  have hbW := hb
  have hbW' := hb'
  have HS := Lib.hid fun w1 : World => ed_has P n c h s o v w1
  have HH := Lib.hid fun w1 : World => ed_had P' n' c' h' s' o' v' w1
  have heq : ∀ w2 : World, (binOp .eql 64 (.agg #[.bool s, .int .u64 (v : Int)]) (.agg #[.bool h', .int .u64 (o' : Int)])).run Try.prog w2 = .ok (.bool r) w2 := fun w2 => by rw [thing_eql, hr]
  have HAL := Lib.hid hal
  clear x y hb hb' hr hal
  go_enter Try.func17, Try.ntmps17
  go_upto_region 5 with fail
  generalize w.alloc (.cells #[.slice none 0 0, .bool false, .bool false, .int .u64 0, .int .u64 0] 43) = W at *
  have hbb := Below.refl W.heap.size W
  have x0 : ∀ w2, Below W.heap.size W w2 → w2.cell? ⟨b, off, none⟩ = some (.slice P n c) := fun w2 hb2 => (hx.below hb2 (by omega)).c0
  have x1 : ∀ w2, Below W.heap.size W w2 → w2.cell? ⟨b, off + 1, none⟩ = some (.bool h) := fun w2 hb2 => (hx.below hb2 (by omega)).c1
  have x3 : ∀ w2, Below W.heap.size W w2 → w2.cell? ⟨b, off + 3, none⟩ = some (.int .u64 (o : Int)) := fun w2 hb2 => (hx.below hb2 (by omega)).c3
  have y2 : ∀ w2, Below W.heap.size W w2 → w2.cell? ⟨b', off' + 2, none⟩ = some (.bool s') := fun w2 hb2 => (hy.below hb2 (by omega)).c2
  have y4 : ∀ w2, Below W.heap.size W w2 → w2.cell? ⟨b', off' + 4, none⟩ = some (.int .u64 (v' : Int)) := fun w2 hb2 => (hy.below hb2 (by omega)).c4
  have HSZ := Lib.hid (And.intro hsz (And.intro hbW hbW'))
  clear hsz hbW hbW'
  go_region_held3 (fun w2 => Below W.heap.size W w2) (((repeat (first | refine Below.drew ?_ | (with_reducible refine below_drewN _ ?_) | refine Below.alloc ?_ (by first | omega | (simp; done) | (simp; omega)) _ | refine Below.setCell ?_ (by first | omega | (simp; done) | (simp; omega)) _)); first | exact Below.refl _ _ | assumption | exact below_drewN _ (Below.refl _ _) | exact below_drewN _ (below_drewN _ (Below.refl _ _)))) (fail)
  clear x0 x1 x3 y2 y4
  obtain ⟨W6, hW6⟩ : ∃ W6, W6 = (W.alloc (.cells #[.slice P n c, .bool h, .bool s', .int .u64 (o : Int), .int .u64 (v' : Int)] 43)).drew := ⟨_, rfl⟩
  have hb6 : Below W.heap.size W W6 := by rw [hW6]; exact (below_alloc W _).drew
  have hrow6 : W6.heap[W.heap.size]? = some (.cells #[.slice P n c, .bool h, .bool s', .int .u64 (o : Int), .int .u64 (v' : Int)] 43 (0, 0)) := by rw [hW6]; exact heap_at W _ _ rfl
  rw [← hW6]
  clear hW6 hbb
  have hx6 := hx.below hb6 (by have := HSZ.out; omega)
  have hy6 := hy.below hb6 (by have := HSZ.out; omega)
  have hb6l : b < W6.heap.size := Nat.lt_of_lt_of_le (by have := HSZ.out; omega) hb6.size
  have hb6r : b' < W6.heap.size := Nat.lt_of_lt_of_le (by have := HSZ.out; omega) hb6.size
  have hg6 : W.heap.size < W6.heap.size := (Array.getElem?_eq_some_iff.1 hrow6).1
  have hg4 : w.heap.size < W6.heap.size := by have := HSZ.out; omega
  have hrow4 := (hb6.block w.heap.size (by have := HSZ.out; omega)).trans hrow
  have HB6 := Lib.hid (HAL.out.trans (hb6.mono HAL.out.size))
  have hne : W.heap.size ≠ w.heap.size := by have := HSZ.out; omega
  have hneb : b ≠ w.heap.size := by have := HSZ.out; omega
  have hneb' : b' ≠ w.heap.size := by have := HSZ.out; omega
  clear hx hy hrow hb6
  have hbb := Below.refl W6.heap.size W6
  have x0 : ∀ w2 : World, (w2.heap[b]? = W6.heap[b]? ∧ w2.heap[b']? = W6.heap[b']? ∧ w2.heap[W.heap.size]? = W6.heap[W.heap.size]?) → w2.cell? ⟨b, off, none⟩ = some (.slice P n c) := fun w2 hh => (World.cell?_of_block (a := ⟨b, off, none⟩) hh.1).trans hx6.c0
  have x1 : ∀ w2 : World, (w2.heap[b]? = W6.heap[b]? ∧ w2.heap[b']? = W6.heap[b']? ∧ w2.heap[W.heap.size]? = W6.heap[W.heap.size]?) → w2.cell? ⟨b, off + 1, none⟩ = some (.bool h) := fun w2 hh => (World.cell?_of_block (a := ⟨b, off + 1, none⟩) hh.1).trans hx6.c1
  have x2 : ∀ w2 : World, (w2.heap[b]? = W6.heap[b]? ∧ w2.heap[b']? = W6.heap[b']? ∧ w2.heap[W.heap.size]? = W6.heap[W.heap.size]?) → w2.cell? ⟨b, off + 2, none⟩ = some (.bool s) := fun w2 hh => (World.cell?_of_block (a := ⟨b, off + 2, none⟩) hh.1).trans hx6.c2
  have x3 : ∀ w2 : World, (w2.heap[b]? = W6.heap[b]? ∧ w2.heap[b']? = W6.heap[b']? ∧ w2.heap[W.heap.size]? = W6.heap[W.heap.size]?) → w2.cell? ⟨b, off + 3, none⟩ = some (.int .u64 (o : Int)) := fun w2 hh => (World.cell?_of_block (a := ⟨b, off + 3, none⟩) hh.1).trans hx6.c3
  have x4 : ∀ w2 : World, (w2.heap[b]? = W6.heap[b]? ∧ w2.heap[b']? = W6.heap[b']? ∧ w2.heap[W.heap.size]? = W6.heap[W.heap.size]?) → w2.cell? ⟨b, off + 4, none⟩ = some (.int .u64 (v : Int)) := fun w2 hh => (World.cell?_of_block (a := ⟨b, off + 4, none⟩) hh.1).trans hx6.c4
  have y0 : ∀ w2 : World, (w2.heap[b]? = W6.heap[b]? ∧ w2.heap[b']? = W6.heap[b']? ∧ w2.heap[W.heap.size]? = W6.heap[W.heap.size]?) → w2.cell? ⟨b', off', none⟩ = some (.slice P' n' c') := fun w2 hh => (World.cell?_of_block (a := ⟨b', off', none⟩) hh.2.1).trans hy6.c0
  have y1 : ∀ w2 : World, (w2.heap[b]? = W6.heap[b]? ∧ w2.heap[b']? = W6.heap[b']? ∧ w2.heap[W.heap.size]? = W6.heap[W.heap.size]?) → w2.cell? ⟨b', off' + 1, none⟩ = some (.bool h') := fun w2 hh => (World.cell?_of_block (a := ⟨b', off' + 1, none⟩) hh.2.1).trans hy6.c1
  have y2 : ∀ w2 : World, (w2.heap[b]? = W6.heap[b]? ∧ w2.heap[b']? = W6.heap[b']? ∧ w2.heap[W.heap.size]? = W6.heap[W.heap.size]?) → w2.cell? ⟨b', off' + 2, none⟩ = some (.bool s') := fun w2 hh => (World.cell?_of_block (a := ⟨b', off' + 2, none⟩) hh.2.1).trans hy6.c2
  have y3 : ∀ w2 : World, (w2.heap[b]? = W6.heap[b]? ∧ w2.heap[b']? = W6.heap[b']? ∧ w2.heap[W.heap.size]? = W6.heap[W.heap.size]?) → w2.cell? ⟨b', off' + 3, none⟩ = some (.int .u64 (o' : Int)) := fun w2 hh => (World.cell?_of_block (a := ⟨b', off' + 3, none⟩) hh.2.1).trans hy6.c3
  have y4 : ∀ w2 : World, (w2.heap[b]? = W6.heap[b]? ∧ w2.heap[b']? = W6.heap[b']? ∧ w2.heap[W.heap.size]? = W6.heap[W.heap.size]?) → w2.cell? ⟨b', off' + 4, none⟩ = some (.int .u64 (v' : Int)) := fun w2 hh => (World.cell?_of_block (a := ⟨b', off' + 4, none⟩) hh.2.1).trans hy6.c4
  have hc6 := ch_at hrow6
  have k0 : ∀ w2 : World, (w2.heap[b]? = W6.heap[b]? ∧ w2.heap[b']? = W6.heap[b']? ∧ w2.heap[W.heap.size]? = W6.heap[W.heap.size]?) → w2.cell? ⟨W.heap.size, 0, none⟩ = some (.slice P n c) := fun w2 hh => (World.cell?_of_block (a := ⟨W.heap.size, 0, none⟩) hh.2.2).trans hc6.c0
  have k1 : ∀ w2 : World, (w2.heap[b]? = W6.heap[b]? ∧ w2.heap[b']? = W6.heap[b']? ∧ w2.heap[W.heap.size]? = W6.heap[W.heap.size]?) → w2.cell? ⟨W.heap.size, 1, none⟩ = some (.bool h) := fun w2 hh => (World.cell?_of_block (a := ⟨W.heap.size, 1, none⟩) hh.2.2).trans hc6.c1
  have k2 : ∀ w2 : World, (w2.heap[b]? = W6.heap[b]? ∧ w2.heap[b']? = W6.heap[b']? ∧ w2.heap[W.heap.size]? = W6.heap[W.heap.size]?) → w2.cell? ⟨W.heap.size, 2, none⟩ = some (.bool s') := fun w2 hh => (World.cell?_of_block (a := ⟨W.heap.size, 2, none⟩) hh.2.2).trans hc6.c2
  have k3 : ∀ w2 : World, (w2.heap[b]? = W6.heap[b]? ∧ w2.heap[b']? = W6.heap[b']? ∧ w2.heap[W.heap.size]? = W6.heap[W.heap.size]?) → w2.cell? ⟨W.heap.size, 3, none⟩ = some (.int .u64 (o : Int)) := fun w2 hh => (World.cell?_of_block (a := ⟨W.heap.size, 3, none⟩) hh.2.2).trans hc6.c3
  have k4 : ∀ w2 : World, (w2.heap[b]? = W6.heap[b]? ∧ w2.heap[b']? = W6.heap[b']? ∧ w2.heap[W.heap.size]? = W6.heap[W.heap.size]?) → w2.cell? ⟨W.heap.size, 4, none⟩ = some (.int .u64 (v' : Int)) := fun w2 hh => (World.cell?_of_block (a := ⟨W.heap.size, 4, none⟩) hh.2.2).trans hc6.c4
  clear hc6 hx6 hy6
  go_wp2_with fail
  go_region_held3 (fun w2 : World => w2.heap[b]? = W6.heap[b]? ∧ w2.heap[b']? = W6.heap[b']? ∧ w2.heap[W.heap.size]? = W6.heap[W.heap.size]?) (first | exact ⟨(show Below W6.heap.size W6 _ by ((repeat (first | refine Below.drew ?_ | (with_reducible refine below_drewN _ ?_) | refine Below.alloc ?_ (by first | omega | (simp; done) | (simp; omega)) _ | refine Below.setCell ?_ (by first | omega | (simp; done) | (simp; omega)) _)); first | exact Below.refl _ _ | assumption | exact below_drewN _ (Below.refl _ _) | exact below_drewN _ (below_drewN _ (Below.refl _ _)))).block _ hb6l, (show Below W6.heap.size W6 _ by ((repeat (first | refine Below.drew ?_ | (with_reducible refine below_drewN _ ?_) | refine Below.alloc ?_ (by first | omega | (simp; done) | (simp; omega)) _ | refine Below.setCell ?_ (by first | omega | (simp; done) | (simp; omega)) _)); first | exact Below.refl _ _ | assumption | exact below_drewN _ (Below.refl _ _) | exact below_drewN _ (below_drewN _ (Below.refl _ _)))).block _ hb6r, (show Below W6.heap.size W6 _ by ((repeat (first | refine Below.drew ?_ | (with_reducible refine below_drewN _ ?_) | refine Below.alloc ?_ (by first | omega | (simp; done) | (simp; omega)) _ | refine Below.setCell ?_ (by first | omega | (simp; done) | (simp; omega)) _)); first | exact Below.refl _ _ | assumption | exact below_drewN _ (Below.refl _ _) | exact below_drewN _ (below_drewN _ (Below.refl _ _)))).block _ hg6⟩ | exact ⟨(set5_other _ _ _ _ _ _ _ _ hneb).trans (hbD.block _ hb6l), (set5_other _ _ _ _ _ _ _ _ hneb').trans (hbD.block _ hb6r), (set5_other _ _ _ _ _ _ _ _ hne).trans (hbD.block _ hg6)⟩)
    ((first
      | (go_at_call 35; refine (HS.out _).mono ?_; rintro e wd ⟨rfl, hbd⟩; have hbD := Below.andThen (show Below W6.heap.size W6 _ by ((repeat (first | refine Below.drew ?_ | (with_reducible refine below_drewN _ ?_) | refine Below.alloc ?_ (by first | omega | (simp; done) | (simp; omega)) _ | refine Below.setCell ?_ (by first | omega | (simp; done) | (simp; omega)) _)); first | exact Below.refl _ _ | assumption | exact below_drewN _ (Below.refl _ _) | exact below_drewN _ (below_drewN _ (Below.refl _ _)))) hbd; have hrd := (hbD.block _ hg4).trans hrow4; have z0 : wd.cell? ⟨w.heap.size, 0, none⟩ = some (.slice none 0 0) := (by rw [cell_of_row wd _ _ _ _ (0, 0) hrd]; rfl); have z1 : wd.cell? ⟨w.heap.size, 1, none⟩ = some (.bool false) := (by rw [cell_of_row wd _ _ _ _ (0, 0) hrd]; rfl); have z2 : wd.cell? ⟨w.heap.size, 2, none⟩ = some (.bool false) := (by rw [cell_of_row wd _ _ _ _ (0, 0) hrd]; rfl); have z3 : wd.cell? ⟨w.heap.size, 3, none⟩ = some (.int .u64 0) := (by rw [cell_of_row wd _ _ _ _ (0, 0) hrd]; rfl); have z4 : wd.cell? ⟨w.heap.size, 4, none⟩ = some (.int .u64 0) := (by rw [cell_of_row wd _ _ _ _ (0, 0) hrd]; rfl); have e0 := frozen_of_row wd w.heap.size 0 _ _ hrd; have e1 := frozen_of_row wd w.heap.size 1 _ _ hrd; have e2 := frozen_of_row wd w.heap.size 2 _ _ hrd; have e3 := frozen_of_row wd w.heap.size 3 _ _ hrd; have e4 := frozen_of_row wd w.heap.size 4 _ _ hrd; clear hbd)
      | (go_at_call 32; refine (HH.out _).mono ?_; rintro e wd ⟨rfl, hbd⟩; have hbD := Below.andThen (show Below W6.heap.size W6 _ by ((repeat (first | refine Below.drew ?_ | (with_reducible refine below_drewN _ ?_) | refine Below.alloc ?_ (by first | omega | (simp; done) | (simp; omega)) _ | refine Below.setCell ?_ (by first | omega | (simp; done) | (simp; omega)) _)); first | exact Below.refl _ _ | assumption | exact below_drewN _ (Below.refl _ _) | exact below_drewN _ (below_drewN _ (Below.refl _ _)))) hbd; have hrd := (hbD.block _ hg4).trans hrow4; have z0 : wd.cell? ⟨w.heap.size, 0, none⟩ = some (.slice none 0 0) := (by rw [cell_of_row wd _ _ _ _ (0, 0) hrd]; rfl); have z1 : wd.cell? ⟨w.heap.size, 1, none⟩ = some (.bool false) := (by rw [cell_of_row wd _ _ _ _ (0, 0) hrd]; rfl); have z2 : wd.cell? ⟨w.heap.size, 2, none⟩ = some (.bool false) := (by rw [cell_of_row wd _ _ _ _ (0, 0) hrd]; rfl); have z3 : wd.cell? ⟨w.heap.size, 3, none⟩ = some (.int .u64 0) := (by rw [cell_of_row wd _ _ _ _ (0, 0) hrd]; rfl); have z4 : wd.cell? ⟨w.heap.size, 4, none⟩ = some (.int .u64 0) := (by rw [cell_of_row wd _ _ _ _ (0, 0) hrd]; rfl); have e0 := frozen_of_row wd w.heap.size 0 _ _ hrd; have e1 := frozen_of_row wd w.heap.size 1 _ _ hrd; have e2 := frozen_of_row wd w.heap.size 2 _ _ hrd; have e3 := frozen_of_row wd w.heap.size 3 _ _ hrd; have e4 := frozen_of_row wd w.heap.size 4 _ _ hrd; clear hbd)))
  obtain ⟨Wf, hWf⟩ : ∃ Wf, Wf = set5 wd w.heap.size (.slice P n c) (.bool h) (.bool s') (.int .u64 (o : Int)) (.int .u64 (v' : Int)) := ⟨_, rfl⟩
  have hrf : Wf.heap[w.heap.size]? = some (.cells #[.slice P n c, .bool h, .bool s', .int .u64 (o : Int), .int .u64 (v' : Int)] 43 (0, 0)) := by rw [hWf]; exact set5_row _ _ _ _ _ _ _ _ _ _ _ _ _ hrd
  have hbf : Below w.heap.size w Wf := by rw [hWf]; exact set5_below (HB6.out.trans (hbD.mono HB6.out.size)) _ _ _ _ _ _ (Nat.le_refl _)
  rw [← show Wf = ((((wd.setCell ⟨w.heap.size, 0, none⟩ (.slice P n c)).setCell ⟨w.heap.size, 1, none⟩ (.bool h)).setCell ⟨w.heap.size, 2, none⟩ (.bool s')).setCell ⟨w.heap.size, 3, none⟩ (.int .u64 (o : Int))).setCell ⟨w.heap.size, 4, none⟩ (.int .u64 (v' : Int)) from hWf]
  have q0 : Wf.cell? ⟨w.heap.size, 0, none⟩ = some (.slice P n c) := by rw [cell_of_row Wf _ _ _ _ (0, 0) hrf]; rfl
  have q1 : Wf.cell? ⟨w.heap.size, 1, none⟩ = some (.bool h) := by rw [cell_of_row Wf _ _ _ _ (0, 0) hrf]; rfl
  have q2 : Wf.cell? ⟨w.heap.size, 2, none⟩ = some (.bool s') := by rw [cell_of_row Wf _ _ _ _ (0, 0) hrf]; rfl
  have q3 : Wf.cell? ⟨w.heap.size, 3, none⟩ = some (.int .u64 (o : Int)) := by rw [cell_of_row Wf _ _ _ _ (0, 0) hrf]; rfl
  have q4 : Wf.cell? ⟨w.heap.size, 4, none⟩ = some (.int .u64 (v' : Int)) := by rw [cell_of_row Wf _ _ _ _ (0, 0) hrf]; rfl
  clear x0 x1 x2 x3 x4 y0 y1 y2 y3 y4 k0 k1 k2 k3 k4 hWf z0 z1 z2 z3 z4 e0 e1 e2 e3 e4 hrd hbD hrow4 hrow6 hrf
  go_wp2_with fail
  refine bodyPost_ret (v := .tuple #[chV P n c h s' o v', .bool r]) (by simp [results, Try.results17, go_sem, q0, q1, q2, q3, q4]) rfl ?_
  exact ⟨rfl, hbf⟩
end Go.Proofs.Ytpgkfccfabnjdaa
