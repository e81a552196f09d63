/-
  THE WALK of the law MaskOf.
-/
import Derived.Test.YtkkpgfpkeiamaaaAw4
import Derived.Test.YtkkpgfpkeiamaaaMk5
import Derived.Test.YtkkpgfpkeiamaaaRm3
namespace Go.Proofs.Ytkkpgfpkeiamaaa
open Go.ChangeShapes Go.WideShapes Go.ChangeAt Go.RowKit

/-- the memory of a law with one box: its block at w.heap.size -/
def BSt (A : Option Addr) (n c : Nat) (A' : Option Addr) (n' c' : Nat) (w wr : World) : Prop := Below w.heap.size w wr ∧ BoxAt wr w.heap.size A n c A' n' c' ∧ w.heap.size < wr.heap.size
theorem BSt.new (A : Option Addr) (n c : Nat) (A' : Option Addr) (n' c' : Nat) (w : World) : BSt A n c A' n' c' w (w.alloc (.cells #[.slice A n c, .slice A' n' c'] 24)) :=
  ⟨below_alloc _ _, boxAt_new w A n c A' n' c', by simp⟩
theorem BSt.step {A : Option Addr} {n c : Nat} {A' : Option Addr} {n' c' : Nat} {w wr wx : World} (h : BSt A n c A' n' c' w wr) (hb : Below wr.heap.size wr wx) : BSt A n c A' n' c' w wx :=
  ⟨Below.andThen h.1 hb, h.2.1.below hb h.2.2, Nat.lt_of_lt_of_le h.2.2 hb.size⟩
theorem BSt.pts {A : Option Addr} {n c : Nat} {A' : Option Addr} {n' c' : Nat} {w wr : World} (h : BSt A n c A' n' c' w wr) {D : Option Addr} {us : List Nat} (hp : Pts w w.heap.size D us) : Pts wr w.heap.size D us := hp.below' h.1 (Nat.le_refl _)
theorem BSt.le {A : Option Addr} {n c : Nat} {A' : Option Addr} {n' c' : Nat} {w wr : World} (h : BSt A n c A' n' c' w wr) : w.heap.size ≤ wr.heap.size := h.1.size

set_option maxRecDepth 100000 in
theorem maskOf_big (A C C' : Option Addr) (n c m d m' d' : Nat) (l : Int) (w : World) (h : 40 < n ∨ 40 < m ∨ 40 < m') :
    Calls Try.prog 3 #[.slice A n c, .int .i64 l, boxV C m d C' m' d'] w fun e w' => e = .returned (.bool true) ∧ Below w.heap.size w w' := by
  have s0 := BSt.new C m d C' m' d' w
  have key : ∃ x1 x2 x3 : Bool, decide (40 < n) = x1 ∧ decide (40 < m) = x2 ∧ decide (40 < m') = x3 ∧ (x1 || (x2 || x3)) = true := ⟨_, _, _, rfl, rfl, rfl, by simpa using h⟩
  obtain ⟨x1, x2, x3, k1, k2, k3, hx⟩ := key
  have j1 : decide ((40 : Int) < (n : Int)) = x1 := by rw [← k1]; congr 1; exact propext (by omega)
  have j2 : decide ((40 : Int) < (m : Int)) = x2 := by rw [← k2]; congr 1; exact propext (by omega)
  have j3 : decide ((40 : Int) < (m' : Int)) = x3 := by rw [← k3]; congr 1; exact propext (by omega)
  clear h
  go_enter Try.func3, Try.ntmps3
  go_wp2_with fail
  refine (awake4_c _).mono ?_
  rintro e w1 ⟨rfl, hb1⟩
  have s1 := s0.step hb1
  have s1' := s1
  obtain ⟨-, ⟨q0, q1⟩, -⟩ := s1'
  cases x1 <;> cases x2 <;> cases x3
  case false.false.false => simp at hx
  all_goals clear hx
  all_goals go_wp2_with fail
  all_goals go_ret
  all_goals exact ⟨rfl, s1.1⟩
theorem small_facts {n m m' : Nat} (h1 : n ≤ 40) (h2 : m ≤ 40) (h3 : m' ≤ 40) : decide (40 < n) = false ∧ decide (40 < m) = false ∧ decide (40 < m') = false ∧ decide ((40 : Int) < (n : Int)) = false ∧ decide ((40 : Int) < (m : Int)) = false ∧ decide ((40 : Int) < (m' : Int)) = false :=
  ⟨decide_eq_false (by omega), decide_eq_false (by omega), decide_eq_false (by omega), decide_eq_false (by omega), decide_eq_false (by omega), decide_eq_false (by omega)⟩
/-- the mask of a law, in block mb, and the box -/
def ZSt (A : Option Addr) (n c : Nat) (A' : Option Addr) (n' c' : Nat) (x y z : Int) (mb : Nat) (w wr : World) : Prop := BSt A n c A' n' c' w wr ∧ MaskAt wr mb x y z ∧ mb < wr.heap.size
theorem ZSt.step {A : Option Addr} {n c : Nat} {A' : Option Addr} {n' c' : Nat} {x y z : Int} {mb : Nat} {w wr wx : World} (h : ZSt A n c A' n' c' x y z mb w wr) (hb : Below wr.heap.size wr wx) : ZSt A n c A' n' c' x y z mb w wx :=
  ⟨h.1.step hb, h.2.1.below hb h.2.2, Nat.lt_of_lt_of_le h.2.2 hb.size⟩
theorem BSt.mask {A : Option Addr} {n c : Nat} {A' : Option Addr} {n' c' : Nat} {w wr : World} (h : BSt A n c A' n' c' w wr) (x y z : Int) : ZSt A n c A' n' c' x y z wr.heap.size w (wr.alloc (.cells #[.int .i64 x, .int .i64 y, .int .i64 z] 27)) :=
  ⟨h.step (below_alloc _ _), maskAt_new wr x y z, by simp⟩

set_option maxRecDepth 100000 in
set_option maxHeartbeats 800000 in
theorem maskOf_dim (A C C' : Option Addr) (n c m d m' d' : Nat) (l : Int) (w : World) (h1 : n ≤ 40) (h2 : m ≤ 40) (h3 : m' ≤ 40) (h : ¬ ((1 ≤ n ∧ n ≤ 16) ∧ m = n ∧ m' = n)) :
    Calls Try.prog 3 #[.slice A n c, .int .i64 l, boxV C m d C' m' d'] w fun e w' => e = .returned (.bool true) ∧ Below w.heap.size w w' := by
  have s0 := BSt.new C m d C' m' d' w
  obtain ⟨i1, i2, i3, j1, j2, j3⟩ := small_facts h1 h2 h3
  have Hn : Hid (n ≤ maxLen ∧ m ≤ maxLen) := Lib.hid (by unfold maxLen; omega)
  have H := Lib.hid h
  go_enter Try.func3, Try.ntmps3
  go_wp2_with fail
  refine (awake4_c _).mono ?_
  rintro e w1 ⟨rfl, hb1⟩
  have s1 := s0.step hb1
  have s1' := s1
  obtain ⟨-, ⟨q0, q1⟩, -⟩ := s1'
  clear h
  go_wp2_with fail
  refine (mof_dim A C C' n c m d m' d' l _ Hn.out.1 H.out).mono ?_
  rintro e w2 ⟨rfl, hb2⟩
  have s2 := BSt.mask (s1.step hb2) 0 0 0
  generalize hmb : w2.heap.size = mb at *
  have s2' := s2
  clear q0 q1
  obtain ⟨⟨-, ⟨q0, q1⟩, -⟩, ⟨t0, t1, t2⟩, -⟩ := s2'
  go_wp2_with fail
  refine (mwhole_dim A C C' n c m d m' d' l _ Hn.out.1 H.out).mono ?_
  rintro e w3 ⟨rfl, hb3⟩
  have s3 := s2.step hb3
  have s3' := s3
  clear q0 q1 t0 t1 t2 hmb
  obtain ⟨⟨-, ⟨q0, q1⟩, -⟩, ⟨t0, t1, t2⟩, -⟩ := s3'
  go_wp2_with fail
  by_cases hr : (1 ≤ m ∧ m ≤ 16) ∧ m = m'
  · have Hr := Lib.hid hr
    have hne : ((n : Int) != (m : Int)) = true := by
      rw [bne_iff_ne]
      intro e
      have := H.out
      apply this
      omega
    clear hr
    refine (r3right_y C C' m d m' d' _ Hr.out.1.1 Hr.out.1.2 Hr.out.2).mono ?_
    rintro e w4 ⟨rfl, hb4⟩
    have s4 := s3.step hb4
    have s4' := s4
    clear q0 q1 t0 t1 t2
    obtain ⟨⟨-, ⟨q0, q1⟩, -⟩, ⟨t0, t1, t2⟩, -⟩ := s4'
    go_wp2_with fail
    go_ret
    exact ⟨rfl, s4.1.1⟩
  · have Hr := Lib.hid hr
    clear hr
    refine (r3right_n C C' m d m' d' _ Hn.out.2 Hr.out).mono ?_
    rintro e w4 ⟨rfl, hb4⟩
    have s4 := s3.step hb4
    have s4' := s4
    clear q0 q1 t0 t1 t2
    obtain ⟨⟨-, ⟨q0, q1⟩, -⟩, ⟨t0, t1, t2⟩, -⟩ := s4'
    go_wp2_with fail
    go_ret
    exact ⟨rfl, s4.1.1⟩

set_option maxRecDepth 100000 in
set_option maxHeartbeats 800000 in
theorem maskOf_arg (A C C' : Option Addr) (n c m d m' d' : Nat) (l : Int) (w : World) (h1 : 1 ≤ n) (h16 : n ≤ 16) (e1 : m = n) (e2 : m' = n) (hl : l < -1 ∨ 63 < l) :
    Calls Try.prog 3 #[.slice A n c, .int .i64 l, boxV C m d C' m' d'] w fun e w' => e = .returned (.bool true) ∧ Below w.heap.size w w' := by
  have s0 := BSt.new C m d C' m' d' w
  obtain ⟨i1, i2, i3, j1, j2, j3⟩ := small_facts (show n ≤ 40 by omega) (show m ≤ 40 by omega) (show m' ≤ 40 by omega)
  have E : Hid (m = n ∧ m' = n ∧ 1 ≤ m ∧ m ≤ 16 ∧ m = m' ∧ (l < 0 ∨ 63 < l)) := Lib.hid (by omega)
  have hne : ((n : Int) != (m : Int)) = false := by rw [bne_eq_false_iff_eq]; omega
  have hlv : ∃ x1 x2 : Bool, decide (l < -1) = x1 ∧ decide (63 < l) = x2 ∧ (x1 || x2) = true := ⟨_, _, rfl, rfl, by simpa using hl⟩
  obtain ⟨x1, x2, k1, k2, hx⟩ := hlv
  have Hl := Lib.hid hl
  clear e1 e2 hl
  go_enter Try.func3, Try.ntmps3
  go_wp2_with fail
  refine (awake4_c _).mono ?_
  rintro e w1 ⟨rfl, hb1⟩
  have s1 := s0.step hb1
  have s1' := s1
  obtain ⟨-, ⟨q0, q1⟩, -⟩ := s1'
  go_wp2_with fail
  refine (mof_arg A C C' n c m d m' d' l _ h1 h16 E.out.1 E.out.2.1 E.out.2.2.2.2.2).mono ?_
  rintro e w2 ⟨rfl, hb2⟩
  have s2 := BSt.mask (s1.step hb2) 0 0 0
  generalize hmb : w2.heap.size = mb at *
  have s2' := s2
  clear q0 q1
  obtain ⟨⟨-, ⟨q0, q1⟩, -⟩, ⟨t0, t1, t2⟩, -⟩ := s2'
  go_wp2_with fail
  refine (mwhole_arg A C C' n c m d m' d' l _ h1 h16 E.out.1 E.out.2.1 Hl.out).mono ?_
  rintro e w3 ⟨rfl, hb3⟩
  have s3 := s2.step hb3
  have s3' := s3
  clear q0 q1 t0 t1 t2 hmb
  obtain ⟨⟨-, ⟨q0, q1⟩, -⟩, ⟨t0, t1, t2⟩, -⟩ := s3'
  go_wp2_with fail
  refine (r3right_y C C' m d m' d' _ E.out.2.2.1 E.out.2.2.2.1 E.out.2.2.2.2.1).mono ?_
  rintro e w4 ⟨rfl, hb4⟩
  have s4 := s3.step hb4
  have s4' := s4
  clear q0 q1 t0 t1 t2
  obtain ⟨⟨-, ⟨q0, q1⟩, -⟩, ⟨t0, t1, t2⟩, -⟩ := s4'
  cases x1 <;> cases x2
  case false.false => simp at hx
  all_goals clear hx
  all_goals go_wp2_with fail
  all_goals go_ret
  all_goals exact ⟨rfl, s4.1.1⟩

set_option maxRecDepth 100000 in
set_option maxHeartbeats 1600000 in
theorem maskOf_yes (A C C' : Option Addr) (c d d' : Nat) (us lo hi : List Nat) (l : Int) (K : Nat) (w : World) (pu : Pts w w.heap.size A us) (pl : Pts w w.heap.size C lo) (ph : Pts w w.heap.size C' hi)
    (h1 : 1 ≤ us.length) (h16 : us.length ≤ 16) (e1 : lo.length = us.length) (e2 : hi.length = us.length) (hl : l = (K : Int) - 1) (hK : K ≤ 64) :
    Calls Try.prog 3 #[.slice A us.length c, .int .i64 l, boxV C lo.length d C' hi.length d'] w fun e w' => e = .returned (.bool true) ∧ Below w.heap.size w w' := by
  have s0 := BSt.new C lo.length d C' hi.length d' w
  obtain ⟨i1, i2, i3, j1, j2, j3⟩ := small_facts (show us.length ≤ 40 by omega) (show lo.length ≤ 40 by omega) (show hi.length ≤ 40 by omega)
  have E : Hid (lo.length = us.length ∧ hi.length = us.length ∧ 1 ≤ lo.length ∧ lo.length ≤ 16 ∧ lo.length = hi.length) := Lib.hid (by omega)
  have hne : ((us.length : Int) != (lo.length : Int)) = false := by rw [bne_eq_false_iff_eq]; omega
  obtain ⟨r, hr⟩ : ∃ r, Mk.whole us K lo hi us.length = r := ⟨_, rfl⟩
  have Hr := Lib.hid hr
  have P := Lib.hid (And.intro pu (And.intro pl ph))
  have l0 : -1 ≤ l := by omega
  have l1 : l ≤ 63 := by omega
  have Hl := Lib.hid hl
  have hrr : (r != r) = false := by simp
  clear e1 e2 hl hr pu pl ph
  by_cases hz : l = -1
  · have hl0 : Hid (l < 0 ∨ 63 < l) := Lib.hid (by omega)
    have hb : (l == -1) = true := by rw [beq_iff_eq]; exact hz
    clear hz
    go_enter Try.func3, Try.ntmps3
    go_wp2_with fail
    refine (awake4_c _).mono ?_
    rintro e w1 ⟨rfl, hb1⟩
    have s1 := s0.step hb1
    have s1' := s1
    obtain ⟨-, ⟨q0, q1⟩, -⟩ := s1'
    go_wp2_with fail
    refine (mof_arg A C C' us.length c lo.length d hi.length d' l _ h1 h16 E.out.1 E.out.2.1 hl0.out).mono ?_
    rintro e w2 ⟨rfl, hb2⟩
    have s2 := BSt.mask (s1.step hb2) 0 0 0
    generalize hmb : w2.heap.size = mb at *
    have s2' := s2
    clear q0 q1
    obtain ⟨⟨-, ⟨q0, q1⟩, -⟩, ⟨t0, t1, t2⟩, -⟩ := s2'
    go_wp2_with fail
    refine (mwhole_yes A C C' c d d' us lo hi l K w.heap.size _ r Hr.out (s2.1.pts P.out.1) (s2.1.pts P.out.2.1) (s2.1.pts P.out.2.2) s2.1.le h1 h16 E.out.1 E.out.2.1 Hl.out hK).mono ?_
    rintro e w3 ⟨rfl, hb3⟩
    have s3 := s2.step hb3
    have s3' := s3
    clear q0 q1 t0 t1 t2 hmb
    obtain ⟨⟨-, ⟨q0, q1⟩, -⟩, ⟨t0, t1, t2⟩, -⟩ := s3'
    go_wp2_with fail
    refine (r3right_y C C' lo.length d hi.length d' _ E.out.2.2.1 E.out.2.2.2.1 E.out.2.2.2.2).mono ?_
    rintro e w4 ⟨rfl, hb4⟩
    have s4 := s3.step hb4
    have s4' := s4
    clear q0 q1 t0 t1 t2
    obtain ⟨⟨-, ⟨q0, q1⟩, -⟩, ⟨t0, t1, t2⟩, -⟩ := s4'
    go_wp2_with fail
    refine (r4whole_c A C C' c d d' us lo hi l K w.heap.size _ r Hr.out (s4.1.pts P.out.1) (s4.1.pts P.out.2.1) (s4.1.pts P.out.2.2) s4.1.le h1 h16 E.out.1 E.out.2.1 Hl.out hK).mono ?_
    rintro e w5 ⟨rfl, hb5⟩
    have s5 := s4.step hb5
    have s5' := s5
    clear q0 q1 t0 t1 t2
    obtain ⟨⟨-, ⟨q0, q1⟩, -⟩, ⟨t0, t1, t2⟩, -⟩ := s5'
    go_wp2_with fail
    go_ret
    exact ⟨rfl, s5.1.1⟩
  · obtain ⟨k, rfl⟩ : ∃ k : Nat, l = (k : Int) := ⟨l.toNat, by omega⟩
    have hk : k ≤ 63 := by omega
    have hb : ((k : Int) == -1) = false := by rw [beq_eq_false_iff_ne]; omega
    obtain ⟨ml, hml⟩ : ∃ x, Mk.lowM us k lo hi = x := ⟨_, rfl⟩
    obtain ⟨mh, hmh⟩ : ∃ x, Mk.highM us k lo hi = x := ⟨_, rfl⟩
    have hof := Lib.hid (fun (B : Nat) (wx : World) (a1 : Pts wx B A us) (a2 : Pts wx B C lo) (a3 : Pts wx B C' hi) (a4 : B ≤ wx.heap.size) => mof_yes A C C' c d d' us lo hi k B wx a1 a2 a3 a4 h1 h16 E.out.1 E.out.2.1 hk)
    rw [hml, hmh] at hof
    have HM := Lib.hid (And.intro hml hmh)
    clear hz hml hmh
    go_enter Try.func3, Try.ntmps3
    go_wp2_with fail
    refine (awake4_c _).mono ?_
    rintro e w1 ⟨rfl, hb1⟩
    have s1 := s0.step hb1
    have s1' := s1
    obtain ⟨-, ⟨q0, q1⟩, -⟩ := s1'
    go_wp2_with fail
    refine (hof.out w.heap.size _ (s1.pts P.out.1) (s1.pts P.out.2.1) (s1.pts P.out.2.2) s1.le).mono ?_
    rintro e w2 ⟨rfl, hb2⟩
    have s2 := BSt.mask (s1.step hb2) (us.length : Int) (ml : Int) (mh : Int)
    generalize hmb : w2.heap.size = mb at *
    have s2' := s2
    clear q0 q1
    obtain ⟨⟨-, ⟨q0, q1⟩, -⟩, ⟨t0, t1, t2⟩, -⟩ := s2'
    go_wp2_with fail
    refine (mwhole_yes A C C' c d d' us lo hi _ K w.heap.size _ r Hr.out (s2.1.pts P.out.1) (s2.1.pts P.out.2.1) (s2.1.pts P.out.2.2) s2.1.le h1 h16 E.out.1 E.out.2.1 Hl.out hK).mono ?_
    rintro e w3 ⟨rfl, hb3⟩
    have s3 := s2.step hb3
    have s3' := s3
    clear q0 q1 t0 t1 t2 hmb
    obtain ⟨⟨-, ⟨q0, q1⟩, -⟩, ⟨t0, t1, t2⟩, -⟩ := s3'
    go_wp2_with fail
    refine (r3right_y C C' lo.length d hi.length d' _ E.out.2.2.1 E.out.2.2.2.1 E.out.2.2.2.2).mono ?_
    rintro e w4 ⟨rfl, hb4⟩
    have s4 := s3.step hb4
    have s4' := s4
    clear q0 q1 t0 t1 t2
    obtain ⟨⟨-, ⟨q0, q1⟩, -⟩, ⟨t0, t1, t2⟩, -⟩ := s4'
    go_wp2_with fail
    refine (r4whole_c A C C' c d d' us lo hi _ K w.heap.size _ r Hr.out (s4.1.pts P.out.1) (s4.1.pts P.out.2.1) (s4.1.pts P.out.2.2) s4.1.le h1 h16 E.out.1 E.out.2.1 Hl.out hK).mono ?_
    rintro e w5 ⟨rfl, hb5⟩
    have s5 := s4.step hb5
    have s5' := s5
    clear q0 q1 t0 t1 t2
    obtain ⟨⟨-, ⟨q0, q1⟩, -⟩, ⟨t0, t1, t2⟩, -⟩ := s5'
    go_wp2_with fail
    refine (r4of_c A C C' c d d' us lo hi k w.heap.size _ ml mh HM.out.1 HM.out.2 (s5.1.pts P.out.1) (s5.1.pts P.out.2.1) (s5.1.pts P.out.2.2) s5.1.le h1 h16 E.out.1 E.out.2.1 hk).mono ?_
    rintro e w6 ⟨rfl, hb6⟩
    have s6 := s5.step hb6
    have s6' := s6
    clear q0 q1 t0 t1 t2
    obtain ⟨⟨-, ⟨q0, q1⟩, -⟩, ⟨t0, t1, t2⟩, -⟩ := s6'
    go_wp2_with fail
    go_ret
    exact ⟨ret_bool (by simp), s6.1.1⟩

/-- THE LAW's CALL, AT EVERY INPUT -/
theorem maskOf_w (A C C' : Option Addr) (c d d' : Nat) (us lo hi : List Nat) (l : Int) (w : World) (pu : Pts w w.heap.size A us) (pl : Pts w w.heap.size C lo) (ph : Pts w w.heap.size C' hi) :
    Calls Try.prog 3 #[.slice A us.length c, .int .i64 l, boxV C lo.length d C' hi.length d'] w fun e w' => e = .returned (.bool true) ∧ Below w.heap.size w w' := by
  by_cases hb : 40 < us.length ∨ 40 < lo.length ∨ 40 < hi.length
  · exact maskOf_big A C C' _ c _ d _ d' l w hb
  by_cases ha : (1 ≤ us.length ∧ us.length ≤ 16) ∧ lo.length = us.length ∧ hi.length = us.length
  case neg => exact maskOf_dim A C C' _ c _ d _ d' l w (by omega) (by omega) (by omega) ha
  by_cases hl : l < -1 ∨ 63 < l
  · exact maskOf_arg A C C' _ c _ d _ d' l w ha.1.1 ha.1.2 ha.2.1 ha.2.2 hl
  · exact maskOf_yes A C C' c d d' us lo hi l (l + 1).toNat w pu pl ph ha.1.1 ha.1.2 ha.2.1 ha.2.2 (by omega) (by omega)
end Go.Proofs.Ytkkpgfpkeiamaaa
