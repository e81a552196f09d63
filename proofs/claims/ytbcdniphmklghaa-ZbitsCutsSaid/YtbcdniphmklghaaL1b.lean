/-
  THE WALK of the law ZbitsOrder: whatever the three points, the law's call returns true, and what was there stays.
-/
import Derived.Test.YtbcdniphmklghaaAw1
namespace Go.Proofs.Ytbcdniphmklghaa
open Go.ChangeShapes Go.WideShapes Go.ChangeAt Go.RowKit

theorem cmp_is (A A' : Option Addr) (c c' : Nat) (us vs : List Nat) (B : Nat) (w : World) (r : Int) (hr : Z.cmp us vs = r) (hp : Pts w B A us) (hq : Pts w B A' vs) (h1 : 1 ≤ us.length) (h16 : us.length ≤ 16) (hlen : us.length = vs.length) :
    Calls Try.prog 17 #[.slice A us.length c, .slice A' vs.length c'] w fun e w' => e = .returned (.tuple #[.int .i64 r, .int .i64 0]) ∧ w = w' := by
  subst hr; exact cmp_yes A A' c c' us vs B w hp hq h1 h16 hlen
theorem part_is (A A' : Option Addr) (c c' : Nat) (us vs : List Nat) (B : Nat) (w : World) (r : Int) (hr : Z.part us vs = r) (hp : Pts w B A us) (hq : Pts w B A' vs) (h1 : 1 ≤ us.length) (h16 : us.length ≤ 16) (hlen : us.length = vs.length) :
    Calls Try.prog 18 #[.slice A us.length c, .slice A' vs.length c'] w fun e w' => e = .returned (.tuple #[.int .i64 r, .int .i64 0]) ∧ w = w' := by
  subst hr; exact part_yes A A' c c' us vs B w hp hq h1 h16 hlen
theorem rcmp_is (A A' : Option Addr) (c c' : Nat) (us vs : List Nat) (B : Nat) (w : World) (r : Int) (hr : Z.cmp us vs = r) (hp : Pts w B A us) (hq : Pts w B A' vs) (h1 : 1 ≤ us.length) (h16 : us.length ≤ 16) (hlen : us.length = vs.length) :
    Calls Try.prog 20 #[.slice A us.length c, .slice A' vs.length c'] w fun e w' => e = .returned (.int .i64 r) ∧ w = w' := by
  subst hr; exact rcmp_c A A' c c' us vs B w hp hq h1 h16 hlen
theorem rpart_is (A A' : Option Addr) (c c' : Nat) (us vs : List Nat) (B : Nat) (w : World) (r : Int) (hr : Z.part us vs = r) (hp : Pts w B A us) (hq : Pts w B A' vs) (h1 : 1 ≤ us.length) (h16 : us.length ≤ 16) (hlen : us.length = vs.length) :
    Calls Try.prog 21 #[.slice A us.length c, .slice A' vs.length c'] w fun e w' => e = .returned (.int .i64 r) ∧ w = w' := by
  subst hr; exact rpart_c A A' c c' us vs B w hp hq h1 h16 hlen
theorem rsame_yes (A A' : Option Addr) (c c' : Nat) (us vs : List Nat) (B : Nat) (w : World) (h : us = vs) (hp : Pts w B A us) (hq : Pts w B A' vs) (hB : B ≤ w.heap.size) (hm : us.length ≤ maxLen) :
    Calls Try.prog 12 #[.slice A us.length c, .slice A' vs.length c'] w fun e w' => e = .returned (.bool true) ∧ Below w.heap.size w w' :=
  (rsame_c A A' c c' us vs B w hp hq hB hm).mono fun _ _ ⟨he, hw⟩ => ⟨by rw [he, decide_eq_true h], hw⟩
theorem rsame_no (A A' : Option Addr) (c c' : Nat) (us vs : List Nat) (B : Nat) (w : World) (h : us ≠ vs) (hp : Pts w B A us) (hq : Pts w B A' vs) (hB : B ≤ w.heap.size) (hm : us.length ≤ maxLen) :
    Calls Try.prog 12 #[.slice A us.length c, .slice A' vs.length c'] w fun e w' => e = .returned (.bool false) ∧ Below w.heap.size w w' :=
  (rsame_c A A' c c' us vs B w hp hq hB hm).mono fun _ _ ⟨he, hw⟩ => ⟨by rw [he, decide_eq_false h], hw⟩

set_option maxRecDepth 100000 in
theorem zbitsOrder_long (A B C : Option Addr) (c d e n m k : Nat) (w : World) (h : 40 < n ∨ 40 < m ∨ 40 < k) (hn : n ≤ maxLen) (hm : m ≤ maxLen) (hk : k ≤ maxLen) :
    Calls Try.prog 4 #[.slice A n c, .slice B m d, .slice C k e] w fun e w' => e = .returned (.bool true) ∧ Below w.heap.size w w' := by
  unfold maxLen at hn hm hk
  rcases h with h | h | h
  all_goals
    go_enter Try.func4, Try.ntmps4
    go_wp2_with (go_at_call 6; refine (awake_c _).mono ?_; rintro e w1 ⟨rfl, hb1⟩)
    all_goals go_ret
    all_goals exact ⟨rfl, hb1⟩

set_option maxRecDepth 100000 in
theorem zbitsOrder_dim (A B C : Option Addr) (c d e n m k : Nat) (w : World) (hn : n ≤ 40) (hm : m ≤ 40) (hk : k ≤ 40) (h : ¬ ((1 ≤ n ∧ n ≤ 16) ∧ n = m)) :
    Calls Try.prog 4 #[.slice A n c, .slice B m d, .slice C k e] w fun e w' => e = .returned (.bool true) ∧ Below w.heap.size w w' := by
  have H := Lib.hid h
  have Hn : Hid (n ≤ maxLen) := Lib.hid (by unfold maxLen; omega)
  have Hm : Hid (m ≤ maxLen) := Lib.hid (by unfold maxLen; omega)
  clear h
  go_enter Try.func4, Try.ntmps4
  go_wp2_with (first
    | (go_at_call 6; refine (awake_c _).mono ?_; rintro e w1 ⟨rfl, hb1⟩)
    | (go_at_call 17; refine (cmp_no _ _ _ _ _ _ _ Hn.out Hm.out H.out).mono ?_; rintro e w' ⟨rfl, rfl⟩)
    | (go_at_call 18; refine (part_no _ _ _ _ _ _ _ Hn.out Hm.out H.out).mono ?_; rintro e w' ⟨rfl, rfl⟩)
    | (go_at_call 19; refine (ralike_no _ _ _ _ _ _ _ Hn.out H.out).mono ?_; rintro e w' ⟨rfl, rfl⟩))
  go_ret
  exact ⟨rfl, hb1⟩

theorem int_neq (x : Int) : (x != x) = false := by simp

set_option maxRecDepth 100000 in
theorem zbitsOrder_two (A B C : Option Addr) (c d e k : Nat) (us vs : List Nat) (w : World) (hp : Pts w w.heap.size A us) (hq : Pts w w.heap.size B vs) (h1 : 1 ≤ us.length) (h16 : us.length ≤ 16) (hlen : us.length = vs.length) (hk : k ≤ 40) (h : ¬ ((1 ≤ vs.length ∧ vs.length ≤ 16) ∧ vs.length = k)) :
    Calls Try.prog 4 #[.slice A us.length c, .slice B vs.length d, .slice C k e] w fun e w' => e = .returned (.bool true) ∧ Below w.heap.size w w' := by
  have H := Lib.hid h
  have g1 : 1 ≤ vs.length := by omega
  have g16 : vs.length ≤ 16 := by omega
  have Hn : Hid (us.length ≤ maxLen) := Lib.hid (by unfold maxLen; omega)
  have Hm : Hid (vs.length ≤ maxLen) := Lib.hid (by unfold maxLen; omega)
  obtain ⟨a, ha⟩ : ∃ a, Z.cmp us vs = a := ⟨_, rfl⟩
  obtain ⟨b, hb⟩ : ∃ b, Z.cmp vs us = b := ⟨_, rfl⟩
  obtain ⟨p, hpt⟩ : ∃ p, Z.part us vs = p := ⟨_, rfl⟩
  have hab : a + b = 0 := by rw [← ha, ← hb]; exact Z.cmp_neg hlen hp.ok hq.ok
  have habd : -1 ≤ a ∧ a ≤ 1 := by have := Z.cmp_bd us vs; omega
  have hbbd : -1 ≤ b ∧ b ≤ 1 := by omega
  have hab' : ((a + b) != 0) = false := by rw [hab]; rfl
  have ex := int_neq a
  have ey := int_neq p
  have Ha := Lib.hid ha
  have Hb := Lib.hid hb
  have Hp := Lib.hid hpt
  have H0 := Lib.hid (Z.cmp_zero hlen hp.ok hq.ok)
  have Hlen := Lib.hid hlen
  clear h ha hb hpt hab hlen
  by_cases he : us = vs
  · have hz : (a == 0) = true := by rw [beq_iff_eq]; rw [← Ha.out]; exact H0.out.2 he
    have He := Lib.hid he
    clear he
    go_enter Try.func4, Try.ntmps4
    go_wp2_with (first
      | (go_at_call 6; refine (awake_c _).mono ?_; rintro e w1 ⟨rfl, hb1⟩; have hpw := hp.below' hb1 (Nat.le_refl _); have hqw := hq.below' hb1 (Nat.le_refl _))
      | (go_at_call 17; with_reducible (refine (cmp_is _ _ _ _ us vs _ _ a Ha.out hpw hqw h1 h16 Hlen.out).mono ?_); rintro e w' ⟨rfl, rfl⟩)
      | (go_at_call 17; with_reducible (refine (cmp_is _ _ _ _ vs us _ _ b Hb.out hqw hpw g1 g16 Hlen.out.symm).mono ?_); rintro e w' ⟨rfl, rfl⟩)
      | (go_at_call 18; refine (part_is _ _ _ _ us vs _ _ p Hp.out hpw hqw h1 h16 Hlen.out).mono ?_; rintro e w' ⟨rfl, rfl⟩)
      | (go_at_call 19; with_reducible (refine (ralike_yes _ _ us.length _ vs.length _ _ h1 h16 Hlen.out).mono ?_); rintro e w' ⟨rfl, rfl⟩)
      | (go_at_call 20; refine (rcmp_is _ _ _ _ us vs _ _ a Ha.out hpw hqw h1 h16 Hlen.out).mono ?_; rintro e w' ⟨rfl, rfl⟩)
      | (go_at_call 21; refine (rpart_is _ _ _ _ us vs _ _ p Hp.out hpw hqw h1 h16 Hlen.out).mono ?_; rintro e w' ⟨rfl, rfl⟩)
      | (go_at_call 12; refine (rsame_yes _ _ _ _ us vs _ _ He.out hpw hqw hb1.size Hn.out).mono ?_; rintro e w2 ⟨rfl, hb2⟩)
      | (go_at_call 19; with_reducible (refine (ralike_no _ _ vs.length _ k _ _ Hm.out H.out).mono ?_); rintro e w' ⟨rfl, rfl⟩))
    go_ret
    exact ⟨rfl, Below.andThen hb1 hb2⟩
  · have hz : (a == 0) = false := by rw [beq_eq_false_iff_ne, ← Ha.out]; exact fun h => he (H0.out.1 h)
    have He := Lib.hid he
    clear he
    go_enter Try.func4, Try.ntmps4
    go_wp2_with (first
      | (go_at_call 6; refine (awake_c _).mono ?_; rintro e w1 ⟨rfl, hb1⟩; have hpw := hp.below' hb1 (Nat.le_refl _); have hqw := hq.below' hb1 (Nat.le_refl _))
      | (go_at_call 17; with_reducible (refine (cmp_is _ _ _ _ us vs _ _ a Ha.out hpw hqw h1 h16 Hlen.out).mono ?_); rintro e w' ⟨rfl, rfl⟩)
      | (go_at_call 17; with_reducible (refine (cmp_is _ _ _ _ vs us _ _ b Hb.out hqw hpw g1 g16 Hlen.out.symm).mono ?_); rintro e w' ⟨rfl, rfl⟩)
      | (go_at_call 18; refine (part_is _ _ _ _ us vs _ _ p Hp.out hpw hqw h1 h16 Hlen.out).mono ?_; rintro e w' ⟨rfl, rfl⟩)
      | (go_at_call 19; with_reducible (refine (ralike_yes _ _ us.length _ vs.length _ _ h1 h16 Hlen.out).mono ?_); rintro e w' ⟨rfl, rfl⟩)
      | (go_at_call 20; refine (rcmp_is _ _ _ _ us vs _ _ a Ha.out hpw hqw h1 h16 Hlen.out).mono ?_; rintro e w' ⟨rfl, rfl⟩)
      | (go_at_call 21; refine (rpart_is _ _ _ _ us vs _ _ p Hp.out hpw hqw h1 h16 Hlen.out).mono ?_; rintro e w' ⟨rfl, rfl⟩)
      | (go_at_call 12; refine (rsame_no _ _ _ _ us vs _ _ He.out hpw hqw hb1.size Hn.out).mono ?_; rintro e w2 ⟨rfl, hb2⟩)
      | (go_at_call 19; with_reducible (refine (ralike_no _ _ vs.length _ k _ _ Hm.out H.out).mono ?_); rintro e w' ⟨rfl, rfl⟩))
    go_ret
    exact ⟨rfl, Below.andThen hb1 hb2⟩

set_option maxRecDepth 100000 in
set_option maxHeartbeats 1000000 in
theorem zbitsOrder_three (A B C : Option Addr) (c d e : Nat) (us vs rs : List Nat) (w : World) (hp : Pts w w.heap.size A us) (hq : Pts w w.heap.size B vs) (hr : Pts w w.heap.size C rs) (h1 : 1 ≤ us.length) (h16 : us.length ≤ 16) (hlen : us.length = vs.length) (hlen2 : vs.length = rs.length) :
    Calls Try.prog 4 #[.slice A us.length c, .slice B vs.length d, .slice C rs.length e] w fun e w' => e = .returned (.bool true) ∧ Below w.heap.size w w' := by
  have hk : rs.length ≤ 16 := by omega
  have g1 : 1 ≤ vs.length := by omega
  have g16 : vs.length ≤ 16 := by omega
  have Hn : Hid (us.length ≤ maxLen) := Lib.hid (by unfold maxLen; omega)
  have Hm : Hid (vs.length ≤ maxLen) := Lib.hid (by unfold maxLen; omega)
  obtain ⟨a, ha⟩ : ∃ a, Z.cmp us vs = a := ⟨_, rfl⟩
  obtain ⟨b, hb⟩ : ∃ b, Z.cmp vs us = b := ⟨_, rfl⟩
  obtain ⟨p, hpt⟩ : ∃ p, Z.part us vs = p := ⟨_, rfl⟩
  have hab : a + b = 0 := by rw [← ha, ← hb]; exact Z.cmp_neg hlen hp.ok hq.ok
  have habd : -1 ≤ a ∧ a ≤ 1 := by have := Z.cmp_bd us vs; omega
  have hbbd : -1 ≤ b ∧ b ≤ 1 := by omega
  have hab' : ((a + b) != 0) = false := by rw [hab]; rfl
  have ex := int_neq a
  have ey := int_neq p
  have Ha := Lib.hid ha
  have Hb := Lib.hid hb
  have Hp := Lib.hid hpt
  have H0 := Lib.hid (Z.cmp_zero hlen hp.ok hq.ok)
  have Hlen := Lib.hid hlen
  have hlen3 : us.length = rs.length := by omega
  obtain ⟨x, hx⟩ : ∃ x, Z.cmp vs rs = x := ⟨_, rfl⟩
  obtain ⟨y, hy⟩ : ∃ y, Z.cmp us rs = y := ⟨_, rfl⟩
  have hxbd : -1 ≤ x ∧ x ≤ 1 := by have := Z.cmp_bd vs rs; omega
  have hybd : -1 ≤ y ∧ y ≤ 1 := by have := Z.cmp_bd us rs; omega
  have HT1 : Hid (a ≤ 0 → x ≤ 0 → y ≤ 0) := Lib.hid (fun u v => by
    rw [← hy]; exact Z.cmp_trans hlen hlen2 hp.ok hq.ok hr.ok (by omega) (by omega))
  have HT2 : Hid (0 ≤ a → 0 ≤ x → 0 ≤ y) := Lib.hid (fun u v => by
    have n1 := Z.cmp_neg hlen hp.ok hq.ok
    have n2 := Z.cmp_neg hlen2 hq.ok hr.ok
    have n3 := Z.cmp_neg hlen3 hp.ok hr.ok
    have t := Z.cmp_trans hlen2.symm hlen.symm hr.ok hq.ok hp.ok (by omega) (by omega)
    omega)
  have Hx := Lib.hid hx
  have Hy := Lib.hid hy
  have Hlen2 := Lib.hid hlen2
  have Hlen3 := Lib.hid hlen3
  clear ha hb hpt hab hlen hlen2 hlen3 hx hy
  by_cases he : us = vs
  · have hz : (a == 0) = true := by rw [beq_iff_eq]; rw [← Ha.out]; exact H0.out.2 he
    have He := Lib.hid he
    clear he
    go_enter Try.func4, Try.ntmps4
    go_wp2_with (first
      | (go_at_call 6; refine (awake_c _).mono ?_; rintro e w1 ⟨rfl, hb1⟩; have hpw := hp.below' hb1 (Nat.le_refl _); have hqw := hq.below' hb1 (Nat.le_refl _); have hrw := hr.below' hb1 (Nat.le_refl _))
      | (go_at_call 17; with_reducible (refine (cmp_is _ _ _ _ us vs _ _ a Ha.out hpw hqw h1 h16 Hlen.out).mono ?_); rintro e w' ⟨rfl, rfl⟩)
      | (go_at_call 17; with_reducible (refine (cmp_is _ _ _ _ vs us _ _ b Hb.out hqw hpw g1 g16 Hlen.out.symm).mono ?_); rintro e w' ⟨rfl, rfl⟩)
      | (go_at_call 18; refine (part_is _ _ _ _ us vs _ _ p Hp.out hpw hqw h1 h16 Hlen.out).mono ?_; rintro e w' ⟨rfl, rfl⟩)
      | (go_at_call 19; with_reducible (refine (ralike_yes _ _ us.length _ vs.length _ _ h1 h16 Hlen.out).mono ?_); rintro e w' ⟨rfl, rfl⟩)
      | (go_at_call 20; refine (rcmp_is _ _ _ _ us vs _ _ a Ha.out hpw hqw h1 h16 Hlen.out).mono ?_; rintro e w' ⟨rfl, rfl⟩)
      | (go_at_call 21; refine (rpart_is _ _ _ _ us vs _ _ p Hp.out hpw hqw h1 h16 Hlen.out).mono ?_; rintro e w' ⟨rfl, rfl⟩)
      | (go_at_call 12; refine (rsame_yes _ _ _ _ us vs _ _ He.out hpw hqw hb1.size Hn.out).mono ?_; rintro e w2 ⟨rfl, hb2⟩; have hpw2 := hpw.below' hb2 hb1.size; have hqw2 := hqw.below' hb2 hb1.size; have hrw2 := hrw.below' hb2 hb1.size)
      | (go_at_call 19; with_reducible (refine (ralike_yes _ _ vs.length _ rs.length _ _ g1 g16 Hlen2.out).mono ?_); rintro e w' ⟨rfl, rfl⟩)
      | (go_at_call 17; with_reducible (refine (cmp_is _ _ _ _ vs rs _ _ x Hx.out hqw2 hrw2 g1 g16 Hlen2.out).mono ?_); rintro e w' ⟨rfl, rfl⟩)
      | (go_at_call 17; with_reducible (refine (cmp_is _ _ _ _ us rs _ _ y Hy.out hpw2 hrw2 h1 h16 Hlen3.out).mono ?_); rintro e w' ⟨rfl, rfl⟩))
    all_goals go_ret
    all_goals refine ⟨ret_bool ?_, Below.andThen hb1 hb2⟩
    all_goals have o1 := HT1.out
    all_goals have o2 := HT2.out
    all_goals first | rfl | omega | (simp; omega) | (exfalso; rename_i e1 e2 e3; rw [if_pos e3] at e1; injection e1 with e1; injection e1 with e1; exact e2 e1.symm)
  · have hz : (a == 0) = false := by rw [beq_eq_false_iff_ne, ← Ha.out]; exact fun h => he (H0.out.1 h)
    have He := Lib.hid he
    clear he
    go_enter Try.func4, Try.ntmps4
    go_wp2_with (first
      | (go_at_call 6; refine (awake_c _).mono ?_; rintro e w1 ⟨rfl, hb1⟩; have hpw := hp.below' hb1 (Nat.le_refl _); have hqw := hq.below' hb1 (Nat.le_refl _); have hrw := hr.below' hb1 (Nat.le_refl _))
      | (go_at_call 17; with_reducible (refine (cmp_is _ _ _ _ us vs _ _ a Ha.out hpw hqw h1 h16 Hlen.out).mono ?_); rintro e w' ⟨rfl, rfl⟩)
      | (go_at_call 17; with_reducible (refine (cmp_is _ _ _ _ vs us _ _ b Hb.out hqw hpw g1 g16 Hlen.out.symm).mono ?_); rintro e w' ⟨rfl, rfl⟩)
      | (go_at_call 18; refine (part_is _ _ _ _ us vs _ _ p Hp.out hpw hqw h1 h16 Hlen.out).mono ?_; rintro e w' ⟨rfl, rfl⟩)
      | (go_at_call 19; with_reducible (refine (ralike_yes _ _ us.length _ vs.length _ _ h1 h16 Hlen.out).mono ?_); rintro e w' ⟨rfl, rfl⟩)
      | (go_at_call 20; refine (rcmp_is _ _ _ _ us vs _ _ a Ha.out hpw hqw h1 h16 Hlen.out).mono ?_; rintro e w' ⟨rfl, rfl⟩)
      | (go_at_call 21; refine (rpart_is _ _ _ _ us vs _ _ p Hp.out hpw hqw h1 h16 Hlen.out).mono ?_; rintro e w' ⟨rfl, rfl⟩)
      | (go_at_call 12; refine (rsame_no _ _ _ _ us vs _ _ He.out hpw hqw hb1.size Hn.out).mono ?_; rintro e w2 ⟨rfl, hb2⟩; have hpw2 := hpw.below' hb2 hb1.size; have hqw2 := hqw.below' hb2 hb1.size; have hrw2 := hrw.below' hb2 hb1.size)
      | (go_at_call 19; with_reducible (refine (ralike_yes _ _ vs.length _ rs.length _ _ g1 g16 Hlen2.out).mono ?_); rintro e w' ⟨rfl, rfl⟩)
      | (go_at_call 17; with_reducible (refine (cmp_is _ _ _ _ vs rs _ _ x Hx.out hqw2 hrw2 g1 g16 Hlen2.out).mono ?_); rintro e w' ⟨rfl, rfl⟩)
      | (go_at_call 17; with_reducible (refine (cmp_is _ _ _ _ us rs _ _ y Hy.out hpw2 hrw2 h1 h16 Hlen3.out).mono ?_); rintro e w' ⟨rfl, rfl⟩))
    all_goals go_ret
    all_goals refine ⟨ret_bool ?_, Below.andThen hb1 hb2⟩
    all_goals have o1 := HT1.out
    all_goals have o2 := HT2.out
    all_goals first | rfl | omega | (simp; omega) | (exfalso; rename_i e1 e2 e3; rw [if_pos e3] at e1; injection e1 with e1; injection e1 with e1; exact e2 e1.symm)

/-- THE 4's CALL, AT EVERY INPUT -/
theorem zbitsOrder_w (A B C : Option Addr) (c d e : Nat) (us vs rs : List Nat) (w : World) (hp : Pts w w.heap.size A us) (hq : Pts w w.heap.size B vs) (hr : Pts w w.heap.size C rs) (hm : us.length ≤ maxLen) (hm2 : vs.length ≤ maxLen) (hm3 : rs.length ≤ maxLen) :
    Calls Try.prog 4 #[.slice A us.length c, .slice B vs.length d, .slice C rs.length e] w fun e w' => e = .returned (.bool true) ∧ Below w.heap.size w w' := by
  by_cases h40 : 40 < us.length ∨ 40 < vs.length ∨ 40 < rs.length
  · exact zbitsOrder_long A B C c d e _ _ _ w h40 hm hm2 hm3
  by_cases ha : (1 ≤ us.length ∧ us.length ≤ 16) ∧ us.length = vs.length
  case neg => exact zbitsOrder_dim A B C c d e _ _ _ w (by omega) (by omega) (by omega) ha
  obtain ⟨⟨h1, h16⟩, hlen⟩ := ha
  by_cases hb : (1 ≤ vs.length ∧ vs.length ≤ 16) ∧ vs.length = rs.length
  case neg => exact zbitsOrder_two A B C c d e _ us vs w hp hq h1 h16 hlen (by omega) hb
  exact zbitsOrder_three A B C c d e us vs rs w hp hq hr h1 h16 hlen hb.2

end Go.Proofs.Ytbcdniphmklghaa
