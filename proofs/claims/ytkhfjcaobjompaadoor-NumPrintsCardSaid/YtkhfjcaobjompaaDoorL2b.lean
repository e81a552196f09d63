/-
  THE WALK of pantilelaw02.NumPrints: it returns true for every number and every two lists.
-/
import Derived.Test.YtkhfjcaobjompaaDoorL2a
namespace Go.Proofs.YtkhfjcaobjompaaDoor
open Go.ChangeShapes Go.WideShapes Go.ChangeAt Go.RowKit

theorem numPrints_long (u : Nat) (A A' : Option Addr) (n c n' c' : Nat) (w : World) (hw : Ready w) (hn : n ≤ maxLen) (hn' : n' ≤ maxLen) (h : 40 < n ∨ 40 < n') :
    Calls Tryd.prog 4 #[.int .u64 (u : Int), .slice A n c, .slice A' n' c'] w fun e w' => e = .returned (.bool true) ∧ Below w.heap.size w w' := by
  unfold maxLen at hn hn'
  by_cases h1 : 40 < n
  · clear h
    go_enter Tryd.func4, Tryd.ntmps4
    go_wp2_with (go_at_call 5; refine (awake2_c _ hw).mono ?_; rintro e w1 ⟨rfl, hb1⟩)
    go_ret
    exact ⟨rfl, hb1⟩
  · have h2 : 40 < n' := by omega
    have f : decide (40 < (n : Int)) = false := by rw [decide_eq_false_iff_not]; omega
    clear h h1
    go_enter Tryd.func4, Tryd.ntmps4
    go_wp2_with (go_at_call 5; refine (awake2_c _ hw).mono ?_; rintro e w1 ⟨rfl, hb1⟩)
    go_ret
    exact ⟨rfl, hb1⟩

/-- a number is printed and read -/
theorem num_there (u : Nat) (hu : u < 18446744073709551616) : ∃ S : ByteArray, (∀ w, Ready w → Calls Tryd.prog 17 #[.int .u64 (u : Int)] w fun e w' => e = .returned (.string S) ∧ Below w.heap.size w w') ∧
    (∀ w, Ready w → Calls Tryd.prog 6 #[.string S] w fun e w' => e = .returned (.tuple #[.int .u64 (u : Int), .int .i64 0]) ∧ Below w.heap.size w w') ∧
    (∀ w, Calls Tryd.prog 18 #[.int .u64 (u : Int)] w fun e w' => e = .returned (.string S) ∧ Below w.heap.size w w') := by
  refine ⟨str (Lib.decDigits u), fun w hw => number_c u hu w hw, fun w hw => ?_, fun w => rnumber_c u hu w⟩
  have := readNumber_c (str (Lib.decDigits u)) w (by rw [str_size]; have := dec_len hu; omega) hw
  rw [str_list, T.rdNum_dec u hu] at this
  exact this
/-- a point is printed and read -/
theorem point_there (us : List Nat) (hok : Z.Ok us) (h1 : 1 ≤ us.length) (h16 : us.length ≤ 16) : ∃ S : ByteArray, (∀ A c w, Ready w → Pts w w.heap.size A us → Calls Tryd.prog 15 #[.slice A us.length c] w fun e w' => e = .returned (.tuple #[.string S, .int .i64 0]) ∧ Below w.heap.size w w') ∧
    (∀ w, Ready w → Calls Tryd.prog 8 #[.string S] w fun e w' => ∃ A c, e = .returned (.tuple #[.slice A us.length c, .int .i64 0]) ∧ Pts w' w'.heap.size A us ∧ Below w.heap.size w w') ∧
    (∀ A c w, Pts w w.heap.size A us → Calls Tryd.prog 20 #[.slice A us.length c] w fun e w' => e = .returned (.string S) ∧ Below w.heap.size w w') := by
  refine ⟨str (T.ptText us), fun A c w hw hp => point_yes A c us w.heap.size w hw hp (Nat.le_refl _) h1 h16, fun w hw => ?_, fun A c w hp => rpoint_c A c us w.heap.size w hp (Nat.le_refl _) h1 h16⟩
  have hl := T.ptText_len us hok
  have := readPoint_c (str (T.ptText us)) w (by rw [str_size]; omega) hw
  unfold RdPt at this
  rw [str_list, T.rdPoint_pt h1 h16 hok] at this
  exact this
/-- a box is printed and read -/
theorem box_there (us vs : List Nat) (hok : Z.Ok us) (hok' : Z.Ok vs) (h1 : 1 ≤ us.length) (h16 : us.length ≤ 16) (hl : us.length = vs.length) : ∃ S : ByteArray,
    (∀ A A' c c' w, Ready w → Pts w w.heap.size A us → Pts w w.heap.size A' vs → Calls Tryd.prog 16 #[.agg #[.slice A us.length c, .slice A' vs.length c']] w fun e w' => e = .returned (.tuple #[.string S, .int .i64 0]) ∧ Below w.heap.size w w') ∧
    (∀ w, Ready w → Calls Tryd.prog 10 #[.string S] w fun e w' => ∃ A c A' c', e = .returned (.tuple #[.agg #[.slice A us.length c, .slice A' vs.length c'], .int .i64 0]) ∧ Pts w' w'.heap.size A us ∧ Pts w' w'.heap.size A' vs ∧ Below w.heap.size w w') ∧
    (∀ A A' c c' w, Pts w w.heap.size A us → Pts w w.heap.size A' vs → Calls Tryd.prog 21 #[.agg #[.slice A us.length c, .slice A' vs.length c']] w fun e w' => e = .returned (.string S) ∧ Below w.heap.size w w') := by
  refine ⟨str (T.boxText us vs), fun A A' c c' w hw hp hq => box_yes A A' c c' us vs w hw hp hq h1 h16 hl, fun w hw => ?_, fun A A' c c' w hp hq => rbox_c A A' c c' us vs w hp hq h1 h16 hl⟩
  have l1 := T.ptText_len us hok
  have l2 := T.ptText_len vs hok'
  have := readBox_c (str (T.boxText us vs)) w (by rw [str_size]; unfold T.boxText T.dots; simp; omega) hw
  unfold RdBx at this
  rw [str_list, T.rdBox_box h1 h16 hl hok hok'] at this
  exact this
set_option maxRecDepth 1000000 in
set_option maxHeartbeats 4000000 in
theorem numPrints_dim (u : Nat) (hu : u < 18446744073709551616) (A A' : Option Addr) (c c' : Nat) (us vs : List Nat) (w : World) (hw : Ready w) (hp : Pts w w.heap.size A us) (hq : Pts w w.heap.size A' vs) (l1 : us.length ≤ 40) (l2 : vs.length ≤ 40) (h : ¬ (1 ≤ us.length ∧ us.length ≤ 16)) :
    Calls Tryd.prog 4 #[.int .u64 (u : Int), .slice A us.length c, .slice A' vs.length c'] w fun e w' => e = .returned (.bool true) ∧ Below w.heap.size w w' := by
  obtain ⟨S, hN1, hN2, hN3⟩ := num_there u hu
  have HN1 := Lib.hid hN1
  have HN2 := Lib.hid hN2
  have HN3 := Lib.hid hN3
  clear hN1 hN2 hN3
  have hn : us.length ≤ maxLen := by unfold maxLen; omega
  have hn' : vs.length ≤ maxLen := by unfold maxLen; omega
  have H := Lib.hid h
  have Hno : Hid (¬ ((1 ≤ us.length ∧ us.length ≤ 16) ∧ us.length = vs.length)) := Lib.hid (fun g => h g.1)
  clear h
  go_enter Tryd.func4, Tryd.ntmps4
  go_wp2_with (first
    | (go_at_call 5; (with_reducible refine (awake2_c _ hw).mono ?_); rintro e w1 ⟨rfl, hb1⟩; have B1 := Lib.hid hb1; have r1 := Lib.hid (hw.on hb1); clear hb1)
    | (go_at_call 17; (with_reducible refine (HN1.out _ r1.out).mono ?_); rintro e w2 ⟨rfl, hb2⟩; have B2 := Lib.hid (Below.andThen B1.out hb2); have r2 := Lib.hid (hw.on B2.out); clear hb2)
    | (go_at_call 6; (with_reducible refine (HN2.out _ r2.out).mono ?_); rintro e w3 ⟨rfl, hb3⟩; have B3 := Lib.hid (Below.andThen B2.out hb3); have r3 := Lib.hid (hw.on B3.out); clear hb3)
    | (go_at_call 15; (with_reducible refine (point_no _ _ _ _ hn H.out).mono ?_); rintro e wz ⟨rfl, rfl⟩)
    | (go_at_call 16; (with_reducible refine (box_no _ _ _ _ _ _ _ hn hn' Hno.out).mono ?_); rintro e w5 ⟨rfl, hb5⟩; have B5 := Lib.hid (Below.andThen B3.out hb5); have r5 := Lib.hid (hw.on B5.out); clear hb5)
    | (go_at_call 18; (with_reducible refine (HN3.out _).mono ?_); rintro e w6 ⟨rfl, hb6⟩; have B6 := Lib.hid (Below.andThen B5.out hb6); have r6 := Lib.hid (hw.on B6.out); clear hb6)
    | (go_at_call 19; (with_reducible refine (rright_no _ _ _ _ hn H.out).mono ?_); rintro e wz ⟨rfl, rfl⟩))
  go_ret
  exact ⟨rfl, B6.out⟩
set_option maxRecDepth 1000000 in
set_option maxHeartbeats 4000000 in
theorem numPrints_apart (u : Nat) (hu : u < 18446744073709551616) (A A' : Option Addr) (c c' : Nat) (us vs : List Nat) (w : World) (hw : Ready w) (hp : Pts w w.heap.size A us) (hq : Pts w w.heap.size A' vs) (l1 : us.length ≤ 40) (l2 : vs.length ≤ 40) (h1 : 1 ≤ us.length) (h16 : us.length ≤ 16) (hlen : us.length ≠ vs.length) :
    Calls Tryd.prog 4 #[.int .u64 (u : Int), .slice A us.length c, .slice A' vs.length c'] w fun e w' => e = .returned (.bool true) ∧ Below w.heap.size w w' := by
  obtain ⟨S, hN1, hN2, hN3⟩ := num_there u hu
  have HN1 := Lib.hid hN1
  have HN2 := Lib.hid hN2
  have HN3 := Lib.hid hN3
  clear hN1 hN2 hN3
  obtain ⟨X, hP1, hP2, hP3⟩ := point_there us hp.ok h1 h16
  have HP1 := Lib.hid hP1
  have HP2 := Lib.hid hP2
  have HP3 := Lib.hid hP3
  clear hP1 hP2 hP3
  have hn : us.length ≤ maxLen := by unfold maxLen; omega
  have hn' : vs.length ≤ maxLen := by unfold maxLen; omega
  have Hno : Hid (¬ ((1 ≤ us.length ∧ us.length ≤ 16) ∧ us.length = vs.length)) := Lib.hid (fun g => hlen g.2)
  have f : ((us.length : Int) != (vs.length : Int)) = true := by rw [bne_iff_ne]; omega
  clear hlen
  go_enter Tryd.func4, Tryd.ntmps4
  go_wp2_with (first
    | (go_at_call 5; (with_reducible refine (awake2_c _ hw).mono ?_); rintro e w1 ⟨rfl, hb1⟩; have B1 := Lib.hid hb1; have r1 := Lib.hid (hw.on hb1); clear hb1)
    | (go_at_call 17; (with_reducible refine (HN1.out _ r1.out).mono ?_); rintro e w2 ⟨rfl, hb2⟩; have B2 := Lib.hid (Below.andThen B1.out hb2); have r2 := Lib.hid (hw.on B2.out); clear hb2)
    | (go_at_call 6; (with_reducible refine (HN2.out _ r2.out).mono ?_); rintro e w3 ⟨rfl, hb3⟩; have B3 := Lib.hid (Below.andThen B2.out hb3); have r3 := Lib.hid (hw.on B3.out); clear hb3)
    | (go_at_call 15; (with_reducible refine (HP1.out A c _ r3.out (hp.below B3.out B3.out.size)).mono ?_); rintro e w4 ⟨rfl, hb4⟩; have B4 := Lib.hid (Below.andThen B3.out hb4); have r4 := Lib.hid (hw.on B4.out); clear hb4)
    | (go_at_call 16; (with_reducible refine (box_no _ _ _ _ _ _ _ hn hn' Hno.out).mono ?_); rintro e w5 ⟨rfl, hb5⟩; have B5 := Lib.hid (Below.andThen B4.out hb5); have r5 := Lib.hid (hw.on B5.out); clear hb5)
    | (go_at_call 18; (with_reducible refine (HN3.out _).mono ?_); rintro e w6 ⟨rfl, hb6⟩; have B6 := Lib.hid (Below.andThen B5.out hb6); have r6 := Lib.hid (hw.on B6.out); clear hb6)
    | (go_at_call 19; (with_reducible refine (rright_yes _ _ _ _ h1 h16).mono ?_); rintro e wz ⟨rfl, rfl⟩)
    | (go_at_call 8; (with_reducible refine (HP2.out _ r6.out).mono ?_); rintro e w7 ⟨A1, c1, rfl, hp1, hb7⟩; have q1 := Lib.hid hp1; clear hp1; have B7 := Lib.hid (Below.andThen B6.out hb7); have r7 := Lib.hid (hw.on B7.out); clear hb7)
    | (go_at_call 20; (with_reducible refine (HP3.out A c _ (hp.below B7.out B7.out.size)).mono ?_); rintro e w8 ⟨rfl, hb8⟩; have q2 := Lib.hid (q1.out.below hb8 hb8.size); have B8 := Lib.hid (Below.andThen B7.out hb8); have r8 := Lib.hid (hw.on B8.out); clear hb8)
    | (go_at_call 12; (with_reducible refine (rsame_yes A1 A c1 c us _ w8 q2.out (hp.below B8.out B8.out.size) (Nat.le_refl _) h16).mono ?_); rintro e w9 ⟨rfl, hb9⟩; have B9 := Lib.hid (Below.andThen B8.out hb9); have r9 := Lib.hid (hw.on B9.out); clear hb9))
  go_ret
  exact ⟨rfl, B9.out⟩
set_option maxRecDepth 1000000 in
set_option maxHeartbeats 4000000 in
theorem numPrints_yes (u : Nat) (hu : u < 18446744073709551616) (A A' : Option Addr) (c c' : Nat) (us vs : List Nat) (w : World) (hw : Ready w) (hp : Pts w w.heap.size A us) (hq : Pts w w.heap.size A' vs) (h1 : 1 ≤ us.length) (h16 : us.length ≤ 16) (hlen : us.length = vs.length) :
    Calls Tryd.prog 4 #[.int .u64 (u : Int), .slice A us.length c, .slice A' vs.length c'] w fun e w' => e = .returned (.bool true) ∧ Below w.heap.size w w' := by
  obtain ⟨S, hN1, hN2, hN3⟩ := num_there u hu
  have HN1 := Lib.hid hN1
  have HN2 := Lib.hid hN2
  have HN3 := Lib.hid hN3
  clear hN1 hN2 hN3
  obtain ⟨X, hP1, hP2, hP3⟩ := point_there us hp.ok h1 h16
  have HP1 := Lib.hid hP1
  have HP2 := Lib.hid hP2
  have HP3 := Lib.hid hP3
  clear hP1 hP2 hP3
  obtain ⟨Y, hB1, hB2, hB3⟩ := box_there us vs hp.ok hq.ok h1 h16 hlen
  have HB1 := Lib.hid hB1
  have HB2 := Lib.hid hB2
  have HB3 := Lib.hid hB3
  clear hB1 hB2 hB3
  have f : ((us.length : Int) != (vs.length : Int)) = false := by rw [bne_eq_false_iff_eq]; omega
  have h16' : vs.length ≤ 16 := by omega
  clear hlen
  go_enter Tryd.func4, Tryd.ntmps4
  go_wp2_with (first
    | (go_at_call 5; (with_reducible refine (awake2_c _ hw).mono ?_); rintro e w1 ⟨rfl, hb1⟩; have B1 := Lib.hid hb1; have r1 := Lib.hid (hw.on hb1); clear hb1)
    | (go_at_call 17; (with_reducible refine (HN1.out _ r1.out).mono ?_); rintro e w2 ⟨rfl, hb2⟩; have B2 := Lib.hid (Below.andThen B1.out hb2); have r2 := Lib.hid (hw.on B2.out); clear hb2)
    | (go_at_call 6; (with_reducible refine (HN2.out _ r2.out).mono ?_); rintro e w3 ⟨rfl, hb3⟩; have B3 := Lib.hid (Below.andThen B2.out hb3); have r3 := Lib.hid (hw.on B3.out); clear hb3)
    | (go_at_call 15; (with_reducible refine (HP1.out A c _ r3.out (hp.below B3.out B3.out.size)).mono ?_); rintro e w4 ⟨rfl, hb4⟩; have B4 := Lib.hid (Below.andThen B3.out hb4); have r4 := Lib.hid (hw.on B4.out); clear hb4)
    | (go_at_call 16; (with_reducible refine (HB1.out A A' c c' _ r4.out (hp.below B4.out B4.out.size) (hq.below B4.out B4.out.size)).mono ?_); rintro e w5 ⟨rfl, hb5⟩; have B5 := Lib.hid (Below.andThen B4.out hb5); have r5 := Lib.hid (hw.on B5.out); clear hb5)
    | (go_at_call 18; (with_reducible refine (HN3.out _).mono ?_); rintro e w6 ⟨rfl, hb6⟩; have B6 := Lib.hid (Below.andThen B5.out hb6); have r6 := Lib.hid (hw.on B6.out); clear hb6)
    | (go_at_call 19; (with_reducible refine (rright_yes _ _ _ _ h1 h16).mono ?_); rintro e wz ⟨rfl, rfl⟩)
    | (go_at_call 8; (with_reducible refine (HP2.out _ r6.out).mono ?_); rintro e w7 ⟨A1, c1, rfl, hp1, hb7⟩; have q1 := Lib.hid hp1; clear hp1; have B7 := Lib.hid (Below.andThen B6.out hb7); have r7 := Lib.hid (hw.on B7.out); clear hb7)
    | (go_at_call 20; (with_reducible refine (HP3.out A c _ (hp.below B7.out B7.out.size)).mono ?_); rintro e w8 ⟨rfl, hb8⟩; have q2 := Lib.hid (q1.out.below hb8 hb8.size); have B8 := Lib.hid (Below.andThen B7.out hb8); have r8 := Lib.hid (hw.on B8.out); clear hb8)
    | (go_at_call 12; (with_reducible refine (rsame_yes A1 A c1 c us _ w8 q2.out (hp.below B8.out B8.out.size) (Nat.le_refl _) h16).mono ?_); rintro e w9 ⟨rfl, hb9⟩; have B9 := Lib.hid (Below.andThen B8.out hb9); have r9 := Lib.hid (hw.on B9.out); clear hb9)
    | (go_at_call 10; (with_reducible refine (HB2.out _ r9.out).mono ?_); rintro e wa ⟨A3, c3, A4, c4, rfl, hp3, hp4, hba⟩; have q3 := Lib.hid hp3; have q4 := Lib.hid hp4; clear hp3 hp4; have Ba := Lib.hid (Below.andThen B9.out hba); clear hba)
    | (go_at_call 21; (with_reducible refine (HB3.out A A' c c' _ (hp.below (Ba.out.alloc Ba.out.size _) (Nat.le_trans Ba.out.size (by simp))) (hq.below (Ba.out.alloc Ba.out.size _) (Nat.le_trans Ba.out.size (by simp)))).mono ?_); rintro e wb ⟨rfl, hbb⟩; have db := Lib.hid (((Below.refl _ wa).alloc (Nat.le_refl _) _).trans (hbb.mono (by simp))); have Xb := Lib.hid ((boxAt_new wa _ _ _).below hbb (by simp)); have Bb := Lib.hid (Below.andThen Ba.out db.out); clear hbb; have z0 := Xb.out.1; have z1 := Xb.out.2)
    | (go_at_call 12; (with_reducible refine (rsame_yes A3 A c3 c us _ wb (q3.out.below db.out db.out.size) (hp.below Bb.out Bb.out.size) (Nat.le_refl _) h16).mono ?_); rintro e wc ⟨rfl, hbc⟩; have dc := Lib.hid (db.out.trans (hbc.mono db.out.size)); have Xc := Lib.hid (Xb.out.below hbc Xb.out.lt); have Bc := Lib.hid (Below.andThen Bb.out hbc); clear hbc z0 z1; have z0 := Xc.out.1; have z1 := Xc.out.2)
    | (go_at_call 12; (with_reducible refine (rsame_yes A4 A' c4 c' vs _ wc (q4.out.below dc.out dc.out.size) (hq.below Bc.out Bc.out.size) (Nat.le_refl _) h16').mono ?_); rintro e wd ⟨rfl, hbd⟩; have Bd := Lib.hid (Below.andThen Bc.out hbd); clear hbd))
  go_ret
  exact ⟨rfl, Bd.out⟩
theorem numPrints_any (u : Nat) (hu : u < 18446744073709551616) (A A' : Option Addr) (c c' : Nat) (us vs : List Nat) (w : World) (hw : Ready w) (hp : Pts w w.heap.size A us) (hq : Pts w w.heap.size A' vs) (hn : us.length ≤ maxLen) (hn' : vs.length ≤ maxLen) :
    Calls Tryd.prog 4 #[.int .u64 (u : Int), .slice A us.length c, .slice A' vs.length c'] w fun e w' => e = .returned (.bool true) ∧ Below w.heap.size w w' := by
  by_cases h : 40 < us.length ∨ 40 < vs.length
  · exact numPrints_long u A A' _ c _ c' w hw hn hn' h
  · by_cases h1 : 1 ≤ us.length ∧ us.length ≤ 16
    · by_cases hlen : us.length = vs.length
      · exact numPrints_yes u hu A A' c c' us vs w hw hp hq h1.1 h1.2 hlen
      · exact numPrints_apart u hu A A' c c' us vs w hw hp hq (by omega) (by omega) h1.1 h1.2 hlen
    · exact numPrints_dim u hu A A' c c' us vs w hw hp hq (by omega) (by omega) h1
end Go.Proofs.YtkhfjcaobjompaaDoor
