/-
  CONTRACTS of package num, fifth part: Point, isBox, Box.
-/
import Derived.Test.YtkhfjcaobjompaaDoorNe
namespace Go.Proofs.YtkhfjcaobjompaaDoor
open Go.ChangeShapes Go.WideShapes Go.ChangeAt Go.RowKit

theorem zright_c (A : Option Addr) (n c : Nat) (w : World) (hn : n ≤ maxLen) :
    Calls Tryd.prog 25 #[.slice A n c] w fun e w' => e = .returned (.bool (decide (1 ≤ n ∧ n ≤ 16))) ∧ w = w' := by
  unfold maxLen at hn
  go_enter Tryd.func25, Tryd.ntmps25
  go_wp2
  all_goals go_ret
  all_goals refine ⟨ret_bool ?_, rfl⟩
  all_goals rw [Bool.eq_iff_iff]
  all_goals simp
  all_goals omega
theorem zright_yes (A : Option Addr) (n c : Nat) (w : World) (h1 : 1 ≤ n) (h16 : n ≤ 16) :
    Calls Tryd.prog 25 #[.slice A n c] w fun e w' => e = .returned (.bool true) ∧ w = w' :=
  (zright_c A n c w (by unfold maxLen; omega)).mono fun _ _ ⟨he, hw⟩ => ⟨by rw [he, decide_eq_true ⟨h1, h16⟩], hw⟩
theorem zright_no (A : Option Addr) (n c : Nat) (w : World) (hn : n ≤ maxLen) (h : ¬ (1 ≤ n ∧ n ≤ 16)) :
    Calls Tryd.prog 25 #[.slice A n c] w fun e w' => e = .returned (.bool false) ∧ w = w' :=
  (zright_c A n c w hn).mono fun _ _ ⟨he, hw⟩ => ⟨by rw [he, decide_eq_false h], hw⟩

theorem point_no (A : Option Addr) (n c : Nat) (w : World) (hn : n ≤ maxLen) (h : ¬ (1 ≤ n ∧ n ≤ 16)) :
    Calls Tryd.prog 15 #[.slice A n c] w fun e w' => e = .returned (.tuple #[.string ⟨#[]⟩, .int .i64 2]) ∧ w = w' := by
  have H := Lib.hid h
  clear h
  go_enter Tryd.func15, Tryd.ntmps15
  go_wp2_with (go_at_call 25; refine (zright_no _ _ _ _ hn H.out).mono ?_; rintro e w' ⟨rfl, rfl⟩)
  go_ret2
  exact ⟨rfl, rfl⟩
theorem point_yes (A : Option Addr) (c : Nat) (us : List Nat) (B : Nat) (w : World) (hw : Ready w) (hp : Pts w B A us) (hB : B ≤ w.heap.size) (h1 : 1 ≤ us.length) (h16 : us.length ≤ 16) :
    Calls Tryd.prog 15 #[.slice A us.length c] w fun e w' => e = .returned (.tuple #[.string (str (T.ptText us)), .int .i64 0]) ∧ Below w.heap.size w w' := by
  go_enter Tryd.func15, Tryd.ntmps15
  go_wp2_with (first | (go_at_call 25; refine (zright_yes _ _ _ _ h1 h16).mono ?_; rintro e w' ⟨rfl, rfl⟩) | (go_at_call 30; refine (pointText_c A c us B _ hw hp hB h1 h16).mono ?_; rintro e w' ⟨rfl, hb⟩))
  go_ret2
  exact ⟨rfl, hb⟩

theorem isBox_c (A A' : Option Addr) (n c n' c' : Nat) (w : World) (hn : n ≤ maxLen) (hn' : n' ≤ maxLen) :
    Calls Tryd.prog 31 #[.agg #[.slice A n c, .slice A' n' c']] w fun e w' => e = .returned (.bool (decide ((1 ≤ n ∧ n ≤ 16) ∧ n = n'))) ∧ w' = w.alloc (.cells #[.slice A n c, .slice A' n' c'] 31) := by
  by_cases h : 1 ≤ n ∧ n ≤ 16
  · obtain ⟨h1, h2⟩ := h
    unfold maxLen at hn hn'
    go_enter Tryd.func31, Tryd.ntmps31
    go_wp2_with (go_at_call 25; refine (zright_yes _ _ _ _ h1 h2).mono ?_; rintro e w' ⟨rfl, rfl⟩)
    all_goals go_ret
    all_goals refine ⟨ret_bool ?_, rfl⟩
    all_goals rw [Bool.eq_iff_iff]
    all_goals simp
    all_goals omega
  · have Hn := Lib.hid hn
    have H := Lib.hid h
    clear h
    unfold maxLen at hn hn'
    go_enter Tryd.func31, Tryd.ntmps31
    go_wp2_with (go_at_call 25; refine (zright_no _ _ _ _ Hn.out H.out).mono ?_; rintro e w' ⟨rfl, rfl⟩)
    all_goals go_ret
    all_goals refine ⟨ret_bool ?_, rfl⟩
    have := H.out
    rw [Bool.eq_iff_iff]
    simp
    omega
theorem isBox_yes (A A' : Option Addr) (n c n' c' : Nat) (w : World) (h1 : 1 ≤ n) (h16 : n ≤ 16) (h : n = n') :
    Calls Tryd.prog 31 #[.agg #[.slice A n c, .slice A' n' c']] w fun e w' => e = .returned (.bool true) ∧ w' = w.alloc (.cells #[.slice A n c, .slice A' n' c'] 31) :=
  (isBox_c A A' n c n' c' w (by unfold maxLen; omega) (by unfold maxLen; omega)).mono fun _ _ ⟨he, hw⟩ => ⟨by rw [he, decide_eq_true ⟨⟨h1, h16⟩, h⟩], hw⟩
theorem isBox_no (A A' : Option Addr) (n c n' c' : Nat) (w : World) (hn : n ≤ maxLen) (hn' : n' ≤ maxLen) (h : ¬ ((1 ≤ n ∧ n ≤ 16) ∧ n = n')) :
    Calls Tryd.prog 31 #[.agg #[.slice A n c, .slice A' n' c']] w fun e w' => e = .returned (.bool false) ∧ w' = w.alloc (.cells #[.slice A n c, .slice A' n' c'] 31) :=
  (isBox_c A A' n c n' c' w hn hn').mono fun _ _ ⟨he, hw⟩ => ⟨by rw [he, decide_eq_false h], hw⟩

theorem box_no (A A' : Option Addr) (n c n' c' : Nat) (w : World) (hn : n ≤ maxLen) (hn' : n' ≤ maxLen) (h : ¬ ((1 ≤ n ∧ n ≤ 16) ∧ n = n')) :
    Calls Tryd.prog 16 #[.agg #[.slice A n c, .slice A' n' c']] w fun e w' => e = .returned (.tuple #[.string ⟨#[]⟩, .int .i64 2]) ∧ Below w.heap.size w w' := by
  have H := Lib.hid h
  clear h
  go_enter Tryd.func16, Tryd.ntmps16
  go_wp2_with (go_at_call 31; refine (isBox_no _ _ _ _ _ _ _ hn hn' H.out).mono ?_; rintro e w' ⟨rfl, rfl⟩)
  go_ret2
  exact ⟨rfl, ((Below.refl _ _).alloc (Nat.le_refl _) _).alloc (by simp) _⟩

theorem pointText_held (A0 A1 : Option Addr) (n0 c0 n1 c1 : Nat) (A : Option Addr) (c : Nat) (us : List Nat) (w w1 : World) (hw : Ready w) (hp : Pts w w.heap.size A us) (h1 : 1 ≤ us.length) (h16 : us.length ≤ 16)
    (g0 : w1.cell? ⟨w.heap.size, 0, none⟩ = some (.slice A0 n0 c0)) (g1 : w1.cell? ⟨w.heap.size, 1, none⟩ = some (.slice A1 n1 c1)) (hh : Held w w1) :
    Calls Tryd.prog 30 #[.slice A us.length c] w1 fun e w2 => e = .returned (.string (str (T.ptText us))) ∧ w2.cell? ⟨w.heap.size, 0, none⟩ = some (.slice A0 n0 c0) ∧ w2.cell? ⟨w.heap.size, 1, none⟩ = some (.slice A1 n1 c1) ∧ Held w w2 :=
  (pointText_c A c us w.heap.size w1 (hw.on hh.1) (hp.below' hh.1 (Nat.le_refl _)) hh.1.size h1 h16).mono fun _ _ ⟨he, hb⟩ =>
    ⟨he, by rw [hb.cell (p := ⟨w.heap.size, 0, none⟩) (Nat.lt_of_succ_le hh.2)]; exact g0, by rw [hb.cell (p := ⟨w.heap.size, 1, none⟩) (Nat.lt_of_succ_le hh.2)]; exact g1,
      ⟨hh.1.trans (hb.mono hh.1.size), Nat.le_trans hh.2 hb.size⟩⟩

set_option maxRecDepth 100000 in
theorem box_yes (A A' : Option Addr) (c c' : Nat) (us vs : List Nat) (w : World) (hw : Ready w) (hp : Pts w w.heap.size A us) (hq : Pts w w.heap.size A' vs) (h1 : 1 ≤ us.length) (h16 : us.length ≤ 16) (hlen : us.length = vs.length) :
    Calls Tryd.prog 16 #[.agg #[.slice A us.length c, .slice A' vs.length c']] w fun e w' => e = .returned (.tuple #[.string (str (T.boxText us vs)), .int .i64 0]) ∧ Below w.heap.size w w' := by
  have hl1 := T.ptText_len us hp.ok
  have hl2 := T.ptText_len vs hq.ok
  have h2 : 1 ≤ vs.length := by omega
  have h26 : vs.length ≤ 16 := by omega
  have Hlen := Lib.hid hlen
  clear hlen
  obtain ⟨X, hX⟩ : ∃ X, T.ptText us = X := ⟨_, rfl⟩
  obtain ⟨Y, hY⟩ : ∃ Y, T.ptText vs = Y := ⟨_, rfl⟩
  rw [hX] at hl1
  rw [hY] at hl2
  have n1 : ¬ (9223372036854775807 < X.length + 2) := by omega
  have n2 : ¬ (9223372036854775807 < X.length + 2 + Y.length) := by omega
  have hres : Hid (str X ++ ⟨#[46, 46]⟩ ++ str Y = str (T.boxText us vs)) := by
    show _ = _
    have e : (⟨#[46, 46]⟩ : ByteArray) = str T.dots := rfl
    rw [e, str_app, str_app, ← hX, ← hY]
    rfl
  have HX := Lib.hid hX
  have HY := Lib.hid hY
  clear hX hY
  have hH : Held w ((w.alloc (.cells #[.slice A us.length c, .slice A' vs.length c'] 31)).alloc (.cells #[.slice A us.length c, .slice A' vs.length c'] 31)) := ⟨((Below.refl _ w).alloc (Nat.le_refl _) _).alloc (by simp) _, by simp⟩
  have hc0 : ((w.alloc (.cells #[.slice A us.length c, .slice A' vs.length c'] 31)).alloc (.cells #[.slice A us.length c, .slice A' vs.length c'] 31)).cell? ⟨w.heap.size, 0, none⟩ = some (.slice A us.length c) := by
    rw [((Below.refl _ (w.alloc (.cells #[.slice A us.length c, .slice A' vs.length c'] 31))).alloc (Nat.le_refl _) _).cell (by simp), World.cell?_alloc_new]; rfl
  have hc1 : ((w.alloc (.cells #[.slice A us.length c, .slice A' vs.length c'] 31)).alloc (.cells #[.slice A us.length c, .slice A' vs.length c'] 31)).cell? ⟨w.heap.size, 1, none⟩ = some (.slice A' vs.length c') := by
    rw [((Below.refl _ (w.alloc (.cells #[.slice A us.length c, .slice A' vs.length c'] 31))).alloc (Nat.le_refl _) _).cell (by simp), World.cell?_alloc_new]; rfl
  have hc0' : ((w.alloc (.cells #[.slice A us.length c, .slice A' vs.length c'] 31)).alloc (.cells #[.slice A us.length c, .slice A' vs.length c'] 31)).drew.cell? ⟨w.heap.size, 0, none⟩ = some (.slice A us.length c) := hc0
  have hc1' : ((w.alloc (.cells #[.slice A us.length c, .slice A' vs.length c'] 31)).alloc (.cells #[.slice A us.length c, .slice A' vs.length c'] 31)).drew.cell? ⟨w.heap.size, 1, none⟩ = some (.slice A' vs.length c') := hc1
  have hH' := hH.drew
  have G0 := Lib.hid hc0
  have G1 := Lib.hid hc1
  have G0' := Lib.hid hc0'
  have G1' := Lib.hid hc1'
  clear hc0 hc1 hc0' hc1'
  go_enter Tryd.func16, Tryd.ntmps16
  go_wp2_with (go_at_call 31; refine (isBox_yes _ _ _ _ _ _ _ h1 h16 Hlen.out).mono ?_; rintro e w' ⟨rfl, rfl⟩)
  have hc0 := G0.out
  have hc1 := G1.out
  have hc0' := G0'.out
  have hc1' := G1'.out
  generalize ((w.alloc (.cells #[.slice A us.length c, .slice A' vs.length c'] 31)).alloc (.cells #[.slice A us.length c, .slice A' vs.length c'] 31)) = W at *
  go_region_held3 (fun w' => w'.cell? ⟨w.heap.size, 0, none⟩ = some (.slice A us.length c) ∧ w'.cell? ⟨w.heap.size, 1, none⟩ = some (.slice A' vs.length c') ∧ Held w w')
    (first | exact ⟨hc0', hc1', hH'⟩ | exact ⟨hc0, hc1, hH⟩ | exact ⟨by assumption, by assumption, by assumption⟩)
    (first
      | (go_at_call 30; with_reducible (refine (pointText_held A A' us.length c vs.length c' A c us w _ hw hp h1 h16 (by assumption) (by assumption) (by assumption)).mono ?_); rintro e w' ⟨rfl, k0, k1, kh⟩; rw [HX.out])
      | (go_at_call 30; with_reducible (refine (pointText_held A A' us.length c vs.length c' A' c' vs w _ hw hq h2 h26 (by assumption) (by assumption) (by assumption)).mono ?_); rintro e w' ⟨rfl, k0, k1, kh⟩; rw [HY.out]))
  all_goals
    rename_i hS
    go_wp2
    go_ret2
    exact ⟨by rw [hres.out]; rfl, hS.2.2.1⟩
end Go.Proofs.YtkhfjcaobjompaaDoor
