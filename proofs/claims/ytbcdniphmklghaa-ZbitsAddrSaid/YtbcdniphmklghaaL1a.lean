/-
  THE WALK of the law ZbitsAddr: whatever the point, the level and the address, the law's call returns true, and what was there stays.
-/
import Derived.Test.YtbcdniphmklghaaAw1
namespace Go.Proofs.Ytbcdniphmklghaa
open Go.ChangeShapes Go.WideShapes Go.ChangeAt Go.RowKit

set_option maxRecDepth 100000 in
theorem zbitsAddr_long (A : Option Addr) (c : Nat) (us : List Nat) (l a : Int) (w : World) (h : 40 < us.length) (hm : us.length ≤ maxLen) :
    Calls Try.prog 3 #[.slice A us.length c, .int .i64 l, .int .i64 a] w fun e w' => e = .returned (.bool true) ∧ Below w.heap.size w w' := by
  unfold maxLen at hm
  go_enter Try.func3, Try.ntmps3
  go_wp2_with (go_at_call 6; refine (awake_c _).mono ?_; rintro e w1 ⟨rfl, hb1⟩)
  go_ret
  exact ⟨rfl, hb1⟩

set_option maxRecDepth 100000 in
theorem zbitsAddr_dim (A : Option Addr) (c : Nat) (us : List Nat) (l a : Int) (w : World) (hp : Pts w w.heap.size A us) (h40 : us.length ≤ 40) (h : ¬ (1 ≤ us.length ∧ us.length ≤ 16)) :
    Calls Try.prog 3 #[.slice A us.length c, .int .i64 l, .int .i64 a] w fun e w' => e = .returned (.bool true) ∧ Below w.heap.size w w' := by
  have H := Lib.hid h
  have hm : us.length ≤ maxLen := by unfold maxLen; omega
  have Hm := Lib.hid hm
  clear h hm
  go_enter Try.func3, Try.ntmps3
  go_wp2_with (first
    | (go_at_call 6; refine (awake_c _).mono ?_; rintro e w1 ⟨rfl, hb1⟩)
    | (at_builtin; refine wpList_append_copy rfl (.tmp 21) (.tmp 22) rfl us rfl w.heap.size A c rfl (hp.below' hb1 (Nat.le_refl _)) hb1.size (by omega) ?_; intro A2 c2 w2 hp2 hown2 hb2; have hpw := (hp.below' hb1 (Nat.le_refl _)).below' hb2 hb1.size; have hsz : w.heap.size ≤ w2.heap.size := Nat.le_trans hb1.size hb2.size)
    | (go_at_call 7; refine (addr_dim _ _ _ _ _ Hm.out H.out).mono ?_; rintro e w' ⟨rfl, rfl⟩)
    | (go_at_call 8; refine (cut_dim _ _ _ _ _ Hm.out H.out).mono ?_; rintro e w' ⟨rfl, rfl⟩)
    | (go_at_call 9; refine (place_dim _ _ _ _ _ _ Hm.out H.out).mono ?_; rintro e w' ⟨rfl, rfl⟩)
    | (go_at_call 10; refine (right_no _ _ _ _ Hm.out H.out).mono ?_; rintro e w' ⟨rfl, rfl⟩)
    | (go_at_call 11; refine (rright_no _ _ _ _ Hm.out H.out).mono ?_; rintro e w' ⟨rfl, rfl⟩)
    | (go_at_call 12; refine (rsame_c _ _ _ _ us us _ _ hp2 (hpw.keep hsz (fun _ _ => rfl)) (Nat.le_refl _) Hm.out).mono ?_; rintro e w3 ⟨rfl, hb3⟩; rw [decide_eq_true rfl]))
  go_ret
  exact ⟨rfl, Below.andThen (Below.andThen hb1 hb2) hb3⟩


set_option maxRecDepth 100000 in
theorem zbitsAddr_lev (A : Option Addr) (c : Nat) (us : List Nat) (l a : Int) (w : World) (hp : Pts w w.heap.size A us) (h1 : 1 ≤ us.length) (h16 : us.length ≤ 16) (h : l < -1 ∨ 63 < l) :
    Calls Try.prog 3 #[.slice A us.length c, .int .i64 l, .int .i64 a] w fun e w' => e = .returned (.bool true) ∧ Below w.heap.size w w' := by
  have H0 : Hid (¬ (0 ≤ l ∧ l ≤ 63)) := Lib.hid (by omega)
  have H1 : Hid (¬ (-1 ≤ l ∧ l ≤ 63)) := Lib.hid (by omega)
  have Hm : Hid (us.length ≤ maxLen) := Lib.hid (by unfold maxLen; omega)
  rcases h with h | h
  all_goals
    go_enter Try.func3, Try.ntmps3
    go_wp2_with (first
      | (go_at_call 6; refine (awake_c _).mono ?_; rintro e w1 ⟨rfl, hb1⟩)
      | (at_builtin; refine wpList_append_copy rfl (.tmp 21) (.tmp 22) rfl us rfl w.heap.size A c rfl (hp.below' hb1 (Nat.le_refl _)) hb1.size (by omega) ?_; intro A2 c2 w2 hp2 hown2 hb2; have hpw := (hp.below' hb1 (Nat.le_refl _)).below' hb2 hb1.size; have hsz : w.heap.size ≤ w2.heap.size := Nat.le_trans hb1.size hb2.size)
      | (go_at_call 7; refine (addr_arg _ _ _ _ _ h1 h16 H0.out).mono ?_; rintro e w' ⟨rfl, rfl⟩)
      | (go_at_call 8; refine (cut_arg _ _ _ _ _ h1 h16 H1.out).mono ?_; rintro e w' ⟨rfl, rfl⟩)
      | (go_at_call 9; refine (place_lev _ _ _ _ _ _ h1 h16 H0.out).mono ?_; rintro e w' ⟨rfl, rfl⟩)
      | (go_at_call 10; refine (right_yes _ _ _ _ h1 h16).mono ?_; rintro e w' ⟨rfl, rfl⟩)
      | (go_at_call 11; refine (rright_yes _ _ _ _ h1 h16).mono ?_; rintro e w' ⟨rfl, rfl⟩)
      | (go_at_call 12; refine (rsame_c _ _ _ _ us us _ _ hp2 (hpw.keep hsz (fun _ _ => rfl)) (Nat.le_refl _) Hm.out).mono ?_; rintro e w3 ⟨rfl, hb3⟩; rw [decide_eq_true rfl]))
    go_ret
    exact ⟨rfl, Below.andThen (Below.andThen hb1 hb2) hb3⟩

set_option maxRecDepth 100000 in
theorem zbitsAddr_all (A : Option Addr) (c : Nat) (us : List Nat) (a : Int) (w : World) (hp : Pts w w.heap.size A us) (h1 : 1 ≤ us.length) (h16 : us.length ≤ 16) :
    Calls Try.prog 3 #[.slice A us.length c, .int .i64 (-1), .int .i64 a] w fun e w' => e = .returned (.bool true) ∧ Below w.heap.size w w' := by
  have Hm : Hid (us.length ≤ maxLen) := Lib.hid (by unfold maxLen; omega)
  have Hc : Hid ((Z.cut us 0).length ≤ maxLen) := Lib.hid (by rw [Z.cut_length]; exact Hm.out)
  go_enter Try.func3, Try.ntmps3
  go_wp2_with (first
    | (go_at_call 6; refine (awake_c _).mono ?_; rintro e w1 ⟨rfl, hb1⟩)
    | (at_builtin; refine wpList_append_copy rfl (.tmp 21) (.tmp 22) rfl us rfl w.heap.size A c rfl (hp.below' hb1 (Nat.le_refl _)) hb1.size (by omega) ?_; intro A2 c2 w2 hp2 hown2 hb2; have hpw := (hp.below' hb1 (Nat.le_refl _)).below' hb2 hb1.size; have hsz : w.heap.size ≤ w2.heap.size := Nat.le_trans hb1.size hb2.size)
    | (go_at_call 7; refine (addr_arg _ _ _ _ _ h1 h16 (by omega)).mono ?_; rintro e w' ⟨rfl, rfl⟩)
    | (go_at_call 8; refine (cut_all _ _ us _ _ hp2 (Nat.le_refl _) h1 h16).mono ?_; rintro e w3 ⟨v3, rfl, hown3, hb3⟩; obtain ⟨A3, c3, rfl, hp3⟩ := hown3.pts)
    | (go_at_call 9; refine (place_lev _ _ _ _ _ _ h1 h16 (by omega)).mono ?_; rintro e w' ⟨rfl, rfl⟩)
    | (go_at_call 10; refine (right_yes _ _ _ _ h1 h16).mono ?_; rintro e w' ⟨rfl, rfl⟩)
    | (go_at_call 11; refine (rright_yes _ _ _ _ h1 h16).mono ?_; rintro e w' ⟨rfl, rfl⟩)
    | (go_at_call 12; with_reducible (refine (rsame_c _ _ _ _ us us _ _ (hp2.below hb3 hb3.size) ((hpw.below' hb3 hsz).keep (Nat.le_trans hsz hb3.size) (fun _ _ => rfl)) (Nat.le_refl _) Hm.out).mono ?_); rintro e w4 ⟨rfl, hb4⟩; rw [decide_eq_true rfl])
    | (go_at_call 13; refine (rcut_all _ _ us _ _ ((hpw.below' hb3 hsz).below' hb4 (Nat.le_trans hsz hb3.size)) (Nat.le_trans hsz (Nat.le_trans hb3.size hb4.size)) h1 h16).mono ?_; rintro e w5 ⟨v5, rfl, hown5, hb5⟩; obtain ⟨A5, c5, rfl, hp5⟩ := hown5.pts)
    | (go_at_call 12; refine (rsame_c _ _ _ _ (Z.cut us 0) (Z.cut us 0) _ _ ((hp3.below hb4 hb4.size).below hb5 hb5.size) hp5 (Nat.le_refl _) Hc.out).mono ?_; rintro e w6 ⟨rfl, hb6⟩; rw [decide_eq_true rfl]))
  go_ret
  exact ⟨rfl, Below.andThen (Below.andThen (Below.andThen (Below.andThen (Below.andThen hb1 hb2) hb3) hb4) hb5) hb6⟩

theorem ref_neq (x : Int) : (x != x) = false := by simp

set_option maxRecDepth 100000 in
theorem zbitsAddr_bad (A : Option Addr) (c : Nat) (us : List Nat) (l : Nat) (a : Int) (w : World) (hp : Pts w w.heap.size A us) (h1 : 1 ≤ us.length) (h16 : us.length ≤ 16) (hl : l ≤ 63) (ha : a < 0 ∨ ((2 ^ us.length : Nat) : Int) ≤ a) :
    Calls Try.prog 3 #[.slice A us.length c, .int .i64 (l : Int), .int .i64 a] w fun e w' => e = .returned (.bool true) ∧ Below w.heap.size w w' := by
  have Hm : Hid (us.length ≤ maxLen) := Lib.hid (by unfold maxLen; omega)
  have Hc : Hid ((Z.cut us (l + 1)).length ≤ maxLen) := Lib.hid (by rw [Z.cut_length]; exact Hm.out)
  have hne : ((l : Int) == -1) = false := beq_eq_false_iff_ne.2 (by omega)
  have hx := ref_neq (Z.addr us l : Int)
  obtain ⟨P, hP⟩ : ∃ P, 2 ^ us.length = P := ⟨_, rfl⟩
  have hPb : P ≤ 65536 := by rw [← hP]; exact Nat.pow_le_pow_right (n := 2) (by omega) h16
  rw [hP] at ha
  have Hpl : ∀ (A2 : Option Addr) (c2 : Nat) (w2 : World), Calls Try.prog 9 #[.slice A2 us.length c2, .int .i64 (l : Int), .int .i64 a] w2 fun e w' => e = .returned (.tuple #[.slice none 0 0, .int .i64 3]) ∧ w2 = w' := by
    intro A2 c2 w2
    rcases ha with ha | ha
    · exact place_neg _ _ _ _ _ _ h1 h16 (by omega) (by omega) ha
    · obtain ⟨b, rfl⟩ := Int.eq_ofNat_of_zero_le (show 0 ≤ a by omega)
      exact place_big _ _ _ _ b _ h1 h16 (by omega) (by omega) (by omega)
  have HP := Lib.hid hP
  have HPl := Lib.hid Hpl
  clear hP Hpl
  rcases ha with ha | ha
  all_goals
    go_enter Try.func3, Try.ntmps3
    go_wp2_with (first
      | (go_at_call 6; refine (awake_c _).mono ?_; rintro e w1 ⟨rfl, hb1⟩)
      | (at_builtin; refine wpList_append_copy rfl (.tmp 21) (.tmp 22) rfl us rfl w.heap.size A c rfl (hp.below' hb1 (Nat.le_refl _)) hb1.size (by omega) ?_; intro A2 c2 w2 hp2 hown2 hb2; have hpw := (hp.below' hb1 (Nat.le_refl _)).below' hb2 hb1.size; have hsz : w.heap.size ≤ w2.heap.size := Nat.le_trans hb1.size hb2.size)
      | (go_at_call 7; with_reducible (refine (addr_yes _ _ us l _ _ hp2 h1 h16 hl).mono ?_); rintro e w' ⟨rfl, rfl⟩)
      | (go_at_call 8; refine (cut_yes _ _ us l _ _ hp2 (Nat.le_refl _) h1 h16 hl).mono ?_; rintro e w3 ⟨v3, rfl, hown3, hb3⟩; obtain ⟨A3, c3, rfl, hp3⟩ := hown3.pts)
      | (go_at_call 9; refine (HPl.out _ _ _).mono ?_; rintro e w' ⟨rfl, rfl⟩)
      | (go_at_call 10; refine (right_yes _ _ _ _ h1 h16).mono ?_; rintro e w' ⟨rfl, rfl⟩)
      | (go_at_call 11; refine (rright_yes _ _ _ _ h1 h16).mono ?_; rintro e w' ⟨rfl, rfl⟩)
      | (go_at_call 12; with_reducible (refine (rsame_c _ _ _ _ us us _ _ (hp2.below hb3 hb3.size) ((hpw.below' hb3 hsz).keep (Nat.le_trans hsz hb3.size) (fun _ _ => rfl)) (Nat.le_refl _) Hm.out).mono ?_); rintro e w4 ⟨rfl, hb4⟩; rw [decide_eq_true rfl])
      | (go_at_call 13; refine (rcut_lev _ _ us l _ _ ((hpw.below' hb3 hsz).below' hb4 (Nat.le_trans hsz hb3.size)) (Nat.le_trans hsz (Nat.le_trans hb3.size hb4.size)) h1 h16 hl).mono ?_; rintro e w5 ⟨v5, rfl, hown5, hb5⟩; obtain ⟨A5, c5, rfl, hp5⟩ := hown5.pts)
      | (go_at_call 12; refine (rsame_c _ _ _ _ (Z.cut us (l + 1)) (Z.cut us (l + 1)) _ _ ((hp3.below hb4 hb4.size).below hb5 hb5.size) hp5 (Nat.le_refl _) Hc.out).mono ?_; rintro e w6 ⟨rfl, hb6⟩; rw [decide_eq_true rfl])
      | (go_at_call 14; refine (raddr_c _ _ us l _ _ (((hpw.below' hb3 hsz).below' hb4 (Nat.le_trans hsz hb3.size)).below' hb5 (Nat.le_trans hsz (Nat.le_trans hb3.size hb4.size)) |>.below' hb6 (Nat.le_trans hsz (Nat.le_trans hb3.size (Nat.le_trans hb4.size hb5.size)))) h1 h16 hl).mono ?_; rintro e w' ⟨rfl, rfl⟩)
      | (go_at_call 15; refine (rpower_P _ P _ (by omega) HP.out).mono ?_; rintro e w' ⟨rfl, rfl⟩))
    go_ret
    exact ⟨rfl, Below.andThen (Below.andThen (Below.andThen (Below.andThen (Below.andThen hb1 hb2) hb3) hb4) hb5) hb6⟩

set_option maxRecDepth 100000 in
theorem zbitsAddr_yes (A : Option Addr) (c : Nat) (us : List Nat) (l a : Nat) (w : World) (hp : Pts w w.heap.size A us) (h1 : 1 ≤ us.length) (h16 : us.length ≤ 16) (hl : l ≤ 63) (ha : a < 2 ^ us.length) :
    Calls Try.prog 3 #[.slice A us.length c, .int .i64 (l : Int), .int .i64 (a : Int)] w fun e w' => e = .returned (.bool true) ∧ Below w.heap.size w w' := by
  have Hm : Hid (us.length ≤ maxLen) := Lib.hid (by unfold maxLen; omega)
  have Hc : Hid ((Z.cut us (l + 1)).length ≤ maxLen) := Lib.hid (by rw [Z.cut_length]; exact Hm.out)
  have Hq : Hid ((Z.place us l a).length ≤ maxLen) := Lib.hid (by rw [Z.place_length]; exact Hm.out)
  have Hq1 : Hid (1 ≤ (Z.place us l a).length ∧ (Z.place us l a).length ≤ 16) := Lib.hid (by rw [Z.place_length]; exact ⟨h1, h16⟩)
  have Hpl := Lib.hid (Z.addr_place us l a ha)
  have hne : ((l : Int) == -1) = false := beq_eq_false_iff_ne.2 (by omega)
  have hx := ref_neq (Z.addr us l : Int)
  have Ha := Lib.hid ha
  obtain ⟨P, hP⟩ : ∃ P, 2 ^ us.length = P := ⟨_, rfl⟩
  have hPb : P ≤ 65536 := by rw [← hP]; exact Nat.pow_le_pow_right (n := 2) (by omega) h16
  rw [hP] at ha
  have HP := Lib.hid hP
  clear hP
  go_enter Try.func3, Try.ntmps3
  go_wp2_with (first
    | (go_at_call 6; refine (awake_c _).mono ?_; rintro e w1 ⟨rfl, hb1⟩)
    | (at_builtin; refine wpList_append_copy rfl (.tmp 21) (.tmp 22) rfl us rfl w.heap.size A c rfl (hp.below' hb1 (Nat.le_refl _)) hb1.size (by omega) ?_; intro A2 c2 w2 hp2 hown2 hb2; have hpw := (hp.below' hb1 (Nat.le_refl _)).below' hb2 hb1.size; have hsz : w.heap.size ≤ w2.heap.size := Nat.le_trans hb1.size hb2.size)
    | (go_at_call 7; with_reducible (refine (addr_yes _ _ us l _ _ hp2 h1 h16 hl).mono ?_); rintro e w' ⟨rfl, rfl⟩)
    | (go_at_call 8; refine (cut_yes _ _ us l _ _ hp2 (Nat.le_refl _) h1 h16 hl).mono ?_; rintro e w3 ⟨v3, rfl, hown3, hb3⟩; obtain ⟨A3, c3, rfl, hp3⟩ := hown3.pts)
    | (go_at_call 9; refine (place_yes _ _ us l a _ _ (hp2.below hb3 hb3.size) (Nat.le_refl _) h1 h16 hl Ha.out).mono ?_; rintro e w4 ⟨v4, rfl, hown4, hb4⟩; obtain ⟨A4, c4, rfl, hp4⟩ := hown4.pts; have hz4 := Nat.le_trans hsz (Nat.le_trans hb3.size hb4.size); have hpw4 := (hpw.below' hb3 hsz).below' hb4 (Nat.le_trans hsz hb3.size))
    | (go_at_call 10; refine (right_yes _ _ _ _ h1 h16).mono ?_; rintro e w' ⟨rfl, rfl⟩)
    | (go_at_call 11; refine (rright_yes _ _ _ _ h1 h16).mono ?_; rintro e w' ⟨rfl, rfl⟩)
    | (go_at_call 12; with_reducible (refine (rsame_c _ _ _ _ us us _ _ ((hp2.below hb3 hb3.size).below hb4 hb4.size) (hpw4.keep hz4 (fun _ _ => rfl)) (Nat.le_refl _) Hm.out).mono ?_); rintro e w5 ⟨rfl, hb5⟩; rw [decide_eq_true rfl]; have hz5 := Nat.le_trans hz4 hb5.size; have hpw5 := hpw4.below' hb5 hz4)
    | (go_at_call 13; refine (rcut_lev _ _ us l _ _ hpw5 hz5 h1 h16 hl).mono ?_; rintro e w6 ⟨v6, rfl, hown6, hb6⟩; obtain ⟨A6, c6, rfl, hp6⟩ := hown6.pts; have hz6 := Nat.le_trans hz5 hb6.size; have hpw6 := hpw5.below' hb6 hz5)
    | (go_at_call 12; with_reducible (refine (rsame_c _ _ _ _ (Z.cut us (l + 1)) (Z.cut us (l + 1)) _ _ (((hp3.below hb4 hb4.size).below hb5 hb5.size).below hb6 hb6.size) hp6 (Nat.le_refl _) Hc.out).mono ?_); rintro e w7 ⟨rfl, hb7⟩; rw [decide_eq_true rfl]; have hz7 := Nat.le_trans hz6 hb7.size; have hpw7 := hpw6.below' hb7 hz6)
    | (go_at_call 14; refine (raddr_c _ _ us l _ _ hpw7 h1 h16 hl).mono ?_; rintro e w' ⟨rfl, rfl⟩)
    | (go_at_call 15; refine (rpower_P _ P _ (by omega) HP.out).mono ?_; rintro e w' ⟨rfl, rfl⟩)
    | (go_at_call 7; with_reducible (refine (addr_yes _ _ (Z.place us l a) l _ _ (((hp4.below hb5 hb5.size).below hb6 hb6.size).below hb7 hb7.size) Hq1.out.1 Hq1.out.2 hl).mono ?_); rintro e w' ⟨rfl, rfl⟩; rw [Hpl.out])
    | (go_at_call 16; refine (rplace_c _ _ us l a _ _ hpw7 hz7 h1 h16 hl Ha.out).mono ?_; rintro e w8 ⟨v8, rfl, hown8, hb8⟩; obtain ⟨A8, c8, rfl, hp8⟩ := hown8.pts)
    | (go_at_call 12; with_reducible (refine (rsame_c _ _ _ _ (Z.place us l a) (Z.place us l a) _ _ ((((hp4.below hb5 hb5.size).below hb6 hb6.size).below hb7 hb7.size).below hb8 hb8.size) hp8 (Nat.le_refl _) Hq.out).mono ?_); rintro e w9 ⟨rfl, hb9⟩; rw [decide_eq_true rfl]))
  go_ret
  exact ⟨rfl, Below.andThen (Below.andThen (Below.andThen (Below.andThen (Below.andThen (Below.andThen (Below.andThen (Below.andThen hb1 hb2) hb3) hb4) hb5) hb6) hb7) hb8) hb9⟩

/-- THE LAW's CALL, AT EVERY INPUT -/
theorem zbitsAddr_w (A : Option Addr) (c : Nat) (us : List Nat) (l a : Int) (w : World) (hp : Pts w w.heap.size A us) (hm : us.length ≤ maxLen) :
    Calls Try.prog 3 #[.slice A us.length c, .int .i64 l, .int .i64 a] w fun e w' => e = .returned (.bool true) ∧ Below w.heap.size w w' := by
  by_cases h40 : 40 < us.length
  · exact zbitsAddr_long A c us l a w h40 hm
  by_cases hr : 1 ≤ us.length ∧ us.length ≤ 16
  case neg => exact zbitsAddr_dim A c us l a w hp (by omega) hr
  obtain ⟨h1, h16⟩ := hr
  by_cases hl : l < -1 ∨ 63 < l
  · exact zbitsAddr_lev A c us l a w hp h1 h16 hl
  by_cases hl1 : l = -1
  · subst hl1; exact zbitsAddr_all A c us a w hp h1 h16
  obtain ⟨L, rfl⟩ := Int.eq_ofNat_of_zero_le (show 0 ≤ l by omega)
  by_cases ha : a < 0 ∨ ((2 ^ us.length : Nat) : Int) ≤ a
  · exact zbitsAddr_bad A c us L a w hp h1 h16 (by omega) ha
  obtain ⟨X, rfl⟩ := Int.eq_ofNat_of_zero_le (show 0 ≤ a by omega)
  exact zbitsAddr_yes A c us L X w hp h1 h16 (by omega) (by omega)

end Go.Proofs.Ytbcdniphmklghaa
