/-
  THE WALK of the law ZbitsCuts: whatever the two points and the level, the law's call returns true, and what was there stays.
-/
import Derived.Test.YtbcdniphmklghaaL1b
namespace Go.Proofs.Ytbcdniphmklghaa
open Go.ChangeShapes Go.WideShapes Go.ChangeAt Go.RowKit

theorem cut_any (A : Option Addr) (c : Nat) (us : List Nat) (l : Int) (B : Nat) (w : World) (hp : Pts w B A us) (hB : B ≤ w.heap.size) (h1 : 1 ≤ us.length) (h16 : us.length ≤ 16) (h0 : -1 ≤ l) (hl : l ≤ 63) :
    Calls Try.prog 8 #[.slice A us.length c, .int .i64 l] w fun e w' => ∃ v, e = .returned (.tuple #[v, .int .i64 0]) ∧ Own w' w.heap.size v (Z.cut us (l + 1).toNat) ∧ Below w.heap.size w w' := by
  by_cases e : l = -1
  · subst e; exact cut_all A c us B w hp hB h1 h16
  · obtain ⟨L, rfl⟩ := Int.eq_ofNat_of_zero_le (show 0 ≤ l by omega)
    rw [show ((L : Int) + 1).toNat = L + 1 by omega]
    exact cut_yes A c us L B w hp hB h1 h16 (by omega)

set_option maxRecDepth 100000 in
theorem zbitsCuts_dim (A B : Option Addr) (c d n m : Nat) (l : Int) (w : World) (hn : n ≤ maxLen) (h : ¬ ((1 ≤ n ∧ n ≤ 16) ∧ n = m)) :
    Calls Try.prog 5 #[.slice A n c, .slice B m d, .int .i64 l] w fun e w' => e = .returned (.bool true) ∧ Below w.heap.size w w' := by
  have H := Lib.hid h
  have Hn := Lib.hid hn
  clear h hn
  go_enter Try.func5, Try.ntmps5
  go_wp2_with (first
    | (go_at_call 6; refine (awake_c _).mono ?_; rintro e w1 ⟨rfl, hb1⟩)
    | (go_at_call 19; refine (ralike_no _ _ _ _ _ _ _ Hn.out H.out).mono ?_; rintro e w' ⟨rfl, rfl⟩))
  go_ret
  exact ⟨rfl, hb1⟩

set_option maxRecDepth 100000 in
theorem zbitsCuts_lev (A B : Option Addr) (c d n m : Nat) (l : Int) (w : World) (h1 : 1 ≤ n) (h16 : n ≤ 16) (hlen : n = m) (h : l < -1 ∨ 63 < l) :
    Calls Try.prog 5 #[.slice A n c, .slice B m d, .int .i64 l] w fun e w' => e = .returned (.bool true) ∧ Below w.heap.size w w' := by
  have H := Lib.hid hlen
  clear hlen
  rcases h with h | h
  all_goals
    go_enter Try.func5, Try.ntmps5
    go_wp2_with (first
      | (go_at_call 6; refine (awake_c _).mono ?_; rintro e w1 ⟨rfl, hb1⟩)
      | (go_at_call 19; refine (ralike_yes _ _ _ _ _ _ _ h1 h16 H.out).mono ?_; rintro e w' ⟨rfl, rfl⟩))
    go_ret
    exact ⟨rfl, hb1⟩

set_option maxRecDepth 100000 in
theorem zbitsCuts_yes (A B : Option Addr) (c d : Nat) (us vs : List Nat) (l : Int) (w : World) (hp : Pts w w.heap.size A us) (hq : Pts w w.heap.size B vs) (h1 : 1 ≤ us.length) (h16 : us.length ≤ 16) (hlen : us.length = vs.length) (h0 : -1 ≤ l) (hl : l ≤ 63) :
    Calls Try.prog 5 #[.slice A us.length c, .slice B vs.length d, .int .i64 l] w fun e w' => e = .returned (.bool true) ∧ Below w.heap.size w w' := by
  have g1 : 1 ≤ vs.length := by omega
  have g16 : vs.length ≤ 16 := by omega
  have Hn : Hid (us.length ≤ maxLen) := Lib.hid (by unfold maxLen; omega)
  obtain ⟨k, hk⟩ : ∃ k, (l + 1).toNat = k := ⟨_, rfl⟩
  have hkl : (k : Int) = l + 1 := by omega
  obtain ⟨p, hpt⟩ : ∃ p, Z.part us vs = p := ⟨_, rfl⟩
  obtain ⟨x, hx⟩ : ∃ x, Z.cmp us vs = x := ⟨_, rfl⟩
  obtain ⟨y, hy⟩ : ∃ y, Z.cmp (Z.cut us k) (Z.cut vs k) = y := ⟨_, rfl⟩
  have hcut := Z.cut_eq_iff hlen hp.ok hq.ok k
  have hcmp := Z.cut_cmp hlen hp.ok hq.ok k
  have Hl1 : Hid (1 ≤ (Z.cut us k).length ∧ (Z.cut us k).length ≤ 16 ∧ (Z.cut us k).length = (Z.cut vs k).length ∧ (Z.cut us k).length ≤ maxLen) := Lib.hid (by
    rw [Z.cut_length, Z.cut_length]; exact ⟨h1, h16, hlen, Hn.out⟩)
  have Hk := Lib.hid hk
  have Hp := Lib.hid hpt
  have Hx := Lib.hid hx
  have Hy := Lib.hid hy
  have Hlen := Lib.hid hlen
  by_cases hc : p ≤ l
  · have He : Hid (Z.cut us k = Z.cut vs k) := Lib.hid (hcut.2 (by omega))
    clear hcut hcmp hk hkl hpt hx hy hlen
    go_enter Try.func5, Try.ntmps5
    go_wp2_with (first
      | (go_at_call 6; refine (awake_c _).mono ?_; rintro e w1 ⟨rfl, hb1⟩; have hpw := hp.below' hb1 (Nat.le_refl _); have hqw := hq.below' hb1 (Nat.le_refl _))
      | (go_at_call 19; refine (ralike_yes _ _ _ _ _ _ _ h1 h16 Hlen.out).mono ?_; rintro e w' ⟨rfl, rfl⟩)
      | (go_at_call 18; refine (part_is _ _ _ _ us vs _ _ p Hp.out hpw hqw h1 h16 Hlen.out).mono ?_; rintro e w' ⟨rfl, rfl⟩)
      | (go_at_call 8; with_reducible (refine (cut_any _ _ us l _ _ hpw hb1.size h1 h16 h0 hl).mono ?_); rw [Hk.out]; rintro e w2 ⟨v2, rfl, hown2, hb2⟩; obtain ⟨A2, c2, rfl, hpa⟩ := hown2.pts; have hpw2 := hpw.below' hb2 hb1.size; have hqw2 := hqw.below' hb2 hb1.size; have hz2 := Nat.le_trans hb1.size hb2.size)
      | (go_at_call 8; with_reducible (refine (cut_any _ _ vs l _ _ hqw2 hz2 g1 g16 h0 hl).mono ?_); rw [Hk.out]; rintro e w3 ⟨v3, rfl, hown3, hb3⟩; obtain ⟨A3, c3, rfl, hpb⟩ := hown3.pts; have hpw3 := hpw2.below' hb3 hz2; have hqw3 := hqw2.below' hb3 hz2)
      | (go_at_call 17; with_reducible (refine (cmp_is _ _ _ _ us vs _ _ x Hx.out hpw3 hqw3 h1 h16 Hlen.out).mono ?_); rintro e w' ⟨rfl, rfl⟩)
      | (go_at_call 17; with_reducible (refine (cmp_is _ _ _ _ (Z.cut us k) (Z.cut vs k) _ _ y Hy.out (hpa.below hb3 hb3.size) hpb Hl1.out.1 Hl1.out.2.1 Hl1.out.2.2.1).mono ?_); rintro e w' ⟨rfl, rfl⟩)
      | (go_at_call 12; refine (rsame_yes _ _ _ _ (Z.cut us k) (Z.cut vs k) _ _ He.out (hpa.below hb3 hb3.size) hpb (Nat.le_refl _) Hl1.out.2.2.2).mono ?_; rintro e w4 ⟨rfl, hb4⟩))
    go_ret
    exact ⟨rfl, Below.andThen (Below.andThen (Below.andThen hb1 hb2) hb3) hb4⟩
  · have He : Hid (Z.cut us k ≠ Z.cut vs k) := Lib.hid (fun h => by have := hcut.1 h; omega)
    have hxy : (x == y) = true := by rw [beq_iff_eq, ← hx, ← hy]; exact (hcmp (by omega)).symm
    clear hcut hcmp hk hkl hpt hx hy hlen
    go_enter Try.func5, Try.ntmps5
    go_wp2_with (first
      | (go_at_call 6; refine (awake_c _).mono ?_; rintro e w1 ⟨rfl, hb1⟩; have hpw := hp.below' hb1 (Nat.le_refl _); have hqw := hq.below' hb1 (Nat.le_refl _))
      | (go_at_call 19; refine (ralike_yes _ _ _ _ _ _ _ h1 h16 Hlen.out).mono ?_; rintro e w' ⟨rfl, rfl⟩)
      | (go_at_call 18; refine (part_is _ _ _ _ us vs _ _ p Hp.out hpw hqw h1 h16 Hlen.out).mono ?_; rintro e w' ⟨rfl, rfl⟩)
      | (go_at_call 8; with_reducible (refine (cut_any _ _ us l _ _ hpw hb1.size h1 h16 h0 hl).mono ?_); rw [Hk.out]; rintro e w2 ⟨v2, rfl, hown2, hb2⟩; obtain ⟨A2, c2, rfl, hpa⟩ := hown2.pts; have hpw2 := hpw.below' hb2 hb1.size; have hqw2 := hqw.below' hb2 hb1.size; have hz2 := Nat.le_trans hb1.size hb2.size)
      | (go_at_call 8; with_reducible (refine (cut_any _ _ vs l _ _ hqw2 hz2 g1 g16 h0 hl).mono ?_); rw [Hk.out]; rintro e w3 ⟨v3, rfl, hown3, hb3⟩; obtain ⟨A3, c3, rfl, hpb⟩ := hown3.pts; have hpw3 := hpw2.below' hb3 hz2; have hqw3 := hqw2.below' hb3 hz2)
      | (go_at_call 17; with_reducible (refine (cmp_is _ _ _ _ us vs _ _ x Hx.out hpw3 hqw3 h1 h16 Hlen.out).mono ?_); rintro e w' ⟨rfl, rfl⟩)
      | (go_at_call 17; with_reducible (refine (cmp_is _ _ _ _ (Z.cut us k) (Z.cut vs k) _ _ y Hy.out (hpa.below hb3 hb3.size) hpb Hl1.out.1 Hl1.out.2.1 Hl1.out.2.2.1).mono ?_); rintro e w' ⟨rfl, rfl⟩)
      | (go_at_call 12; refine (rsame_no _ _ _ _ (Z.cut us k) (Z.cut vs k) _ _ He.out (hpa.below hb3 hb3.size) hpb (Nat.le_refl _) Hl1.out.2.2.2).mono ?_; rintro e w4 ⟨rfl, hb4⟩))
    go_ret
    exact ⟨ret_bool (by simp; omega), Below.andThen (Below.andThen (Below.andThen hb1 hb2) hb3) hb4⟩

/-- THE LAW's CALL, AT EVERY INPUT -/
theorem zbitsCuts_w (A B : Option Addr) (c d : Nat) (us vs : List Nat) (l : Int) (w : World) (hp : Pts w w.heap.size A us) (hq : Pts w w.heap.size B vs) (hm : us.length ≤ maxLen) :
    Calls Try.prog 5 #[.slice A us.length c, .slice B vs.length d, .int .i64 l] w fun e w' => e = .returned (.bool true) ∧ Below w.heap.size w w' := by
  by_cases ha : (1 ≤ us.length ∧ us.length ≤ 16) ∧ us.length = vs.length
  case neg => exact zbitsCuts_dim A B c d _ _ l w hm ha
  obtain ⟨⟨h1, h16⟩, hlen⟩ := ha
  by_cases hl : l < -1 ∨ 63 < l
  · exact zbitsCuts_lev A B c d _ _ l w h1 h16 hlen hl
  exact zbitsCuts_yes A B c d us vs l w hp hq h1 h16 hlen (by omega) (by omega)

end Go.Proofs.Ytbcdniphmklghaa
