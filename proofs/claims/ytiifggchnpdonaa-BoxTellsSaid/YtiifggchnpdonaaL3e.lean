/-
  FOR THE WALK of the law BoxTells: the calls on any box and any point, whatever they answer; the two easy cases.
-/
import Derived.Test.YtiifggchnpdonaaL3a
namespace Go.Proofs.Ytiifggchnpdonaa
open Go.ChangeShapes Go.WideShapes Go.ChangeAt Go.RowKit

/-- the law's blocks: the two boxes, and what Meet told, in block b -/
def L3St (A : Option Addr) (n c : Nat) (A' : Option Addr) (n' c' : Nat) (C : Option Addr) (m d : Nat) (C' : Option Addr) (m' d' : Nat) (A5 : Option Addr) (m1 c5 : Nat) (A6 : Option Addr) (m2 c6 b : Nat) (w wr : World) : Prop :=
  LSt A n c A' n' c' C m d C' m' d' w wr ∧ b < wr.heap.size ∧ BoxAt wr b A5 m1 c5 A6 m2 c6
theorem L3St.new {A : Option Addr} {n c : Nat} {A' : Option Addr} {n' c' : Nat} {C : Option Addr} {m d : Nat} {C' : Option Addr} {m' d' : Nat} {w wr : World} (A5 : Option Addr) (m1 c5 : Nat) (A6 : Option Addr) (m2 c6 : Nat) (h : LSt A n c A' n' c' C m d C' m' d' w wr) :
    L3St A n c A' n' c' C m d C' m' d' A5 m1 c5 A6 m2 c6 wr.heap.size w (wr.alloc (.cells #[.slice A5 m1 c5, .slice A6 m2 c6] 24)) :=
  ⟨h.step (below_alloc _ _), by simp, boxAt_new _ _ _ _ _ _ _⟩
theorem L3St.step {A : Option Addr} {n c : Nat} {A' : Option Addr} {n' c' : Nat} {C : Option Addr} {m d : Nat} {C' : Option Addr} {m' d' : Nat} {A5 : Option Addr} {m1 c5 : Nat} {A6 : Option Addr} {m2 c6 b : Nat} {w wr wx : World} (h : L3St A n c A' n' c' C m d C' m' d' A5 m1 c5 A6 m2 c6 b w wr) (hb : Below wr.heap.size wr wx) : L3St A n c A' n' c' C m d C' m' d' A5 m1 c5 A6 m2 c6 b w wx :=
  ⟨h.1.step hb, Nat.lt_of_lt_of_le h.2.1 hb.size, h.2.2.below hb h.2.1⟩

/-! ### what In, FarBox and Meet tell, of a right box and whatever point or box -/
theorem inIs_all {A A' D : Option Addr} {c c' e : Nat} {al ah us : List Nat} {w : World} (pa : Pts w w.heap.size A al) (pb : Pts w w.heap.size A' ah) (pu : Pts w w.heap.size D us) (h1 : 1 ≤ al.length) (h2 : al.length ≤ 16) (e1 : al.length = ah.length) :
    ∃ (ii : Bool) (gi : Nat), (∀ wx, Below w.heap.size w wx → Calls Try.prog 11 #[boxV A al.length c A' ah.length c', .slice D us.length e] wx fun e w' => e = .returned (.tuple #[.bool ii, .int .i64 (gi : Int)]) ∧ Below wx.heap.size wx w') ∧
      ((us.length ≠ al.length ∧ ii = false ∧ gi = 2) ∨ (us.length = al.length ∧ Bx.isin al ah us al.length = ii ∧ gi = 0)) := by
  by_cases h : us.length = al.length
  · exact ⟨_, 0, fun wx hb => bin_yes A A' D c c' e al ah us w.heap.size wx _ rfl (pa.below' hb (Nat.le_refl _)) (pb.below' hb (Nat.le_refl _)) (pu.below' hb (Nat.le_refl _)) hb.size h1 h2 e1 h.symm, .inr ⟨h, rfl, rfl⟩⟩
  · exact ⟨false, 2, fun wx _ => bin_len A A' D al.length c ah.length c' us.length e wx h1 h2 e1 (fun k => h k.symm), .inl ⟨h, rfl, rfl⟩⟩
theorem farBoxIs_all {A A' D : Option Addr} {c c' e : Nat} {al ah us : List Nat} {w : World} (pa : Pts w w.heap.size A al) (pb : Pts w w.heap.size A' ah) (pu : Pts w w.heap.size D us) (h1 : 1 ≤ al.length) (h2 : al.length ≤ 16) (e1 : al.length = ah.length) :
    ∃ (dd gd : Nat), (∀ wx, Below w.heap.size w wx → Calls Try.prog 13 #[boxV A al.length c A' ah.length c', .slice D us.length e] wx fun e w' => e = .returned (.tuple #[.int .u64 (dd : Int), .int .i64 (gd : Int)]) ∧ Below wx.heap.size wx w') ∧
      dd < 18446744073709551616 ∧ (us.length ≠ al.length → dd = 0 ∧ gd = 2) ∧ (us.length = al.length → Bx.emp al ah al.length = false → dd = Bx.far us (Bx.near al ah us) us.length ∧ gd = 0) ∧ (us.length = al.length → Bx.emp al ah al.length = true → dd = 0 ∧ gd = 3) := by
  by_cases h : us.length = al.length
  · by_cases he : Bx.emp al ah al.length = true
    · exact ⟨0, 3, fun wx hb => bfarBox_emp A A' D c c' us.length e al ah w.heap.size wx he (pa.below' hb (Nat.le_refl _)) (pb.below' hb (Nat.le_refl _)) hb.size h1 h2 e1 h.symm, by omega, fun k => absurd h k, fun _ k => (by rw [he] at k; cases k), fun _ _ => ⟨rfl, rfl⟩⟩
    · have he' : Bx.emp al ah al.length = false := by simpa using he
      exact ⟨_, 0, fun wx hb => bfarBox_yes A A' D c c' e al ah us w.heap.size wx _ rfl he' (pa.below' hb (Nat.le_refl _)) (pb.below' hb (Nat.le_refl _)) (pu.below' hb (Nat.le_refl _)) hb.size h1 h2 e1 h.symm, Bx.far_lt pu.ok (Bx.near_ok pb.ok) _, fun k => absurd h k, fun _ _ => ⟨rfl, rfl⟩, fun _ k => absurd k he⟩
  · exact ⟨0, 2, fun wx _ => bfarBox_len A A' D al.length c ah.length c' us.length e wx h1 h2 e1 (fun k => h k.symm), by omega, fun _ => ⟨rfl, rfl⟩, fun k => absurd k h, fun k => absurd k h⟩
theorem meetIs_nb {A A' C C' : Option Addr} {n c n' c' m d m' d' : Nat} {w : World} (h1 : 1 ≤ n) (h2 : n ≤ 16) (e1 : n = n') (hm : m ≤ 40) (hr : ¬ ((1 ≤ m ∧ m ≤ 16) ∧ m = m')) :
    ∀ wx, Below w.heap.size w wx → Calls Try.prog 12 #[boxV A n c A' n' c', boxV C m d C' m' d'] wx fun e w' => ∃ A5 c5 A6 c6, e = .returned (.tuple #[.agg #[.slice A5 0 c5, .slice A6 0 c6], .int .i64 2]) ∧ Below wx.heap.size wx w' :=
  fun wx _ => (bmeet_no2 A A' C C' n c n' c' m d m' d' wx h1 h2 e1 (by unfold maxLen; omega) hr).mono fun _ _ ⟨h, k⟩ => ⟨_, _, _, _, h, k⟩
theorem meetIs_len {A A' C C' : Option Addr} {n c n' c' m d m' d' : Nat} {w : World} (h1 : 1 ≤ n) (h2 : n ≤ 16) (e1 : n = n') (r1 : 1 ≤ m) (r2 : m ≤ 16) (r3 : m = m') (r4 : n ≠ m) :
    ∀ wx, Below w.heap.size w wx → Calls Try.prog 12 #[boxV A n c A' n' c', boxV C m d C' m' d'] wx fun e w' => ∃ A5 c5 A6 c6, e = .returned (.tuple #[.agg #[.slice A5 0 c5, .slice A6 0 c6], .int .i64 2]) ∧ Below wx.heap.size wx w' :=
  fun wx _ => (bmeet_len A A' C C' n c n' c' m d m' d' wx h1 h2 e1 r1 r2 r3 r4).mono fun _ _ ⟨h, k⟩ => ⟨_, _, _, _, h, k⟩
theorem meetIs_yes {A A' C C' : Option Addr} {c c' d d' : Nat} {al ah bl bh : List Nat} {w : World} (pa : Pts w w.heap.size A al) (pb : Pts w w.heap.size A' ah) (pc : Pts w w.heap.size C bl) (pd : Pts w w.heap.size C' bh) (h1 : 1 ≤ al.length) (h2 : al.length ≤ 16) (e1 : al.length = ah.length) (e2 : al.length = bl.length) (e3 : bl.length = bh.length) :
    ∀ wx, Below w.heap.size w wx → Calls Try.prog 12 #[boxV A al.length c A' ah.length c', boxV C bl.length d C' bh.length d'] wx fun e w' => ∃ A5 c5 A6 c6, e = .returned (.tuple #[.agg #[.slice A5 al.length c5, .slice A6 al.length c6], .int .i64 0]) ∧ Below wx.heap.size wx w' :=
  fun wx hb => (bmeet_own A A' C C' c c' d d' al ah bl bh w.heap.size wx (pa.below' hb (Nat.le_refl _)) (pb.below' hb (Nat.le_refl _)) (pc.below' hb (Nat.le_refl _)) (pd.below' hb (Nat.le_refl _)) hb.size h1 h2 e1 e2 e3).mono fun _ _ ⟨_, _, h, _, _, k⟩ => ⟨_, _, _, _, h, k⟩

set_option maxRecDepth 100000 in
theorem boxTells_big (A A' C C' D : Option Addr) (n c n' c' m d m' d' q e : Nat) (w : World) (h1 : n ≤ maxLen) (h2 : n' ≤ maxLen) (h3 : m ≤ maxLen) (h4 : m' ≤ maxLen) (h5 : q ≤ maxLen) (hb : 40 < n ∨ 40 < n' ∨ 40 < m ∨ 40 < m' ∨ 40 < q) :
    Calls Try.prog 3 #[boxV A n c A' n' c', boxV C m d C' m' d', .slice D q e] w fun e w' => e = .returned (.bool true) ∧ Below w.heap.size w w' := by
  have Hb := Lib.hid (decide_eq_true hb)
  have Hm := Lib.hid (And.intro h1 (And.intro h2 (And.intro h3 (And.intro h4 h5))))
  clear hb h1 h2 h3 h4 h5
  have s0 := LSt.new A n c A' n' c' C m d C' m' d' w
  go_enter Try.func3, Try.ntmps3
  go_wp2_with fail
  refine (awake3_c _).mono ?_
  rintro e w1 ⟨rfl, hb1⟩
  have s1 := s0.step hb1
  obtain ⟨-, -, ⟨k0, k1⟩, ⟨k2, k3⟩⟩ := s1
  have s1 := s0.step hb1
  go_wp2_with fail
  refine (big_c A A' C C' D n c n' c' m d m' d' q _ true w1 Hm.out.1 Hm.out.2.1 Hm.out.2.2.1 Hm.out.2.2.2.1 Hm.out.2.2.2.2 Hb.out).mono ?_
  rintro e w2 ⟨rfl, hb2⟩
  have s2 := s1.step hb2
  go_wp2_with fail
  go_ret
  exact ⟨rfl, s2.1⟩

set_option maxRecDepth 100000 in
set_option maxHeartbeats 1600000 in
theorem boxTells_na (A A' C C' D : Option Addr) (n c n' c' m d m' d' q e : Nat) (w : World) (h1 : n ≤ 40) (h2 : n' ≤ 40) (h3 : m ≤ 40) (h4 : m' ≤ 40) (h5 : q ≤ 40) (hr : ¬ ((1 ≤ n ∧ n ≤ 16) ∧ n = n')) :
    Calls Try.prog 3 #[boxV A n c A' n' c', boxV C m d C' m' d', .slice D q e] w fun e w' => e = .returned (.bool true) ∧ Below w.heap.size w w' := by
  have Hb : Hid (decide (40 < n ∨ 40 < n' ∨ 40 < m ∨ 40 < m' ∨ 40 < q) = false) := Lib.hid (decide_eq_false (by omega))
  have Hm : Hid (n ≤ maxLen ∧ n' ≤ maxLen ∧ m ≤ maxLen ∧ m' ≤ maxLen ∧ q ≤ maxLen) := Lib.hid (by unfold maxLen; omega)
  have Hr := Lib.hid hr
  clear hr
  have s0 := LSt.new A n c A' n' c' C m d C' m' d' w
  go_enter Try.func3, Try.ntmps3
  go_wp2_with fail
  refine (awake3_c _).mono ?_
  rintro e w1 ⟨rfl, hb1⟩
  have s1 := s0.step hb1
  obtain ⟨-, -, ⟨k0, k1⟩, ⟨k2, k3⟩⟩ := s1
  have s1 := s0.step hb1
  go_wp2_with fail
  refine (big_c A A' C C' D n c n' c' m d m' d' q _ false w1 Hm.out.1 Hm.out.2.1 Hm.out.2.2.1 Hm.out.2.2.2.1 Hm.out.2.2.2.2 Hb.out).mono ?_
  rintro e w2 ⟨rfl, hb2⟩
  have s2 := s1.step hb2
  obtain ⟨-, -, ⟨l0, l1⟩, ⟨l2, l3⟩⟩ := s2
  have s2 := s1.step hb2
  clear k0 k1 k2 k3
  go_wp2_with fail
  refine (bempty_no A A' n c n' c' w2 Hm.out.1 Hr.out).mono ?_
  rintro e w3 ⟨rfl, hb3⟩
  have s3 := s2.step hb3
  obtain ⟨-, -, ⟨k0, k1⟩, ⟨k2, k3⟩⟩ := s3
  have s3 := s2.step hb3
  clear l0 l1 l2 l3
  go_wp2_with fail
  refine (bvolume_no A A' n c n' c' w3 Hm.out.1 Hr.out).mono ?_
  rintro e w4 ⟨rfl, hb4⟩
  have s4 := s3.step hb4
  obtain ⟨-, -, ⟨l0, l1⟩, ⟨l2, l3⟩⟩ := s4
  have s4 := s3.step hb4
  clear k0 k1 k2 k3
  go_wp2_with fail
  refine (bin_no A A' D n c n' c' q _ w4 Hm.out.1 Hr.out).mono ?_
  rintro e w5 ⟨rfl, hb5⟩
  have s5 := s4.step hb5
  obtain ⟨-, -, ⟨k0, k1⟩, ⟨k2, k3⟩⟩ := s5
  have s5 := s4.step hb5
  clear l0 l1 l2 l3
  go_wp2_with fail
  refine (bmeet_no1 A A' C C' n c n' c' m d m' d' w5 Hm.out.1 Hr.out).mono ?_
  rintro e w6 ⟨rfl, hb6⟩
  have z6 := L3St.new none 0 0 none 0 0 (s5.step hb6)
  obtain ⟨⟨-, -, ⟨l0, l1⟩, ⟨l2, l3⟩⟩, -, ⟨x0, x1⟩⟩ := z6
  have z6 := L3St.new none 0 0 none 0 0 (s5.step hb6)
  clear k0 k1 k2 k3
  go_wp2_with fail
  refine (bfarBox_no A A' D n c n' c' q _ _ Hm.out.1 Hr.out).mono ?_
  rintro e w7 ⟨rfl, hb7⟩
  have z7 := z6.step hb7
  obtain ⟨⟨-, -, ⟨k0, k1⟩, ⟨k2, k3⟩⟩, -, ⟨y0, y1⟩⟩ := z7
  have z7 := z6.step hb7
  clear l0 l1 l2 l3 x0 x1
  go_wp2_with fail
  refine (r3right_n A A' n c n' c' w7 Hm.out.1 Hr.out).mono ?_
  rintro e w8 ⟨rfl, hb8⟩
  have z8 := z7.step hb8
  obtain ⟨⟨-, -, ⟨l0, l1⟩, ⟨l2, l3⟩⟩, -, ⟨x0, x1⟩⟩ := z8
  have z8 := z7.step hb8
  clear k0 k1 k2 k3 y0 y1
  go_wp2_with fail
  refine (bright_n A A' n c n' c' w8 Hm.out.1 Hr.out).mono ?_
  rintro e w9 ⟨rfl, hb9⟩
  have z9 := z8.step hb9
  obtain ⟨⟨-, -, ⟨k0, k1⟩, ⟨k2, k3⟩⟩, -, ⟨y0, y1⟩⟩ := z9
  have z9 := z8.step hb9
  clear l0 l1 l2 l3 x0 x1
  go_wp2_with fail
  go_ret
  exact ⟨rfl, z9.1.1⟩

end Go.Proofs.Ytiifggchnpdonaa
