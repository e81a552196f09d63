/-
  THE WALK of the law BoxMeets: whatever the two boxes and the point, the law's call returns true, and what was there stays.
-/
import Derived.Test.YtiifggchnpdonaaL3a
namespace Go.Proofs.Ytiifggchnpdonaa
open Go.ChangeShapes Go.WideShapes Go.ChangeAt Go.RowKit

set_option maxRecDepth 100000 in
theorem boxMeets_big (A A' C C' D : Option Addr) (n c n' c' m d m' d' q e : Nat) (w : World) (h1 : n ≤ maxLen) (h2 : n' ≤ maxLen) (h3 : m ≤ maxLen) (h4 : m' ≤ maxLen) (h5 : q ≤ maxLen) (hb : 40 < n ∨ 40 < n' ∨ 40 < m ∨ 40 < m' ∨ 40 < q) :
    Calls Try.prog 4 #[boxV A n c A' n' c', boxV C m d C' m' d', .slice D q e] w fun e w' => e = .returned (.bool true) ∧ Below w.heap.size w w' := by
  have Hb := Lib.hid (decide_eq_true hb)
  have Hm := Lib.hid (And.intro h1 (And.intro h2 (And.intro h3 (And.intro h4 h5))))
  clear hb h1 h2 h3 h4 h5
  have s0 := LSt.new A n c A' n' c' C m d C' m' d' w
  go_enter Try.func4, Try.ntmps4
  go_wp2_with fail
  refine (awake3_c _).mono ?_
  rintro e w1 ⟨rfl, hb1⟩
  have s1 := s0.step hb1
  obtain ⟨-, -, ⟨k0, k1⟩, ⟨k2, k3⟩⟩ := s1
  have s1 := s0.step hb1
  go_wp2_with fail
  refine (big_c A A' C C' D n c n' c' m d m' d' q _ true w1 Hm.out.1 Hm.out.2.1 Hm.out.2.2.1 Hm.out.2.2.2.1 Hm.out.2.2.2.2 Hb.out).mono ?_
  rintro e w2 ⟨rfl, hb2⟩
  have s2 := s1.step hb2
  go_wp2_with fail
  go_ret
  exact ⟨rfl, s2.1⟩

set_option maxRecDepth 100000 in
theorem boxMeets_na (A A' C C' D : Option Addr) (n c n' c' m d m' d' q e : Nat) (w : World) (h1 : n ≤ 40) (h2 : n' ≤ 40) (h3 : m ≤ 40) (h4 : m' ≤ 40) (h5 : q ≤ 40) (hr : ¬ ((1 ≤ n ∧ n ≤ 16) ∧ n = n')) :
    Calls Try.prog 4 #[boxV A n c A' n' c', boxV C m d C' m' d', .slice D q e] w fun e w' => e = .returned (.bool true) ∧ Below w.heap.size w w' := by
  have Hb : Hid (decide (40 < n ∨ 40 < n' ∨ 40 < m ∨ 40 < m' ∨ 40 < q) = false) := Lib.hid (decide_eq_false (by omega))
  have Hm : Hid (n ≤ maxLen ∧ n' ≤ maxLen ∧ m ≤ maxLen ∧ m' ≤ maxLen ∧ q ≤ maxLen) := Lib.hid (by unfold maxLen; omega)
  have Hr := Lib.hid hr
  clear hr
  have s0 := LSt.new A n c A' n' c' C m d C' m' d' w
  go_enter Try.func4, Try.ntmps4
  go_wp2_with fail
  refine (awake3_c _).mono ?_
  rintro e w1 ⟨rfl, hb1⟩
  have s1 := s0.step hb1
  obtain ⟨-, -, ⟨k0, k1⟩, ⟨k2, k3⟩⟩ := s1
  have s1 := s0.step hb1
  go_wp2_with fail
  refine (big_c A A' C C' D n c n' c' m d m' d' q _ false w1 Hm.out.1 Hm.out.2.1 Hm.out.2.2.1 Hm.out.2.2.2.1 Hm.out.2.2.2.2 Hb.out).mono ?_
  rintro e w2 ⟨rfl, hb2⟩
  have s2 := s1.step hb2
  obtain ⟨-, -, ⟨l0, l1⟩, ⟨l2, l3⟩⟩ := s2
  have s2 := s1.step hb2
  clear k0 k1 k2 k3
  go_wp2_with fail
  refine (r3right_n A A' n c n' c' w2 Hm.out.1 Hr.out).mono ?_
  rintro e w3 ⟨rfl, hb3⟩
  have s3 := s2.step hb3
  go_wp2_with fail
  go_ret
  exact ⟨rfl, s3.1⟩

set_option maxRecDepth 100000 in
theorem boxMeets_nb (A A' C C' D : Option Addr) (n c n' c' m d m' d' q e : Nat) (w : World) (h1 : 1 ≤ n) (h2 : n ≤ 16) (hn : n = n') (h3 : m ≤ 40) (h4 : m' ≤ 40) (h5 : q ≤ 40) (hr : ¬ ((1 ≤ m ∧ m ≤ 16) ∧ m = m')) :
    Calls Try.prog 4 #[boxV A n c A' n' c', boxV C m d C' m' d', .slice D q e] w fun e w' => e = .returned (.bool true) ∧ Below w.heap.size w w' := by
  have Hb : Hid (decide (40 < n ∨ 40 < n' ∨ 40 < m ∨ 40 < m' ∨ 40 < q) = false) := Lib.hid (decide_eq_false (by omega))
  have Hm : Hid (n ≤ maxLen ∧ n' ≤ maxLen ∧ m ≤ maxLen ∧ m' ≤ maxLen ∧ q ≤ maxLen) := Lib.hid (by unfold maxLen; omega)
  have Hr := Lib.hid hr
  have Hn := Lib.hid hn
  clear hr hn
  have s0 := LSt.new A n c A' n' c' C m d C' m' d' w
  go_enter Try.func4, Try.ntmps4
  go_wp2_with fail
  refine (awake3_c _).mono ?_
  rintro e w1 ⟨rfl, hb1⟩
  have s1 := s0.step hb1
  obtain ⟨-, -, ⟨k0, k1⟩, ⟨k2, k3⟩⟩ := s1
  have s1 := s0.step hb1
  go_wp2_with fail
  refine (big_c A A' C C' D n c n' c' m d m' d' q _ false w1 Hm.out.1 Hm.out.2.1 Hm.out.2.2.1 Hm.out.2.2.2.1 Hm.out.2.2.2.2 Hb.out).mono ?_
  rintro e w2 ⟨rfl, hb2⟩
  have s2 := s1.step hb2
  obtain ⟨-, -, ⟨l0, l1⟩, ⟨l2, l3⟩⟩ := s2
  have s2 := s1.step hb2
  clear k0 k1 k2 k3
  go_wp2_with fail
  refine (r3right_y A A' n c n' c' w2 h1 h2 Hn.out).mono ?_
  rintro e w3 ⟨rfl, hb3⟩
  have s3 := s2.step hb3
  obtain ⟨-, -, ⟨k0, k1⟩, ⟨k2, k3⟩⟩ := s3
  have s3 := s2.step hb3
  clear l0 l1 l2 l3
  go_wp2_with fail
  refine (r3right_n C C' m d m' d' w3 Hm.out.2.2.1 Hr.out).mono ?_
  rintro e w4 ⟨rfl, hb4⟩
  have s4 := s3.step hb4
  go_wp2_with fail
  go_ret
  exact ⟨rfl, s4.1⟩

set_option maxRecDepth 100000 in
theorem boxMeets_len (A A' C C' D : Option Addr) (n c n' c' m d m' d' q e : Nat) (w : World) (h1 : 1 ≤ n) (h2 : n ≤ 16) (hn : n = n') (h3 : 1 ≤ m) (h4 : m ≤ 16) (hm : m = m') (h5 : q ≤ 40) (hr : n ≠ m ∨ q ≠ n) :
    Calls Try.prog 4 #[boxV A n c A' n' c', boxV C m d C' m' d', .slice D q e] w fun e w' => e = .returned (.bool true) ∧ Below w.heap.size w w' := by
  have Hb : Hid (decide (40 < n ∨ 40 < n' ∨ 40 < m ∨ 40 < m' ∨ 40 < q) = false) := Lib.hid (decide_eq_false (by omega))
  have Hm : Hid (n ≤ maxLen ∧ n' ≤ maxLen ∧ m ≤ maxLen ∧ m' ≤ maxLen ∧ q ≤ maxLen) := Lib.hid (by unfold maxLen; omega)
  have Hn := Lib.hid hn
  have Hn2 := Lib.hid hm
  have hc : ((n : Int) != (m : Int)) = true ∨ (((n : Int) != (m : Int)) = false ∧ ((q : Int) != (n : Int)) = true) := by
    by_cases e : n = m
    · exact .inr ⟨by rw [bne_eq_false_iff_eq]; omega, by rw [bne_iff_ne]; omega⟩
    · exact .inl (by rw [bne_iff_ne]; omega)
  clear hr hn hm
  have s0 := LSt.new A n c A' n' c' C m d C' m' d' w
  go_enter Try.func4, Try.ntmps4
  go_wp2_with fail
  refine (awake3_c _).mono ?_
  rintro e w1 ⟨rfl, hb1⟩
  have s1 := s0.step hb1
  obtain ⟨-, -, ⟨k0, k1⟩, ⟨k2, k3⟩⟩ := s1
  have s1 := s0.step hb1
  go_wp2_with fail
  refine (big_c A A' C C' D n c n' c' m d m' d' q _ false w1 Hm.out.1 Hm.out.2.1 Hm.out.2.2.1 Hm.out.2.2.2.1 Hm.out.2.2.2.2 Hb.out).mono ?_
  rintro e w2 ⟨rfl, hb2⟩
  have s2 := s1.step hb2
  obtain ⟨-, -, ⟨l0, l1⟩, ⟨l2, l3⟩⟩ := s2
  have s2 := s1.step hb2
  clear k0 k1 k2 k3
  go_wp2_with fail
  refine (r3right_y A A' n c n' c' w2 h1 h2 Hn.out).mono ?_
  rintro e w3 ⟨rfl, hb3⟩
  have s3 := s2.step hb3
  obtain ⟨-, -, ⟨k0, k1⟩, ⟨k2, k3⟩⟩ := s3
  have s3 := s2.step hb3
  clear l0 l1 l2 l3
  go_wp2_with fail
  refine (r3right_y C C' m d m' d' w3 h3 h4 Hn2.out).mono ?_
  rintro e w4 ⟨rfl, hb4⟩
  have s4 := s3.step hb4
  obtain ⟨-, -, ⟨l0, l1⟩, ⟨l2, l3⟩⟩ := s4
  have s4 := s3.step hb4
  clear k0 k1 k2 k3
  rcases hc with g1 | ⟨g1, g2⟩
  · go_wp2_with fail
    go_ret
    exact ⟨rfl, s4.1⟩
  · go_wp2_with fail
    go_ret
    exact ⟨rfl, s4.1⟩

set_option maxRecDepth 100000 in
set_option maxHeartbeats 1600000 in
theorem boxMeets_yes (A A' C C' D : Option Addr) (c c' d d' e : Nat) (al ah bl bh us : List Nat) (w : World) (pa : Pts w w.heap.size A al) (pb : Pts w w.heap.size A' ah) (pc : Pts w w.heap.size C bl) (pd : Pts w w.heap.size C' bh) (pu : Pts w w.heap.size D us)
    (h1 : 1 ≤ al.length) (h2 : al.length ≤ 16) (e1 : al.length = ah.length) (e2 : al.length = bl.length) (e3 : bl.length = bh.length) (e4 : us.length = al.length) :
    Calls Try.prog 4 #[boxV A al.length c A' ah.length c', boxV C bl.length d C' bh.length d', .slice D us.length e] w fun e w' => e = .returned (.bool true) ∧ Below w.heap.size w w' := by
  have Hb : Hid (decide (40 < al.length ∨ 40 < ah.length ∨ 40 < bl.length ∨ 40 < bh.length ∨ 40 < us.length) = false) := Lib.hid (decide_eq_false (by omega))
  have Hm : Hid (al.length ≤ maxLen ∧ ah.length ≤ maxLen ∧ bl.length ≤ maxLen ∧ bh.length ≤ maxLen ∧ us.length ≤ maxLen) := Lib.hid (by unfold maxLen; omega)
  have h3 : 1 ≤ bl.length := by omega
  have h4 : bl.length ≤ 16 := by omega
  have f1 : ((al.length : Int) != (bl.length : Int)) = false := by rw [bne_eq_false_iff_eq]; omega
  have f2 : ((us.length : Int) != (al.length : Int)) = false := by rw [bne_eq_false_iff_eq]; omega
  obtain ⟨ml, hml⟩ : ∃ L, Bx.meetLo al bl = L := ⟨_, rfl⟩
  obtain ⟨mh, hmh⟩ : ∃ L, Bx.meetHi ah bh = L := ⟨_, rfl⟩
  obtain ⟨ra, hra⟩ : ∃ r, Bx.isin al ah us al.length = r := ⟨_, rfl⟩
  obtain ⟨rb, hrb⟩ : ∃ r, Bx.isin bl bh us bl.length = r := ⟨_, rfl⟩
  obtain ⟨v, hv⟩ : ∃ v, Bx.volume ml mh = v := ⟨_, rfl⟩
  obtain ⟨va, hva⟩ : ∃ v, Bx.volume al ah = v := ⟨_, rfl⟩
  obtain ⟨vb, hvb⟩ : ∃ v, Bx.volume bl bh = v := ⟨_, rfl⟩
  have n1 : ml.length = al.length := by rw [← hml, Bx.meetLo_length]
  have n2 : mh.length = al.length := by rw [← hmh, Bx.meetHi_length, e1]
  have hr : Bx.isin ml mh us ml.length = (ra && rb) := by
    rw [n1, ← hml, ← hmh, Bx.meet_isin rfl e1, hra, ← hrb, e2]
  have hvol := Bx.meet_volume (al := al) (ah := ah) (bl := bl) (bh := bh) e1 e3 e2
  rw [hml, hmh, hv, hva, hvb] at hvol
  obtain ⟨w1le, w2le⟩ := hvol
  have v1 : v ≤ 18446744073709551615 := by rw [← hv]; exact Bx.volume_le _ _
  have v2 : va ≤ 18446744073709551615 := by rw [← hva]; exact Bx.volume_le _ _
  have v3 : vb ≤ 18446744073709551615 := by rw [← hvb]; exact Bx.volume_le _ _
  have E : Hid (al.length = ah.length ∧ al.length = bl.length ∧ bl.length = bh.length ∧ us.length = al.length ∧ 1 ≤ ml.length ∧ ml.length ≤ 16 ∧ ml.length = mh.length ∧ ml.length = us.length) := Lib.hid ⟨e1, e2, e3, e4, by omega, by omega, by omega, by omega⟩
  have D1 : Hid ((Bx.meetLo al bl = ml ∧ Bx.meetHi ah bh = mh) ∧ (Bx.isin al ah us al.length = ra ∧ Bx.isin bl bh us bl.length = rb) ∧ (Bx.volume ml mh = v ∧ Bx.volume al ah = va ∧ Bx.volume bl bh = vb) ∧ Bx.isin ml mh us ml.length = (ra && rb)) :=
    Lib.hid ⟨⟨hml, hmh⟩, ⟨hra, hrb⟩, ⟨hv, hva, hvb⟩, hr⟩
  clear e1 e2 e3 e4 hml hmh hra hrb hv hva hvb n1 n2 hr
  have s0 := LSt.new A al.length c A' ah.length c' C bl.length d C' bh.length d' w
  go_enter Try.func4, Try.ntmps4
  go_wp2_with fail
  refine (awake3_c _).mono ?_
  rintro e w1 ⟨rfl, hb1⟩
  have s1 := s0.step hb1
  obtain ⟨-, -, ⟨k0, k1⟩, ⟨k2, k3⟩⟩ := s1
  have s1 := s0.step hb1
  go_wp2_with fail
  refine (big_c A A' C C' D al.length c ah.length c' bl.length d bh.length d' us.length _ false w1 Hm.out.1 Hm.out.2.1 Hm.out.2.2.1 Hm.out.2.2.2.1 Hm.out.2.2.2.2 Hb.out).mono ?_
  rintro e w2 ⟨rfl, hb2⟩
  have s2 := s1.step hb2
  obtain ⟨-, -, ⟨l0, l1⟩, ⟨l2, l3⟩⟩ := s2
  have s2 := s1.step hb2
  clear k0 k1 k2 k3
  go_wp2_with fail
  refine (r3right_y A A' al.length c ah.length c' w2 h1 h2 E.out.1).mono ?_
  rintro e w3 ⟨rfl, hb3⟩
  have s3 := s2.step hb3
  obtain ⟨-, -, ⟨k0, k1⟩, ⟨k2, k3⟩⟩ := s3
  have s3 := s2.step hb3
  clear l0 l1 l2 l3
  go_wp2_with fail
  refine (r3right_y C C' bl.length d bh.length d' w3 h3 h4 E.out.2.2.1).mono ?_
  rintro e w4 ⟨rfl, hb4⟩
  have s4 := s3.step hb4
  obtain ⟨-, -, ⟨l0, l1⟩, ⟨l2, l3⟩⟩ := s4
  have s4 := s3.step hb4
  clear k0 k1 k2 k3
  go_wp2_with fail
  refine (bmeet_yes A A' C C' c c' d d' al ah bl bh ml mh w.heap.size w4 D1.out.1.1 D1.out.1.2 (s4.pts pa) (s4.pts pb) (s4.pts pc) (s4.pts pd) s4.le h1 h2 E.out.1 E.out.2.1 E.out.2.2.1).mono ?_
  rintro e w5 ⟨A5, c5, A6, c6, rfl, p5, p6, hb5⟩
  have s5 := s4.step hb5
  have hal := below_alloc w5 (.cells #[.slice A5 ml.length c5, .slice A6 mh.length c6] 24)
  have s5b := s5.step hal
  obtain ⟨-, -, ⟨k0, k1⟩, ⟨k2, k3⟩⟩ := s5b
  have s5b := s5.step hal
  clear l0 l1 l2 l3
  go_wp2_with fail
  refine (bin_yes A5 A6 D c5 c6 _ ml mh us w5.heap.size _ (ra && rb) D1.out.2.2.2 (p5.below' hal (Nat.le_refl _)) (p6.below' hal (Nat.le_refl _)) ((s5b.pts pu).keep s5.le (fun _ _ => rfl)) (by simp) E.out.2.2.2.2.1 E.out.2.2.2.2.2.1 E.out.2.2.2.2.2.2.1 E.out.2.2.2.2.2.2.2).mono ?_
  rintro e w6 ⟨rfl, hb6⟩
  have s6 := s5b.step hb6
  have hb56 : Below w5.heap.size w5 w6 := Below.andThen hal hb6
  have hx6 := (boxAt_new w5 A5 ml.length c5 A6 mh.length c6).below hb6 (by simp)
  obtain ⟨m0, m1⟩ := hx6
  obtain ⟨-, -, ⟨l0, l1⟩, ⟨l2, l3⟩⟩ := s6
  have s6 := s5b.step hb6
  clear k0 k1 k2 k3
  go_wp2_with fail
  refine (bvolume_yes A5 A6 c5 c6 ml mh w5.heap.size w6 v D1.out.2.2.1.1 (p5.below' hb56 (Nat.le_refl _)) (p6.below' hb56 (Nat.le_refl _)) hb56.size E.out.2.2.2.2.1 E.out.2.2.2.2.2.1 E.out.2.2.2.2.2.2.1).mono ?_
  rintro e w7 ⟨rfl, hb7⟩
  have s7 := s6.step hb7
  obtain ⟨-, -, ⟨k0, k1⟩, ⟨k2, k3⟩⟩ := s7
  have s7 := s6.step hb7
  clear l0 l1 l2 l3 m0 m1
  go_wp2_with fail
  refine (r3in_c A A' D c c' _ al ah us w.heap.size w7 ra D1.out.2.1.1 (s7.pts pa) (s7.pts pb) (s7.pts pu) s7.le h1 h2 E.out.1 E.out.2.2.2.1.symm).mono ?_
  rintro e w8 ⟨rfl, hb8⟩
  have s8 := s7.step hb8
  obtain ⟨-, -, ⟨l0, l1⟩, ⟨l2, l3⟩⟩ := s8
  have s8 := s7.step hb8
  clear k0 k1 k2 k3
  cases ra
  · go_wp2_with fail
    refine (r3volume_c A A' c c' al ah w.heap.size w8 va D1.out.2.2.1.2.1 (s8.pts pa) (s8.pts pb) s8.le h1 h2 E.out.1).mono ?_
    rintro e w9 ⟨rfl, hb9⟩
    have s9 := s8.step hb9
    obtain ⟨-, -, ⟨k0, k1⟩, ⟨k2, k3⟩⟩ := s9
    have s9 := s8.step hb9
    clear l0 l1 l2 l3
    go_wp2_with fail
    refine (r3volume_c C C' d d' bl bh w.heap.size w9 vb D1.out.2.2.1.2.2 (s9.pts pc) (s9.pts pd) s9.le h3 h4 E.out.2.2.1).mono ?_
    rintro e w10 ⟨rfl, hb10⟩
    have s10 := s9.step hb10
    go_wp2_with fail
    go_ret
    exact ⟨ret_bool (by simp), s10.1⟩
  · go_wp2_with fail
    refine (r3in_c C C' D d d' _ bl bh us w.heap.size w8 rb D1.out.2.1.2 (s8.pts pc) (s8.pts pd) (s8.pts pu) s8.le h3 h4 E.out.2.2.1 (E.out.2.1.symm.trans E.out.2.2.2.1.symm)).mono ?_
    rintro e w8b ⟨rfl, hb8b⟩
    have s8b := s8.step hb8b
    obtain ⟨-, -, ⟨j0, j1⟩, ⟨j2, j3⟩⟩ := s8b
    have s8b := s8.step hb8b
    clear l0 l1 l2 l3
    have hrr : (rb == rb) = true := by simp
    go_wp2_with fail
    refine (r3volume_c A A' c c' al ah w.heap.size w8b va D1.out.2.2.1.2.1 (s8b.pts pa) (s8b.pts pb) s8b.le h1 h2 E.out.1).mono ?_
    rintro e w9 ⟨rfl, hb9⟩
    have s9 := s8b.step hb9
    obtain ⟨-, -, ⟨k0, k1⟩, ⟨k2, k3⟩⟩ := s9
    have s9 := s8b.step hb9
    clear j0 j1 j2 j3
    go_wp2_with fail
    refine (r3volume_c C C' d d' bl bh w.heap.size w9 vb D1.out.2.2.1.2.2 (s9.pts pc) (s9.pts pd) s9.le h3 h4 E.out.2.2.1).mono ?_
    rintro e w10 ⟨rfl, hb10⟩
    have s10 := s9.step hb10
    go_wp2_with fail
    go_ret
    exact ⟨ret_bool (by simp), s10.1⟩

/-- THE LAW's CALL, AT EVERY INPUT -/
theorem boxMeets_w (A A' C C' D : Option Addr) (c c' d d' e : Nat) (al ah bl bh us : List Nat) (w : World) (pa : Pts w w.heap.size A al) (pb : Pts w w.heap.size A' ah) (pc : Pts w w.heap.size C bl) (pd : Pts w w.heap.size C' bh) (pu : Pts w w.heap.size D us)
    (m1 : al.length ≤ maxLen) (m2 : ah.length ≤ maxLen) (m3 : bl.length ≤ maxLen) (m4 : bh.length ≤ maxLen) (m5 : us.length ≤ maxLen) :
    Calls Try.prog 4 #[boxV A al.length c A' ah.length c', boxV C bl.length d C' bh.length d', .slice D us.length e] w fun e w' => e = .returned (.bool true) ∧ Below w.heap.size w w' := by
  by_cases hb : 40 < al.length ∨ 40 < ah.length ∨ 40 < bl.length ∨ 40 < bh.length ∨ 40 < us.length
  · exact boxMeets_big A A' C C' D _ c _ c' _ d _ d' _ e w m1 m2 m3 m4 m5 hb
  by_cases ha : (1 ≤ al.length ∧ al.length ≤ 16) ∧ al.length = ah.length
  case neg => exact boxMeets_na A A' C C' D _ c _ c' _ d _ d' _ e w (by omega) (by omega) (by omega) (by omega) (by omega) ha
  by_cases hc : (1 ≤ bl.length ∧ bl.length ≤ 16) ∧ bl.length = bh.length
  case neg => exact boxMeets_nb A A' C C' D _ c _ c' _ d _ d' _ e w ha.1.1 ha.1.2 ha.2 (by omega) (by omega) (by omega) hc
  by_cases hl : al.length ≠ bl.length ∨ us.length ≠ al.length
  · exact boxMeets_len A A' C C' D _ c _ c' _ d _ d' _ e w ha.1.1 ha.1.2 ha.2 hc.1.1 hc.1.2 hc.2 (by omega) hl
  · exact boxMeets_yes A A' C C' D c c' d d' e al ah bl bh us w pa pb pc pd pu ha.1.1 ha.1.2 ha.2 (by omega) hc.2 (by omega)

end Go.Proofs.Ytiifggchnpdonaa
