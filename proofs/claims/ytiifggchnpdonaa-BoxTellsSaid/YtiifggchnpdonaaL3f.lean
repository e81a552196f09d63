/-
  THE WALK of the law BoxTells, the second box not right.
-/
import Derived.Test.YtiifggchnpdonaaL3e
namespace Go.Proofs.Ytiifggchnpdonaa
open Go.ChangeShapes Go.WideShapes Go.ChangeAt Go.RowKit
set_option linter.unusedVariables false

set_option maxRecDepth 100000 in
set_option maxHeartbeats 3200000 in
theorem boxTells_nb (A A' C C' D : Option Addr) (c c' d d' e : Nat) (al ah bl bh us : List Nat) (w : World) (pa : Pts w w.heap.size A al) (pb : Pts w w.heap.size A' ah) (pc : Pts w w.heap.size C bl) (pd : Pts w w.heap.size C' bh) (pu : Pts w w.heap.size D us)
    (h1 : 1 ≤ al.length) (h2 : al.length ≤ 16) (e1 : al.length = ah.length) (hbl : bl.length ≤ 40) (hbh : bh.length ≤ 40) (hul : us.length ≤ 40) (hr : ¬ ((1 ≤ bl.length ∧ bl.length ≤ 16) ∧ bl.length = bh.length)) :
    Calls Try.prog 3 #[boxV A al.length c A' ah.length c', boxV C bl.length d C' bh.length d', .slice D us.length e] w fun e w' => e = .returned (.bool true) ∧ Below w.heap.size w w' := by
  have Hb : Hid (decide (40 < al.length ∨ 40 < ah.length ∨ 40 < bl.length ∨ 40 < bh.length ∨ 40 < us.length) = false) := Lib.hid (decide_eq_false (by omega))
  have Hm : Hid (al.length ≤ maxLen ∧ ah.length ≤ maxLen ∧ bl.length ≤ maxLen ∧ bh.length ≤ maxLen ∧ us.length ≤ maxLen) := Lib.hid (by unfold maxLen; omega)
  have g1 : 1 ≤ ah.length := by omega
  have g2 : ah.length ≤ 16 := by omega
  obtain ⟨em, hem⟩ : ∃ r, Bx.emp al ah al.length = r := ⟨_, rfl⟩
  obtain ⟨va, hva⟩ : ∃ v, Bx.volume al ah = v := ⟨_, rfl⟩
  have v1 : va ≤ 18446744073709551615 := by rw [← hva]; exact Bx.volume_le _ _
  have hmeet := meetIs_nb (A := A) (A' := A') (C := C) (C' := C') (c := c) (c' := c') (d := d) (d' := d') (w := w) (m' := bh.length) h1 h2 e1 hbl hr
  obtain ⟨ii, gi, hin, hincase⟩ := inIs_all (c := c) (c' := c') (e := e) pa pb pu h1 h2 e1
  obtain ⟨dd, gd, hfar, hfarcase⟩ := farBoxIs_all (c := c) (c' := c') (e := e) pa pb pu h1 h2 e1
  have hdd : dd < 18446744073709551616 := hfarcase.1
  have He1 := Lib.hid e1
  have Hem := Lib.hid hem
  have Hva := Lib.hid hva
  have Hmeet := Lib.hid hmeet
  have Hin := Lib.hid hin
  have Hinc := Lib.hid hincase
  have Hfar := Lib.hid hfar
  have Hfarc := Lib.hid hfarcase.2
  have Hr := Lib.hid hr
  clear e1 hem hva hmeet hin hincase hfar hfarcase hr
  have s0 := LSt.new A al.length c A' ah.length c' C bl.length d C' bh.length d' w
  go_enter Try.func3, Try.ntmps3
  go_wp2_with fail
  refine (awake3_c _).mono ?_
  rintro e w1 ⟨rfl, hb1⟩
  have s1 := s0.step hb1
  obtain ⟨-, -, ⟨k0, k1⟩, ⟨k2, k3⟩⟩ := s1
  have s1 := s0.step hb1
  go_wp2_with fail
  refine (big_c A A' C C' D al.length c ah.length c' bl.length d bh.length d' us.length _ false w1 Hm.out.1 Hm.out.2.1 Hm.out.2.2.1 Hm.out.2.2.2.1 Hm.out.2.2.2.2 Hb.out).mono ?_
  rintro e w2 ⟨rfl, hb2⟩
  have s2 := s1.step hb2
  obtain ⟨-, -, ⟨l0, l1⟩, ⟨l2, l3⟩⟩ := s2
  have s2 := s1.step hb2
  clear k0 k1 k2 k3
  go_wp2_with fail
  refine (bempty_yes A A' c c' al ah w.heap.size w2 em Hem.out (s2.pts pa) (s2.pts pb) s2.le h1 h2 He1.out).mono ?_
  rintro e w3 ⟨rfl, hb3⟩
  have s3 := s2.step hb3
  obtain ⟨-, -, ⟨k0, k1⟩, ⟨k2, k3⟩⟩ := s3
  have s3 := s2.step hb3
  clear l0 l1 l2 l3
  go_wp2_with fail
  refine (bvolume_yes A A' c c' al ah w.heap.size w3 va Hva.out (s3.pts pa) (s3.pts pb) s3.le h1 h2 He1.out).mono ?_
  rintro e w4 ⟨rfl, hb4⟩
  have s4 := s3.step hb4
  obtain ⟨-, -, ⟨l0, l1⟩, ⟨l2, l3⟩⟩ := s4
  have s4 := s3.step hb4
  clear k0 k1 k2 k3
  go_wp2_with fail
  refine (Hin.out w4 s4.1).mono ?_
  rintro e w5 ⟨rfl, hb5⟩
  have s5 := s4.step hb5
  obtain ⟨-, -, ⟨k0, k1⟩, ⟨k2, k3⟩⟩ := s5
  have s5 := s4.step hb5
  clear l0 l1 l2 l3
  go_wp2_with fail
  refine (Hmeet.out w5 s5.1).mono ?_
  rintro e w6 ⟨A5, c5, A6, c6, rfl, hb6⟩
  have s6 := s5.step hb6
  have z6 := L3St.new A5 0 c5 A6 0 c6 s6
  obtain ⟨⟨-, -, ⟨l0, l1⟩, ⟨l2, l3⟩⟩, -, ⟨x0, x1⟩⟩ := z6
  have z6 := L3St.new A5 0 c5 A6 0 c6 s6
  clear k0 k1 k2 k3
  go_wp2_with fail
  refine (Hfar.out _ z6.1.1).mono ?_
  rintro e w7 ⟨rfl, hb7⟩
  have z7 := z6.step hb7
  obtain ⟨⟨-, -, ⟨k0, k1⟩, ⟨k2, k3⟩⟩, -, ⟨y0, y1⟩⟩ := z7
  have z7 := z6.step hb7
  clear l0 l1 l2 l3 x0 x1
  go_wp2_with fail
  refine (r3right_y A A' al.length c ah.length c' w7 h1 h2 He1.out).mono ?_
  rintro e w8 ⟨rfl, hb8⟩
  have z8 := z7.step hb8
  obtain ⟨⟨-, -, ⟨l0, l1⟩, ⟨l2, l3⟩⟩, -, ⟨x0, x1⟩⟩ := z8
  have z8 := z7.step hb8
  clear k0 k1 k2 k3 y0 y1
  go_wp2_with fail
  refine (bright_y A A' al.length c ah.length c' w8 h1 h2 He1.out).mono ?_
  rintro e w9 ⟨rfl, hb9⟩
  have z9 := z8.step hb9
  obtain ⟨⟨-, -, ⟨k0, k1⟩, ⟨k2, k3⟩⟩, -, ⟨y0, y1⟩⟩ := z9
  have z9 := z8.step hb9
  clear l0 l1 l2 l3 x0 x1
  go_wp2_with fail
  refine (r3empty_c A A' c c' al ah w.heap.size w9 em Hem.out (z9.1.pts pa) (z9.1.pts pb) z9.1.le h1 h2 He1.out).mono ?_
  rintro e w10 ⟨rfl, hb10⟩
  have z10 := z9.step hb10
  obtain ⟨⟨-, -, ⟨l0, l1⟩, ⟨l2, l3⟩⟩, -, ⟨x0, x1⟩⟩ := z10
  have z10 := z9.step hb10
  clear k0 k1 k2 k3 y0 y1
  have hemb : (em != em) = false := by simp
  go_wp2_with fail
  refine (r3volume_c A A' c c' al ah w.heap.size w10 va Hva.out (z10.1.pts pa) (z10.1.pts pb) z10.1.le h1 h2 He1.out).mono ?_
  rintro e w11 ⟨rfl, hb11⟩
  have z11 := z10.step hb11
  obtain ⟨⟨-, -, ⟨k0, k1⟩, ⟨k2, k3⟩⟩, -, ⟨y0, y1⟩⟩ := z11
  have z11 := z10.step hb11
  clear l0 l1 l2 l3 x0 x1
  go_wp2_with fail
  refine (r3right_n C C' bl.length d bh.length d' w11 Hm.out.2.2.1 Hr.out).mono ?_
  rintro e w12 ⟨rfl, hb12⟩
  have z12 := z11.step hb12
  obtain ⟨⟨-, -, ⟨l0, l1⟩, ⟨l2, l3⟩⟩, -, ⟨x0, x1⟩⟩ := z12
  have z12 := z11.step hb12
  clear k0 k1 k2 k3 y0 y1
  rcases Hinc.out with ⟨hlen, rfl, rfl⟩ | ⟨hlen, hii, rfl⟩
  · obtain ⟨hd0, hg0⟩ := Hfarc.out.1 hlen
    subst hd0 hg0
    have f1 : ((us.length : Int) != (al.length : Int)) = true := by rw [bne_iff_ne]; omega
    go_wp2_with fail
    go_ret
    exact ⟨rfl, z12.1.1⟩
  have f1 : ((us.length : Int) != (al.length : Int)) = false := by rw [bne_eq_false_iff_eq]; omega
  have hiib : (ii != ii) = false := by simp
  have Hii := Lib.hid hii
  have Hlen := Lib.hid hlen
  clear hii hlen
  go_wp2_with fail
  refine (r3in_c A A' D c c' _ al ah us w.heap.size w12 ii Hii.out (z12.1.pts pa) (z12.1.pts pb) (z12.1.pts pu) z12.1.le h1 h2 He1.out Hlen.out.symm).mono ?_
  rintro e w13 ⟨rfl, hb13⟩
  have z13 := z12.step hb13
  obtain ⟨⟨-, -, ⟨k0, k1⟩, ⟨k2, k3⟩⟩, -, -⟩ := z13
  have z13 := z12.step hb13
  clear l0 l1 l2 l3 x0 x1
  cases em
  · obtain ⟨hd0, hg0⟩ := Hfarc.out.2.1 Hlen.out Hem.out
    have Hd0 := Lib.hid hd0
    subst hg0
    clear hd0
    go_wp2_with fail
    refine (r3near_c A A' D c c' _ al ah us w.heap.size w13 Hem.out (z13.1.pts pa) (z13.1.pts pb) (z13.1.pts pu) z13.1.le h1 h2 He1.out Hlen.out.symm).mono ?_
    rintro e w14 ⟨v14, rfl, own14, hb14⟩
    obtain ⟨A7, c7, rfl, p7⟩ := own14.pts
    have z14 := z13.step hb14
    go_wp2_with fail
    refine (r3far_c D A7 _ c7 us (Bx.near al ah us) w14.heap.size w14 dd Hd0.out.symm ((z14.1.pts pu).keep z14.1.le (fun _ _ => rfl)) p7 (by have := Hlen.out; omega) (by have := Hlen.out; omega) (Bx.near_length al ah us).symm).mono ?_
    rintro e w15 ⟨rfl, hb15⟩
    have z15 := z14.step hb15
    go_wp2_with fail
    go_ret
    exact ⟨ret_bool (by simp), z15.1.1⟩
  · obtain ⟨hd0, hg0⟩ := Hfarc.out.2.2 Hlen.out Hem.out
    subst hd0 hg0
    go_wp2_with fail
    go_ret
    exact ⟨rfl, z13.1.1⟩

end Go.Proofs.Ytiifggchnpdonaa
