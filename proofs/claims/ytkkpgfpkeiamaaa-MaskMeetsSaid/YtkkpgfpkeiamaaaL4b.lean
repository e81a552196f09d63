/-
  THE WALK of the law MaskMeets.
-/
import Derived.Test.YtkkpgfpkeiamaaaL4a
import Derived.Test.YtkkpgfpkeiamaaaRm1
import Derived.BigQuiet
namespace Go.Proofs.Ytkkpgfpkeiamaaa
open Go.ChangeShapes Go.WideShapes Go.ChangeAt Go.RowKit

set_option maxRecDepth 100000 in
theorem maskMeets_nr (A C C' : Option Addr) (n c m d m' d' : Nat) (l a : Int) (w : World) (hm : m ≤ maxLen) (h : ¬ ((1 ≤ m ∧ m ≤ 16) ∧ m = m')) :
    Calls Try.prog 5 #[.slice A n c, .int .i64 l, boxV C m d C' m' d', .int .i64 a] w fun e w' => e = .returned (.bool true) ∧ Below w.heap.size w w' := by
  have s0 := BSt.new C m d C' m' d' w
  have H := Lib.hid (And.intro hm h)
  clear h hm
  go_enter Try.func5, Try.ntmps5
  go_wp2_with fail
  refine (awake4_c _).mono ?_
  rintro e w1 ⟨rfl, hb1⟩
  have s1 := s0.step hb1
  have s1' := s1
  obtain ⟨-, ⟨q0, q1⟩, -⟩ := s1'
  go_wp2_with fail
  refine (r3right_n C C' m d m' d' _ H.out.1 H.out.2).mono ?_
  rintro e w2 ⟨rfl, hb2⟩
  have s2 := s1.step hb2
  go_wp2_with fail
  go_ret
  exact ⟨rfl, s2.1⟩
set_option maxRecDepth 100000 in
theorem maskMeets_len (A C C' : Option Addr) (n c m d m' d' : Nat) (l a : Int) (w : World) (h1 : 1 ≤ m) (h16 : m ≤ 16) (h : m = m') (hn : n ≠ m) :
    Calls Try.prog 5 #[.slice A n c, .int .i64 l, boxV C m d C' m' d', .int .i64 a] w fun e w' => e = .returned (.bool true) ∧ Below w.heap.size w w' := by
  have s0 := BSt.new C m d C' m' d' w
  have H := Lib.hid h
  have hne : ((n : Int) != (m : Int)) = true := by rw [bne_iff_ne]; omega
  clear h hn
  go_enter Try.func5, Try.ntmps5
  go_wp2_with fail
  refine (awake4_c _).mono ?_
  rintro e w1 ⟨rfl, hb1⟩
  have s1 := s0.step hb1
  have s1' := s1
  obtain ⟨-, ⟨q0, q1⟩, -⟩ := s1'
  go_wp2_with fail
  refine (r3right_y C C' m d m' d' _ h1 h16 H.out).mono ?_
  rintro e w2 ⟨rfl, hb2⟩
  have s2 := s1.step hb2
  have s2' := s2
  clear q0 q1
  obtain ⟨-, ⟨q0, q1⟩, -⟩ := s2'
  go_wp2_with fail
  go_ret
  exact ⟨rfl, s2.1⟩
set_option maxRecDepth 100000 in
theorem maskMeets_out (A C C' : Option Addr) (n c m d m' d' : Nat) (l a : Int) (w : World) (h1 : 1 ≤ m) (h16 : m ≤ 16) (h : m = m') (hn : n = m) (hx : l < 0 ∨ 63 < l ∨ a < 0 ∨ ((2 ^ n : Nat) : Int) ≤ a) :
    Calls Try.prog 5 #[.slice A n c, .int .i64 l, boxV C m d C' m' d', .int .i64 a] w fun e w' => e = .returned (.bool true) ∧ Below w.heap.size w w' := by
  have s0 := BSt.new C m d C' m' d' w
  have H := Lib.hid h
  have hne : ((n : Int) != (m : Int)) = false := by rw [bne_eq_false_iff_eq]; omega
  have hn16 : n ≤ 16 := by omega
  have hp := pow16 hn16
  obtain ⟨P, hP⟩ : ∃ P, 2 ^ n = P := ⟨_, rfl⟩
  rw [hP] at hx hp
  have HP := Lib.hid hP
  obtain ⟨x1, x2, x3, x4, k1, k2, k3, k4, hx⟩ : ∃ x1 x2 x3 x4 : Bool, decide (l < 0) = x1 ∧ decide (63 < l) = x2 ∧ decide (a < 0) = x3 ∧ decide ((P : Int) ≤ a) = x4 ∧ (x1 || (x2 || (x3 || x4))) = true := ⟨_, _, _, _, rfl, rfl, rfl, rfl, by simpa using hx⟩
  clear h hn hP
  go_enter Try.func5, Try.ntmps5
  go_wp2_with fail
  refine (awake4_c _).mono ?_
  rintro e w1 ⟨rfl, hb1⟩
  have s1 := s0.step hb1
  have s1' := s1
  obtain ⟨-, ⟨q0, q1⟩, -⟩ := s1'
  go_wp2_with fail
  refine (r3right_y C C' m d m' d' _ h1 h16 H.out).mono ?_
  rintro e w2 ⟨rfl, hb2⟩
  have s2 := s1.step hb2
  have s2' := s2
  clear q0 q1
  obtain ⟨-, ⟨q0, q1⟩, -⟩ := s2'
  cases x1
  · cases x2
    · cases x3
      · have hx4 : x4 = true := by simpa using hx
        subst hx4
        clear hx
        go_wp2_with fail
        refine (rpower_Q n P _ (by omega) HP.out).mono ?_
        rintro e w' ⟨rfl, rfl⟩
        go_wp2_with fail
        go_ret
        exact ⟨rfl, s2.1⟩
      · clear hx
        go_wp2_with fail
        go_ret
        exact ⟨rfl, s2.1⟩
    · clear hx
      go_wp2_with fail
      go_ret
      exact ⟨rfl, s2.1⟩
  · clear hx
    go_wp2_with fail
    go_ret
    exact ⟨rfl, s2.1⟩

set_option maxRecDepth 100000 in
set_option maxHeartbeats 1600000 in
theorem maskMeets_yes (A C C' : Option Addr) (c d d' : Nat) (us lo hi : List Nat) (l a : Nat) (w : World) (pu : Pts w w.heap.size A us) (pl : Pts w w.heap.size C lo) (ph : Pts w w.heap.size C' hi)
    (h1 : 1 ≤ us.length) (h16 : us.length ≤ 16) (e1 : lo.length = us.length) (e2 : hi.length = us.length) (hl : l ≤ 63) (ha : a < 2 ^ us.length) :
    Calls Try.prog 5 #[.slice A us.length c, .int .i64 (l : Int), boxV C lo.length d C' hi.length d', .int .i64 (a : Int)] w fun e w' => e = .returned (.bool true) ∧ Below w.heap.size w w' := by
  have s0 := BSt.new C lo.length d C' hi.length d' w
  have hne : ((us.length : Int) != (lo.length : Int)) = false := by rw [bne_eq_false_iff_eq]; omega
  have hp := pow16 h16
  have Ha := Lib.hid ha
  obtain ⟨P, hP⟩ : ∃ P, 2 ^ us.length = P := ⟨_, rfl⟩
  rw [hP] at ha hp
  have HP := Lib.hid hP
  obtain ⟨ml, hml⟩ : ∃ x, Mk.lowM us l lo hi = x := ⟨_, rfl⟩
  obtain ⟨mh, hmh⟩ : ∃ x, Mk.highM us l lo hi = x := ⟨_, rfl⟩
  obtain ⟨pp, hpp⟩ : ∃ x, Z.place us l a = x := ⟨_, rfl⟩
  obtain ⟨cl, hcl⟩ : ∃ x, Z.cut pp l = x := ⟨_, rfl⟩
  obtain ⟨ch, hch⟩ : ∃ x, Bx.cellHi pp l = x := ⟨_, rfl⟩
  obtain ⟨em, hem⟩ : ∃ x, Bx.emp lo hi lo.length = x := ⟨_, rfl⟩
  have n1 : pp.length = us.length := by rw [← hpp, Z.place_length]
  have n2 : cl.length = us.length := by rw [← hcl, Z.cut_length, n1]
  have n3 : ch.length = us.length := by rw [← hch, Bx.cellHi_length, n1]
  have hmlt : ml < 2 ^ us.length := by rw [← hml]; exact Mk.lowM_lt _ _ _ _
  have hmht : mh < 2 ^ us.length := by rw [← hmh]; exact Mk.highM_lt _ _ _ _
  have E : Hid (lo.length = us.length ∧ hi.length = us.length ∧ 1 ≤ lo.length ∧ lo.length ≤ 16 ∧ lo.length = hi.length ∧ pp.length = us.length ∧ cl.length = us.length ∧ ch.length = us.length ∧ 1 ≤ pp.length ∧ pp.length ≤ 16) := Lib.hid (by omega)
  have Q : Hid ((Z.place us l a = pp ∧ Z.cut pp l = cl ∧ Bx.cellHi pp l = ch ∧ Bx.emp lo hi lo.length = em) ∧ (ml < 2 ^ us.length ∧ mh < 2 ^ us.length)) := Lib.hid ⟨⟨hpp, hcl, hch, hem⟩, hmlt, hmht⟩
  have hof := Lib.hid (fun (B : Nat) (wx : World) (a1 : Pts wx B A us) (a2 : Pts wx B C lo) (a3 : Pts wx B C' hi) (a4 : B ≤ wx.heap.size) => mof_yes A C C' c d d' us lo hi l B wx a1 a2 a3 a4 h1 h16 E.out.1 E.out.2.1 hl)
  rw [hml, hmh] at hof
  have hres : Hid ((em = true → Mk.nothing ml mh = true) ∧ (em = false → Mk.has us.length ml mh a = Mk.touch cl ch lo hi us.length)) := Lib.hid ⟨fun h => by
      rw [← hml, ← hmh]
      exact Mk.mask_empty (by rw [← e1, hem, h]), fun h => by
      rw [← hml, ← hmh, ← hcl, ← hch, ← hpp]
      exact Mk.mask_touch Ha.out (by rw [← e1, hem, h])⟩
  have P3 := Lib.hid (And.intro pu (And.intro pl ph))
  have hl0 : (0 : Int) ≤ (l : Int) := by omega
  have hl1 : (l : Int) ≤ 63 := by omega
  have i1 : decide ((l : Int) < 0) = false := decide_eq_false (by omega)
  have i2 : decide ((63 : Int) < (l : Int)) = false := decide_eq_false (by omega)
  have i2' : decide (63 < l) = false := decide_eq_false (by omega)
  have i3 : decide ((a : Int) < 0) = false := decide_eq_false (by omega)
  have i4 : decide ((P : Int) ≤ (a : Int)) = false := decide_eq_false (by omega)
  have i4' : decide (P ≤ a) = false := decide_eq_false (by omega)
  clear e1 e2 pu pl ph hml hmh hpp hcl hch hem n1 n2 n3 hmlt hmht hP
  go_enter Try.func5, Try.ntmps5
  go_wp2_with fail
  refine (awake4_c _).mono ?_
  rintro e w1 ⟨rfl, hb1⟩
  have s1 := s0.step hb1
  have s1' := s1
  obtain ⟨-, ⟨q0, q1⟩, -⟩ := s1'
  go_wp2_with fail
  refine (r3right_y C C' lo.length d hi.length d' _ E.out.2.2.1 E.out.2.2.2.1 E.out.2.2.2.2.1).mono ?_
  rintro e w2 ⟨rfl, hb2⟩
  have s2 := s1.step hb2
  have s2' := s2
  clear q0 q1
  obtain ⟨-, ⟨q0, q1⟩, -⟩ := s2'
  go_wp2_with fail
  refine (rpower_Q us.length P _ (by omega) HP.out).mono ?_
  rintro e w' ⟨rfl, rfl⟩
  go_wp2_with fail
  refine (hof.out w.heap.size _ (s2.pts P3.out.1) (s2.pts P3.out.2.1) (s2.pts P3.out.2.2) s2.le).mono ?_
  rintro e w3 ⟨rfl, hb3⟩
  have s3 := BSt.mask (s2.step hb3) (us.length : Int) (ml : Int) (mh : Int)
  generalize hmb : w3.heap.size = mb at *
  have s3' := s3
  clear q0 q1
  obtain ⟨⟨-, ⟨q0, q1⟩, -⟩, ⟨t0, t1, t2⟩, -⟩ := s3'
  go_wp2_with fail
  refine (rplace_c A c us l a w.heap.size _ (s3.1.pts P3.out.1) s3.1.le h1 h16 hl Ha.out).mono ?_
  rintro e w4 ⟨v4, rfl, own4, hb4⟩
  rw [Q.out.1.1] at own4
  obtain ⟨A4, c4, hv4, p4⟩ := own4.pts
  subst hv4
  have s4 := s3.step hb4
  have s4' := s4
  clear q0 q1 t0 t1 t2 hmb
  obtain ⟨⟨-, ⟨q0, q1⟩, -⟩, ⟨t0, t1, t2⟩, -⟩ := s4'
  go_wp2_with fail
  refine (r3cell_c A4 c4 l pp cl ch w4.heap.size _ Q.out.1.2.1 Q.out.1.2.2.1 p4 (Nat.le_refl _) E.out.2.2.2.2.2.2.2.2.1 E.out.2.2.2.2.2.2.2.2.2 (by omega)).mono ?_
  rintro e w5 ⟨A5, c5, A6, c6, rfl, p5, p6, hb5⟩
  have hal := below_alloc w5 (.cells #[.slice A5 cl.length c5, .slice A6 ch.length c6] 24)
  have hcx := boxAt_new w5 A5 cl.length c5 A6 ch.length c6
  have s5 := s4.step hb5
  have hcb : w5.heap.size < (w5.alloc (.cells #[.slice A5 cl.length c5, .slice A6 ch.length c6] 24)).heap.size := by simp
  have p5' := p5.below' hal (Nat.le_refl _)
  have p6' := p6.below' hal (Nat.le_refl _)
  have s6 := s5.step hal
  generalize hW : w5.alloc _ = W at *
  have s6' := s6
  have hcx' := hcx
  clear q0 q1 t0 t1 t2 own4
  obtain ⟨⟨-, ⟨q0, q1⟩, -⟩, ⟨t0, t1, t2⟩, -⟩ := s6'
  obtain ⟨m0, m1⟩ := hcx'
  go_wp2_with fail
  refine (r3empty_c C C' d d' lo hi w.heap.size _ em Q.out.1.2.2.2 (s6.1.pts P3.out.2.1) (s6.1.pts P3.out.2.2) s6.1.le E.out.2.2.1 E.out.2.2.2.1 E.out.2.2.2.2.1).mono ?_
  rintro e w7 ⟨rfl, hb7⟩
  have s7 := s6.step hb7
  have hx7 := hcx.below hb7 hcb
  have p7 := p5'.below' hb7 (Nat.le_of_lt hcb)
  have p8 := p6'.below' hb7 (Nat.le_of_lt hcb)
  have hcb7 := Nat.lt_of_lt_of_le hcb hb7.size
  have pl7 := s7.1.pts P3.out.2.1
  have ph7 := s7.1.pts P3.out.2.2
  generalize hcbk : w5.heap.size = cb at *
  clear q0 q1 t0 t1 t2 m0 m1 hcx hal p5 p6 p5' p6' hb5 hW hb7 hcb p4 hb4 s4 s5 s6
  have s7' := s7
  have hx7' := hx7
  obtain ⟨⟨-, ⟨q0, q1⟩, -⟩, ⟨t0, t1, t2⟩, -⟩ := s7'
  obtain ⟨m0, m1⟩ := hx7'
  go_wp2_with fail
  obtain ⟨b1, off1, hA1, _, hc1⟩ := pl7.at E.out.2.2.1
  obtain ⟨b2, off2, hA2, _, hc2⟩ := ph7.at (by have := E.out.2.2.2.2.1; have := E.out.2.2.1; omega)
  obtain ⟨b3, off3, hA3, _, hc3⟩ := p7.at (by have := E.out.2.2.2.2.2.2.1; omega)
  obtain ⟨b4, off4, hA4, _, hc4⟩ := p8.at (by have := E.out.2.2.2.2.2.2.2.1; omega)
  have hlg := fun i => Bx.g_lt pl7.ok i
  have hhg := fun i => Bx.g_lt ph7.ok i
  have hcg := fun i => Bx.g_lt p7.ok i
  have hdg := fun i => Bx.g_lt p8.ok i
  subst hA1 hA2 hA3 hA4
  have HT : Hid (∀ j, Mk.touch cl ch lo hi (j + 1) = (Mk.touch cl ch lo hi j && (decide (Bx.g cl j ≤ Bx.g hi j) && decide (Bx.g lo j ≤ Bx.g ch j)))) := Lib.hid (fun _ => rfl)
  have H0 : Hid (Value.bool (!em) = .bool (!em && Mk.touch cl ch lo hi 0)) := Lib.hid (by simp [Mk.touch])
  clear s0 s1 s2 s3 hb1 hb2 hb3 p7 p8 pl7 ph7
  go_loopw [12, 13] (fun x i wr => ∃ (j : Nat) (t : Bool), j ≤ us.length ∧ i = .int .i64 j ∧ x = .bool t ∧ t = (!em && Mk.touch cl ch lo hi j) ∧ ∃ nd, wr = w7.drewN nd) (fun _ i _ => us.length - (intOf i).toNat)
  case atStart => exact ⟨0, _, Nat.zero_le _, rfl, H0.out, rfl, 0, rfl⟩
  case round =>
    obtain ⟨j, t, hj, rfl, rfl, ht, nd, rfl⟩ := hrel
    have Ht := Lib.hid ht
    clear ht
    by_cases hlt : j < us.length
    · have j1 : j < lo.length := by have := E.out.1; omega
      have j2 : j < hi.length := by have := E.out.2.1; omega
      have j3 : j < cl.length := by have := E.out.2.2.2.2.2.2.1; omega
      have j4 : j < ch.length := by have := E.out.2.2.2.2.2.2.2.1; omega
      have L1 : lo.length ≤ 16 := E.out.2.2.2.1
      have L2 : hi.length ≤ 16 := by have := E.out.2.1; omega
      have L3 : cl.length ≤ 16 := by have := E.out.2.2.2.2.2.2.1; omega
      have L4 : ch.length ≤ 16 := by have := E.out.2.2.2.2.2.2.2.1; omega
      have hcell1 := hc1 j j1
      have hcell2 := hc2 j j2
      have hcell3 := hc3 j j3
      have hcell4 := hc4 j j4
      have g1 := hlg j
      have g2 := hhg j
      have g3 := hcg j
      have g4 := hdg j
      have hnext := HT.out j
      clear hc1 hc2 hc3 hc4 hlg hhg hcg hdg
      generalize Bx.g lo j = x1 at *
      generalize Bx.g hi j = x2 at *
      generalize Bx.g cl j = x3 at *
      generalize Bx.g ch j = x4 at *
      cases t
      · have hst : Hid (false = (!em && Mk.touch cl ch lo hi (j + 1))) := Lib.hid (by
          have h := Ht.out
          rw [hnext]
          revert h
          cases em <;> cases Mk.touch cl ch lo hi j <;> simp)
        clear hnext
        go_wp2_with fail
        go_quiet (fail)
        go_wp2_with fail
        go_roundw
        case rel => exact ⟨j + 1, _, by omega, by go_num, rfl, hst.out, _, rfl⟩
        case measure => simp [intOf]; omega
      · have hpr : em = false ∧ Mk.touch cl ch lo hi j = true := by
          have h := Ht.out
          revert h
          cases em <;> cases Mk.touch cl ch lo hi j <;> simp
        rw [hpr.2, Bool.true_and] at hnext
        have Hpr := Lib.hid hpr
        clear hpr
        by_cases c1 : x3 ≤ x2
        · have d1 : decide (x3 ≤ x2) = true := decide_eq_true c1
          have d1' : decide ((x3 : Int) ≤ (x2 : Int)) = true := decide_eq_true (by omega)
          by_cases c2 : x1 ≤ x4
          · have d2 : decide (x1 ≤ x4) = true := decide_eq_true c2
            have d2' : decide ((x1 : Int) ≤ (x4 : Int)) = true := decide_eq_true (by omega)
            have hst : Hid (true = (!em && Mk.touch cl ch lo hi (j + 1))) := Lib.hid (by rw [hnext, d1, d2, Hpr.out.1]; rfl)
            clear hnext c1 c2
            go_wp2_with fail
            go_quiet (fail)
            go_wp2_with fail
            go_roundw
            case rel => exact ⟨j + 1, _, by omega, by go_num, rfl, hst.out, _, rfl⟩
            case measure => simp [intOf]; omega
          · have d2 : decide (x1 ≤ x4) = false := decide_eq_false c2
            have d2' : decide ((x1 : Int) ≤ (x4 : Int)) = false := decide_eq_false (by omega)
            have hst : Hid (false = (!em && Mk.touch cl ch lo hi (j + 1))) := Lib.hid (by rw [hnext, d1, d2, Hpr.out.1]; rfl)
            clear hnext c1 c2
            go_wp2_with fail
            go_quiet (fail)
            go_wp2_with fail
            go_roundw
            case rel => exact ⟨j + 1, _, by omega, by go_num, rfl, hst.out, _, rfl⟩
            case measure => simp [intOf]; omega
        · have d1 : decide (x3 ≤ x2) = false := decide_eq_false c1
          have d1' : decide ((x3 : Int) ≤ (x2 : Int)) = false := decide_eq_false (by omega)
          have hst : Hid (false = (!em && Mk.touch cl ch lo hi (j + 1))) := Lib.hid (by rw [hnext, d1, Hpr.out.1]; rfl)
          clear hnext c1
          go_wp2_with fail
          go_quiet (fail)
          go_wp2_with fail
          go_roundw
          case rel => exact ⟨j + 1, _, by omega, by go_num, rfl, hst.out, _, rfl⟩
          case measure => simp [intOf]; omega
    · have hjn : j = us.length := by omega
      subst hjn
      have s8 : ZSt _ lo.length d _ hi.length d' (us.length : Int) (ml : Int) (mh : Int) mb w (w7.drewN nd) := ⟨⟨below_drewN nd s7.1.1, s7.1.2.1, s7.1.2.2⟩, s7.2.1, s7.2.2⟩
      clear hc1 hc2 hc3 hc4 hlg hhg hcg hdg
      go_wp2_with fail
      refine (r3empty_c _ _ d d' lo hi w.heap.size _ em Q.out.1.2.2.2 (s8.1.pts P3.out.2.1) (s8.1.pts P3.out.2.2) s8.1.le E.out.2.2.1 E.out.2.2.2.1 E.out.2.2.2.2.1).mono ?_
      rintro e w9 ⟨rfl, hb9⟩
      have s9 := s8.step hb9
      have s9' := s9
      clear q0 q1 t0 t1 t2 m0 m1
      obtain ⟨⟨-, ⟨q0, q1⟩, -⟩, ⟨t0, t1, t2⟩, -⟩ := s9'
      cases em
      · have hh := hres.out.2 rfl
        have ht := Ht.out
        simp only [Bool.not_false, Bool.true_and] at ht
        rw [← ht] at hh
        have Hh := Lib.hid hh
        have htt : (t == t) = true := by simp
        clear ht hh
        go_wp2_with fail
        refine (mhas_yes us.length ml mh _ _ t (by rw [Mk.hasI_nat]; exact Hh.out) h1 h16 Q.out.2.1 Q.out.2.2 ⟨by omega, by omega⟩).mono ?_
        rintro e w10 ⟨rfl, hb10⟩
        go_wp2_with fail
        go_ret
        exact ⟨rfl, Below.andThen s9.1.1 hb10⟩
      · have Hn := Lib.hid (hres.out.1 rfl)
        go_wp2_with fail
        refine (mnone_yes us.length ml mh _ true Hn.out h1 h16 Q.out.2.1 Q.out.2.2).mono ?_
        rintro e w10 ⟨rfl, hb10⟩
        go_wp2_with fail
        go_ret
        exact ⟨rfl, Below.andThen s9.1.1 hb10⟩

/-- THE LAW's CALL, AT EVERY INPUT -/
theorem maskMeets_w (A C C' : Option Addr) (c d d' : Nat) (us lo hi : List Nat) (l a : Int) (w : World) (pu : Pts w w.heap.size A us) (pl : Pts w w.heap.size C lo) (ph : Pts w w.heap.size C' hi) (hm : lo.length ≤ maxLen) :
    Calls Try.prog 5 #[.slice A us.length c, .int .i64 l, boxV C lo.length d C' hi.length d', .int .i64 a] w fun e w' => e = .returned (.bool true) ∧ Below w.heap.size w w' := by
  by_cases hr : (1 ≤ lo.length ∧ lo.length ≤ 16) ∧ lo.length = hi.length
  case neg => exact maskMeets_nr A C C' _ c _ d _ d' l a w hm hr
  by_cases hn : us.length = lo.length
  case neg => exact maskMeets_len A C C' _ c _ d _ d' l a w hr.1.1 hr.1.2 hr.2 hn
  by_cases hx : l < 0 ∨ 63 < l ∨ a < 0 ∨ ((2 ^ us.length : Nat) : Int) ≤ a
  · exact maskMeets_out A C C' _ c _ d _ d' l a w hr.1.1 hr.1.2 hr.2 hn hx
  · obtain ⟨k, rfl⟩ : ∃ k : Nat, l = (k : Int) := ⟨l.toNat, by omega⟩
    obtain ⟨x, rfl⟩ : ∃ x : Nat, a = (x : Int) := ⟨a.toNat, by omega⟩
    exact maskMeets_yes A C C' c d d' us lo hi k x w pu pl ph (by omega) (by omega) hn.symm (by omega) (by omega) (by omega)
end Go.Proofs.Ytkkpgfpkeiamaaa
