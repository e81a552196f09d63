/-
  THE WALK of the law MaskWalk.
-/
import Derived.Test.YtkkpgfpkeiamaaaL4c
namespace Go.Proofs.Ytkkpgfpkeiamaaa
open Go.ChangeShapes Go.WideShapes Go.ChangeAt Go.RowKit

set_option maxRecDepth 100000 in
theorem maskWalk_big (k lo hi : Int) (w : World) (h : 12 < k) :
    Calls Try.prog 6 #[maskV k lo hi] w fun e w' => e = .returned (.bool true) ∧ Below w.heap.size w w' := by
  have s0 := NSt.new k lo hi w
  have d1 : decide (12 < k) = true := decide_eq_true h
  clear h
  go_enter Try.func6, Try.ntmps6
  go_wp2_with fail
  refine (awake4_c _).mono ?_
  rintro e w1 ⟨rfl, hb1⟩
  have s1 := s0.step hb1
  have s1' := s1
  obtain ⟨-, ⟨q0, q1, q2⟩, -⟩ := s1'
  go_wp2_with fail
  go_ret
  exact ⟨rfl, s1.1⟩
set_option maxRecDepth 100000 in
theorem maskWalk_no (k lo hi : Int) (w : World) (hk : k ≤ 12) (h : ¬ MRight k lo hi) (bk : I64 k) :
    Calls Try.prog 6 #[maskV k lo hi] w fun e w' => e = .returned (.bool true) ∧ Below w.heap.size w w' := by
  have s0 := NSt.new k lo hi w
  have d1 : decide (12 < k) = false := decide_eq_false (by omega)
  have B := Lib.hid bk
  have Hr : Hid (decide (MRight k lo hi) = false) := Lib.hid (decide_eq_false h)
  clear h bk hk
  go_enter Try.func6, Try.ntmps6
  go_wp2_with fail
  refine (awake4_c _).mono ?_
  rintro e w1 ⟨rfl, hb1⟩
  have s1 := s0.step hb1
  have s1' := s1
  obtain ⟨-, ⟨q0, q1, q2⟩, -⟩ := s1'
  go_wp2_with fail
  refine (r4right_c k lo hi _ false Hr.out B.out).mono ?_
  rintro e w' ⟨rfl, rfl⟩
  go_wp2_with fail
  go_ret
  exact ⟨rfl, s1.1⟩
/-- the one at place i, 0 behind the last -/
def atL (L : List Nat) (i : Nat) : Nat := L[i]?.getD 0
set_option maxRecDepth 100000 in
set_option maxHeartbeats 3200000 in
theorem maskWalk_yes (k lo hi : Nat) (w : World) (h1 : 1 ≤ k) (h12 : k ≤ 12) (h3 : lo < 2 ^ k) (h4 : hi < 2 ^ k) :
    Calls Try.prog 6 #[maskV (k : Int) (lo : Int) (hi : Int)] w fun e w' => e = .returned (.bool true) ∧ Below w.heap.size w w' := by
  have s0 := NSt.new (k : Int) (lo : Int) (hi : Int) w
  have hp : 2 ^ k ≤ 4096 := Nat.pow_le_pow_right (n := 2) (by omega) h12
  obtain ⟨L, hL⟩ : ∃ L, Mk.left k lo hi = L := ⟨_, rfl⟩
  obtain ⟨r, hr⟩ : ∃ r, Mk.nothing lo hi = r := ⟨_, rfl⟩
  have hlen := Mk.left_length_le k lo hi
  have hso := Mk.left_sorted k lo hi
  rw [hL] at hlen hso
  have h16 : k ≤ 16 := by omega
  have hlt : L.length ≤ 4096 := by omega
  have hnil : L = [] ↔ r = true := by rw [← hL, ← hr]; exact Mk.left_nil_iff h3
  have hfirst : (if r = true then 0 else lo) = atL L 0 ∧ (!r) = decide (0 < L.length) := by
    cases r
    · have := Mk.left_head h3 hr
      rw [hL] at this
      exact ⟨by unfold atL; rw [this]; rfl, by rw [decide_eq_true (lt_get this)]; rfl⟩
    · have := hnil.2 rfl
      subst this
      exact ⟨rfl, rfl⟩
  obtain ⟨f0, hf0⟩ : ∃ y : Nat, (if r = true then 0 else lo) = y := ⟨_, rfl⟩
  rw [hf0] at hfirst
  have hin : ∀ (i y : Nat), L[i]? = some y → Mk.has k lo hi y = true ∧ y < 4096 := fun i y hy => by
    have hm : y ∈ Mk.left k lo hi := by rw [hL]; exact List.mem_of_getElem? hy
    have h := Mk.mem_left.1 hm
    have := (Mk.has_iff.1 h).1
    exact ⟨h, by omega⟩
  have hnext : ∀ (i y : Nat), L[i]? = some y → nextI k lo hi (y : Int) = L[i + 1]? := fun i y hy => by
    rw [nextI_nat]
    unfold Mk.next
    rw [hL]
    exact Mk.find_next hso i y hy
  have hrise : ∀ (i y z : Nat), L[i]? = some y → L[i + 1]? = some z → y < z := fun i y z hy hz => by
    obtain ⟨a1, rfl⟩ := List.getElem?_eq_some_iff.1 hy
    obtain ⟨a2, rfl⟩ := List.getElem?_eq_some_iff.1 hz
    exact List.pairwise_iff_getElem.1 hso i (i + 1) a1 a2 (by omega)
  have hd1 : decide ((12 : Int) < (k : Int)) = false := decide_eq_false (by omega)
  have hd2 : decide (12 < k) = false := decide_eq_false (by omega)
  have B := Lib.hid (And.intro h1 (And.intro h16 (And.intro h3 (And.intro h4 (And.intro h12 (i64_nat (show k < 65536 by omega)))))))
  have V := Lib.hid (And.intro hL (And.intro hr (And.intro hf0 (And.intro hfirst hnil))))
  have F := Lib.hid (And.intro hin (And.intro hnext hrise))
  have Hr : Hid (decide (MRight (k : Int) (lo : Int) (hi : Int)) = true) := Lib.hid (decide_eq_true (mright_nat h1 h16 h3 h4))
  have hcnt := Lib.hid (mcount_yes k lo hi)
  rw [hL] at hcnt
  clear hL hr hf0 hfirst hnil h1 h12 h3 h4 hp hlen h16 hin hnext hrise hso
  go_enter Try.func6, Try.ntmps6
  go_wp2_with fail
  refine (awake4_c _).mono ?_
  rintro e w1 ⟨rfl, hb1⟩
  have s1 := s0.step hb1
  have s1' := s1
  obtain ⟨-, ⟨q0, q1, q2⟩, -⟩ := s1'
  go_wp2_with fail
  refine (r4right_c (k : Int) (lo : Int) (hi : Int) _ true Hr.out B.out.2.2.2.2.2).mono ?_
  rintro e w' ⟨rfl, rfl⟩
  go_wp2_with fail
  refine (mfirst_yes k lo hi _ r f0 V.out.2.1 V.out.2.2.1 B.out.1 B.out.2.1 B.out.2.2.1 B.out.2.2.2.1).mono ?_
  rintro e w2 ⟨rfl, hb2⟩
  have s2 := s1.step hb2
  clear q0 q1 q2 hb1 hb2 s0
  go_wp2_with fail
  have Hs2 := Lib.hid s2
  clear s1 s2
  go_loopw [3, 4, 5, 6] (fun n last at' ok wr => ∃ (j : Nat) (lv : Int) (y : Nat) (b : Bool), j ≤ L.length ∧ n = .int .i64 j ∧ last = .int .i64 lv ∧ at' = .int .i64 y ∧ ok = .bool b ∧ (b = decide (j < L.length) ∧ y = atL L j ∧ -1 ≤ lv ∧ lv < 4096 ∧ ∀ z : Nat, L[j]? = some z → lv < (z : Int)) ∧ NSt (k : Int) (lo : Int) (hi : Int) w wr) (fun n _ _ _ _ => L.length - (intOf n).toNat)
  case atStart => exact ⟨0, -1, f0, !r, Nat.zero_le _, rfl, rfl, rfl, rfl, ⟨V.out.2.2.2.1.2, V.out.2.2.2.1.1, by omega, by omega, fun z _ => by omega⟩, Hs2.out⟩
  case round =>
    obtain ⟨j, lv, y, b, hj, rfl, rfl, rfl, rfl, ⟨hb, hy, hlv1, hlv2, hlvz⟩, hs⟩ := hrel
    have hs' := hs
    obtain ⟨-, ⟨q0, q1, q2⟩, -⟩ := hs'
    have Hs := Lib.hid hs
    have Hlv := Lib.hid hlvz
    have Hyb := Lib.hid (And.intro hb hy)
    clear hs hlvz
    cases b
    · have hjn : j = L.length := by
        have : ¬ j < L.length := by simpa using hb.symm
        omega
      have hr0 : ((j : Int) == 0) = r := by
        have := V.out.2.2.2.2
        rw [Bool.eq_iff_iff, beq_iff_eq, ← this, hjn]
        rw [← List.length_eq_zero_iff]
        omega
      have hrr : (r == r) = true := by simp
      have Hjn := Lib.hid hjn.symm
      clear hb hy hjn
      go_wp2_with fail
      refine (hcnt.out _ j Hjn.out B.out.1 B.out.2.2.2.2.1 B.out.2.2.1 B.out.2.2.2.1).mono ?_
      rintro e w5 ⟨rfl, hb5⟩
      have s5 := Hs.out.step hb5
      have s5' := s5
      clear q0 q1 q2
      obtain ⟨-, ⟨q0, q1, q2⟩, -⟩ := s5'
      go_wp2_with fail
      refine (mnone_yes k lo hi _ r V.out.2.1 B.out.1 B.out.2.1 B.out.2.2.1 B.out.2.2.2.1).mono ?_
      rintro e w6 ⟨rfl, hb6⟩
      have s6 := s5.step hb6
      go_wp2_with fail
      go_ret
      first | exact ⟨rfl, s6.1⟩ | exact ⟨ret_bool (by simp), s6.1⟩
    · have hlt2 : j < L.length := by simpa using hb.symm
      obtain ⟨z, hz⟩ := get_lt hlt2
      have hyz : z = y := by rw [hy]; unfold atL; rw [hz]; rfl
      subst hyz
      obtain ⟨hh, hz4⟩ := F.out.1 j z hz
      have hlz := Hlv.out z hz
      have d1 : decide ((z : Int) ≤ lv) = false := decide_eq_false (by omega)
      have d2 : decide ((5000 : Int) < (j : Int)) = false := decide_eq_false (by omega)
      have d3 : decide (5000 < j) = false := decide_eq_false (by omega)
      have Hz := Lib.hid (And.intro hz (And.intro hh (And.intro hz4 hlt2)))
      have Hi : Hid (I64 (z : Int) ∧ Mk.hasI k lo hi (z : Int) = true) := Lib.hid ⟨i64_nat (by omega), by rw [Mk.hasI_nat]; exact hh⟩
      clear hb hy hz hh hlz
      go_wp2_with fail
      refine (mhas_yes k lo hi (z : Int) _ true Hi.out.2 B.out.1 B.out.2.1 B.out.2.2.1 B.out.2.2.2.1 Hi.out.1).mono ?_
      rintro e w5 ⟨rfl, hb5⟩
      have s5 := Hs.out.step hb5
      have s5' := s5
      clear q0 q1 q2
      obtain ⟨-, ⟨q0, q1, q2⟩, -⟩ := s5'
      go_wp2_with fail
      refine (r4has_c k lo hi (z : Int) _ true Hi.out.2 B.out.1 B.out.2.1 B.out.2.2.1 B.out.2.2.2.1 Hi.out.1).mono ?_
      rintro e w' ⟨rfl, rfl⟩
      go_wp2_with fail
      obtain ⟨o, ho⟩ : ∃ o, nextI k lo hi (z : Int) = o := ⟨_, rfl⟩
      have ho2 := ho
      rw [F.out.2.1 j z Hz.out.1] at ho2
      refine (mnext_yes k lo hi (z : Int) _ o ho Hi.out.1 B.out.1 B.out.2.1 B.out.2.2.1 B.out.2.2.2.1).mono ?_
      rintro e w6 ⟨rfl, hb6⟩
      have s6 := s5.step hb6
      have Ho := Lib.hid ho2
      obtain ⟨oi, hoi⟩ : ∃ y : Nat, o.getD 0 = y := ⟨_, rfl⟩
      obtain ⟨os, hos⟩ : ∃ y : Bool, o.isSome = y := ⟨_, rfl⟩
      rw [hoi, hos]
      have HO := Lib.hid (And.intro hoi hos)
      have Hs6 := Lib.hid s6
      clear q0 q1 q2 ho ho2 hoi hos s5 s6 hb5 hb6
      go_wp2_with fail
      go_roundw
      case rel =>
        refine ⟨j + 1, (z : Int), oi, os, by omega, by go_num, rfl, rfl, rfl, ⟨?_, ?_, by omega, by omega, fun y hy => ?_⟩, Hs6.out⟩
        · rw [← HO.out.2, ← Ho.out, Bool.eq_iff_iff, decide_eq_true_eq]
          simp
        · rw [← HO.out.1, ← Ho.out]; rfl
        · have := F.out.2.2 j z y Hz.out.1 hy
          omega
      case measure => simp [intOf]; omega

/-- THE LAW's CALL, AT EVERY INPUT -/
theorem maskWalk_w (k lo hi : Int) (w : World) (bk : I64 k) :
    Calls Try.prog 6 #[maskV k lo hi] w fun e w' => e = .returned (.bool true) ∧ Below w.heap.size w w' := by
  by_cases hk : 12 < k
  · exact maskWalk_big k lo hi w hk
  by_cases h : MRight k lo hi
  case neg => exact maskWalk_no k lo hi w (by omega) h bk
  obtain ⟨⟨h1, h2⟩, ⟨h3, h4⟩, h5, h6⟩ := h
  obtain ⟨n, rfl⟩ : ∃ n : Nat, k = (n : Int) := ⟨k.toNat, by omega⟩
  obtain ⟨l, rfl⟩ : ∃ n : Nat, lo = (n : Int) := ⟨lo.toNat, by omega⟩
  obtain ⟨m, rfl⟩ : ∃ n : Nat, hi = (n : Int) := ⟨hi.toNat, by omega⟩
  rw [Int.toNat_natCast] at h4 h6
  exact maskWalk_yes n l m w (by omega) (by omega) (by omega) (by omega)
end Go.Proofs.Ytkkpgfpkeiamaaa
