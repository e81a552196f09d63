/-
  CONTRACTS of package mask, first part: right, Has, None, First of a mask.
-/
import Derived.Test.YtkkpgfpkeiamaaaBx1
import Derived.Test.YtkkpgfpkeiamaaaMn
namespace Go.Proofs.Ytkkpgfpkeiamaaa
open Go.ChangeShapes Go.WideShapes Go.ChangeAt Go.RowKit

/-- a mask as a value -/
abbrev maskV (k lo hi : Int) : Value := .agg #[.int .i64 k, .int .i64 lo, .int .i64 hi]
/-- block b holds the mask -/
def MaskAt (w : World) (b : Nat) (k lo hi : Int) : Prop :=
  w.cell? ⟨b, 0, none⟩ = some (.int .i64 k) ∧ w.cell? ⟨b, 1, none⟩ = some (.int .i64 lo) ∧ w.cell? ⟨b, 2, none⟩ = some (.int .i64 hi)
theorem maskAt_new (w : World) (k lo hi : Int) : MaskAt (w.alloc (.cells #[.int .i64 k, .int .i64 lo, .int .i64 hi] 27)) w.heap.size k lo hi :=
  ⟨by rw [World.cell?_alloc_new]; rfl, by rw [World.cell?_alloc_new]; rfl, by rw [World.cell?_alloc_new]; rfl⟩
theorem MaskAt.below {w w' : World} {b C : Nat} {k lo hi : Int} (h : MaskAt w b k lo hi) (hb : Below C w w') (hC : b < C) : MaskAt w' b k lo hi :=
  ⟨(hb.cell (p := ⟨b, 0, none⟩) hC).trans h.1, (hb.cell (p := ⟨b, 1, none⟩) hC).trans h.2.1, (hb.cell (p := ⟨b, 2, none⟩) hC).trans h.2.2⟩
theorem MaskAt.drew {w : World} {b : Nat} {k lo hi : Int} (h : MaskAt w b k lo hi) : MaskAt w.drew b k lo hi := h

/-- may a mask be? -/
def MRight (k lo hi : Int) : Prop := (1 ≤ k ∧ k ≤ 16) ∧ (0 ≤ lo ∧ lo < ((2 ^ k.toNat : Nat) : Int)) ∧ (0 ≤ hi ∧ hi < ((2 ^ k.toNat : Nat) : Int))
instance mright_dec (k lo hi : Int) : Decidable (MRight k lo hi) := by unfold MRight; infer_instance
/-- numbers of 64 bits -/
def I64 (x : Int) : Prop := -9223372036854775808 ≤ x ∧ x ≤ 9223372036854775807
theorem i64_of {x : Int} (h : I64 x) : -9223372036854775808 ≤ x ∧ x ≤ 9223372036854775807 := h
theorem i64_nat {a : Nat} (h : a < 65536) : I64 (a : Int) := ⟨by omega, by omega⟩
theorem pow16 {k : Nat} (h : k ≤ 16) : 2 ^ k ≤ 65536 := Nat.pow_le_pow_right (n := 2) (by omega) h
theorem i64_pow {a k : Nat} (h : k ≤ 16) (ha : a < 2 ^ k) : I64 (a : Int) := i64_nat (by have := pow16 h; omega)
theorem mright_nat {k lo hi : Nat} (h1 : 1 ≤ k) (h2 : k ≤ 16) (h3 : lo < 2 ^ k) (h4 : hi < 2 ^ k) : MRight (k : Int) (lo : Int) (hi : Int) :=
  ⟨⟨by omega, by omega⟩, ⟨by omega, by simpa using Int.ofNat_lt.2 h3⟩, ⟨by omega, by simpa using Int.ofNat_lt.2 h4⟩⟩

set_option maxRecDepth 100000 in
theorem mright_c (k lo hi : Int) (w : World) (r : Bool) (hr : decide (MRight k lo hi) = r) (bk : I64 k) (bl : I64 lo) (bh : I64 hi) :
    Calls Try.prog 31 #[maskV k lo hi] w fun e w' => e = .returned (.bool r) ∧ Below w.heap.size w w' := by
  have hbel := below_alloc w (.cells #[.int .i64 k, .int .i64 lo, .int .i64 hi] 27)
  obtain ⟨q0, q1, q2⟩ := maskAt_new w k lo hi
  by_cases hk : 1 ≤ k ∧ k ≤ 16
  · obtain ⟨n, rfl⟩ : ∃ n : Nat, k = (n : Int) := ⟨k.toNat, by omega⟩
    have hn : n ≤ 16 := by omega
    have hp := pow16 hn
    have hp0 := Nat.two_pow_pos n
    have hb := Mk.right_bits hn bl.1 bl.2 bh.1 bh.2
    have Hb : Hid ((bits .andNot .i64 (bits .or .i64 lo hi) (wrap64 (wrap64 (2 ^ n) - 1)) == 0) = r) := Lib.hid (by
      have e1 : wrap64 (2 ^ n) = ((2 ^ n : Nat) : Int) := by
        rw [show (2 : Int) ^ n = ((2 ^ n : Nat) : Int) by simp]; exact IntWalk.wrap64_in _ (by omega)
      have e2 : wrap64 (((2 ^ n : Nat) : Int) - 1) = ((2 ^ n - 1 : Nat) : Int) := by
        rw [IntWalk.wrap64_in _ (by omega)]; omega
      rw [e1, e2, ← hr, Bool.eq_iff_iff, beq_iff_eq, decide_eq_true_eq, hb]
      exact ⟨fun h => ⟨hk, h⟩, fun h => And.right h⟩)
    clear hr hb bk bl bh
    go_enter Try.func31, Try.ntmps31
    go_wp2
    go_ret
    exact ⟨by rw [← Hb.out]; rfl, hbel⟩
  · have Hr : Hid (r = false) := Lib.hid (by rw [← hr]; exact decide_eq_false fun h => hk (And.left h))
    clear hr
    by_cases c : k < 1
    · have d1 : decide (k < 1) = true := decide_eq_true c
      clear hk c
      go_enter Try.func31, Try.ntmps31
      go_wp2
      go_ret
      exact ⟨by rw [Hr.out]; rfl, hbel⟩
    · have d1 : decide (k < 1) = false := decide_eq_false c
      have d2 : decide (16 < k) = true := decide_eq_true (by omega)
      clear hk c
      go_enter Try.func31, Try.ntmps31
      go_wp2
      go_ret
      exact ⟨by rw [Hr.out]; rfl, hbel⟩

/-! ### Has -/
theorem mhas_no (k lo hi a : Int) (w : World) (h : ¬ MRight k lo hi) (bk : I64 k) (bl : I64 lo) (bh : I64 hi) :
    Calls Try.prog 18 #[maskV k lo hi, .int .i64 a] w fun e w' => e = .returned (.bool false) ∧ Below w.heap.size w w' := by
  have hbel := below_alloc w (.cells #[.int .i64 k, .int .i64 lo, .int .i64 hi] 27)
  obtain ⟨q0, q1, q2⟩ := maskAt_new w k lo hi
  have Hb := Lib.hid (And.intro bk (And.intro bl bh))
  have Hr : Hid (decide (MRight k lo hi) = false) := Lib.hid (decide_eq_false h)
  clear bk bl bh h
  go_enter Try.func18, Try.ntmps18
  go_wp2_with fail
  refine (mright_c k lo hi _ false Hr.out Hb.out.1 Hb.out.2.1 Hb.out.2.2).mono ?_
  rintro e w1 ⟨rfl, hb1⟩
  go_wp2_with fail
  go_ret
  exact ⟨rfl, Below.andThen hbel hb1⟩
theorem mhas_yes (k lo hi : Nat) (a : Int) (w : World) (r : Bool) (hr : Mk.hasI k lo hi a = r) (h1 : 1 ≤ k) (h2 : k ≤ 16) (h3 : lo < 2 ^ k) (h4 : hi < 2 ^ k) (ba : I64 a) :
    Calls Try.prog 18 #[maskV (k : Int) (lo : Int) (hi : Int), .int .i64 a] w fun e w' => e = .returned (.bool r) ∧ Below w.heap.size w w' := by
  have hbel := below_alloc w (.cells #[.int .i64 (k : Int), .int .i64 (lo : Int), .int .i64 (hi : Int)] 27)
  have hq := maskAt_new w (k : Int) (lo : Int) (hi : Int)
  have Hb := Lib.hid (And.intro (i64_nat (show k < 65536 by omega)) (And.intro (i64_pow h2 h3) (i64_pow h2 h4)))
  have Hr : Hid (decide (MRight (k : Int) (lo : Int) (hi : Int)) = true) := Lib.hid (decide_eq_true (mright_nat h1 h2 h3 h4))
  have hx := Mk.has_bits h2 h3 h4 ba.1 ba.2
  rw [hr] at hx
  obtain ⟨x1, hx1⟩ : ∃ x, (bits .andNot .i64 (lo : Int) a == 0) = x := ⟨_, rfl⟩
  obtain ⟨x2, hx2⟩ : ∃ x, (bits .andNot .i64 a (hi : Int) == 0) = x := ⟨_, rfl⟩
  have Hx : Hid ((x1 && x2) = r) := Lib.hid (by
    rw [← hx, ← hx1, ← hx2]
    congr 1)
  clear hx hr ba h1 h2 h3 h4
  go_enter Try.func18, Try.ntmps18
  go_wp2_with fail
  refine (mright_c k lo hi _ true Hr.out Hb.out.1 Hb.out.2.1 Hb.out.2.2).mono ?_
  rintro e w1 ⟨rfl, hb1⟩
  obtain ⟨q0, q1, q2⟩ := hq.below hb1 (by simp)
  cases x1
  · go_wp2_with fail
    go_ret
    exact ⟨by rw [← Hx.out]; rfl, Below.andThen hbel hb1⟩
  · go_wp2_with fail
    go_ret
    exact ⟨by rw [← Hx.out, ← hx2]; rfl, Below.andThen hbel hb1⟩

/-! ### None, First -/
theorem mnone_no (k lo hi : Int) (w : World) (h : ¬ MRight k lo hi) (bk : I64 k) (bl : I64 lo) (bh : I64 hi) :
    Calls Try.prog 16 #[maskV k lo hi] w fun e w' => e = .returned (.bool true) ∧ Below w.heap.size w w' := by
  have hbel := below_alloc w (.cells #[.int .i64 k, .int .i64 lo, .int .i64 hi] 27)
  obtain ⟨q0, q1, q2⟩ := maskAt_new w k lo hi
  have Hb := Lib.hid (And.intro h (And.intro bk (And.intro bl bh)))
  clear bk bl bh h
  go_enter Try.func16, Try.ntmps16
  go_wp2_with fail
  refine (mhas_no k lo hi lo _ Hb.out.1 Hb.out.2.1 Hb.out.2.2.1 Hb.out.2.2.2).mono ?_
  rintro e w1 ⟨rfl, hb1⟩
  go_wp2_with fail
  go_ret
  exact ⟨rfl, Below.andThen hbel hb1⟩
theorem mnone_yes (k lo hi : Nat) (w : World) (r : Bool) (hr : Mk.nothing lo hi = r) (h1 : 1 ≤ k) (h2 : k ≤ 16) (h3 : lo < 2 ^ k) (h4 : hi < 2 ^ k) :
    Calls Try.prog 16 #[maskV (k : Int) (lo : Int) (hi : Int)] w fun e w' => e = .returned (.bool r) ∧ Below w.heap.size w w' := by
  have hbel := below_alloc w (.cells #[.int .i64 (k : Int), .int .i64 (lo : Int), .int .i64 (hi : Int)] 27)
  obtain ⟨q0, q1, q2⟩ := maskAt_new w (k : Int) (lo : Int) (hi : Int)
  have Hb := Lib.hid (And.intro h1 (And.intro h2 (And.intro h3 h4)))
  have Hr : Hid (Mk.hasI k lo hi (lo : Int) = !r) := Lib.hid (by rw [Mk.hasI_nat, Mk.has_low h3, hr])
  clear h1 h2 h3 h4 hr
  go_enter Try.func16, Try.ntmps16
  go_wp2_with fail
  refine (mhas_yes k lo hi lo _ _ Hr.out Hb.out.1 Hb.out.2.1 Hb.out.2.2.1 Hb.out.2.2.2 (i64_pow Hb.out.2.1 Hb.out.2.2.1)).mono ?_
  rintro e w1 ⟨rfl, hb1⟩
  go_wp2_with fail
  go_ret
  exact ⟨ret_bool (by simp), Below.andThen hbel hb1⟩
theorem mfirst_no (k lo hi : Int) (w : World) (h : ¬ MRight k lo hi) (bk : I64 k) (bl : I64 lo) (bh : I64 hi) :
    Calls Try.prog 13 #[maskV k lo hi] w fun e w' => e = .returned (.tuple #[.int .i64 0, .bool false]) ∧ Below w.heap.size w w' := by
  have hbel := below_alloc w (.cells #[.int .i64 k, .int .i64 lo, .int .i64 hi] 27)
  obtain ⟨q0, q1, q2⟩ := maskAt_new w k lo hi
  have Hb := Lib.hid (And.intro h (And.intro bk (And.intro bl bh)))
  clear bk bl bh h
  go_enter Try.func13, Try.ntmps13
  go_wp2_with fail
  refine (mnone_no k lo hi _ Hb.out.1 Hb.out.2.1 Hb.out.2.2.1 Hb.out.2.2.2).mono ?_
  rintro e w1 ⟨rfl, hb1⟩
  go_wp2_with fail
  go_ret2
  exact ⟨rfl, Below.andThen hbel hb1⟩
theorem mfirst_yes (k lo hi : Nat) (w : World) (r : Bool) (x : Nat) (hr : Mk.nothing lo hi = r) (hx : (if r = true then 0 else lo) = x) (h1 : 1 ≤ k) (h2 : k ≤ 16) (h3 : lo < 2 ^ k) (h4 : hi < 2 ^ k) :
    Calls Try.prog 13 #[maskV (k : Int) (lo : Int) (hi : Int)] w fun e w' => e = .returned (.tuple #[.int .i64 (x : Int), .bool (!r)]) ∧ Below w.heap.size w w' := by
  have hbel := below_alloc w (.cells #[.int .i64 (k : Int), .int .i64 (lo : Int), .int .i64 (hi : Int)] 27)
  have hq := maskAt_new w (k : Int) (lo : Int) (hi : Int)
  obtain ⟨q0, q1, q2⟩ := maskAt_new w (k : Int) (lo : Int) (hi : Int)
  have Hb := Lib.hid (And.intro h1 (And.intro h2 (And.intro h3 h4)))
  have Hr := Lib.hid hr
  clear h1 h2 h3 h4 hr
  go_enter Try.func13, Try.ntmps13
  go_wp2_with fail
  refine (mnone_yes k lo hi _ r Hr.out Hb.out.1 Hb.out.2.1 Hb.out.2.2.1 Hb.out.2.2.2).mono ?_
  rintro e w1 ⟨rfl, hb1⟩
  clear q0 q1 q2
  obtain ⟨q0, q1, q2⟩ := hq.below hb1 (by simp)
  cases r
  · have hx : lo = x := by simpa using hx
    subst hx
    go_wp2_with fail
    go_ret2
    exact ⟨rfl, Below.andThen hbel hb1⟩
  · have hx : 0 = x := by simpa using hx
    subst hx
    go_wp2_with fail
    go_ret2
    exact ⟨rfl, Below.andThen hbel hb1⟩
end Go.Proofs.Ytkkpgfpkeiamaaa
