import Derived.Test.YtdpbcfjhljgicaaGreatDoorM50
import Derived.Test.YtdpbcfjhljgicaaGreatDoorM01
import Derived.Test.YtdpbcfjhljgicaaGreatDoorM04
import Derived.Deep.Cut
/-
  CONTRACTS of package mask, first part: right, Has, None, First of a mask.
-/
namespace Go.Proofs.YtdpbcfjhljgicaaGreatDoor
open Go.ChangeShapes Go.WideShapes Go.ChangeAt Go.RowKit

/-- a mask as a value -/
abbrev maskV (k lo hi : Int) : Value := .agg #[.int .i64 k, .int .i64 lo, .int .i64 hi]
/-- block b holds the mask -/
def MaskAt (w : World) (b : Nat) (k lo hi : Int) : Prop :=
  w.cell? ⟨b, 0, none⟩ = some (.int .i64 k) ∧ w.cell? ⟨b, 1, none⟩ = some (.int .i64 lo) ∧ w.cell? ⟨b, 2, none⟩ = some (.int .i64 hi)
theorem maskAt_new (w : World) (k lo hi : Int) : MaskAt (w.alloc (.cells #[.int .i64 k, .int .i64 lo, .int .i64 hi] 204)) w.heap.size k lo hi :=
  ⟨by rw [World.cell?_alloc_new]; rfl, by rw [World.cell?_alloc_new]; rfl, by rw [World.cell?_alloc_new]; rfl⟩
theorem MaskAt.below {w w' : World} {b C : Nat} {k lo hi : Int} (h : MaskAt w b k lo hi) (hb : Below C w w') (hC : b < C) : MaskAt w' b k lo hi :=
  ⟨(hb.cell (p := ⟨b, 0, none⟩) hC).trans h.1, (hb.cell (p := ⟨b, 1, none⟩) hC).trans h.2.1, (hb.cell (p := ⟨b, 2, none⟩) hC).trans h.2.2⟩
theorem MaskAt.drew {w : World} {b : Nat} {k lo hi : Int} (h : MaskAt w b k lo hi) : MaskAt w.drew b k lo hi := h

/-- may a mask be? -/
def MRight (k lo hi : Int) : Prop := (1 ≤ k ∧ k ≤ 16) ∧ (0 ≤ lo ∧ lo < ((2 ^ k.toNat : Nat) : Int)) ∧ (0 ≤ hi ∧ hi < ((2 ^ k.toNat : Nat) : Int))
instance mright_dec (k lo hi : Int) : Decidable (MRight k lo hi) := by unfold MRight; infer_instance
/-- numbers of 64 bits -/
def I64 (x : Int) : Prop := -9223372036854775808 ≤ x ∧ x ≤ 9223372036854775807
theorem i64_nat {a : Nat} (h : a < 65536) : I64 (a : Int) := ⟨by omega, by omega⟩
theorem pow16 {k : Nat} (h : k ≤ 16) : 2 ^ k ≤ 65536 := Nat.pow_le_pow_right (n := 2) (by omega) h
theorem i64_pow {a k : Nat} (h : k ≤ 16) (ha : a < 2 ^ k) : I64 (a : Int) := i64_nat (by have := pow16 h; omega)
theorem mright_nat {k lo hi : Nat} (h1 : 1 ≤ k) (h2 : k ≤ 16) (h3 : lo < 2 ^ k) (h4 : hi < 2 ^ k) : MRight (k : Int) (lo : Int) (hi : Int) :=
  ⟨⟨by omega, by omega⟩, ⟨by omega, by simpa using Int.ofNat_lt.2 h3⟩, ⟨by omega, by simpa using Int.ofNat_lt.2 h4⟩⟩

set_option maxRecDepth 100000 in
theorem mright_c (k lo hi : Int) (w : World) (r : Bool) (hr : decide (MRight k lo hi) = r) (bk : I64 k) (bl : I64 lo) (bh : I64 hi) :
    Calls Tryz.prog 193 #[maskV k lo hi] w fun e w' => e = .returned (.bool r) ∧ Below w.heap.size w w' := by
  have hbel := below_alloc w (.cells #[.int .i64 k, .int .i64 lo, .int .i64 hi] 204)
  obtain ⟨q0, q1, q2⟩ := maskAt_new w k lo hi
  by_cases hk : 1 ≤ k ∧ k ≤ 16
  · obtain ⟨n, rfl⟩ : ∃ n : Nat, k = (n : Int) := ⟨k.toNat, by omega⟩
    have hn : n ≤ 16 := by omega
    have hp := pow16 hn
    have hp0 := Nat.two_pow_pos n
    have hb := Mk.right_bits hn bl.1 bl.2 bh.1 bh.2
    have Hb : Hid ((bits .andNot .i64 (bits .or .i64 lo hi) (wrap64 (wrap64 (2 ^ n) - 1)) == 0) = r) := Lib.hid (by
      have e1 : wrap64 (2 ^ n) = ((2 ^ n : Nat) : Int) := by
        rw [show (2 : Int) ^ n = ((2 ^ n : Nat) : Int) by simp]; exact IntWalk.wrap64_in _ (by omega)
      have e2 : wrap64 (((2 ^ n : Nat) : Int) - 1) = ((2 ^ n - 1 : Nat) : Int) := by
        rw [IntWalk.wrap64_in _ (by omega)]; omega
      rw [e1, e2, ← hr, Bool.eq_iff_iff, beq_iff_eq, decide_eq_true_eq, hb]
      exact ⟨fun h => ⟨hk, h⟩, fun h => And.right h⟩)
    clear hr hb bk bl bh
    go_enter Tryz.func193, Tryz.ntmps193
    go_wp2
    go_ret
    exact ⟨by rw [← Hb.out]; rfl, hbel⟩
  · have Hr : Hid (r = false) := Lib.hid (by rw [← hr]; exact decide_eq_false fun h => hk (And.left h))
    clear hr
    by_cases c : k < 1
    · have d1 : decide (k < 1) = true := decide_eq_true c
      clear hk c
      go_enter Tryz.func193, Tryz.ntmps193
      go_wp2
      go_ret
      exact ⟨by rw [Hr.out]; rfl, hbel⟩
    · have d1 : decide (k < 1) = false := decide_eq_false c
      have d2 : decide (16 < k) = true := decide_eq_true (by omega)
      clear hk c
      go_enter Tryz.func193, Tryz.ntmps193
      go_wp2
      go_ret
      exact ⟨by rw [Hr.out]; rfl, hbel⟩

/-! ### Has -/
theorem mhas_no (k lo hi a : Int) (w : World) (h : ¬ MRight k lo hi) (bk : I64 k) (bl : I64 lo) (bh : I64 hi) :
    Calls Tryz.prog 172 #[maskV k lo hi, .int .i64 a] w fun e w' => e = .returned (.bool false) ∧ Below w.heap.size w w' := by
  have hbel := below_alloc w (.cells #[.int .i64 k, .int .i64 lo, .int .i64 hi] 204)
  obtain ⟨q0, q1, q2⟩ := maskAt_new w k lo hi
  have Hb := Lib.hid (And.intro bk (And.intro bl bh))
  have Hr : Hid (decide (MRight k lo hi) = false) := Lib.hid (decide_eq_false h)
  clear bk bl bh h
  go_enter Tryz.func172, Tryz.ntmps172
  go_wp2_with fail
  refine (mright_c k lo hi _ false Hr.out Hb.out.1 Hb.out.2.1 Hb.out.2.2).mono ?_
  rintro e w1 ⟨rfl, hb1⟩
  go_wp2_with fail
  go_ret
  exact ⟨rfl, Below.andThen hbel hb1⟩
theorem mhas_yes (k lo hi : Nat) (a : Int) (w : World) (r : Bool) (hr : Mk.hasI k lo hi a = r) (h1 : 1 ≤ k) (h2 : k ≤ 16) (h3 : lo < 2 ^ k) (h4 : hi < 2 ^ k) (ba : I64 a) :
    Calls Tryz.prog 172 #[maskV (k : Int) (lo : Int) (hi : Int), .int .i64 a] w fun e w' => e = .returned (.bool r) ∧ Below w.heap.size w w' := by
  have hbel := below_alloc w (.cells #[.int .i64 (k : Int), .int .i64 (lo : Int), .int .i64 (hi : Int)] 204)
  have hq := maskAt_new w (k : Int) (lo : Int) (hi : Int)
  have Hb := Lib.hid (And.intro (i64_nat (show k < 65536 by omega)) (And.intro (i64_pow h2 h3) (i64_pow h2 h4)))
  have Hr : Hid (decide (MRight (k : Int) (lo : Int) (hi : Int)) = true) := Lib.hid (decide_eq_true (mright_nat h1 h2 h3 h4))
  have hx := Mk.has_bits h2 h3 h4 ba.1 ba.2
  rw [hr] at hx
  obtain ⟨x1, hx1⟩ : ∃ x, (bits .andNot .i64 (lo : Int) a == 0) = x := ⟨_, rfl⟩
  obtain ⟨x2, hx2⟩ : ∃ x, (bits .andNot .i64 a (hi : Int) == 0) = x := ⟨_, rfl⟩
  have Hx : Hid ((x1 && x2) = r) := Lib.hid (by
    rw [← hx, ← hx1, ← hx2]
    congr 1)
  clear hx hr ba h1 h2 h3 h4
  go_enter Tryz.func172, Tryz.ntmps172
  go_wp2_with fail
  refine (mright_c k lo hi _ true Hr.out Hb.out.1 Hb.out.2.1 Hb.out.2.2).mono ?_
  rintro e w1 ⟨rfl, hb1⟩
  obtain ⟨q0, q1, q2⟩ := hq.below hb1 (by simp)
  cases x1
  · go_wp2_with fail
    go_ret
    exact ⟨by rw [← Hx.out]; rfl, Below.andThen hbel hb1⟩
  · go_wp2_with fail
    go_ret
    exact ⟨by rw [← Hx.out, ← hx2]; rfl, Below.andThen hbel hb1⟩

/-! ### None, First -/
theorem mnone_no (k lo hi : Int) (w : World) (h : ¬ MRight k lo hi) (bk : I64 k) (bl : I64 lo) (bh : I64 hi) :
    Calls Tryz.prog 198 #[maskV k lo hi] w fun e w' => e = .returned (.bool true) ∧ Below w.heap.size w w' := by
  have hbel := below_alloc w (.cells #[.int .i64 k, .int .i64 lo, .int .i64 hi] 204)
  obtain ⟨q0, q1, q2⟩ := maskAt_new w k lo hi
  have Hb := Lib.hid (And.intro h (And.intro bk (And.intro bl bh)))
  clear bk bl bh h
  go_enter Tryz.func198, Tryz.ntmps198
  go_wp2_with fail
  refine (mhas_no k lo hi lo _ Hb.out.1 Hb.out.2.1 Hb.out.2.2.1 Hb.out.2.2.2).mono ?_
  rintro e w1 ⟨rfl, hb1⟩
  go_wp2_with fail
  go_ret
  exact ⟨rfl, Below.andThen hbel hb1⟩
theorem mnone_yes (k lo hi : Nat) (w : World) (r : Bool) (hr : Mk.nothing lo hi = r) (h1 : 1 ≤ k) (h2 : k ≤ 16) (h3 : lo < 2 ^ k) (h4 : hi < 2 ^ k) :
    Calls Tryz.prog 198 #[maskV (k : Int) (lo : Int) (hi : Int)] w fun e w' => e = .returned (.bool r) ∧ Below w.heap.size w w' := by
  have hbel := below_alloc w (.cells #[.int .i64 (k : Int), .int .i64 (lo : Int), .int .i64 (hi : Int)] 204)
  obtain ⟨q0, q1, q2⟩ := maskAt_new w (k : Int) (lo : Int) (hi : Int)
  have Hb := Lib.hid (And.intro h1 (And.intro h2 (And.intro h3 h4)))
  have Hr : Hid (Mk.hasI k lo hi (lo : Int) = !r) := Lib.hid (by rw [Mk.hasI_nat, Mk.has_low h3, hr])
  clear h1 h2 h3 h4 hr
  go_enter Tryz.func198, Tryz.ntmps198
  go_wp2_with fail
  refine (mhas_yes k lo hi lo _ _ Hr.out Hb.out.1 Hb.out.2.1 Hb.out.2.2.1 Hb.out.2.2.2 (i64_pow Hb.out.2.1 Hb.out.2.2.1)).mono ?_
  rintro e w1 ⟨rfl, hb1⟩
  go_wp2_with fail
  go_ret
  exact ⟨ret_bool (by simp), Below.andThen hbel hb1⟩
theorem mfirst_no (k lo hi : Int) (w : World) (h : ¬ MRight k lo hi) (bk : I64 k) (bl : I64 lo) (bh : I64 hi) :
    Calls Tryz.prog 192 #[maskV k lo hi] w fun e w' => e = .returned (.tuple #[.int .i64 0, .bool false]) ∧ Below w.heap.size w w' := by
  have hbel := below_alloc w (.cells #[.int .i64 k, .int .i64 lo, .int .i64 hi] 204)
  obtain ⟨q0, q1, q2⟩ := maskAt_new w k lo hi
  have Hb := Lib.hid (And.intro h (And.intro bk (And.intro bl bh)))
  clear bk bl bh h
  go_enter Tryz.func192, Tryz.ntmps192
  go_wp2_with fail
  refine (mnone_no k lo hi _ Hb.out.1 Hb.out.2.1 Hb.out.2.2.1 Hb.out.2.2.2).mono ?_
  rintro e w1 ⟨rfl, hb1⟩
  go_wp2_with fail
  go_ret2
  exact ⟨rfl, Below.andThen hbel hb1⟩
theorem mfirst_yes (k lo hi : Nat) (w : World) (r : Bool) (x : Nat) (hr : Mk.nothing lo hi = r) (hx : (if r = true then 0 else lo) = x) (h1 : 1 ≤ k) (h2 : k ≤ 16) (h3 : lo < 2 ^ k) (h4 : hi < 2 ^ k) :
    Calls Tryz.prog 192 #[maskV (k : Int) (lo : Int) (hi : Int)] w fun e w' => e = .returned (.tuple #[.int .i64 (x : Int), .bool (!r)]) ∧ Below w.heap.size w w' := by
  have hbel := below_alloc w (.cells #[.int .i64 (k : Int), .int .i64 (lo : Int), .int .i64 (hi : Int)] 204)
  have hq := maskAt_new w (k : Int) (lo : Int) (hi : Int)
  obtain ⟨q0, q1, q2⟩ := maskAt_new w (k : Int) (lo : Int) (hi : Int)
  have Hb := Lib.hid (And.intro h1 (And.intro h2 (And.intro h3 h4)))
  have Hr := Lib.hid hr
  clear h1 h2 h3 h4 hr
  go_enter Tryz.func192, Tryz.ntmps192
  go_wp2_with fail
  refine (mnone_yes k lo hi _ r Hr.out Hb.out.1 Hb.out.2.1 Hb.out.2.2.1 Hb.out.2.2.2).mono ?_
  rintro e w1 ⟨rfl, hb1⟩
  clear q0 q1 q2
  obtain ⟨q0, q1, q2⟩ := hq.below hb1 (by simp)
  cases r
  · have hx : lo = x := by simpa using hx
    subst hx
    go_wp2_with fail
    go_ret2
    exact ⟨rfl, Below.andThen hbel hb1⟩
  · have hx : 0 = x := by simpa using hx
    subst hx
    go_wp2_with fail
    go_ret2
    exact ⟨rfl, Below.andThen hbel hb1⟩
end Go.Proofs.YtdpbcfjhljgicaaGreatDoor

/-
  CONTRACTS of package mask, second part: OnesCount, Count, Next of a mask.
-/
namespace Go.Proofs.YtdpbcfjhljgicaaGreatDoor
open Go.ChangeShapes Go.WideShapes Go.ChangeAt Go.RowKit

/-! ### OnesCount -/
/-! ### Count -/
/-! ### Next -/
/-- the least address that is left and greater than any number -/
def nextI (k lo hi : Nat) (a : Int) : Option Nat := (Mk.left k lo hi).find? (fun x => decide (a < (x : Int)))
theorem nextI_nat (k lo hi n : Nat) : nextI k lo hi (n : Int) = Mk.next k lo hi n := by
  unfold nextI Mk.next
  congr 1
  funext x
  congr 1
  exact propext Int.ofNat_lt
theorem nextI_neg (k lo hi : Nat) (a : Int) (h : a < 0) (h3 : lo < 2 ^ k) : nextI k lo hi a = if Mk.nothing lo hi = true then none else some lo := by
  unfold nextI
  have e : ∀ L : List Nat, L.find? (fun (x : Nat) => decide (a < (x : Int))) = L[0]? := fun L => by
    cases L with
    | nil => rfl
    | cons x xs => rw [List.find?_cons, decide_eq_true (by omega)]; rfl
  rw [e]
  rcases hn : Mk.nothing lo hi with _ | _
  · rw [Mk.left_head h3 hn]; rfl
  · rw [(Mk.left_nil_iff h3).2 hn]; rfl
theorem and_pow (n p : Nat) : n &&& 2 ^ p = 0 ↔ n.testBit p = false := by
  constructor
  · intro h
    have := congrArg (fun x => Nat.testBit x p) h
    simp only [Nat.testBit_and, Nat.testBit_two_pow, Nat.zero_testBit, decide_true, Bool.and_true] at this
    exact this
  · intro h
    apply Nat.eq_of_testBit_eq
    intro i
    rw [Nat.testBit_and, Nat.testBit_two_pow, Nat.zero_testBit]
    by_cases e : p = i
    · subst e; rw [h]; rfl
    · rw [decide_eq_false e, Bool.and_false]
theorem next_bits {lo n p : Nat} (hn : n < 9223372036854775808) (hl : lo < 65536) (hp : p < 16) :
    bits .or .i64 (bits .or .i64 (bits .andNot .i64 (n : Int) (wrap64 (wrap64 (2 ^ p) - 1))) (wrap64 (2 ^ p))) (bits .and .i64 (lo : Int) (wrap64 (wrap64 (2 ^ p) - 1))) = ((Mk.cand lo n p : Nat) : Int) ∧
    (bits .and .i64 (n : Int) (wrap64 (2 ^ p)) == 0) = !n.testBit p := by
  have hP : 2 ^ p ≤ 32768 := Nat.pow_le_pow_right (n := 2) (by omega) (show p ≤ 15 by omega)
  have hP0 := Nat.two_pow_pos p
  have e1 : wrap64 (2 ^ p) = ((2 ^ p : Nat) : Int) := by
    rw [show (2 : Int) ^ p = ((2 ^ p : Nat) : Int) by simp]; exact IntWalk.wrap64_in _ (by omega)
  have e2 : wrap64 (((2 ^ p : Nat) : Int) - 1) = ((2 ^ p - 1 : Nat) : Int) := by
    rw [IntWalk.wrap64_in _ (by omega)]; omega
  have h1 := Mk.less_le n (2 ^ p - 1)
  have h2 : Mk.less n (2 ^ p - 1) ||| 2 ^ p < 2 ^ 63 := Mk.or_lt (by omega) (by omega)
  have h3 : lo &&& (2 ^ p - 1) ≤ lo := Nat.and_le_left
  rw [e1, e2]
  refine ⟨?_, ?_⟩
  · rw [Mk.andNot_i64 n _ hn (by omega), or_i64 _ _ (by omega) (by omega), Mk.and_i64 lo _ (by omega) (by omega), or_i64 _ _ (by omega) (by omega)]
    rfl
  · rw [Mk.and_i64 n _ hn (by omega), Bool.eq_iff_iff, beq_iff_eq]
    have := and_pow n p
    simp only [Bool.not_eq_true']
    rw [← this]
    omega
theorem mnext_no (k lo hi a : Int) (w : World) (h : ¬ MRight k lo hi) (bk : I64 k) (bl : I64 lo) (bh : I64 hi) :
    Calls Tryz.prog 171 #[maskV k lo hi, .int .i64 a] w fun e w' => e = .returned (.tuple #[.int .i64 0, .bool false]) ∧ Below w.heap.size w w' := by
  have hbel := below_alloc w (.cells #[.int .i64 k, .int .i64 lo, .int .i64 hi] 204)
  obtain ⟨q0, q1, q2⟩ := maskAt_new w k lo hi
  have Hb := Lib.hid (And.intro h (And.intro bk (And.intro bl bh)))
  have Hr : Hid (decide (MRight k lo hi) = false) := Lib.hid (decide_eq_false h)
  clear bk bl bh h
  by_cases c : a < 0
  · go_enter Tryz.func171, Tryz.ntmps171
    go_wp2_with fail
    refine (mfirst_no k lo hi _ Hb.out.1 Hb.out.2.1 Hb.out.2.2.1 Hb.out.2.2.2).mono ?_
    rintro e w1 ⟨rfl, hb1⟩
    go_wp2_with fail
    go_ret2
    exact ⟨rfl, Below.andThen hbel hb1⟩
  · go_enter Tryz.func171, Tryz.ntmps171
    go_wp2_with fail
    refine (mright_c k lo hi _ false Hr.out Hb.out.2.1 Hb.out.2.2.1 Hb.out.2.2.2).mono ?_
    rintro e w1 ⟨rfl, hb1⟩
    go_wp2_with fail
    go_ret2
    exact ⟨rfl, Below.andThen hbel hb1⟩
theorem mnext_neg (k lo hi : Nat) (a : Int) (w : World) (o : Option Nat) (ho : nextI k lo hi a = o) (ha : a < 0) (h1 : 1 ≤ k) (h2 : k ≤ 16) (h3 : lo < 2 ^ k) (h4 : hi < 2 ^ k) :
    Calls Tryz.prog 171 #[maskV (k : Int) (lo : Int) (hi : Int), .int .i64 a] w fun e w' => e = .returned (.tuple #[.int .i64 ((o.getD 0 : Nat) : Int), .bool o.isSome]) ∧ Below w.heap.size w w' := by
  have hbel := below_alloc w (.cells #[.int .i64 (k : Int), .int .i64 (lo : Int), .int .i64 (hi : Int)] 204)
  obtain ⟨q0, q1, q2⟩ := maskAt_new w (k : Int) (lo : Int) (hi : Int)
  rw [nextI_neg k lo hi a ha h3] at ho
  obtain ⟨r, hr⟩ : ∃ r, Mk.nothing lo hi = r := ⟨_, rfl⟩
  rw [hr] at ho
  have Ho : Hid (o.isSome = !r) := Lib.hid (by subst ho; cases r <;> rfl)
  have Ho2 : Hid ((if r = true then 0 else lo) = o.getD 0) := Lib.hid (by subst ho; cases r <;> rfl)
  have Hb := Lib.hid (And.intro h1 (And.intro h2 (And.intro h3 h4)))
  have Hr := Lib.hid hr
  clear h1 h2 h3 h4 hr ho
  generalize o.getD 0 = x at *
  go_enter Tryz.func171, Tryz.ntmps171
  go_wp2_with fail
  refine (mfirst_yes k lo hi _ r x Hr.out Ho2.out Hb.out.1 Hb.out.2.1 Hb.out.2.2.1 Hb.out.2.2.2).mono ?_
  rintro e w1 ⟨rfl, hb1⟩
  go_wp2_with fail
  go_ret2
  exact ⟨by rw [Ho.out]; rfl, Below.andThen hbel hb1⟩
set_option maxRecDepth 100000 in
theorem mnext_nat (k lo hi n : Nat) (w : World) (o : Option Nat) (ho : Mk.next k lo hi n = o) (hn : n < 9223372036854775808) (h1 : 1 ≤ k) (h2 : k ≤ 16) (h3 : lo < 2 ^ k) (h4 : hi < 2 ^ k) :
    Calls Tryz.prog 171 #[maskV (k : Int) (lo : Int) (hi : Int), .int .i64 (n : Int)] w fun e w' => e = .returned (.tuple #[.int .i64 ((o.getD 0 : Nat) : Int), .bool o.isSome]) ∧ Below w.heap.size w w' := by
  have hbel := below_alloc w (.cells #[.int .i64 (k : Int), .int .i64 (lo : Int), .int .i64 (hi : Int)] 204)
  have hq := maskAt_new w (k : Int) (lo : Int) (hi : Int)
  obtain ⟨q0, q1, q2⟩ := maskAt_new w (k : Int) (lo : Int) (hi : Int)
  have hpw := pow16 h2
  have Hb := Lib.hid (And.intro h1 (And.intro h2 (And.intro h3 (And.intro h4 (And.intro (show lo < 65536 by omega) (And.intro (i64_nat (show k < 65536 by omega)) (And.intro (i64_pow h2 h3) (i64_pow h2 h4))))))))
  have Hr : Hid (decide (MRight (k : Int) (lo : Int) (hi : Int)) = true) := Lib.hid (decide_eq_true (mright_nat h1 h2 h3 h4))
  have Ho := Lib.hid ho
  clear h1 h3 h4 ho hpw
  go_enter Tryz.func171, Tryz.ntmps171
  go_wp2_with fail
  refine (mright_c k lo hi _ true Hr.out Hb.out.2.2.2.2.2.1 Hb.out.2.2.2.2.2.2.1 Hb.out.2.2.2.2.2.2.2).mono ?_
  rintro e w1 ⟨rfl, hb1⟩
  have hq1 := hq.below hb1 (by simp)
  have hbel1 := Below.andThen hbel hb1
  have hsz : w.heap.size < w1.heap.size := by have := hb1.size; simp at this; omega
  clear q0 q1 q2
  obtain ⟨q0, q1, q2⟩ := hq1
  go_wp2_with fail
  clear q0 q1 q2
  have hq1 := hq.below hb1 (by simp)
  go_loopw [6, 7, 8, 9, 21] (fun _ _ _ _ i wr => ∃ p : Nat, p ≤ k ∧ i = .int .i64 p ∧ (∀ q, q < p → n.testBit q = false → Mk.has k lo hi (Mk.cand lo n q) = false) ∧ Below w1.heap.size w1 wr) (fun _ _ _ _ i _ => k - (intOf i).toNat)
  case atStart => exact ⟨0, Nat.zero_le _, rfl, fun q hq => absurd hq (by omega), Below.refl _ _⟩
  case round =>
    obtain ⟨p, hp, rfl, hno, hbw⟩ := hrel
    have Hno := Lib.hid hno
    clear hno
    have hq2 := hq1.below hbw hsz
    by_cases hlt : p < k
    · have hp16 : p < 16 := by omega
      obtain ⟨e1, e2⟩ := next_bits hn Hb.out.2.2.2.2.1 hp16
      have E1 := Lib.hid e1
      obtain ⟨q0, q1, q2⟩ := hq2
      obtain ⟨t, ht⟩ : ∃ t, n.testBit p = t := ⟨_, rfl⟩
      rw [ht] at e2
      have Ht := Lib.hid ht
      have hcl := Mk.cand_lt hn Hb.out.2.2.2.2.1 hp16
      have Hcl : Hid (I64 ((Mk.cand lo n p : Nat) : Int)) := Lib.hid ⟨by omega, by omega⟩
      clear e1 ht hcl
      cases t
      · obtain ⟨r, hr⟩ : ∃ r, Mk.has k lo hi (Mk.cand lo n p) = r := ⟨_, rfl⟩
        have Hr2 := Lib.hid hr
        clear hr
        have e3 : (bits .and .i64 (n : Int) (wrap64 (2 ^ p)) == 0) = true := e2
        clear e2
        go_wp2_with fail
        rw [E1.out]
        refine (mhas_yes k lo hi _ _ r (by rw [Mk.hasI_nat]; exact Hr2.out) Hb.out.1 Hb.out.2.1 Hb.out.2.2.1 Hb.out.2.2.2.1 Hcl.out).mono ?_
        rintro e w2 ⟨rfl, hb2⟩
        cases r
        · go_wp2_with fail
          go_roundw
          case rel =>
            refine ⟨p + 1, by omega, by go_num, fun q hq hqt => ?_, Below.andThen hbw hb2⟩
            rcases Nat.lt_succ_iff_lt_or_eq.1 hq with c | rfl
            · exact Hno.out q c hqt
            · exact Hr2.out
          case measure => simp [intOf]; omega
        · have hfin : Hid (o = some (Mk.cand lo n p)) := Lib.hid (by rw [← Ho.out]; exact Mk.next_found Hb.out.2.1 Ht.out Hr2.out Hno.out)
          go_wp2_with fail
          go_ret2
          exact ⟨by rw [hfin.out]; rfl, Below.andThen hbel1 (Below.andThen hbw hb2)⟩
      · have e3 : (bits .and .i64 (n : Int) (wrap64 (2 ^ p)) == 0) = false := e2
        clear e2
        go_wp2_with fail
        go_roundw
        case rel =>
          refine ⟨p + 1, by omega, by go_num, fun q hq hqt => ?_, hbw⟩
          rcases Nat.lt_succ_iff_lt_or_eq.1 hq with c | rfl
          · exact Hno.out q c hqt
          · have := Ht.out
            rw [hqt] at this
            simp at this
        case measure => simp [intOf]; omega
    · have hfin : Hid (o = none) := Lib.hid (by rw [← Ho.out]; exact Mk.next_not Hb.out.2.1 (fun q hq hqt => Hno.out q (by omega) hqt))
      clear hq2
      go_wp2_with fail
      go_ret2
      exact ⟨by rw [hfin.out]; rfl, Below.andThen hbel1 hbw⟩
theorem mnext_yes (k lo hi : Nat) (a : Int) (w : World) (o : Option Nat) (ho : nextI k lo hi a = o) (ba : I64 a) (h1 : 1 ≤ k) (h2 : k ≤ 16) (h3 : lo < 2 ^ k) (h4 : hi < 2 ^ k) :
    Calls Tryz.prog 171 #[maskV (k : Int) (lo : Int) (hi : Int), .int .i64 a] w fun e w' => e = .returned (.tuple #[.int .i64 ((o.getD 0 : Nat) : Int), .bool o.isSome]) ∧ Below w.heap.size w w' := by
  by_cases c : a < 0
  · exact mnext_neg k lo hi a w o ho c h1 h2 h3 h4
  · obtain ⟨n, rfl⟩ : ∃ n : Nat, a = (n : Int) := ⟨a.toNat, by omega⟩
    rw [nextI_nat] at ho
    exact mnext_nat k lo hi n w o ho (by have := ba.2; omega) h1 h2 h3 h4
end Go.Proofs.YtdpbcfjhljgicaaGreatDoor
