/-
  CONTRACTS of package mask, second part: OnesCount, Count, Next of a mask.
-/
import Derived.Test.YtkkpgfpkeiamaaaMk1
import Derived.Test.YtkkpgfpkeiamaaaZb
import Derived.Deep.Cut
namespace Go.Proofs.Ytkkpgfpkeiamaaa
open Go.ChangeShapes Go.WideShapes Go.ChangeAt Go.RowKit

/-! ### OnesCount -/
def pop1 (x : Nat) : Nat := (x / 2 &&& 6148914691236517205) + (x &&& 6148914691236517205)
def pop2 (x : Nat) : Nat := (x / 4 &&& 3689348814741910323) + (x &&& 3689348814741910323)
def pop3 (x : Nat) : Nat := x / 16 + x &&& 1085102592571150095
def pop4 (x : Nat) : Nat := x + x / 256
def pop5 (x : Nat) : Nat := x + x / 65536
def pop6 (x : Nat) : Nat := x + x / 4294967296
def pop7 (x : Nat) : Nat := x &&& 127
theorem and_le_l (a b : Nat) : a &&& b ≤ a := Nat.and_le_left
theorem pop1_lt {x : Nat} (h : x < 1000000) : pop1 x < 2000000 := by
  have := and_le_l (x / 2) 6148914691236517205
  have := and_le_l x 6148914691236517205
  unfold pop1; omega
theorem pop2_lt {x : Nat} (h : x < 2000000) : pop2 x < 4000000 := by
  have := and_le_l (x / 4) 3689348814741910323
  have := and_le_l x 3689348814741910323
  unfold pop2; omega
theorem pop3_lt {x : Nat} (h : x < 4000000) : pop3 x < 8000000 := by
  have := and_le_l (x / 16 + x) 1085102592571150095
  unfold pop3; omega
theorem pop4_lt {x : Nat} (h : x < 8000000) : pop4 x < 16000000 := by unfold pop4; omega
theorem pop5_lt {x : Nat} (h : x < 16000000) : pop5 x < 32000000 := by unfold pop5; omega
theorem pop6_lt {x : Nat} (h : x < 32000000) : pop6 x < 64000000 := by unfold pop6; omega
theorem div_cast (x d : Nat) : (x : Int) / (d : Int) = ((x / d : Nat) : Int) := by simp
theorem ipop1 {x : Nat} (h : x < 1000000) : IntKind.u64.wrap (bits .and .u64 ((x : Int) / 2) 6148914691236517205 + bits .and .u64 (x : Int) 6148914691236517205) = ((pop1 x : Nat) : Int) := by
  have hb := pop1_lt h
  have e1 := bits_and_u64_nat (x / 2) 6148914691236517205 (by omega) (by omega)
  have e2 := bits_and_u64_nat x 6148914691236517205 (by omega) (by omega)
  rw [show ((6148914691236517205 : Nat) : Int) = 6148914691236517205 from rfl] at e1 e2
  rw [show (x : Int) / 2 = ((x / 2 : Nat) : Int) by omega, e1, e2, IntKind.wrap_u64]
  unfold pop1 at *
  omega
theorem ipop2 {x : Nat} (h : x < 2000000) : IntKind.u64.wrap (bits .and .u64 ((x : Int) / 4) 3689348814741910323 + bits .and .u64 (x : Int) 3689348814741910323) = ((pop2 x : Nat) : Int) := by
  have hb := pop2_lt h
  have e1 := bits_and_u64_nat (x / 4) 3689348814741910323 (by omega) (by omega)
  have e2 := bits_and_u64_nat x 3689348814741910323 (by omega) (by omega)
  rw [show ((3689348814741910323 : Nat) : Int) = 3689348814741910323 from rfl] at e1 e2
  rw [show (x : Int) / 4 = ((x / 4 : Nat) : Int) by omega, e1, e2, IntKind.wrap_u64]
  unfold pop2 at *
  omega
theorem ipop3 {x : Nat} (h : x < 4000000) : bits .and .u64 (IntKind.u64.wrap ((x : Int) / 16 + (x : Int))) 1085102592571150095 = ((pop3 x : Nat) : Int) := by
  have e1 := bits_and_u64_nat (x / 16 + x) 1085102592571150095 (by omega) (by omega)
  rw [show ((1085102592571150095 : Nat) : Int) = 1085102592571150095 from rfl] at e1
  rw [show IntKind.u64.wrap ((x : Int) / 16 + (x : Int)) = ((x / 16 + x : Nat) : Int) by rw [IntKind.wrap_u64]; omega, e1]
  rfl
theorem ipop4 {x : Nat} (h : x < 8000000) : IntKind.u64.wrap ((x : Int) + (x : Int) / 256) = ((pop4 x : Nat) : Int) := by rw [IntKind.wrap_u64]; unfold pop4; omega
theorem ipop5 {x : Nat} (h : x < 16000000) : IntKind.u64.wrap ((x : Int) + (x : Int) / 65536) = ((pop5 x : Nat) : Int) := by rw [IntKind.wrap_u64]; unfold pop5; omega
theorem ipop6 {x : Nat} (h : x < 32000000) : IntKind.u64.wrap ((x : Int) + (x : Int) / 4294967296) = ((pop6 x : Nat) : Int) := by rw [IntKind.wrap_u64]; unfold pop6; omega
theorem ipop7 {x : Nat} (h : x < 64000000) : bits .and .i64 (wrap64 (x : Int)) 127 = ((pop7 x : Nat) : Int) := by
  have e1 := Mk.and_i64 x 127 (by omega) (by omega)
  rw [show ((127 : Nat) : Int) = 127 from rfl] at e1
  rw [IntWalk.wrap64_in _ (by omega), e1]
  rfl
theorem pop_two : ∀ (i j : Fin 64), pop7 (pop6 (pop5 (pop4 (pop3 (pop2 (pop1 (i.val * 64 + j.val))))))) = Lib.onesCount (i.val * 64 + j.val) ∧ Lib.onesCount (i.val * 64 + j.val) ≤ 12 := by decide +kernel
theorem pop_all {x : Nat} (h : x < 4096) : pop7 (pop6 (pop5 (pop4 (pop3 (pop2 (pop1 x)))))) = Lib.onesCount x ∧ Lib.onesCount x ≤ 12 := by
  have := pop_two ⟨x / 64, by omega⟩ ⟨x % 64, by omega⟩
  rwa [show (⟨x / 64, by omega⟩ : Fin 64).val * 64 + (⟨x % 64, by omega⟩ : Fin 64).val = x by show x / 64 * 64 + x % 64 = x; omega] at this
theorem ones64_c (x : Nat) (w : World) (hx : x < 4096) :
    Calls Try.prog 38 #[.int .u64 (x : Int)] w fun e w' => e = .returned (.int .i64 (Lib.onesCount x : Int)) ∧ w = w' := by
  go_enter Try.func38, Try.ntmps38
  go_wp2
  go_ret
  refine ⟨ret_int ?_, rfl⟩
  have h1 : x < 1000000 := by omega
  have h2 := pop1_lt h1
  have h3 := pop2_lt h2
  have h4 := pop3_lt h3
  have h5 := pop4_lt h4
  have h6 := pop5_lt h5
  have h7 := pop6_lt h6
  rw [ipop1 h1, ipop2 h2, ipop3 h3, ipop4 h4, ipop5 h5, ipop6 h6, ipop7 h7, (pop_all hx).1]
theorem ones_c (x : Nat) (w : World) (hx : x < 4096) :
    Calls Try.prog 32 #[.int .u64 (x : Int)] w fun e w' => e = .returned (.int .i64 (Lib.onesCount x : Int)) ∧ w = w' := by
  go_enter Try.func32, Try.ntmps32
  go_wp2_with (go_at_call 38; refine (ones64_c x _ hx).mono ?_; rintro e w' ⟨rfl, rfl⟩)
  go_ret
  exact ⟨rfl, rfl⟩

/-! ### Count -/
theorem mcount_no (k lo hi : Int) (w : World) (h : ¬ MRight k lo hi) (bk : I64 k) (bl : I64 lo) (bh : I64 hi) :
    Calls Try.prog 17 #[maskV k lo hi] w fun e w' => e = .returned (.int .i64 0) ∧ Below w.heap.size w w' := by
  have hbel := below_alloc w (.cells #[.int .i64 k, .int .i64 lo, .int .i64 hi] 27)
  obtain ⟨q0, q1, q2⟩ := maskAt_new w k lo hi
  have Hb := Lib.hid (And.intro h (And.intro bk (And.intro bl bh)))
  clear bk bl bh h
  go_enter Try.func17, Try.ntmps17
  go_wp2_with fail
  refine (mnone_no k lo hi _ Hb.out.1 Hb.out.2.1 Hb.out.2.2.1 Hb.out.2.2.2).mono ?_
  rintro e w1 ⟨rfl, hb1⟩
  go_wp2_with fail
  go_ret
  exact ⟨rfl, Below.andThen hbel hb1⟩
theorem mcount_yes (k lo hi : Nat) (w : World) (n : Nat) (hn : (Mk.left k lo hi).length = n) (h1 : 1 ≤ k) (h2 : k ≤ 12) (h3 : lo < 2 ^ k) (h4 : hi < 2 ^ k) :
    Calls Try.prog 17 #[maskV (k : Int) (lo : Int) (hi : Int)] w fun e w' => e = .returned (.int .i64 (n : Int)) ∧ Below w.heap.size w w' := by
  have hbel := below_alloc w (.cells #[.int .i64 (k : Int), .int .i64 (lo : Int), .int .i64 (hi : Int)] 27)
  have hq := maskAt_new w (k : Int) (lo : Int) (hi : Int)
  obtain ⟨q0, q1, q2⟩ := maskAt_new w (k : Int) (lo : Int) (hi : Int)
  have hp : 2 ^ k ≤ 4096 := Nat.pow_le_pow_right (n := 2) (by omega) h2
  rw [Mk.left_len (by omega) h3 h4] at hn
  have hl := Mk.less_le hi lo
  obtain ⟨d, hd⟩ : ∃ d, Mk.less hi lo = d := ⟨_, rfl⟩
  have hdi : bits .andNot .i64 (hi : Int) (lo : Int) = (d : Int) := by rw [Mk.andNot_i64 hi lo (by omega) (by omega), hd]
  rw [hd] at hn hl
  have hd1 : d < 4096 := by omega
  have hones := Lib.hid (ones_c d)
  have hc : Lib.onesCount d ≤ 12 := (pop_all hd1).2
  have Hb := Lib.hid (And.intro h1 (And.intro (show k ≤ 16 by omega) (And.intro h3 h4)))
  obtain ⟨r, hr⟩ : ∃ r, Mk.nothing lo hi = r := ⟨_, rfl⟩
  rw [hr] at hn
  have Hr := Lib.hid hr
  clear h1 h2 h3 h4 hr hp hd hl
  go_enter Try.func17, Try.ntmps17
  go_wp2_with fail
  refine (mnone_yes k lo hi _ r Hr.out Hb.out.1 Hb.out.2.1 Hb.out.2.2.1 Hb.out.2.2.2).mono ?_
  rintro e w1 ⟨rfl, hb1⟩
  clear q0 q1 q2
  obtain ⟨q0, q1, q2⟩ := hq.below hb1 (by simp)
  cases r
  · have hx : Hid (wrap64 (2 ^ Lib.onesCount d) = (n : Int)) := Lib.hid (by
      have hle : 2 ^ Lib.onesCount d ≤ 2 ^ 12 := Nat.pow_le_pow_right (by omega) hc
      have e1 : 2 ^ Lib.onesCount d = n := by simpa using hn
      rw [show (2 : Int) ^ Lib.onesCount d = ((2 ^ Lib.onesCount d : Nat) : Int) by simp, IntWalk.wrap64_in _ (by omega), e1])
    clear hn
    go_wp2_with fail
    refine (hones.out _ hd1).mono ?_
    rintro e w' ⟨rfl, rfl⟩
    generalize Lib.onesCount d = c at *
    go_wp2_with fail
    go_ret
    exact ⟨by rw [← hx.out]; rfl, Below.andThen hbel hb1⟩
  · have hn : 0 = n := by simpa using hn
    subst hn
    go_wp2_with fail
    go_ret
    exact ⟨rfl, Below.andThen hbel hb1⟩

/-! ### Next -/
/-- the least address that is left and greater than any number -/
def nextI (k lo hi : Nat) (a : Int) : Option Nat := (Mk.left k lo hi).find? (fun x => decide (a < (x : Int)))
theorem nextI_nat (k lo hi n : Nat) : nextI k lo hi (n : Int) = Mk.next k lo hi n := by
  unfold nextI Mk.next
  congr 1
  funext x
  congr 1
  exact propext Int.ofNat_lt
theorem nextI_neg (k lo hi : Nat) (a : Int) (h : a < 0) (h3 : lo < 2 ^ k) : nextI k lo hi a = if Mk.nothing lo hi = true then none else some lo := by
  unfold nextI
  have e : ∀ L : List Nat, L.find? (fun (x : Nat) => decide (a < (x : Int))) = L[0]? := fun L => by
    cases L with
    | nil => rfl
    | cons x xs => rw [List.find?_cons, decide_eq_true (by omega)]; rfl
  rw [e]
  rcases hn : Mk.nothing lo hi with _ | _
  · rw [Mk.left_head h3 hn]; rfl
  · rw [(Mk.left_nil_iff h3).2 hn]; rfl
theorem and_pow (n p : Nat) : n &&& 2 ^ p = 0 ↔ n.testBit p = false := by
  constructor
  · intro h
    have := congrArg (fun x => Nat.testBit x p) h
    simp only [Nat.testBit_and, Nat.testBit_two_pow, Nat.zero_testBit, decide_true, Bool.and_true] at this
    exact this
  · intro h
    apply Nat.eq_of_testBit_eq
    intro i
    rw [Nat.testBit_and, Nat.testBit_two_pow, Nat.zero_testBit]
    by_cases e : p = i
    · subst e; rw [h]; rfl
    · rw [decide_eq_false e, Bool.and_false]
theorem next_bits {lo n p : Nat} (hn : n < 9223372036854775808) (hl : lo < 65536) (hp : p < 16) :
    bits .or .i64 (bits .or .i64 (bits .andNot .i64 (n : Int) (wrap64 (wrap64 (2 ^ p) - 1))) (wrap64 (2 ^ p))) (bits .and .i64 (lo : Int) (wrap64 (wrap64 (2 ^ p) - 1))) = ((Mk.cand lo n p : Nat) : Int) ∧
    (bits .and .i64 (n : Int) (wrap64 (2 ^ p)) == 0) = !n.testBit p := by
  have hP : 2 ^ p ≤ 32768 := Nat.pow_le_pow_right (n := 2) (by omega) (show p ≤ 15 by omega)
  have hP0 := Nat.two_pow_pos p
  have e1 : wrap64 (2 ^ p) = ((2 ^ p : Nat) : Int) := by
    rw [show (2 : Int) ^ p = ((2 ^ p : Nat) : Int) by simp]; exact IntWalk.wrap64_in _ (by omega)
  have e2 : wrap64 (((2 ^ p : Nat) : Int) - 1) = ((2 ^ p - 1 : Nat) : Int) := by
    rw [IntWalk.wrap64_in _ (by omega)]; omega
  have h1 := Mk.less_le n (2 ^ p - 1)
  have h2 : Mk.less n (2 ^ p - 1) ||| 2 ^ p < 2 ^ 63 := Mk.or_lt (by omega) (by omega)
  have h3 : lo &&& (2 ^ p - 1) ≤ lo := Nat.and_le_left
  rw [e1, e2]
  refine ⟨?_, ?_⟩
  · rw [Mk.andNot_i64 n _ hn (by omega), or_i64 _ _ (by omega) (by omega), Mk.and_i64 lo _ (by omega) (by omega), or_i64 _ _ (by omega) (by omega)]
    rfl
  · rw [Mk.and_i64 n _ hn (by omega), Bool.eq_iff_iff, beq_iff_eq]
    have := and_pow n p
    simp only [Bool.not_eq_true']
    rw [← this]
    omega
theorem mnext_no (k lo hi a : Int) (w : World) (h : ¬ MRight k lo hi) (bk : I64 k) (bl : I64 lo) (bh : I64 hi) :
    Calls Try.prog 14 #[maskV k lo hi, .int .i64 a] w fun e w' => e = .returned (.tuple #[.int .i64 0, .bool false]) ∧ Below w.heap.size w w' := by
  have hbel := below_alloc w (.cells #[.int .i64 k, .int .i64 lo, .int .i64 hi] 27)
  obtain ⟨q0, q1, q2⟩ := maskAt_new w k lo hi
  have Hb := Lib.hid (And.intro h (And.intro bk (And.intro bl bh)))
  have Hr : Hid (decide (MRight k lo hi) = false) := Lib.hid (decide_eq_false h)
  clear bk bl bh h
  by_cases c : a < 0
  · go_enter Try.func14, Try.ntmps14
    go_wp2_with fail
    refine (mfirst_no k lo hi _ Hb.out.1 Hb.out.2.1 Hb.out.2.2.1 Hb.out.2.2.2).mono ?_
    rintro e w1 ⟨rfl, hb1⟩
    go_wp2_with fail
    go_ret2
    exact ⟨rfl, Below.andThen hbel hb1⟩
  · go_enter Try.func14, Try.ntmps14
    go_wp2_with fail
    refine (mright_c k lo hi _ false Hr.out Hb.out.2.1 Hb.out.2.2.1 Hb.out.2.2.2).mono ?_
    rintro e w1 ⟨rfl, hb1⟩
    go_wp2_with fail
    go_ret2
    exact ⟨rfl, Below.andThen hbel hb1⟩
theorem mnext_neg (k lo hi : Nat) (a : Int) (w : World) (o : Option Nat) (ho : nextI k lo hi a = o) (ha : a < 0) (h1 : 1 ≤ k) (h2 : k ≤ 16) (h3 : lo < 2 ^ k) (h4 : hi < 2 ^ k) :
    Calls Try.prog 14 #[maskV (k : Int) (lo : Int) (hi : Int), .int .i64 a] w fun e w' => e = .returned (.tuple #[.int .i64 ((o.getD 0 : Nat) : Int), .bool o.isSome]) ∧ Below w.heap.size w w' := by
  have hbel := below_alloc w (.cells #[.int .i64 (k : Int), .int .i64 (lo : Int), .int .i64 (hi : Int)] 27)
  obtain ⟨q0, q1, q2⟩ := maskAt_new w (k : Int) (lo : Int) (hi : Int)
  rw [nextI_neg k lo hi a ha h3] at ho
  obtain ⟨r, hr⟩ : ∃ r, Mk.nothing lo hi = r := ⟨_, rfl⟩
  rw [hr] at ho
  have Ho : Hid (o.isSome = !r) := Lib.hid (by subst ho; cases r <;> rfl)
  have Ho2 : Hid ((if r = true then 0 else lo) = o.getD 0) := Lib.hid (by subst ho; cases r <;> rfl)
  have Hb := Lib.hid (And.intro h1 (And.intro h2 (And.intro h3 h4)))
  have Hr := Lib.hid hr
  clear h1 h2 h3 h4 hr ho
  generalize o.getD 0 = x at *
  go_enter Try.func14, Try.ntmps14
  go_wp2_with fail
  refine (mfirst_yes k lo hi _ r x Hr.out Ho2.out Hb.out.1 Hb.out.2.1 Hb.out.2.2.1 Hb.out.2.2.2).mono ?_
  rintro e w1 ⟨rfl, hb1⟩
  go_wp2_with fail
  go_ret2
  exact ⟨by rw [Ho.out]; rfl, Below.andThen hbel hb1⟩
set_option maxRecDepth 100000 in
theorem mnext_nat (k lo hi n : Nat) (w : World) (o : Option Nat) (ho : Mk.next k lo hi n = o) (hn : n < 9223372036854775808) (h1 : 1 ≤ k) (h2 : k ≤ 16) (h3 : lo < 2 ^ k) (h4 : hi < 2 ^ k) :
    Calls Try.prog 14 #[maskV (k : Int) (lo : Int) (hi : Int), .int .i64 (n : Int)] w fun e w' => e = .returned (.tuple #[.int .i64 ((o.getD 0 : Nat) : Int), .bool o.isSome]) ∧ Below w.heap.size w w' := by
  have hbel := below_alloc w (.cells #[.int .i64 (k : Int), .int .i64 (lo : Int), .int .i64 (hi : Int)] 27)
  have hq := maskAt_new w (k : Int) (lo : Int) (hi : Int)
  obtain ⟨q0, q1, q2⟩ := maskAt_new w (k : Int) (lo : Int) (hi : Int)
  have hpw := pow16 h2
  have Hb := Lib.hid (And.intro h1 (And.intro h2 (And.intro h3 (And.intro h4 (And.intro (show lo < 65536 by omega) (And.intro (i64_nat (show k < 65536 by omega)) (And.intro (i64_pow h2 h3) (i64_pow h2 h4))))))))
  have Hr : Hid (decide (MRight (k : Int) (lo : Int) (hi : Int)) = true) := Lib.hid (decide_eq_true (mright_nat h1 h2 h3 h4))
  have Ho := Lib.hid ho
  clear h1 h3 h4 ho hpw
  go_enter Try.func14, Try.ntmps14
  go_wp2_with fail
  refine (mright_c k lo hi _ true Hr.out Hb.out.2.2.2.2.2.1 Hb.out.2.2.2.2.2.2.1 Hb.out.2.2.2.2.2.2.2).mono ?_
  rintro e w1 ⟨rfl, hb1⟩
  have hq1 := hq.below hb1 (by simp)
  have hbel1 := Below.andThen hbel hb1
  have hsz : w.heap.size < w1.heap.size := by have := hb1.size; simp at this; omega
  clear q0 q1 q2
  obtain ⟨q0, q1, q2⟩ := hq1
  go_wp2_with fail
  clear q0 q1 q2
  have hq1 := hq.below hb1 (by simp)
  go_loopw [6, 7, 8, 9, 21] (fun _ _ _ _ i wr => ∃ p : Nat, p ≤ k ∧ i = .int .i64 p ∧ (∀ q, q < p → n.testBit q = false → Mk.has k lo hi (Mk.cand lo n q) = false) ∧ Below w1.heap.size w1 wr) (fun _ _ _ _ i _ => k - (intOf i).toNat)
  case atStart => exact ⟨0, Nat.zero_le _, rfl, fun q hq => absurd hq (by omega), Below.refl _ _⟩
  case round =>
    obtain ⟨p, hp, rfl, hno, hbw⟩ := hrel
    have Hno := Lib.hid hno
    clear hno
    have hq2 := hq1.below hbw hsz
    by_cases hlt : p < k
    · have hp16 : p < 16 := by omega
      obtain ⟨e1, e2⟩ := next_bits hn Hb.out.2.2.2.2.1 hp16
      have E1 := Lib.hid e1
      obtain ⟨q0, q1, q2⟩ := hq2
      obtain ⟨t, ht⟩ : ∃ t, n.testBit p = t := ⟨_, rfl⟩
      rw [ht] at e2
      have Ht := Lib.hid ht
      have hcl := Mk.cand_lt hn Hb.out.2.2.2.2.1 hp16
      have Hcl : Hid (I64 ((Mk.cand lo n p : Nat) : Int)) := Lib.hid ⟨by omega, by omega⟩
      clear e1 ht hcl
      cases t
      · obtain ⟨r, hr⟩ : ∃ r, Mk.has k lo hi (Mk.cand lo n p) = r := ⟨_, rfl⟩
        have Hr2 := Lib.hid hr
        clear hr
        have e3 : (bits .and .i64 (n : Int) (wrap64 (2 ^ p)) == 0) = true := e2
        clear e2
        go_wp2_with fail
        rw [E1.out]
        refine (mhas_yes k lo hi _ _ r (by rw [Mk.hasI_nat]; exact Hr2.out) Hb.out.1 Hb.out.2.1 Hb.out.2.2.1 Hb.out.2.2.2.1 Hcl.out).mono ?_
        rintro e w2 ⟨rfl, hb2⟩
        cases r
        · go_wp2_with fail
          go_roundw
          case rel =>
            refine ⟨p + 1, by omega, by go_num, fun q hq hqt => ?_, Below.andThen hbw hb2⟩
            rcases Nat.lt_succ_iff_lt_or_eq.1 hq with c | rfl
            · exact Hno.out q c hqt
            · exact Hr2.out
          case measure => simp [intOf]; omega
        · have hfin : Hid (o = some (Mk.cand lo n p)) := Lib.hid (by rw [← Ho.out]; exact Mk.next_found Hb.out.2.1 Ht.out Hr2.out Hno.out)
          go_wp2_with fail
          go_ret2
          exact ⟨by rw [hfin.out]; rfl, Below.andThen hbel1 (Below.andThen hbw hb2)⟩
      · have e3 : (bits .and .i64 (n : Int) (wrap64 (2 ^ p)) == 0) = false := e2
        clear e2
        go_wp2_with fail
        go_roundw
        case rel =>
          refine ⟨p + 1, by omega, by go_num, fun q hq hqt => ?_, hbw⟩
          rcases Nat.lt_succ_iff_lt_or_eq.1 hq with c | rfl
          · exact Hno.out q c hqt
          · have := Ht.out
            rw [hqt] at this
            simp at this
        case measure => simp [intOf]; omega
    · have hfin : Hid (o = none) := Lib.hid (by rw [← Ho.out]; exact Mk.next_not Hb.out.2.1 (fun q hq hqt => Hno.out q (by omega) hqt))
      clear hq2
      go_wp2_with fail
      go_ret2
      exact ⟨by rw [hfin.out]; rfl, Below.andThen hbel1 hbw⟩
theorem mnext_yes (k lo hi : Nat) (a : Int) (w : World) (o : Option Nat) (ho : nextI k lo hi a = o) (ba : I64 a) (h1 : 1 ≤ k) (h2 : k ≤ 16) (h3 : lo < 2 ^ k) (h4 : hi < 2 ^ k) :
    Calls Try.prog 14 #[maskV (k : Int) (lo : Int) (hi : Int), .int .i64 a] w fun e w' => e = .returned (.tuple #[.int .i64 ((o.getD 0 : Nat) : Int), .bool o.isSome]) ∧ Below w.heap.size w w' := by
  by_cases c : a < 0
  · exact mnext_neg k lo hi a w o ho c h1 h2 h3 h4
  · obtain ⟨n, rfl⟩ : ∃ n : Nat, a = (n : Int) := ⟨a.toNat, by omega⟩
    rw [nextI_nat] at ho
    exact mnext_nat k lo hi n w o ho (by have := ba.2; omega) h1 h2 h3 h4
end Go.Proofs.Ytkkpgfpkeiamaaa
