/-
  CONTRACTS of package zbits (the program's code): each call returns what the plain functions of 'Zm' say.
-/
import Derived.Test.YtkkpgfpkeiamaaaBase
import Derived.Test.YtkkpgfpkeiamaaaLen
namespace Go.Proofs.Ytkkpgfpkeiamaaa
open Go.ChangeShapes Go.WideShapes Go.ChangeAt Go.RowKit

theorem and_one (x : Nat) (hx : x < 18446744073709551616) : bits .and .u64 (x : Int) 1 = ((x % 2 : Nat) : Int) := by
  have h := bits_and_u64_nat x 1 hx (by omega)
  rw [Nat.and_one_is_mod] at h
  exact h
theorem or_i64 (a b : Nat) (ha : a < 9223372036854775808) (hb : b < 9223372036854775808) : bits .or .i64 (a : Int) (b : Int) = ((a ||| b : Nat) : Int) := by
  have hx : a ||| b < 2 ^ 63 := Nat.or_lt_two_pow (by omega) (by omega)
  have h1 : (BitVec.ofInt 64 (a : Int)).toNat = a := by
    rw [BitVec.ofInt_natCast, BitVec.toNat_ofNat]; exact Nat.mod_eq_of_lt (by omega)
  have h2 : (BitVec.ofInt 64 (b : Int)).toNat = b := by
    rw [BitVec.ofInt_natCast, BitVec.toNat_ofNat]; exact Nat.mod_eq_of_lt (by omega)
  show IntKind.i64.wrap ((BitVec.ofInt 64 (a : Int) ||| BitVec.ofInt 64 (b : Int)).toNat : Int) = _
  rw [BitVec.toNat_or, h1, h2, IntKind.wrap_i64]
  omega
theorem shr_cast (u l : Nat) : (u : Int) / 2 ^ l = ((u / 2 ^ l : Nat) : Int) := by simp
theorem bit_and (u l : Nat) (hu : u < 18446744073709551616) : bits .and .u64 ((u : Int) / 2 ^ l) 1 = (Z.bit u l : Int) := by
  rw [shr_cast, and_one _ (Nat.lt_of_le_of_lt (Nat.div_le_self _ _) hu)]; rfl
theorem addr_step (a u l : Nat) (ha : a < 65536) (hu : u < 18446744073709551616) :
    bits .or .i64 ((a : Int) * 2) (wrap64 (bits .and .u64 ((u : Int) / 2 ^ l) 1)) = ((2 * a + Z.bit u l : Nat) : Int) := by
  have hb := Z.bit_lt u l
  rw [bit_and u l hu, IntWalk.wrap64_in _ (by omega), show (a : Int) * 2 = ((2 * a : Nat) : Int) by omega, or_i64 _ _ (by omega) (by omega)]
  congr 1
  have e : 2 * a ||| Z.bit u l = 2 * a + Z.bit u l := by
    have := Nat.two_pow_add_eq_or_of_lt (i := 1) (b := Z.bit u l) (by simpa using hb) a
    simpa using this.symm
  exact e

theorem right_c (A : Option Addr) (n c : Nat) (w : World) (hn : n ≤ maxLen) :
    Calls Try.prog 35 #[.slice A n c] w fun e w' => e = .returned (.bool (decide (1 ≤ n ∧ n ≤ 16))) ∧ w = w' := by
  unfold maxLen at hn
  go_enter Try.func35, Try.ntmps35
  go_wp2
  all_goals go_ret
  all_goals refine ⟨ret_bool ?_, rfl⟩
  all_goals rw [Bool.eq_iff_iff]
  all_goals simp
  all_goals omega
theorem right_yes (A : Option Addr) (n c : Nat) (w : World) (h1 : 1 ≤ n) (h16 : n ≤ 16) :
    Calls Try.prog 35 #[.slice A n c] w fun e w' => e = .returned (.bool true) ∧ w = w' :=
  (right_c A n c w (by unfold maxLen; omega)).mono fun _ _ ⟨he, hw⟩ => ⟨by rw [he, decide_eq_true ⟨h1, h16⟩], hw⟩
theorem right_no (A : Option Addr) (n c : Nat) (w : World) (hn : n ≤ maxLen) (h : ¬ (1 ≤ n ∧ n ≤ 16)) :
    Calls Try.prog 35 #[.slice A n c] w fun e w' => e = .returned (.bool false) ∧ w = w' :=
  (right_c A n c w hn).mono fun _ _ ⟨he, hw⟩ => ⟨by rw [he, decide_eq_false h], hw⟩

theorem xor_step (x u v : Nat) (hx : x < 18446744073709551616) (hu : u < 18446744073709551616) (hv : v < 18446744073709551616) :
    bits .or .u64 (x : Int) (bits .xor .u64 (u : Int) (v : Int)) = ((x ||| (u ^^^ v) : Nat) : Int) := by
  rw [bits_xor_u64_nat u v hu hv]
  have h : u ^^^ v < 2 ^ 64 := Nat.xor_lt_two_pow (by omega) (by omega)
  exact bits_or_u64_nat x _ hx (by omega)

/-! ### Addr -/
/-! ### Cut -/
theorem keep_nat (k : Nat) (hk : k ≤ 64) : IntKind.u64.wrap (18446744073709551615 * 2 ^ k) = ((18446744073709551616 - 2 ^ k : Nat) : Int) := by
  have hp : 2 ^ k ≤ 2 ^ 64 := Nat.pow_le_pow_right (by omega) hk
  have e : (18446744073709551615 : Int) * 2 ^ k = ((18446744073709551615 * 2 ^ k : Nat) : Int) := by simp
  rw [e, IntKind.wrap_u64]
  have h1 : 0 < 2 ^ k := Nat.two_pow_pos k
  generalize 2 ^ k = p at *
  omega
theorem cut_and (u k : Nat) (hu : u < 18446744073709551616) (hk : k ≤ 64) : u &&& (18446744073709551616 - 2 ^ k) = Z.cutN u k := by
  apply Nat.eq_of_testBit_eq
  intro m
  rw [Z.cutN_testBit, Nat.testBit_and, show (18446744073709551616 : Nat) = 2 ^ 64 from rfl]
  by_cases hm : m < 64
  · have e : 2 ^ 64 - 2 ^ k = 2 ^ 64 - (2 ^ k - 1 + 1) := by have := Nat.two_pow_pos k; omega
    rw [e, Nat.testBit_two_pow_sub_succ (by have := Nat.two_pow_pos k; have := Nat.pow_le_pow_right (n := 2) (by omega) hk; omega), Nat.testBit_two_pow_sub_one]
    by_cases h : k ≤ m
    · simp [hm, h, show ¬ m < k by omega]
    · simp [h, show m < k by omega]
  · have : u.testBit m = false := Nat.testBit_lt_two_pow (Nat.lt_of_lt_of_le hu (by have := Nat.pow_le_pow_right (n := 2) (by omega) (show 64 ≤ m by omega); omega))
    simp [this]
theorem cut_bits (u k : Nat) (hu : u < 18446744073709551616) (hk : k ≤ 64) : bits .and .u64 (u : Int) (IntKind.u64.wrap (18446744073709551615 * 2 ^ k)) = (Z.cutN u k : Int) := by
  rw [keep_nat k hk, bits_and_u64_nat u _ hu (by have := Nat.two_pow_pos k; omega), cut_and u k hu hk]

theorem wrap_pow (n : Nat) (h : n ≤ 16) : wrap64 (2 ^ n) = ((2 ^ n : Nat) : Int) := by
  have hp : 2 ^ n ≤ 2 ^ 16 := Nat.pow_le_pow_right (by omega) h
  have e : (2 : Int) ^ n = ((2 ^ n : Nat) : Int) := by simp
  rw [e]
  generalize 2 ^ n = p at *
  exact IntWalk.wrap64_in _ (by omega)
theorem and_i64_one (x : Nat) (hx : x < 9223372036854775808) : bits .and .i64 (x : Int) 1 = ((x % 2 : Nat) : Int) := by
  have h1 : (BitVec.ofInt 64 (x : Int)).toNat = x := by
    rw [BitVec.ofInt_natCast, BitVec.toNat_ofNat]; exact Nat.mod_eq_of_lt (by omega)
  show IntKind.i64.wrap ((BitVec.ofInt 64 (x : Int) &&& BitVec.ofInt 64 1).toNat : Int) = _
  rw [BitVec.toNat_and, h1, show (BitVec.ofInt 64 1).toNat = 1 from rfl, Nat.and_one_is_mod, IntKind.wrap_i64]
  omega
theorem place_bits (u a l s : Nat) (hu : u < 18446744073709551616) (ha : a < 65536) (hl : l ≤ 63) :
    bits .or .u64 (Z.cutN u (l + 1) : Int) (IntKind.u64.wrap (IntKind.u64.wrap (bits .and .i64 ((a : Int) / 2 ^ s) 1) * 2 ^ l)) = ((Z.cutN u (l + 1) + Z.bit a s * 2 ^ l : Nat) : Int) := by
  have hb := Z.bit_lt a s
  have hlt := Z.placeN_lt u l _ hu (by omega) hb
  have hq : a / 2 ^ s < 65536 := Nat.lt_of_le_of_lt (Nat.div_le_self _ _) ha
  rw [shr_cast, and_i64_one _ (by omega), show a / 2 ^ s % 2 = Z.bit a s from rfl]
  have e1 : IntKind.u64.wrap (Z.bit a s : Int) = (Z.bit a s : Int) := IntWalk.u64_in _ (by omega)
  rw [e1, show (Z.bit a s : Int) * 2 ^ l = ((Z.bit a s * 2 ^ l : Nat) : Int) by simp]
  have e2 : IntKind.u64.wrap ((Z.bit a s * 2 ^ l : Nat) : Int) = ((Z.bit a s * 2 ^ l : Nat) : Int) := IntWalk.u64_in _ ⟨Int.natCast_nonneg _, by omega⟩
  have hp2 : Z.bit a s * 2 ^ l < 2 ^ (l + 1) := by
    rw [Nat.pow_succ, Nat.mul_comm (2 ^ l) 2]
    exact Nat.mul_lt_mul_of_pos_right hb (Nat.two_pow_pos l)
  rw [e2, bits_or_u64_nat _ _ (by omega) (by omega), nat_join (l + 1) _ _ (by unfold Z.cutN; exact Nat.mul_mod_left _ _) hp2]
/-! ### Cut -/
end Go.Proofs.Ytkkpgfpkeiamaaa
