/-
  CONTRACTS of package mask, third part: alike, halves, leaves.
-/
import Derived.Test.YtkkpgfpkeiamaaaMk1
import Derived.Test.YtkkpgfpkeiamaaaZb
import Derived.Test.YtkkpgfpkeiamaaaBx4
import Derived.Test.YtkkpgfpkeiamaaaBx6
import Derived.BigQuiet
namespace Go.Proofs.Ytkkpgfpkeiamaaa
open Go.ChangeShapes Go.WideShapes Go.ChangeAt Go.RowKit

/-! ### alike -/
theorem malike_yes (A C C' : Option Addr) (n c m d m' d' : Nat) (w : World) (h1 : 1 ≤ n) (h16 : n ≤ 16) (e1 : m = n) (e2 : m' = n) :
    Calls Try.prog 25 #[.slice A n c, boxV C m d C' m' d'] w fun e w' => e = .returned (.bool true) ∧ Below w.heap.size w w' := by
  subst e1 e2
  have hbel := below_alloc w (.cells #[.slice C m' d, .slice C' m' d'] 24)
  obtain ⟨k0, k1⟩ := boxAt_new w C m' d C' m' d'
  go_enter Try.func25, Try.ntmps25
  go_wp2_with fail
  refine (right_yes _ _ _ _ h1 h16).mono ?_
  rintro e w' ⟨rfl, rfl⟩
  go_wp2_with fail
  go_ret
  exact ⟨ret_bool (by simp), hbel⟩
theorem malike_no (A C C' : Option Addr) (n c m d m' d' : Nat) (w : World) (hn : n ≤ maxLen) (h : ¬ ((1 ≤ n ∧ n ≤ 16) ∧ m = n ∧ m' = n)) :
    Calls Try.prog 25 #[.slice A n c, boxV C m d C' m' d'] w fun e w' => e = .returned (.bool false) ∧ Below w.heap.size w w' := by
  have hbel := below_alloc w (.cells #[.slice C m d, .slice C' m' d'] 24)
  obtain ⟨k0, k1⟩ := boxAt_new w C m d C' m' d'
  by_cases c1 : 1 ≤ n ∧ n ≤ 16
  · by_cases c2 : m = n
    · have d1 : ((m : Int) == (n : Int)) = true := by rw [beq_iff_eq]; omega
      have d2 : ((m' : Int) == (n : Int)) = false := by rw [beq_eq_false_iff_ne]; omega
      have H := Lib.hid c1
      clear c1 c2 h hn
      go_enter Try.func25, Try.ntmps25
      go_wp2_with fail
      refine (right_yes _ _ _ _ H.out.1 H.out.2).mono ?_
      rintro e w' ⟨rfl, rfl⟩
      go_wp2_with fail
      go_ret
      exact ⟨ret_bool (by first | rfl | assumption), hbel⟩
    · have d1 : ((m : Int) == (n : Int)) = false := by rw [beq_eq_false_iff_ne]; omega
      have H := Lib.hid c1
      clear c1 c2 h hn
      go_enter Try.func25, Try.ntmps25
      go_wp2_with fail
      refine (right_yes _ _ _ _ H.out.1 H.out.2).mono ?_
      rintro e w' ⟨rfl, rfl⟩
      go_wp2_with fail
      go_ret
      exact ⟨rfl, hbel⟩
  · have Hn := Lib.hid hn
    have H := Lib.hid c1
    clear c1 h hn
    go_enter Try.func25, Try.ntmps25
    go_wp2_with fail
    refine (right_no _ _ _ _ Hn.out H.out).mono ?_
    rintro e w' ⟨rfl, rfl⟩
    go_wp2_with fail
    go_ret
    exact ⟨rfl, hbel⟩

/-! ### halves -/
/-- both halves as a value -/
abbrev halvesV (a b c d : Nat) : Value := .agg #[.int .u64 (a : Int), .int .u64 (b : Int), .int .u64 (c : Int), .int .u64 (d : Int)]
theorem halves_bits (u l : Nat) (hu : u < 18446744073709551616) (hl : l ≤ 63) :
    bits .andNot .u64 (u : Int) (bits .or .u64 (IntKind.u64.wrap (2 ^ l)) (IntKind.u64.wrap (IntKind.u64.wrap (2 ^ l) - 1))) = ((Mk.halfAt u l 0 : Nat) : Int) ∧
    bits .or .u64 ((Mk.halfAt u l 0 : Nat) : Int) (IntKind.u64.wrap (IntKind.u64.wrap (2 ^ l) - 1)) = ((Mk.halfAt u l 0 + (2 ^ l - 1) : Nat) : Int) ∧
    bits .or .u64 ((Mk.halfAt u l 0 : Nat) : Int) (IntKind.u64.wrap (2 ^ l)) = ((Mk.halfAt u l 1 : Nat) : Int) ∧
    bits .or .u64 ((Mk.halfAt u l 1 : Nat) : Int) (IntKind.u64.wrap (IntKind.u64.wrap (2 ^ l) - 1)) = ((Mk.halfAt u l 1 + (2 ^ l - 1) : Nat) : Int) := by
  have hp := Nat.two_pow_pos l
  have h64 := Bx.pow_le_64 (show l + 1 ≤ 64 by omega)
  have b0 := Mk.half_lt (h := 0) hu (show l < 64 by omega) (by omega)
  have b1 := Mk.half_lt (h := 1) hu (show l < 64 by omega) (by omega)
  have e1 : IntKind.u64.wrap (2 ^ l) = ((2 ^ l : Nat) : Int) := by
    rw [Nat.pow_succ] at h64
    rw [show (2 : Int) ^ l = ((2 ^ l : Nat) : Int) by simp, IntKind.wrap_u64]; omega
  have e2 : IntKind.u64.wrap (((2 ^ l : Nat) : Int) - 1) = ((2 ^ l - 1 : Nat) : Int) := by
    rw [Nat.pow_succ] at h64
    rw [IntKind.wrap_u64]; omega
  rw [e1, e2]
  have h64' := h64
  rw [Nat.pow_succ] at h64'
  refine ⟨?_, ?_, ?_, ?_⟩
  · rw [bits_or_u64_nat _ _ (by omega) (by omega), Mk.pow_or, Mk.andNot_u64 _ _ hu (by omega), Mk.less_cut, Mk.half_zero]
  · rw [bits_or_u64_nat _ _ (by omega) (by omega), Mk.half_or]
  · rw [bits_or_u64_nat _ _ (by omega) (by omega), Mk.half_zero, Mk.cut_or, Mk.half_one]
  · rw [bits_or_u64_nat _ _ (by omega) (by omega), Mk.half_or]
theorem mhalves_c (u l : Nat) (w : World) (hu : u < 18446744073709551616) (hl : l ≤ 63) :
    Calls Try.prog 27 #[.int .u64 (u : Int), .int .i64 (l : Int)] w fun e w' =>
      e = .returned (halvesV (Mk.halfAt u l 0) (Mk.halfAt u l 0 + (2 ^ l - 1)) (Mk.halfAt u l 1) (Mk.halfAt u l 1 + (2 ^ l - 1))) ∧ Below w.heap.size w w' := by
  have E := Lib.hid (halves_bits u l hu hl)
  go_enter Try.func27, Try.ntmps27
  go_wp2
  rw [E.out.1, E.out.2.1, E.out.2.2.1, E.out.2.2.2]
  refine bodyPost_ret (v := halvesV (Mk.halfAt u l 0) (Mk.halfAt u l 0 + (2 ^ l - 1)) (Mk.halfAt u l 1) (Mk.halfAt u l 1 + (2 ^ l - 1))) ?_ rfl ⟨rfl, below_alloc _ _⟩
  simp [results, Try.results27, go_sem]

/-! ### leaves -/
theorem mleaves_c (a b c d lo hi : Nat) (w : World) :
    Calls Try.prog 26 #[halvesV a b c d, .agg #[.int .u64 (lo : Int), .int .u64 (hi : Int)]] w fun e w' =>
      e = .returned (.agg #[.bool (decide (max a lo ≤ min b hi)), .bool (decide (max c lo ≤ min d hi))]) ∧ Below w.heap.size w w' := by
  have i0 : ∀ w : World, (Instr.index 58 (halvesV a b c d) (.int .i64 0)).run Try.prog w = .ok (.agg #[.int .u64 (a : Int), .int .u64 (b : Int)]) w := fun _ => by kernel_rfl
  have i1 : ∀ w : World, (Instr.index 58 (halvesV a b c d) (.int .i64 1)).run Try.prog w = .ok (.agg #[.int .u64 (c : Int), .int .u64 (d : Int)]) w := fun _ => by kernel_rfl
  go_enter Try.func26, Try.ntmps26
  go_wp2
  refine wp_loop_rounds 3 ?_
  rw [rounds_succ]
  go_wp2
  rw [rounds_succ]
  go_wp2
  rw [rounds_succ]
  go_wp2
  have e1 : (max (a : Int) (lo : Int) ≤ min (b : Int) (hi : Int)) = (max a lo ≤ min b hi) := propext (by omega)
  have e2 : (max (c : Int) (lo : Int) ≤ min (d : Int) (hi : Int)) = (max c lo ≤ min d hi) := propext (by omega)
  simp only [e1, e2]
  refine bodyPost_ret (v := .agg #[.bool (decide (max a lo ≤ min b hi)), .bool (decide (max c lo ≤ min d hi))]) (by simp [results, Try.results26, go_sem]) rfl ⟨rfl, ?_⟩
  exact (((((below_alloc _ _).alloc (by simp) _).alloc (by simp; omega) _).alloc (by simp; omega) _).alloc (by simp; omega) _).alloc (by simp; omega) _
theorem mleaves_at (u l lo hi : Nat) (w : World) (b0 b1 : Bool) (hb0 : Mk.leaves u l 0 lo hi = b0) (hb1 : Mk.leaves u l 1 lo hi = b1) :
    Calls Try.prog 26 #[halvesV (Mk.halfAt u l 0) (Mk.halfAt u l 0 + (2 ^ l - 1)) (Mk.halfAt u l 1) (Mk.halfAt u l 1 + (2 ^ l - 1)), .agg #[.int .u64 (lo : Int), .int .u64 (hi : Int)]] w fun e w' =>
      e = .returned (.agg #[.bool b0, .bool b1]) ∧ Below w.heap.size w w' := by
  rw [Mk.leaves_max] at hb0 hb1
  subst hb0 hb1
  exact mleaves_c _ _ _ _ lo hi w
end Go.Proofs.Ytkkpgfpkeiamaaa
