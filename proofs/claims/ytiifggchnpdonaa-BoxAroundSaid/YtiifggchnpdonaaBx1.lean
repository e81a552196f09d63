/-
  CONTRACTS of package box, first part: alike, Right, isEmpty, Empty, sum, product, difference.
-/
import Derived.Test.YtiifggchnpdonaaBase
import Derived.Test.YtiifggchnpdonaaZb
import Derived.Test.YtiifggchnpdonaaBm
import Derived.BigQuiet
import Derived.Lib.Mul64
import Derived.Laws.Bits64b
namespace Go.Proofs.Ytiifggchnpdonaa
open Go.ChangeShapes Go.WideShapes Go.ChangeAt Go.RowKit

/-- a box as a value -/
abbrev boxV (A : Option Addr) (n c : Nat) (A' : Option Addr) (n' c' : Nat) : Value := .agg #[.slice A n c, .slice A' n' c']
/-- block b holds the box -/
def BoxAt (w : World) (b : Nat) (A : Option Addr) (n c : Nat) (A' : Option Addr) (n' c' : Nat) : Prop :=
  w.cell? ⟨b, 0, none⟩ = some (.slice A n c) ∧ w.cell? ⟨b, 1, none⟩ = some (.slice A' n' c')
theorem boxAt_new (w : World) (A : Option Addr) (n c : Nat) (A' : Option Addr) (n' c' : Nat) : BoxAt (w.alloc (.cells #[.slice A n c, .slice A' n' c'] 24)) w.heap.size A n c A' n' c' :=
  ⟨by rw [World.cell?_alloc_new]; rfl, by rw [World.cell?_alloc_new]; rfl⟩
theorem BoxAt.below {w w' : World} {b C : Nat} {A : Option Addr} {n c : Nat} {A' : Option Addr} {n' c' : Nat} (h : BoxAt w b A n c A' n' c') (hb : Below C w w') (hC : b < C) : BoxAt w' b A n c A' n' c' :=
  ⟨(hb.cell (p := ⟨b, 0, none⟩) hC).trans h.1, (hb.cell (p := ⟨b, 1, none⟩) hC).trans h.2⟩
theorem below_drewN {B : Nat} {a w : World} (n : Nat) (h : Below B a w) : Below B a (w.drewN n) := ⟨h.os, h.tape, h.output, h.size, h.block⟩
theorem below_alloc (w : World) (o : Obj) : Below w.heap.size w (w.alloc o) := (Below.refl _ _).alloc (Nat.le_refl _) o

/-! ### alike -/
theorem balike_c (A A' : Option Addr) (n c n' c' : Nat) (w : World) (hn : n ≤ maxLen) :
    Calls Try.prog 32 #[.slice A n c, .slice A' n' c'] w fun e w' => e = .returned (.bool (decide ((1 ≤ n ∧ n ≤ 16) ∧ n = n'))) ∧ w = w' := by
  by_cases h : 1 ≤ n ∧ n ≤ 16
  · obtain ⟨h1, h2⟩ := h
    unfold maxLen at hn
    go_enter Try.func32, Try.ntmps32
    go_wp2_with (go_at_call 37; refine (right_yes _ _ _ _ h1 h2).mono ?_; rintro e w' ⟨rfl, rfl⟩)
    all_goals go_ret
    all_goals refine ⟨ret_bool ?_, rfl⟩
    all_goals rw [Bool.eq_iff_iff]
    all_goals simp
    all_goals omega
  · have Hn := Lib.hid hn
    have H := Lib.hid h
    clear h
    unfold maxLen at hn
    go_enter Try.func32, Try.ntmps32
    go_wp2_with (go_at_call 37; refine (right_no _ _ _ _ Hn.out H.out).mono ?_; rintro e w' ⟨rfl, rfl⟩)
    all_goals go_ret
    all_goals refine ⟨ret_bool ?_, rfl⟩
    have := H.out
    rw [Bool.eq_iff_iff]
    simp
    omega
theorem balike_yes (A A' : Option Addr) (n c n' c' : Nat) (w : World) (h1 : 1 ≤ n) (h16 : n ≤ 16) (h : n = n') :
    Calls Try.prog 32 #[.slice A n c, .slice A' n' c'] w fun e w' => e = .returned (.bool true) ∧ w = w' :=
  (balike_c A A' n c n' c' w (by unfold maxLen; omega)).mono fun _ _ ⟨he, hw⟩ => ⟨by rw [he, decide_eq_true ⟨⟨h1, h16⟩, h⟩], hw⟩
theorem balike_no (A A' : Option Addr) (n c n' c' : Nat) (w : World) (hn : n ≤ maxLen) (h : ¬ ((1 ≤ n ∧ n ≤ 16) ∧ n = n')) :
    Calls Try.prog 32 #[.slice A n c, .slice A' n' c'] w fun e w' => e = .returned (.bool false) ∧ w = w' :=
  (balike_c A A' n c n' c' w hn).mono fun _ _ ⟨he, hw⟩ => ⟨by rw [he, decide_eq_false h], hw⟩

/-! ### Right -/
theorem bright_yes (A A' : Option Addr) (n c n' c' : Nat) (w : World) (h1 : 1 ≤ n) (h16 : n ≤ 16) (h : n = n') :
    Calls Try.prog 15 #[boxV A n c A' n' c'] w fun e w' => e = .returned (.bool true) ∧ w' = w.alloc (.cells #[.slice A n c, .slice A' n' c'] 24) := by
  have H := Lib.hid h
  clear h
  go_enter Try.func15, Try.ntmps15
  go_wp2_with (go_at_call 32; refine (balike_yes _ _ _ _ _ _ _ h1 h16 H.out).mono ?_; rintro e w' ⟨rfl, rfl⟩)
  go_ret
  exact ⟨rfl, rfl⟩
theorem bright_no (A A' : Option Addr) (n c n' c' : Nat) (w : World) (hn : n ≤ maxLen) (h : ¬ ((1 ≤ n ∧ n ≤ 16) ∧ n = n')) :
    Calls Try.prog 15 #[boxV A n c A' n' c'] w fun e w' => e = .returned (.bool false) ∧ w' = w.alloc (.cells #[.slice A n c, .slice A' n' c'] 24) := by
  have H := Lib.hid h
  have Hn := Lib.hid hn
  clear h hn
  go_enter Try.func15, Try.ntmps15
  go_wp2_with (go_at_call 32; refine (balike_no _ _ _ _ _ _ _ Hn.out H.out).mono ?_; rintro e w' ⟨rfl, rfl⟩)
  go_ret
  exact ⟨rfl, rfl⟩

/-! ### sum, product, difference -/
theorem bsum_c (x y : Nat) (w : World) (hx : x < 18446744073709551616) (hy : y < 18446744073709551616) :
    Calls Try.prog 31 #[.int .u64 (x : Int), .int .u64 (y : Int)] w fun e w' => e = .returned (.int .u64 ((min 18446744073709551615 (x + y) : Nat) : Int)) ∧ w = w' := by
  go_enter Try.func31, Try.ntmps31
  go_wp2
  all_goals go_ret
  all_goals refine ⟨ret_int ?_, rfl⟩
  all_goals omega
theorem bdif_c (x y : Nat) (w : World) (hx : x < 18446744073709551616) (hy : y < 18446744073709551616) :
    Calls Try.prog 35 #[.int .u64 (x : Int), .int .u64 (y : Int)] w fun e w' => e = .returned (.int .u64 ((Bx.dif x y : Nat) : Int)) ∧ w = w' := by
  go_enter Try.func35, Try.ntmps35
  go_wp2
  all_goals go_ret
  all_goals refine ⟨ret_int ?_, rfl⟩
  all_goals unfold Bx.dif
  all_goals omega
theorem maskN (a : Nat) (ha : a < 18446744073709551616) : bits .and .u64 (a : Int) 4294967295 = ((a % 4294967296 : Nat) : Int) := by
  have h := bits_and_u64_nat a 4294967295 ha (by omega)
  have e : a &&& 4294967295 = a % 4294967296 := Nat.and_two_pow_sub_one_eq_mod a 32
  rw [e] at h
  exact h
theorem divN (a : Nat) : (a : Int) / 4294967296 = ((a / 4294967296 : Nat) : Int) := by omega
theorem mulN (a b : Nat) : (a : Int) * (b : Int) = ((a * b : Nat) : Int) := (Int.natCast_mul a b).symm
theorem addN (a b : Nat) : (a : Int) + (b : Int) = ((a + b : Nat) : Int) := (Int.natCast_add a b).symm
theorem wrapN (a : Nat) (ha : a < 18446744073709551616) : IntKind.u64.wrap (a : Int) = (a : Int) := by rw [IntKind.wrap_u64]; omega
theorem wrapM (a : Nat) : IntKind.u64.wrap (a : Int) = ((a % 18446744073709551616 : Nat) : Int) := by rw [IntKind.wrap_u64]; omega
set_option maxHeartbeats 1000000 in
theorem mul64_c (x y : Nat) (hx : x < 18446744073709551616) (hy : y < 18446744073709551616) (w : World) :
    Calls Try.prog 44 #[.int .u64 x, .int .u64 y] w fun e w' => e = .returned (.tuple #[.int .u64 ((x * y / 18446744073709551616 : Nat) : Int), .int .u64 ((x * y % 18446744073709551616 : Nat) : Int)]) ∧ w = w' := by
  obtain ⟨bd, bt, bw, hhi⟩ := Lib.mul64_hi x y hx hy
  have ba := Lib.half_mul_le (a := x / 4294967296) (b := y / 4294967296) (by omega) (by omega)
  have bb := Lib.half_mul_le (a := x / 4294967296) (b := y % 4294967296) (by omega) (by omega)
  have bc := Lib.half_mul_le (a := x % 4294967296) (b := y / 4294967296) (by omega) (by omega)
  have ba' : x / 4294967296 * (y / 4294967296) < 18446744073709551616 := by omega
  have bb' : x / 4294967296 * (y % 4294967296) < 18446744073709551616 := by omega
  have bc' : x % 4294967296 * (y / 4294967296) < 18446744073709551616 := by omega
  have bh1 : x / 4294967296 * (y / 4294967296) + (x / 4294967296 * (y % 4294967296) + x % 4294967296 * (y % 4294967296) / 4294967296) / 4294967296 < 18446744073709551616 := by omega
  have bh : x / 4294967296 * (y / 4294967296) + (x / 4294967296 * (y % 4294967296) + x % 4294967296 * (y % 4294967296) / 4294967296) / 4294967296 + ((x / 4294967296 * (y % 4294967296) + x % 4294967296 * (y % 4294967296) / 4294967296) % 4294967296 + x % 4294967296 * (y / 4294967296)) / 4294967296 < 18446744073709551616 := by omega
  go_enter Try.func44, Try.ntmps44
  go_wp2
  simp only [maskN x hx, maskN y hy, divN, mulN, addN, wrapN _ bd, wrapN _ bb', wrapN _ bt, maskN _ bt, wrapN _ bc', wrapN _ bw, wrapN _ ba', wrapN _ bh1, wrapN _ bh, wrapM (x * y)]
  rw [hhi]
  go_ret2
  exact ⟨rfl, rfl⟩
theorem bproduct_c (x y : Nat) (w : World) (hx : x < 18446744073709551616) (hy : y < 18446744073709551616) :
    Calls Try.prog 30 #[.int .u64 (x : Int), .int .u64 (y : Int)] w fun e w' => e = .returned (.int .u64 ((min 18446744073709551615 (x * y) : Nat) : Int)) ∧ w = w' := by
  have hm := Lib.hid (mul64_c x y hx hy)
  obtain ⟨q, hq⟩ : ∃ q, x * y = q := ⟨_, rfl⟩
  have Hq := Lib.hid hq
  rw [hq] at hm ⊢
  clear hq
  by_cases h0 : q / 18446744073709551616 = 0
  · have hd : ¬ (0 < q / 18446744073709551616) := by omega
    have hr : Hid (q % 18446744073709551616 = min 18446744073709551615 q) := Lib.hid (by omega)
    clear h0
    generalize q / 18446744073709551616 = hi at *
    generalize q % 18446744073709551616 = lo at *
    go_enter Try.func30, Try.ntmps30
    go_wp2_with (go_at_call 44; refine (hm.out _).mono ?_; rintro e w' ⟨rfl, rfl⟩)
    go_ret
    exact ⟨ret_int (by rw [hr.out]), rfl⟩
  · have hd : 0 < q / 18446744073709551616 := by omega
    have hr : Hid (18446744073709551615 = min 18446744073709551615 q) := Lib.hid (by omega)
    clear h0
    generalize q / 18446744073709551616 = hi at *
    generalize q % 18446744073709551616 = lo at *
    go_enter Try.func30, Try.ntmps30
    go_wp2_with (go_at_call 44; refine (hm.out _).mono ?_; rintro e w' ⟨rfl, rfl⟩)
    go_ret
    exact ⟨ret_int (by rw [← hr.out]; rfl), rfl⟩
end Go.Proofs.Ytiifggchnpdonaa
