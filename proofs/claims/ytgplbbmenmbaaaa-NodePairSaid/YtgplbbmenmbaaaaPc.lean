/-
  PLAIN MATHEMATICS: how many bits of a number of 64 bits are set, as math/bits counts them: in pairs, in fours, in bytes, then all bytes together. Nothing of the program is named here.
-/
import Derived.Lib.Hide
namespace Go.Proofs.Ytgplbbmenmbaaaa.Pc

/-- how many of the lowest n bits are set -/
def ones : Nat → Nat → Nat
  | 0, _ => 0
  | n + 1, x => ones n x + (if x.testBit n = true then 1 else 0)
theorem ones_le (n x : Nat) : ones n x ≤ n := by
  induction n with
  | zero => simp [ones]
  | succ n ih => simp only [ones]; split <;> omega

def p1 (x : Nat) : Nat := (x / 2 &&& 6148914691236517205) + (x &&& 6148914691236517205)
def p2 (x : Nat) : Nat := (x / 4 &&& 3689348814741910323) + (x &&& 3689348814741910323)
def p3 (x : Nat) : Nat := x / 16 + x &&& 1085102592571150095
def p4 (x : Nat) : Nat := x + x / 256
def p5 (x : Nat) : Nat := x + x / 65536
def p6 (x : Nat) : Nat := x + x / 4294967296
def p7 (x : Nat) : Nat := x &&& 127

/-- a byte over and over -/
def rep (m : Nat) : Nat → Nat
  | 0 => 0
  | n + 1 => m + 256 * rep m n
theorem rep_55 : rep 85 8 = 6148914691236517205 := by decide
theorem rep_33 : rep 51 8 = 3689348814741910323 := by decide
theorem rep_0f : rep 15 8 = 1085102592571150095 := by decide

theorem testBit_split {a b : Nat} (ha : a < 256) (i : Nat) : (a + 256 * b).testBit i = if i < 8 then a.testBit i else b.testBit (i - 8) := by
  have h := Nat.testBit_two_pow_mul_add b (b := a) (i := 8) (by simpa using ha) i
  rw [show 2 ^ 8 * b + a = a + 256 * b by omega] at h
  exact h
theorem and_split {a b m M : Nat} (ha : a < 256) (hm : m < 256) : (a + 256 * b) &&& (m + 256 * M) = (a &&& m) + 256 * (b &&& M) := by
  have hl : a &&& m < 256 := Nat.lt_of_le_of_lt Nat.and_le_left ha
  apply Nat.eq_of_testBit_eq
  intro i
  rw [Nat.testBit_and, testBit_split ha, testBit_split hm, testBit_split hl]
  split
  · rw [Nat.testBit_and]
  · rw [Nat.testBit_and]
/-- the low s bits of the byte above are none of the mask's -/
theorem and_low {a t m s : Nat} (hm : m < 2 ^ s) (ha : a < 2 ^ s) : (a + 2 ^ s * t) &&& m = a &&& m := by
  apply Nat.eq_of_testBit_eq
  intro i
  have h := Nat.testBit_two_pow_mul_add t (b := a) (i := s) ha i
  rw [Nat.add_comm] at h
  rw [Nat.testBit_and, Nat.testBit_and, h]
  split
  · rfl
  · rename_i hi
    have : m.testBit i = false := Nat.testBit_lt_two_pow (Nat.lt_of_lt_of_le hm (Nat.pow_le_pow_right (by omega) (by omega)))
    simp [this]

def s1 (n x : Nat) : Nat := (x / 2 &&& rep 85 n) + (x &&& rep 85 n)
def s2 (n x : Nat) : Nat := (x / 4 &&& rep 51 n) + (x &&& rep 51 n)
def s3 (n x : Nat) : Nat := x / 16 + x &&& rep 15 n
theorem s1_step {a b n : Nat} (ha : a < 256) : s1 (n + 1) (a + 256 * b) = ((a / 2 &&& 85) + (a &&& 85)) + 256 * s1 n b := by
  unfold s1
  have e : (a + 256 * b) / 2 = (a / 2 + 2 ^ 7 * (b % 2)) + 256 * (b / 2) := by omega
  rw [e, rep, and_split (by omega) (by omega), and_split ha (by omega), and_low (by omega) (by omega)]
  omega
theorem s2_step {a b n : Nat} (ha : a < 256) : s2 (n + 1) (a + 256 * b) = ((a / 4 &&& 51) + (a &&& 51)) + 256 * s2 n b := by
  unfold s2
  have e : (a + 256 * b) / 4 = (a / 4 + 2 ^ 6 * (b % 4)) + 256 * (b / 4) := by omega
  rw [e, rep, and_split (by omega) (by omega), and_split ha (by omega), and_low (by omega) (by omega)]
  omega
theorem s3_step {a b n : Nat} (ha : a / 16 ≤ 4) (ha' : a % 16 ≤ 4) (hb : b % 16 ≤ 4) : s3 (n + 1) (a + 256 * b) = (a / 16 + a % 16) + 256 * s3 n b := by
  unfold s3
  have e : (a + 256 * b) / 16 + (a + 256 * b) = ((a / 16 + a % 16) + 2 ^ 4 * (b % 16 + a / 16)) + 256 * (b / 16 + b) := by omega
  rw [e, rep, and_split (by omega) (by omega), and_low (by omega) (by omega)]
  have : (a / 16 + a % 16) &&& 15 = a / 16 + a % 16 := by
    have := Nat.and_two_pow_sub_one_eq_mod (a / 16 + a % 16) 4
    rw [show 2 ^ 4 - 1 = 15 from rfl] at this
    rw [this]
    omega
  rw [this]
def b1 (a : Nat) : Nat := (a / 2 &&& 85) + (a &&& 85)
def b2 (a : Nat) : Nat := (a / 4 &&& 51) + (a &&& 51)
theorem byte_all : ∀ a : Fin 256, b1 a.val < 256 ∧ b2 (b1 a.val) / 16 ≤ 4 ∧ b2 (b1 a.val) % 16 ≤ 4 ∧ b2 (b1 a.val) < 256 ∧ b2 (b1 a.val) / 16 + b2 (b1 a.val) % 16 = ones 8 a.val ∧ ones 8 a.val ≤ 8 := by decide +kernel
theorem byte_one {a : Nat} (h : a < 256) : b1 a < 256 ∧ b2 (b1 a) / 16 ≤ 4 ∧ b2 (b1 a) % 16 ≤ 4 ∧ b2 (b1 a) < 256 ∧ b2 (b1 a) / 16 + b2 (b1 a) % 16 = ones 8 a ∧ ones 8 a ≤ 8 := byte_all ⟨a, h⟩
/-- n bytes -/
def cat : List Nat → Nat
  | [] => 0
  | a :: l => a + 256 * cat l
theorem s_cat : ∀ (l : List Nat), (∀ a ∈ l, a < 256) → s3 l.length (s2 l.length (s1 l.length (cat l))) = cat (l.map (ones 8)) ∧ s2 l.length (s1 l.length (cat l)) % 16 ≤ 4
  | [], _ => by simp [cat, s1, s2, s3, rep]
  | a :: l, h => by
    obtain ⟨h1, h2, h3, h4, h5, h6⟩ := byte_one (h a (by simp))
    obtain ⟨i1, i2⟩ := s_cat l (fun x hx => h x (by simp [hx]))
    have e1 : s1 (l.length + 1) (cat (a :: l)) = b1 a + 256 * s1 l.length (cat l) := s1_step (h a (by simp))
    have e2 : s2 (l.length + 1) (b1 a + 256 * s1 l.length (cat l)) = b2 (b1 a) + 256 * s2 l.length (s1 l.length (cat l)) := s2_step h1
    have e3 := s3_step (n := l.length) h2 h3 i2
    rw [List.length_cons, e1, e2]
    refine ⟨?_, by omega⟩
    rw [e3, i1, List.map_cons, cat, h5]
theorem ones_split (n : Nat) {a b : Nat} (ha : a < 256) : ones (8 + n) (a + 256 * b) = ones 8 a + ones n b := by
  induction n with
  | zero =>
    have : ∀ k, k ≤ 8 → ones k (a + 256 * b) = ones k a := by
      intro k
      induction k with
      | zero => intro _; rfl
      | succ k ih =>
        intro hk
        simp only [ones]
        rw [ih (by omega), testBit_split ha, if_pos (show k < 8 by omega)]
    simpa [ones] using this 8 (by omega)
  | succ n ih =>
    rw [← Nat.add_assoc]
    simp only [ones]
    have ht := testBit_split (b := b) ha (8 + n)
    rw [if_neg (by omega), show 8 + n - 8 = n by omega] at ht
    rw [ht]
    have : ones (8 + n) (a + 256 * b) = ones 8 a + ones n b := ih
    simp only [ones] at this ⊢
    omega
theorem sum8 {a b c d e f g h : Nat} (ha : a ≤ 8) (hb : b ≤ 8) (hc : c ≤ 8) (hd : d ≤ 8) (he : e ≤ 8) (hf : f ≤ 8) (hg : g ≤ 8) (hh : h ≤ 8) :
    p7 (p6 (p5 (p4 (cat [a, b, c, d, e, f, g, h])))) = a + b + c + d + e + f + g + h := by
  have e4 : p4 (cat [a, b, c, d, e, f, g, h]) = cat [a + b, b + c, c + d, d + e, e + f, f + g, g + h, h] := by
    simp only [p4, cat]; omega
  have e5 : p5 (cat [a + b, b + c, c + d, d + e, e + f, f + g, g + h, h]) = cat [a + b + c + d, b + c + d + e, c + d + e + f, d + e + f + g, e + f + g + h, f + g + h, g + h, h] := by
    simp only [p5, cat]; omega
  have e6 : p6 (cat [a + b + c + d, b + c + d + e, c + d + e + f, d + e + f + g, e + f + g + h, f + g + h, g + h, h]) = cat [a + b + c + d + e + f + g + h, b + c + d + e + f + g + h, c + d + e + f + g + h, d + e + f + g + h, e + f + g + h, f + g + h, g + h, h] := by
    simp only [p6, cat]; omega
  rw [e4, e5, e6]
  have h7 := Nat.and_two_pow_sub_one_eq_mod (cat [a + b + c + d + e + f + g + h, b + c + d + e + f + g + h, c + d + e + f + g + h, d + e + f + g + h, e + f + g + h, f + g + h, g + h, h]) 7
  rw [show 2 ^ 7 - 1 = 127 from rfl] at h7
  rw [p7, h7]
  simp only [cat]
  omega
theorem cat_of (x : Nat) (h : x < 18446744073709551616) : x = cat [x % 256, x / 256 % 256, x / 65536 % 256, x / 16777216 % 256, x / 4294967296 % 256, x / 1099511627776 % 256, x / 281474976710656 % 256, x / 72057594037927936] := by
  simp only [cat]; omega
theorem ones_all {x : Nat} (h : x < 18446744073709551616) : p7 (p6 (p5 (p4 (p3 (p2 (p1 x)))))) = ones 64 x := by
  have hx := cat_of x h
  have hl : ∀ a ∈ [x % 256, x / 256 % 256, x / 65536 % 256, x / 16777216 % 256, x / 4294967296 % 256, x / 1099511627776 % 256, x / 281474976710656 % 256, x / 72057594037927936], a < 256 := by
    intro a ha
    simp only [List.mem_cons, List.not_mem_nil, or_false] at ha
    omega
  generalize x % 256 = a0 at *
  generalize x / 256 % 256 = a1 at *
  generalize x / 65536 % 256 = a2 at *
  generalize x / 16777216 % 256 = a3 at *
  generalize x / 4294967296 % 256 = a4 at *
  generalize x / 1099511627776 % 256 = a5 at *
  generalize x / 281474976710656 % 256 = a6 at *
  generalize x / 72057594037927936 = a7 at *
  have g : ∀ {a}, a ∈ [a0, a1, a2, a3, a4, a5, a6, a7] → ones 8 a ≤ 8 := fun ha => (byte_one (hl _ ha)).2.2.2.2.2
  have hs := (s_cat _ hl).1
  rw [show [a0, a1, a2, a3, a4, a5, a6, a7].length = 8 from rfl] at hs
  have e : p3 (p2 (p1 x)) = s3 8 (s2 8 (s1 8 x)) := by
    unfold p1 p2 p3 s1 s2 s3
    rw [rep_55, rep_33, rep_0f]
  rw [e, hx, hs]
  simp only [List.map_cons, List.map_nil]
  rw [sum8 (g (by simp)) (g (by simp)) (g (by simp)) (g (by simp)) (g (by simp)) (g (by simp)) (g (by simp)) (g (by simp))]
  have l0 := hl a0 (by simp)
  have l1 := hl a1 (by simp)
  have l2 := hl a2 (by simp)
  have l3 := hl a3 (by simp)
  have l4 := hl a4 (by simp)
  have l5 := hl a5 (by simp)
  have l6 := hl a6 (by simp)
  have l7 := hl a7 (by simp)
  have o0 := ones_split 56 (b := cat [a1, a2, a3, a4, a5, a6, a7]) l0
  have o1 := ones_split 48 (b := cat [a2, a3, a4, a5, a6, a7]) l1
  have o2 := ones_split 40 (b := cat [a3, a4, a5, a6, a7]) l2
  have o3 := ones_split 32 (b := cat [a4, a5, a6, a7]) l3
  have o4 := ones_split 24 (b := cat [a5, a6, a7]) l4
  have o5 := ones_split 16 (b := cat [a6, a7]) l5
  have o6 := ones_split 8 (b := cat [a7]) l6
  have o7 := ones_split 0 (b := 0) l7
  have z : ones 0 0 = 0 := rfl
  show _ = ones 64 (a0 + 256 * cat [a1, a2, a3, a4, a5, a6, a7])
  rw [show (64 : Nat) = 8 + 56 from rfl, o0]
  rw [show cat [a1, a2, a3, a4, a5, a6, a7] = a1 + 256 * cat [a2, a3, a4, a5, a6, a7] from rfl, show (56 : Nat) = 8 + 48 from rfl, o1]
  rw [show cat [a2, a3, a4, a5, a6, a7] = a2 + 256 * cat [a3, a4, a5, a6, a7] from rfl, show (48 : Nat) = 8 + 40 from rfl, o2]
  rw [show cat [a3, a4, a5, a6, a7] = a3 + 256 * cat [a4, a5, a6, a7] from rfl, show (40 : Nat) = 8 + 32 from rfl, o3]
  rw [show cat [a4, a5, a6, a7] = a4 + 256 * cat [a5, a6, a7] from rfl, show (32 : Nat) = 8 + 24 from rfl, o4]
  rw [show cat [a5, a6, a7] = a5 + 256 * cat [a6, a7] from rfl, show (24 : Nat) = 8 + 16 from rfl, o5]
  rw [show cat [a6, a7] = a6 + 256 * cat [a7] from rfl, show (16 : Nat) = 8 + 8 from rfl, o6]
  rw [show cat [a7] = a7 + 256 * 0 from rfl, show ones 8 (a7 + 256 * 0) = ones (8 + 0) (a7 + 256 * 0) from rfl, o7]
  omega
/-- bounds, step by step -/
theorem p1_lt {x : Nat} : p1 x < 18446744073709551616 := by
  have := Nat.and_le_right (n := x / 2) (m := 6148914691236517205)
  have := Nat.and_le_right (n := x) (m := 6148914691236517205)
  unfold p1; omega
theorem p2_lt {x : Nat} : p2 x < 8000000000000000000 := by
  have := Nat.and_le_right (n := x / 4) (m := 3689348814741910323)
  have := Nat.and_le_right (n := x) (m := 3689348814741910323)
  unfold p2; omega
theorem p3_lt {x : Nat} : p3 x < 1100000000000000000 := by
  have := Nat.and_le_right (n := x / 16 + x) (m := 1085102592571150095)
  unfold p3; omega
end Go.Proofs.Ytgplbbmenmbaaaa.Pc
