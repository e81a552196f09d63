/-
  CONTRACTS of package box, sixth part: Around and Cell.
-/
import Derived.Test.YtiifggchnpdonaaBx5
namespace Go.Proofs.Ytiifggchnpdonaa
open Go.ChangeShapes Go.WideShapes Go.ChangeAt Go.RowKit

theorem bsum_q (x y : Nat) (w : World) (hx : x < 18446744073709551616) (hy : y < 18446744073709551616) :
    Calls Try.prog 31 #[.int .u64 (x : Int), .int .u64 (y : Int)] w fun e w' => e = .returned (.int .u64 ((min 18446744073709551615 (x + y) : Nat) : Int)) ∧ w' = w :=
  (bsum_c x y w hx hy).mono fun _ _ ⟨h, k⟩ => ⟨h, k.symm⟩
set_option maxRecDepth 100000 in
theorem aroundEnds_c (A : Option Addr) (c : Nat) (us : List Nat) (n i b1 b2 B : Nat) (w : World) (hi : i < us.length) (h16 : us.length ≤ 16) (hn : n < 18446744073709551616)
    (x1 : w.cell? ⟨b1, 0, none⟩ = some (.slice A us.length c)) (x2 : w.cell? ⟨b2, 0, none⟩ = some (.int .u64 (n : Int))) (p1 : Pts w B A us) :
    Calls Try.prog 38 #[.int .i64 (i : Int), .pointer (some ⟨b1, 0, none⟩), .pointer (some ⟨b2, 0, none⟩)] w fun e w' => e = .returned (.tuple #[.int .u64 ((Bx.g us i - n : Nat) : Int), .int .u64 ((min 18446744073709551615 (Bx.g us i + n) : Nat) : Int)]) ∧ ∃ n, w' = w.drewN n := by
  obtain ⟨s1, o1, hA, _, c1⟩ := p1.at (by omega)
  subst hA
  have q1 := c1 i (by omega)
  have g1 := Bx.g_lt p1.ok i
  have hm : Hid ((Bx.g us i : Int) - min (Bx.g us i : Int) (n : Int) = ((Bx.g us i - n : Nat) : Int)) := Lib.hid (by omega)
  clear c1 p1
  generalize Bx.g us i = a at *
  go_enter Try.func38, Try.ntmps38
  go_wp2
  go_quiet (first | (go_at_call 31; exact Calls.quiet_of_same (bsum_q a n _ g1 hn)))
  go_wp2
  go_ret2
  exact ⟨by simp [hm.out], _, rfl⟩

theorem not_keep (k : Nat) (hk : k ≤ 64) : bits .xor .u64 18446744073709551615 (IntKind.u64.wrap (18446744073709551615 * 2 ^ k)) = ((2 ^ k - 1 : Nat) : Int) := by
  have hp := Nat.two_pow_pos k
  have hp2 := Bx.pow_le_64 hk
  rw [keep_nat k hk]
  have h := bits_xor_u64_nat 18446744073709551615 (18446744073709551616 - 2 ^ k) (by omega) (by omega)
  have e : (18446744073709551615 : Nat) ^^^ (18446744073709551616 - 2 ^ k) = 2 ^ k - 1 := by
    apply Nat.eq_of_testBit_eq
    intro m
    rw [Nat.testBit_xor, show (18446744073709551615 : Nat) = 2 ^ 64 - 1 from rfl, Nat.testBit_two_pow_sub_one, show (18446744073709551616 : Nat) = 2 ^ 64 from rfl, show 2 ^ 64 - 2 ^ k = 2 ^ 64 - (2 ^ k - 1 + 1) by omega,
      Nat.testBit_two_pow_sub_succ (by omega), Nat.testBit_two_pow_sub_one]
    by_cases h1 : m < k
    · simp [h1, show m < 64 by omega]
    · by_cases h2 : m < 64 <;> simp [h1, h2]
  rw [e] at h
  exact h
theorem or_cell (u k : Nat) (hu : u < 18446744073709551616) (hk : k ≤ 64) : bits .or .u64 (Z.cutN u k : Int) ((2 ^ k - 1 : Nat) : Int) = ((Z.cutN u k + (2 ^ k - 1) : Nat) : Int) := by
  have hp := Nat.two_pow_pos k
  have hp2 := Bx.pow_le_64 hk
  rw [bits_or_u64_nat _ _ (Nat.lt_of_le_of_lt (Z.cutN_le _ _) hu) (by omega), nat_join k _ _ (by unfold Z.cutN; exact Nat.mul_mod_left _ _) (by omega)]
set_option maxRecDepth 100000 in
theorem cellEnds_c (A : Option Addr) (c : Nat) (us : List Nat) (k i b1 b2 B : Nat) (w : World) (hi : i < us.length) (h16 : us.length ≤ 16) (hk : k ≤ 64) (hok : Z.Ok us)
    (x1 : w.cell? ⟨b1, 0, none⟩ = some (.slice A us.length c)) (x2 : w.cell? ⟨b2, 0, none⟩ = some (.int .u64 ((2 ^ k - 1 : Nat) : Int))) (p1 : Pts w B A (Z.cut us k)) :
    Calls Try.prog 40 #[.int .i64 (i : Int), .pointer (some ⟨b1, 0, none⟩), .pointer (some ⟨b2, 0, none⟩)] w fun e w' => e = .returned (.tuple #[.int .u64 (Z.cutN (Bx.g us i) k : Int), .int .u64 ((Z.cutN (Bx.g us i) k + (2 ^ k - 1) : Nat) : Int)]) ∧ ∃ n, w' = w.drewN n := by
  obtain ⟨s1, o1, hA, _, c1⟩ := p1.at (by rw [Z.cut_length]; omega)
  subst hA
  have q1 := c1 i (by rw [Z.cut_length]; omega)
  rw [Bx.g_cut k hi] at q1
  have hor := Lib.hid (or_cell (Bx.g us i) k (Bx.g_lt hok i) hk)
  clear c1 p1 hok
  generalize Z.cutN (Bx.g us i) k = a at *
  generalize 2 ^ k - 1 = q at *
  go_enter Try.func40, Try.ntmps40
  go_wp2
  go_quiet (fail)
  go_wp2
  go_ret2
  exact ⟨by rw [hor.out]; rfl, _, rfl⟩

/-! ### Around -/
/-- the memory of Around: the point, the number, and the result's block -/
def ASt (A : Option Addr) (n c m : Nat) (w wr : World) : Prop :=
  Below w.heap.size w wr ∧ w.heap.size + 3 ≤ wr.heap.size ∧ wr.cell? ⟨w.heap.size, 0, none⟩ = some (.slice A n c) ∧ wr.cell? ⟨w.heap.size + 1, 0, none⟩ = some (.int .u64 (m : Int)) ∧ Bx0 wr (w.heap.size + 2) (.slice none 0 0) (.slice none 0 0)
theorem ASt.new (A : Option Addr) (n c m : Nat) (w : World) :
    ASt A n c m w (((w.alloc (.cells #[.slice A n c] 22)).alloc (.cells #[.int .u64 (m : Int)] 30)).alloc (.cells #[.slice none 0 0, .slice none 0 0] 24)) := by
  refine ⟨((below_alloc _ _).alloc (by simp) _).alloc (by simp; omega) _, by simp, ?_, ?_, ?_⟩
  · exact cell_of_one (heap_past (.cells #[.slice none 0 0, .slice none 0 0] 24) (heap_past (.cells #[.int .u64 (m : Int)] 30) (heap_at w (.cells #[.slice A n c] 22) _ rfl)))
  · exact cell_of_one (heap_past (.cells #[.slice none 0 0, .slice none 0 0] 24) (heap_at (w.alloc (.cells #[.slice A n c] 22)) (.cells #[.int .u64 (m : Int)] 30) (w.heap.size + 1) (by simp)))
  · exact bx0_at (heap_at _ _ _ (by simp))
theorem ASt.step {A : Option Addr} {n c m : Nat} {w wr wx : World} (h : ASt A n c m w wr) (hb : Below wr.heap.size wr wx) : ASt A n c m w wx := by
  obtain ⟨h1, h2, h3, h4, h5⟩ := h
  exact ⟨Below.andThen h1 hb, Nat.le_trans h2 hb.size, (hb.cell (p := ⟨w.heap.size, 0, none⟩) (by show w.heap.size < _; omega)).trans h3, (hb.cell (p := ⟨w.heap.size + 1, 0, none⟩) (by show w.heap.size + 1 < _; omega)).trans h4, bx0_block h5 (hb.block _ (by omega))⟩

theorem baround_no (A : Option Addr) (n c m : Nat) (w : World) (hn : n ≤ maxLen) (h : ¬ (1 ≤ n ∧ n ≤ 16)) :
    Calls Try.prog 21 #[.slice A n c, .int .u64 (m : Int)] w fun e w' => e = .returned (.tuple #[boxV none 0 0 none 0 0, .int .i64 2]) ∧ Below w.heap.size w w' := by
  have H := Lib.hid h
  have Hn := Lib.hid hn
  clear h hn
  have s0 := ASt.new A n c m w
  obtain ⟨-, -, l0, l1, r0, r1, r2, r3⟩ := s0
  have s0 := ASt.new A n c m w
  go_enter Try.func21, Try.ntmps21
  go_wp2_with (go_at_call 37; refine (right_no _ _ _ _ Hn.out H.out).mono ?_; rintro e w' ⟨rfl, rfl⟩)
  refine bodyPost_ret (v := .tuple #[boxV none 0 0 none 0 0, .int .i64 2]) (by simp [results, Try.results21, go_sem]) rfl ?_
  exact ⟨rfl, ((below_alloc _ _).alloc (by simp) _).alloc (by simp; omega) _⟩

set_option maxRecDepth 100000 in
theorem baround_own (A : Option Addr) (c n : Nat) (us : List Nat) (B : Nat) (w : World) (hp : Pts w B A us) (hB : B ≤ w.heap.size) (h1 : 1 ≤ us.length) (h16 : us.length ≤ 16) (hn : n < 18446744073709551616) :
    Calls Try.prog 21 #[.slice A us.length c, .int .u64 (n : Int)] w fun e w' => ∃ gl gh, e = .returned (.tuple #[boxV (some ⟨gl, 0, none⟩) us.length us.length (some ⟨gh, 0, none⟩) us.length us.length, .int .i64 0]) ∧
      Own w' w.heap.size (.slice (some ⟨gl, 0, none⟩) us.length us.length) (Bx.aroLo us n) ∧ Own w' w.heap.size (.slice (some ⟨gh, 0, none⟩) us.length us.length) (Bx.aroHi us n) ∧ Below w.heap.size w w' := by
  have P := Lib.hid hp
  have Hn := Lib.hid hn
  clear hp hn
  have s0 := ASt.new A us.length c n w
  obtain ⟨-, -, l0, l1, r0, r1, r2, r3⟩ := s0
  have s0 := ASt.new A us.length c n w
  have hends : Hid (∀ (wy : World), ASt A us.length c n w wy → ∀ (i : Nat) (wr : World), i < us.length → Below wy.heap.size wy wr → Calls Try.prog 38 #[.int .i64 (i : Int), .pointer (some ⟨w.heap.size, 0, none⟩), .pointer (some ⟨w.heap.size + 1, 0, none⟩)] wr (fun e w' => e = .returned (.tuple #[.int .u64 ((Bx.g us i - n : Nat) : Int), .int .u64 ((min 18446744073709551615 (Bx.g us i + n) : Nat) : Int)]) ∧ ∃ n, w' = wr.drewN n)) :=
    Lib.hid (fun wy sy i wr hi hb => aroundEnds_c A c us n i _ _ B wr hi h16 Hn.out (sy.step hb).2.2.1 (sy.step hb).2.2.2.1 (P.out.below' (sy.step hb).1 hB))
  have henter := enters_at Try.func38 (by kernel_rfl) rfl
  go_enter Try.func21, Try.ntmps21
  go_wp2_with (first
    | (go_at_call 37; refine (right_yes _ _ _ _ h1 h16).mono ?_; rintro e w' ⟨rfl, rfl⟩)
    | (go_at_call 33; refine (boxOf_c us.length 38 w.heap.size (w.heap.size + 1) (fun i => Bx.g us i - n) (fun i => min 18446744073709551615 (Bx.g us i + n)) _ h1 h16 (fun i _ => by have := Bx.g_lt P.out.ok i; omega) (fun i _ => by omega) henter (hends.out _ s0)).mono ?_; rintro e w3 ⟨gl, gh, rfl, o1, o2, hb3⟩; have s3 := s0.step hb3; obtain ⟨-, -, -, -, t0, t1, t2, t3⟩ := s3))
  have s3 := s0.step hb3
  have hsz := s0.2.1
  obtain ⟨k0, k1, v1, v2, hbel⟩ := box_out (r := w.heap.size + 2) (by omega) (by omega) s3.2.2.2.2 s3.1 o1 o2
  refine bodyPost_ret (v := .tuple #[boxV (some ⟨gl, 0, none⟩) us.length us.length (some ⟨gh, 0, none⟩) us.length us.length, .int .i64 0]) (by simp [results, Try.results21, go_sem, k0, k1]) rfl ?_
  exact ⟨gl, gh, rfl, v1.mono (by omega), v2.mono (by omega), hbel⟩
theorem baround_yes (A : Option Addr) (c n : Nat) (us ml mh : List Nat) (B : Nat) (w : World) (hml : Bx.aroLo us n = ml) (hmh : Bx.aroHi us n = mh) (hp : Pts w B A us) (hB : B ≤ w.heap.size) (h1 : 1 ≤ us.length) (h16 : us.length ≤ 16) (hn : n < 18446744073709551616) :
    Calls Try.prog 21 #[.slice A us.length c, .int .u64 (n : Int)] w fun e w' => ∃ A1 c1 A2 c2, e = .returned (.tuple #[boxV A1 ml.length c1 A2 mh.length c2, .int .i64 0]) ∧
      Pts w' w'.heap.size A1 ml ∧ Pts w' w'.heap.size A2 mh ∧ Below w.heap.size w w' := by
  refine (baround_own A c n us B w hp hB h1 h16 hn).mono ?_
  rintro e w' ⟨gl, gh, rfl, o1, o2, hb⟩
  rw [hml] at o1
  rw [hmh] at o2
  obtain ⟨A1, c1, x1, y1⟩ := o1.pts
  obtain ⟨A2, c2, x2, y2⟩ := o2.pts
  exact ⟨A1, c1, A2, c2, by unfold boxV; rw [x1, x2], y1, y2, hb⟩

/-! ### Cell -/
theorem zcut_k (A : Option Addr) (c : Nat) (us : List Nat) (k : Nat) (B : Nat) (w : World) (hp : Pts w B A us) (hB : B ≤ w.heap.size) (h1 : 1 ≤ us.length) (h16 : us.length ≤ 16) (hk : k ≤ 64) :
    Calls Try.prog 39 #[.slice A us.length c, .int .i64 ((k : Int) - 1)] w fun e w' => ∃ v, e = .returned (.tuple #[v, .int .i64 0]) ∧ Own w' w.heap.size v (Z.cut us k) ∧ Below w.heap.size w w' := by
  cases k with
  | zero => exact cut_all A c us B w hp hB h1 h16
  | succ L =>
    rw [show ((L + 1 : Nat) : Int) - 1 = (L : Int) by omega]
    exact cut_yes A c us L B w hp hB h1 h16 (by omega)
theorem bcell_dim (A : Option Addr) (n c : Nat) (l : Int) (w : World) (hn : n ≤ maxLen) (h : ¬ (1 ≤ n ∧ n ≤ 16)) :
    Calls Try.prog 22 #[.slice A n c, .int .i64 l] w fun e w' => e = .returned (.tuple #[boxV none 0 0 none 0 0, .int .i64 2]) ∧ Below w.heap.size w w' := by
  have H := Lib.hid h
  have Hn := Lib.hid hn
  clear h hn
  go_enter Try.func22, Try.ntmps22
  go_wp2_with (go_at_call 39; refine (cut_dim _ _ _ _ _ Hn.out H.out).mono ?_; rintro e w' ⟨rfl, rfl⟩)
  refine bodyPost_ret (v := .tuple #[boxV none 0 0 none 0 0, .int .i64 2]) (by simp [results, Try.results22, go_sem]) rfl ?_
  exact ⟨rfl, (below_alloc _ _).alloc (by simp) _⟩
theorem bcell_arg (A : Option Addr) (n c : Nat) (l : Int) (w : World) (h1 : 1 ≤ n) (h16 : n ≤ 16) (h : ¬ (-1 ≤ l ∧ l ≤ 63)) :
    Calls Try.prog 22 #[.slice A n c, .int .i64 l] w fun e w' => e = .returned (.tuple #[boxV none 0 0 none 0 0, .int .i64 3]) ∧ Below w.heap.size w w' := by
  have H := Lib.hid h
  clear h
  go_enter Try.func22, Try.ntmps22
  go_wp2_with (go_at_call 39; refine (cut_arg _ _ _ _ _ h1 h16 H.out).mono ?_; rintro e w' ⟨rfl, rfl⟩)
  refine bodyPost_ret (v := .tuple #[boxV none 0 0 none 0 0, .int .i64 3]) (by simp [results, Try.results22, go_sem]) rfl ?_
  exact ⟨rfl, (below_alloc _ _).alloc (by simp) _⟩

/-- the memory of Cell: the result's block, the cut point, and what is cut -/
def CSt (A : Option Addr) (n c q b : Nat) (us : List Nat) (w wr : World) : Prop :=
  Below w.heap.size w wr ∧ w.heap.size < b ∧ b + 2 ≤ wr.heap.size ∧ wr.cell? ⟨b, 0, none⟩ = some (.slice A n c) ∧ wr.cell? ⟨b + 1, 0, none⟩ = some (.int .u64 (q : Int)) ∧ Bx0 wr w.heap.size (.slice none 0 0) (.slice none 0 0) ∧ Pts wr b A us
theorem CSt.new {A : Option Addr} {n c q : Nat} {us : List Nat} {w w2 : World} (hb : Below (w.alloc (.cells #[.slice none 0 0, .slice none 0 0] 24)).heap.size (w.alloc (.cells #[.slice none 0 0, .slice none 0 0] 24)) w2) (hp : Pts w2 w2.heap.size A us) :
    CSt A n c q w2.heap.size us w ((w2.alloc (.cells #[.slice A n c] 22)).alloc (.cells #[.int .u64 (q : Int)] 30)) := by
  have hs := hb.size
  rw [World.size_alloc] at hs
  have hbx : w2.heap[w.heap.size]? = some (.cells #[.slice none 0 0, .slice none 0 0] 24) := (hb.block w.heap.size (by simp)).trans (heap_at _ _ _ rfl)
  refine ⟨((Below.andThen (below_alloc _ _) hb).alloc (by omega) _).alloc (by simp; omega) _, by omega, by simp, ?_, ?_, ?_, ?_⟩
  · exact cell_of_one (heap_past (.cells #[.int .u64 (q : Int)] 30) (heap_at w2 (.cells #[.slice A n c] 22) _ rfl))
  · exact cell_of_one (heap_at (w2.alloc (.cells #[.slice A n c] 22)) (.cells #[.int .u64 (q : Int)] 30) (w2.heap.size + 1) (by simp))
  · exact bx0_at (heap_past _ (heap_past _ hbx))
  · exact hp.below' ((below_alloc _ _).alloc (by simp) _) (Nat.le_refl _)
theorem CSt.step {A : Option Addr} {n c q b : Nat} {us : List Nat} {w wr wx : World} (h : CSt A n c q b us w wr) (hb : Below wr.heap.size wr wx) : CSt A n c q b us w wx := by
  obtain ⟨h1, h2, h3, h4, h5, h6, h7⟩ := h
  exact ⟨Below.andThen h1 hb, h2, Nat.le_trans h3 hb.size, (hb.cell (p := ⟨b, 0, none⟩) (by show b < _; omega)).trans h4, (hb.cell (p := ⟨b + 1, 0, none⟩) (by show b + 1 < _; omega)).trans h5, bx0_block h6 (hb.block _ (by omega)), h7.below' hb (by omega)⟩

set_option maxRecDepth 100000 in
theorem bcell_own (A : Option Addr) (c k : Nat) (us : List Nat) (B : Nat) (w : World) (hp : Pts w B A us) (hB : B ≤ w.heap.size) (h1 : 1 ≤ us.length) (h16 : us.length ≤ 16) (hk : k ≤ 64) :
    Calls Try.prog 22 #[.slice A us.length c, .int .i64 ((k : Int) - 1)] w fun e w' => ∃ gl gh, e = .returned (.tuple #[boxV (some ⟨gl, 0, none⟩) us.length us.length (some ⟨gh, 0, none⟩) us.length us.length, .int .i64 0]) ∧
      Own w' w.heap.size (.slice (some ⟨gl, 0, none⟩) us.length us.length) (Z.cut us k) ∧ Own w' w.heap.size (.slice (some ⟨gh, 0, none⟩) us.length us.length) (Bx.cellHi us k) ∧ Below w.heap.size w w' := by
  have P := Lib.hid hp
  clear hp
  have hB0 := Nat.le_trans hB (below_alloc w (.cells #[.slice none 0 0, .slice none 0 0] 24)).size
  have P0 := Lib.hid (P.out.below' (below_alloc w (.cells #[.slice none 0 0, .slice none 0 0] 24)) hB)
  have henter := enters_at Try.func40 (by kernel_rfl) rfl
  have hnk : Hid (bits .xor .u64 IntKind.u64.max (IntKind.u64.wrap (18446744073709551615 * 2 ^ k)) = ((2 ^ k - 1 : Nat) : Int)) := Lib.hid (not_keep k hk)
  go_enter Try.func22, Try.ntmps22
  go_wp2_with (first
    | (go_at_call 39; refine (zcut_k _ _ us k _ _ P0.out hB0 h1 h16 hk).mono ?_; rintro e w2 ⟨v2, rfl, own2, hb2⟩; obtain ⟨A2, c2, hv2, p2⟩ := own2.pts; rw [Z.cut_length] at hv2; subst hv2))
  rw [hnk.out]
  have s4 := CSt.new (n := us.length) (c := c2) (q := 2 ^ k - 1) hb2 p2
  have hends : ∀ (i : Nat) (wr : World), i < us.length → Below ((w2.alloc (.cells #[.slice A2 us.length c2] 22)).alloc (.cells #[.int .u64 ((2 ^ k - 1 : Nat) : Int)] 30)).heap.size ((w2.alloc (.cells #[.slice A2 us.length c2] 22)).alloc (.cells #[.int .u64 ((2 ^ k - 1 : Nat) : Int)] 30)) wr → Calls Try.prog 40 #[.int .i64 (i : Int), .pointer (some ⟨w2.heap.size, 0, none⟩), .pointer (some ⟨w2.heap.size + 1, 0, none⟩)] wr (fun e w' => e = .returned (.tuple #[.int .u64 (Z.cutN (Bx.g us i) k : Int), .int .u64 ((Z.cutN (Bx.g us i) k + (2 ^ k - 1) : Nat) : Int)]) ∧ ∃ n, w' = wr.drewN n) :=
    fun i wr hi hb => cellEnds_c A2 c2 us k i _ _ _ wr hi h16 hk P.out.ok (s4.step hb).2.2.2.1 (s4.step hb).2.2.2.2.1 (s4.step hb).2.2.2.2.2.2
  refine (boxOf_c us.length 40 w2.heap.size (w2.heap.size + 1) (fun i => Z.cutN (Bx.g us i) k) (fun i => Z.cutN (Bx.g us i) k + (2 ^ k - 1)) _ h1 h16 (fun i _ => Nat.lt_of_le_of_lt (Z.cutN_le _ _) (Bx.g_lt P.out.ok i)) (fun i _ => Bx.cell_lt (Bx.g_lt P.out.ok i) hk) henter hends).mono ?_
  rintro e w3 ⟨gl, gh, rfl, o1, o2, hb3⟩
  have s5 := s4.step hb3
  obtain ⟨-, -, -, -, -, ⟨r0, r1, r2, r3⟩, -⟩ := s5
  have s5 := s4.step hb3
  clear hends
  go_wp2_with fail
  have hsz := s4.2.1
  have hsz2 := s4.2.2.1
  obtain ⟨k0, k1, v1, v2, hbel⟩ := box_out (r := w.heap.size) (Nat.le_refl _) (by omega) s5.2.2.2.2.2.1 s5.1 o1 o2
  have hres : Bx.tab us.length (fun i => Z.cutN (Bx.g us i) k) = Z.cut us k := by
    refine Bx.ext_g (by rw [Bx.tab_length, Z.cut_length]) fun i hi => ?_
    rw [Bx.tab_length] at hi
    rw [Bx.g_cut k hi]
    exact Bx.g_tab _ hi
  refine bodyPost_ret (v := .tuple #[boxV (some ⟨gl, 0, none⟩) us.length us.length (some ⟨gh, 0, none⟩) us.length us.length, .int .i64 0]) (by simp [results, Try.results22, go_sem, k0, k1]) rfl ?_
  exact ⟨gl, gh, rfl, by rw [← hres]; exact v1.mono (by omega), v2.mono (by omega), hbel⟩
theorem bcell_yes (A : Option Addr) (c k : Nat) (us ml mh : List Nat) (B : Nat) (w : World) (hml : Z.cut us k = ml) (hmh : Bx.cellHi us k = mh) (hp : Pts w B A us) (hB : B ≤ w.heap.size) (h1 : 1 ≤ us.length) (h16 : us.length ≤ 16) (hk : k ≤ 64) :
    Calls Try.prog 22 #[.slice A us.length c, .int .i64 ((k : Int) - 1)] w fun e w' => ∃ A1 c1 A2 c2, e = .returned (.tuple #[boxV A1 ml.length c1 A2 mh.length c2, .int .i64 0]) ∧
      Pts w' w'.heap.size A1 ml ∧ Pts w' w'.heap.size A2 mh ∧ Below w.heap.size w w' := by
  refine (bcell_own A c k us B w hp hB h1 h16 hk).mono ?_
  rintro e w' ⟨gl, gh, rfl, o1, o2, hb⟩
  rw [hml] at o1
  rw [hmh] at o2
  obtain ⟨A1, c1, x1, y1⟩ := o1.pts
  obtain ⟨A2, c2, x2, y2⟩ := o2.pts
  exact ⟨A1, c1, A2, c2, by unfold boxV; rw [x1, x2], y1, y2, hb⟩

end Go.Proofs.Ytiifggchnpdonaa
