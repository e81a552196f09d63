import Derived.Test.YtdpbcfjhljgicaaGreatDoorM52
import Derived.Test.YtdpbcfjhljgicaaGreatDoorM04
import Derived.Test.YtdpbcfjhljgicaaGreatDoorM50
import Derived.Test.YtdpbcfjhljgicaaGreatDoorM51
import Derived.BigQuiet
import Derived.Deep.RegionHeld
/-
  CONTRACTS of package mask, third part: alike, halves, leaves.
-/
namespace Go.Proofs.YtdpbcfjhljgicaaGreatDoor
open Go.ChangeShapes Go.WideShapes Go.ChangeAt Go.RowKit

/-! ### alike -/
theorem malike_yes (A C C' : Option Addr) (n c m d m' d' : Nat) (w : World) (h1 : 1 ≤ n) (h16 : n ≤ 16) (e1 : m = n) (e2 : m' = n) :
    Calls Tryz.prog 189 #[.slice A n c, boxV C m d C' m' d'] w fun e w' => e = .returned (.bool true) ∧ Below w.heap.size w w' := by
  subst e1 e2
  have hbel := below_alloc w (.cells #[.slice C m' d, .slice C' m' d'] 25)
  obtain ⟨k0, k1⟩ := boxAt_new w C m' d C' m' d'
  go_enter Tryz.func189, Tryz.ntmps189
  go_wp2_with fail
  refine (right_yes _ _ _ _ h1 h16).mono ?_
  rintro e w' ⟨rfl, rfl⟩
  go_wp2_with fail
  go_ret
  exact ⟨ret_bool (by simp), hbel⟩
theorem malike_no (A C C' : Option Addr) (n c m d m' d' : Nat) (w : World) (hn : n ≤ maxLen) (h : ¬ ((1 ≤ n ∧ n ≤ 16) ∧ m = n ∧ m' = n)) :
    Calls Tryz.prog 189 #[.slice A n c, boxV C m d C' m' d'] w fun e w' => e = .returned (.bool false) ∧ Below w.heap.size w w' := by
  have hbel := below_alloc w (.cells #[.slice C m d, .slice C' m' d'] 25)
  obtain ⟨k0, k1⟩ := boxAt_new w C m d C' m' d'
  by_cases c1 : 1 ≤ n ∧ n ≤ 16
  · by_cases c2 : m = n
    · have d1 : ((m : Int) == (n : Int)) = true := by rw [beq_iff_eq]; omega
      have d2 : ((m' : Int) == (n : Int)) = false := by rw [beq_eq_false_iff_ne]; omega
      have H := Lib.hid c1
      clear c1 c2 h hn
      go_enter Tryz.func189, Tryz.ntmps189
      go_wp2_with fail
      refine (right_yes _ _ _ _ H.out.1 H.out.2).mono ?_
      rintro e w' ⟨rfl, rfl⟩
      go_wp2_with fail
      go_ret
      exact ⟨ret_bool (by first | rfl | assumption), hbel⟩
    · have d1 : ((m : Int) == (n : Int)) = false := by rw [beq_eq_false_iff_ne]; omega
      have H := Lib.hid c1
      clear c1 c2 h hn
      go_enter Tryz.func189, Tryz.ntmps189
      go_wp2_with fail
      refine (right_yes _ _ _ _ H.out.1 H.out.2).mono ?_
      rintro e w' ⟨rfl, rfl⟩
      go_wp2_with fail
      go_ret
      exact ⟨rfl, hbel⟩
  · have Hn := Lib.hid hn
    have H := Lib.hid c1
    clear c1 h hn
    go_enter Tryz.func189, Tryz.ntmps189
    go_wp2_with fail
    refine (right_no _ _ _ _ Hn.out H.out).mono ?_
    rintro e w' ⟨rfl, rfl⟩
    go_wp2_with fail
    go_ret
    exact ⟨rfl, hbel⟩

/-! ### halves -/
/-- both halves as a value -/
abbrev halvesV (a b c d : Nat) : Value := .agg #[.int .u64 (a : Int), .int .u64 (b : Int), .int .u64 (c : Int), .int .u64 (d : Int)]
theorem halves_bits (u l : Nat) (hu : u < 18446744073709551616) (hl : l ≤ 63) :
    bits .andNot .u64 (u : Int) (bits .or .u64 (IntKind.u64.wrap (2 ^ l)) (IntKind.u64.wrap (IntKind.u64.wrap (2 ^ l) - 1))) = ((Mk.halfAt u l 0 : Nat) : Int) ∧
    bits .or .u64 ((Mk.halfAt u l 0 : Nat) : Int) (IntKind.u64.wrap (IntKind.u64.wrap (2 ^ l) - 1)) = ((Mk.halfAt u l 0 + (2 ^ l - 1) : Nat) : Int) ∧
    bits .or .u64 ((Mk.halfAt u l 0 : Nat) : Int) (IntKind.u64.wrap (2 ^ l)) = ((Mk.halfAt u l 1 : Nat) : Int) ∧
    bits .or .u64 ((Mk.halfAt u l 1 : Nat) : Int) (IntKind.u64.wrap (IntKind.u64.wrap (2 ^ l) - 1)) = ((Mk.halfAt u l 1 + (2 ^ l - 1) : Nat) : Int) := by
  have hp := Nat.two_pow_pos l
  have h64 := Bx.pow_le_64 (show l + 1 ≤ 64 by omega)
  have b0 := Mk.half_lt (h := 0) hu (show l < 64 by omega) (by omega)
  have b1 := Mk.half_lt (h := 1) hu (show l < 64 by omega) (by omega)
  have e1 : IntKind.u64.wrap (2 ^ l) = ((2 ^ l : Nat) : Int) := by
    rw [Nat.pow_succ] at h64
    rw [show (2 : Int) ^ l = ((2 ^ l : Nat) : Int) by simp, IntKind.wrap_u64]; omega
  have e2 : IntKind.u64.wrap (((2 ^ l : Nat) : Int) - 1) = ((2 ^ l - 1 : Nat) : Int) := by
    rw [Nat.pow_succ] at h64
    rw [IntKind.wrap_u64]; omega
  rw [e1, e2]
  have h64' := h64
  rw [Nat.pow_succ] at h64'
  refine ⟨?_, ?_, ?_, ?_⟩
  · rw [bits_or_u64_nat _ _ (by omega) (by omega), Mk.pow_or, Mk.andNot_u64 _ _ hu (by omega), Mk.less_cut, Mk.half_zero]
  · rw [bits_or_u64_nat _ _ (by omega) (by omega), Mk.half_or]
  · rw [bits_or_u64_nat _ _ (by omega) (by omega), Mk.half_zero, Mk.cut_or, Mk.half_one]
  · rw [bits_or_u64_nat _ _ (by omega) (by omega), Mk.half_or]
theorem mhalves_c (u l : Nat) (w : World) (hu : u < 18446744073709551616) (hl : l ≤ 63) :
    Calls Tryz.prog 191 #[.int .u64 (u : Int), .int .i64 (l : Int)] w fun e w' =>
      e = .returned (halvesV (Mk.halfAt u l 0) (Mk.halfAt u l 0 + (2 ^ l - 1)) (Mk.halfAt u l 1) (Mk.halfAt u l 1 + (2 ^ l - 1))) ∧ Below w.heap.size w w' := by
  have E := Lib.hid (halves_bits u l hu hl)
  go_enter Tryz.func191, Tryz.ntmps191
  go_wp2
  rw [E.out.1, E.out.2.1, E.out.2.2.1, E.out.2.2.2]
  refine bodyPost_ret (v := halvesV (Mk.halfAt u l 0) (Mk.halfAt u l 0 + (2 ^ l - 1)) (Mk.halfAt u l 1) (Mk.halfAt u l 1 + (2 ^ l - 1))) ?_ rfl ⟨rfl, below_alloc _ _⟩
  simp [results, Tryz.results191, go_sem]

/-! ### leaves -/
theorem mleaves_c (a b c d lo hi : Nat) (w : World) :
    Calls Tryz.prog 190 #[halvesV a b c d, .agg #[.int .u64 (lo : Int), .int .u64 (hi : Int)]] w fun e w' =>
      e = .returned (.agg #[.bool (decide (max a lo ≤ min b hi)), .bool (decide (max c lo ≤ min d hi))]) ∧ Below w.heap.size w w' := by
  have i0 : ∀ w : World, (Instr.index 250 (halvesV a b c d) (.int .i64 0)).run Tryz.prog w = .ok (.agg #[.int .u64 (a : Int), .int .u64 (b : Int)]) w := fun _ => by kernel_rfl
  have i1 : ∀ w : World, (Instr.index 250 (halvesV a b c d) (.int .i64 1)).run Tryz.prog w = .ok (.agg #[.int .u64 (c : Int), .int .u64 (d : Int)]) w := fun _ => by kernel_rfl
  go_enter Tryz.func190, Tryz.ntmps190
  go_wp2
  refine wp_loop_rounds 3 ?_
  rw [rounds_succ]
  go_wp2
  rw [rounds_succ]
  go_wp2
  rw [rounds_succ]
  go_wp2
  have e1 : (max (a : Int) (lo : Int) ≤ min (b : Int) (hi : Int)) = (max a lo ≤ min b hi) := propext (by omega)
  have e2 : (max (c : Int) (lo : Int) ≤ min (d : Int) (hi : Int)) = (max c lo ≤ min d hi) := propext (by omega)
  simp only [e1, e2]
  refine bodyPost_ret (v := .agg #[.bool (decide (max a lo ≤ min b hi)), .bool (decide (max c lo ≤ min d hi))]) (by simp [results, Tryz.results190, go_sem]) rfl ⟨rfl, ?_⟩
  exact (((((below_alloc _ _).alloc (by simp) _).alloc (by simp; omega) _).alloc (by simp; omega) _).alloc (by simp; omega) _).alloc (by simp; omega) _
theorem mleaves_at (u l lo hi : Nat) (w : World) (b0 b1 : Bool) (hb0 : Mk.leaves u l 0 lo hi = b0) (hb1 : Mk.leaves u l 1 lo hi = b1) :
    Calls Tryz.prog 190 #[halvesV (Mk.halfAt u l 0) (Mk.halfAt u l 0 + (2 ^ l - 1)) (Mk.halfAt u l 1) (Mk.halfAt u l 1 + (2 ^ l - 1)), .agg #[.int .u64 (lo : Int), .int .u64 (hi : Int)]] w fun e w' =>
      e = .returned (.agg #[.bool b0, .bool b1]) ∧ Below w.heap.size w w' := by
  rw [Mk.leaves_max] at hb0 hb1
  subst hb0 hb1
  exact mleaves_c _ _ _ _ lo hi w
end Go.Proofs.YtdpbcfjhljgicaaGreatDoor

/-
  CONTRACTS of package mask, fourth part: Of and Whole.
-/
namespace Go.Proofs.YtdpbcfjhljgicaaGreatDoor
open Go.ChangeShapes Go.WideShapes Go.ChangeAt Go.RowKit

/-- block b holds the mask, and may be written -/
def M0 (w : World) (b : Nat) (x y z : Int) : Prop := MaskAt w b x y z ∧ w.frozen? ⟨b, 0, none⟩ = false ∧ w.frozen? ⟨b, 1, none⟩ = false ∧ w.frozen? ⟨b, 2, none⟩ = false
theorem m0_at {w : World} {b : Nat} {x y z : Int} (h : w.heap[b]? = some (.cells #[.int .i64 x, .int .i64 y, .int .i64 z] 204 (0, 0))) : M0 w b x y z :=
  ⟨⟨by rw [cell_of_row w b _ _ 204 (0, 0) h]; rfl, by rw [cell_of_row w b _ _ 204 (0, 0) h]; rfl, by rw [cell_of_row w b _ _ 204 (0, 0) h]; rfl⟩, frozen_of_row w b _ _ 204 h, frozen_of_row w b _ _ 204 h, frozen_of_row w b _ _ 204 h⟩
theorem m0_block {w w' : World} {b : Nat} {x y z : Int} (h : M0 w b x y z) (hb : w'.heap[b]? = w.heap[b]?) : M0 w' b x y z :=
  ⟨⟨(World.cell?_of_block (w := w) (a := ⟨b, 0, none⟩) hb).trans h.1.1, (World.cell?_of_block (w := w) (a := ⟨b, 1, none⟩) hb).trans h.1.2.1, (World.cell?_of_block (w := w) (a := ⟨b, 2, none⟩) hb).trans h.1.2.2⟩,
    (World.frozen?_of_block (w := w) (a := ⟨b, 0, none⟩) hb).trans h.2.1, (World.frozen?_of_block (w := w) (a := ⟨b, 1, none⟩) hb).trans h.2.2.1, (World.frozen?_of_block (w := w) (a := ⟨b, 2, none⟩) hb).trans h.2.2.2⟩
theorem m0_set1 {w : World} {b : Nat} {x y z : Int} (h : M0 w b x y z) (v : Int) : M0 (w.setCell ⟨b, 1, none⟩ (.int .i64 v)) b x v z := by
  refine ⟨⟨?_, World.cell?_setCell_same _ _ _ h.1.2.1, ?_⟩, ?_, ?_, ?_⟩
  · rw [World.cell?_setCell_other _ _ _ _ (by simp)]; exact h.1.1
  · rw [World.cell?_setCell_other _ _ _ _ (by simp)]; exact h.1.2.2
  · rw [World.frozen?_setCell]; exact h.2.1
  · rw [World.frozen?_setCell]; exact h.2.2.1
  · rw [World.frozen?_setCell]; exact h.2.2.2
theorem m0_set2 {w : World} {b : Nat} {x y z : Int} (h : M0 w b x y z) (v : Int) : M0 (w.setCell ⟨b, 2, none⟩ (.int .i64 v)) b x y v := by
  refine ⟨⟨?_, ?_, World.cell?_setCell_same _ _ _ h.1.2.2⟩, ?_, ?_, ?_⟩
  · rw [World.cell?_setCell_other _ _ _ _ (by simp)]; exact h.1.1
  · rw [World.cell?_setCell_other _ _ _ _ (by simp)]; exact h.1.2.1
  · rw [World.frozen?_setCell]; exact h.2.1
  · rw [World.frozen?_setCell]; exact h.2.2.1
  · rw [World.frozen?_setCell]; exact h.2.2.2
/-- the memory of Of: the box, the result's block, and the mask that is made -/
def OSt (w wr : World) (mb : Nat) (A : Option Addr) (n c : Nat) (A' : Option Addr) (n' c' : Nat) (x y z : Int) : Prop :=
  Below w.heap.size w wr ∧ BoxAt wr w.heap.size A n c A' n' c' ∧ M0 wr (w.heap.size + 1) 0 0 0 ∧ M0 wr mb x y z ∧ w.heap.size + 1 < mb ∧ mb < wr.heap.size
theorem OSt.step {w wr wx : World} {mb : Nat} {A : Option Addr} {n c : Nat} {A' : Option Addr} {n' c' : Nat} {x y z : Int} (h : OSt w wr mb A n c A' n' c' x y z) (hb : Below wr.heap.size wr wx) : OSt w wx mb A n c A' n' c' x y z := by
  obtain ⟨h1, h2, h3, h4, h5, h6⟩ := h
  exact ⟨Below.andThen h1 hb, h2.below hb (by omega), m0_block h3 (hb.block _ (by omega)), m0_block h4 (hb.block _ h6), h5, Nat.lt_of_lt_of_le h6 hb.size⟩
theorem OSt.drew {w wr : World} {mb : Nat} {A : Option Addr} {n c : Nat} {A' : Option Addr} {n' c' : Nat} {x y z : Int} (h : OSt w wr mb A n c A' n' c' x y z) : OSt w wr.drew mb A n c A' n' c' x y z :=
  ⟨h.1.drew, h.2.1, h.2.2.1, h.2.2.2.1, h.2.2.2.2⟩
theorem OSt.set1 {w wr : World} {mb : Nat} {A : Option Addr} {n c : Nat} {A' : Option Addr} {n' c' : Nat} {x y z : Int} (h : OSt w wr mb A n c A' n' c' x y z) (v : Int) : OSt w (wr.setCell ⟨mb, 1, none⟩ (.int .i64 v)) mb A n c A' n' c' x v z := by
  obtain ⟨h1, h2, h3, h4, h5, h6⟩ := h
  have e : ∀ b, b ≠ mb → (wr.setCell ⟨mb, 1, none⟩ (.int .i64 v)).heap[b]? = wr.heap[b]? := fun b hb => Below.heap_setCell _ _ _ _ hb
  exact ⟨h1.setCell (p := ⟨mb, 1, none⟩) (by show w.heap.size ≤ mb; omega) _, ⟨(World.cell?_of_block (w := wr) (a := ⟨w.heap.size, 0, none⟩) (e _ (by show w.heap.size ≠ mb; omega))).trans h2.1, (World.cell?_of_block (w := wr) (a := ⟨w.heap.size, 1, none⟩) (e _ (by show w.heap.size ≠ mb; omega))).trans h2.2⟩, m0_block h3 (e _ (by omega)), m0_set1 h4 v, h5, by simpa using h6⟩
theorem OSt.set2 {w wr : World} {mb : Nat} {A : Option Addr} {n c : Nat} {A' : Option Addr} {n' c' : Nat} {x y z : Int} (h : OSt w wr mb A n c A' n' c' x y z) (v : Int) : OSt w (wr.setCell ⟨mb, 2, none⟩ (.int .i64 v)) mb A n c A' n' c' x y v := by
  obtain ⟨h1, h2, h3, h4, h5, h6⟩ := h
  have e : ∀ b, b ≠ mb → (wr.setCell ⟨mb, 2, none⟩ (.int .i64 v)).heap[b]? = wr.heap[b]? := fun b hb => Below.heap_setCell _ _ _ _ hb
  exact ⟨h1.setCell (p := ⟨mb, 2, none⟩) (by show w.heap.size ≤ mb; omega) _, ⟨(World.cell?_of_block (w := wr) (a := ⟨w.heap.size, 0, none⟩) (e _ (by show w.heap.size ≠ mb; omega))).trans h2.1, (World.cell?_of_block (w := wr) (a := ⟨w.heap.size, 1, none⟩) (e _ (by show w.heap.size ≠ mb; omega))).trans h2.2⟩, m0_block h3 (e _ (by omega)), m0_set2 h4 v, h5, by simpa using h6⟩
/-- the box and the result's block, ahead of the mask that is made -/
def OSt0 (w wr : World) (A : Option Addr) (n c : Nat) (A' : Option Addr) (n' c' : Nat) : Prop :=
  Below w.heap.size w wr ∧ BoxAt wr w.heap.size A n c A' n' c' ∧ M0 wr (w.heap.size + 1) 0 0 0 ∧ w.heap.size + 2 ≤ wr.heap.size
theorem OSt0.new (w : World) (A : Option Addr) (n c : Nat) (A' : Option Addr) (n' c' : Nat) : OSt0 w ((w.alloc (.cells #[.slice A n c, .slice A' n' c'] 25)).alloc (.cells #[.int .i64 0, .int .i64 0, .int .i64 0] 204)) A n c A' n' c' :=
  ⟨(below_alloc _ _).alloc (by simp) _, (boxAt_new w A n c A' n' c').below (below_alloc _ _) (by simp), m0_at (heap_at _ _ _ (by simp)), by simp⟩
theorem OSt0.step {w wr wx : World} {A : Option Addr} {n c : Nat} {A' : Option Addr} {n' c' : Nat} (h : OSt0 w wr A n c A' n' c') (hb : Below wr.heap.size wr wx) : OSt0 w wx A n c A' n' c' := by
  obtain ⟨h1, h2, h3, h4⟩ := h
  exact ⟨Below.andThen h1 hb, h2.below hb (by omega), m0_block h3 (hb.block _ (by omega)), Nat.le_trans h4 hb.size⟩
theorem OSt0.mask {w wr : World} {A : Option Addr} {n c : Nat} {A' : Option Addr} {n' c' : Nat} (h : OSt0 w wr A n c A' n' c') (x y z : Int) : OSt w (wr.alloc (.cells #[.int .i64 x, .int .i64 y, .int .i64 z] 204)) wr.heap.size A n c A' n' c' x y z := by
  obtain ⟨h1, h2, h3, h4⟩ := h.step (below_alloc wr (.cells #[.int .i64 x, .int .i64 y, .int .i64 z] 204))
  exact ⟨h1, h2, h3, m0_at (heap_at _ _ _ rfl), by have := h.2.2.2; omega, by simp⟩
/-- the mask in the result's block -/
theorem m0_out {w wr : World} {b : Nat} {a1 a2 a3 : Int} (h : M0 wr b a1 a2 a3) (hb : Below w.heap.size w wr) (hle : w.heap.size ≤ b) (x y z : Int) :
    let v := ((wr.setCell ⟨b, 0, none⟩ (.int .i64 x)).setCell ⟨b, 1, none⟩ (.int .i64 y)).setCell ⟨b, 2, none⟩ (.int .i64 z)
    MaskAt v b x y z ∧ Below w.heap.size w v := by
  intro v
  have h0 : M0 (wr.setCell ⟨b, 0, none⟩ (.int .i64 x)) b x a2 a3 := by
    refine ⟨⟨World.cell?_setCell_same _ _ _ h.1.1, ?_, ?_⟩, ?_, ?_, ?_⟩
    · rw [World.cell?_setCell_other _ _ _ _ (by simp)]; exact h.1.2.1
    · rw [World.cell?_setCell_other _ _ _ _ (by simp)]; exact h.1.2.2
    · rw [World.frozen?_setCell]; exact h.2.1
    · rw [World.frozen?_setCell]; exact h.2.2.1
    · rw [World.frozen?_setCell]; exact h.2.2.2
  exact ⟨(m0_set2 (m0_set1 h0 y) z).1, ((hb.setCell (p := ⟨b, 0, none⟩) hle _).setCell (p := ⟨b, 1, none⟩) hle _).setCell (p := ⟨b, 2, none⟩) hle _⟩

/-! ### Of -/
set_option maxRecDepth 100000 in
theorem mof_dim (A C C' : Option Addr) (n c m d m' d' : Nat) (l : Int) (w : World) (hn : n ≤ maxLen) (h : ¬ ((1 ≤ n ∧ n ≤ 16) ∧ m = n ∧ m' = n)) :
    Calls Tryz.prog 170 #[.slice A n c, .int .i64 l, boxV C m d C' m' d'] w fun e w' => e = .returned (.tuple #[maskV 0 0 0, .int .i64 2]) ∧ Below w.heap.size w w' := by
  have H := Lib.hid h
  have Hn := Lib.hid hn
  clear h hn
  have s0 := OSt0.new w C m d C' m' d'
  have s0' := s0
  obtain ⟨-, ⟨k0, k1⟩, -, -⟩ := s0'
  go_enter Tryz.func170, Tryz.ntmps170
  go_wp2_with fail
  refine (malike_no A C C' n c m d m' d' _ Hn.out H.out).mono ?_
  rintro e w1 ⟨rfl, hb1⟩
  have s1 := s0.step hb1
  have s1' := s1
  obtain ⟨-, -, ⟨⟨r0, r1, r2⟩, f0, f1, f2⟩, -⟩ := s1'
  clear k0 k1
  go_wp2_with fail
  obtain ⟨⟨t0, t1, t2⟩, hbel⟩ := m0_out s1.2.2.1 s1.1 (by omega) 0 0 0
  refine bodyPost_ret (v := .tuple #[maskV 0 0 0, .int .i64 2]) (by simp [results, Tryz.results170, go_sem, t0, t1, t2]) rfl ?_
  exact ⟨rfl, hbel⟩
set_option maxRecDepth 100000 in
theorem mof_arg (A C C' : Option Addr) (n c m d m' d' : Nat) (l : Int) (w : World) (h1 : 1 ≤ n) (h16 : n ≤ 16) (e1 : m = n) (e2 : m' = n) (hl : l < 0 ∨ 63 < l) :
    Calls Tryz.prog 170 #[.slice A n c, .int .i64 l, boxV C m d C' m' d'] w fun e w' => e = .returned (.tuple #[maskV 0 0 0, .int .i64 3]) ∧ Below w.heap.size w w' := by
  have E1 := Lib.hid e1
  have E2 := Lib.hid e2
  clear e1 e2
  have s0 := OSt0.new w C m d C' m' d'
  have s0' := s0
  obtain ⟨-, ⟨k0, k1⟩, -, -⟩ := s0'
  go_enter Tryz.func170, Tryz.ntmps170
  go_wp2_with fail
  refine (malike_yes A C C' n c m d m' d' _ h1 h16 E1.out E2.out).mono ?_
  rintro e w1 ⟨rfl, hb1⟩
  have s1 := s0.step hb1
  have s1' := s1
  obtain ⟨-, -, ⟨⟨r0, r1, r2⟩, f0, f1, f2⟩, -⟩ := s1'
  clear k0 k1
  obtain ⟨⟨t0, t1, t2⟩, hbel⟩ := m0_out s1.2.2.1 s1.1 (by omega) 0 0 0
  by_cases c : l < 0
  · have d1 : decide (l < 0) = true := decide_eq_true c
    go_wp2_with fail
    refine bodyPost_ret (v := .tuple #[maskV 0 0 0, .int .i64 3]) (by simp [results, Tryz.results170, go_sem, t0, t1, t2]) rfl ?_
    exact ⟨rfl, hbel⟩
  · have d1 : decide (l < 0) = false := decide_eq_false c
    have d2 : decide (63 < l) = true := decide_eq_true (by omega)
    go_wp2_with fail
    refine bodyPost_ret (v := .tuple #[maskV 0 0 0, .int .i64 3]) (by simp [results, Tryz.results170, go_sem, t0, t1, t2]) rfl ?_
    exact ⟨rfl, hbel⟩
/-- the four cells that a round of Of reads -/
theorem four_below {w w' : World} {C b b1 o1 b2 o2 : Nat} {x y u v : Value} (h : w.cell? ⟨b, 0, none⟩ = some x ∧ w.cell? ⟨b, 1, none⟩ = some y ∧ w.cell? ⟨b1, o1, none⟩ = some u ∧ w.cell? ⟨b2, o2, none⟩ = some v) (hb : Below C w w') (h0 : b < C) (h1 : b1 < C) (h2 : b2 < C) :
    w'.cell? ⟨b, 0, none⟩ = some x ∧ w'.cell? ⟨b, 1, none⟩ = some y ∧ w'.cell? ⟨b1, o1, none⟩ = some u ∧ w'.cell? ⟨b2, o2, none⟩ = some v :=
  ⟨(hb.cell (p := ⟨b, 0, none⟩) h0).trans h.1, (hb.cell (p := ⟨b, 1, none⟩) h0).trans h.2.1, (hb.cell (p := ⟨b1, o1, none⟩) h1).trans h.2.2.1, (hb.cell (p := ⟨b2, o2, none⟩) h2).trans h.2.2.2⟩
theorem num_bits {f : Nat → Bool} {j k : Nat} (hk : k ≤ 16) (h : j < k) (hf : f j = true) : bits .or .i64 ((Mk.num f j : Int) * 2 ^ (k - j)) (wrap64 (2 ^ (k - 1 - j))) = ((Mk.num f (j + 1) * 2 ^ (k - (j + 1)) : Nat) : Int) := by
  have h1 := Mk.num_shift_lt f (Nat.le_of_lt h)
  have h2 := pow16 hk
  have h3 : 2 ^ (k - 1 - j) ≤ 2 ^ 15 := Nat.pow_le_pow_right (by omega) (by omega)
  have h4 := Nat.two_pow_pos (k - 1 - j)
  rw [show (Mk.num f j : Int) * 2 ^ (k - j) = ((Mk.num f j * 2 ^ (k - j) : Nat) : Int) by simp, show (2 : Int) ^ (k - 1 - j) = ((2 ^ (k - 1 - j) : Nat) : Int) by simp,
    IntWalk.wrap64_in _ (by omega), or_i64 _ _ (by omega) (by omega), Mk.num_or h hf]
theorem below_plain {wr w2 : World} (hb : Below wr.drew.heap.size wr.drew w2) : Below wr.heap.size wr w2 ∧ True := ⟨Below.andThen (Below.refl wr.heap.size wr).drew hb, trivial⟩
/-- a row of two bools that the round made: in block gb -/
def Two (wr w2 : World) (gb : Nat) : Prop := Bx0 w2 gb (.bool false) (.bool false) ∧ wr.heap.size ≤ gb
theorem below_made {wr w2 : World} (hb : Below (wr.drew.alloc (.cells #[.bool false, .bool false] 246)).heap.size (wr.drew.alloc (.cells #[.bool false, .bool false] 246)) w2) :
    Below wr.heap.size wr w2 ∧ Two wr w2 wr.heap.size :=
  ⟨Below.andThen ((Below.refl wr.heap.size wr).drew.alloc (Nat.le_refl _) _) hb, bx0_block (bx0_at (heap_at wr.drew _ wr.heap.size rfl)) (hb.block _ (by rw [World.size_alloc]; exact Nat.lt_succ_self _)), Nat.le_refl _⟩
theorem after_plain {wr w2 w3 : World} (h : Below wr.heap.size wr w2 ∧ True) (hb : Below w2.heap.size w2 w3) : Below wr.heap.size wr w3 ∧ True := ⟨Below.andThen h.1 hb, trivial⟩
theorem after_new {wr w2 w3 : World} (h : Below wr.heap.size wr w2 ∧ True) (hb : Below (w2.alloc (.cells #[.bool false, .bool false] 246)).heap.size (w2.alloc (.cells #[.bool false, .bool false] 246)) w3) :
    Below wr.heap.size wr w3 ∧ Two wr w3 w2.heap.size :=
  ⟨Below.andThen (h.1.alloc h.1.size _) hb, bx0_block (bx0_at (heap_at w2 _ w2.heap.size rfl)) (hb.block _ (by rw [World.size_alloc]; exact Nat.lt_succ_self _)), h.1.size⟩
theorem after_made {wr w2 w3 : World} {gb : Nat} (h : Below wr.heap.size wr w2 ∧ Two wr w2 gb) (hb : Below w2.heap.size w2 w3) : Below wr.heap.size wr w3 ∧ Two wr w3 gb :=
  ⟨Below.andThen h.1 hb, bx0_block h.2.1 (hb.block _ (World.block_lt_of_cell? w2 ⟨gb, 0, none⟩ h.2.1.1)), h.2.2⟩
theorem two_ne {wr w3 : World} {gb c0 c1 c2 : Nat} (h : Two wr w3 gb) (hl : c0 < wr.heap.size ∧ c1 < wr.heap.size ∧ c2 < wr.heap.size) : gb ≠ c0 ∧ gb ≠ c1 ∧ gb ≠ c2 := by
  have := h.2
  omega
/-- behind the round's region: the row of two bools in block gb -/
def OEnd (w wz : World) (gb mb : Nat) (A : Option Addr) (n c : Nat) (A' : Option Addr) (n' c' : Nat) (x y z : Int) (b0 b1 : Bool) : Prop :=
  OSt w wz mb A n c A' n' c' x y z ∧ (wz.cell? ⟨gb, 0, none⟩ = some (.bool b0) ∧ wz.cell? ⟨gb, 1, none⟩ = some (.bool b1)) ∧ gb ≠ mb
theorem oend_plain {w wr w3 : World} {mb : Nat} {A : Option Addr} {n c : Nat} {A' : Option Addr} {n' c' : Nat} {x y z : Int} {b0 b1 : Bool} (h : OSt w wr mb A n c A' n' c' x y z) (hB : Below wr.heap.size wr w3 ∧ True) :
    OEnd w (w3.alloc (.cells #[.bool b0, .bool b1] 246)) w3.heap.size mb A n c A' n' c' x y z b0 b1 := by
  have hs := hB.1.size
  refine ⟨(h.step hB.1).step (below_alloc _ _), ?_, ?_⟩
  · have := bx0_at (heap_at w3 (.cells #[.bool b0, .bool b1] 246) w3.heap.size rfl)
    exact ⟨this.1, this.2.1⟩
  · have := h.2.2.2.2.2
    omega
theorem oend_two {w wr w3 : World} {gb mb : Nat} {A : Option Addr} {n c : Nat} {A' : Option Addr} {n' c' : Nat} {x y z : Int} {b0 b1 : Bool} (h : OSt w wr mb A n c A' n' c' x y z) (hB : Below wr.heap.size wr w3 ∧ Two wr w3 gb) :
    OEnd w ((w3.setCell ⟨gb, 0, none⟩ (.bool b0)).setCell ⟨gb, 1, none⟩ (.bool b1)) gb mb A n c A' n' c' x y z b0 b1 := by
  have hg := hB.2.2
  refine ⟨h.step ((hB.1.setCell (p := ⟨gb, 0, none⟩) hg _).setCell (p := ⟨gb, 1, none⟩) hg _), bx0_two hB.2.1 _ _, ?_⟩
  have := h.2.2.2.2.2
  omega
theorem ost_eq {w wr : World} {mb : Nat} {A : Option Addr} {n c : Nat} {A' : Option Addr} {n' c' : Nat} {x y z y' z' : Int} (h : OSt w wr mb A n c A' n' c' x y z) (hy : y = y') (hz : z = z') : OSt w wr mb A n c A' n' c' x y' z' := by
  subst hy hz; exact h
set_option maxRecDepth 100000 in
set_option maxHeartbeats 3200000 in
theorem mof_yes (A C C' : Option Addr) (c d d' : Nat) (us lo hi : List Nat) (l B : Nat) (w : World) (pu : Pts w B A us) (pl : Pts w B C lo) (ph : Pts w B C' hi) (hB : B ≤ w.heap.size)
    (h1 : 1 ≤ us.length) (h16 : us.length ≤ 16) (e1 : lo.length = us.length) (e2 : hi.length = us.length) (hl : l ≤ 63) :
    Calls Tryz.prog 170 #[.slice A us.length c, .int .i64 (l : Int), boxV C lo.length d C' hi.length d'] w fun e w' =>
      e = .returned (.tuple #[maskV (us.length : Int) (Mk.lowM us l lo hi : Int) (Mk.highM us l lo hi : Int), .int .i64 0]) ∧ Below w.heap.size w w' := by
  obtain ⟨b, off, hA, hb, hc⟩ := pu.at h1
  obtain ⟨b1, off1, hA1, hb1', hc1⟩ := pl.at (by omega)
  obtain ⟨b2, off2, hA2, hb2', hc2⟩ := ph.at (by omega)
  subst hA hA1 hA2
  have hug := fun i => Bx.g_lt pu.ok i
  have hlg := fun i => Bx.g_lt pl.ok i
  have hhg := fun i => Bx.g_lt ph.ok i
  have E1 := Lib.hid e1
  have E2 := Lib.hid e2
  have g1 : 1 ≤ lo.length := by omega
  have g16 : lo.length ≤ 16 := by omega
  have k1 : 1 ≤ hi.length := by omega
  have k16 : hi.length ≤ 16 := by omega
  clear e1 e2 pu pl ph
  have s0 := OSt0.new w (some ⟨b1, off1, none⟩) lo.length d (some ⟨b2, off2, none⟩) hi.length d'
  have s0' := s0
  obtain ⟨-, ⟨q0, q1⟩, -, -⟩ := s0'
  go_enter Tryz.func170, Tryz.ntmps170
  go_wp2_with fail
  refine (malike_yes _ _ _ us.length c lo.length d hi.length d' _ h1 h16 E1.out E2.out).mono ?_
  rintro e w1 ⟨rfl, hb1⟩
  have s1 := (s0.step hb1).mask (us.length : Int) 0 0
  clear q0 q1
  generalize hmb : w1.heap.size = mb at *
  go_wp2_with fail
  have hW : OSt w (w1.alloc (.cells #[.int .i64 (us.length : Int), .int .i64 0, .int .i64 0] 204)) mb (some ⟨b1, off1, none⟩) lo.length d (some ⟨b2, off2, none⟩) hi.length d' (us.length : Int)
      ((Mk.num (Mk.lowF us l lo hi) 0 * 2 ^ (us.length - 0) : Nat) : Int) ((Mk.num (Mk.highF us l lo hi) 0 * 2 ^ (us.length - 0) : Nat) : Int) := by simpa [Mk.num] using s1
  clear s0 hb1 s1 hmb
  go_loopw [9, 10, 11, 12, 30] (fun _ _ _ _ i wr => ∃ j : Nat, j ≤ us.length ∧ i = .int .i64 j ∧ OSt w wr mb (some ⟨b1, off1, none⟩) lo.length d (some ⟨b2, off2, none⟩) hi.length d' (us.length : Int)
      ((Mk.num (Mk.lowF us l lo hi) j * 2 ^ (us.length - j) : Nat) : Int) ((Mk.num (Mk.highF us l lo hi) j * 2 ^ (us.length - j) : Nat) : Int)) (fun _ _ _ _ i _ => us.length - (intOf i).toNat)
  case atStart => exact ⟨0, Nat.zero_le _, rfl, hW⟩
  case round =>
    obtain ⟨j, hj, rfl, hs⟩ := hrel
    clear hW
    have hs0 := hs
    have hbw := hs.1
    have hsz := hbw.size
    by_cases hlt : j < us.length
    · clear hs0
      have j1 : j < lo.length := by have := E1.out; omega
      have j2 : j < hi.length := by have := E2.out; omega
      have hcell := (hbw.cell (p := ⟨b, off + j, none⟩) (by show b < _; omega)).trans (hc j hlt)
      have hcell1 := (hbw.cell (p := ⟨b1, off1 + j, none⟩) (by show b1 < _; omega)).trans (hc1 j j1)
      have hcell2 := (hbw.cell (p := ⟨b2, off2 + j, none⟩) (by show b2 < _; omega)).trans (hc2 j j2)
      have hu := hug j
      obtain ⟨b0v, hb0⟩ : ∃ x, Mk.leaves (Bx.g us j) l 0 (Bx.g lo j) (Bx.g hi j) = x := ⟨_, rfl⟩
      obtain ⟨b1v, hb1⟩ : ∃ x, Mk.leaves (Bx.g us j) l 1 (Bx.g lo j) (Bx.g hi j) = x := ⟨_, rfl⟩
      have Hb := Lib.hid (And.intro hb0 hb1)
      have hlF : Mk.lowF us l lo hi j = !b0v := by rw [← hb0]; rfl
      have hhF : Mk.highF us l lo hi j = b1v := hb1
      have HF : Hid (((b0v = false → bits .or .i64 ((Mk.num (Mk.lowF us l lo hi) j : Int) * 2 ^ (us.length - j)) (wrap64 (2 ^ (us.length - 1 - j))) = ((Mk.num (Mk.lowF us l lo hi) (j + 1) * 2 ^ (us.length - (j + 1)) : Nat) : Int)) ∧
          (b0v = true → ((Mk.num (Mk.lowF us l lo hi) j * 2 ^ (us.length - j) : Nat) : Int) = ((Mk.num (Mk.lowF us l lo hi) (j + 1) * 2 ^ (us.length - (j + 1)) : Nat) : Int))) ∧
        ((b1v = true → bits .or .i64 ((Mk.num (Mk.highF us l lo hi) j : Int) * 2 ^ (us.length - j)) (wrap64 (2 ^ (us.length - 1 - j))) = ((Mk.num (Mk.highF us l lo hi) (j + 1) * 2 ^ (us.length - (j + 1)) : Nat) : Int)) ∧
          (b1v = false → ((Mk.num (Mk.highF us l lo hi) j * 2 ^ (us.length - j) : Nat) : Int) = ((Mk.num (Mk.highF us l lo hi) (j + 1) * 2 ^ (us.length - (j + 1)) : Nat) : Int)))) :=
        Lib.hid ⟨⟨fun h => num_bits h16 hlt (by rw [hlF, h]; rfl), fun h => by rw [Mk.num_same hlt (by rw [hlF, h]; rfl)]⟩, fun h => num_bits h16 hlt (by rw [hhF, h]), fun h => by rw [Mk.num_same hlt (by rw [hhF, h])]⟩
      clear hb0 hb1 hlF hhF hc hc1 hc2 hug hlg hhg
      have hX := hs.2.1
      obtain ⟨q0, q1⟩ := hX
      have Hs := Lib.hid hs
      have Hq : Hid (wr.cell? ⟨w.heap.size, 0, none⟩ = some (.slice (some ⟨b1, off1, none⟩) lo.length d) ∧ wr.cell? ⟨w.heap.size, 1, none⟩ = some (.slice (some ⟨b2, off2, none⟩) hi.length d') ∧ wr.cell? ⟨b1, off1 + j, none⟩ = some (.int .u64 (Bx.g lo j : Int)) ∧ wr.cell? ⟨b2, off2 + j, none⟩ = some (.int .u64 (Bx.g hi j : Int))) := Lib.hid ⟨q0, q1, hcell1, hcell2⟩
      have Hlt : Hid (w.heap.size < wr.heap.size ∧ b1 < wr.heap.size ∧ b2 < wr.heap.size) := Lib.hid ⟨by have := hs.2.2.2.2.1; have := hs.2.2.2.2.2; omega, by omega, by omega⟩
      clear hs hbw hsz
      generalize Bx.g us j = u at *
      generalize Bx.g lo j = x at *
      generalize Bx.g hi j = y at *
      go_wp2_with fail
      go_region_held (fun w' => w'.cell? ⟨w.heap.size, 0, none⟩ = some (.slice (some ⟨b1, off1, none⟩) lo.length d) ∧ w'.cell? ⟨w.heap.size, 1, none⟩ = some (.slice (some ⟨b2, off2, none⟩) hi.length d') ∧ w'.cell? ⟨b1, off1 + j, none⟩ = some (.int .u64 (x : Int)) ∧ w'.cell? ⟨b2, off2 + j, none⟩ = some (.int .u64 (y : Int))) (go_keep)
        (first
          | (go_at_call 191; refine (mhalves_c u l _ hu hl).mono ?_; rintro e w2 ⟨rfl, hb2⟩; (first | (have hB2 := below_made hb2; obtain ⟨z4, z5, z6, z7⟩ := hB2.2.1) | have hB2 := below_plain hb2); obtain ⟨z0, z1, z2, z3⟩ := four_below Hq.out hB2.1 Hlt.out.1 Hlt.out.2.1 Hlt.out.2.2)
          | (go_at_call 190; refine (mleaves_at u l x y _ b0v b1v Hb.out.1 Hb.out.2).mono ?_; rintro e w3 ⟨rfl, hb3⟩; (first | (have hB3 := after_made hB2 hb3; obtain ⟨y4, y5, y6, y7⟩ := hB3.2.1; obtain ⟨n0, n1, n2⟩ := two_ne hB3.2 Hlt.out) | (have hB3 := after_new hB2 hb3; obtain ⟨y4, y5, y6, y7⟩ := hB3.2.1; obtain ⟨n0, n1, n2⟩ := two_ne hB3.2 Hlt.out) | have hB3 := after_plain hB2 hb3); obtain ⟨y0, y1, y2, y3⟩ := four_below Hq.out hB3.1 Hlt.out.1 Hlt.out.2.1 Hlt.out.2.2))
      all_goals (first
        | (generalize hwz : World.setCell (World.setCell w3 _ _) _ _ = wz at *; have hz := oend_two (b0 := b0v) (b1 := b1v) Hs.out hB3; rw [hwz] at hz)
        | (have hz := oend_plain (b0 := b0v) (b1 := b1v) Hs.out hB3; generalize hwz : World.alloc w3 _ = wz at *))
      all_goals (
        obtain ⟨hO, ⟨c0, c1⟩, hne⟩ := hz
        have hO' := hO
        obtain ⟨-, -, -, ⟨⟨m0, m1, m2⟩, f0, f1, f2⟩, -, -⟩ := hO'
        have HO := Lib.hid hO
        have Hne := Lib.hid hne
        have hne2 := Ne.symm hne
        clear hO hwz hB2 hB3)
      all_goals clear Hs
      all_goals (
        cases b0v
        · have hL := HF.out.1.1 rfl
          cases b1v
          · have hH := HF.out.2.2 rfl
            have HLH := Lib.hid (And.intro hL hH)
            clear hL hH HF
            go_wp2_with fail
            go_roundw
            case rel => exact ⟨j + 1, by omega, by go_num, ost_eq (HO.out.set1 _) HLH.out.1 HLH.out.2⟩
            case measure => simp [intOf]; omega
          · have hH := HF.out.2.1 rfl
            have HLH := Lib.hid (And.intro hL hH)
            clear hL hH HF
            go_wp2_with fail
            go_roundw
            case rel => exact ⟨j + 1, by omega, by go_num, ost_eq ((HO.out.set1 _).set2 _) HLH.out.1 HLH.out.2⟩
            case measure => simp [intOf]; omega
        · have hL := HF.out.1.2 rfl
          cases b1v
          · have hH := HF.out.2.2 rfl
            have HLH := Lib.hid (And.intro hL hH)
            clear hL hH HF
            go_wp2_with fail
            go_roundw
            case rel => exact ⟨j + 1, by omega, by go_num, ost_eq HO.out HLH.out.1 HLH.out.2⟩
            case measure => simp [intOf]; omega
          · have hH := HF.out.2.1 rfl
            have HLH := Lib.hid (And.intro hL hH)
            clear hL hH HF
            go_wp2_with fail
            go_roundw
            case rel => exact ⟨j + 1, by omega, by go_num, ost_eq (HO.out.set2 _) HLH.out.1 HLH.out.2⟩
            case measure => simp [intOf]; omega)
    · obtain ⟨-, -, ⟨⟨r0, r1, r2⟩, f0, f1, f2⟩, ⟨⟨m0, m1, m2⟩, -⟩, -⟩ := hs
      have hjk : j = us.length := by omega
      have hlo : ((Mk.num (Mk.lowF us l lo hi) j * 2 ^ (us.length - j) : Nat) : Int) = (Mk.lowM us l lo hi : Int) := by subst hjk; simp [Mk.lowM]
      have hhi : ((Mk.num (Mk.highF us l lo hi) j * 2 ^ (us.length - j) : Nat) : Int) = (Mk.highM us l lo hi : Int) := by subst hjk; simp [Mk.highM]
      rw [hlo] at m1
      rw [hhi] at m2
      have Hs := Lib.hid hs0
      clear hs0 hlo hhi hjk hc hc1 hc2 hug hlg hhg hbw hsz
      go_wp2_with fail
      obtain ⟨⟨t0, t1, t2⟩, hbel⟩ := m0_out Hs.out.2.2.1 Hs.out.1 (by omega) (us.length : Int) (Mk.lowM us l lo hi : Int) (Mk.highM us l lo hi : Int)
      refine bodyPost_ret (v := .tuple #[maskV (us.length : Int) (Mk.lowM us l lo hi : Int) (Mk.highM us l lo hi : Int), .int .i64 0]) (by simp [results, Tryz.results170, go_sem, t0, t1, t2]) rfl ?_
      exact ⟨rfl, hbel⟩

end Go.Proofs.YtdpbcfjhljgicaaGreatDoor
