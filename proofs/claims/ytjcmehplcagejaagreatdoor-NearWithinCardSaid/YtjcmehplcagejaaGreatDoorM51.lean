import Derived.Test.YtjcmehplcagejaaGreatDoorM50
/-
  CONTRACTS of package box, fifth part: the functions that tell the ends, and Meet.
-/
namespace Go.Proofs.YtjcmehplcagejaaGreatDoor
open Go.ChangeShapes Go.WideShapes Go.ChangeAt Go.RowKit

theorem enters_at {fid : Nat} {fn : Func} {c : Code} (hf : Tryz.prog.funcs[fid]? = some fn) (hname : (fn.name == "runtime.NumGoroutine") = false) (hb : fn.body = some c) : ∀ args w, (callFunc fid args).run Tryz.prog w = .ok (.enter fid args) w :=
  fun args w => enters_of hf hname hb args w

/-- the memory of Meet: the two boxes, and the result's block -/
def MSt (A : Option Addr) (n c : Nat) (A' : Option Addr) (n' c' : Nat) (C : Option Addr) (m d : Nat) (C' : Option Addr) (m' d' : Nat) (w wr : World) : Prop :=
  Below w.heap.size w wr ∧ w.heap.size + 3 ≤ wr.heap.size ∧ BoxAt wr w.heap.size A n c A' n' c' ∧ BoxAt wr (w.heap.size + 1) C m d C' m' d' ∧ Bx0 wr (w.heap.size + 2) (.slice none 0 0) (.slice none 0 0)
theorem MSt.new (A : Option Addr) (n c : Nat) (A' : Option Addr) (n' c' : Nat) (C : Option Addr) (m d : Nat) (C' : Option Addr) (m' d' : Nat) (w : World) :
    MSt A n c A' n' c' C m d C' m' d' w (((w.alloc (.cells #[.slice A n c, .slice A' n' c'] 25)).alloc (.cells #[.slice C m d, .slice C' m' d'] 25)).alloc (.cells #[.slice none 0 0, .slice none 0 0] 25)) := by
  refine ⟨((below_alloc _ _).alloc (by simp) _).alloc (by simp; omega) _, by simp, ?_, ?_, ?_⟩
  · have h := bx0_at (heap_past (.cells #[.slice none 0 0, .slice none 0 0] 25) (heap_past (.cells #[.slice C m d, .slice C' m' d'] 25) (heap_at w (.cells #[.slice A n c, .slice A' n' c'] 25) _ rfl)))
    exact ⟨h.1, h.2.1⟩
  · have h := bx0_at (heap_past (.cells #[.slice none 0 0, .slice none 0 0] 25) (heap_at (w.alloc (.cells #[.slice A n c, .slice A' n' c'] 25)) (.cells #[.slice C m d, .slice C' m' d'] 25) (w.heap.size + 1) (by simp)))
    exact ⟨h.1, h.2.1⟩
  · exact bx0_at (heap_at _ _ _ (by simp))
theorem MSt.step {A : Option Addr} {n c : Nat} {A' : Option Addr} {n' c' : Nat} {C : Option Addr} {m d : Nat} {C' : Option Addr} {m' d' : Nat} {w wr wx : World} (h : MSt A n c A' n' c' C m d C' m' d' w wr) (hb : Below wr.heap.size wr wx) : MSt A n c A' n' c' C m d C' m' d' w wx := by
  obtain ⟨h1, h2, h3, h4, h5⟩ := h
  exact ⟨Below.andThen h1 hb, Nat.le_trans h2 hb.size, h3.below hb (by omega), h4.below hb (by omega), bx0_block h5 (hb.block _ (by omega))⟩

/-- what a call that makes a box leaves, once the box is stored in the result's block -/
theorem box_out {w wr : World} {r base gl gh k : Nat} {us vs : List Nat} {x y : Value} (hr : w.heap.size ≤ r) (hrb : r < base) (h0 : Bx0 wr r x y) (hb : Below w.heap.size w wr)
    (o1 : Own wr base (.slice (some ⟨gl, 0, none⟩) k k) us) (o2 : Own wr base (.slice (some ⟨gh, 0, none⟩) k k) vs) :
    ((wr.setCell ⟨r, 0, none⟩ (.slice (some ⟨gl, 0, none⟩) k k)).setCell ⟨r, 1, none⟩ (.slice (some ⟨gh, 0, none⟩) k k)).cell? ⟨r, 0, none⟩ = some (.slice (some ⟨gl, 0, none⟩) k k) ∧
    ((wr.setCell ⟨r, 0, none⟩ (.slice (some ⟨gl, 0, none⟩) k k)).setCell ⟨r, 1, none⟩ (.slice (some ⟨gh, 0, none⟩) k k)).cell? ⟨r, 1, none⟩ = some (.slice (some ⟨gh, 0, none⟩) k k) ∧
    Own ((wr.setCell ⟨r, 0, none⟩ (.slice (some ⟨gl, 0, none⟩) k k)).setCell ⟨r, 1, none⟩ (.slice (some ⟨gh, 0, none⟩) k k)) base (.slice (some ⟨gl, 0, none⟩) k k) us ∧
    Own ((wr.setCell ⟨r, 0, none⟩ (.slice (some ⟨gl, 0, none⟩) k k)).setCell ⟨r, 1, none⟩ (.slice (some ⟨gh, 0, none⟩) k k)) base (.slice (some ⟨gh, 0, none⟩) k k) vs ∧
    Below w.heap.size w ((wr.setCell ⟨r, 0, none⟩ (.slice (some ⟨gl, 0, none⟩) k k)).setCell ⟨r, 1, none⟩ (.slice (some ⟨gh, 0, none⟩) k k)) := by
  obtain ⟨k0, k1⟩ := bx0_two h0 (.slice (some ⟨gl, 0, none⟩) k k) (.slice (some ⟨gh, 0, none⟩) k k)
  have l1 := (o1.2.lt gl rfl).1
  have l2 := (o2.2.lt gh rfl).1
  have n1 : gl ≠ r := by omega
  have n2 : gh ≠ r := by omega
  exact ⟨k0, k1, own_store (own_store o1 (by simpa [Value.ownBlock] using n1) _) (by simpa [Value.ownBlock] using n1) _, own_store (own_store o2 (by simpa [Value.ownBlock] using n2) _) (by simpa [Value.ownBlock] using n2) _,
    (hb.setCell (p := ⟨r, 0, none⟩) hr _).setCell (p := ⟨r, 1, none⟩) hr _⟩

end Go.Proofs.YtjcmehplcagejaaGreatDoor
/-
  CONTRACTS of package box, sixth part: Around and Cell.
-/
namespace Go.Proofs.YtjcmehplcagejaaGreatDoor
open Go.ChangeShapes Go.WideShapes Go.ChangeAt Go.RowKit

theorem not_keep (k : Nat) (hk : k ≤ 64) : bits .xor .u64 18446744073709551615 (IntKind.u64.wrap (18446744073709551615 * 2 ^ k)) = ((2 ^ k - 1 : Nat) : Int) := by
  have hp := Nat.two_pow_pos k
  have hp2 := Bx.pow_le_64 hk
  rw [keep_nat k hk]
  have h := bits_xor_u64_nat 18446744073709551615 (18446744073709551616 - 2 ^ k) (by omega) (by omega)
  have e : (18446744073709551615 : Nat) ^^^ (18446744073709551616 - 2 ^ k) = 2 ^ k - 1 := by
    apply Nat.eq_of_testBit_eq
    intro m
    rw [Nat.testBit_xor, show (18446744073709551615 : Nat) = 2 ^ 64 - 1 from rfl, Nat.testBit_two_pow_sub_one, show (18446744073709551616 : Nat) = 2 ^ 64 from rfl, show 2 ^ 64 - 2 ^ k = 2 ^ 64 - (2 ^ k - 1 + 1) by omega,
      Nat.testBit_two_pow_sub_succ (by omega), Nat.testBit_two_pow_sub_one]
    by_cases h1 : m < k
    · simp [h1, show m < 64 by omega]
    · by_cases h2 : m < 64 <;> simp [h1, h2]
  rw [e] at h
  exact h
theorem or_cell (u k : Nat) (hu : u < 18446744073709551616) (hk : k ≤ 64) : bits .or .u64 (Z.cutN u k : Int) ((2 ^ k - 1 : Nat) : Int) = ((Z.cutN u k + (2 ^ k - 1) : Nat) : Int) := by
  have hp := Nat.two_pow_pos k
  have hp2 := Bx.pow_le_64 hk
  rw [bits_or_u64_nat _ _ (Nat.lt_of_le_of_lt (Z.cutN_le _ _) hu) (by omega), nat_join k _ _ (by unfold Z.cutN; exact Nat.mul_mod_left _ _) (by omega)]
set_option maxRecDepth 100000 in
theorem cellEnds_c (A : Option Addr) (c : Nat) (us : List Nat) (k i b1 b2 B : Nat) (w : World) (hi : i < us.length) (h16 : us.length ≤ 16) (hk : k ≤ 64) (hok : Z.Ok us)
    (x1 : w.cell? ⟨b1, 0, none⟩ = some (.slice A us.length c)) (x2 : w.cell? ⟨b2, 0, none⟩ = some (.int .u64 ((2 ^ k - 1 : Nat) : Int))) (p1 : Pts w B A (Z.cut us k)) :
    Calls Tryz.prog 228 #[.int .i64 (i : Int), .pointer (some ⟨b1, 0, none⟩), .pointer (some ⟨b2, 0, none⟩)] w fun e w' => e = .returned (.tuple #[.int .u64 (Z.cutN (Bx.g us i) k : Int), .int .u64 ((Z.cutN (Bx.g us i) k + (2 ^ k - 1) : Nat) : Int)]) ∧ ∃ n, w' = w.drewN n := by
  obtain ⟨s1, o1, hA, _, c1⟩ := p1.at (by rw [Z.cut_length]; omega)
  subst hA
  have q1 := c1 i (by rw [Z.cut_length]; omega)
  rw [Bx.g_cut k hi] at q1
  have hor := Lib.hid (or_cell (Bx.g us i) k (Bx.g_lt hok i) hk)
  clear c1 p1 hok
  generalize Z.cutN (Bx.g us i) k = a at *
  generalize 2 ^ k - 1 = q at *
  go_enter Tryz.func228, Tryz.ntmps228
  go_wp2
  go_quiet (fail)
  go_wp2
  go_ret2
  exact ⟨by rw [hor.out]; rfl, _, rfl⟩

/-! ### Around -/
/-- the memory of Around: the point, the number, and the result's block -/
def ASt (A : Option Addr) (n c m : Nat) (w wr : World) : Prop :=
  Below w.heap.size w wr ∧ w.heap.size + 3 ≤ wr.heap.size ∧ wr.cell? ⟨w.heap.size, 0, none⟩ = some (.slice A n c) ∧ wr.cell? ⟨w.heap.size + 1, 0, none⟩ = some (.int .u64 (m : Int)) ∧ Bx0 wr (w.heap.size + 2) (.slice none 0 0) (.slice none 0 0)
theorem ASt.new (A : Option Addr) (n c m : Nat) (w : World) :
    ASt A n c m w (((w.alloc (.cells #[.slice A n c] 23)).alloc (.cells #[.int .u64 (m : Int)] 46)).alloc (.cells #[.slice none 0 0, .slice none 0 0] 25)) := by
  refine ⟨((below_alloc _ _).alloc (by simp) _).alloc (by simp; omega) _, by simp, ?_, ?_, ?_⟩
  · exact cell_of_one (heap_past (.cells #[.slice none 0 0, .slice none 0 0] 25) (heap_past (.cells #[.int .u64 (m : Int)] 46) (heap_at w (.cells #[.slice A n c] 23) _ rfl)))
  · exact cell_of_one (heap_past (.cells #[.slice none 0 0, .slice none 0 0] 25) (heap_at (w.alloc (.cells #[.slice A n c] 23)) (.cells #[.int .u64 (m : Int)] 46) (w.heap.size + 1) (by simp)))
  · exact bx0_at (heap_at _ _ _ (by simp))
theorem ASt.step {A : Option Addr} {n c m : Nat} {w wr wx : World} (h : ASt A n c m w wr) (hb : Below wr.heap.size wr wx) : ASt A n c m w wx := by
  obtain ⟨h1, h2, h3, h4, h5⟩ := h
  exact ⟨Below.andThen h1 hb, Nat.le_trans h2 hb.size, (hb.cell (p := ⟨w.heap.size, 0, none⟩) (by show w.heap.size < _; omega)).trans h3, (hb.cell (p := ⟨w.heap.size + 1, 0, none⟩) (by show w.heap.size + 1 < _; omega)).trans h4, bx0_block h5 (hb.block _ (by omega))⟩

/-! ### Cell -/
theorem zcut_k (A : Option Addr) (c : Nat) (us : List Nat) (k : Nat) (B : Nat) (w : World) (hp : Pts w B A us) (hB : B ≤ w.heap.size) (h1 : 1 ≤ us.length) (h16 : us.length ≤ 16) (hk : k ≤ 64) :
    Calls Tryz.prog 143 #[.slice A us.length c, .int .i64 ((k : Int) - 1)] w fun e w' => ∃ v, e = .returned (.tuple #[v, .int .i64 0]) ∧ Own w' w.heap.size v (Z.cut us k) ∧ Below w.heap.size w w' := by
  cases k with
  | zero => exact cut_all A c us B w hp hB h1 h16
  | succ L =>
    rw [show ((L + 1 : Nat) : Int) - 1 = (L : Int) by omega]
    exact cut_yes A c us L B w hp hB h1 h16 (by omega)
/-- the memory of Cell: the result's block, the cut point, and what is cut -/
def CSt (A : Option Addr) (n c q b : Nat) (us : List Nat) (w wr : World) : Prop :=
  Below w.heap.size w wr ∧ w.heap.size < b ∧ b + 2 ≤ wr.heap.size ∧ wr.cell? ⟨b, 0, none⟩ = some (.slice A n c) ∧ wr.cell? ⟨b + 1, 0, none⟩ = some (.int .u64 (q : Int)) ∧ Bx0 wr w.heap.size (.slice none 0 0) (.slice none 0 0) ∧ Pts wr b A us
theorem CSt.new {A : Option Addr} {n c q : Nat} {us : List Nat} {w w2 : World} (hb : Below (w.alloc (.cells #[.slice none 0 0, .slice none 0 0] 25)).heap.size (w.alloc (.cells #[.slice none 0 0, .slice none 0 0] 25)) w2) (hp : Pts w2 w2.heap.size A us) :
    CSt A n c q w2.heap.size us w ((w2.alloc (.cells #[.slice A n c] 23)).alloc (.cells #[.int .u64 (q : Int)] 46)) := by
  have hs := hb.size
  rw [World.size_alloc] at hs
  have hbx : w2.heap[w.heap.size]? = some (.cells #[.slice none 0 0, .slice none 0 0] 25) := (hb.block w.heap.size (by simp)).trans (heap_at _ _ _ rfl)
  refine ⟨((Below.andThen (below_alloc _ _) hb).alloc (by omega) _).alloc (by simp; omega) _, by omega, by simp, ?_, ?_, ?_, ?_⟩
  · exact cell_of_one (heap_past (.cells #[.int .u64 (q : Int)] 46) (heap_at w2 (.cells #[.slice A n c] 23) _ rfl))
  · exact cell_of_one (heap_at (w2.alloc (.cells #[.slice A n c] 23)) (.cells #[.int .u64 (q : Int)] 46) (w2.heap.size + 1) (by simp))
  · exact bx0_at (heap_past _ (heap_past _ hbx))
  · exact hp.below' ((below_alloc _ _).alloc (by simp) _) (Nat.le_refl _)
theorem CSt.step {A : Option Addr} {n c q b : Nat} {us : List Nat} {w wr wx : World} (h : CSt A n c q b us w wr) (hb : Below wr.heap.size wr wx) : CSt A n c q b us w wx := by
  obtain ⟨h1, h2, h3, h4, h5, h6, h7⟩ := h
  exact ⟨Below.andThen h1 hb, h2, Nat.le_trans h3 hb.size, (hb.cell (p := ⟨b, 0, none⟩) (by show b < _; omega)).trans h4, (hb.cell (p := ⟨b + 1, 0, none⟩) (by show b + 1 < _; omega)).trans h5, bx0_block h6 (hb.block _ (by omega)), h7.below' hb (by omega)⟩

set_option maxRecDepth 100000 in
theorem bcell_own (A : Option Addr) (c k : Nat) (us : List Nat) (B : Nat) (w : World) (hp : Pts w B A us) (hB : B ≤ w.heap.size) (h1 : 1 ≤ us.length) (h16 : us.length ≤ 16) (hk : k ≤ 64) :
    Calls Tryz.prog 206 #[.slice A us.length c, .int .i64 ((k : Int) - 1)] w fun e w' => ∃ gl gh, e = .returned (.tuple #[boxV (some ⟨gl, 0, none⟩) us.length us.length (some ⟨gh, 0, none⟩) us.length us.length, .int .i64 0]) ∧
      Own w' w.heap.size (.slice (some ⟨gl, 0, none⟩) us.length us.length) (Z.cut us k) ∧ Own w' w.heap.size (.slice (some ⟨gh, 0, none⟩) us.length us.length) (Bx.cellHi us k) ∧ Below w.heap.size w w' := by
  have P := Lib.hid hp
  clear hp
  have hB0 := Nat.le_trans hB (below_alloc w (.cells #[.slice none 0 0, .slice none 0 0] 25)).size
  have P0 := Lib.hid (P.out.below' (below_alloc w (.cells #[.slice none 0 0, .slice none 0 0] 25)) hB)
  have henter := enters_at Tryz.func228 (by kernel_rfl) rfl
  have hnk : Hid (bits .xor .u64 IntKind.u64.max (IntKind.u64.wrap (18446744073709551615 * 2 ^ k)) = ((2 ^ k - 1 : Nat) : Int)) := Lib.hid (not_keep k hk)
  go_enter Tryz.func206, Tryz.ntmps206
  go_wp2_with (first
    | (go_at_call 143; refine (zcut_k _ _ us k _ _ P0.out hB0 h1 h16 hk).mono ?_; rintro e w2 ⟨v2, rfl, own2, hb2⟩; obtain ⟨A2, c2, hv2, p2⟩ := own2.pts; rw [Z.cut_length] at hv2; subst hv2))
  rw [hnk.out]
  have s4 := CSt.new (n := us.length) (c := c2) (q := 2 ^ k - 1) hb2 p2
  have hends : ∀ (i : Nat) (wr : World), i < us.length → Below ((w2.alloc (.cells #[.slice A2 us.length c2] 23)).alloc (.cells #[.int .u64 ((2 ^ k - 1 : Nat) : Int)] 46)).heap.size ((w2.alloc (.cells #[.slice A2 us.length c2] 23)).alloc (.cells #[.int .u64 ((2 ^ k - 1 : Nat) : Int)] 46)) wr → Calls Tryz.prog 228 #[.int .i64 (i : Int), .pointer (some ⟨w2.heap.size, 0, none⟩), .pointer (some ⟨w2.heap.size + 1, 0, none⟩)] wr (fun e w' => e = .returned (.tuple #[.int .u64 (Z.cutN (Bx.g us i) k : Int), .int .u64 ((Z.cutN (Bx.g us i) k + (2 ^ k - 1) : Nat) : Int)]) ∧ ∃ n, w' = wr.drewN n) :=
    fun i wr hi hb => cellEnds_c A2 c2 us k i _ _ _ wr hi h16 hk P.out.ok (s4.step hb).2.2.2.1 (s4.step hb).2.2.2.2.1 (s4.step hb).2.2.2.2.2.2
  refine (boxOf_c us.length 228 w2.heap.size (w2.heap.size + 1) (fun i => Z.cutN (Bx.g us i) k) (fun i => Z.cutN (Bx.g us i) k + (2 ^ k - 1)) _ h1 h16 (fun i _ => Nat.lt_of_le_of_lt (Z.cutN_le _ _) (Bx.g_lt P.out.ok i)) (fun i _ => Bx.cell_lt (Bx.g_lt P.out.ok i) hk) henter hends).mono ?_
  rintro e w3 ⟨gl, gh, rfl, o1, o2, hb3⟩
  have s5 := s4.step hb3
  obtain ⟨-, -, -, -, -, ⟨r0, r1, r2, r3⟩, -⟩ := s5
  have s5 := s4.step hb3
  clear hends
  go_wp2_with fail
  have hsz := s4.2.1
  have hsz2 := s4.2.2.1
  obtain ⟨k0, k1, v1, v2, hbel⟩ := box_out (r := w.heap.size) (Nat.le_refl _) (by omega) s5.2.2.2.2.2.1 s5.1 o1 o2
  have hres : Bx.tab us.length (fun i => Z.cutN (Bx.g us i) k) = Z.cut us k := by
    refine Bx.ext_g (by rw [Bx.tab_length, Z.cut_length]) fun i hi => ?_
    rw [Bx.tab_length] at hi
    rw [Bx.g_cut k hi]
    exact Bx.g_tab _ hi
  refine bodyPost_ret (v := .tuple #[boxV (some ⟨gl, 0, none⟩) us.length us.length (some ⟨gh, 0, none⟩) us.length us.length, .int .i64 0]) (by simp [results, Tryz.results206, go_sem, k0, k1]) rfl ?_
  exact ⟨gl, gh, rfl, by rw [← hres]; exact v1.mono (by omega), v2.mono (by omega), hbel⟩
end Go.Proofs.YtjcmehplcagejaaGreatDoor
