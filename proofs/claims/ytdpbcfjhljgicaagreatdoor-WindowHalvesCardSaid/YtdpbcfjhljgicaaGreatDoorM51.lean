import Derived.Test.YtdpbcfjhljgicaaGreatDoorM50
/-
  CONTRACTS of package box, fifth part: the functions that tell the ends, and Meet.
-/
namespace Go.Proofs.YtdpbcfjhljgicaaGreatDoor
open Go.ChangeShapes Go.WideShapes Go.ChangeAt Go.RowKit

theorem enters_at {fid : Nat} {fn : Func} {c : Code} (hf : Tryz.prog.funcs[fid]? = some fn) (hname : (fn.name == "runtime.NumGoroutine") = false) (hb : fn.body = some c) : ∀ args w, (callFunc fid args).run Tryz.prog w = .ok (.enter fid args) w :=
  fun args w => enters_of hf hname hb args w

/-- the memory of Meet: the two boxes, and the result's block -/
def MSt (A : Option Addr) (n c : Nat) (A' : Option Addr) (n' c' : Nat) (C : Option Addr) (m d : Nat) (C' : Option Addr) (m' d' : Nat) (w wr : World) : Prop :=
  Below w.heap.size w wr ∧ w.heap.size + 3 ≤ wr.heap.size ∧ BoxAt wr w.heap.size A n c A' n' c' ∧ BoxAt wr (w.heap.size + 1) C m d C' m' d' ∧ Bx0 wr (w.heap.size + 2) (.slice none 0 0) (.slice none 0 0)
theorem MSt.new (A : Option Addr) (n c : Nat) (A' : Option Addr) (n' c' : Nat) (C : Option Addr) (m d : Nat) (C' : Option Addr) (m' d' : Nat) (w : World) :
    MSt A n c A' n' c' C m d C' m' d' w (((w.alloc (.cells #[.slice A n c, .slice A' n' c'] 25)).alloc (.cells #[.slice C m d, .slice C' m' d'] 25)).alloc (.cells #[.slice none 0 0, .slice none 0 0] 25)) := by
  refine ⟨((below_alloc _ _).alloc (by simp) _).alloc (by simp; omega) _, by simp, ?_, ?_, ?_⟩
  · have h := bx0_at (heap_past (.cells #[.slice none 0 0, .slice none 0 0] 25) (heap_past (.cells #[.slice C m d, .slice C' m' d'] 25) (heap_at w (.cells #[.slice A n c, .slice A' n' c'] 25) _ rfl)))
    exact ⟨h.1, h.2.1⟩
  · have h := bx0_at (heap_past (.cells #[.slice none 0 0, .slice none 0 0] 25) (heap_at (w.alloc (.cells #[.slice A n c, .slice A' n' c'] 25)) (.cells #[.slice C m d, .slice C' m' d'] 25) (w.heap.size + 1) (by simp)))
    exact ⟨h.1, h.2.1⟩
  · exact bx0_at (heap_at _ _ _ (by simp))
theorem MSt.step {A : Option Addr} {n c : Nat} {A' : Option Addr} {n' c' : Nat} {C : Option Addr} {m d : Nat} {C' : Option Addr} {m' d' : Nat} {w wr wx : World} (h : MSt A n c A' n' c' C m d C' m' d' w wr) (hb : Below wr.heap.size wr wx) : MSt A n c A' n' c' C m d C' m' d' w wx := by
  obtain ⟨h1, h2, h3, h4, h5⟩ := h
  exact ⟨Below.andThen h1 hb, Nat.le_trans h2 hb.size, h3.below hb (by omega), h4.below hb (by omega), bx0_block h5 (hb.block _ (by omega))⟩

end Go.Proofs.YtdpbcfjhljgicaaGreatDoor
/-
  CONTRACTS of package box, sixth part: Around and Cell.
-/
namespace Go.Proofs.YtdpbcfjhljgicaaGreatDoor
open Go.ChangeShapes Go.WideShapes Go.ChangeAt Go.RowKit

theorem not_keep (k : Nat) (hk : k ≤ 64) : bits .xor .u64 18446744073709551615 (IntKind.u64.wrap (18446744073709551615 * 2 ^ k)) = ((2 ^ k - 1 : Nat) : Int) := by
  have hp := Nat.two_pow_pos k
  have hp2 := Bx.pow_le_64 hk
  rw [keep_nat k hk]
  have h := bits_xor_u64_nat 18446744073709551615 (18446744073709551616 - 2 ^ k) (by omega) (by omega)
  have e : (18446744073709551615 : Nat) ^^^ (18446744073709551616 - 2 ^ k) = 2 ^ k - 1 := by
    apply Nat.eq_of_testBit_eq
    intro m
    rw [Nat.testBit_xor, show (18446744073709551615 : Nat) = 2 ^ 64 - 1 from rfl, Nat.testBit_two_pow_sub_one, show (18446744073709551616 : Nat) = 2 ^ 64 from rfl, show 2 ^ 64 - 2 ^ k = 2 ^ 64 - (2 ^ k - 1 + 1) by omega,
      Nat.testBit_two_pow_sub_succ (by omega), Nat.testBit_two_pow_sub_one]
    by_cases h1 : m < k
    · simp [h1, show m < 64 by omega]
    · by_cases h2 : m < 64 <;> simp [h1, h2]
  rw [e] at h
  exact h
/-! ### Around -/
/-- the memory of Around: the point, the number, and the result's block -/
def ASt (A : Option Addr) (n c m : Nat) (w wr : World) : Prop :=
  Below w.heap.size w wr ∧ w.heap.size + 3 ≤ wr.heap.size ∧ wr.cell? ⟨w.heap.size, 0, none⟩ = some (.slice A n c) ∧ wr.cell? ⟨w.heap.size + 1, 0, none⟩ = some (.int .u64 (m : Int)) ∧ Bx0 wr (w.heap.size + 2) (.slice none 0 0) (.slice none 0 0)
theorem ASt.new (A : Option Addr) (n c m : Nat) (w : World) :
    ASt A n c m w (((w.alloc (.cells #[.slice A n c] 23)).alloc (.cells #[.int .u64 (m : Int)] 38)).alloc (.cells #[.slice none 0 0, .slice none 0 0] 25)) := by
  refine ⟨((below_alloc _ _).alloc (by simp) _).alloc (by simp; omega) _, by simp, ?_, ?_, ?_⟩
  · exact cell_of_one (heap_past (.cells #[.slice none 0 0, .slice none 0 0] 25) (heap_past (.cells #[.int .u64 (m : Int)] 38) (heap_at w (.cells #[.slice A n c] 23) _ rfl)))
  · exact cell_of_one (heap_past (.cells #[.slice none 0 0, .slice none 0 0] 25) (heap_at (w.alloc (.cells #[.slice A n c] 23)) (.cells #[.int .u64 (m : Int)] 38) (w.heap.size + 1) (by simp)))
  · exact bx0_at (heap_at _ _ _ (by simp))
theorem ASt.step {A : Option Addr} {n c m : Nat} {w wr wx : World} (h : ASt A n c m w wr) (hb : Below wr.heap.size wr wx) : ASt A n c m w wx := by
  obtain ⟨h1, h2, h3, h4, h5⟩ := h
  exact ⟨Below.andThen h1 hb, Nat.le_trans h2 hb.size, (hb.cell (p := ⟨w.heap.size, 0, none⟩) (by show w.heap.size < _; omega)).trans h3, (hb.cell (p := ⟨w.heap.size + 1, 0, none⟩) (by show w.heap.size + 1 < _; omega)).trans h4, bx0_block h5 (hb.block _ (by omega))⟩

/-! ### Cell -/
/-- the memory of Cell: the result's block, the cut point, and what is cut -/
def CSt (A : Option Addr) (n c q b : Nat) (us : List Nat) (w wr : World) : Prop :=
  Below w.heap.size w wr ∧ w.heap.size < b ∧ b + 2 ≤ wr.heap.size ∧ wr.cell? ⟨b, 0, none⟩ = some (.slice A n c) ∧ wr.cell? ⟨b + 1, 0, none⟩ = some (.int .u64 (q : Int)) ∧ Bx0 wr w.heap.size (.slice none 0 0) (.slice none 0 0) ∧ Pts wr b A us
theorem CSt.new {A : Option Addr} {n c q : Nat} {us : List Nat} {w w2 : World} (hb : Below (w.alloc (.cells #[.slice none 0 0, .slice none 0 0] 25)).heap.size (w.alloc (.cells #[.slice none 0 0, .slice none 0 0] 25)) w2) (hp : Pts w2 w2.heap.size A us) :
    CSt A n c q w2.heap.size us w ((w2.alloc (.cells #[.slice A n c] 23)).alloc (.cells #[.int .u64 (q : Int)] 38)) := by
  have hs := hb.size
  rw [World.size_alloc] at hs
  have hbx : w2.heap[w.heap.size]? = some (.cells #[.slice none 0 0, .slice none 0 0] 25) := (hb.block w.heap.size (by simp)).trans (heap_at _ _ _ rfl)
  refine ⟨((Below.andThen (below_alloc _ _) hb).alloc (by omega) _).alloc (by simp; omega) _, by omega, by simp, ?_, ?_, ?_, ?_⟩
  · exact cell_of_one (heap_past (.cells #[.int .u64 (q : Int)] 38) (heap_at w2 (.cells #[.slice A n c] 23) _ rfl))
  · exact cell_of_one (heap_at (w2.alloc (.cells #[.slice A n c] 23)) (.cells #[.int .u64 (q : Int)] 38) (w2.heap.size + 1) (by simp))
  · exact bx0_at (heap_past _ (heap_past _ hbx))
  · exact hp.below' ((below_alloc _ _).alloc (by simp) _) (Nat.le_refl _)
theorem CSt.step {A : Option Addr} {n c q b : Nat} {us : List Nat} {w wr wx : World} (h : CSt A n c q b us w wr) (hb : Below wr.heap.size wr wx) : CSt A n c q b us w wx := by
  obtain ⟨h1, h2, h3, h4, h5, h6, h7⟩ := h
  exact ⟨Below.andThen h1 hb, h2, Nat.le_trans h3 hb.size, (hb.cell (p := ⟨b, 0, none⟩) (by show b < _; omega)).trans h4, (hb.cell (p := ⟨b + 1, 0, none⟩) (by show b + 1 < _; omega)).trans h5, bx0_block h6 (hb.block _ (by omega)), h7.below' hb (by omega)⟩

end Go.Proofs.YtdpbcfjhljgicaaGreatDoor
