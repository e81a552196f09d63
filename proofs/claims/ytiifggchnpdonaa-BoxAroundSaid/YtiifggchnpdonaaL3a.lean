/-
  FOR THE LAWS OF LAYER 3: what a call keeps of the two boxes that came in; the contract of 'big'.
-/
import Derived.Test.YtiifggchnpdonaaAw3
namespace Go.Proofs.Ytiifggchnpdonaa
open Go.ChangeShapes Go.WideShapes Go.ChangeAt Go.RowKit

/-- the two boxes' blocks, behind what a law has called -/
def LSt (A : Option Addr) (n c : Nat) (A' : Option Addr) (n' c' : Nat) (C : Option Addr) (m d : Nat) (C' : Option Addr) (m' d' : Nat) (w wr : World) : Prop :=
  Below w.heap.size w wr ∧ w.heap.size + 2 ≤ wr.heap.size ∧ BoxAt wr w.heap.size A n c A' n' c' ∧ BoxAt wr (w.heap.size + 1) C m d C' m' d'
theorem LSt.new (A : Option Addr) (n c : Nat) (A' : Option Addr) (n' c' : Nat) (C : Option Addr) (m d : Nat) (C' : Option Addr) (m' d' : Nat) (w : World) :
    LSt A n c A' n' c' C m d C' m' d' w ((w.alloc (.cells #[.slice A n c, .slice A' n' c'] 24)).alloc (.cells #[.slice C m d, .slice C' m' d'] 24)) := by
  refine ⟨(below_alloc _ _).alloc (by simp) _, by simp, ?_, ?_⟩
  · have h := bx0_at (heap_past (.cells #[.slice C m d, .slice C' m' d'] 24) (heap_at w (.cells #[.slice A n c, .slice A' n' c'] 24) _ rfl))
    exact ⟨h.1, h.2.1⟩
  · have h := bx0_at (heap_at (w.alloc (.cells #[.slice A n c, .slice A' n' c'] 24)) (.cells #[.slice C m d, .slice C' m' d'] 24) (w.heap.size + 1) (by simp))
    exact ⟨h.1, h.2.1⟩
theorem LSt.step {A : Option Addr} {n c : Nat} {A' : Option Addr} {n' c' : Nat} {C : Option Addr} {m d : Nat} {C' : Option Addr} {m' d' : Nat} {w wr wx : World} (h : LSt A n c A' n' c' C m d C' m' d' w wr) (hb : Below wr.heap.size wr wx) : LSt A n c A' n' c' C m d C' m' d' w wx := by
  obtain ⟨h1, h2, h3, h4⟩ := h
  exact ⟨Below.andThen h1 hb, Nat.le_trans h2 hb.size, h3.below hb (by omega), h4.below hb (by omega)⟩
theorem LSt.le {A : Option Addr} {n c : Nat} {A' : Option Addr} {n' c' : Nat} {C : Option Addr} {m d : Nat} {C' : Option Addr} {m' d' : Nat} {w wr : World} (h : LSt A n c A' n' c' C m d C' m' d' w wr) : w.heap.size ≤ wr.heap.size := h.1.size
theorem LSt.pts {A : Option Addr} {n c : Nat} {A' : Option Addr} {n' c' : Nat} {C : Option Addr} {m d : Nat} {C' : Option Addr} {m' d' : Nat} {w wr : World} (h : LSt A n c A' n' c' C m d C' m' d' w wr) {D : Option Addr} {us : List Nat} (hp : Pts w w.heap.size D us) : Pts wr w.heap.size D us := hp.below' h.1 (Nat.le_refl _)

/-! ### big -/
set_option maxRecDepth 100000 in
theorem big_c (A A' C C' D : Option Addr) (n c n' c' m d m' d' q e : Nat) (r : Bool) (w : World) (h1 : n ≤ maxLen) (h2 : n' ≤ maxLen) (h3 : m ≤ maxLen) (h4 : m' ≤ maxLen) (h5 : q ≤ maxLen) (hr : decide (40 < n ∨ 40 < n' ∨ 40 < m ∨ 40 < m' ∨ 40 < q) = r) :
    Calls Try.prog 8 #[boxV A n c A' n' c', boxV C m d C' m' d', .slice D q e] w fun e w' => e = .returned (.bool r) ∧ Below w.heap.size w w' := by
  have s0 := (LSt.new A n c A' n' c' C m d C' m' d' w).1
  unfold maxLen at h1 h2 h3 h4 h5
  have H := Lib.hid hr
  clear hr
  go_enter Try.func8, Try.ntmps8
  go_wp2_with fail
  all_goals go_ret
  all_goals refine ⟨ret_bool ?_, s0⟩
  all_goals rw [← H.out, Bool.eq_iff_iff]
  all_goals simp
  all_goals omega

end Go.Proofs.Ytiifggchnpdonaa
