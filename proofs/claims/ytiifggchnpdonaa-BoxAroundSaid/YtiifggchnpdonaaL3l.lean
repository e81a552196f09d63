/-
  THE WALK of the law BoxAround: whatever the two points, the number and the level, the law's call returns true, and what was there stays.
-/
import Derived.Test.YtiifggchnpdonaaL3j
import Derived.Test.YtiifggchnpdonaaL3k
namespace Go.Proofs.Ytiifggchnpdonaa
open Go.ChangeShapes Go.WideShapes Go.ChangeAt Go.RowKit

/-- THE LAW's CALL, AT EVERY INPUT -/
theorem boxAround_w (A D : Option Addr) (c e : Nat) (x l : Int) (us vs : List Nat) (w : World) (hp : Pts w w.heap.size A us) (hq : Pts w w.heap.size D vs) (m1 : us.length ≤ maxLen) (m2 : vs.length ≤ maxLen) (hx : 0 ≤ x ∧ x < 18446744073709551616) :
    Calls Try.prog 5 #[.slice A us.length c, .slice D vs.length e, .int .u64 x, .int .i64 l] w fun e w' => e = .returned (.bool true) ∧ Below w.heap.size w w' := by
  by_cases hb : 40 < us.length ∨ 40 < vs.length
  · exact boxAround_big A D _ c _ e x l w m1 m2 hb
  obtain ⟨n, rfl⟩ := Int.eq_ofNat_of_zero_le hx.1
  by_cases hr : 1 ≤ us.length ∧ us.length ≤ 16
  case neg => exact boxAround_dim A D _ c _ e n l w (by omega) (by omega) hr
  by_cases hl : -1 ≤ l ∧ l ≤ 63
  · exact boxAround_there A D c e n (l + 1).toNat l us vs w hp hq hr.1 hr.2 (by omega) (by omega) (by omega) (by omega)
  · exact boxAround_off A D c e n l us vs w hp hq hr.1 hr.2 (by omega) (by omega) hl

end Go.Proofs.Ytiifggchnpdonaa
