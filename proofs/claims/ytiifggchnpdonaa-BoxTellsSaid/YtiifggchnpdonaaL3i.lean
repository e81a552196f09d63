/-
  THE WALK of the law BoxTells: whatever the two boxes and the point, the law's call returns true, and what was there stays.
-/
import Derived.Test.YtiifggchnpdonaaL3f
import Derived.Test.YtiifggchnpdonaaL3g
import Derived.Test.YtiifggchnpdonaaL3h
namespace Go.Proofs.Ytiifggchnpdonaa
open Go.ChangeShapes Go.WideShapes Go.ChangeAt Go.RowKit

/-- THE LAW's CALL, AT EVERY INPUT -/
theorem boxTells_w (A A' C C' D : Option Addr) (c c' d d' e : Nat) (al ah bl bh us : List Nat) (w : World) (pa : Pts w w.heap.size A al) (pb : Pts w w.heap.size A' ah) (pc : Pts w w.heap.size C bl) (pd : Pts w w.heap.size C' bh) (pu : Pts w w.heap.size D us)
    (m1 : al.length ≤ maxLen) (m2 : ah.length ≤ maxLen) (m3 : bl.length ≤ maxLen) (m4 : bh.length ≤ maxLen) (m5 : us.length ≤ maxLen) :
    Calls Try.prog 3 #[boxV A al.length c A' ah.length c', boxV C bl.length d C' bh.length d', .slice D us.length e] w fun e w' => e = .returned (.bool true) ∧ Below w.heap.size w w' := by
  by_cases hb : 40 < al.length ∨ 40 < ah.length ∨ 40 < bl.length ∨ 40 < bh.length ∨ 40 < us.length
  · exact boxTells_big A A' C C' D _ c _ c' _ d _ d' _ e w m1 m2 m3 m4 m5 hb
  by_cases ha : (1 ≤ al.length ∧ al.length ≤ 16) ∧ al.length = ah.length
  case neg => exact boxTells_na A A' C C' D _ c _ c' _ d _ d' _ e w (by omega) (by omega) (by omega) (by omega) (by omega) ha
  by_cases hc : (1 ≤ bl.length ∧ bl.length ≤ 16) ∧ bl.length = bh.length
  case neg => exact boxTells_nb A A' C C' D c c' d d' e al ah bl bh us w pa pb pc pd pu ha.1.1 ha.1.2 ha.2 (by omega) (by omega) (by omega) hc
  by_cases hl : al.length = bl.length
  · exact boxTells_yes A A' C C' D c c' d d' e al ah bl bh us w pa pb pc pd pu ha.1.1 ha.1.2 ha.2 (by omega) (by omega) (by omega) hc.2 hl
  · exact boxTells_len A A' C C' D c c' d d' e al ah bl bh us w pa pb pc pd pu ha.1.1 ha.1.2 ha.2 (by omega) (by omega) (by omega) hc.1.1 hc.1.2 hc.2 hl

end Go.Proofs.Ytiifggchnpdonaa
