import Derived.Test.YtpgkfccfabnjdaaGreatDoorM93
import Derived.Test.YtpgkfccfabnjdaaGreatDoorM16
import Derived.Test.YtpgkfccfabnjdaaGreatDoorM27
/-
  CONTRACTS of package diff, ninth part: Changes, Count, Same, Steps.
-/
namespace Go.Proofs.YtpgkfccfabnjdaaGreatDoor
open Go.ChangeShapes Go.WideShapes Go.ChangeAt Go.RowKit
open Tr (T S4 Ent Sd Fl Chg)

/-! ### Changes -/
/-! ### Count -/
/-! ### Same -/
theorem tptr_eq (w : World) (a : Addr) : (binOp .eql 29 (.pointer (some a)) (.pointer (some a))).run Tryz.prog w = .ok (.bool true) w := by
  have h : (Tryz.prog.info? 165).isSome = true := by kernel_rfl
  obtain ⟨j, hj⟩ := Option.isSome_iff_exists.1 h
  exact run_eql_ptr_same w a Tryz.underlying29 hj
theorem tptr_ne {w : World} {a b : Nat} (ha : TrB w a) (hb : TrB w b) (hne : a ≠ b) : (binOp .eql 29 (.pointer (some ⟨a, 0, none⟩)) (.pointer (some ⟨b, 0, none⟩))).run Tryz.prog w = .ok (.bool false) w := by
  obtain ⟨ca, ta, ha⟩ := ha
  obtain ⟨cb, tb, hb⟩ := hb
  have h : (Tryz.prog.info? 165).map (fun i => decide (i.size = 0)) = some false := by kernel_rfl
  obtain ⟨j, hj, hs⟩ := Option.map_eq_some_iff.1 h
  exact run_eql_ptr_other w Tryz.underlying29 hj (by simpa using hs) (by intro e; apply hne; exact congrArg (·.block) e) ha hb
/-! ### Steps -/
end Go.Proofs.YtpgkfccfabnjdaaGreatDoor
