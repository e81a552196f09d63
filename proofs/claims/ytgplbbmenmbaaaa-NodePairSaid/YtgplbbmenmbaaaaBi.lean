/-
  CONTRACTS of math/bits at this program: OnesCount64 and TrailingZeros64 of every number of 64 bits; the table of the latter ('Tz').
-/
import Derived.Test.YtgplbbmenmbaaaaBase
import Derived.Test.YtgplbbmenmbaaaaPc
import Derived.Test.YtgplbbmenmbaaaaMn
import Derived.Shelf.Spec.TrailingZeros
namespace Go.Proofs.Ytgplbbmenmbaaaa
open Go.ChangeShapes Go.WideShapes Go.ChangeAt Go.RowKit

theorem iq1 {x : Nat} (h : x < 18446744073709551616) : IntKind.u64.wrap (bits .and .u64 ((x : Int) / 2) 6148914691236517205 + bits .and .u64 (x : Int) 6148914691236517205) = ((Pc.p1 x : Nat) : Int) := by
  have hb := Pc.p1_lt (x := x)
  have e1 := bits_and_u64_nat (x / 2) 6148914691236517205 (by omega) (by omega)
  have e2 := bits_and_u64_nat x 6148914691236517205 (by omega) (by omega)
  rw [show ((6148914691236517205 : Nat) : Int) = 6148914691236517205 from rfl] at e1 e2
  rw [show (x : Int) / 2 = ((x / 2 : Nat) : Int) by omega, e1, e2, IntKind.wrap_u64]
  unfold Pc.p1 at *
  omega
theorem iq2 {x : Nat} (h : x < 18446744073709551616) : IntKind.u64.wrap (bits .and .u64 ((x : Int) / 4) 3689348814741910323 + bits .and .u64 (x : Int) 3689348814741910323) = ((Pc.p2 x : Nat) : Int) := by
  have hb := Pc.p2_lt (x := x)
  have e1 := bits_and_u64_nat (x / 4) 3689348814741910323 (by omega) (by omega)
  have e2 := bits_and_u64_nat x 3689348814741910323 (by omega) (by omega)
  rw [show ((3689348814741910323 : Nat) : Int) = 3689348814741910323 from rfl] at e1 e2
  rw [show (x : Int) / 4 = ((x / 4 : Nat) : Int) by omega, e1, e2, IntKind.wrap_u64]
  unfold Pc.p2 at *
  omega
theorem iq3 {x : Nat} (h : x < 8000000000000000000) : bits .and .u64 (IntKind.u64.wrap ((x : Int) / 16 + (x : Int))) 1085102592571150095 = ((Pc.p3 x : Nat) : Int) := by
  have e1 := bits_and_u64_nat (x / 16 + x) 1085102592571150095 (by omega) (by omega)
  rw [show ((1085102592571150095 : Nat) : Int) = 1085102592571150095 from rfl] at e1
  rw [show IntKind.u64.wrap ((x : Int) / 16 + (x : Int)) = ((x / 16 + x : Nat) : Int) by rw [IntKind.wrap_u64]; omega, e1]
  rfl
theorem iq4 {x : Nat} (h : x < 2000000000000000000) : IntKind.u64.wrap ((x : Int) + (x : Int) / 256) = ((Pc.p4 x : Nat) : Int) := by rw [IntKind.wrap_u64]; unfold Pc.p4; omega
theorem iq5 {x : Nat} (h : x < 2000000000000000000) : IntKind.u64.wrap ((x : Int) + (x : Int) / 65536) = ((Pc.p5 x : Nat) : Int) := by rw [IntKind.wrap_u64]; unfold Pc.p5; omega
theorem iq6 {x : Nat} (h : x < 2000000000000000000) : IntKind.u64.wrap ((x : Int) + (x : Int) / 4294967296) = ((Pc.p6 x : Nat) : Int) := by rw [IntKind.wrap_u64]; unfold Pc.p6; omega
theorem iq7 {x : Nat} (h : x < 2000000000000000000) : bits .and .i64 (wrap64 (x : Int)) 127 = ((Pc.p7 x : Nat) : Int) := by
  have e1 := Mk.and_i64 x 127 (by omega) (by omega)
  rw [show ((127 : Nat) : Int) = 127 from rfl] at e1
  rw [IntWalk.wrap64_in _ (by omega), e1]
  rfl
theorem ones64_any (x : Nat) (w : World) (hx : x < 18446744073709551616) :
    Calls Try.prog 63 #[.int .u64 (x : Int)] w fun e w' => e = .returned (.int .i64 (Pc.ones 64 x : Int)) ∧ w = w' := by
  go_enter Try.func63, Try.ntmps63
  go_wp2
  go_ret
  refine ⟨ret_int ?_, rfl⟩
  have h2 := Pc.p2_lt (x := Pc.p1 x)
  have h3 := Pc.p3_lt (x := Pc.p2 (Pc.p1 x))
  have h1 := Pc.p1_lt (x := x)
  rw [iq1 hx, iq2 h1, iq3 h2]
  have h4 : Pc.p4 (Pc.p3 (Pc.p2 (Pc.p1 x))) < 1200000000000000000 := by unfold Pc.p4; omega
  have h5 : Pc.p5 (Pc.p4 (Pc.p3 (Pc.p2 (Pc.p1 x)))) < 1300000000000000000 := by unfold Pc.p5; omega
  have h6 : Pc.p6 (Pc.p5 (Pc.p4 (Pc.p3 (Pc.p2 (Pc.p1 x))))) < 1400000000000000000 := by unfold Pc.p6; omega
  rw [iq4 (by omega), iq5 (by omega), iq6 (by omega), iq7 (by omega), Pc.ones_all hx]

end Go.Proofs.Ytgplbbmenmbaaaa
