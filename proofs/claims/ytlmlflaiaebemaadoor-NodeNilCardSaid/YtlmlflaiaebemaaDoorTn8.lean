/-
  CONTRACTS of package node, eighth part: From, UpTo.
-/
import Derived.Test.YtlmlflaiaebemaaDoorTn3
import Derived.Test.YtlmlflaiaebemaaDoorSbn
namespace Go.Proofs.YtlmlflaiaebemaaDoor
open Go.ChangeShapes Go.WideShapes Go.ChangeAt Go.RowKit
open Tr (T S4)

abbrev atKid (n : Nat) (p : Option Addr) : Value := .tuple #[.int .i64 (n : Int), .pointer p]
theorem nFrom_nil (a : Int) (w : World) : Calls Tryd.prog 12 #[.pointer none, .int .i64 a] w fun e w' => e = .returned (atKid 0 none) ∧ w = w' := by
  go_enter Tryd.func12, Tryd.ntmps12
  go_wp2
  go_ret2
  exact ⟨rfl, rfl⟩
theorem nUpTo_nil (a : Int) (w : World) : Calls Tryd.prog 13 #[.pointer none, .int .i64 a] w fun e w' => e = .returned (atKid 0 none) ∧ w = w' := by
  go_enter Tryd.func13, Tryd.ntmps13
  go_wp2
  go_ret2
  exact ⟨rfl, rfl⟩
theorem nFrom_ent {w : World} {B g : Nat} {lev : Int} {pre : List Nat} {v : Nat} {s : S4} (h : NdAt w B g lev pre v none s) (a : Int) :
    Calls Tryd.prog 12 #[.pointer (some ⟨g, 0, none⟩), .int .i64 a] w fun e w' => e = .returned (atKid 0 none) ∧ w = w' := by
  obtain ⟨-, -, -, -, h3, -⟩ := h
  go_enter Tryd.func12, Tryd.ntmps12
  go_wp2_with (go_at_call 39; refine (Sn.sFrom_nil a _).mono ?_; rintro e w' ⟨rfl, rfl⟩)
  go_ret2
  exact ⟨rfl, rfl⟩
theorem nUpTo_ent {w : World} {B g : Nat} {lev : Int} {pre : List Nat} {v : Nat} {s : S4} (h : NdAt w B g lev pre v none s) (a : Int) :
    Calls Tryd.prog 13 #[.pointer (some ⟨g, 0, none⟩), .int .i64 a] w fun e w' => e = .returned (atKid 0 none) ∧ w = w' := by
  obtain ⟨-, -, -, -, h3, -⟩ := h
  go_enter Tryd.func13, Tryd.ntmps13
  go_wp2_with (go_at_call 40; refine (Sn.sUpTo_nil a _).mono ?_; rintro e w' ⟨rfl, rfl⟩)
  go_ret2
  exact ⟨rfl, rfl⟩
theorem nFrom_br {w : World} {B B' g b k : Nat} {lev : Int} {pre : List Nat} {v : Nat} {s : S4} {L : Sn.Al} (h : NdAt w B g lev pre v (some ⟨b, 0, none⟩) s) (ha : Sn.At w B' b k L) (hT : Tz w) (a : Int) (hlo : -9223372036854775808 ≤ a) (hhi : a ≤ 9223372036854775807) (p : Nat × Option Addr) (hp : (L[Sl.idx L a]?).getD (0, none) = p) :
    Calls Tryd.prog 12 #[.pointer (some ⟨g, 0, none⟩), .int .i64 a] w fun e w' => e = .returned (atKid p.1 p.2) ∧ ∃ n, w' = w.drewN n := by
  obtain ⟨-, -, -, -, h3, -⟩ := h
  have H0 := Sn.sFrom_c ha.1 ha.2 hT a hlo hhi
  obtain ⟨r, hr⟩ : ∃ r, Sn.tell L[Sl.idx L a]? = .tuple #[.int .i64 (p.1 : Int), .pointer p.2, .bool r] := by
    cases hx : L[Sl.idx L a]? with
    | none => rw [hx] at hp; subst hp; exact ⟨false, rfl⟩
    | some q => rw [hx] at hp; subst hp; exact ⟨true, rfl⟩
  rw [hr] at H0
  have H := Lib.hid H0
  clear ha hp hr H0 hT
  go_enter Tryd.func12, Tryd.ntmps12
  go_wp2_with (go_at_call 39; refine H.out.mono ?_; rintro e w' ⟨rfl, n, rfl⟩)
  go_ret2
  exact ⟨rfl, _, rfl⟩
theorem nUpTo_br {w : World} {B B' g b k : Nat} {lev : Int} {pre : List Nat} {v : Nat} {s : S4} {L : Sn.Al} (h : NdAt w B g lev pre v (some ⟨b, 0, none⟩) s) (ha : Sn.At w B' b k L) (a : Int) (p : Nat × Option Addr) (hp : (Sn.upE L a).getD (0, none) = p) :
    Calls Tryd.prog 13 #[.pointer (some ⟨g, 0, none⟩), .int .i64 a] w fun e w' => e = .returned (atKid p.1 p.2) ∧ ∃ n, w' = w.drewN n := by
  obtain ⟨-, -, -, -, h3, -⟩ := h
  have H0 := Sn.sUpTo_c ha.1 ha.2 a
  obtain ⟨r, hr⟩ : ∃ r, Sn.tell (Sn.upE L a) = .tuple #[.int .i64 (p.1 : Int), .pointer p.2, .bool r] := by
    cases hx : Sn.upE L a with
    | none => rw [hx] at hp; subst hp; exact ⟨false, rfl⟩
    | some q => rw [hx] at hp; subst hp; exact ⟨true, rfl⟩
  rw [hr] at H0
  have H := Lib.hid H0
  clear ha hp hr H0
  go_enter Tryd.func13, Tryd.ntmps13
  go_wp2_with (go_at_call 40; refine H.out.mono ?_; rintro e w' ⟨rfl, n, rfl⟩)
  go_ret2
  exact ⟨rfl, _, rfl⟩
end Go.Proofs.YtlmlflaiaebemaaDoor
