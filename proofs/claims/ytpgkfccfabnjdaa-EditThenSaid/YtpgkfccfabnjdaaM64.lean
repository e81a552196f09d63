import Derived.Test.YtpgkfccfabnjdaaM06
import Derived.Test.YtpgkfccfabnjdaaM23
import Derived.Test.YtpgkfccfabnjdaaM28
import Derived.Test.YtpgkfccfabnjdaaM24
import Derived.Test.YtpgkfccfabnjdaaM30
import Derived.Test.YtpgkfccfabnjdaaM12
/-
  CONTRACTS of package rank, seventh part: Nth's closure. Laid by wip/gen40.py.
-/
namespace Go.Proofs.Ytpgkfccfabnjdaa
open Go.RowKit Go.Shelf
open Tr (T S4 Ent)
attribute [local go_sem] Oper.semAt_some

theorem Foot.wide {F G : Nat → Prop} {w w' : World} (h : Foot F w w') (hF : ∀ b, F b → G b) : Foot G w w' := ⟨h.os, h.tape, h.output, h.size, fun k hk hn => h.block k hk fun c => hn (hF k c)⟩
end Go.Proofs.Ytpgkfccfabnjdaa

/-
  CONTRACTS of package rank, eighth part: Nth.
-/
namespace Go.Proofs.Ytpgkfccfabnjdaa
open Go.ChangeShapes Go.WideShapes Go.ChangeAt Go.RowKit
open Tr (T S4 Ent)

theorem get_at {ks : List (Nat × T)} (hs : Sl.Srt ks) {i a : Nat} {s : T} (h : ks[i]? = some (a, s)) : Sl.get ks (a : Int) = some s := Sl.get_of_mem hs (p := (a, s)) (List.mem_of_getElem? h)
end Go.Proofs.Ytpgkfccfabnjdaa
