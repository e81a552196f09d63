import Derived.Test.YtkeepngaaleakaaGreatDoorM74
import Derived.Test.YtkeepngaaleakaaGreatDoorM35
namespace Go.Proofs.YtkeepngaaleakaaGreatDoor
open Go.ChangeShapes Go.WideShapes Go.ChangeAt Go.RowKit
open Tr (T S4 Ent)
theorem is7_n {w:World} {b k n c:Nat} {o:Option T} {A:Option Addr} {L:List Ent} (h:TreeX w b k o) (hT:∀ w',Below w.heap.size w w'→Tz w') (hL:Ents w w.heap.size A L) (he:Tr.entsO o = L) (hn:L.length = n) (hc:n≤c) (hl:n≤1000000) :
    Calls Tryz.prog 21 #[.pointer (some ⟨b,0,none⟩),.int .i64 (k:Int),.slice A n c] w fun e w' => e = .returned (.bool true)∧Below w.heap.size w w':=by
  subst he
  subst hn
  exact is7_c h.1 hT hL hc hl
end Go.Proofs.YtkeepngaaleakaaGreatDoor
