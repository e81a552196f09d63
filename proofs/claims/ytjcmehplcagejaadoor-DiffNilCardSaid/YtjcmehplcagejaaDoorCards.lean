/-
  DERIVED. GIVEN WITH THE SEED: THE CARDS: each row of YtjcmehplcagejaaDoorRows.lean that lists a variable, with what it lists TIED to the program's text (the seventh form; the later family's looks); each row that meets fmt, with fmt's text TOLD by the authors' own Lean function (tested against real Go, not proved from fmt's source: count such statements apart). THE CARD IS WHAT COUNTS. Prove the row's statement (the work); the ties are given (YtjcmehplcagejaaDoorTie.lean); close each card by the builder's one call (the guide's Derived/Test/ToyasCard.lean, 'card_holds'). Laid BY PROGRAM, IN A SANDBOX (cutbox-door.mjs). By AI agents, Wed Nov 11 2026. No macro, syntax, notation, axiom, sorry.
-/
import Derived.Test.YtjcmehplcagejaaDoorRows
import GoSem.ClaimSeven
namespace Go.Proofs.YtjcmehplcagejaaDoor
namespace Rows

/-- THE TIED CARD OF 'pantilelaw12.DiffNil'. -/
def diffNilCard : Claim7 := { stood := { row := diffNilRow, standIns := [], harness := (true, "94fa3d8bd412d6ff0c9f4443d7dac28dbc223946acbf9f4932c1f831451655f8"), looks := false }, kinds := [], alts := [], laidByText := true, laidKinds := [.data], laidTests := true, laidLooks := .later }
def DiffNilCardSaid : Prop := Claim7.holds Tryd.pinned (.plain (OpenSpec.ofChange diffNilSpec)) diffNilCard

/-- THE SECOND FORM's CARD OF 'pantilelaw12.DiffNil'. -/
def diffNilUptoCard : Claim7 := { stood := { row := diffNilUptoRow, standIns := [], harness := (true, "94fa3d8bd412d6ff0c9f4443d7dac28dbc223946acbf9f4932c1f831451655f8"), looks := false }, kinds := [], alts := [], laidByText := true, laidKinds := [.data], laidTests := true, laidLooks := .later }
def DiffNilUptoCardSaid : Prop := Claim7.holds Tryd.pinned (.plain (OpenSpec.upto diffNilSpec)) diffNilUptoCard
end Rows
end Go.Proofs.YtjcmehplcagejaaDoor
