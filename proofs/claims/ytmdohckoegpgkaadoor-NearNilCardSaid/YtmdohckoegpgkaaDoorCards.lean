/-
  DERIVED. GIVEN WITH THE SEED: THE CARDS: each row of YtmdohckoegpgkaaDoorRows.lean that lists a variable, with what it lists TIED to the program's text (the seventh form; the later family's looks); each row that meets fmt, with fmt's text TOLD by the authors' own Lean function (tested against real Go, not proved from fmt's source: count such statements apart). THE CARD IS WHAT COUNTS. Prove the row's statement (the work); the ties are given (YtmdohckoegpgkaaDoorTie.lean); close each card by the builder's one call (the guide's Derived/Test/ToyasCard.lean, 'card_holds'). Laid BY PROGRAM, IN A SANDBOX (cutbox-door.mjs). By AI agents, Wed Nov 11 2026. No macro, syntax, notation, axiom, sorry.
-/
import Derived.Test.YtmdohckoegpgkaaDoorRows
import GoSem.ClaimSeven
namespace Go.Proofs.YtmdohckoegpgkaaDoor
namespace Rows

/-- THE TIED CARD OF 'pantilelaw11.NearNil'. -/
def nearNilCard : Claim7 := { stood := { row := nearNilRow, standIns := [], harness := (true, "2a8fc13d09d36b7e7a09a4341efe7752abbbf7debc8cfe1fc6d28179a7a24539"), looks := true }, kinds := [], alts := [], laidByText := true, laidKinds := [.data], laidTests := true, laidLooks := .later }
def NearNilCardSaid : Prop := Claim7.holds Tryd.pinned (.plain (OpenSpec.ofChange nearNilSpec)) nearNilCard

/-- THE SECOND FORM's CARD OF 'pantilelaw11.NearNil'. -/
def nearNilUptoCard : Claim7 := { stood := { row := nearNilUptoRow, standIns := [], harness := (true, "2a8fc13d09d36b7e7a09a4341efe7752abbbf7debc8cfe1fc6d28179a7a24539"), looks := true }, kinds := [], alts := [], laidByText := true, laidKinds := [.data], laidTests := true, laidLooks := .later }
def NearNilUptoCardSaid : Prop := Claim7.holds Tryd.pinned (.plain (OpenSpec.upto nearNilSpec)) nearNilUptoCard
end Rows
end Go.Proofs.YtmdohckoegpgkaaDoor
