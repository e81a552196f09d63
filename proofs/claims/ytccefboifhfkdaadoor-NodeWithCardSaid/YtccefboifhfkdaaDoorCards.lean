/-
  DERIVED. GIVEN WITH THE SEED: THE CARDS: each row of YtccefboifhfkdaaDoorRows.lean that lists a variable, with what it lists TIED to the program's text (the seventh form; the later family's looks); each row that meets fmt, with fmt's text TOLD by the authors' own Lean function (tested against real Go, not proved from fmt's source: count such statements apart). THE CARD IS WHAT COUNTS. Prove the row's statement (the work); the ties are given (YtccefboifhfkdaaDoorTie.lean); close each card by the builder's one call (the guide's Derived/Test/ToyasCard.lean, 'card_holds'). Laid BY PROGRAM, IN A SANDBOX (cutbox-door.mjs). By AI agents, Wed Nov 11 2026. No macro, syntax, notation, axiom, sorry.
-/
import Derived.Test.YtccefboifhfkdaaDoorRows
import GoSem.ClaimSeven
namespace Go.Proofs.YtccefboifhfkdaaDoor
namespace Rows

/-- THE TIED CARD OF 'pantilelaw06.NodeWith'. -/
def nodeWithCard : Claim7 := { stood := { row := nodeWithRow, standIns := [], harness := (true, "ae9bf3bdd60fbeb76aa37164344062bd894476235a60bdecbf7190056dec11e9"), looks := false }, kinds := [], alts := [], laidByText := true, laidKinds := [.data], laidTests := true, laidLooks := .later }
def NodeWithCardSaid : Prop := Claim7.holds Tryd.pinned (.plain (OpenSpec.ofChange nodeWithSpec)) nodeWithCard

/-- THE TIED CARD OF 'pantilelaw08.WalkNil'. -/
def walkNilCard : Claim7 := { stood := { row := walkNilRow, standIns := [], harness := (true, "ae9bf3bdd60fbeb76aa37164344062bd894476235a60bdecbf7190056dec11e9"), looks := false }, kinds := [], alts := [], laidByText := true, laidKinds := [.data], laidTests := true, laidLooks := .later }
def WalkNilCardSaid : Prop := Claim7.holds Tryd.pinned (.plain (OpenSpec.ofChange walkNilSpec)) walkNilCard

/-- THE TIED CARD OF 'pantilelaw08.WalkRun'. -/
def walkRunCard : Claim7 := { stood := { row := walkRunRow, standIns := [], harness := (true, "ae9bf3bdd60fbeb76aa37164344062bd894476235a60bdecbf7190056dec11e9"), looks := false }, kinds := [], alts := [], laidByText := true, laidKinds := [.data], laidTests := true, laidLooks := .later }
def WalkRunCardSaid : Prop := Claim7.holds Tryd.pinned (.plain (OpenSpec.ofChange walkRunSpec)) walkRunCard

/-- THE SECOND FORM's CARD OF 'pantilelaw06.NodeWith'. -/
def nodeWithUptoCard : Claim7 := { stood := { row := nodeWithUptoRow, standIns := [], harness := (true, "ae9bf3bdd60fbeb76aa37164344062bd894476235a60bdecbf7190056dec11e9"), looks := false }, kinds := [], alts := [], laidByText := true, laidKinds := [.data], laidTests := true, laidLooks := .later }
def NodeWithUptoCardSaid : Prop := Claim7.holds Tryd.pinned (.plain (OpenSpec.upto nodeWithSpec)) nodeWithUptoCard

/-- THE SECOND FORM's CARD OF 'pantilelaw08.WalkNil'. -/
def walkNilUptoCard : Claim7 := { stood := { row := walkNilUptoRow, standIns := [], harness := (true, "ae9bf3bdd60fbeb76aa37164344062bd894476235a60bdecbf7190056dec11e9"), looks := false }, kinds := [], alts := [], laidByText := true, laidKinds := [.data], laidTests := true, laidLooks := .later }
def WalkNilUptoCardSaid : Prop := Claim7.holds Tryd.pinned (.plain (OpenSpec.upto walkNilSpec)) walkNilUptoCard

/-- THE SECOND FORM's CARD OF 'pantilelaw08.WalkRun'. -/
def walkRunUptoCard : Claim7 := { stood := { row := walkRunUptoRow, standIns := [], harness := (true, "ae9bf3bdd60fbeb76aa37164344062bd894476235a60bdecbf7190056dec11e9"), looks := false }, kinds := [], alts := [], laidByText := true, laidKinds := [.data], laidTests := true, laidLooks := .later }
def WalkRunUptoCardSaid : Prop := Claim7.holds Tryd.pinned (.plain (OpenSpec.upto walkRunSpec)) walkRunUptoCard
end Rows
end Go.Proofs.YtccefboifhfkdaaDoor
