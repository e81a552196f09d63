/-
  DERIVED. GIVEN WITH THE SEED: THE CARDS: each row of YtpgdoicamgfibaaDoorRows.lean that lists a variable, with what it lists TIED to the program's text (the seventh form; the later family's looks); each row that meets fmt, with fmt's text TOLD by the authors' own Lean function (tested against real Go, not proved from fmt's source: count such statements apart). THE CARD IS WHAT COUNTS. Prove the row's statement (the work); the ties are given (YtpgdoicamgfibaaDoorTie.lean); close each card by the builder's one call (the guide's Derived/Test/ToyasCard.lean, 'card_holds'). Laid BY PROGRAM, IN A SANDBOX (cutbox-door.mjs). By AI agents, Wed Nov 11 2026. No macro, syntax, notation, axiom, sorry.
-/
import Derived.Test.YtpgdoicamgfibaaDoorRows
import GoSem.ClaimSeven
namespace Go.Proofs.YtpgdoicamgfibaaDoor
namespace Rows

/-- THE TIED CARD OF 'pantilelaw06.NodeLeaf'. -/
def nodeLeafCard : Claim7 := { stood := { row := nodeLeafRow, standIns := [], harness := (true, "05def0502b63579206469c5c4b4887a2fc1c8e65f2de0dde497979eb54c52ed8"), looks := false }, kinds := [], alts := [], laidByText := true, laidKinds := [.data], laidTests := true, laidLooks := .later }
def NodeLeafCardSaid : Prop := Claim7.holds Tryd.pinned (.plain (OpenSpec.ofChange nodeLeafSpec)) nodeLeafCard

/-- THE TIED CARD OF 'pantilelaw06.NodeWith'. -/
def nodeWithCard : Claim7 := { stood := { row := nodeWithRow, standIns := [], harness := (true, "05def0502b63579206469c5c4b4887a2fc1c8e65f2de0dde497979eb54c52ed8"), looks := false }, kinds := [], alts := [], laidByText := true, laidKinds := [.data], laidTests := true, laidLooks := .later }
def NodeWithCardSaid : Prop := Claim7.holds Tryd.pinned (.plain (OpenSpec.ofChange nodeWithSpec)) nodeWithCard

/-- THE TIED CARD OF 'pantilelaw06.NodeNil'. -/
def nodeNilCard : Claim7 := { stood := { row := nodeNilRow, standIns := [], harness := (true, "05def0502b63579206469c5c4b4887a2fc1c8e65f2de0dde497979eb54c52ed8"), looks := false }, kinds := [], alts := [], laidByText := true, laidKinds := [.data], laidTests := true, laidLooks := .later }
def NodeNilCardSaid : Prop := Claim7.holds Tryd.pinned (.plain (OpenSpec.ofChange nodeNilSpec)) nodeNilCard

/-- THE TIED CARD OF 'pantilelaw07.TreeShares'. -/
def treeSharesCard : Claim7 := { stood := { row := treeSharesRow, standIns := [], harness := (true, "05def0502b63579206469c5c4b4887a2fc1c8e65f2de0dde497979eb54c52ed8"), looks := false }, kinds := [], alts := [], laidByText := true, laidKinds := [.data], laidTests := true, laidLooks := .later }
def TreeSharesCardSaid : Prop := Claim7.holds Tryd.pinned (.plain (OpenSpec.ofChange treeSharesSpec)) treeSharesCard

/-- THE TIED CARD OF 'pantilelaw07.TreeNil'. -/
def treeNilCard : Claim7 := { stood := { row := treeNilRow, standIns := [], harness := (true, "05def0502b63579206469c5c4b4887a2fc1c8e65f2de0dde497979eb54c52ed8"), looks := false }, kinds := [], alts := [], laidByText := true, laidKinds := [.data], laidTests := true, laidLooks := .later }
def TreeNilCardSaid : Prop := Claim7.holds Tryd.pinned (.plain (OpenSpec.ofChange treeNilSpec)) treeNilCard

/-- THE SECOND FORM's CARD OF 'pantilelaw06.NodeLeaf'. -/
def nodeLeafUptoCard : Claim7 := { stood := { row := nodeLeafUptoRow, standIns := [], harness := (true, "05def0502b63579206469c5c4b4887a2fc1c8e65f2de0dde497979eb54c52ed8"), looks := false }, kinds := [], alts := [], laidByText := true, laidKinds := [.data], laidTests := true, laidLooks := .later }
def NodeLeafUptoCardSaid : Prop := Claim7.holds Tryd.pinned (.plain (OpenSpec.upto nodeLeafSpec)) nodeLeafUptoCard

/-- THE SECOND FORM's CARD OF 'pantilelaw06.NodeWith'. -/
def nodeWithUptoCard : Claim7 := { stood := { row := nodeWithUptoRow, standIns := [], harness := (true, "05def0502b63579206469c5c4b4887a2fc1c8e65f2de0dde497979eb54c52ed8"), looks := false }, kinds := [], alts := [], laidByText := true, laidKinds := [.data], laidTests := true, laidLooks := .later }
def NodeWithUptoCardSaid : Prop := Claim7.holds Tryd.pinned (.plain (OpenSpec.upto nodeWithSpec)) nodeWithUptoCard

/-- THE SECOND FORM's CARD OF 'pantilelaw06.NodeNil'. -/
def nodeNilUptoCard : Claim7 := { stood := { row := nodeNilUptoRow, standIns := [], harness := (true, "05def0502b63579206469c5c4b4887a2fc1c8e65f2de0dde497979eb54c52ed8"), looks := false }, kinds := [], alts := [], laidByText := true, laidKinds := [.data], laidTests := true, laidLooks := .later }
def NodeNilUptoCardSaid : Prop := Claim7.holds Tryd.pinned (.plain (OpenSpec.upto nodeNilSpec)) nodeNilUptoCard

/-- THE SECOND FORM's CARD OF 'pantilelaw07.TreeShares'. -/
def treeSharesUptoCard : Claim7 := { stood := { row := treeSharesUptoRow, standIns := [], harness := (true, "05def0502b63579206469c5c4b4887a2fc1c8e65f2de0dde497979eb54c52ed8"), looks := false }, kinds := [], alts := [], laidByText := true, laidKinds := [.data], laidTests := true, laidLooks := .later }
def TreeSharesUptoCardSaid : Prop := Claim7.holds Tryd.pinned (.plain (OpenSpec.upto treeSharesSpec)) treeSharesUptoCard

/-- THE SECOND FORM's CARD OF 'pantilelaw07.TreeNil'. -/
def treeNilUptoCard : Claim7 := { stood := { row := treeNilUptoRow, standIns := [], harness := (true, "05def0502b63579206469c5c4b4887a2fc1c8e65f2de0dde497979eb54c52ed8"), looks := false }, kinds := [], alts := [], laidByText := true, laidKinds := [.data], laidTests := true, laidLooks := .later }
def TreeNilUptoCardSaid : Prop := Claim7.holds Tryd.pinned (.plain (OpenSpec.upto treeNilSpec)) treeNilUptoCard
end Rows
end Go.Proofs.YtpgdoicamgfibaaDoor
