/-
  DERIVED. GIVEN WITH THE SEED: THE CARDS: each row of YtpgkfccfabnjdaaGreatDoorRows.lean that lists a variable, with what it lists TIED to the program's text (the seventh form; the later family's looks); each row that meets fmt, with fmt's text TOLD by the authors' own Lean function (tested against real Go, not proved from fmt's source: count such statements apart). THE CARD IS WHAT COUNTS. Prove the row's statement (the work); the ties are given (YtpgkfccfabnjdaaGreatDoorTie.lean); close each card by the builder's one call (the guide's Derived/Test/ToyasCard.lean, 'card_holds'). Laid BY PROGRAM, IN A SANDBOX (cutbox-door.mjs). By AI agents, Wed Nov 11 2026. No macro, syntax, notation, axiom, sorry.
-/
import Derived.Test.YtpgkfccfabnjdaaGreatDoorRows
import GoSem.ClaimSeven
namespace Go.Proofs.YtpgkfccfabnjdaaGreatDoor
namespace Rows

/-- THE TIED CARD OF 'pantilelaw09.WindowParts'. -/
def windowPartsCard : Claim7 := { stood := { row := windowPartsRow, standIns := [], harness := (true, "1fc6784169fdcb5ea6ba788ec048c23e20be2f24bf98cc612d384f04ccf08c05"), looks := false }, kinds := [], alts := [], laidByText := true, laidKinds := [.data], laidTests := true, laidLooks := .later }
def WindowPartsCardSaid : Prop := Claim7.holds Tryz.pinned (.plain (OpenSpec.ofChange windowPartsSpec)) windowPartsCard

/-- THE TIED CARD OF 'pantilelaw10.RankParts'. -/
def rankPartsCard : Claim7 := { stood := { row := rankPartsRow, standIns := [], harness := (true, "1fc6784169fdcb5ea6ba788ec048c23e20be2f24bf98cc612d384f04ccf08c05"), looks := false }, kinds := [], alts := [], laidByText := true, laidKinds := [.data], laidTests := true, laidLooks := .later }
def RankPartsCardSaid : Prop := Claim7.holds Tryz.pinned (.plain (OpenSpec.ofChange rankPartsSpec)) rankPartsCard

/-- THE TIED CARD OF 'pantilelaw13.EditDoes'. -/
def editDoesCard : Claim7 := { stood := { row := editDoesRow, standIns := [], harness := (true, "1fc6784169fdcb5ea6ba788ec048c23e20be2f24bf98cc612d384f04ccf08c05"), looks := false }, kinds := [], alts := [], laidByText := true, laidKinds := [.data], laidTests := true, laidLooks := .later }
def EditDoesCardSaid : Prop := Claim7.holds Tryz.pinned (.plain (OpenSpec.ofChange editDoesSpec)) editDoesCard

/-- THE TIED CARD OF 'pantilelaw13.EditDiffs'. -/
def editDiffsCard : Claim7 := { stood := { row := editDiffsRow, standIns := [], harness := (true, "1fc6784169fdcb5ea6ba788ec048c23e20be2f24bf98cc612d384f04ccf08c05"), looks := false }, kinds := [], alts := [], laidByText := true, laidKinds := [.data], laidTests := true, laidLooks := .later }
def EditDiffsCardSaid : Prop := Claim7.holds Tryz.pinned (.plain (OpenSpec.ofChange editDiffsSpec)) editDiffsCard

/-- THE TIED CARD OF 'pantilelaw13.EditChains'. -/
def editChainsCard : Claim7 := { stood := { row := editChainsRow, standIns := [], harness := (true, "1fc6784169fdcb5ea6ba788ec048c23e20be2f24bf98cc612d384f04ccf08c05"), looks := false }, kinds := [], alts := [], laidByText := true, laidKinds := [.data], laidTests := true, laidLooks := .later }
def EditChainsCardSaid : Prop := Claim7.holds Tryz.pinned (.plain (OpenSpec.ofChange editChainsSpec)) editChainsCard

/-- THE SECOND FORM's CARD OF 'pantilelaw09.WindowParts'. -/
def windowPartsUptoCard : Claim7 := { stood := { row := windowPartsUptoRow, standIns := [], harness := (true, "1fc6784169fdcb5ea6ba788ec048c23e20be2f24bf98cc612d384f04ccf08c05"), looks := false }, kinds := [], alts := [], laidByText := true, laidKinds := [.data], laidTests := true, laidLooks := .later }
def WindowPartsUptoCardSaid : Prop := Claim7.holds Tryz.pinned (.plain (OpenSpec.upto windowPartsSpec)) windowPartsUptoCard

/-- THE SECOND FORM's CARD OF 'pantilelaw10.RankParts'. -/
def rankPartsUptoCard : Claim7 := { stood := { row := rankPartsUptoRow, standIns := [], harness := (true, "1fc6784169fdcb5ea6ba788ec048c23e20be2f24bf98cc612d384f04ccf08c05"), looks := false }, kinds := [], alts := [], laidByText := true, laidKinds := [.data], laidTests := true, laidLooks := .later }
def RankPartsUptoCardSaid : Prop := Claim7.holds Tryz.pinned (.plain (OpenSpec.upto rankPartsSpec)) rankPartsUptoCard

/-- THE SECOND FORM's CARD OF 'pantilelaw13.EditDoes'. -/
def editDoesUptoCard : Claim7 := { stood := { row := editDoesUptoRow, standIns := [], harness := (true, "1fc6784169fdcb5ea6ba788ec048c23e20be2f24bf98cc612d384f04ccf08c05"), looks := false }, kinds := [], alts := [], laidByText := true, laidKinds := [.data], laidTests := true, laidLooks := .later }
def EditDoesUptoCardSaid : Prop := Claim7.holds Tryz.pinned (.plain (OpenSpec.upto editDoesSpec)) editDoesUptoCard

/-- THE SECOND FORM's CARD OF 'pantilelaw13.EditDiffs'. -/
def editDiffsUptoCard : Claim7 := { stood := { row := editDiffsUptoRow, standIns := [], harness := (true, "1fc6784169fdcb5ea6ba788ec048c23e20be2f24bf98cc612d384f04ccf08c05"), looks := false }, kinds := [], alts := [], laidByText := true, laidKinds := [.data], laidTests := true, laidLooks := .later }
def EditDiffsUptoCardSaid : Prop := Claim7.holds Tryz.pinned (.plain (OpenSpec.upto editDiffsSpec)) editDiffsUptoCard

/-- THE SECOND FORM's CARD OF 'pantilelaw13.EditChains'. -/
def editChainsUptoCard : Claim7 := { stood := { row := editChainsUptoRow, standIns := [], harness := (true, "1fc6784169fdcb5ea6ba788ec048c23e20be2f24bf98cc612d384f04ccf08c05"), looks := false }, kinds := [], alts := [], laidByText := true, laidKinds := [.data], laidTests := true, laidLooks := .later }
def EditChainsUptoCardSaid : Prop := Claim7.holds Tryz.pinned (.plain (OpenSpec.upto editChainsSpec)) editChainsUptoCard
end Rows
end Go.Proofs.YtpgkfccfabnjdaaGreatDoor
