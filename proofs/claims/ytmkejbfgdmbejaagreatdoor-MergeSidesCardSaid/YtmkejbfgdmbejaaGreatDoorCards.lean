/-
  DERIVED. GIVEN WITH THE SEED: THE CARDS: each row of YtmkejbfgdmbejaaGreatDoorRows.lean that lists a variable, with what it lists TIED to the program's text (the seventh form; the later family's looks); each row that meets fmt, with fmt's text TOLD by the authors' own Lean function (tested against real Go, not proved from fmt's source: count such statements apart). THE CARD IS WHAT COUNTS. Prove the row's statement (the work); the ties are given (YtmkejbfgdmbejaaGreatDoorTie.lean); close each card by the builder's one call (the guide's Derived/Test/ToyasCard.lean, 'card_holds'). Laid BY PROGRAM, IN A SANDBOX (cutbox-door.mjs). By AI agents, Wed Nov 11 2026. No macro, syntax, notation, axiom, sorry.
-/
import Derived.Test.YtmkejbfgdmbejaaGreatDoorRows
import GoSem.ClaimSeven
namespace Go.Proofs.YtmkejbfgdmbejaaGreatDoor
namespace Rows

/-- THE TIED CARD OF 'pantilelaw09.WindowParts'. -/
def windowPartsCard : Claim7 := { stood := { row := windowPartsRow, standIns := [], harness := (true, "7bbbb5da61eb2c37a43ff3da6c1e173d476125044336f1737e87f86dfaf76b72"), looks := false }, kinds := [], alts := [], laidByText := true, laidKinds := [.data], laidTests := true, laidLooks := .later }
def WindowPartsCardSaid : Prop := Claim7.holds Tryz.pinned (.plain (OpenSpec.ofChange windowPartsSpec)) windowPartsCard

/-- THE TIED CARD OF 'pantilelaw14.MergeThree'. -/
def mergeThreeCard : Claim7 := { stood := { row := mergeThreeRow, standIns := [], harness := (true, "7bbbb5da61eb2c37a43ff3da6c1e173d476125044336f1737e87f86dfaf76b72"), looks := false }, kinds := [], alts := [], laidByText := true, laidKinds := [.data], laidTests := true, laidLooks := .later }
def MergeThreeCardSaid : Prop := Claim7.holds Tryz.pinned (.plain (OpenSpec.ofChange mergeThreeSpec)) mergeThreeCard

/-- THE TIED CARD OF 'pantilelaw14.MergeApart'. -/
def mergeApartCard : Claim7 := { stood := { row := mergeApartRow, standIns := [], harness := (true, "7bbbb5da61eb2c37a43ff3da6c1e173d476125044336f1737e87f86dfaf76b72"), looks := false }, kinds := [], alts := [], laidByText := true, laidKinds := [.data], laidTests := true, laidLooks := .later }
def MergeApartCardSaid : Prop := Claim7.holds Tryz.pinned (.plain (OpenSpec.ofChange mergeApartSpec)) mergeApartCard

/-- THE TIED CARD OF 'pantilelaw14.MergeSides'. -/
def mergeSidesCard : Claim7 := { stood := { row := mergeSidesRow, standIns := [], harness := (true, "7bbbb5da61eb2c37a43ff3da6c1e173d476125044336f1737e87f86dfaf76b72"), looks := false }, kinds := [], alts := [], laidByText := true, laidKinds := [.data], laidTests := true, laidLooks := .later }
def MergeSidesCardSaid : Prop := Claim7.holds Tryz.pinned (.plain (OpenSpec.ofChange mergeSidesSpec)) mergeSidesCard

/-- THE TIED CARD OF 'pantilelaw14.MergeEdits'. -/
def mergeEditsCard : Claim7 := { stood := { row := mergeEditsRow, standIns := [], harness := (true, "7bbbb5da61eb2c37a43ff3da6c1e173d476125044336f1737e87f86dfaf76b72"), looks := false }, kinds := [], alts := [], laidByText := true, laidKinds := [.data], laidTests := true, laidLooks := .later }
def MergeEditsCardSaid : Prop := Claim7.holds Tryz.pinned (.plain (OpenSpec.ofChange mergeEditsSpec)) mergeEditsCard

/-- THE TIED CARD OF 'pantilelaw14.MergeNil'. -/
def mergeNilCard : Claim7 := { stood := { row := mergeNilRow, standIns := [], harness := (true, "7bbbb5da61eb2c37a43ff3da6c1e173d476125044336f1737e87f86dfaf76b72"), looks := false }, kinds := [], alts := [], laidByText := true, laidKinds := [.data], laidTests := true, laidLooks := .later }
def MergeNilCardSaid : Prop := Claim7.holds Tryz.pinned (.plain (OpenSpec.ofChange mergeNilSpec)) mergeNilCard

/-- THE SECOND FORM's CARD OF 'pantilelaw09.WindowParts'. -/
def windowPartsUptoCard : Claim7 := { stood := { row := windowPartsUptoRow, standIns := [], harness := (true, "7bbbb5da61eb2c37a43ff3da6c1e173d476125044336f1737e87f86dfaf76b72"), looks := false }, kinds := [], alts := [], laidByText := true, laidKinds := [.data], laidTests := true, laidLooks := .later }
def WindowPartsUptoCardSaid : Prop := Claim7.holds Tryz.pinned (.plain (OpenSpec.upto windowPartsSpec)) windowPartsUptoCard

/-- THE SECOND FORM's CARD OF 'pantilelaw14.MergeThree'. -/
def mergeThreeUptoCard : Claim7 := { stood := { row := mergeThreeUptoRow, standIns := [], harness := (true, "7bbbb5da61eb2c37a43ff3da6c1e173d476125044336f1737e87f86dfaf76b72"), looks := false }, kinds := [], alts := [], laidByText := true, laidKinds := [.data], laidTests := true, laidLooks := .later }
def MergeThreeUptoCardSaid : Prop := Claim7.holds Tryz.pinned (.plain (OpenSpec.upto mergeThreeSpec)) mergeThreeUptoCard

/-- THE SECOND FORM's CARD OF 'pantilelaw14.MergeApart'. -/
def mergeApartUptoCard : Claim7 := { stood := { row := mergeApartUptoRow, standIns := [], harness := (true, "7bbbb5da61eb2c37a43ff3da6c1e173d476125044336f1737e87f86dfaf76b72"), looks := false }, kinds := [], alts := [], laidByText := true, laidKinds := [.data], laidTests := true, laidLooks := .later }
def MergeApartUptoCardSaid : Prop := Claim7.holds Tryz.pinned (.plain (OpenSpec.upto mergeApartSpec)) mergeApartUptoCard

/-- THE SECOND FORM's CARD OF 'pantilelaw14.MergeSides'. -/
def mergeSidesUptoCard : Claim7 := { stood := { row := mergeSidesUptoRow, standIns := [], harness := (true, "7bbbb5da61eb2c37a43ff3da6c1e173d476125044336f1737e87f86dfaf76b72"), looks := false }, kinds := [], alts := [], laidByText := true, laidKinds := [.data], laidTests := true, laidLooks := .later }
def MergeSidesUptoCardSaid : Prop := Claim7.holds Tryz.pinned (.plain (OpenSpec.upto mergeSidesSpec)) mergeSidesUptoCard

/-- THE SECOND FORM's CARD OF 'pantilelaw14.MergeEdits'. -/
def mergeEditsUptoCard : Claim7 := { stood := { row := mergeEditsUptoRow, standIns := [], harness := (true, "7bbbb5da61eb2c37a43ff3da6c1e173d476125044336f1737e87f86dfaf76b72"), looks := false }, kinds := [], alts := [], laidByText := true, laidKinds := [.data], laidTests := true, laidLooks := .later }
def MergeEditsUptoCardSaid : Prop := Claim7.holds Tryz.pinned (.plain (OpenSpec.upto mergeEditsSpec)) mergeEditsUptoCard

/-- THE SECOND FORM's CARD OF 'pantilelaw14.MergeNil'. -/
def mergeNilUptoCard : Claim7 := { stood := { row := mergeNilUptoRow, standIns := [], harness := (true, "7bbbb5da61eb2c37a43ff3da6c1e173d476125044336f1737e87f86dfaf76b72"), looks := false }, kinds := [], alts := [], laidByText := true, laidKinds := [.data], laidTests := true, laidLooks := .later }
def MergeNilUptoCardSaid : Prop := Claim7.holds Tryz.pinned (.plain (OpenSpec.upto mergeNilSpec)) mergeNilUptoCard
end Rows
end Go.Proofs.YtmkejbfgdmbejaaGreatDoor
