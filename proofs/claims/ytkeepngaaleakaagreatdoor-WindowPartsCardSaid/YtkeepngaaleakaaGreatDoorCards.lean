/-
  DERIVED. GIVEN WITH THE SEED: THE CARDS: each row of YtkeepngaaleakaaGreatDoorRows.lean that lists a variable, with what it lists TIED to the program's text (the seventh form; the later family's looks); each row that meets fmt, with fmt's text TOLD by the authors' own Lean function (tested against real Go, not proved from fmt's source: count such statements apart). THE CARD IS WHAT COUNTS. Prove the row's statement (the work); the ties are given (YtkeepngaaleakaaGreatDoorTie.lean); close each card by the builder's one call (the guide's Derived/Test/ToyasCard.lean, 'card_holds'). Laid BY PROGRAM, IN A SANDBOX (cutbox-door.mjs). By AI agents, Wed Nov 11 2026. No macro, syntax, notation, axiom, sorry.
-/
import Derived.Test.YtkeepngaaleakaaGreatDoorRows
import GoSem.ClaimSeven
namespace Go.Proofs.YtkeepngaaleakaaGreatDoor
namespace Rows

/-- THE TIED CARD OF 'pantilelaw09.WindowParts'. -/
def windowPartsCard : Claim7 := { stood := { row := windowPartsRow, standIns := [], harness := (true, "979e5661a3bfb1e8e387508c556b9705da7c7efa76e4d59338f655df9c9e6404"), looks := false }, kinds := [], alts := [], laidByText := true, laidKinds := [.data], laidTests := true, laidLooks := .later }
def WindowPartsCardSaid : Prop := Claim7.holds Tryz.pinned (.plain (OpenSpec.ofChange windowPartsSpec)) windowPartsCard

/-- THE TIED CARD OF 'pantilelaw15.SetsJoin'. -/
def setsJoinCard : Claim7 := { stood := { row := setsJoinRow, standIns := [], harness := (true, "979e5661a3bfb1e8e387508c556b9705da7c7efa76e4d59338f655df9c9e6404"), looks := false }, kinds := [], alts := [], laidByText := true, laidKinds := [.data], laidTests := true, laidLooks := .later }
def SetsJoinCardSaid : Prop := Claim7.holds Tryz.pinned (.plain (OpenSpec.ofChange setsJoinSpec)) setsJoinCard

/-- THE TIED CARD OF 'pantilelaw15.SetsAsk'. -/
def setsAskCard : Claim7 := { stood := { row := setsAskRow, standIns := [], harness := (true, "979e5661a3bfb1e8e387508c556b9705da7c7efa76e4d59338f655df9c9e6404"), looks := false }, kinds := [], alts := [], laidByText := true, laidKinds := [.data], laidTests := true, laidLooks := .later }
def SetsAskCardSaid : Prop := Claim7.holds Tryz.pinned (.plain (OpenSpec.ofChange setsAskSpec)) setsAskCard

/-- THE TIED CARD OF 'pantilelaw15.SetsLaws'. -/
def setsLawsCard : Claim7 := { stood := { row := setsLawsRow, standIns := [], harness := (true, "979e5661a3bfb1e8e387508c556b9705da7c7efa76e4d59338f655df9c9e6404"), looks := false }, kinds := [], alts := [], laidByText := true, laidKinds := [.data], laidTests := true, laidLooks := .later }
def SetsLawsCardSaid : Prop := Claim7.holds Tryz.pinned (.plain (OpenSpec.ofChange setsLawsSpec)) setsLawsCard

/-- THE TIED CARD OF 'pantilelaw15.SetsNil'. -/
def setsNilCard : Claim7 := { stood := { row := setsNilRow, standIns := [], harness := (true, "979e5661a3bfb1e8e387508c556b9705da7c7efa76e4d59338f655df9c9e6404"), looks := false }, kinds := [], alts := [], laidByText := true, laidKinds := [.data], laidTests := true, laidLooks := .later }
def SetsNilCardSaid : Prop := Claim7.holds Tryz.pinned (.plain (OpenSpec.ofChange setsNilSpec)) setsNilCard

/-- THE TIED CARD OF 'pantilelaw16.BulkMakes'. -/
def bulkMakesCard : Claim7 := { stood := { row := bulkMakesRow, standIns := [], harness := (true, "979e5661a3bfb1e8e387508c556b9705da7c7efa76e4d59338f655df9c9e6404"), looks := false }, kinds := [], alts := [], laidByText := true, laidKinds := [.data], laidTests := true, laidLooks := .later }
def BulkMakesCardSaid : Prop := Claim7.holds Tryz.pinned (.plain (OpenSpec.ofChange bulkMakesSpec)) bulkMakesCard

/-- THE TIED CARD OF 'pantilelaw16.BulkDels'. -/
def bulkDelsCard : Claim7 := { stood := { row := bulkDelsRow, standIns := [], harness := (true, "979e5661a3bfb1e8e387508c556b9705da7c7efa76e4d59338f655df9c9e6404"), looks := false }, kinds := [], alts := [], laidByText := true, laidKinds := [.data], laidTests := true, laidLooks := .later }
def BulkDelsCardSaid : Prop := Claim7.holds Tryz.pinned (.plain (OpenSpec.ofChange bulkDelsSpec)) bulkDelsCard

/-- THE TIED CARD OF 'pantilelaw16.BulkMaps'. -/
def bulkMapsCard : Claim7 := { stood := { row := bulkMapsRow, standIns := [], harness := (true, "979e5661a3bfb1e8e387508c556b9705da7c7efa76e4d59338f655df9c9e6404"), looks := false }, kinds := [], alts := [], laidByText := true, laidKinds := [.data], laidTests := true, laidLooks := .later }
def BulkMapsCardSaid : Prop := Claim7.holds Tryz.pinned (.plain (OpenSpec.ofChange bulkMapsSpec)) bulkMapsCard

/-- THE TIED CARD OF 'pantilelaw16.BulkTurns'. -/
def bulkTurnsCard : Claim7 := { stood := { row := bulkTurnsRow, standIns := [], harness := (true, "979e5661a3bfb1e8e387508c556b9705da7c7efa76e4d59338f655df9c9e6404"), looks := false }, kinds := [], alts := [], laidByText := true, laidKinds := [.data], laidTests := true, laidLooks := .later }
def BulkTurnsCardSaid : Prop := Claim7.holds Tryz.pinned (.plain (OpenSpec.ofChange bulkTurnsSpec)) bulkTurnsCard

/-- THE TIED CARD OF 'pantilelaw16.BulkNil'. -/
def bulkNilCard : Claim7 := { stood := { row := bulkNilRow, standIns := [], harness := (true, "979e5661a3bfb1e8e387508c556b9705da7c7efa76e4d59338f655df9c9e6404"), looks := false }, kinds := [], alts := [], laidByText := true, laidKinds := [.data], laidTests := true, laidLooks := .later }
def BulkNilCardSaid : Prop := Claim7.holds Tryz.pinned (.plain (OpenSpec.ofChange bulkNilSpec)) bulkNilCard

/-- THE SECOND FORM's CARD OF 'pantilelaw09.WindowParts'. -/
def windowPartsUptoCard : Claim7 := { stood := { row := windowPartsUptoRow, standIns := [], harness := (true, "979e5661a3bfb1e8e387508c556b9705da7c7efa76e4d59338f655df9c9e6404"), looks := false }, kinds := [], alts := [], laidByText := true, laidKinds := [.data], laidTests := true, laidLooks := .later }
def WindowPartsUptoCardSaid : Prop := Claim7.holds Tryz.pinned (.plain (OpenSpec.upto windowPartsSpec)) windowPartsUptoCard

/-- THE SECOND FORM's CARD OF 'pantilelaw15.SetsJoin'. -/
def setsJoinUptoCard : Claim7 := { stood := { row := setsJoinUptoRow, standIns := [], harness := (true, "979e5661a3bfb1e8e387508c556b9705da7c7efa76e4d59338f655df9c9e6404"), looks := false }, kinds := [], alts := [], laidByText := true, laidKinds := [.data], laidTests := true, laidLooks := .later }
def SetsJoinUptoCardSaid : Prop := Claim7.holds Tryz.pinned (.plain (OpenSpec.upto setsJoinSpec)) setsJoinUptoCard

/-- THE SECOND FORM's CARD OF 'pantilelaw15.SetsAsk'. -/
def setsAskUptoCard : Claim7 := { stood := { row := setsAskUptoRow, standIns := [], harness := (true, "979e5661a3bfb1e8e387508c556b9705da7c7efa76e4d59338f655df9c9e6404"), looks := false }, kinds := [], alts := [], laidByText := true, laidKinds := [.data], laidTests := true, laidLooks := .later }
def SetsAskUptoCardSaid : Prop := Claim7.holds Tryz.pinned (.plain (OpenSpec.upto setsAskSpec)) setsAskUptoCard

/-- THE SECOND FORM's CARD OF 'pantilelaw15.SetsLaws'. -/
def setsLawsUptoCard : Claim7 := { stood := { row := setsLawsUptoRow, standIns := [], harness := (true, "979e5661a3bfb1e8e387508c556b9705da7c7efa76e4d59338f655df9c9e6404"), looks := false }, kinds := [], alts := [], laidByText := true, laidKinds := [.data], laidTests := true, laidLooks := .later }
def SetsLawsUptoCardSaid : Prop := Claim7.holds Tryz.pinned (.plain (OpenSpec.upto setsLawsSpec)) setsLawsUptoCard

/-- THE SECOND FORM's CARD OF 'pantilelaw15.SetsNil'. -/
def setsNilUptoCard : Claim7 := { stood := { row := setsNilUptoRow, standIns := [], harness := (true, "979e5661a3bfb1e8e387508c556b9705da7c7efa76e4d59338f655df9c9e6404"), looks := false }, kinds := [], alts := [], laidByText := true, laidKinds := [.data], laidTests := true, laidLooks := .later }
def SetsNilUptoCardSaid : Prop := Claim7.holds Tryz.pinned (.plain (OpenSpec.upto setsNilSpec)) setsNilUptoCard

/-- THE SECOND FORM's CARD OF 'pantilelaw16.BulkMakes'. -/
def bulkMakesUptoCard : Claim7 := { stood := { row := bulkMakesUptoRow, standIns := [], harness := (true, "979e5661a3bfb1e8e387508c556b9705da7c7efa76e4d59338f655df9c9e6404"), looks := false }, kinds := [], alts := [], laidByText := true, laidKinds := [.data], laidTests := true, laidLooks := .later }
def BulkMakesUptoCardSaid : Prop := Claim7.holds Tryz.pinned (.plain (OpenSpec.upto bulkMakesSpec)) bulkMakesUptoCard

/-- THE SECOND FORM's CARD OF 'pantilelaw16.BulkDels'. -/
def bulkDelsUptoCard : Claim7 := { stood := { row := bulkDelsUptoRow, standIns := [], harness := (true, "979e5661a3bfb1e8e387508c556b9705da7c7efa76e4d59338f655df9c9e6404"), looks := false }, kinds := [], alts := [], laidByText := true, laidKinds := [.data], laidTests := true, laidLooks := .later }
def BulkDelsUptoCardSaid : Prop := Claim7.holds Tryz.pinned (.plain (OpenSpec.upto bulkDelsSpec)) bulkDelsUptoCard

/-- THE SECOND FORM's CARD OF 'pantilelaw16.BulkMaps'. -/
def bulkMapsUptoCard : Claim7 := { stood := { row := bulkMapsUptoRow, standIns := [], harness := (true, "979e5661a3bfb1e8e387508c556b9705da7c7efa76e4d59338f655df9c9e6404"), looks := false }, kinds := [], alts := [], laidByText := true, laidKinds := [.data], laidTests := true, laidLooks := .later }
def BulkMapsUptoCardSaid : Prop := Claim7.holds Tryz.pinned (.plain (OpenSpec.upto bulkMapsSpec)) bulkMapsUptoCard

/-- THE SECOND FORM's CARD OF 'pantilelaw16.BulkTurns'. -/
def bulkTurnsUptoCard : Claim7 := { stood := { row := bulkTurnsUptoRow, standIns := [], harness := (true, "979e5661a3bfb1e8e387508c556b9705da7c7efa76e4d59338f655df9c9e6404"), looks := false }, kinds := [], alts := [], laidByText := true, laidKinds := [.data], laidTests := true, laidLooks := .later }
def BulkTurnsUptoCardSaid : Prop := Claim7.holds Tryz.pinned (.plain (OpenSpec.upto bulkTurnsSpec)) bulkTurnsUptoCard

/-- THE SECOND FORM's CARD OF 'pantilelaw16.BulkNil'. -/
def bulkNilUptoCard : Claim7 := { stood := { row := bulkNilUptoRow, standIns := [], harness := (true, "979e5661a3bfb1e8e387508c556b9705da7c7efa76e4d59338f655df9c9e6404"), looks := false }, kinds := [], alts := [], laidByText := true, laidKinds := [.data], laidTests := true, laidLooks := .later }
def BulkNilUptoCardSaid : Prop := Claim7.holds Tryz.pinned (.plain (OpenSpec.upto bulkNilSpec)) bulkNilUptoCard
end Rows
end Go.Proofs.YtkeepngaaleakaaGreatDoor
