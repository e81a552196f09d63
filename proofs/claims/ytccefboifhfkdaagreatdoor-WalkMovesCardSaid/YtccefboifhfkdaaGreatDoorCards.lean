/-
  DERIVED. GIVEN WITH THE SEED: THE CARDS: each row of YtccefboifhfkdaaGreatDoorRows.lean that lists a variable, with what it lists TIED to the program's text (the seventh form; the later family's looks); each row that meets fmt, with fmt's text TOLD by the authors' own Lean function (tested against real Go, not proved from fmt's source: count such statements apart). THE CARD IS WHAT COUNTS. Prove the row's statement (the work); the ties are given (YtccefboifhfkdaaGreatDoorTie.lean); close each card by the builder's one call (the guide's Derived/Test/ToyasCard.lean, 'card_holds'). Laid BY PROGRAM, IN A SANDBOX (cutbox-door.mjs). By AI agents, Wed Nov 11 2026. No macro, syntax, notation, axiom, sorry.
-/
import Derived.Test.YtccefboifhfkdaaGreatDoorRows
import GoSem.ClaimSeven
namespace Go.Proofs.YtccefboifhfkdaaGreatDoor
namespace Rows

/-- THE TIED CARD OF 'pantilelaw08.WalkAll'. -/
def walkAllCard : Claim7 := { stood := { row := walkAllRow, standIns := [], harness := (true, "328457133024bc6ad28b066e13c319e04dc77f6f35f36120f4084b4590df8338"), looks := false }, kinds := [], alts := [], laidByText := true, laidKinds := [.data], laidTests := true, laidLooks := .later }
def WalkAllCardSaid : Prop := Claim7.holds Tryz.pinned (.plain (OpenSpec.ofChange walkAllSpec)) walkAllCard

/-- THE TIED CARD OF 'pantilelaw08.WalkMoves'. -/
def walkMovesCard : Claim7 := { stood := { row := walkMovesRow, standIns := [], harness := (true, "328457133024bc6ad28b066e13c319e04dc77f6f35f36120f4084b4590df8338"), looks := false }, kinds := [], alts := [], laidByText := true, laidKinds := [.data], laidTests := true, laidLooks := .later }
def WalkMovesCardSaid : Prop := Claim7.holds Tryz.pinned (.plain (OpenSpec.ofChange walkMovesSpec)) walkMovesCard

/-- THE TIED CARD OF 'pantilelaw09.WindowFinds'. -/
def windowFindsCard : Claim7 := { stood := { row := windowFindsRow, standIns := [], harness := (true, "328457133024bc6ad28b066e13c319e04dc77f6f35f36120f4084b4590df8338"), looks := false }, kinds := [], alts := [], laidByText := true, laidKinds := [.data], laidTests := true, laidLooks := .later }
def WindowFindsCardSaid : Prop := Claim7.holds Tryz.pinned (.plain (OpenSpec.ofChange windowFindsSpec)) windowFindsCard

/-- THE TIED CARD OF 'pantilelaw09.WindowParts'. -/
def windowPartsCard : Claim7 := { stood := { row := windowPartsRow, standIns := [], harness := (true, "328457133024bc6ad28b066e13c319e04dc77f6f35f36120f4084b4590df8338"), looks := false }, kinds := [], alts := [], laidByText := true, laidKinds := [.data], laidTests := true, laidLooks := .later }
def WindowPartsCardSaid : Prop := Claim7.holds Tryz.pinned (.plain (OpenSpec.ofChange windowPartsSpec)) windowPartsCard

/-- THE TIED CARD OF 'pantilelaw09.WindowNil'. -/
def windowNilCard : Claim7 := { stood := { row := windowNilRow, standIns := [], harness := (true, "328457133024bc6ad28b066e13c319e04dc77f6f35f36120f4084b4590df8338"), looks := false }, kinds := [], alts := [], laidByText := true, laidKinds := [.data], laidTests := true, laidLooks := .later }
def WindowNilCardSaid : Prop := Claim7.holds Tryz.pinned (.plain (OpenSpec.ofChange windowNilSpec)) windowNilCard

/-- THE TIED CARD OF 'pantilelaw09.WindowHalves'. -/
def windowHalvesCard : Claim7 := { stood := { row := windowHalvesRow, standIns := [], harness := (true, "328457133024bc6ad28b066e13c319e04dc77f6f35f36120f4084b4590df8338"), looks := false }, kinds := [], alts := [], laidByText := true, laidKinds := [.data], laidTests := true, laidLooks := .later }
def WindowHalvesCardSaid : Prop := Claim7.holds Tryz.pinned (.plain (OpenSpec.ofChange windowHalvesSpec)) windowHalvesCard

/-- THE SECOND FORM's CARD OF 'pantilelaw08.WalkAll'. -/
def walkAllUptoCard : Claim7 := { stood := { row := walkAllUptoRow, standIns := [], harness := (true, "328457133024bc6ad28b066e13c319e04dc77f6f35f36120f4084b4590df8338"), looks := false }, kinds := [], alts := [], laidByText := true, laidKinds := [.data], laidTests := true, laidLooks := .later }
def WalkAllUptoCardSaid : Prop := Claim7.holds Tryz.pinned (.plain (OpenSpec.upto walkAllSpec)) walkAllUptoCard

/-- THE SECOND FORM's CARD OF 'pantilelaw08.WalkMoves'. -/
def walkMovesUptoCard : Claim7 := { stood := { row := walkMovesUptoRow, standIns := [], harness := (true, "328457133024bc6ad28b066e13c319e04dc77f6f35f36120f4084b4590df8338"), looks := false }, kinds := [], alts := [], laidByText := true, laidKinds := [.data], laidTests := true, laidLooks := .later }
def WalkMovesUptoCardSaid : Prop := Claim7.holds Tryz.pinned (.plain (OpenSpec.upto walkMovesSpec)) walkMovesUptoCard

/-- THE SECOND FORM's CARD OF 'pantilelaw09.WindowFinds'. -/
def windowFindsUptoCard : Claim7 := { stood := { row := windowFindsUptoRow, standIns := [], harness := (true, "328457133024bc6ad28b066e13c319e04dc77f6f35f36120f4084b4590df8338"), looks := false }, kinds := [], alts := [], laidByText := true, laidKinds := [.data], laidTests := true, laidLooks := .later }
def WindowFindsUptoCardSaid : Prop := Claim7.holds Tryz.pinned (.plain (OpenSpec.upto windowFindsSpec)) windowFindsUptoCard

/-- THE SECOND FORM's CARD OF 'pantilelaw09.WindowParts'. -/
def windowPartsUptoCard : Claim7 := { stood := { row := windowPartsUptoRow, standIns := [], harness := (true, "328457133024bc6ad28b066e13c319e04dc77f6f35f36120f4084b4590df8338"), looks := false }, kinds := [], alts := [], laidByText := true, laidKinds := [.data], laidTests := true, laidLooks := .later }
def WindowPartsUptoCardSaid : Prop := Claim7.holds Tryz.pinned (.plain (OpenSpec.upto windowPartsSpec)) windowPartsUptoCard

/-- THE SECOND FORM's CARD OF 'pantilelaw09.WindowNil'. -/
def windowNilUptoCard : Claim7 := { stood := { row := windowNilUptoRow, standIns := [], harness := (true, "328457133024bc6ad28b066e13c319e04dc77f6f35f36120f4084b4590df8338"), looks := false }, kinds := [], alts := [], laidByText := true, laidKinds := [.data], laidTests := true, laidLooks := .later }
def WindowNilUptoCardSaid : Prop := Claim7.holds Tryz.pinned (.plain (OpenSpec.upto windowNilSpec)) windowNilUptoCard

/-- THE SECOND FORM's CARD OF 'pantilelaw09.WindowHalves'. -/
def windowHalvesUptoCard : Claim7 := { stood := { row := windowHalvesUptoRow, standIns := [], harness := (true, "328457133024bc6ad28b066e13c319e04dc77f6f35f36120f4084b4590df8338"), looks := false }, kinds := [], alts := [], laidByText := true, laidKinds := [.data], laidTests := true, laidLooks := .later }
def WindowHalvesUptoCardSaid : Prop := Claim7.holds Tryz.pinned (.plain (OpenSpec.upto windowHalvesSpec)) windowHalvesUptoCard
end Rows
end Go.Proofs.YtccefboifhfkdaaGreatDoor
