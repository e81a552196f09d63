/-
  DERIVED. GIVEN WITH THE SEED: THE CARDS: each row of YtmdohckoegpgkaaGreatDoorRows.lean that lists a variable, with what it lists TIED to the program's text (the seventh form; the later family's looks); each row that meets fmt, with fmt's text TOLD by the authors' own Lean function (tested against real Go, not proved from fmt's source: count such statements apart). THE CARD IS WHAT COUNTS. Prove the row's statement (the work); the ties are given (YtmdohckoegpgkaaGreatDoorTie.lean); close each card by the builder's one call (the guide's Derived/Test/ToyasCard.lean, 'card_holds'). Laid BY PROGRAM, IN A SANDBOX (cutbox-door.mjs). By AI agents, Wed Nov 11 2026. No macro, syntax, notation, axiom, sorry.
-/
import Derived.Test.YtmdohckoegpgkaaGreatDoorRows
import GoSem.ClaimSeven
namespace Go.Proofs.YtmdohckoegpgkaaGreatDoor
namespace Rows

/-- THE TIED CARD OF 'pantilelaw09.WindowParts'. -/
def windowPartsCard : Claim7 := { stood := { row := windowPartsRow, standIns := [], harness := (true, "2bd33e9a3b9f51a1126c8930ef21659907e367e92c0f037c0d07e25f2bc1fec2"), looks := true }, kinds := [], alts := [], laidByText := true, laidKinds := [.data], laidTests := true, laidLooks := .later }
def WindowPartsCardSaid : Prop := Claim7.holds Tryz.pinned (.plain (OpenSpec.ofChange windowPartsSpec)) windowPartsCard

/-- THE TIED CARD OF 'pantilelaw10.RankParts'. -/
def rankPartsCard : Claim7 := { stood := { row := rankPartsRow, standIns := [], harness := (true, "2bd33e9a3b9f51a1126c8930ef21659907e367e92c0f037c0d07e25f2bc1fec2"), looks := true }, kinds := [], alts := [], laidByText := true, laidKinds := [.data], laidTests := true, laidLooks := .later }
def RankPartsCardSaid : Prop := Claim7.holds Tryz.pinned (.plain (OpenSpec.ofChange rankPartsSpec)) rankPartsCard

/-- THE TIED CARD OF 'pantilelaw10.RankJoins'. -/
def rankJoinsCard : Claim7 := { stood := { row := rankJoinsRow, standIns := [], harness := (true, "2bd33e9a3b9f51a1126c8930ef21659907e367e92c0f037c0d07e25f2bc1fec2"), looks := true }, kinds := [], alts := [], laidByText := true, laidKinds := [.data], laidTests := true, laidLooks := .later }
def RankJoinsCardSaid : Prop := Claim7.holds Tryz.pinned (.plain (OpenSpec.ofChange rankJoinsSpec)) rankJoinsCard

/-- THE TIED CARD OF 'pantilelaw11.NearTo'. -/
def nearToCard : Claim7 := { stood := { row := nearToRow, standIns := [], harness := (true, "2bd33e9a3b9f51a1126c8930ef21659907e367e92c0f037c0d07e25f2bc1fec2"), looks := true }, kinds := [], alts := [], laidByText := true, laidKinds := [.data], laidTests := true, laidLooks := .later }
def NearToCardSaid : Prop := Claim7.holds Tryz.pinned (.plain (OpenSpec.ofChange nearToSpec)) nearToCard

/-- THE TIED CARD OF 'pantilelaw11.NearWithin'. -/
def nearWithinCard : Claim7 := { stood := { row := nearWithinRow, standIns := [], harness := (true, "2bd33e9a3b9f51a1126c8930ef21659907e367e92c0f037c0d07e25f2bc1fec2"), looks := true }, kinds := [], alts := [], laidByText := true, laidKinds := [.data], laidTests := true, laidLooks := .later }
def NearWithinCardSaid : Prop := Claim7.holds Tryz.pinned (.plain (OpenSpec.ofChange nearWithinSpec)) nearWithinCard

/-- THE TIED CARD OF 'pantilelaw11.NearGrows'. -/
def nearGrowsCard : Claim7 := { stood := { row := nearGrowsRow, standIns := [], harness := (true, "2bd33e9a3b9f51a1126c8930ef21659907e367e92c0f037c0d07e25f2bc1fec2"), looks := true }, kinds := [], alts := [], laidByText := true, laidKinds := [.data], laidTests := true, laidLooks := .later }
def NearGrowsCardSaid : Prop := Claim7.holds Tryz.pinned (.plain (OpenSpec.ofChange nearGrowsSpec)) nearGrowsCard

/-- THE SECOND FORM's CARD OF 'pantilelaw09.WindowParts'. -/
def windowPartsUptoCard : Claim7 := { stood := { row := windowPartsUptoRow, standIns := [], harness := (true, "2bd33e9a3b9f51a1126c8930ef21659907e367e92c0f037c0d07e25f2bc1fec2"), looks := true }, kinds := [], alts := [], laidByText := true, laidKinds := [.data], laidTests := true, laidLooks := .later }
def WindowPartsUptoCardSaid : Prop := Claim7.holds Tryz.pinned (.plain (OpenSpec.upto windowPartsSpec)) windowPartsUptoCard

/-- THE SECOND FORM's CARD OF 'pantilelaw10.RankParts'. -/
def rankPartsUptoCard : Claim7 := { stood := { row := rankPartsUptoRow, standIns := [], harness := (true, "2bd33e9a3b9f51a1126c8930ef21659907e367e92c0f037c0d07e25f2bc1fec2"), looks := true }, kinds := [], alts := [], laidByText := true, laidKinds := [.data], laidTests := true, laidLooks := .later }
def RankPartsUptoCardSaid : Prop := Claim7.holds Tryz.pinned (.plain (OpenSpec.upto rankPartsSpec)) rankPartsUptoCard

/-- THE SECOND FORM's CARD OF 'pantilelaw10.RankJoins'. -/
def rankJoinsUptoCard : Claim7 := { stood := { row := rankJoinsUptoRow, standIns := [], harness := (true, "2bd33e9a3b9f51a1126c8930ef21659907e367e92c0f037c0d07e25f2bc1fec2"), looks := true }, kinds := [], alts := [], laidByText := true, laidKinds := [.data], laidTests := true, laidLooks := .later }
def RankJoinsUptoCardSaid : Prop := Claim7.holds Tryz.pinned (.plain (OpenSpec.upto rankJoinsSpec)) rankJoinsUptoCard

/-- THE SECOND FORM's CARD OF 'pantilelaw11.NearTo'. -/
def nearToUptoCard : Claim7 := { stood := { row := nearToUptoRow, standIns := [], harness := (true, "2bd33e9a3b9f51a1126c8930ef21659907e367e92c0f037c0d07e25f2bc1fec2"), looks := true }, kinds := [], alts := [], laidByText := true, laidKinds := [.data], laidTests := true, laidLooks := .later }
def NearToUptoCardSaid : Prop := Claim7.holds Tryz.pinned (.plain (OpenSpec.upto nearToSpec)) nearToUptoCard

/-- THE SECOND FORM's CARD OF 'pantilelaw11.NearWithin'. -/
def nearWithinUptoCard : Claim7 := { stood := { row := nearWithinUptoRow, standIns := [], harness := (true, "2bd33e9a3b9f51a1126c8930ef21659907e367e92c0f037c0d07e25f2bc1fec2"), looks := true }, kinds := [], alts := [], laidByText := true, laidKinds := [.data], laidTests := true, laidLooks := .later }
def NearWithinUptoCardSaid : Prop := Claim7.holds Tryz.pinned (.plain (OpenSpec.upto nearWithinSpec)) nearWithinUptoCard

/-- THE SECOND FORM's CARD OF 'pantilelaw11.NearGrows'. -/
def nearGrowsUptoCard : Claim7 := { stood := { row := nearGrowsUptoRow, standIns := [], harness := (true, "2bd33e9a3b9f51a1126c8930ef21659907e367e92c0f037c0d07e25f2bc1fec2"), looks := true }, kinds := [], alts := [], laidByText := true, laidKinds := [.data], laidTests := true, laidLooks := .later }
def NearGrowsUptoCardSaid : Prop := Claim7.holds Tryz.pinned (.plain (OpenSpec.upto nearGrowsSpec)) nearGrowsUptoCard
end Rows
end Go.Proofs.YtmdohckoegpgkaaGreatDoor
