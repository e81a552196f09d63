/-
  DERIVED. GIVEN WITH THE SEED: THE CARDS: each row of YtdpbcfjhljgicaaGreatDoorRows.lean that lists a variable, with what it lists TIED to the program's text (the seventh form; the later family's looks); each row that meets fmt, with fmt's text TOLD by the authors' own Lean function (tested against real Go, not proved from fmt's source: count such statements apart). THE CARD IS WHAT COUNTS. Prove the row's statement (the work); the ties are given (YtdpbcfjhljgicaaGreatDoorTie.lean); close each card by the builder's one call (the guide's Derived/Test/ToyasCard.lean, 'card_holds'). Laid BY PROGRAM, IN A SANDBOX (cutbox-door.mjs). By AI agents, Wed Nov 11 2026. No macro, syntax, notation, axiom, sorry.
-/
import Derived.Test.YtdpbcfjhljgicaaGreatDoorRows
import GoSem.ClaimSeven
namespace Go.Proofs.YtdpbcfjhljgicaaGreatDoor
namespace Rows

/-- THE TIED CARD OF 'pantilelaw09.WindowFinds'. -/
def windowFindsCard : Claim7 := { stood := { row := windowFindsRow, standIns := [], harness := (true, "6ccb64a6fa67e9a809d1e369007cd36eb07bf8331df625b1a427f5aee16737a1"), looks := false }, kinds := [], alts := [], laidByText := true, laidKinds := [.data], laidTests := true, laidLooks := .later }
def WindowFindsCardSaid : Prop := Claim7.holds Tryz.pinned (.plain (OpenSpec.ofChange windowFindsSpec)) windowFindsCard

/-- THE TIED CARD OF 'pantilelaw09.WindowParts'. -/
def windowPartsCard : Claim7 := { stood := { row := windowPartsRow, standIns := [], harness := (true, "6ccb64a6fa67e9a809d1e369007cd36eb07bf8331df625b1a427f5aee16737a1"), looks := false }, kinds := [], alts := [], laidByText := true, laidKinds := [.data], laidTests := true, laidLooks := .later }
def WindowPartsCardSaid : Prop := Claim7.holds Tryz.pinned (.plain (OpenSpec.ofChange windowPartsSpec)) windowPartsCard

/-- THE TIED CARD OF 'pantilelaw09.WindowNil'. -/
def windowNilCard : Claim7 := { stood := { row := windowNilRow, standIns := [], harness := (true, "6ccb64a6fa67e9a809d1e369007cd36eb07bf8331df625b1a427f5aee16737a1"), looks := false }, kinds := [], alts := [], laidByText := true, laidKinds := [.data], laidTests := true, laidLooks := .later }
def WindowNilCardSaid : Prop := Claim7.holds Tryz.pinned (.plain (OpenSpec.ofChange windowNilSpec)) windowNilCard

/-- THE TIED CARD OF 'pantilelaw09.WindowHalves'. -/
def windowHalvesCard : Claim7 := { stood := { row := windowHalvesRow, standIns := [], harness := (true, "6ccb64a6fa67e9a809d1e369007cd36eb07bf8331df625b1a427f5aee16737a1"), looks := false }, kinds := [], alts := [], laidByText := true, laidKinds := [.data], laidTests := true, laidLooks := .later }
def WindowHalvesCardSaid : Prop := Claim7.holds Tryz.pinned (.plain (OpenSpec.ofChange windowHalvesSpec)) windowHalvesCard

/-- THE TIED CARD OF 'pantilelaw10.RankOf'. -/
def rankOfCard : Claim7 := { stood := { row := rankOfRow, standIns := [], harness := (true, "6ccb64a6fa67e9a809d1e369007cd36eb07bf8331df625b1a427f5aee16737a1"), looks := false }, kinds := [], alts := [], laidByText := true, laidKinds := [.data], laidTests := true, laidLooks := .later }
def RankOfCardSaid : Prop := Claim7.holds Tryz.pinned (.plain (OpenSpec.ofChange rankOfSpec)) rankOfCard

/-- THE TIED CARD OF 'pantilelaw10.RankParts'. -/
def rankPartsCard : Claim7 := { stood := { row := rankPartsRow, standIns := [], harness := (true, "6ccb64a6fa67e9a809d1e369007cd36eb07bf8331df625b1a427f5aee16737a1"), looks := false }, kinds := [], alts := [], laidByText := true, laidKinds := [.data], laidTests := true, laidLooks := .later }
def RankPartsCardSaid : Prop := Claim7.holds Tryz.pinned (.plain (OpenSpec.ofChange rankPartsSpec)) rankPartsCard

/-- THE TIED CARD OF 'pantilelaw10.RankJoins'. -/
def rankJoinsCard : Claim7 := { stood := { row := rankJoinsRow, standIns := [], harness := (true, "6ccb64a6fa67e9a809d1e369007cd36eb07bf8331df625b1a427f5aee16737a1"), looks := false }, kinds := [], alts := [], laidByText := true, laidKinds := [.data], laidTests := true, laidLooks := .later }
def RankJoinsCardSaid : Prop := Claim7.holds Tryz.pinned (.plain (OpenSpec.ofChange rankJoinsSpec)) rankJoinsCard

/-- THE TIED CARD OF 'pantilelaw10.RankNil'. -/
def rankNilCard : Claim7 := { stood := { row := rankNilRow, standIns := [], harness := (true, "6ccb64a6fa67e9a809d1e369007cd36eb07bf8331df625b1a427f5aee16737a1"), looks := false }, kinds := [], alts := [], laidByText := true, laidKinds := [.data], laidTests := true, laidLooks := .later }
def RankNilCardSaid : Prop := Claim7.holds Tryz.pinned (.plain (OpenSpec.ofChange rankNilSpec)) rankNilCard

/-- THE TIED CARD OF 'pantilelaw10.RankRows'. -/
def rankRowsCard : Claim7 := { stood := { row := rankRowsRow, standIns := [], harness := (true, "6ccb64a6fa67e9a809d1e369007cd36eb07bf8331df625b1a427f5aee16737a1"), looks := false }, kinds := [], alts := [], laidByText := true, laidKinds := [.data], laidTests := true, laidLooks := .later }
def RankRowsCardSaid : Prop := Claim7.holds Tryz.pinned (.plain (OpenSpec.ofChange rankRowsSpec)) rankRowsCard

/-- THE SECOND FORM's CARD OF 'pantilelaw09.WindowFinds'. -/
def windowFindsUptoCard : Claim7 := { stood := { row := windowFindsUptoRow, standIns := [], harness := (true, "6ccb64a6fa67e9a809d1e369007cd36eb07bf8331df625b1a427f5aee16737a1"), looks := false }, kinds := [], alts := [], laidByText := true, laidKinds := [.data], laidTests := true, laidLooks := .later }
def WindowFindsUptoCardSaid : Prop := Claim7.holds Tryz.pinned (.plain (OpenSpec.upto windowFindsSpec)) windowFindsUptoCard

/-- THE SECOND FORM's CARD OF 'pantilelaw09.WindowParts'. -/
def windowPartsUptoCard : Claim7 := { stood := { row := windowPartsUptoRow, standIns := [], harness := (true, "6ccb64a6fa67e9a809d1e369007cd36eb07bf8331df625b1a427f5aee16737a1"), looks := false }, kinds := [], alts := [], laidByText := true, laidKinds := [.data], laidTests := true, laidLooks := .later }
def WindowPartsUptoCardSaid : Prop := Claim7.holds Tryz.pinned (.plain (OpenSpec.upto windowPartsSpec)) windowPartsUptoCard

/-- THE SECOND FORM's CARD OF 'pantilelaw09.WindowNil'. -/
def windowNilUptoCard : Claim7 := { stood := { row := windowNilUptoRow, standIns := [], harness := (true, "6ccb64a6fa67e9a809d1e369007cd36eb07bf8331df625b1a427f5aee16737a1"), looks := false }, kinds := [], alts := [], laidByText := true, laidKinds := [.data], laidTests := true, laidLooks := .later }
def WindowNilUptoCardSaid : Prop := Claim7.holds Tryz.pinned (.plain (OpenSpec.upto windowNilSpec)) windowNilUptoCard

/-- THE SECOND FORM's CARD OF 'pantilelaw09.WindowHalves'. -/
def windowHalvesUptoCard : Claim7 := { stood := { row := windowHalvesUptoRow, standIns := [], harness := (true, "6ccb64a6fa67e9a809d1e369007cd36eb07bf8331df625b1a427f5aee16737a1"), looks := false }, kinds := [], alts := [], laidByText := true, laidKinds := [.data], laidTests := true, laidLooks := .later }
def WindowHalvesUptoCardSaid : Prop := Claim7.holds Tryz.pinned (.plain (OpenSpec.upto windowHalvesSpec)) windowHalvesUptoCard

/-- THE SECOND FORM's CARD OF 'pantilelaw10.RankOf'. -/
def rankOfUptoCard : Claim7 := { stood := { row := rankOfUptoRow, standIns := [], harness := (true, "6ccb64a6fa67e9a809d1e369007cd36eb07bf8331df625b1a427f5aee16737a1"), looks := false }, kinds := [], alts := [], laidByText := true, laidKinds := [.data], laidTests := true, laidLooks := .later }
def RankOfUptoCardSaid : Prop := Claim7.holds Tryz.pinned (.plain (OpenSpec.upto rankOfSpec)) rankOfUptoCard

/-- THE SECOND FORM's CARD OF 'pantilelaw10.RankParts'. -/
def rankPartsUptoCard : Claim7 := { stood := { row := rankPartsUptoRow, standIns := [], harness := (true, "6ccb64a6fa67e9a809d1e369007cd36eb07bf8331df625b1a427f5aee16737a1"), looks := false }, kinds := [], alts := [], laidByText := true, laidKinds := [.data], laidTests := true, laidLooks := .later }
def RankPartsUptoCardSaid : Prop := Claim7.holds Tryz.pinned (.plain (OpenSpec.upto rankPartsSpec)) rankPartsUptoCard

/-- THE SECOND FORM's CARD OF 'pantilelaw10.RankJoins'. -/
def rankJoinsUptoCard : Claim7 := { stood := { row := rankJoinsUptoRow, standIns := [], harness := (true, "6ccb64a6fa67e9a809d1e369007cd36eb07bf8331df625b1a427f5aee16737a1"), looks := false }, kinds := [], alts := [], laidByText := true, laidKinds := [.data], laidTests := true, laidLooks := .later }
def RankJoinsUptoCardSaid : Prop := Claim7.holds Tryz.pinned (.plain (OpenSpec.upto rankJoinsSpec)) rankJoinsUptoCard

/-- THE SECOND FORM's CARD OF 'pantilelaw10.RankNil'. -/
def rankNilUptoCard : Claim7 := { stood := { row := rankNilUptoRow, standIns := [], harness := (true, "6ccb64a6fa67e9a809d1e369007cd36eb07bf8331df625b1a427f5aee16737a1"), looks := false }, kinds := [], alts := [], laidByText := true, laidKinds := [.data], laidTests := true, laidLooks := .later }
def RankNilUptoCardSaid : Prop := Claim7.holds Tryz.pinned (.plain (OpenSpec.upto rankNilSpec)) rankNilUptoCard

/-- THE SECOND FORM's CARD OF 'pantilelaw10.RankRows'. -/
def rankRowsUptoCard : Claim7 := { stood := { row := rankRowsUptoRow, standIns := [], harness := (true, "6ccb64a6fa67e9a809d1e369007cd36eb07bf8331df625b1a427f5aee16737a1"), looks := false }, kinds := [], alts := [], laidByText := true, laidKinds := [.data], laidTests := true, laidLooks := .later }
def RankRowsUptoCardSaid : Prop := Claim7.holds Tryz.pinned (.plain (OpenSpec.upto rankRowsSpec)) rankRowsUptoCard
end Rows
end Go.Proofs.YtdpbcfjhljgicaaGreatDoor
