/-
  DERIVED. GIVEN WITH THE SEED: THE CARDS: each row of YtjcmehplcagejaaGreatDoorRows.lean that lists a variable, with what it lists TIED to the program's text (the seventh form; the later family's looks); each row that meets fmt, with fmt's text TOLD by the authors' own Lean function (tested against real Go, not proved from fmt's source: count such statements apart). THE CARD IS WHAT COUNTS. Prove the row's statement (the work); the ties are given (YtjcmehplcagejaaGreatDoorTie.lean); close each card by the builder's one call (the guide's Derived/Test/ToyasCard.lean, 'card_holds'). Laid BY PROGRAM, IN A SANDBOX (cutbox-door.mjs). By AI agents, Wed Nov 11 2026. No macro, syntax, notation, axiom, sorry.
-/
import Derived.Test.YtjcmehplcagejaaGreatDoorRows
import GoSem.ClaimSeven
namespace Go.Proofs.YtjcmehplcagejaaGreatDoor
namespace Rows

/-- THE TIED CARD OF 'pantilelaw09.WindowParts'. -/
def windowPartsCard : Claim7 := { stood := { row := windowPartsRow, standIns := [], harness := (true, "6c8673e072ae325afe7e862caa1b8edec1beeb7ed1a22646fac5e587682812ef"), looks := true }, kinds := [], alts := [], laidByText := true, laidKinds := [.data], laidTests := true, laidLooks := .later }
def WindowPartsCardSaid : Prop := Claim7.holds Tryz.pinned (.plain (OpenSpec.ofChange windowPartsSpec)) windowPartsCard

/-- THE TIED CARD OF 'pantilelaw10.RankParts'. -/
def rankPartsCard : Claim7 := { stood := { row := rankPartsRow, standIns := [], harness := (true, "6c8673e072ae325afe7e862caa1b8edec1beeb7ed1a22646fac5e587682812ef"), looks := true }, kinds := [], alts := [], laidByText := true, laidKinds := [.data], laidTests := true, laidLooks := .later }
def RankPartsCardSaid : Prop := Claim7.holds Tryz.pinned (.plain (OpenSpec.ofChange rankPartsSpec)) rankPartsCard

/-- THE TIED CARD OF 'pantilelaw11.NearTo'. -/
def nearToCard : Claim7 := { stood := { row := nearToRow, standIns := [], harness := (true, "6c8673e072ae325afe7e862caa1b8edec1beeb7ed1a22646fac5e587682812ef"), looks := true }, kinds := [], alts := [], laidByText := true, laidKinds := [.data], laidTests := true, laidLooks := .later }
def NearToCardSaid : Prop := Claim7.holds Tryz.pinned (.plain (OpenSpec.ofChange nearToSpec)) nearToCard

/-- THE TIED CARD OF 'pantilelaw11.NearWithin'. -/
def nearWithinCard : Claim7 := { stood := { row := nearWithinRow, standIns := [], harness := (true, "6c8673e072ae325afe7e862caa1b8edec1beeb7ed1a22646fac5e587682812ef"), looks := true }, kinds := [], alts := [], laidByText := true, laidKinds := [.data], laidTests := true, laidLooks := .later }
def NearWithinCardSaid : Prop := Claim7.holds Tryz.pinned (.plain (OpenSpec.ofChange nearWithinSpec)) nearWithinCard

/-- THE TIED CARD OF 'pantilelaw12.DiffChanges'. -/
def diffChangesCard : Claim7 := { stood := { row := diffChangesRow, standIns := [], harness := (true, "6c8673e072ae325afe7e862caa1b8edec1beeb7ed1a22646fac5e587682812ef"), looks := true }, kinds := [], alts := [], laidByText := true, laidKinds := [.data], laidTests := true, laidLooks := .later }
def DiffChangesCardSaid : Prop := Claim7.holds Tryz.pinned (.plain (OpenSpec.ofChange diffChangesSpec)) diffChangesCard

/-- THE TIED CARD OF 'pantilelaw12.DiffApart'. -/
def diffApartCard : Claim7 := { stood := { row := diffApartRow, standIns := [], harness := (true, "6c8673e072ae325afe7e862caa1b8edec1beeb7ed1a22646fac5e587682812ef"), looks := true }, kinds := [], alts := [], laidByText := true, laidKinds := [.data], laidTests := true, laidLooks := .later }
def DiffApartCardSaid : Prop := Claim7.holds Tryz.pinned (.plain (OpenSpec.ofChange diffApartSpec)) diffApartCard

/-- THE TIED CARD OF 'pantilelaw12.DiffChain'. -/
def diffChainCard : Claim7 := { stood := { row := diffChainRow, standIns := [], harness := (true, "6c8673e072ae325afe7e862caa1b8edec1beeb7ed1a22646fac5e587682812ef"), looks := true }, kinds := [], alts := [], laidByText := true, laidKinds := [.data], laidTests := true, laidLooks := .later }
def DiffChainCardSaid : Prop := Claim7.holds Tryz.pinned (.plain (OpenSpec.ofChange diffChainSpec)) diffChainCard

/-- THE SECOND FORM's CARD OF 'pantilelaw09.WindowParts'. -/
def windowPartsUptoCard : Claim7 := { stood := { row := windowPartsUptoRow, standIns := [], harness := (true, "6c8673e072ae325afe7e862caa1b8edec1beeb7ed1a22646fac5e587682812ef"), looks := true }, kinds := [], alts := [], laidByText := true, laidKinds := [.data], laidTests := true, laidLooks := .later }
def WindowPartsUptoCardSaid : Prop := Claim7.holds Tryz.pinned (.plain (OpenSpec.upto windowPartsSpec)) windowPartsUptoCard

/-- THE SECOND FORM's CARD OF 'pantilelaw10.RankParts'. -/
def rankPartsUptoCard : Claim7 := { stood := { row := rankPartsUptoRow, standIns := [], harness := (true, "6c8673e072ae325afe7e862caa1b8edec1beeb7ed1a22646fac5e587682812ef"), looks := true }, kinds := [], alts := [], laidByText := true, laidKinds := [.data], laidTests := true, laidLooks := .later }
def RankPartsUptoCardSaid : Prop := Claim7.holds Tryz.pinned (.plain (OpenSpec.upto rankPartsSpec)) rankPartsUptoCard

/-- THE SECOND FORM's CARD OF 'pantilelaw11.NearTo'. -/
def nearToUptoCard : Claim7 := { stood := { row := nearToUptoRow, standIns := [], harness := (true, "6c8673e072ae325afe7e862caa1b8edec1beeb7ed1a22646fac5e587682812ef"), looks := true }, kinds := [], alts := [], laidByText := true, laidKinds := [.data], laidTests := true, laidLooks := .later }
def NearToUptoCardSaid : Prop := Claim7.holds Tryz.pinned (.plain (OpenSpec.upto nearToSpec)) nearToUptoCard

/-- THE SECOND FORM's CARD OF 'pantilelaw11.NearWithin'. -/
def nearWithinUptoCard : Claim7 := { stood := { row := nearWithinUptoRow, standIns := [], harness := (true, "6c8673e072ae325afe7e862caa1b8edec1beeb7ed1a22646fac5e587682812ef"), looks := true }, kinds := [], alts := [], laidByText := true, laidKinds := [.data], laidTests := true, laidLooks := .later }
def NearWithinUptoCardSaid : Prop := Claim7.holds Tryz.pinned (.plain (OpenSpec.upto nearWithinSpec)) nearWithinUptoCard

/-- THE SECOND FORM's CARD OF 'pantilelaw12.DiffChanges'. -/
def diffChangesUptoCard : Claim7 := { stood := { row := diffChangesUptoRow, standIns := [], harness := (true, "6c8673e072ae325afe7e862caa1b8edec1beeb7ed1a22646fac5e587682812ef"), looks := true }, kinds := [], alts := [], laidByText := true, laidKinds := [.data], laidTests := true, laidLooks := .later }
def DiffChangesUptoCardSaid : Prop := Claim7.holds Tryz.pinned (.plain (OpenSpec.upto diffChangesSpec)) diffChangesUptoCard

/-- THE SECOND FORM's CARD OF 'pantilelaw12.DiffApart'. -/
def diffApartUptoCard : Claim7 := { stood := { row := diffApartUptoRow, standIns := [], harness := (true, "6c8673e072ae325afe7e862caa1b8edec1beeb7ed1a22646fac5e587682812ef"), looks := true }, kinds := [], alts := [], laidByText := true, laidKinds := [.data], laidTests := true, laidLooks := .later }
def DiffApartUptoCardSaid : Prop := Claim7.holds Tryz.pinned (.plain (OpenSpec.upto diffApartSpec)) diffApartUptoCard

/-- THE SECOND FORM's CARD OF 'pantilelaw12.DiffChain'. -/
def diffChainUptoCard : Claim7 := { stood := { row := diffChainUptoRow, standIns := [], harness := (true, "6c8673e072ae325afe7e862caa1b8edec1beeb7ed1a22646fac5e587682812ef"), looks := true }, kinds := [], alts := [], laidByText := true, laidKinds := [.data], laidTests := true, laidLooks := .later }
def DiffChainUptoCardSaid : Prop := Claim7.holds Tryz.pinned (.plain (OpenSpec.upto diffChainSpec)) diffChainUptoCard
end Rows
end Go.Proofs.YtjcmehplcagejaaGreatDoor
