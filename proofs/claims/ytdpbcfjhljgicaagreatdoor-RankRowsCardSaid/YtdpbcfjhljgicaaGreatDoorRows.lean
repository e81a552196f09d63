/-
  NARROWER THAN 'FOR EVERY INPUT', by the rows' own cells (each row's printed sentence says how): WindowFinds: laid · WindowParts: laid · WindowNil: laid · WindowHalves: laid · RankOf: laid · RankParts: laid · RankJoins: laid · RankNil: laid · RankRows: laid.
  DERIVED. THE GIVEN ROWS OF THIS SEAT. 9 by the template 'for every input the law returns true; each argument reads behind the call as it read before'; 0 by the template 'total and deterministic' (their statements: YtdpbcfjhljgicaaGreatDoorTotals.lean).
  GIVEN WITH THE SEED: the statements are not yours to turn. If you find one false, say at which input.
  Laid BY PROGRAM, IN A SANDBOX (cutbox-rows.mjs): the forced cells as the released guide's own fill.sh prints them over the translation ffa3a138efd9860e… (all of the seat's roots in one cut). By AI agents, Wed Nov 11 2026. No macro, syntax, notation, axiom, sorry.
-/
import Derived.Test.YtdpbcfjhljgicaaGreatDoorChecked
import GoSem.Claim
import GoSem.ClaimJoined
import GoSem.ClaimMapViews
import Derived.JoinedTies
import Derived.KernelRfl
namespace Go.Proofs.YtdpbcfjhljgicaaGreatDoor
/- THE CELL 'sum', in the pinned program and in every row, IS THE sha256 OF THE DUMP (.gsa) THAT YtdpbcfjhljgicaaGreatDoorProg.lean LOADS. Nothing in Lean hashes anything: it is a label: what it is worth is what the hold of that sum in a sandbox is worth. -/
noncomputable def Tryz.pinned : Pinned := { name := "ytdpbcfjhljgicaagreatdoor", sum := "ffa3a138efd9860e35b0d1aa65047ac6c04fead5f2508a6d8c2b9686239c9781", checked := Tryz.checked }
namespace Rows
def none {H : Type} : Left H := { results := [], args := [] }

/- WHAT THE LISTED PACKAGE-LEVEL VARIABLES READ AS WHEN THE CALL BEGINS. Each datum BY PROGRAM (the guide's laid-datum.mjs) off the statement by which the dump's own 'gosem.cut.vars' lays the variable. In a bare row this is a premise. The card (YtdpbcfjhljgicaaGreatDoorCards.lean) ties it to the program's text. -/
def laid_math_bits_deBruijn64tab {H : Type} : DataW H := .agg [.lit (.int .u8 0), .lit (.int .u8 1), .lit (.int .u8 56), .lit (.int .u8 2), .lit (.int .u8 57), .lit (.int .u8 49), .lit (.int .u8 28), .lit (.int .u8 3), .lit (.int .u8 61), .lit (.int .u8 58), .lit (.int .u8 42), .lit (.int .u8 50), .lit (.int .u8 38), .lit (.int .u8 29), .lit (.int .u8 17), .lit (.int .u8 4), .lit (.int .u8 62), .lit (.int .u8 47), .lit (.int .u8 59), .lit (.int .u8 36), .lit (.int .u8 45), .lit (.int .u8 43), .lit (.int .u8 51), .lit (.int .u8 22), .lit (.int .u8 53), .lit (.int .u8 39), .lit (.int .u8 33), .lit (.int .u8 30), .lit (.int .u8 24), .lit (.int .u8 18), .lit (.int .u8 12), .lit (.int .u8 5), .lit (.int .u8 63), .lit (.int .u8 55), .lit (.int .u8 48), .lit (.int .u8 27), .lit (.int .u8 60), .lit (.int .u8 41), .lit (.int .u8 37), .lit (.int .u8 16), .lit (.int .u8 46), .lit (.int .u8 35), .lit (.int .u8 44), .lit (.int .u8 21), .lit (.int .u8 52), .lit (.int .u8 32), .lit (.int .u8 23), .lit (.int .u8 11), .lit (.int .u8 54), .lit (.int .u8 26), .lit (.int .u8 40), .lit (.int .u8 15), .lit (.int .u8 34), .lit (.int .u8 20), .lit (.int .u8 31), .lit (.int .u8 10), .lit (.int .u8 25), .lit (.int .u8 14), .lit (.int .u8 19), .lit (.int .u8 9), .lit (.int .u8 13), .lit (.int .u8 8), .lit (.int .u8 7), .lit (.int .u8 6)]

/-- 'pantilelaw09.WindowFinds': WHATEVER THE INPUT: true; the input reads as it did. -/
def windowFindsSpec : ChangeSpec := { name := "windowFinds", fn := fun _ => fun
  | [d1, d2, d3, d4] => { results := [.lit (.bool true)], args := [d1, d2, d3, d4] }
  | _ => none }
def windowFindsRow : OpenClaim := { program := "ytdpbcfjhljgicaagreatdoor", sum := "ffa3a138efd9860e35b0d1aa65047ac6c04fead5f2508a6d8c2b9686239c9781", func := "pantile/pantilelaw09.WindowFinds", spec := "windowFinds", unfollowed := true, recurses := true, named := ["math/bits.deBruijn64tab"], apart := false, laid := [("math/bits.deBruijn64tab", laid_math_bits_deBruijn64tab)] }
def WindowFindsSaid : Prop := windowFindsRow.holds Tryz.pinned (OpenSpec.ofChange windowFindsSpec)

/-- ITS FALSE NEIGHBOUR: 'it returns false'. Refute it at one input. -/
def windowFindsWrong : ChangeSpec := { name := "windowFinds", fn := fun _ => fun
  | [d1, d2, d3, d4] => { results := [.lit (.bool false)], args := [d1, d2, d3, d4] }
  | _ => none }
def WindowFindsWrongFalsely : Prop := windowFindsRow.holds Tryz.pinned (OpenSpec.ofChange windowFindsWrong)

/-- 'pantilelaw09.WindowParts': WHATEVER THE INPUT: true; the input reads as it did. -/
def windowPartsSpec : ChangeSpec := { name := "windowParts", fn := fun _ => fun
  | [d1, d2, d3] => { results := [.lit (.bool true)], args := [d1, d2, d3] }
  | _ => none }
def windowPartsRow : OpenClaim := { program := "ytdpbcfjhljgicaagreatdoor", sum := "ffa3a138efd9860e35b0d1aa65047ac6c04fead5f2508a6d8c2b9686239c9781", func := "pantile/pantilelaw09.WindowParts", spec := "windowParts", unfollowed := true, recurses := true, named := ["math/bits.deBruijn64tab"], apart := false, laid := [("math/bits.deBruijn64tab", laid_math_bits_deBruijn64tab)] }
def WindowPartsSaid : Prop := windowPartsRow.holds Tryz.pinned (OpenSpec.ofChange windowPartsSpec)

/-- ITS FALSE NEIGHBOUR: 'it returns false'. Refute it at one input. -/
def windowPartsWrong : ChangeSpec := { name := "windowParts", fn := fun _ => fun
  | [d1, d2, d3] => { results := [.lit (.bool false)], args := [d1, d2, d3] }
  | _ => none }
def WindowPartsWrongFalsely : Prop := windowPartsRow.holds Tryz.pinned (OpenSpec.ofChange windowPartsWrong)

/-- 'pantilelaw09.WindowNil': WHATEVER THE INPUT: true; the input reads as it did. -/
def windowNilSpec : ChangeSpec := { name := "windowNil", fn := fun _ => fun
  | [d1, d2] => { results := [.lit (.bool true)], args := [d1, d2] }
  | _ => none }
def windowNilRow : OpenClaim := { program := "ytdpbcfjhljgicaagreatdoor", sum := "ffa3a138efd9860e35b0d1aa65047ac6c04fead5f2508a6d8c2b9686239c9781", func := "pantile/pantilelaw09.WindowNil", spec := "windowNil", unfollowed := true, recurses := true, named := ["math/bits.deBruijn64tab"], apart := false, laid := [("math/bits.deBruijn64tab", laid_math_bits_deBruijn64tab)] }
def WindowNilSaid : Prop := windowNilRow.holds Tryz.pinned (OpenSpec.ofChange windowNilSpec)

/-- ITS FALSE NEIGHBOUR: 'it returns false'. Refute it at one input. -/
def windowNilWrong : ChangeSpec := { name := "windowNil", fn := fun _ => fun
  | [d1, d2] => { results := [.lit (.bool false)], args := [d1, d2] }
  | _ => none }
def WindowNilWrongFalsely : Prop := windowNilRow.holds Tryz.pinned (OpenSpec.ofChange windowNilWrong)

/-- 'pantilelaw09.WindowHalves': WHATEVER THE INPUT: true; the input reads as it did. -/
def windowHalvesSpec : ChangeSpec := { name := "windowHalves", fn := fun _ => fun
  | [d1, d2, d3, d4, d5] => { results := [.lit (.bool true)], args := [d1, d2, d3, d4, d5] }
  | _ => none }
def windowHalvesRow : OpenClaim := { program := "ytdpbcfjhljgicaagreatdoor", sum := "ffa3a138efd9860e35b0d1aa65047ac6c04fead5f2508a6d8c2b9686239c9781", func := "pantile/pantilelaw09.WindowHalves", spec := "windowHalves", unfollowed := true, recurses := true, named := ["math/bits.deBruijn64tab"], apart := false, laid := [("math/bits.deBruijn64tab", laid_math_bits_deBruijn64tab)] }
def WindowHalvesSaid : Prop := windowHalvesRow.holds Tryz.pinned (OpenSpec.ofChange windowHalvesSpec)

/-- ITS FALSE NEIGHBOUR: 'it returns false'. Refute it at one input. -/
def windowHalvesWrong : ChangeSpec := { name := "windowHalves", fn := fun _ => fun
  | [d1, d2, d3, d4, d5] => { results := [.lit (.bool false)], args := [d1, d2, d3, d4, d5] }
  | _ => none }
def WindowHalvesWrongFalsely : Prop := windowHalvesRow.holds Tryz.pinned (OpenSpec.ofChange windowHalvesWrong)

/-- 'pantilelaw10.RankOf': WHATEVER THE INPUT: true; the input reads as it did. -/
def rankOfSpec : ChangeSpec := { name := "rankOf", fn := fun _ => fun
  | [d1, d2, d3, d4, d5] => { results := [.lit (.bool true)], args := [d1, d2, d3, d4, d5] }
  | _ => none }
def rankOfRow : OpenClaim := { program := "ytdpbcfjhljgicaagreatdoor", sum := "ffa3a138efd9860e35b0d1aa65047ac6c04fead5f2508a6d8c2b9686239c9781", func := "pantile/pantilelaw10.RankOf", spec := "rankOf", unfollowed := true, recurses := true, named := ["math/bits.deBruijn64tab"], apart := false, laid := [("math/bits.deBruijn64tab", laid_math_bits_deBruijn64tab)] }
def RankOfSaid : Prop := rankOfRow.holds Tryz.pinned (OpenSpec.ofChange rankOfSpec)

/-- ITS FALSE NEIGHBOUR: 'it returns false'. Refute it at one input. -/
def rankOfWrong : ChangeSpec := { name := "rankOf", fn := fun _ => fun
  | [d1, d2, d3, d4, d5] => { results := [.lit (.bool false)], args := [d1, d2, d3, d4, d5] }
  | _ => none }
def RankOfWrongFalsely : Prop := rankOfRow.holds Tryz.pinned (OpenSpec.ofChange rankOfWrong)

/-- 'pantilelaw10.RankParts': WHATEVER THE INPUT: true; the input reads as it did. -/
def rankPartsSpec : ChangeSpec := { name := "rankParts", fn := fun _ => fun
  | [d1, d2, d3] => { results := [.lit (.bool true)], args := [d1, d2, d3] }
  | _ => none }
def rankPartsRow : OpenClaim := { program := "ytdpbcfjhljgicaagreatdoor", sum := "ffa3a138efd9860e35b0d1aa65047ac6c04fead5f2508a6d8c2b9686239c9781", func := "pantile/pantilelaw10.RankParts", spec := "rankParts", unfollowed := true, recurses := true, named := ["math/bits.deBruijn64tab"], apart := false, laid := [("math/bits.deBruijn64tab", laid_math_bits_deBruijn64tab)] }
def RankPartsSaid : Prop := rankPartsRow.holds Tryz.pinned (OpenSpec.ofChange rankPartsSpec)

/-- ITS FALSE NEIGHBOUR: 'it returns false'. Refute it at one input. -/
def rankPartsWrong : ChangeSpec := { name := "rankParts", fn := fun _ => fun
  | [d1, d2, d3] => { results := [.lit (.bool false)], args := [d1, d2, d3] }
  | _ => none }
def RankPartsWrongFalsely : Prop := rankPartsRow.holds Tryz.pinned (OpenSpec.ofChange rankPartsWrong)

/-- 'pantilelaw10.RankJoins': WHATEVER THE INPUT: true; the input reads as it did. -/
def rankJoinsSpec : ChangeSpec := { name := "rankJoins", fn := fun _ => fun
  | [d1, d2, d3, d4] => { results := [.lit (.bool true)], args := [d1, d2, d3, d4] }
  | _ => none }
def rankJoinsRow : OpenClaim := { program := "ytdpbcfjhljgicaagreatdoor", sum := "ffa3a138efd9860e35b0d1aa65047ac6c04fead5f2508a6d8c2b9686239c9781", func := "pantile/pantilelaw10.RankJoins", spec := "rankJoins", unfollowed := true, recurses := true, named := ["math/bits.deBruijn64tab"], apart := false, laid := [("math/bits.deBruijn64tab", laid_math_bits_deBruijn64tab)] }
def RankJoinsSaid : Prop := rankJoinsRow.holds Tryz.pinned (OpenSpec.ofChange rankJoinsSpec)

/-- ITS FALSE NEIGHBOUR: 'it returns false'. Refute it at one input. -/
def rankJoinsWrong : ChangeSpec := { name := "rankJoins", fn := fun _ => fun
  | [d1, d2, d3, d4] => { results := [.lit (.bool false)], args := [d1, d2, d3, d4] }
  | _ => none }
def RankJoinsWrongFalsely : Prop := rankJoinsRow.holds Tryz.pinned (OpenSpec.ofChange rankJoinsWrong)

/-- 'pantilelaw10.RankNil': WHATEVER THE INPUT: true; the input reads as it did. -/
def rankNilSpec : ChangeSpec := { name := "rankNil", fn := fun _ => fun
  | [d1, d2, d3] => { results := [.lit (.bool true)], args := [d1, d2, d3] }
  | _ => none }
def rankNilRow : OpenClaim := { program := "ytdpbcfjhljgicaagreatdoor", sum := "ffa3a138efd9860e35b0d1aa65047ac6c04fead5f2508a6d8c2b9686239c9781", func := "pantile/pantilelaw10.RankNil", spec := "rankNil", unfollowed := true, recurses := true, named := ["math/bits.deBruijn64tab"], apart := false, laid := [("math/bits.deBruijn64tab", laid_math_bits_deBruijn64tab)] }
def RankNilSaid : Prop := rankNilRow.holds Tryz.pinned (OpenSpec.ofChange rankNilSpec)

/-- ITS FALSE NEIGHBOUR: 'it returns false'. Refute it at one input. -/
def rankNilWrong : ChangeSpec := { name := "rankNil", fn := fun _ => fun
  | [d1, d2, d3] => { results := [.lit (.bool false)], args := [d1, d2, d3] }
  | _ => none }
def RankNilWrongFalsely : Prop := rankNilRow.holds Tryz.pinned (OpenSpec.ofChange rankNilWrong)

/-- 'pantilelaw10.RankRows': WHATEVER THE INPUT: true; the input reads as it did. -/
def rankRowsSpec : ChangeSpec := { name := "rankRows", fn := fun _ => fun
  | [d1, d2, d3] => { results := [.lit (.bool true)], args := [d1, d2, d3] }
  | _ => none }
def rankRowsRow : OpenClaim := { program := "ytdpbcfjhljgicaagreatdoor", sum := "ffa3a138efd9860e35b0d1aa65047ac6c04fead5f2508a6d8c2b9686239c9781", func := "pantile/pantilelaw10.RankRows", spec := "rankRows", unfollowed := true, recurses := true, named := ["math/bits.deBruijn64tab"], apart := false, laid := [("math/bits.deBruijn64tab", laid_math_bits_deBruijn64tab)] }
def RankRowsSaid : Prop := rankRowsRow.holds Tryz.pinned (OpenSpec.ofChange rankRowsSpec)

/-- ITS FALSE NEIGHBOUR: 'it returns false'. Refute it at one input. -/
def rankRowsWrong : ChangeSpec := { name := "rankRows", fn := fun _ => fun
  | [d1, d2, d3] => { results := [.lit (.bool false)], args := [d1, d2, d3] }
  | _ => none }
def RankRowsWrongFalsely : Prop := rankRowsRow.holds Tryz.pinned (OpenSpec.ofChange rankRowsWrong)

/- THE SECOND FORM. 'bulk': how many values and letters a reading holds, each counted each time it is reached (what is shared counts as often as it is met; a slice's spare places count too). A statement '..UptoSaid' is the law's where the arguments, and the package variables that the reading takes, are together of bulk at most 1048576: NARROWER than '..Said'. Prove '..Said' where nothing that the law and all that it calls make is longer than what came in: it says more and counts as full. Else prove '..UptoSaid'. A law counts once. -/
mutual
def uptoBulk {H : Type} : DataW H → Nat
  | .lit (.string bytes) => bytes.length + 1
  | .lit _ => 1
  | .nil => 1
  | .ptr d => uptoBulk d + 1
  | .slice elems spare => uptoBulkAll elems + uptoBulkAll spare + 1
  | .agg parts => uptoBulkAll parts + 1
  | .iface _ d => uptoBulk d + 1
  | .map entries => uptoBulkEntries entries + 1
  | .held _ => 1
def uptoBulkAll {H : Type} : List (DataW H) → Nat
  | [] => 0
  | d :: r => uptoBulk d + uptoBulkAll r
def uptoBulkEntries {H : Type} : List (Lit × DataW H) → Nat
  | [] => 0
  | x :: r => uptoBulkEntry x + uptoBulkEntries r
def uptoBulkEntry {H : Type} : Lit × DataW H → Nat
  | (.string bytes, d) => bytes.length + uptoBulk d + 1
  | (_, d) => uptoBulk d + 1
 end
def uptoSmall : (H : Type) → List (DataW H) → Bool := fun _ ds => decide (uptoBulkAll ds ≤ 1048576)
def OpenSpec.upto (s : _root_.Go.ChangeSpec) : _root_.Go.OpenSpec := { _root_.Go.OpenSpec.ofChange s with cond := some uptoSmall }

/-- 'pantilelaw09.WindowFinds', WHERE WHAT IT READS IS OF BULK AT MOST 1048576: true; the input reads as it did. -/
def windowFindsUptoRow : OpenClaim := { program := "ytdpbcfjhljgicaagreatdoor", sum := "ffa3a138efd9860e35b0d1aa65047ac6c04fead5f2508a6d8c2b9686239c9781", func := "pantile/pantilelaw09.WindowFinds", spec := "windowFinds", unfollowed := true, recurses := true, named := ["math/bits.deBruijn64tab"], apart := false, laid := [("math/bits.deBruijn64tab", laid_math_bits_deBruijn64tab)], narrowed := true }
def WindowFindsUptoSaid : Prop := windowFindsUptoRow.holds Tryz.pinned (OpenSpec.upto windowFindsSpec)

/-- 'pantilelaw09.WindowParts', WHERE WHAT IT READS IS OF BULK AT MOST 1048576: true; the input reads as it did. -/
def windowPartsUptoRow : OpenClaim := { program := "ytdpbcfjhljgicaagreatdoor", sum := "ffa3a138efd9860e35b0d1aa65047ac6c04fead5f2508a6d8c2b9686239c9781", func := "pantile/pantilelaw09.WindowParts", spec := "windowParts", unfollowed := true, recurses := true, named := ["math/bits.deBruijn64tab"], apart := false, laid := [("math/bits.deBruijn64tab", laid_math_bits_deBruijn64tab)], narrowed := true }
def WindowPartsUptoSaid : Prop := windowPartsUptoRow.holds Tryz.pinned (OpenSpec.upto windowPartsSpec)

/-- 'pantilelaw09.WindowNil', WHERE WHAT IT READS IS OF BULK AT MOST 1048576: true; the input reads as it did. -/
def windowNilUptoRow : OpenClaim := { program := "ytdpbcfjhljgicaagreatdoor", sum := "ffa3a138efd9860e35b0d1aa65047ac6c04fead5f2508a6d8c2b9686239c9781", func := "pantile/pantilelaw09.WindowNil", spec := "windowNil", unfollowed := true, recurses := true, named := ["math/bits.deBruijn64tab"], apart := false, laid := [("math/bits.deBruijn64tab", laid_math_bits_deBruijn64tab)], narrowed := true }
def WindowNilUptoSaid : Prop := windowNilUptoRow.holds Tryz.pinned (OpenSpec.upto windowNilSpec)

/-- 'pantilelaw09.WindowHalves', WHERE WHAT IT READS IS OF BULK AT MOST 1048576: true; the input reads as it did. -/
def windowHalvesUptoRow : OpenClaim := { program := "ytdpbcfjhljgicaagreatdoor", sum := "ffa3a138efd9860e35b0d1aa65047ac6c04fead5f2508a6d8c2b9686239c9781", func := "pantile/pantilelaw09.WindowHalves", spec := "windowHalves", unfollowed := true, recurses := true, named := ["math/bits.deBruijn64tab"], apart := false, laid := [("math/bits.deBruijn64tab", laid_math_bits_deBruijn64tab)], narrowed := true }
def WindowHalvesUptoSaid : Prop := windowHalvesUptoRow.holds Tryz.pinned (OpenSpec.upto windowHalvesSpec)

/-- 'pantilelaw10.RankOf', WHERE WHAT IT READS IS OF BULK AT MOST 1048576: true; the input reads as it did. -/
def rankOfUptoRow : OpenClaim := { program := "ytdpbcfjhljgicaagreatdoor", sum := "ffa3a138efd9860e35b0d1aa65047ac6c04fead5f2508a6d8c2b9686239c9781", func := "pantile/pantilelaw10.RankOf", spec := "rankOf", unfollowed := true, recurses := true, named := ["math/bits.deBruijn64tab"], apart := false, laid := [("math/bits.deBruijn64tab", laid_math_bits_deBruijn64tab)], narrowed := true }
def RankOfUptoSaid : Prop := rankOfUptoRow.holds Tryz.pinned (OpenSpec.upto rankOfSpec)

/-- 'pantilelaw10.RankParts', WHERE WHAT IT READS IS OF BULK AT MOST 1048576: true; the input reads as it did. -/
def rankPartsUptoRow : OpenClaim := { program := "ytdpbcfjhljgicaagreatdoor", sum := "ffa3a138efd9860e35b0d1aa65047ac6c04fead5f2508a6d8c2b9686239c9781", func := "pantile/pantilelaw10.RankParts", spec := "rankParts", unfollowed := true, recurses := true, named := ["math/bits.deBruijn64tab"], apart := false, laid := [("math/bits.deBruijn64tab", laid_math_bits_deBruijn64tab)], narrowed := true }
def RankPartsUptoSaid : Prop := rankPartsUptoRow.holds Tryz.pinned (OpenSpec.upto rankPartsSpec)

/-- 'pantilelaw10.RankJoins', WHERE WHAT IT READS IS OF BULK AT MOST 1048576: true; the input reads as it did. -/
def rankJoinsUptoRow : OpenClaim := { program := "ytdpbcfjhljgicaagreatdoor", sum := "ffa3a138efd9860e35b0d1aa65047ac6c04fead5f2508a6d8c2b9686239c9781", func := "pantile/pantilelaw10.RankJoins", spec := "rankJoins", unfollowed := true, recurses := true, named := ["math/bits.deBruijn64tab"], apart := false, laid := [("math/bits.deBruijn64tab", laid_math_bits_deBruijn64tab)], narrowed := true }
def RankJoinsUptoSaid : Prop := rankJoinsUptoRow.holds Tryz.pinned (OpenSpec.upto rankJoinsSpec)

/-- 'pantilelaw10.RankNil', WHERE WHAT IT READS IS OF BULK AT MOST 1048576: true; the input reads as it did. -/
def rankNilUptoRow : OpenClaim := { program := "ytdpbcfjhljgicaagreatdoor", sum := "ffa3a138efd9860e35b0d1aa65047ac6c04fead5f2508a6d8c2b9686239c9781", func := "pantile/pantilelaw10.RankNil", spec := "rankNil", unfollowed := true, recurses := true, named := ["math/bits.deBruijn64tab"], apart := false, laid := [("math/bits.deBruijn64tab", laid_math_bits_deBruijn64tab)], narrowed := true }
def RankNilUptoSaid : Prop := rankNilUptoRow.holds Tryz.pinned (OpenSpec.upto rankNilSpec)

/-- 'pantilelaw10.RankRows', WHERE WHAT IT READS IS OF BULK AT MOST 1048576: true; the input reads as it did. -/
def rankRowsUptoRow : OpenClaim := { program := "ytdpbcfjhljgicaagreatdoor", sum := "ffa3a138efd9860e35b0d1aa65047ac6c04fead5f2508a6d8c2b9686239c9781", func := "pantile/pantilelaw10.RankRows", spec := "rankRows", unfollowed := true, recurses := true, named := ["math/bits.deBruijn64tab"], apart := false, laid := [("math/bits.deBruijn64tab", laid_math_bits_deBruijn64tab)], narrowed := true }
def RankRowsUptoSaid : Prop := rankRowsUptoRow.holds Tryz.pinned (OpenSpec.upto rankRowsSpec)

end Rows
end Go.Proofs.YtdpbcfjhljgicaaGreatDoor
