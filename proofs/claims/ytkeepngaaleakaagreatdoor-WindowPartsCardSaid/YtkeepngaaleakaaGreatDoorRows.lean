/-
  NARROWER THAN 'FOR EVERY INPUT', by the rows' own cells (each row's printed sentence says how): WindowParts: laid · SetsJoin: laid · SetsAsk: laid · SetsLaws: laid · SetsNil: laid · BulkMakes: laid · BulkDels: laid · BulkMaps: laid · BulkTurns: laid · BulkNil: laid.
  DERIVED. THE GIVEN ROWS OF THIS SEAT. 10 by the template 'for every input the law returns true; each argument reads behind the call as it read before'; 0 by the template 'total and deterministic' (their statements: YtkeepngaaleakaaGreatDoorTotals.lean).
  GIVEN WITH THE SEED: the statements are not yours to turn. If you find one false, say at which input.
  Laid BY PROGRAM, IN A SANDBOX (cutbox-rows.mjs): the forced cells as the released guide's own fill.sh prints them over the translation b2db0f7d4b4644a5… (all of the seat's roots in one cut). By AI agents, Wed Nov 11 2026. No macro, syntax, notation, axiom, sorry.
-/
import Derived.Test.YtkeepngaaleakaaGreatDoorChecked
import GoSem.Claim
import GoSem.ClaimJoined
import GoSem.ClaimMapViews
import Derived.JoinedTies
import Derived.KernelRfl
namespace Go.Proofs.YtkeepngaaleakaaGreatDoor
/- THE CELL 'sum', in the pinned program and in every row, IS THE sha256 OF THE DUMP (.gsa) THAT YtkeepngaaleakaaGreatDoorProg.lean LOADS. Nothing in Lean hashes anything: it is a label: what it is worth is what the hold of that sum in a sandbox is worth. -/
noncomputable def Tryz.pinned : Pinned := { name := "ytkeepngaaleakaagreatdoor", sum := "b2db0f7d4b4644a516d3765275721fca00347a314bc1b7226de2d2185a79414c", checked := Tryz.checked }
namespace Rows
def none {H : Type} : Left H := { results := [], args := [] }

/- WHAT THE LISTED PACKAGE-LEVEL VARIABLES READ AS WHEN THE CALL BEGINS. Each datum BY PROGRAM (the guide's laid-datum.mjs) off the statement by which the dump's own 'gosem.cut.vars' lays the variable. In a bare row this is a premise. The card (YtkeepngaaleakaaGreatDoorCards.lean) ties it to the program's text. -/
def laid_math_bits_deBruijn64tab {H : Type} : DataW H := .agg [.lit (.int .u8 0), .lit (.int .u8 1), .lit (.int .u8 56), .lit (.int .u8 2), .lit (.int .u8 57), .lit (.int .u8 49), .lit (.int .u8 28), .lit (.int .u8 3), .lit (.int .u8 61), .lit (.int .u8 58), .lit (.int .u8 42), .lit (.int .u8 50), .lit (.int .u8 38), .lit (.int .u8 29), .lit (.int .u8 17), .lit (.int .u8 4), .lit (.int .u8 62), .lit (.int .u8 47), .lit (.int .u8 59), .lit (.int .u8 36), .lit (.int .u8 45), .lit (.int .u8 43), .lit (.int .u8 51), .lit (.int .u8 22), .lit (.int .u8 53), .lit (.int .u8 39), .lit (.int .u8 33), .lit (.int .u8 30), .lit (.int .u8 24), .lit (.int .u8 18), .lit (.int .u8 12), .lit (.int .u8 5), .lit (.int .u8 63), .lit (.int .u8 55), .lit (.int .u8 48), .lit (.int .u8 27), .lit (.int .u8 60), .lit (.int .u8 41), .lit (.int .u8 37), .lit (.int .u8 16), .lit (.int .u8 46), .lit (.int .u8 35), .lit (.int .u8 44), .lit (.int .u8 21), .lit (.int .u8 52), .lit (.int .u8 32), .lit (.int .u8 23), .lit (.int .u8 11), .lit (.int .u8 54), .lit (.int .u8 26), .lit (.int .u8 40), .lit (.int .u8 15), .lit (.int .u8 34), .lit (.int .u8 20), .lit (.int .u8 31), .lit (.int .u8 10), .lit (.int .u8 25), .lit (.int .u8 14), .lit (.int .u8 19), .lit (.int .u8 9), .lit (.int .u8 13), .lit (.int .u8 8), .lit (.int .u8 7), .lit (.int .u8 6)]

/-- 'pantilelaw09.WindowParts': WHATEVER THE INPUT: true; the input reads as it did. -/
def windowPartsSpec : ChangeSpec := { name := "windowParts", fn := fun _ => fun
  | [d1, d2, d3] => { results := [.lit (.bool true)], args := [d1, d2, d3] }
  | _ => none }
def windowPartsRow : OpenClaim := { program := "ytkeepngaaleakaagreatdoor", sum := "b2db0f7d4b4644a516d3765275721fca00347a314bc1b7226de2d2185a79414c", func := "pantile/pantilelaw09.WindowParts", spec := "windowParts", unfollowed := true, recurses := true, named := ["math/bits.deBruijn64tab"], apart := false, laid := [("math/bits.deBruijn64tab", laid_math_bits_deBruijn64tab)] }
def WindowPartsSaid : Prop := windowPartsRow.holds Tryz.pinned (OpenSpec.ofChange windowPartsSpec)

/-- ITS FALSE NEIGHBOUR: 'it returns false'. Refute it at one input. -/
def windowPartsWrong : ChangeSpec := { name := "windowParts", fn := fun _ => fun
  | [d1, d2, d3] => { results := [.lit (.bool false)], args := [d1, d2, d3] }
  | _ => none }
def WindowPartsWrongFalsely : Prop := windowPartsRow.holds Tryz.pinned (OpenSpec.ofChange windowPartsWrong)

/-- 'pantilelaw15.SetsJoin': WHATEVER THE INPUT: true; the input reads as it did. -/
def setsJoinSpec : ChangeSpec := { name := "setsJoin", fn := fun _ => fun
  | [d1, d2, d3, d4, d5] => { results := [.lit (.bool true)], args := [d1, d2, d3, d4, d5] }
  | _ => none }
def setsJoinRow : OpenClaim := { program := "ytkeepngaaleakaagreatdoor", sum := "b2db0f7d4b4644a516d3765275721fca00347a314bc1b7226de2d2185a79414c", func := "pantile/pantilelaw15.SetsJoin", spec := "setsJoin", unfollowed := true, recurses := true, named := ["math/bits.deBruijn64tab"], apart := false, laid := [("math/bits.deBruijn64tab", laid_math_bits_deBruijn64tab)] }
def SetsJoinSaid : Prop := setsJoinRow.holds Tryz.pinned (OpenSpec.ofChange setsJoinSpec)

/-- ITS FALSE NEIGHBOUR: 'it returns false'. Refute it at one input. -/
def setsJoinWrong : ChangeSpec := { name := "setsJoin", fn := fun _ => fun
  | [d1, d2, d3, d4, d5] => { results := [.lit (.bool false)], args := [d1, d2, d3, d4, d5] }
  | _ => none }
def SetsJoinWrongFalsely : Prop := setsJoinRow.holds Tryz.pinned (OpenSpec.ofChange setsJoinWrong)

/-- 'pantilelaw15.SetsAsk': WHATEVER THE INPUT: true; the input reads as it did. -/
def setsAskSpec : ChangeSpec := { name := "setsAsk", fn := fun _ => fun
  | [d1, d2, d3, d4] => { results := [.lit (.bool true)], args := [d1, d2, d3, d4] }
  | _ => none }
def setsAskRow : OpenClaim := { program := "ytkeepngaaleakaagreatdoor", sum := "b2db0f7d4b4644a516d3765275721fca00347a314bc1b7226de2d2185a79414c", func := "pantile/pantilelaw15.SetsAsk", spec := "setsAsk", unfollowed := true, recurses := true, named := ["math/bits.deBruijn64tab"], apart := false, laid := [("math/bits.deBruijn64tab", laid_math_bits_deBruijn64tab)] }
def SetsAskSaid : Prop := setsAskRow.holds Tryz.pinned (OpenSpec.ofChange setsAskSpec)

/-- ITS FALSE NEIGHBOUR: 'it returns false'. Refute it at one input. -/
def setsAskWrong : ChangeSpec := { name := "setsAsk", fn := fun _ => fun
  | [d1, d2, d3, d4] => { results := [.lit (.bool false)], args := [d1, d2, d3, d4] }
  | _ => none }
def SetsAskWrongFalsely : Prop := setsAskRow.holds Tryz.pinned (OpenSpec.ofChange setsAskWrong)

/-- 'pantilelaw15.SetsLaws': WHATEVER THE INPUT: true; the input reads as it did. -/
def setsLawsSpec : ChangeSpec := { name := "setsLaws", fn := fun _ => fun
  | [d1, d2, d3, d4] => { results := [.lit (.bool true)], args := [d1, d2, d3, d4] }
  | _ => none }
def setsLawsRow : OpenClaim := { program := "ytkeepngaaleakaagreatdoor", sum := "b2db0f7d4b4644a516d3765275721fca00347a314bc1b7226de2d2185a79414c", func := "pantile/pantilelaw15.SetsLaws", spec := "setsLaws", unfollowed := true, recurses := true, named := ["math/bits.deBruijn64tab"], apart := false, laid := [("math/bits.deBruijn64tab", laid_math_bits_deBruijn64tab)] }
def SetsLawsSaid : Prop := setsLawsRow.holds Tryz.pinned (OpenSpec.ofChange setsLawsSpec)

/-- ITS FALSE NEIGHBOUR: 'it returns false'. Refute it at one input. -/
def setsLawsWrong : ChangeSpec := { name := "setsLaws", fn := fun _ => fun
  | [d1, d2, d3, d4] => { results := [.lit (.bool false)], args := [d1, d2, d3, d4] }
  | _ => none }
def SetsLawsWrongFalsely : Prop := setsLawsRow.holds Tryz.pinned (OpenSpec.ofChange setsLawsWrong)

/-- 'pantilelaw15.SetsNil': WHATEVER THE INPUT: true; the input reads as it did. -/
def setsNilSpec : ChangeSpec := { name := "setsNil", fn := fun _ => fun
  | [d] => { results := [.lit (.bool true)], args := [d] }
  | _ => none }
def setsNilRow : OpenClaim := { program := "ytkeepngaaleakaagreatdoor", sum := "b2db0f7d4b4644a516d3765275721fca00347a314bc1b7226de2d2185a79414c", func := "pantile/pantilelaw15.SetsNil", spec := "setsNil", unfollowed := true, recurses := true, named := ["math/bits.deBruijn64tab"], apart := false, laid := [("math/bits.deBruijn64tab", laid_math_bits_deBruijn64tab)] }
def SetsNilSaid : Prop := setsNilRow.holds Tryz.pinned (OpenSpec.ofChange setsNilSpec)

/-- ITS FALSE NEIGHBOUR: 'it returns false'. Refute it at one input. -/
def setsNilWrong : ChangeSpec := { name := "setsNil", fn := fun _ => fun
  | [d] => { results := [.lit (.bool false)], args := [d] }
  | _ => none }
def SetsNilWrongFalsely : Prop := setsNilRow.holds Tryz.pinned (OpenSpec.ofChange setsNilWrong)

/-- 'pantilelaw16.BulkMakes': WHATEVER THE INPUT: true; the input reads as it did. -/
def bulkMakesSpec : ChangeSpec := { name := "bulkMakes", fn := fun _ => fun
  | [d1, d2, d3] => { results := [.lit (.bool true)], args := [d1, d2, d3] }
  | _ => none }
def bulkMakesRow : OpenClaim := { program := "ytkeepngaaleakaagreatdoor", sum := "b2db0f7d4b4644a516d3765275721fca00347a314bc1b7226de2d2185a79414c", func := "pantile/pantilelaw16.BulkMakes", spec := "bulkMakes", unfollowed := true, recurses := true, named := ["math/bits.deBruijn64tab"], apart := false, laid := [("math/bits.deBruijn64tab", laid_math_bits_deBruijn64tab)] }
def BulkMakesSaid : Prop := bulkMakesRow.holds Tryz.pinned (OpenSpec.ofChange bulkMakesSpec)

/-- ITS FALSE NEIGHBOUR: 'it returns false'. Refute it at one input. -/
def bulkMakesWrong : ChangeSpec := { name := "bulkMakes", fn := fun _ => fun
  | [d1, d2, d3] => { results := [.lit (.bool false)], args := [d1, d2, d3] }
  | _ => none }
def BulkMakesWrongFalsely : Prop := bulkMakesRow.holds Tryz.pinned (OpenSpec.ofChange bulkMakesWrong)

/-- 'pantilelaw16.BulkDels': WHATEVER THE INPUT: true; the input reads as it did. -/
def bulkDelsSpec : ChangeSpec := { name := "bulkDels", fn := fun _ => fun
  | [d1, d2, d3] => { results := [.lit (.bool true)], args := [d1, d2, d3] }
  | _ => none }
def bulkDelsRow : OpenClaim := { program := "ytkeepngaaleakaagreatdoor", sum := "b2db0f7d4b4644a516d3765275721fca00347a314bc1b7226de2d2185a79414c", func := "pantile/pantilelaw16.BulkDels", spec := "bulkDels", unfollowed := true, recurses := true, named := ["math/bits.deBruijn64tab"], apart := false, laid := [("math/bits.deBruijn64tab", laid_math_bits_deBruijn64tab)] }
def BulkDelsSaid : Prop := bulkDelsRow.holds Tryz.pinned (OpenSpec.ofChange bulkDelsSpec)

/-- ITS FALSE NEIGHBOUR: 'it returns false'. Refute it at one input. -/
def bulkDelsWrong : ChangeSpec := { name := "bulkDels", fn := fun _ => fun
  | [d1, d2, d3] => { results := [.lit (.bool false)], args := [d1, d2, d3] }
  | _ => none }
def BulkDelsWrongFalsely : Prop := bulkDelsRow.holds Tryz.pinned (OpenSpec.ofChange bulkDelsWrong)

/-- 'pantilelaw16.BulkMaps': WHATEVER THE INPUT: true; the input reads as it did. -/
def bulkMapsSpec : ChangeSpec := { name := "bulkMaps", fn := fun _ => fun
  | [d1, d2, d3, d4, d5, d6] => { results := [.lit (.bool true)], args := [d1, d2, d3, d4, d5, d6] }
  | _ => none }
def bulkMapsRow : OpenClaim := { program := "ytkeepngaaleakaagreatdoor", sum := "b2db0f7d4b4644a516d3765275721fca00347a314bc1b7226de2d2185a79414c", func := "pantile/pantilelaw16.BulkMaps", spec := "bulkMaps", unfollowed := true, recurses := true, named := ["math/bits.deBruijn64tab"], apart := false, laid := [("math/bits.deBruijn64tab", laid_math_bits_deBruijn64tab)] }
def BulkMapsSaid : Prop := bulkMapsRow.holds Tryz.pinned (OpenSpec.ofChange bulkMapsSpec)

/-- ITS FALSE NEIGHBOUR: 'it returns false'. Refute it at one input. -/
def bulkMapsWrong : ChangeSpec := { name := "bulkMaps", fn := fun _ => fun
  | [d1, d2, d3, d4, d5, d6] => { results := [.lit (.bool false)], args := [d1, d2, d3, d4, d5, d6] }
  | _ => none }
def BulkMapsWrongFalsely : Prop := bulkMapsRow.holds Tryz.pinned (OpenSpec.ofChange bulkMapsWrong)

/-- 'pantilelaw16.BulkTurns': WHATEVER THE INPUT: true; the input reads as it did. -/
def bulkTurnsSpec : ChangeSpec := { name := "bulkTurns", fn := fun _ => fun
  | [d1, d2] => { results := [.lit (.bool true)], args := [d1, d2] }
  | _ => none }
def bulkTurnsRow : OpenClaim := { program := "ytkeepngaaleakaagreatdoor", sum := "b2db0f7d4b4644a516d3765275721fca00347a314bc1b7226de2d2185a79414c", func := "pantile/pantilelaw16.BulkTurns", spec := "bulkTurns", unfollowed := true, recurses := true, named := ["math/bits.deBruijn64tab"], apart := false, laid := [("math/bits.deBruijn64tab", laid_math_bits_deBruijn64tab)] }
def BulkTurnsSaid : Prop := bulkTurnsRow.holds Tryz.pinned (OpenSpec.ofChange bulkTurnsSpec)

/-- ITS FALSE NEIGHBOUR: 'it returns false'. Refute it at one input. -/
def bulkTurnsWrong : ChangeSpec := { name := "bulkTurns", fn := fun _ => fun
  | [d1, d2] => { results := [.lit (.bool false)], args := [d1, d2] }
  | _ => none }
def BulkTurnsWrongFalsely : Prop := bulkTurnsRow.holds Tryz.pinned (OpenSpec.ofChange bulkTurnsWrong)

/-- 'pantilelaw16.BulkNil': WHATEVER THE INPUT: true; the input reads as it did. -/
def bulkNilSpec : ChangeSpec := { name := "bulkNil", fn := fun _ => fun
  | [d1, d2] => { results := [.lit (.bool true)], args := [d1, d2] }
  | _ => none }
def bulkNilRow : OpenClaim := { program := "ytkeepngaaleakaagreatdoor", sum := "b2db0f7d4b4644a516d3765275721fca00347a314bc1b7226de2d2185a79414c", func := "pantile/pantilelaw16.BulkNil", spec := "bulkNil", unfollowed := true, recurses := true, named := ["math/bits.deBruijn64tab"], apart := false, laid := [("math/bits.deBruijn64tab", laid_math_bits_deBruijn64tab)] }
def BulkNilSaid : Prop := bulkNilRow.holds Tryz.pinned (OpenSpec.ofChange bulkNilSpec)

/-- ITS FALSE NEIGHBOUR: 'it returns false'. Refute it at one input. -/
def bulkNilWrong : ChangeSpec := { name := "bulkNil", fn := fun _ => fun
  | [d1, d2] => { results := [.lit (.bool false)], args := [d1, d2] }
  | _ => none }
def BulkNilWrongFalsely : Prop := bulkNilRow.holds Tryz.pinned (OpenSpec.ofChange bulkNilWrong)

/- THE SECOND FORM. 'bulk': how many values and letters a reading holds, each counted each time it is reached (what is shared counts as often as it is met; a slice's spare places count too). A statement '..UptoSaid' is the law's where the arguments, and the package variables that the reading takes, are together of bulk at most 1048576: NARROWER than '..Said'. Prove '..Said' where nothing that the law and all that it calls make is longer than what came in: it says more and counts as full. Else prove '..UptoSaid'. A law counts once. -/
mutual
def uptoBulk {H : Type} : DataW H → Nat
  | .lit (.string bytes) => bytes.length + 1
  | .lit _ => 1
  | .nil => 1
  | .ptr d => uptoBulk d + 1
  | .slice elems spare => uptoBulkAll elems + uptoBulkAll spare + 1
  | .agg parts => uptoBulkAll parts + 1
  | .iface _ d => uptoBulk d + 1
  | .map entries => uptoBulkEntries entries + 1
  | .held _ => 1
def uptoBulkAll {H : Type} : List (DataW H) → Nat
  | [] => 0
  | d :: r => uptoBulk d + uptoBulkAll r
def uptoBulkEntries {H : Type} : List (Lit × DataW H) → Nat
  | [] => 0
  | x :: r => uptoBulkEntry x + uptoBulkEntries r
def uptoBulkEntry {H : Type} : Lit × DataW H → Nat
  | (.string bytes, d) => bytes.length + uptoBulk d + 1
  | (_, d) => uptoBulk d + 1
 end
def uptoSmall : (H : Type) → List (DataW H) → Bool := fun _ ds => decide (uptoBulkAll ds ≤ 1048576)
def OpenSpec.upto (s : _root_.Go.ChangeSpec) : _root_.Go.OpenSpec := { _root_.Go.OpenSpec.ofChange s with cond := some uptoSmall }

/-- 'pantilelaw09.WindowParts', WHERE WHAT IT READS IS OF BULK AT MOST 1048576: true; the input reads as it did. -/
def windowPartsUptoRow : OpenClaim := { program := "ytkeepngaaleakaagreatdoor", sum := "b2db0f7d4b4644a516d3765275721fca00347a314bc1b7226de2d2185a79414c", func := "pantile/pantilelaw09.WindowParts", spec := "windowParts", unfollowed := true, recurses := true, named := ["math/bits.deBruijn64tab"], apart := false, laid := [("math/bits.deBruijn64tab", laid_math_bits_deBruijn64tab)], narrowed := true }
def WindowPartsUptoSaid : Prop := windowPartsUptoRow.holds Tryz.pinned (OpenSpec.upto windowPartsSpec)

/-- 'pantilelaw15.SetsJoin', WHERE WHAT IT READS IS OF BULK AT MOST 1048576: true; the input reads as it did. -/
def setsJoinUptoRow : OpenClaim := { program := "ytkeepngaaleakaagreatdoor", sum := "b2db0f7d4b4644a516d3765275721fca00347a314bc1b7226de2d2185a79414c", func := "pantile/pantilelaw15.SetsJoin", spec := "setsJoin", unfollowed := true, recurses := true, named := ["math/bits.deBruijn64tab"], apart := false, laid := [("math/bits.deBruijn64tab", laid_math_bits_deBruijn64tab)], narrowed := true }
def SetsJoinUptoSaid : Prop := setsJoinUptoRow.holds Tryz.pinned (OpenSpec.upto setsJoinSpec)

/-- 'pantilelaw15.SetsAsk', WHERE WHAT IT READS IS OF BULK AT MOST 1048576: true; the input reads as it did. -/
def setsAskUptoRow : OpenClaim := { program := "ytkeepngaaleakaagreatdoor", sum := "b2db0f7d4b4644a516d3765275721fca00347a314bc1b7226de2d2185a79414c", func := "pantile/pantilelaw15.SetsAsk", spec := "setsAsk", unfollowed := true, recurses := true, named := ["math/bits.deBruijn64tab"], apart := false, laid := [("math/bits.deBruijn64tab", laid_math_bits_deBruijn64tab)], narrowed := true }
def SetsAskUptoSaid : Prop := setsAskUptoRow.holds Tryz.pinned (OpenSpec.upto setsAskSpec)

/-- 'pantilelaw15.SetsLaws', WHERE WHAT IT READS IS OF BULK AT MOST 1048576: true; the input reads as it did. -/
def setsLawsUptoRow : OpenClaim := { program := "ytkeepngaaleakaagreatdoor", sum := "b2db0f7d4b4644a516d3765275721fca00347a314bc1b7226de2d2185a79414c", func := "pantile/pantilelaw15.SetsLaws", spec := "setsLaws", unfollowed := true, recurses := true, named := ["math/bits.deBruijn64tab"], apart := false, laid := [("math/bits.deBruijn64tab", laid_math_bits_deBruijn64tab)], narrowed := true }
def SetsLawsUptoSaid : Prop := setsLawsUptoRow.holds Tryz.pinned (OpenSpec.upto setsLawsSpec)

/-- 'pantilelaw15.SetsNil', WHERE WHAT IT READS IS OF BULK AT MOST 1048576: true; the input reads as it did. -/
def setsNilUptoRow : OpenClaim := { program := "ytkeepngaaleakaagreatdoor", sum := "b2db0f7d4b4644a516d3765275721fca00347a314bc1b7226de2d2185a79414c", func := "pantile/pantilelaw15.SetsNil", spec := "setsNil", unfollowed := true, recurses := true, named := ["math/bits.deBruijn64tab"], apart := false, laid := [("math/bits.deBruijn64tab", laid_math_bits_deBruijn64tab)], narrowed := true }
def SetsNilUptoSaid : Prop := setsNilUptoRow.holds Tryz.pinned (OpenSpec.upto setsNilSpec)

/-- 'pantilelaw16.BulkMakes', WHERE WHAT IT READS IS OF BULK AT MOST 1048576: true; the input reads as it did. -/
def bulkMakesUptoRow : OpenClaim := { program := "ytkeepngaaleakaagreatdoor", sum := "b2db0f7d4b4644a516d3765275721fca00347a314bc1b7226de2d2185a79414c", func := "pantile/pantilelaw16.BulkMakes", spec := "bulkMakes", unfollowed := true, recurses := true, named := ["math/bits.deBruijn64tab"], apart := false, laid := [("math/bits.deBruijn64tab", laid_math_bits_deBruijn64tab)], narrowed := true }
def BulkMakesUptoSaid : Prop := bulkMakesUptoRow.holds Tryz.pinned (OpenSpec.upto bulkMakesSpec)

/-- 'pantilelaw16.BulkDels', WHERE WHAT IT READS IS OF BULK AT MOST 1048576: true; the input reads as it did. -/
def bulkDelsUptoRow : OpenClaim := { program := "ytkeepngaaleakaagreatdoor", sum := "b2db0f7d4b4644a516d3765275721fca00347a314bc1b7226de2d2185a79414c", func := "pantile/pantilelaw16.BulkDels", spec := "bulkDels", unfollowed := true, recurses := true, named := ["math/bits.deBruijn64tab"], apart := false, laid := [("math/bits.deBruijn64tab", laid_math_bits_deBruijn64tab)], narrowed := true }
def BulkDelsUptoSaid : Prop := bulkDelsUptoRow.holds Tryz.pinned (OpenSpec.upto bulkDelsSpec)

/-- 'pantilelaw16.BulkMaps', WHERE WHAT IT READS IS OF BULK AT MOST 1048576: true; the input reads as it did. -/
def bulkMapsUptoRow : OpenClaim := { program := "ytkeepngaaleakaagreatdoor", sum := "b2db0f7d4b4644a516d3765275721fca00347a314bc1b7226de2d2185a79414c", func := "pantile/pantilelaw16.BulkMaps", spec := "bulkMaps", unfollowed := true, recurses := true, named := ["math/bits.deBruijn64tab"], apart := false, laid := [("math/bits.deBruijn64tab", laid_math_bits_deBruijn64tab)], narrowed := true }
def BulkMapsUptoSaid : Prop := bulkMapsUptoRow.holds Tryz.pinned (OpenSpec.upto bulkMapsSpec)

/-- 'pantilelaw16.BulkTurns', WHERE WHAT IT READS IS OF BULK AT MOST 1048576: true; the input reads as it did. -/
def bulkTurnsUptoRow : OpenClaim := { program := "ytkeepngaaleakaagreatdoor", sum := "b2db0f7d4b4644a516d3765275721fca00347a314bc1b7226de2d2185a79414c", func := "pantile/pantilelaw16.BulkTurns", spec := "bulkTurns", unfollowed := true, recurses := true, named := ["math/bits.deBruijn64tab"], apart := false, laid := [("math/bits.deBruijn64tab", laid_math_bits_deBruijn64tab)], narrowed := true }
def BulkTurnsUptoSaid : Prop := bulkTurnsUptoRow.holds Tryz.pinned (OpenSpec.upto bulkTurnsSpec)

/-- 'pantilelaw16.BulkNil', WHERE WHAT IT READS IS OF BULK AT MOST 1048576: true; the input reads as it did. -/
def bulkNilUptoRow : OpenClaim := { program := "ytkeepngaaleakaagreatdoor", sum := "b2db0f7d4b4644a516d3765275721fca00347a314bc1b7226de2d2185a79414c", func := "pantile/pantilelaw16.BulkNil", spec := "bulkNil", unfollowed := true, recurses := true, named := ["math/bits.deBruijn64tab"], apart := false, laid := [("math/bits.deBruijn64tab", laid_math_bits_deBruijn64tab)], narrowed := true }
def BulkNilUptoSaid : Prop := bulkNilUptoRow.holds Tryz.pinned (OpenSpec.upto bulkNilSpec)

end Rows
end Go.Proofs.YtkeepngaaleakaaGreatDoor
