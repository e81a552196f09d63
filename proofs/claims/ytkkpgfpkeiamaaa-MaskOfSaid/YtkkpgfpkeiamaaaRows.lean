/-
  No cell of these rows narrows 'for every input' (looked for: loops, veiled, ifaces, maps, wideKeys, modest, calm, conditions, laid).
  DERIVED. THE GIVEN ROWS OF THIS SEAT. 4 by the template 'for every input the law returns true; each argument reads behind the call as it read before'; 0 by the template 'total and deterministic' (their statements: YtkkpgfpkeiamaaaTotals.lean).
  GIVEN WITH THE SEED: the statements are not yours to turn. If you find one false, say at which input.
  Laid BY PROGRAM, IN A SANDBOX (cutbox-rows.mjs): the forced cells as the released guide's own fill.sh prints them over the translation bc20f079f1326836… (all of the seat's roots in one cut). By AI agents, Wed Nov 11 2026. No macro, syntax, notation, axiom, sorry.
-/
import Derived.Test.YtkkpgfpkeiamaaaChecked
import GoSem.Claim
import GoSem.ClaimJoined
import GoSem.ClaimMapViews
import Derived.JoinedTies
import Derived.KernelRfl
namespace Go.Proofs.Ytkkpgfpkeiamaaa
/- THE CELL 'sum', in the pinned program and in every row, IS THE sha256 OF THE DUMP (.gsa) THAT YtkkpgfpkeiamaaaProg.lean LOADS. Nothing in Lean hashes anything: it is a label: what it is worth is what the hold of that sum in a sandbox is worth. -/
noncomputable def Try.pinned : Pinned := { name := "ytkkpgfpkeiamaaa", sum := "bc20f079f132683692de3bd7a1cd704ec85c7611cc242afebb3647d17136411a", checked := Try.checked }
namespace Rows
def none {H : Type} : Left H := { results := [], args := [] }

/-- 'pantilelaw04.MaskOf': WHATEVER THE INPUT: true; the input reads as it did. -/
def maskOfSpec : ChangeSpec := { name := "maskOf", fn := fun _ => fun
  | [d1, d2, d3] => { results := [.lit (.bool true)], args := [d1, d2, d3] }
  | _ => none }
def maskOfRow : OpenClaim := { program := "ytkkpgfpkeiamaaa", sum := "bc20f079f132683692de3bd7a1cd704ec85c7611cc242afebb3647d17136411a", func := "pantile/pantilelaw04.MaskOf", spec := "maskOf", apart := false }
def MaskOfSaid : Prop := maskOfRow.holds Try.pinned (OpenSpec.ofChange maskOfSpec)

/-- ITS FALSE NEIGHBOUR: 'it returns false'. Refute it at one input. -/
def maskOfWrong : ChangeSpec := { name := "maskOf", fn := fun _ => fun
  | [d1, d2, d3] => { results := [.lit (.bool false)], args := [d1, d2, d3] }
  | _ => none }
def MaskOfWrongFalsely : Prop := maskOfRow.holds Try.pinned (OpenSpec.ofChange maskOfWrong)

/-- 'pantilelaw04.MaskLeft': WHATEVER THE INPUT: true; the input reads as it did. -/
def maskLeftSpec : ChangeSpec := { name := "maskLeft", fn := fun _ => fun
  | [d1, d2] => { results := [.lit (.bool true)], args := [d1, d2] }
  | _ => none }
def maskLeftRow : OpenClaim := { program := "ytkkpgfpkeiamaaa", sum := "bc20f079f132683692de3bd7a1cd704ec85c7611cc242afebb3647d17136411a", func := "pantile/pantilelaw04.MaskLeft", spec := "maskLeft", apart := false }
def MaskLeftSaid : Prop := maskLeftRow.holds Try.pinned (OpenSpec.ofChange maskLeftSpec)

/-- ITS FALSE NEIGHBOUR: 'it returns false'. Refute it at one input. -/
def maskLeftWrong : ChangeSpec := { name := "maskLeft", fn := fun _ => fun
  | [d1, d2] => { results := [.lit (.bool false)], args := [d1, d2] }
  | _ => none }
def MaskLeftWrongFalsely : Prop := maskLeftRow.holds Try.pinned (OpenSpec.ofChange maskLeftWrong)

/-- 'pantilelaw04.MaskMeets': WHATEVER THE INPUT: true; the input reads as it did. -/
def maskMeetsSpec : ChangeSpec := { name := "maskMeets", fn := fun _ => fun
  | [d1, d2, d3, d4] => { results := [.lit (.bool true)], args := [d1, d2, d3, d4] }
  | _ => none }
def maskMeetsRow : OpenClaim := { program := "ytkkpgfpkeiamaaa", sum := "bc20f079f132683692de3bd7a1cd704ec85c7611cc242afebb3647d17136411a", func := "pantile/pantilelaw04.MaskMeets", spec := "maskMeets", apart := false }
def MaskMeetsSaid : Prop := maskMeetsRow.holds Try.pinned (OpenSpec.ofChange maskMeetsSpec)

/-- ITS FALSE NEIGHBOUR: 'it returns false'. Refute it at one input. -/
def maskMeetsWrong : ChangeSpec := { name := "maskMeets", fn := fun _ => fun
  | [d1, d2, d3, d4] => { results := [.lit (.bool false)], args := [d1, d2, d3, d4] }
  | _ => none }
def MaskMeetsWrongFalsely : Prop := maskMeetsRow.holds Try.pinned (OpenSpec.ofChange maskMeetsWrong)

/-- 'pantilelaw04.MaskWalk': WHATEVER THE INPUT: true; the input reads as it did. -/
def maskWalkSpec : ChangeSpec := { name := "maskWalk", fn := fun _ => fun
  | [d] => { results := [.lit (.bool true)], args := [d] }
  | _ => none }
def maskWalkRow : OpenClaim := { program := "ytkkpgfpkeiamaaa", sum := "bc20f079f132683692de3bd7a1cd704ec85c7611cc242afebb3647d17136411a", func := "pantile/pantilelaw04.MaskWalk", spec := "maskWalk", apart := false }
def MaskWalkSaid : Prop := maskWalkRow.holds Try.pinned (OpenSpec.ofChange maskWalkSpec)

/-- ITS FALSE NEIGHBOUR: 'it returns false'. Refute it at one input. -/
def maskWalkWrong : ChangeSpec := { name := "maskWalk", fn := fun _ => fun
  | [d] => { results := [.lit (.bool false)], args := [d] }
  | _ => none }
def MaskWalkWrongFalsely : Prop := maskWalkRow.holds Try.pinned (OpenSpec.ofChange maskWalkWrong)

/- THE SECOND FORM. 'bulk': how many values and letters a reading holds, each counted each time it is reached (what is shared counts as often as it is met; a slice's spare places count too). A statement '..UptoSaid' is the law's where the arguments, and the package variables that the reading takes, are together of bulk at most 1048576: NARROWER than '..Said'. Prove '..Said' where nothing that the law and all that it calls make is longer than what came in: it says more and counts as full. Else prove '..UptoSaid'. A law counts once. -/
mutual
def uptoBulk {H : Type} : DataW H → Nat
  | .lit (.string bytes) => bytes.length + 1
  | .lit _ => 1
  | .nil => 1
  | .ptr d => uptoBulk d + 1
  | .slice elems spare => uptoBulkAll elems + uptoBulkAll spare + 1
  | .agg parts => uptoBulkAll parts + 1
  | .iface _ d => uptoBulk d + 1
  | .map entries => uptoBulkEntries entries + 1
  | .held _ => 1
def uptoBulkAll {H : Type} : List (DataW H) → Nat
  | [] => 0
  | d :: r => uptoBulk d + uptoBulkAll r
def uptoBulkEntries {H : Type} : List (Lit × DataW H) → Nat
  | [] => 0
  | x :: r => uptoBulkEntry x + uptoBulkEntries r
def uptoBulkEntry {H : Type} : Lit × DataW H → Nat
  | (.string bytes, d) => bytes.length + uptoBulk d + 1
  | (_, d) => uptoBulk d + 1
 end
def uptoSmall : (H : Type) → List (DataW H) → Bool := fun _ ds => decide (uptoBulkAll ds ≤ 1048576)
def OpenSpec.upto (s : _root_.Go.ChangeSpec) : _root_.Go.OpenSpec := { _root_.Go.OpenSpec.ofChange s with cond := some uptoSmall }

/-- 'pantilelaw04.MaskOf', WHERE WHAT IT READS IS OF BULK AT MOST 1048576: true; the input reads as it did. -/
def maskOfUptoRow : OpenClaim := { program := "ytkkpgfpkeiamaaa", sum := "bc20f079f132683692de3bd7a1cd704ec85c7611cc242afebb3647d17136411a", func := "pantile/pantilelaw04.MaskOf", spec := "maskOf", apart := false, narrowed := true }
def MaskOfUptoSaid : Prop := maskOfUptoRow.holds Try.pinned (OpenSpec.upto maskOfSpec)

/-- 'pantilelaw04.MaskLeft', WHERE WHAT IT READS IS OF BULK AT MOST 1048576: true; the input reads as it did. -/
def maskLeftUptoRow : OpenClaim := { program := "ytkkpgfpkeiamaaa", sum := "bc20f079f132683692de3bd7a1cd704ec85c7611cc242afebb3647d17136411a", func := "pantile/pantilelaw04.MaskLeft", spec := "maskLeft", apart := false, narrowed := true }
def MaskLeftUptoSaid : Prop := maskLeftUptoRow.holds Try.pinned (OpenSpec.upto maskLeftSpec)

/-- 'pantilelaw04.MaskMeets', WHERE WHAT IT READS IS OF BULK AT MOST 1048576: true; the input reads as it did. -/
def maskMeetsUptoRow : OpenClaim := { program := "ytkkpgfpkeiamaaa", sum := "bc20f079f132683692de3bd7a1cd704ec85c7611cc242afebb3647d17136411a", func := "pantile/pantilelaw04.MaskMeets", spec := "maskMeets", apart := false, narrowed := true }
def MaskMeetsUptoSaid : Prop := maskMeetsUptoRow.holds Try.pinned (OpenSpec.upto maskMeetsSpec)

/-- 'pantilelaw04.MaskWalk', WHERE WHAT IT READS IS OF BULK AT MOST 1048576: true; the input reads as it did. -/
def maskWalkUptoRow : OpenClaim := { program := "ytkkpgfpkeiamaaa", sum := "bc20f079f132683692de3bd7a1cd704ec85c7611cc242afebb3647d17136411a", func := "pantile/pantilelaw04.MaskWalk", spec := "maskWalk", apart := false, narrowed := true }
def MaskWalkUptoSaid : Prop := maskWalkUptoRow.holds Try.pinned (OpenSpec.upto maskWalkSpec)

end Rows
end Go.Proofs.Ytkkpgfpkeiamaaa
