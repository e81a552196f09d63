/-
  No cell of these rows narrows 'for every input' (looked for: loops, veiled, ifaces, maps, wideKeys, modest, calm, conditions, laid).
  DERIVED. THE GIVEN ROWS OF THIS SEAT. 3 by the template 'for every input the law returns true; each argument reads behind the call as it read before'; 0 by the template 'total and deterministic' (their statements: YtbcdniphmklghaaTotals.lean).
  GIVEN WITH THE SEED: the statements are not yours to turn. If you find one false, say at which input.
  Laid BY PROGRAM, IN A SANDBOX (cutbox-rows.mjs): the forced cells as the released guide's own fill.sh prints them over the translation 0c9a42e6127800db… (all of the seat's roots in one cut). By AI agents, Wed Nov 11 2026. No macro, syntax, notation, axiom, sorry.
-/
import Derived.Test.YtbcdniphmklghaaChecked
import GoSem.Claim
import GoSem.ClaimJoined
import GoSem.ClaimMapViews
import Derived.JoinedTies
import Derived.KernelRfl
namespace Go.Proofs.Ytbcdniphmklghaa
/- THE CELL 'sum', in the pinned program and in every row, IS THE sha256 OF THE DUMP (.gsa) THAT YtbcdniphmklghaaProg.lean LOADS. Nothing in Lean hashes anything: it is a label: what it is worth is what the hold of that sum in a sandbox is worth. -/
noncomputable def Try.pinned : Pinned := { name := "ytbcdniphmklghaa", sum := "0c9a42e6127800db7111eae2d3e45a73214179f47dec82ede04427e6dfe404e8", checked := Try.checked }
namespace Rows
def none {H : Type} : Left H := { results := [], args := [] }

/-- 'pantilelaw01.ZbitsAddr': WHATEVER THE INPUT: true; the input reads as it did. -/
def zbitsAddrSpec : ChangeSpec := { name := "zbitsAddr", fn := fun _ => fun
  | [d1, d2, d3] => { results := [.lit (.bool true)], args := [d1, d2, d3] }
  | _ => none }
def zbitsAddrRow : OpenClaim := { program := "ytbcdniphmklghaa", sum := "0c9a42e6127800db7111eae2d3e45a73214179f47dec82ede04427e6dfe404e8", func := "pantile/pantilelaw01.ZbitsAddr", spec := "zbitsAddr", apart := false }
def ZbitsAddrSaid : Prop := zbitsAddrRow.holds Try.pinned (OpenSpec.ofChange zbitsAddrSpec)

/-- ITS FALSE NEIGHBOUR: 'it returns false'. Refute it at one input. -/
def zbitsAddrWrong : ChangeSpec := { name := "zbitsAddr", fn := fun _ => fun
  | [d1, d2, d3] => { results := [.lit (.bool false)], args := [d1, d2, d3] }
  | _ => none }
def ZbitsAddrWrongFalsely : Prop := zbitsAddrRow.holds Try.pinned (OpenSpec.ofChange zbitsAddrWrong)

/-- 'pantilelaw01.ZbitsOrder': WHATEVER THE INPUT: true; the input reads as it did. -/
def zbitsOrderSpec : ChangeSpec := { name := "zbitsOrder", fn := fun _ => fun
  | [d1, d2, d3] => { results := [.lit (.bool true)], args := [d1, d2, d3] }
  | _ => none }
def zbitsOrderRow : OpenClaim := { program := "ytbcdniphmklghaa", sum := "0c9a42e6127800db7111eae2d3e45a73214179f47dec82ede04427e6dfe404e8", func := "pantile/pantilelaw01.ZbitsOrder", spec := "zbitsOrder", apart := false }
def ZbitsOrderSaid : Prop := zbitsOrderRow.holds Try.pinned (OpenSpec.ofChange zbitsOrderSpec)

/-- ITS FALSE NEIGHBOUR: 'it returns false'. Refute it at one input. -/
def zbitsOrderWrong : ChangeSpec := { name := "zbitsOrder", fn := fun _ => fun
  | [d1, d2, d3] => { results := [.lit (.bool false)], args := [d1, d2, d3] }
  | _ => none }
def ZbitsOrderWrongFalsely : Prop := zbitsOrderRow.holds Try.pinned (OpenSpec.ofChange zbitsOrderWrong)

/-- 'pantilelaw01.ZbitsCuts': WHATEVER THE INPUT: true; the input reads as it did. -/
def zbitsCutsSpec : ChangeSpec := { name := "zbitsCuts", fn := fun _ => fun
  | [d1, d2, d3] => { results := [.lit (.bool true)], args := [d1, d2, d3] }
  | _ => none }
def zbitsCutsRow : OpenClaim := { program := "ytbcdniphmklghaa", sum := "0c9a42e6127800db7111eae2d3e45a73214179f47dec82ede04427e6dfe404e8", func := "pantile/pantilelaw01.ZbitsCuts", spec := "zbitsCuts", apart := false }
def ZbitsCutsSaid : Prop := zbitsCutsRow.holds Try.pinned (OpenSpec.ofChange zbitsCutsSpec)

/-- ITS FALSE NEIGHBOUR: 'it returns false'. Refute it at one input. -/
def zbitsCutsWrong : ChangeSpec := { name := "zbitsCuts", fn := fun _ => fun
  | [d1, d2, d3] => { results := [.lit (.bool false)], args := [d1, d2, d3] }
  | _ => none }
def ZbitsCutsWrongFalsely : Prop := zbitsCutsRow.holds Try.pinned (OpenSpec.ofChange zbitsCutsWrong)

/- THE SECOND FORM. 'bulk': how many values and letters a reading holds, each counted each time it is reached (what is shared counts as often as it is met; a slice's spare places count too). A statement '..UptoSaid' is the law's where the arguments, and the package variables that the reading takes, are together of bulk at most 1048576: NARROWER than '..Said'. Prove '..Said' where nothing that the law and all that it calls make is longer than what came in: it says more and counts as full. Else prove '..UptoSaid'. A law counts once. -/
mutual
def uptoBulk {H : Type} : DataW H → Nat
  | .lit (.string bytes) => bytes.length + 1
  | .lit _ => 1
  | .nil => 1
  | .ptr d => uptoBulk d + 1
  | .slice elems spare => uptoBulkAll elems + uptoBulkAll spare + 1
  | .agg parts => uptoBulkAll parts + 1
  | .iface _ d => uptoBulk d + 1
  | .map entries => uptoBulkEntries entries + 1
  | .held _ => 1
def uptoBulkAll {H : Type} : List (DataW H) → Nat
  | [] => 0
  | d :: r => uptoBulk d + uptoBulkAll r
def uptoBulkEntries {H : Type} : List (Lit × DataW H) → Nat
  | [] => 0
  | x :: r => uptoBulkEntry x + uptoBulkEntries r
def uptoBulkEntry {H : Type} : Lit × DataW H → Nat
  | (.string bytes, d) => bytes.length + uptoBulk d + 1
  | (_, d) => uptoBulk d + 1
 end
def uptoSmall : (H : Type) → List (DataW H) → Bool := fun _ ds => decide (uptoBulkAll ds ≤ 1048576)
def OpenSpec.upto (s : _root_.Go.ChangeSpec) : _root_.Go.OpenSpec := { _root_.Go.OpenSpec.ofChange s with cond := some uptoSmall }

/-- 'pantilelaw01.ZbitsAddr', WHERE WHAT IT READS IS OF BULK AT MOST 1048576: true; the input reads as it did. -/
def zbitsAddrUptoRow : OpenClaim := { program := "ytbcdniphmklghaa", sum := "0c9a42e6127800db7111eae2d3e45a73214179f47dec82ede04427e6dfe404e8", func := "pantile/pantilelaw01.ZbitsAddr", spec := "zbitsAddr", apart := false, narrowed := true }
def ZbitsAddrUptoSaid : Prop := zbitsAddrUptoRow.holds Try.pinned (OpenSpec.upto zbitsAddrSpec)

/-- 'pantilelaw01.ZbitsOrder', WHERE WHAT IT READS IS OF BULK AT MOST 1048576: true; the input reads as it did. -/
def zbitsOrderUptoRow : OpenClaim := { program := "ytbcdniphmklghaa", sum := "0c9a42e6127800db7111eae2d3e45a73214179f47dec82ede04427e6dfe404e8", func := "pantile/pantilelaw01.ZbitsOrder", spec := "zbitsOrder", apart := false, narrowed := true }
def ZbitsOrderUptoSaid : Prop := zbitsOrderUptoRow.holds Try.pinned (OpenSpec.upto zbitsOrderSpec)

/-- 'pantilelaw01.ZbitsCuts', WHERE WHAT IT READS IS OF BULK AT MOST 1048576: true; the input reads as it did. -/
def zbitsCutsUptoRow : OpenClaim := { program := "ytbcdniphmklghaa", sum := "0c9a42e6127800db7111eae2d3e45a73214179f47dec82ede04427e6dfe404e8", func := "pantile/pantilelaw01.ZbitsCuts", spec := "zbitsCuts", apart := false, narrowed := true }
def ZbitsCutsUptoSaid : Prop := zbitsCutsUptoRow.holds Try.pinned (OpenSpec.upto zbitsCutsSpec)

end Rows
end Go.Proofs.Ytbcdniphmklghaa
