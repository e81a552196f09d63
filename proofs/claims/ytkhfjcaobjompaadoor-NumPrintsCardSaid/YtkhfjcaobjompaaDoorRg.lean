/-
  A RANGE OVER A FUNCTION WHOSE ITERATOR KEEPS STATE IN A CELL OF ITS OWN: one round ('one_round') and the statement ('range_at'), in the forms that the walk of num.ReadPoint takes; and the iterator of strings.SplitSeq at one byte.
-/
import Derived.Test.YtkhfjcaobjompaaDoorNf
import Derived.RangeFuncNested
import Derived.RangeFuncBound
import Derived.RangeFuncCalls
import Derived.RangeFuncLeaves
import Derived.Shelf.Abstract
import Derived.Shelf.RegionOpen
import Derived.OwnWalkIn
import Derived.TacticsInMore
import Derived.LoopNIn
import Derived.LoopIn
namespace Go.Proofs.YtkhfjcaobjompaaDoor
open Go.RowKit Go.Shelf
attribute [local go_sem] Oper.semAt_some

/-- ONE ROUND: the loop's record is ready; the left side is assigned; the body is walked in the world where the record is busy; it goes on, or it leaves by 'return'. -/
theorem one_round {F : Fence} {m : Nat} {P : Program} {L : Nat} {r : Loop} {args : Array Value} {W : World} {a1 : Act} {R : Ending → World → Prop} (hF : F.fn r.fn)
    (hl : W.heap[L]? = some (.loop r)) (hr : r.state = .ready) (hs : args.size = r.params.size)
    (hassign : ∀ K : Act → World → Prop, K a1 W → r.assign.wpIn (F.inRound L) m P (Exit.then K (fun _ _ _ => False)) { tmps := (r.params.zip args).foldl (fun t (p, v) => t.setIfInBounds p v) r.tmps, defers := [] } W)
    (hbody : r.body.wpIn (F.inRound L) m P (fun e _ W3 => match e with
      | .normal => W3.heap[L]? = some (.loop { r with state := .busy }) ∧ R (.returned (.bool true)) (W3.putObj L (.loop { r with state := .ready, pending := none }))
      | .ret => W3.heap[L]? = some (.loop { r with state := .busy }) ∧ R (.returned (.bool false)) (W3.putObj L (.loop { r with state := .done, pending := some .ret }))
      | _ => False) a1 (W.putObj L (.loop { r with state := .busy }))) :
    YieldAt F m P L args W R := by
  refine ⟨r.fn, _, r.assign, r.body, run_yield hl hs, roundIn_of_wpIn hF (hassign _ ⟨_, run_beginRound hl hr, wpIn_mono hbody ?_⟩)⟩
  intro e a3 W3 h
  cases e with
  | normal => exact ⟨_, _, run_endRound none h.1, h.2⟩
  | ret => exact ⟨_, _, run_endRound (some .ret) h.1, h.2⟩
  | exit id => exact h.elim
  | goto t => exact h.elim
  | panic ch => exact h.elim
  | outgrown => exact h.elim

/-- the record of a loop, as the statement lays it in world w -/
def recOf (fn : FuncId) (a : Act) (ps : Array Tmp) (assign body : Code) (w : World) : Loop :=
  { state := .ready, pending := none, fn, tmps := a.tmps, params := ps, assign, body, defers := w.heap.size }
/-- the world in which the iterator is called -/
def rangeWorld (w : World) (r : Loop) : World := (w.alloc (.deferred (some []))).alloc (.loop r)

/-- the activation with the loop's mark -/
def marked (a : Act) (w : World) : Act := { tmps := a.tmps, defers := ({ target := Target.collected w.heap.size, args := #[] } : Deferred) :: a.defers }
/-- what the iterator is called with -/
def yielder (L : Nat) (lb : Array Value) : Array Value := #[Value.func (Fn.yield L) #[] #[]] ++ lb
/-- THE STATEMENT, at an outermost loop: the iterator is called with the loop's yield. -/
theorem range_at {F : Fence} {n : Nat} {P : Program} {g : Operand} {ps : Array Tmp} {assign body : Code} {Q : Exit → Act → World → Prop} {a : Act} {w : World}
    (hro : F.round = none) (h1 : 1 ≤ n) {gf : Nat} {lb : Array Value} (hg : a.eval g = .func (.func gf) #[] lb) (hFg : F.fn gf) (eg : ∀ args w, (callFunc gf args).run P w = .ok (.enter gf args) w)
    (h : ∀ fn, F.fn fn → CallsIn F (n - 1) P gf (yielder (w.heap.size + 1) lb) (rangeWorld w (recOf fn a ps assign body w))
      (rangePost F n P (w.heap.size + 1) Q (marked a w))) :
    (Code.rangeFunc g ps assign body).wpIn F n P Q a w := by
  refine wpIn_rangeFunc fun fn hfn => ?_
  rw [hro]
  refine ⟨w.heap.size + 1, [{ target := .collected w.heap.size, args := #[] }], rangeWorld w (recOf fn a ps assign body w), { target := .fn (.func gf) lb, args := #[.func (.yield (w.heap.size + 1)) #[] #[]] }, rangeWorld w (recOf fn a ps assign body w), gf,
    yielder (w.heap.size + 1) lb, rangeWorld w (recOf fn a ps assign body w), ?_, ?_, ?_, ?_, fun _ => h1, h fn hfn⟩
  · exact run_enterLoop_outer _ _ _ _ _
  · simp only [resolve, hg]
    simp [go_sem]
  · intro f' hf'
    simp [Target.leads] at hf'
    subst hf'
    exact hFg
  · unfold yielder
    simp [invoke, go_sem, eg]
end Go.Proofs.YtkhfjcaobjompaaDoor
