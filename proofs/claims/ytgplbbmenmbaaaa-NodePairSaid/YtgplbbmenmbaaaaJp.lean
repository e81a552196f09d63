/-
  A SCOPE WITH ONE LABEL TO WHICH THE RUN JUMPS BACK: the way from the label on is walked once, for the first coming as well.
-/
import Derived.ScopeJumps
import Derived.WalkMore
namespace Go.Proofs.Ytgplbbmenmbaaaa
theorem wp_scope_back {P : Program} {a : Act} {w : World} {Q : Exit → Act → World → Prop} {c rest : Code} (l : Nat) (J : Act → World → Prop) (μ : Act → World → Nat) (hf : findLabel c l = some rest)
    (pass : ∀ a w, J a w → rest.wp P (Exit.jump l (fun a' w' => J a' w' ∧ μ a' w' < μ a w) Q) a w)
    (first : (∀ a w, J a w → rest.wp P (Exit.jump l J Q) a w) → c.wp P (Exit.jump l J Q) a w) : (Code.scope c).wp P Q a w := by
  refine wp_scope_jumps l J μ hf (first fun a w h => ?_) pass
  refine Code.wp_mono (fun e a w h => ?_) (pass a w h)
  cases e <;> first | exact h | exact ⟨h.1, h.2.1⟩
/-- the same, the label at the head of what follows it -/
theorem wp_scope_back1 {P : Program} {a : Act} {w : World} {Q : Exit → Act → World → Prop} {c rest : Code} (l : Nat) (J : Act → World → Prop) (μ : Act → World → Nat) (hf : findLabel c l = some (.seq .skip rest))
    (pass : ∀ a w, J a w → rest.wp P (Exit.jump l (fun a' w' => J a' w' ∧ μ a' w' < μ a w) Q) a w)
    (first : (∀ a w, J a w → rest.wp P (Exit.jump l J Q) a w) → c.wp P (Exit.jump l J Q) a w) : (Code.scope c).wp P Q a w := by
  refine wp_scope_jumps l J μ hf (first fun a w h => ?_) fun a w h => ?_
  · refine Code.wp_mono (fun e a w h => ?_) (pass a w h)
    cases e <;> first | exact h | exact ⟨h.1, h.2.1⟩
  · refine wp_seq ?_
    refine wp_skip ?_
    exact pass a w h
end Go.Proofs.Ytgplbbmenmbaaaa
