import Derived.Test.YtccefboifhfkdaaDoorM44
/-
  THE LAW NodeWith, at arguments laid open.
-/
namespace Go.Proofs.YtccefboifhfkdaaDoor
open Go.ChangeShapes Go.WideShapes Go.ChangeAt Go.RowKit
open Tr (T S4 Ent)

theorem nodeWith_c {w : World} {A : Option Addr} {c : Nat} {a : Int} {L : List Ent} (hT : Tz w) (h : Ents w w.heap.size A L) (hl : L.length ≤ maxLen) (hcap : L.length ≤ c) :
    Calls Tryd.prog 3 #[.slice A L.length c, .int .i64 a] w fun e w' => e = .returned (.bool true) ∧ Below w.heap.size w w' := by
  by_cases hs : heavyW 30 L = true ∨ L.length < 2
  · exact nodeWith_skip h hl hs
  · have hh : heavyW 30 L = false := by
      rcases hx : heavyW 30 L with _ | _
      · rfl
      · exact absurd (.inl hx) hs
    have hl2 : 2 ≤ L.length := by
      rcases Nat.lt_or_ge L.length 2 with h2 | h2
      · exact absurd (.inr h2) hs
      · exact h2
    have hl3 : L.length ≤ 30 := by
      have := of_decide_eq_false hh
      simp only [not_or] at this
      omega
    by_cases hall : ∀ e ∈ L, 1 ≤ e.1.length ∧ e.1.length ≤ 16
    · obtain ⟨e0, he0⟩ := get_lt (us := L) (k := 0) (by omega)
      obtain ⟨e1, he1⟩ := get_lt (us := L) (k := 1) (by omega)
      have two : ∀ (P : Ent → Ent → Prop), P e0 e1 → ∀ (x y : Ent), L[0]? = some x → L[1]? = some y → P x y := fun P hp x y hx hy => by
        rw [he0] at hx
        rw [he1] at hy
        cases hx
        cases hy
        exact hp
      by_cases hk : e0.1.length = e1.1.length
      · by_cases hne : e0.1 = e1.1
        · exact nodeWith_same h hh hl3 hl2 hall (two (fun x y => x.1 = y.1) hne)
        · exact nodeWith_go h hh hl3 hl2 hT hcap hall (two (fun x y => x.1.length = y.1.length) hk) (two (fun x y => x.1 ≠ y.1) hne)
      · exact nodeWith_dim01 h hh hl3 hl2 hall (two (fun x y => x.1.length ≠ y.1.length) hk)
    · refine nodeWith_none h hh hl3 hl2 ?_
      refine Classical.byContradiction fun hn => hall fun e he => ?_
      refine Classical.byContradiction fun h2 => hn ⟨e, he, h2⟩
end Go.Proofs.YtccefboifhfkdaaDoor
