import Derived.Test.YtmdohckoegpgkaaDoorM22
import Derived.Test.YtmdohckoegpgkaaDoorM24
import Derived.Test.YtmdohckoegpgkaaDoorM23
/-
  PLAIN MATHEMATICS of layer 8: a cursor as a stack of nodes and gaps, what stands ahead of it and behind it, how much is left to walk; the way down to a point.
-/
namespace Go.Proofs.YtmdohckoegpgkaaDoor.Tr
open Go.Proofs.YtmdohckoegpgkaaDoor.Z
open Go.Proofs.YtmdohckoegpgkaaDoor (levI)

/-! ### ahead of a gap, behind it -/
/-- the steps from the root down, the lowest first -/
def Steps (o : Option T) : List (T × Nat) → Prop
  | [] => o = none
  | [(t, _)] => o = some t
  | (s, _) :: (t, a) :: R => (a, s) ∈ t.ks ∧ Steps o ((t, a) :: R)
theorem ks_br {t : T} {x : Nat × T} (h : x ∈ t.ks) : ∃ g l pre ks, t = .br g l pre ks := by
  cases t with
  | ent => simp [T.ks] at h
  | br g l pre ks => exact ⟨g, l, pre, ks, rfl⟩
theorem Wf.srt {k : Nat} {t : T} (h : Wf k t) : Sl.Srt t.ks := by
  cases h with
  | ent => exact Sl.srt_nil
  | br _ _ _ _ _ hw => exact hw.srt
theorem Wf.lt16 {k : Nat} {t : T} (h : Wf k t) : ∀ x ∈ t.ks, x.1 < 65536 := by
  cases h with
  | ent => intro x hx; simp [T.ks] at hx
  | br _ _ _ _ _ hw => exact hw.lt16
theorem Wf.sub {k : Nat} {t : T} (h : Wf k t) {x : Nat × T} (hx : x ∈ t.ks) : Wf k x.2 ∧ x.2.lv < t.lv := by
  cases h with
  | ent => simp [T.ks] at hx
  | br g l pre ks h63 hw h2 hl ho hk hc => exact ⟨hk x hx, by have := (hc x hx).1; show x.2.lv < l + 1; omega⟩
/-- at most 65 steps -/
theorem steps_lv {k : Nat} {o : Option T} : ∀ {R : List (T × Nat)} {t : T} {n : Nat}, Steps o ((t, n) :: R) → (∀ x ∈ (t, n) :: R, Wf k x.1) → t.lv + R.length ≤ 64
  | [], t, n, _, hw => by have := (hw (t, n) List.mem_cons_self).lv64; simpa using this
  | (u, a) :: R, t, n, hc, hw => by
    obtain ⟨hm, hc'⟩ := hc
    have ih := steps_lv hc' fun x hx => hw x (List.mem_cons_of_mem _ hx)
    have h1 := ((hw (u, a) (List.mem_cons_of_mem _ List.mem_cons_self)).sub hm).2
    simp only at h1
    rw [List.length_cons]
    omega
theorem Steps.up {o : Option T} {s t : T} {n a : Nat} {R : List (T × Nat)} (h : Steps o ((s, n) :: (t, a) :: R)) : (a, s) ∈ t.ks ∧ Steps o ((t, a) :: R) := h

/-! ### steps -/
/-! ### how much is left -/
/-! ### the way down to a point -/
/-- from o down to o', by way of the nodes us, the last one first, each with the address at which it went on -/
inductive Way (p : List Nat) (o : Option T) : List (T × Nat) → Option T → Prop
  | start : Way p o [] o
  | step {us : List (T × Nat)} {t : T} (h : Way p o us (some t)) (hl : t.lv ≠ 0) (hc : covers t p = true) : Way p o ((t, addr p (t.lv - 1)) :: us) (kidAt t p)
theorem Way.chain {p : List Nat} {o o' : Option T} {us : List (T × Nat)} (h : Way p o us o') : (∀ s n, o' = some s → Steps o ((s, n) :: us)) ∧ (o' = none → Steps o us) := by
  induction h with
  | start => exact ⟨fun s n e => e, fun e => e⟩
  | @step us t h hl hc ih =>
    have h1 := ih.1 t (addr p (t.lv - 1)) rfl
    exact ⟨fun s n e => ⟨kidAt_mem e, h1⟩, fun _ => h1⟩
theorem Way.wf {k : Nat} {p : List Nat} {o o' : Option T} {us : List (T × Nat)} (h : Way p o us o') (ho : ∀ t, o = some t → Wf k t) : (∀ t, o' = some t → Wf k t) ∧ ∀ x ∈ us, Wf k x.1 := by
  induction h with
  | start => exact ⟨ho, fun x hx => by simp at hx⟩
  | @step us t h hl hc ih =>
    have ht := ih.1 t rfl
    refine ⟨fun s e => (kidAt_wf ht e).1, fun x hx => ?_⟩
    rcases List.mem_cons.1 hx with rfl | hx
    · exact ht
    · exact ih.2 x hx
theorem Way.len {k : Nat} {p : List Nat} {o o' : Option T} {us : List (T × Nat)} (h : Way p o us o') (ho : ∀ t, o = some t → Wf k t) : us.length ≤ 64 ∧ ∀ t, o' = some t → t.lv + us.length ≤ 64 := by
  have hw := h.wf ho
  have hc := h.chain
  cases o' with
  | none =>
    refine ⟨?_, fun t e => by cases e⟩
    cases us with
    | nil => simp
    | cons x R =>
      have h1 := steps_lv (t := x.1) (n := x.2) (hc.2 rfl) hw.2
      have h2 : x.1.lv ≠ 0 := by
        generalize hx : (none : Option T) = q at h
        generalize hy : x :: R = us at h
        cases h with
        | start => cases hy
        | step _ hl _ => cases hy; exact hl
      rw [List.length_cons]
      omega
  | some t =>
    have h1 := steps_lv (hc.1 t 0 rfl) (fun x hx => by rcases List.mem_cons.1 hx with rfl | hx; exact hw.1 t rfl; exact hw.2 x hx)
    refine ⟨by omega, fun s e => by cases e; exact h1⟩
end Go.Proofs.YtmdohckoegpgkaaDoor.Tr

/-
  CURSORS IN MEMORY ('CurM': its block, the row of its steps; 'CurAt': with the tree's nodes), and CONTRACTS of package walk, first part: last, step, up.
-/
namespace Go.Proofs.YtmdohckoegpgkaaDoor
open Go.ChangeShapes Go.WideShapes Go.ChangeAt Go.RowKit
open Tr (T S4 Ent)

theorem block_set {w : World} {g i : Nat} {cs : Array Value} {t : TypeId} {fr : Nat × Nat} (h : w.heap[g]? = some (.cells cs t fr)) (v : Value) :
    (w.setCell ⟨g, i, none⟩ v).heap[g]? = some (.cells (cs.setIfInBounds i v) t fr) := by
  simp [World.setCell, Array.getElem?_modify, h]
/-! ### last, up, step -/
end Go.Proofs.YtmdohckoegpgkaaDoor
