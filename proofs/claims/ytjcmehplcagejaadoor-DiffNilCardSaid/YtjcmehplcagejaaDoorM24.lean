import Derived.Test.YtjcmehplcagejaaDoorM22
import Derived.Test.YtjcmehplcagejaaDoorM23
import Derived.Test.YtjcmehplcagejaaDoorM20
/-
  CONTRACTS of package tree: through, the way through all nodes.
-/
namespace Go.Proofs.YtjcmehplcagejaaDoor
open Go.ChangeShapes Go.WideShapes Go.ChangeAt Go.RowKit
open Tr (T S4 Ent Shp)

theorem idx_kidL (a : Int) : ∀ (ks : List (Nat × T)), Sl.idx (kidL ks) a = Sl.idx ks a
  | [] => rfl
  | x :: ks => by
    have ih := idx_kidL a ks
    simp only [kidL, List.map_cons, Sl.idx] at ih ⊢
    rw [ih]
/-- a kid's address and place, or none -/
def kidP (x : Option (Nat × T)) : Nat × Option Addr := (x.map fun y => (y.1, some ⟨y.2.blk, 0, none⟩)).getD (0, none)
theorem kidL_idx (ks : List (Nat × T)) (a : Int) : ((kidL ks)[Sl.idx (kidL ks) a]?).getD (0, none) = kidP (ks[Sl.idx ks a]?) := by
  rw [idx_kidL, kidL, List.getElem?_map]
  cases ks[Sl.idx ks a]? <;> rfl
theorem nFrom_c {w : World} {B k : Nat} {t : T} (h : Mem w B k t) (hT : Tz w) (a : Int) (hlo : -9223372036854775808 ≤ a) (hhi : a ≤ 9223372036854775807) (p : Nat × Option Addr) (hp : kidP (t.ks[Sl.idx t.ks a]?) = p) :
    Calls Tryd.prog 68 #[.pointer (some ⟨t.blk, 0, none⟩), .int .i64 a] w fun e w' => e = .returned (atKid p.1 p.2) ∧ ∃ n, w' = w.drewN n := by
  subst hp
  cases h with
  | ent g q v hn =>
    refine (nFrom_ent hn a).mono fun e w' h => ⟨h.1, 0, h.2.symm⟩
  | br g l pre ks b hn ha hk => exact nFrom_br hn ha hT a hlo hhi _ (kidL_idx ks a)
/-- the cells of a node on the stack -/
def StQ (f : Nat → Option Value) (x : T × Nat) : Prop := f 0 = some (.pointer (some ⟨x.1.blk, 0, none⟩)) ∧ f 1 = some (.int .i64 (x.2 : Int))
theorem stQ_ok : QOk 2 StQ where
  ext := by
    rintro f g s h ⟨h0, h1⟩
    exact ⟨(h 0 (by omega)).symm.trans h0, (h 1 (by omega)).symm.trans h1⟩
  has := by
    rintro f s ⟨h0, h1⟩ j hj
    match j, hj with
    | 0, _ => exact ⟨_, h0, rfl⟩
    | 1, _ => exact ⟨_, h1, rfl⟩
theorem own_block (A : Option Addr) (n c : Nat) : (Value.slice A n c).ownBlock = A.map (·.block) := by cases A <;> rfl
theorem ownL_one {α : Type} {n : Nat} {Q : (Nat → Option Value) → α → Prop} {e : TypeId} {w : World} {base : Nat} (vs : Array Value) (x : α) (hb : base ≤ w.heap.size) (hs : vs.size = n) (hx : Q (fun j => vs[j]?) x) :
    OwnL e n Q (w.alloc (.cells vs e)) base (.slice (some ⟨w.heap.size, 0, none⟩) 1 1) [x] := by
  refine ⟨vs.toList, ⟨by simp [hs], fun i a ha => ?_⟩, by simp [hs], .inr ⟨w.heap.size, 1, vs, rfl, hb, heap_at w _ _ rfl, Nat.le_refl _, by unfold maxLen; omega, by simp [hs], List.take_of_length_le (by simp [hs])⟩⟩
  match i with
  | 0 =>
    simp at ha
    subst ha
    simpa using hx
  | i + 1 => simp at ha
theorem lst_at {α : Type} {n : Nat} {Q : (Nat → Option Value) → α → Prop} {e : TypeId} {w : World} (hQ : QOk n Q) (vs : Array Value) (x : α) (hs : vs.size = n) (hx : Q (fun j => vs[j]?) x) :
    Lst n Q (w.alloc (.cells vs e)) (w.heap.size + 1) (some ⟨w.heap.size, 0, none⟩) [x] := by
  obtain ⟨A, c, hv, _, hl⟩ := OwnL.rd hQ (ownL_one (e := e) (w := w) (base := w.heap.size) vs x (Nat.le_refl _) hs hx)
  simp only [Value.slice.injEq] at hv
  obtain ⟨hv, -, -⟩ := hv
  subst hv
  intro hn
  obtain ⟨b, off, hA, hb, hq⟩ := hl hn
  exact ⟨b, off, hA, by simp at hb; exact hb, hq⟩
end Go.Proofs.YtjcmehplcagejaaDoor
