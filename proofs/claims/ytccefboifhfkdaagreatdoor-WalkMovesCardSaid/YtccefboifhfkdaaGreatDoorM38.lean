import Derived.Test.YtccefboifhfkdaaGreatDoorM16
import Derived.Test.YtccefboifhfkdaaGreatDoorM17
import Derived.ChangeSame
/-
  HOW A LIST OF ENTRIES AMONG A LAW's ARGUMENTS IS OPENED.
-/
namespace Go.Proofs.YtccefboifhfkdaaGreatDoor
open Go.ChangeShapes Go.WideShapes Go.ChangeAt Go.RowKit
open Tr (T S4 Ent)

theorem cells_entry : Tryz.prog.cellsOf 36 = 2 := by kernel_rfl
theorem cells_eu64 : Tryz.prog.cellsOf 34 = 1 := by kernel_rfl
set_option maxRecDepth 100000 in
/-- an argument of type []api.Entry -/
theorem open_entries {H : Type} {enc : TypeId × Value → H} {W : World} {v : Value} {d : DataW H} {ps : List MemPlace} (hv : Value.okWide Tryz.prog W .any 0 27 v) (h : DataW.Trod enc Tryz.prog W 0 (fun _ => true) true 27 v d ps) :
    ∃ (A : Option Addr) (c : Nat) (l : List Ent), v = .slice A l.length c ∧ l.length ≤ maxLen ∧ (Ents W W.heap.size A l ∧ l.length ≤ c) := by
  obtain ⟨a, len, cap, rfl⟩ := okWide_slice Tryz.underlying27 hv
  obtain ⟨fuel, hf⟩ := h
  obtain ⟨A, c, l, hcs, hm, hc, hl⟩ := open_list (α := Ent) (n := 2) (EntQ W W.heap.size) Tryz.underlying27 cells_entry (by decide) (fun fuel cs x f hlen ht hc => by
      obtain ⟨y0, y1, n, -, -, g0, g1⟩ := trod_struct2 Tryz.underlying36 ht
      match cs, hlen with
      | [v0, v1], _ =>
        simp [cells_u64s, cells_eu64] at g0 g1
        obtain ⟨A, c, us, e0, m0, p0⟩ := open_u64s g0
        obtain ⟨n1, e1, _, w1⟩ := DataW.trod_int Tryz.underlying34 g1
        simp at e0 e1
        subst e0 e1
        have b1 := bounds_u64 w1
        refine ⟨(us, n1.toNat), A, c, ?_, ?_, p0, m0, by simp only; omega⟩
        · rw [hc 0 (by decide)]; rfl
        · rw [hc 1 (by decide)]; simp only [List.getElem?_cons_succ, List.getElem?_cons_zero]; rw [Int.toNat_of_nonneg (by omega)]) hf
  simp [Value.cells] at hcs
  obtain ⟨rfl, rfl, rfl⟩ := hcs
  exact ⟨_, _, l, rfl, hm, hl, hc⟩
end Go.Proofs.YtccefboifhfkdaaGreatDoor

/-
  MOVES OF A CURSOR: how a list of them among a law's arguments is opened, and is kept.
-/
namespace Go.Proofs.YtccefboifhfkdaaGreatDoor
open Go.ChangeShapes Go.WideShapes Go.ChangeAt Go.RowKit

/-- a move: its kind, a point -/
structure MoveT where
  kind : Nat
  p : List Nat
def MoveQ (w : World) (B : Nat) (f : Nat → Option Value) (a : MoveT) : Prop :=
  ∃ A c, f 0 = some (.int .u8 (a.kind : Int)) ∧ f 1 = some (.slice A a.p.length c) ∧ Pts w B A a.p ∧ a.p.length ≤ maxLen
def MovesT (w : World) (B : Nat) (A : Option Addr) (L : List MoveT) : Prop := Lst 2 (MoveQ w B) w B A L
theorem MovesT.keep {w w' : World} {B B' : Nat} {A : Option Addr} {L : List MoveT} (h : MovesT w B A L) (hB : B ≤ B') (hw : ∀ p : Addr, p.block < B → w'.cell? p = w.cell? p) : MovesT w' B' A L := by
  intro hn
  obtain ⟨b, off, hA, hb, hq⟩ := h hn
  refine ⟨b, off, hA, by omega, fun i a ha => ?_⟩
  obtain ⟨A', c, h0, h1, h2, h3⟩ := hq i a ha
  exact ⟨A', c, (hw _ hb).trans h0, (hw _ hb).trans h1, h2.keep hB hw, h3⟩
theorem MovesT.below {w w' : World} {B B' C : Nat} {A : Option Addr} {L : List MoveT} (h : MovesT w B A L) (hb : Below C w w') (hC : B ≤ C) (hB : B ≤ B') : MovesT w' B' A L :=
  h.keep hB fun _ hp => hb.cell (Nat.lt_of_lt_of_le hp hC)
theorem MovesT.drew {w : World} {B : Nat} {A : Option Addr} {L : List MoveT} (h : MovesT w B A L) : MovesT w.drew B A L := h
theorem MovesT.at {w : World} {B : Nat} {A : Option Addr} {L : List MoveT} (h : MovesT w B A L) {i : Nat} {a : MoveT} (ha : L[i]? = some a) :
    ∃ b off A' c', A = some ⟨b, off, none⟩ ∧ b < B ∧ w.cell? ⟨b, off + i * 2, none⟩ = some (.int .u8 (a.kind : Int)) ∧ w.cell? ⟨b, off + i * 2 + 1, none⟩ = some (.slice A' a.p.length c') ∧ Pts w B A' a.p ∧ a.p.length ≤ maxLen := by
  obtain ⟨b, off, hA, hb, hq⟩ := h (by rintro rfl; simp at ha)
  obtain ⟨A', c', h0, h1, h2, h3⟩ := hq i a ha
  exact ⟨b, off, A', c', hA, hb, h0, h1, h2, h3⟩
theorem cells_moveT : Tryz.prog.cellsOf 47 = 2 := by kernel_rfl
theorem cells_tu8 : Tryz.prog.cellsOf 5 = 1 := by kernel_rfl
theorem cells_tp8 : Tryz.prog.cellsOf 23 = 1 := by kernel_rfl
set_option maxRecDepth 100000 in
/-- an argument of type []Move -/
theorem open_moves {H : Type} {enc : TypeId × Value → H} {W : World} {v : Value} {d : DataW H} {ps : List MemPlace} (hv : Value.okWide Tryz.prog W .any 0 43 v) (h : DataW.Trod enc Tryz.prog W 0 (fun _ => true) true 43 v d ps) :
    ∃ (A : Option Addr) (c : Nat) (l : List MoveT), v = .slice A l.length c ∧ l.length ≤ maxLen ∧ MovesT W W.heap.size A l := by
  obtain ⟨a, len, cap, rfl⟩ := okWide_slice Tryz.underlying43 hv
  obtain ⟨fuel, hf⟩ := h
  obtain ⟨A, c, l, hcs, hm, _, hl⟩ := open_list (α := MoveT) (n := 2) (MoveQ W W.heap.size)
    Tryz.underlying43 cells_moveT (by decide) (fun fuel cs x f hlen ht hc => by
      obtain ⟨y0, y1, n, -, -, g0, g1⟩ := trod_struct2 Tryz.underlying47 ht
      match cs, hlen with
      | [v0, v1], _ =>
        simp [cells_tu8, cells_tp8] at g0 g1
        obtain ⟨n2, e0, _, w2⟩ := DataW.trod_int Tryz.underlying5 g0
        obtain ⟨A, c, us, e1, m1, p1⟩ := open_u64s g1
        simp at e0 e1
        subst e0 e1
        have b2 : 0 ≤ n2 := by simp [Lit.wf] at w2; first | exact w2.1 | omega
        refine ⟨⟨n2.toNat, us⟩, A, c, ?_, ?_, p1, m1⟩
        · rw [hc 0 (by decide)]; simp only [List.getElem?_cons_zero]; rw [Int.toNat_of_nonneg (by omega)]
        · rw [hc 1 (by decide)]; rfl) hf
  simp [Value.cells] at hcs
  obtain ⟨rfl, rfl, rfl⟩ := hcs
  exact ⟨_, _, l, rfl, hm, hl⟩
end Go.Proofs.YtccefboifhfkdaaGreatDoor
