import Derived.Test.YtjcmehplcagejaaGreatDoorM67
import Derived.Test.YtjcmehplcagejaaGreatDoorM32
import Derived.Test.YtjcmehplcagejaaGreatDoorM33
/-
  CONTRACTS of package rank, ninth part: Range. Laid by wip/gen41.py.
-/
namespace Go.Proofs.YtjcmehplcagejaaGreatDoor
open Go.ChangeShapes Go.WideShapes Go.ChangeAt Go.RowKit
open Tr (T S4 Ent)

/-- a list of entries and its points, in new blocks -/
def NewR (base : Nat) (w : World) (A : Option Addr) (c : Nat) (L : List Ent) : Prop :=
  OwnL 53 2 (EntG w (fun b => base ≤ b ∧ A.map (·.block) ≠ some b)) w base (.slice A L.length c) L
theorem NewR.mono {base base' : Nat} {w : World} {A : Option Addr} {c : Nat} {L : List Ent} (h : NewR base w A c L) (hb : base' ≤ base) : NewR base' w A c L :=
  (OwnL.mono h hb).imp (EntG.step (Nat.le_refl _) fun _ _ hG => ⟨rfl, Nat.le_trans hb hG.1, hG.2⟩)
theorem NewR.ents {base : Nat} {w : World} {A : Option Addr} {c : Nat} {L : List Ent} (h : NewR base w A c L) : Ents w w.heap.size A L := by
  obtain ⟨A', c', hv, -, hl⟩ := OwnL.rd (entG_ok _ _) h
  simp only [Value.slice.injEq] at hv
  obtain ⟨rfl, -, -⟩ := hv
  intro hn
  obtain ⟨b, off, h1, h2, h3⟩ := hl hn
  refine ⟨b, off, h1, h2, fun i a ha => ?_⟩
  obtain ⟨A', c'', h4, h5, h6, h7⟩ := h3 i a ha
  exact ⟨A', c'', h4, h5, h6.pts, h7⟩
/-- A LIST THAT GROWS BY WHAT A CURSOR TELLS -/
structure RngA (w : World) (g k : Nat) (kk : Int) (o : Option T) (Lw : List Ent) (L1 : List Ent) (x : Option Ent) (S : List (T × Nat)) (D : Option Addr) (d : Nat) (R : Option Addr) (c : Nat) (eb : Nat) (wr : World) : Prop where
  cur : CurAt wr w.heap.size g k kk o S D d
  whole : L1 ++ (x.toList ++ Tr.aft S) = Lw
  stop : x = none → Tr.aft S = []
  row : OwnL 53 2 (EntG wr (Fr w.heap.size R g D)) wr w.heap.size (.slice R L1.length c) L1
  rg : ∀ b, R.map (·.block) = some b → ¬ Cf g D b ∧ b ≠ eb
  ent : CurE wr (Fr w.heap.size R g D) eb x
  ebn : ¬ Cf g D eb ∧ w.heap.size ≤ eb
  bel : Below w.heap.size w wr
/-- behind the append of a round -/
structure RngM (w : World) (g k : Nat) (kk : Int) (o : Option T) (Lw : List Ent) (L1 : List Ent) (S : List (T × Nat)) (D : Option Addr) (d : Nat) (R : Option Addr) (c : Nat) (eb : Nat) (P : Option Addr) (n nn v : Nat) (wr : World) : Prop where
  cur : CurAt wr w.heap.size g k kk o S D d
  whole : L1 ++ Tr.aft S = Lw
  row : OwnL 53 2 (EntG wr (Fr w.heap.size R g D)) wr w.heap.size (.slice R L1.length c) L1
  rg : ∀ b, R.map (·.block) = some b → ¬ Cf g D b
  blk : wr.heap[eb]? = some (.cells #[.slice P n nn, .int .u64 (v : Int)] 53 (0, 0))
  bel : Below w.heap.size w wr
theorem RngA.app {w : World} {g k : Nat} {kk : Int} {o : Option T} {Lw : List Ent} {L1 : List Ent} {y : Ent} {S : List (T × Nat)} {D : Option Addr} {d : Nat} {R : Option Addr} {c eb : Nat} {wr w5 : World} {P : Option Addr} {nn d5 : Nat} {D5 : Option Addr} {ob : Obj} {M : Nat}
    (h : RngA w g k kk o Lw L1 (some y) S D d R c eb wr) (hblk : wr.heap[eb]? = some (.cells #[.slice P y.1.length nn, .int .u64 (y.2 : Int)] 53 (0, 0)))
    (hown : OwnL 53 2 (EntG wr (Fr w.heap.size R g D)) w5 w.heap.size (.slice D5 M d5) (L1 ++ [y])) (hM : M = (L1 ++ [y]).length) (hgr : (wr.alloc ob).grownBy w5 (Value.slice R L1.length c).ownBlock)
    (hat : (Value.slice D5 M d5).ownBlock = (Value.slice R L1.length c).ownBlock ∨ (Value.slice D5 M d5).ownBlock = some (wr.alloc ob).heap.size) :
    RngM w g k kk o Lw (L1 ++ [y]) S D d D5 d5 eb P y.1.length nn y.2 w5 := by
  subst hM
  rw [own_block, own_block] at hat
  rw [own_block] at hgr
  have hsz : (wr.alloc ob).heap.size = wr.heap.size + 1 := by simp
  have hs5 : wr.heap.size ≤ w5.heap.size := Nat.le_trans (by omega) hgr.size
  have hb : ∀ b, b < wr.heap.size → R.map (·.block) ≠ some b → w5.heap[b]? = wr.heap[b]? := fun b hb hn => (hgr.block b (by omega) (fun e => hn e.symm)).trans (Below.heap_alloc _ _ _ hb)
  have hebw := (Array.getElem?_eq_some_iff.1 hblk).1
  have hR : ∀ b, R.map (·.block) = some b → w.heap.size ≤ b := fun b hb => (h.row.lt b (by rw [own_block]; exact hb)).1
  have hbel : Below w.heap.size wr w5 := ⟨hgr.os, hgr.tape, hgr.output, hs5, fun b hb' => hb b (Nat.lt_of_lt_of_le hb' h.bel.size) (fun e => by have := hR b e; omega)⟩
  refine ⟨h.cur.keep hbel fun b hb' => hb b (h.cur.mem.lt b hb').2 (fun e => (h.rg b e).1 hb'), ?_, ?_, fun b hb' => ?_, ?_, h.bel.trans hbel⟩
  · rw [← h.whole]; simp
  · refine hown.imp (EntG.step hs5 fun b hb' hG => ⟨hb b hb' hG.1, ?_, hG.2⟩)
    rcases hat with e | e
    · rw [e]; exact hG.1
    · rw [e]; intro e'; simp only [Option.some.injEq] at e'; omega
  · rcases hat with e | e
    · rw [e] at hb'; exact (h.rg b hb').1
    · rw [e] at hb'; simp only [Option.some.injEq] at hb'; intro hc; have := (h.cur.mem.lt b hc).2; omega
  · rw [hb eb hebw (fun e => (h.rg eb e).2 rfl)]; exact hblk
theorem RngM.lt {w : World} {g k : Nat} {kk : Int} {o : Option T} {Lw : List Ent} {L1 : List Ent} {S : List (T × Nat)} {D : Option Addr} {d : Nat} {R : Option Addr} {c eb : Nat} {P : Option Addr} {n nn v : Nat} {wr : World} (h : RngM w g k kk o Lw L1 S D d R c eb P n nn v wr) : ∀ b, R.map (·.block) = some b → w.heap.size ≤ b ∧ b < wr.heap.size := fun b hb => h.row.lt b (by rw [own_block]; exact hb)
/-- A LIST THAT GROWS BY WHAT A CURSOR TELLS, between two rounds -/
structure RngI (w : World) (g k : Nat) (kk : Int) (o : Option T) (Lw : List Ent) (L1 : List Ent) (S : List (T × Nat)) (D : Option Addr) (d : Nat) (R : Option Addr) (c : Nat) (wr : World) : Prop where
  cur : CurAt wr w.heap.size g k kk o S D d
  whole : L1 ++ Tr.aft S = Lw
  row : OwnL 53 2 (EntG wr (Fr w.heap.size R g D)) wr w.heap.size (.slice R L1.length c) L1
  rg : ∀ b, R.map (·.block) = some b → ¬ Cf g D b
  bel : Below w.heap.size w wr
theorem RngI.next {w : World} {g k : Nat} {kk : Int} {o : Option T} {Lw : List Ent} {L1 : List Ent} {S : List (T × Nat)} {D : Option Addr} {d : Nat} {R : Option Addr} {c : Nat} {wr : World} (h : RngI w g k kk o Lw L1 S D d R c wr)
    {x : Option Ent} {S' : List (T × Nat)} {D' : Option Addr} {d' : Nat} {P' : Option Addr} {n' dd' v' : Nat} {w7 : World} (hc : CurAt w7 w.heap.size g k kk o S' D' d') (hf : Foot (Cf g D) wr w7) (hr : ∀ b, Cf g D' b → Cf g D b ∨ wr.heap.size ≤ b)
    (ht : Telt wr w7 g D' x P' n' dd' v') (hx : (Tr.aft S).head? = x) (ha : Tr.aft S' = (Tr.aft S).drop 1) :
    RngA w g k kk o Lw L1 x S' D' d' R c w7.heap.size (w7.alloc (.cells #[.slice P' n' dd', .int .u64 (v' : Int)] 53)) := by
  have hal := below_alloc w7 (.cells #[.slice P' n' dd', .int .u64 (v' : Int)] 53)
  have q7 := hf.size
  have qw := h.bel.size
  have hsz : (w7.alloc (.cells #[.slice P' n' dd', .int .u64 (v' : Int)] 53)).heap.size = w7.heap.size + 1 := by simp
  have hlt : ∀ b, R.map (·.block) = some b → w.heap.size ≤ b ∧ b < wr.heap.size := fun b hb => h.row.lt b (by rw [own_block]; exact hb)
  have h7 : Below w.heap.size wr w7 := hf.below qw fun b hb => (h.cur.mem.lt b hb).1
  have hold : ∀ b, b < wr.heap.size → ¬ Cf g D b → (w7.alloc (.cells #[.slice P' n' dd', .int .u64 (v' : Int)] 53)).heap[b]? = wr.heap[b]? := fun b hb hn => by
    rw [hal.block b (by omega), hf.block b hb hn]
  have hfr : ∀ b, b < wr.heap.size → ¬ Cf g D b → ¬ Cf g D' b := fun b hb hn hc => by
    rcases hr b hc with hb' | hb'
    · exact hn hb'
    · omega
  refine ⟨hc.below hal, ?_, fun e => ?_, ?_, fun b hb => ?_, ?_, ⟨fun hb => ?_, by omega⟩, h.bel.trans (h7.trans (hal.mono (by omega)))⟩
  · rw [← h.whole, ha, ← hx]
    cases Tr.aft S <;> rfl
  · rw [ha]
    cases hS : Tr.aft S with
    | nil => rfl
    | cons a l => rw [hS, e] at hx; cases hx
  · refine (h.row.block fun q hq => ?_).imp (EntG.step (by omega) fun b hb hG => ⟨hold b hb hG.2.1, hG.1, hfr b hb hG.2.1, hG.2.2⟩)
    rw [own_block] at hq
    exact hold q (hlt q hq).2 (h.rg q hq)
  · exact ⟨hfr b (hlt b hb).2 (h.rg b hb), by have := (hlt b hb).2; omega⟩
  · cases x with
    | none =>
      obtain ⟨rfl, rfl, rfl, rfl⟩ := ht
      exact heap_at w7 _ _ rfl
    | some y =>
      obtain ⟨rfl, rfl, hh, rfl, ho, hn⟩ := ht
      have hh1 := (ho.2.lt hh rfl).1
      refine ⟨_, _, heap_at w7 _ _ rfl, (Own.ptsG (G := Fr w.heap.size R g D') ho ⟨fun e => ?_, hn, by omega⟩).step hal.size (fun b hb hG => ⟨hal.block b hb, hG⟩)⟩
      have := (hlt hh e).2; omega
  · have := (hc.mem.lt _ hb).2; omega
end Go.Proofs.YtjcmehplcagejaaGreatDoor
