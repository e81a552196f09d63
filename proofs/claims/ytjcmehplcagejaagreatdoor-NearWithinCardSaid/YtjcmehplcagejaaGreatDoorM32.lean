import Derived.Test.YtjcmehplcagejaaGreatDoorM31
import Derived.Test.YtjcmehplcagejaaGreatDoorM16
/-
  CONTRACTS of package walk: All, a list that grows while a cursor moves. Laid by wip/gen23.py.
-/
namespace Go.Proofs.YtjcmehplcagejaaGreatDoor
open Go.ChangeShapes Go.WideShapes Go.ChangeAt Go.RowKit
open Tr (T S4 Ent)

/-- a point in memory, in one of the blocks G -/
def PtsG (w : World) (G : Nat → Prop) (A : Option Addr) (us : List Nat) : Prop :=
  Z.Ok us ∧ (us ≠ [] → ∃ b off, A = some ⟨b, off, none⟩ ∧ G b ∧ b < w.heap.size ∧ ∀ (i u : Nat), us[i]? = some u → w.cell? ⟨b, off + i, none⟩ = some (.int .u64 (u : Int)))
theorem PtsG.pts {w : World} {G : Nat → Prop} {A : Option Addr} {us : List Nat} (h : PtsG w G A us) : Pts w w.heap.size A us :=
  ⟨h.1, fun hn => by obtain ⟨b, off, h1, _, h3, h4⟩ := h.2 hn; exact ⟨b, off, h1, h3, h4⟩⟩
theorem PtsG.step {w w' : World} {G G' : Nat → Prop} {A : Option Addr} {us : List Nat} (h : PtsG w G A us) (hs : w.heap.size ≤ w'.heap.size) (hk : ∀ b, b < w.heap.size → G b → w'.heap[b]? = w.heap[b]? ∧ G' b) : PtsG w' G' A us :=
  ⟨h.1, fun hn => by
    obtain ⟨b, off, h1, h2, h3, h4⟩ := h.2 hn
    obtain ⟨h5, h6⟩ := hk b h3 h2
    exact ⟨b, off, h1, h6, by omega, fun i u hu => (World.cell?_of_block (a := ⟨b, off + i, none⟩) h5).trans (h4 i u hu)⟩⟩
theorem Own.ptsG {w : World} {base h n d : Nat} {us : List Nat} {G : Nat → Prop} (ho : Own w base (.slice (some ⟨h, 0, none⟩) n d) us) (hG : G h) : PtsG w G (some ⟨h, 0, none⟩) us := by
  obtain ⟨A, c, hv, hp⟩ := ho.pts
  simp only [Value.slice.injEq] at hv
  obtain ⟨rfl, -, -⟩ := hv
  refine ⟨hp.1, fun hn => ?_⟩
  obtain ⟨b, off, h1, h2, h3⟩ := hp.2 hn
  simp only [Option.some.injEq, Addr.mk.injEq, and_true] at h1
  obtain ⟨rfl, rfl⟩ := h1
  exact ⟨h, 0, rfl, hG, h2, h3⟩
def EntG (w : World) (G : Nat → Prop) (f : Nat → Option Value) (e : Ent) : Prop :=
  ∃ A c, f 0 = some (.slice A e.1.length c) ∧ f 1 = some (.int .u64 (e.2 : Int)) ∧ PtsG w G A e.1 ∧ e.1.length ≤ maxLen ∧ e.2 < 18446744073709551616
theorem entG_ok (w : World) (G : Nat → Prop) : QOk 2 (EntG w G) where
  ext := by
    rintro f g a h ⟨A, c, h0, h1, r⟩
    exact ⟨A, c, by rw [← h 0 (by omega)]; exact h0, by rw [← h 1 (by omega)]; exact h1, r⟩
  has := by
    rintro f a ⟨A, c, h0, h1, r⟩ j hj
    match j, hj with
    | 0, _ => exact ⟨_, h0, rfl⟩
    | 1, _ => exact ⟨_, h1, rfl⟩
theorem EntG.step {w w' : World} {G G' : Nat → Prop} (hs : w.heap.size ≤ w'.heap.size) (hk : ∀ b, b < w.heap.size → G b → w'.heap[b]? = w.heap[b]? ∧ G' b) : ∀ f e, EntG w G f e → EntG w' G' f e := by
  rintro f e ⟨A, c, h0, h1, h2, r⟩
  exact ⟨A, c, h0, h1, h2.step hs hk, r⟩
/-- the blocks that neither a list nor a cursor writes to -/
def Fr (w0 : Nat) (R : Option Addr) (g : Nat) (D : Option Addr) : Nat → Prop := fun b => R.map (·.block) ≠ some b ∧ ¬ Cf g D b ∧ w0 ≤ b
/-- what the variable of a round holds -/
def CurE (w : World) (G : Nat → Prop) (eb : Nat) (x : Option Ent) : Prop := match x with
  | none => w.heap[eb]? = some (.cells #[.slice none 0 0, .int .u64 0] 53 (0, 0))
  | some y => ∃ P n, w.heap[eb]? = some (.cells #[.slice P y.1.length n, .int .u64 (y.2 : Int)] 53 (0, 0)) ∧ PtsG w G P y.1
/-- A LIST THAT GROWS BY WHAT A CURSOR TELLS -/
structure AllI (w : World) (g k : Nat) (kk : Int) (o : Option T) (L1 : List Ent) (x : Option Ent) (S : List (T × Nat)) (D : Option Addr) (d : Nat) (R : Option Addr) (c : Nat) (eb : Nat) (wr : World) : Prop where
  cur : CurAt wr w.heap.size g k kk o S D d
  whole : L1 ++ (x.toList ++ Tr.aft S) = Tr.entsO o
  stop : x = none → Tr.aft S = []
  row : OwnL 53 2 (EntG wr (Fr w.heap.size R g D)) wr w.heap.size (.slice R L1.length c) L1
  rg : ∀ b, R.map (·.block) = some b → ¬ Cf g D b ∧ b ≠ eb
  ent : CurE wr (Fr w.heap.size R g D) eb x
  ebn : ¬ Cf g D eb ∧ w.heap.size ≤ eb
  bel : Below w.heap.size w wr
/-- behind the append of a round -/
structure AllM (w : World) (g k : Nat) (kk : Int) (o : Option T) (L1 : List Ent) (S : List (T × Nat)) (D : Option Addr) (d : Nat) (R : Option Addr) (c : Nat) (eb : Nat) (P : Option Addr) (n nn v : Nat) (wr : World) : Prop where
  cur : CurAt wr w.heap.size g k kk o S D d
  whole : L1 ++ Tr.aft S = Tr.entsO o
  row : OwnL 53 2 (EntG wr (Fr w.heap.size R g D)) wr w.heap.size (.slice R L1.length c) L1
  rg : ∀ b, R.map (·.block) = some b → ¬ Cf g D b
  blk : wr.heap[eb]? = some (.cells #[.slice P n nn, .int .u64 (v : Int)] 53 (0, 0))
  bel : Below w.heap.size w wr
theorem AllI.app {w : World} {g k : Nat} {kk : Int} {o : Option T} {L1 : List Ent} {y : Ent} {S : List (T × Nat)} {D : Option Addr} {d : Nat} {R : Option Addr} {c eb : Nat} {wr w5 : World} {P : Option Addr} {nn d5 : Nat} {D5 : Option Addr} {ob : Obj} {M : Nat}
    (h : AllI w g k kk o L1 (some y) S D d R c eb wr) (hblk : wr.heap[eb]? = some (.cells #[.slice P y.1.length nn, .int .u64 (y.2 : Int)] 53 (0, 0)))
    (hown : OwnL 53 2 (EntG wr (Fr w.heap.size R g D)) w5 w.heap.size (.slice D5 M d5) (L1 ++ [y])) (hM : M = (L1 ++ [y]).length) (hgr : (wr.alloc ob).grownBy w5 (Value.slice R L1.length c).ownBlock)
    (hat : (Value.slice D5 M d5).ownBlock = (Value.slice R L1.length c).ownBlock ∨ (Value.slice D5 M d5).ownBlock = some (wr.alloc ob).heap.size) :
    AllM w g k kk o (L1 ++ [y]) S D d D5 d5 eb P y.1.length nn y.2 w5 := by
  subst hM
  rw [own_block, own_block] at hat
  rw [own_block] at hgr
  have hsz : (wr.alloc ob).heap.size = wr.heap.size + 1 := by simp
  have hs5 : wr.heap.size ≤ w5.heap.size := Nat.le_trans (by omega) hgr.size
  have hb : ∀ b, b < wr.heap.size → R.map (·.block) ≠ some b → w5.heap[b]? = wr.heap[b]? := fun b hb hn => (hgr.block b (by omega) (fun e => hn e.symm)).trans (Below.heap_alloc _ _ _ hb)
  have hebw := (Array.getElem?_eq_some_iff.1 hblk).1
  have hR : ∀ b, R.map (·.block) = some b → w.heap.size ≤ b := fun b hb => (h.row.lt b (by rw [own_block]; exact hb)).1
  have hbel : Below w.heap.size wr w5 := ⟨hgr.os, hgr.tape, hgr.output, hs5, fun b hb' => hb b (Nat.lt_of_lt_of_le hb' h.bel.size) (fun e => by have := hR b e; omega)⟩
  refine ⟨h.cur.keep hbel fun b hb' => hb b (h.cur.mem.lt b hb').2 (fun e => (h.rg b e).1 hb'), ?_, ?_, fun b hb' => ?_, ?_, h.bel.trans hbel⟩
  · rw [← h.whole]; simp
  · refine hown.imp (EntG.step hs5 fun b hb' hG => ⟨hb b hb' hG.1, ?_, hG.2⟩)
    rcases hat with e | e
    · rw [e]; exact hG.1
    · rw [e]; intro e'; simp only [Option.some.injEq] at e'; omega
  · rcases hat with e | e
    · rw [e] at hb'; exact (h.rg b hb').1
    · rw [e] at hb'; simp only [Option.some.injEq] at hb'; intro hc; have := (h.cur.mem.lt b hc).2; omega
  · rw [hb eb hebw (fun e => (h.rg eb e).2 rfl)]; exact hblk
theorem AllM.lt {w : World} {g k : Nat} {kk : Int} {o : Option T} {L1 : List Ent} {S : List (T × Nat)} {D : Option Addr} {d : Nat} {R : Option Addr} {c eb : Nat} {P : Option Addr} {n nn v : Nat} {wr : World} (h : AllM w g k kk o L1 S D d R c eb P n nn v wr) : ∀ b, R.map (·.block) = some b → w.heap.size ≤ b ∧ b < wr.heap.size := fun b hb => h.row.lt b (by rw [own_block]; exact hb)
/-- what a move tells, as values -/
def Telt (w w' : World) (g : Nat) (D : Option Addr) (x : Option Ent) (P : Option Addr) (n dd v : Nat) : Prop := match x with
  | none => P = none ∧ n = 0 ∧ dd = 0 ∧ v = 0
  | some y => n = y.1.length ∧ v = y.2 ∧ ∃ hh, P = some ⟨hh, 0, none⟩ ∧ Own w' w.heap.size (.slice P n dd) y.1 ∧ ¬ Cf g D hh
theorem next_some {w : World} {B g k : Nat} {kk : Int} {o : Option T} {S0 : List (T × Nat)} {D0 : Option Addr} {d0 : Nat} (h : CurAt w B g k kk o S0 D0 d0) (hT : ∀ w', Below B w w' → Tz w') {y : Ent} {L : List Ent} (ha : Tr.aft S0 = y :: L) :
    Calls Tryz.prog 179 #[.pointer (some ⟨g, 0, none⟩)] w fun e w' => ∃ hh dd, e = .returned (.tuple #[entryV (some ⟨hh, 0, none⟩) y.1.length dd y.2, .bool true]) ∧
      ∃ S D d, CurAt w' B g k kk o S D d ∧ Foot (Cf g D0) w w' ∧ (∀ b, Cf g D b → Cf g D0 b ∨ w.heap.size ≤ b) ∧ Own w' w.heap.size (.slice (some ⟨hh, 0, none⟩) y.1.length dd) y.1 ∧ ¬ Cf g D hh ∧ Tr.bef S = Tr.bef S0 ++ [y] ∧ Tr.aft S = L := by
  refine (next_c h hT).mono ?_
  rintro e w' ⟨S, D, d, h1, h2, h3, h4, h5, h6⟩
  rw [ha] at h4 h5 h6
  obtain ⟨hh, dd, h7, h8, h9⟩ := h4
  exact ⟨hh, dd, h7, S, D, d, h1, h2, h3, h8, h9, h5, h6⟩
theorem AllI.start {w w2 w3 w4 : World} {ob : Obj} {g k : Nat} {kk : Int} {o : Option T} {D0 : Option Addr} {x : Option Ent} {S : List (T × Nat)} {D : Option Addr} {d c : Nat} {P : Option Addr} {n dd v : Nat}
    (hrow : OwnL 53 2 (EntG (w4.alloc (.cells #[.slice P n dd, .int .u64 (v : Int)] 53)) (Fr w.heap.size (some ⟨w2.heap.size, 0, none⟩) g D)) (w2.alloc ob) w.heap.size (.slice (some ⟨w2.heap.size, 0, none⟩) 0 c) [])
    (h2 : Below w.heap.size w w2) (h3 : Below (w2.alloc ob).heap.size (w2.alloc ob) w3) (hg3 : ∀ b, Cf g D0 b → (w2.alloc ob).heap.size ≤ b) (hc : CurAt w4 w.heap.size g k kk o S D d) (hf : Foot (Cf g D0) w3 w4) (hr : ∀ b, Cf g D b → Cf g D0 b ∨ w3.heap.size ≤ b)
    (ht : Telt w3 w4 g D x P n dd v) (hw : [] ++ (x.toList ++ Tr.aft S) = Tr.entsO o) (hs : x = none → Tr.aft S = []) :
    AllI w g k kk o [] x S D d (some ⟨w2.heap.size, 0, none⟩) c w4.heap.size (w4.alloc (.cells #[.slice P n dd, .int .u64 (v : Int)] 53)) := by
  have hal := below_alloc w4 (.cells #[.slice P n dd, .int .u64 (v : Int)] 53)
  have hs2 : (w2.alloc ob).heap.size = w2.heap.size + 1 := by simp
  have q2 := h2.size
  have q3 := h3.size
  have q4 := hf.size
  have hlt : w2.heap.size < w3.heap.size := by omega
  have hnc : ¬ Cf g D w2.heap.size := fun hb => by
    rcases hr _ hb with hb | hb
    · have := hg3 _ hb; omega
    · omega
  have h34 : Below w.heap.size w3 w4 := hf.below (by omega) fun b hb => by have := hg3 b hb; omega
  have hww : Below w.heap.size w (w4.alloc (.cells #[.slice P n dd, .int .u64 (v : Int)] 53)) :=
    h2.trans (((below_alloc w2 ob).mono h2.size).trans ((h3.mono (by omega)).trans (h34.trans (hal.mono (by omega)))))
  have hb4 : (w4.alloc (.cells #[.slice P n dd, .int .u64 (v : Int)] 53)).heap[w2.heap.size]? = (w2.alloc ob).heap[w2.heap.size]? := by
    rw [hal.block _ (by omega), hf.block _ hlt (fun hb => by have := hg3 _ hb; omega), h3.block _ (by omega)]
  refine ⟨hc.below hal, hw, hs, hrow.block fun q hq => ?_, fun b hb => ?_, ?_, ⟨fun hb => ?_, ?_⟩, hww⟩
  · simp only [Value.ownBlock, Option.some.injEq] at hq; subst hq; exact hb4
  · simp only [Option.map_some, Option.some.injEq] at hb
    subst hb
    exact ⟨hnc, by omega⟩
  · cases x with
    | none =>
      obtain ⟨rfl, rfl, rfl, rfl⟩ := ht
      exact heap_at w4 _ _ rfl
    | some y =>
      obtain ⟨rfl, rfl, hh, rfl, ho, hn⟩ := ht
      have hh1 := (ho.2.lt hh rfl).1
      refine ⟨_, _, heap_at w4 _ _ rfl, (Own.ptsG (G := Fr w.heap.size (some ⟨w2.heap.size, 0, none⟩) g D) ho ⟨?_, hn, by omega⟩).step hal.size (fun b hb hG => ⟨hal.block b hb, hG⟩)⟩
      intro e
      simp only [Option.map_some, Option.some.injEq] at e
      omega
  · have := (hc.mem.lt _ hb).2; omega
  · omega
/-- the next round -/
theorem AllM.next {w : World} {g k : Nat} {kk : Int} {o : Option T} {L1 : List Ent} {S : List (T × Nat)} {D : Option Addr} {d : Nat} {R : Option Addr} {c eb : Nat} {P : Option Addr} {n nn v : Nat} {w5 : World} (h : AllM w g k kk o L1 S D d R c eb P n nn v w5)
    {x : Option Ent} {S' : List (T × Nat)} {D' : Option Addr} {d' : Nat} {P' : Option Addr} {n' dd' v' : Nat} {w7 : World} {y z : Value} (hc : CurAt w7 w.heap.size g k kk o S' D' d') (hf : Foot (Cf g D) (w5.alloc (.cells #[y, z] 53)) w7) (hr : ∀ b, Cf g D' b → Cf g D b ∨ (w5.alloc (.cells #[y, z] 53)).heap.size ≤ b)
    (ht : Telt (w5.alloc (.cells #[y, z] 53)) w7 g D' x P' n' dd' v') (hx : (Tr.aft S).head? = x) (ha : Tr.aft S' = (Tr.aft S).drop 1) :
    AllI w g k kk o L1 x S' D' d' R c w5.heap.size ((w7.setCell ⟨w5.heap.size, 0, none⟩ (.slice P' n' dd')).setCell ⟨w5.heap.size, 1, none⟩ (.int .u64 (v' : Int))) := by
  have hal := below_alloc w5 (.cells #[y, z] 53)
  have hs : (w5.alloc (.cells #[y, z] 53)).heap.size = w5.heap.size + 1 := by simp
  have q7 := hf.size
  have hnc : ¬ Cf g D w5.heap.size := fun hb => by have := (h.cur.mem.lt _ hb).2; omega
  have hnc' : ¬ Cf g D' w5.heap.size := fun hb => by
    rcases hr _ hb with hb | hb
    · exact hnc hb
    · omega
  have hset : ∀ b, b ≠ w5.heap.size → ((w7.setCell ⟨w5.heap.size, 0, none⟩ (.slice P' n' dd')).setCell ⟨w5.heap.size, 1, none⟩ (.int .u64 (v' : Int))).heap[b]? = w7.heap[b]? := fun b hb =>
    (Below.heap_setCell _ _ _ _ hb).trans (Below.heap_setCell _ _ _ _ hb)
  have hsz : ((w7.setCell ⟨w5.heap.size, 0, none⟩ (.slice P' n' dd')).setCell ⟨w5.heap.size, 1, none⟩ (.int .u64 (v' : Int))).heap.size = w7.heap.size := by simp
  have hbl : w7.heap[w5.heap.size]? = some (.cells #[y, z] 53 (0, 0)) := (hf.block _ (by omega) hnc).trans (heap_at w5 _ _ rfl)
  have q5 := h.bel.size
  have h57 : Below w.heap.size w5 w7 := (hal.mono q5).trans (hf.below (by omega) fun b hb => (h.cur.mem.lt b hb).1)
  have h78 : Below w.heap.size w7 ((w7.setCell ⟨w5.heap.size, 0, none⟩ (.slice P' n' dd')).setCell ⟨w5.heap.size, 1, none⟩ (.int .u64 (v' : Int))) := ((Below.refl _ _).setCell (p := ⟨w5.heap.size, 0, none⟩) q5 _).setCell (p := ⟨w5.heap.size, 1, none⟩) q5 _
  have hold : ∀ b, b < w5.heap.size → ¬ Cf g D b → ((w7.setCell ⟨w5.heap.size, 0, none⟩ (.slice P' n' dd')).setCell ⟨w5.heap.size, 1, none⟩ (.int .u64 (v' : Int))).heap[b]? = w5.heap[b]? := fun b hb hn => by
    rw [hset b (by omega), hf.block b (by omega) hn, hal.block b hb]
  have hfr : ∀ b, b < w5.heap.size → ¬ Cf g D b → ¬ Cf g D' b := fun b hb hn hc => by
    rcases hr b hc with hb' | hb'
    · exact hn hb'
    · omega
  refine ⟨hc.keep h78 fun b hb => hset b (fun e => hnc' (e ▸ hb)), ?_, fun e => ?_, ?_, fun b hb => ?_, ?_, ⟨hnc', q5⟩, h.bel.trans (h57.trans h78)⟩
  · rw [← h.whole, ha, ← hx]
    cases Tr.aft S <;> rfl
  · rw [ha]
    cases hS : Tr.aft S with
    | nil => rfl
    | cons a l => rw [hS, e] at hx; cases hx
  · refine (h.row.block fun q hq => ?_).imp (EntG.step (by omega) fun b hb hG => ⟨hold b hb hG.2.1, hG.1, hfr b hb hG.2.1, hG.2.2⟩)
    rw [own_block] at hq
    exact hold q (h.lt q hq).2 (h.rg q hq)
  · exact ⟨hfr b (h.lt b hb).2 (h.rg b hb), by have := (h.lt b hb).2; omega⟩
  · cases x with
    | none =>
      obtain ⟨rfl, rfl, rfl, rfl⟩ := ht
      exact block_set (block_set hbl _) _
    | some u =>
      obtain ⟨rfl, rfl, hh, rfl, ho, hn⟩ := ht
      have hh1 := (ho.2.lt hh rfl).1
      refine ⟨_, _, block_set (block_set hbl _) _, (Own.ptsG (G := Fr w.heap.size R g D') (own_set (own_set ho (a := ⟨w5.heap.size, 0, none⟩) (fun e => ?_) _) (a := ⟨w5.heap.size, 1, none⟩) (fun e => ?_) _) ⟨fun e => ?_, hn, by omega⟩)⟩
      · simp only [Value.ownBlock, Option.some.injEq] at e; omega
      · simp only [Value.ownBlock, Option.some.injEq] at e; omega
      · have := (h.lt hh e).2; omega
/-- the entries' list and its points, in new blocks -/
def NewE (base : Nat) (w : World) (A : Option Addr) (c : Nat) (L : List Ent) : Prop :=
  OwnL 53 2 (EntG w (fun b => base ≤ b ∧ A.map (·.block) ≠ some b)) w base (.slice A L.length c) L
theorem NewE.mono {base base' : Nat} {w : World} {A : Option Addr} {c : Nat} {L : List Ent} (h : NewE base w A c L) (hb : base' ≤ base) : NewE base' w A c L :=
  (OwnL.mono h hb).imp (EntG.step (Nat.le_refl _) fun _ _ hG => ⟨rfl, Nat.le_trans hb hG.1, hG.2⟩)
theorem NewE.ents {base : Nat} {w : World} {A : Option Addr} {c : Nat} {L : List Ent} (h : NewE base w A c L) : Ents w w.heap.size A L := by
  obtain ⟨A', c', hv, -, hl⟩ := OwnL.rd (entG_ok _ _) h
  simp only [Value.slice.injEq] at hv
  obtain ⟨rfl, -, -⟩ := hv
  intro hn
  obtain ⟨b, off, h1, h2, h3⟩ := hl hn
  refine ⟨b, off, h1, h2, fun i a ha => ?_⟩
  obtain ⟨A', c'', h4, h5, h6, h7⟩ := h3 i a ha
  exact ⟨A', c'', h4, h5, h6.pts, h7⟩
end Go.Proofs.YtjcmehplcagejaaGreatDoor

/-
  CONTRACTS of package walk: Seek. Laid by wip/gen24.py.
-/
namespace Go.Proofs.YtjcmehplcagejaaGreatDoor
open Go.ChangeShapes Go.WideShapes Go.ChangeAt Go.RowKit
open Tr (T S4 Ent)

theorem CurM.cut {w : World} {B g : Nat} {kk : Int} {r : Option Addr} {S : List (T × Nat)} {D : Option Addr} {d : Nat} (h : CurM w B g kk r S D d) :
    CurM (w.setCell ⟨g, 2, none⟩ (.slice D 0 d)) B g kk r [] D d := by
  have h7 := OwnL.take stQ_ok h.stk 0 (Nat.zero_le _)
  rw [List.take_zero] at h7
  exact ⟨block_set h.blk _, h.gB, h7.block fun q hq => Below.heap_setCell _ _ _ _ (fun e => h.ne (by rw [own_block] at hq; rw [hq, e])), h.ne⟩
end Go.Proofs.YtjcmehplcagejaaGreatDoor

/-
  CONTRACTS of package walk: From, UpTo. Laid by wip/gen25.py.
-/
namespace Go.Proofs.YtjcmehplcagejaaGreatDoor
open Go.ChangeShapes Go.WideShapes Go.ChangeAt Go.RowKit
open Tr (T S4 Ent)

/-- an answer as values: none, or the entry x in new memory -/
def TelE (w w' : World) (x : Option Ent) (P : Option Addr) (n dd v : Nat) : Prop := match x with
  | none => P = none ∧ n = 0 ∧ dd = 0 ∧ v = 0
  | some y => n = y.1.length ∧ v = y.2 ∧ ∃ hh, P = some ⟨hh, 0, none⟩ ∧ Own w' w.heap.size (.slice P n dd) y.1
/-! ### the nearest node beside the way -/
end Go.Proofs.YtjcmehplcagejaaGreatDoor
