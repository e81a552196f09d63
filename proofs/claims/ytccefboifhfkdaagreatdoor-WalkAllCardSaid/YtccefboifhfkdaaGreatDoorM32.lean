import Derived.Test.YtccefboifhfkdaaGreatDoorM31
import Derived.Test.YtccefboifhfkdaaGreatDoorM16
/-
  CONTRACTS of package walk: All, a list that grows while a cursor moves. Laid by wip/gen23.py.
-/
namespace Go.Proofs.YtccefboifhfkdaaGreatDoor
open Go.ChangeShapes Go.WideShapes Go.ChangeAt Go.RowKit
open Tr (T S4 Ent)

/-- a point in memory, in one of the blocks G -/
def PtsG (w : World) (G : Nat → Prop) (A : Option Addr) (us : List Nat) : Prop :=
  Z.Ok us ∧ (us ≠ [] → ∃ b off, A = some ⟨b, off, none⟩ ∧ G b ∧ b < w.heap.size ∧ ∀ (i u : Nat), us[i]? = some u → w.cell? ⟨b, off + i, none⟩ = some (.int .u64 (u : Int)))
theorem PtsG.pts {w : World} {G : Nat → Prop} {A : Option Addr} {us : List Nat} (h : PtsG w G A us) : Pts w w.heap.size A us :=
  ⟨h.1, fun hn => by obtain ⟨b, off, h1, _, h3, h4⟩ := h.2 hn; exact ⟨b, off, h1, h3, h4⟩⟩
theorem PtsG.step {w w' : World} {G G' : Nat → Prop} {A : Option Addr} {us : List Nat} (h : PtsG w G A us) (hs : w.heap.size ≤ w'.heap.size) (hk : ∀ b, b < w.heap.size → G b → w'.heap[b]? = w.heap[b]? ∧ G' b) : PtsG w' G' A us :=
  ⟨h.1, fun hn => by
    obtain ⟨b, off, h1, h2, h3, h4⟩ := h.2 hn
    obtain ⟨h5, h6⟩ := hk b h3 h2
    exact ⟨b, off, h1, h6, by omega, fun i u hu => (World.cell?_of_block (a := ⟨b, off + i, none⟩) h5).trans (h4 i u hu)⟩⟩
theorem Own.ptsG {w : World} {base h n d : Nat} {us : List Nat} {G : Nat → Prop} (ho : Own w base (.slice (some ⟨h, 0, none⟩) n d) us) (hG : G h) : PtsG w G (some ⟨h, 0, none⟩) us := by
  obtain ⟨A, c, hv, hp⟩ := ho.pts
  simp only [Value.slice.injEq] at hv
  obtain ⟨rfl, -, -⟩ := hv
  refine ⟨hp.1, fun hn => ?_⟩
  obtain ⟨b, off, h1, h2, h3⟩ := hp.2 hn
  simp only [Option.some.injEq, Addr.mk.injEq, and_true] at h1
  obtain ⟨rfl, rfl⟩ := h1
  exact ⟨h, 0, rfl, hG, h2, h3⟩
def EntG (w : World) (G : Nat → Prop) (f : Nat → Option Value) (e : Ent) : Prop :=
  ∃ A c, f 0 = some (.slice A e.1.length c) ∧ f 1 = some (.int .u64 (e.2 : Int)) ∧ PtsG w G A e.1 ∧ e.1.length ≤ maxLen ∧ e.2 < 18446744073709551616
theorem entG_ok (w : World) (G : Nat → Prop) : QOk 2 (EntG w G) where
  ext := by
    rintro f g a h ⟨A, c, h0, h1, r⟩
    exact ⟨A, c, by rw [← h 0 (by omega)]; exact h0, by rw [← h 1 (by omega)]; exact h1, r⟩
  has := by
    rintro f a ⟨A, c, h0, h1, r⟩ j hj
    match j, hj with
    | 0, _ => exact ⟨_, h0, rfl⟩
    | 1, _ => exact ⟨_, h1, rfl⟩
theorem EntG.step {w w' : World} {G G' : Nat → Prop} (hs : w.heap.size ≤ w'.heap.size) (hk : ∀ b, b < w.heap.size → G b → w'.heap[b]? = w.heap[b]? ∧ G' b) : ∀ f e, EntG w G f e → EntG w' G' f e := by
  rintro f e ⟨A, c, h0, h1, h2, r⟩
  exact ⟨A, c, h0, h1, h2.step hs hk, r⟩
/-- the blocks that neither a list nor a cursor writes to -/
def Fr (w0 : Nat) (R : Option Addr) (g : Nat) (D : Option Addr) : Nat → Prop := fun b => R.map (·.block) ≠ some b ∧ ¬ Cf g D b ∧ w0 ≤ b
/-- what the variable of a round holds -/
def CurE (w : World) (G : Nat → Prop) (eb : Nat) (x : Option Ent) : Prop := match x with
  | none => w.heap[eb]? = some (.cells #[.slice none 0 0, .int .u64 0] 36 (0, 0))
  | some y => ∃ P n, w.heap[eb]? = some (.cells #[.slice P y.1.length n, .int .u64 (y.2 : Int)] 36 (0, 0)) ∧ PtsG w G P y.1
/-- A LIST THAT GROWS BY WHAT A CURSOR TELLS -/
structure AllI (w : World) (g k : Nat) (kk : Int) (o : Option T) (L1 : List Ent) (x : Option Ent) (S : List (T × Nat)) (D : Option Addr) (d : Nat) (R : Option Addr) (c : Nat) (eb : Nat) (wr : World) : Prop where
  cur : CurAt wr w.heap.size g k kk o S D d
  whole : L1 ++ (x.toList ++ Tr.aft S) = Tr.entsO o
  stop : x = none → Tr.aft S = []
  row : OwnL 36 2 (EntG wr (Fr w.heap.size R g D)) wr w.heap.size (.slice R L1.length c) L1
  rg : ∀ b, R.map (·.block) = some b → ¬ Cf g D b ∧ b ≠ eb
  ent : CurE wr (Fr w.heap.size R g D) eb x
  ebn : ¬ Cf g D eb ∧ w.heap.size ≤ eb
  bel : Below w.heap.size w wr
/-- behind the append of a round -/
structure AllM (w : World) (g k : Nat) (kk : Int) (o : Option T) (L1 : List Ent) (S : List (T × Nat)) (D : Option Addr) (d : Nat) (R : Option Addr) (c : Nat) (eb : Nat) (P : Option Addr) (n nn v : Nat) (wr : World) : Prop where
  cur : CurAt wr w.heap.size g k kk o S D d
  whole : L1 ++ Tr.aft S = Tr.entsO o
  row : OwnL 36 2 (EntG wr (Fr w.heap.size R g D)) wr w.heap.size (.slice R L1.length c) L1
  rg : ∀ b, R.map (·.block) = some b → ¬ Cf g D b
  blk : wr.heap[eb]? = some (.cells #[.slice P n nn, .int .u64 (v : Int)] 36 (0, 0))
  bel : Below w.heap.size w wr
theorem AllI.app {w : World} {g k : Nat} {kk : Int} {o : Option T} {L1 : List Ent} {y : Ent} {S : List (T × Nat)} {D : Option Addr} {d : Nat} {R : Option Addr} {c eb : Nat} {wr w5 : World} {P : Option Addr} {nn d5 : Nat} {D5 : Option Addr} {ob : Obj} {M : Nat}
    (h : AllI w g k kk o L1 (some y) S D d R c eb wr) (hblk : wr.heap[eb]? = some (.cells #[.slice P y.1.length nn, .int .u64 (y.2 : Int)] 36 (0, 0)))
    (hown : OwnL 36 2 (EntG wr (Fr w.heap.size R g D)) w5 w.heap.size (.slice D5 M d5) (L1 ++ [y])) (hM : M = (L1 ++ [y]).length) (hgr : (wr.alloc ob).grownBy w5 (Value.slice R L1.length c).ownBlock)
    (hat : (Value.slice D5 M d5).ownBlock = (Value.slice R L1.length c).ownBlock ∨ (Value.slice D5 M d5).ownBlock = some (wr.alloc ob).heap.size) :
    AllM w g k kk o (L1 ++ [y]) S D d D5 d5 eb P y.1.length nn y.2 w5 := by
  subst hM
  rw [own_block, own_block] at hat
  rw [own_block] at hgr
  have hsz : (wr.alloc ob).heap.size = wr.heap.size + 1 := by simp
  have hs5 : wr.heap.size ≤ w5.heap.size := Nat.le_trans (by omega) hgr.size
  have hb : ∀ b, b < wr.heap.size → R.map (·.block) ≠ some b → w5.heap[b]? = wr.heap[b]? := fun b hb hn => (hgr.block b (by omega) (fun e => hn e.symm)).trans (Below.heap_alloc _ _ _ hb)
  have hebw := (Array.getElem?_eq_some_iff.1 hblk).1
  have hR : ∀ b, R.map (·.block) = some b → w.heap.size ≤ b := fun b hb => (h.row.lt b (by rw [own_block]; exact hb)).1
  have hbel : Below w.heap.size wr w5 := ⟨hgr.os, hgr.tape, hgr.output, hs5, fun b hb' => hb b (Nat.lt_of_lt_of_le hb' h.bel.size) (fun e => by have := hR b e; omega)⟩
  refine ⟨h.cur.keep hbel fun b hb' => hb b (h.cur.mem.lt b hb').2 (fun e => (h.rg b e).1 hb'), ?_, ?_, fun b hb' => ?_, ?_, h.bel.trans hbel⟩
  · rw [← h.whole]; simp
  · refine hown.imp (EntG.step hs5 fun b hb' hG => ⟨hb b hb' hG.1, ?_, hG.2⟩)
    rcases hat with e | e
    · rw [e]; exact hG.1
    · rw [e]; intro e'; simp only [Option.some.injEq] at e'; omega
  · rcases hat with e | e
    · rw [e] at hb'; exact (h.rg b hb').1
    · rw [e] at hb'; simp only [Option.some.injEq] at hb'; intro hc; have := (h.cur.mem.lt b hc).2; omega
  · rw [hb eb hebw (fun e => (h.rg eb e).2 rfl)]; exact hblk
theorem AllM.lt {w : World} {g k : Nat} {kk : Int} {o : Option T} {L1 : List Ent} {S : List (T × Nat)} {D : Option Addr} {d : Nat} {R : Option Addr} {c eb : Nat} {P : Option Addr} {n nn v : Nat} {wr : World} (h : AllM w g k kk o L1 S D d R c eb P n nn v wr) : ∀ b, R.map (·.block) = some b → w.heap.size ≤ b ∧ b < wr.heap.size := fun b hb => h.row.lt b (by rw [own_block]; exact hb)
/-- what a move tells, as values -/
def Telt (w w' : World) (g : Nat) (D : Option Addr) (x : Option Ent) (P : Option Addr) (n dd v : Nat) : Prop := match x with
  | none => P = none ∧ n = 0 ∧ dd = 0 ∧ v = 0
  | some y => n = y.1.length ∧ v = y.2 ∧ ∃ hh, P = some ⟨hh, 0, none⟩ ∧ Own w' w.heap.size (.slice P n dd) y.1 ∧ ¬ Cf g D hh
theorem next_any {w : World} {B g k : Nat} {kk : Int} {o : Option T} {S0 : List (T × Nat)} {D0 : Option Addr} {d0 : Nat} (h : CurAt w B g k kk o S0 D0 d0) (hT : ∀ w', Below B w w' → Tz w') (x : Option Ent) (hx : (Tr.aft S0).head? = x) (r : Bool) (hr : x.isSome = r) :
    Calls Tryz.prog 23 #[.pointer (some ⟨g, 0, none⟩)] w fun e w' => ∃ (P : Option Addr) (n dd v : Nat), e = .returned (.tuple #[.agg #[.slice P n dd, .int .u64 (v : Int)], .bool r]) ∧
      ∃ S D d, CurAt w' B g k kk o S D d ∧ Foot (Cf g D0) w w' ∧ (∀ b, Cf g D b → Cf g D0 b ∨ w.heap.size ≤ b) ∧ Telt w w' g D x P n dd v ∧ Tr.bef S = Tr.bef S0 ++ (Tr.aft S0).take 1 ∧ Tr.aft S = (Tr.aft S0).drop 1 := by
  refine (next_c h hT).mono ?_
  rintro e w' ⟨S, D, d, h1, h2, h3, h4, h5, h6⟩
  rw [hx] at h4
  subst hr
  cases x with
  | none => exact ⟨none, 0, 0, 0, h4, S, D, d, h1, h2, h3, ⟨rfl, rfl, rfl, rfl⟩, h5, h6⟩
  | some y =>
    obtain ⟨hh, dd, h7, h8, h9⟩ := h4
    exact ⟨_, _, dd, _, h7, S, D, d, h1, h2, h3, ⟨rfl, rfl, hh, rfl, h8, h9⟩, h5, h6⟩
theorem next_some {w : World} {B g k : Nat} {kk : Int} {o : Option T} {S0 : List (T × Nat)} {D0 : Option Addr} {d0 : Nat} (h : CurAt w B g k kk o S0 D0 d0) (hT : ∀ w', Below B w w' → Tz w') {y : Ent} {L : List Ent} (ha : Tr.aft S0 = y :: L) :
    Calls Tryz.prog 23 #[.pointer (some ⟨g, 0, none⟩)] w fun e w' => ∃ hh dd, e = .returned (.tuple #[entryV (some ⟨hh, 0, none⟩) y.1.length dd y.2, .bool true]) ∧
      ∃ S D d, CurAt w' B g k kk o S D d ∧ Foot (Cf g D0) w w' ∧ (∀ b, Cf g D b → Cf g D0 b ∨ w.heap.size ≤ b) ∧ Own w' w.heap.size (.slice (some ⟨hh, 0, none⟩) y.1.length dd) y.1 ∧ ¬ Cf g D hh ∧ Tr.bef S = Tr.bef S0 ++ [y] ∧ Tr.aft S = L := by
  refine (next_c h hT).mono ?_
  rintro e w' ⟨S, D, d, h1, h2, h3, h4, h5, h6⟩
  rw [ha] at h4 h5 h6
  obtain ⟨hh, dd, h7, h8, h9⟩ := h4
  exact ⟨hh, dd, h7, S, D, d, h1, h2, h3, h8, h9, h5, h6⟩
theorem next_none {w : World} {B g k : Nat} {kk : Int} {o : Option T} {S0 : List (T × Nat)} {D0 : Option Addr} {d0 : Nat} (h : CurAt w B g k kk o S0 D0 d0) (hT : ∀ w', Below B w w' → Tz w') (ha : Tr.aft S0 = []) :
    Calls Tryz.prog 23 #[.pointer (some ⟨g, 0, none⟩)] w fun e w' => e = .returned (.tuple #[entryV none 0 0 0, .bool false]) ∧
      ∃ S D d, CurAt w' B g k kk o S D d ∧ Foot (Cf g D0) w w' ∧ (∀ b, Cf g D b → Cf g D0 b ∨ w.heap.size ≤ b) ∧ Tr.bef S = Tr.bef S0 ∧ Tr.aft S = [] := by
  refine (next_c h hT).mono ?_
  rintro e w' ⟨S, D, d, h1, h2, h3, h4, h5, h6⟩
  rw [ha] at h4 h5 h6
  exact ⟨h4, S, D, d, h1, h2, h3, by rw [h5]; exact List.append_nil _, h6⟩
theorem back_some {w : World} {B g k : Nat} {kk : Int} {o : Option T} {S0 : List (T × Nat)} {D0 : Option Addr} {d0 : Nat} (h : CurAt w B g k kk o S0 D0 d0) (hT : ∀ w', Below B w w' → Tz w') {y : Ent} {L : List Ent} (ha : Tr.bef S0 = L ++ [y]) :
    Calls Tryz.prog 24 #[.pointer (some ⟨g, 0, none⟩)] w fun e w' => ∃ hh dd, e = .returned (.tuple #[entryV (some ⟨hh, 0, none⟩) y.1.length dd y.2, .bool true]) ∧
      ∃ S D d, CurAt w' B g k kk o S D d ∧ Foot (Cf g D0) w w' ∧ (∀ b, Cf g D b → Cf g D0 b ∨ w.heap.size ≤ b) ∧ Own w' w.heap.size (.slice (some ⟨hh, 0, none⟩) y.1.length dd) y.1 ∧ ¬ Cf g D hh ∧ Tr.bef S = L ∧ Tr.aft S = y :: Tr.aft S0 := by
  refine (back_c h hT).mono ?_
  rintro e w' ⟨S, D, d, h1, h2, h3, h4, h5, h6⟩
  rw [ha, List.getLast?_append] at h4 h6
  rw [ha, List.dropLast_concat] at h5
  obtain ⟨hh, dd, h7, h8, h9⟩ := h4
  exact ⟨hh, dd, h7, S, D, d, h1, h2, h3, h8, h9, h5, h6⟩
theorem back_none {w : World} {B g k : Nat} {kk : Int} {o : Option T} {S0 : List (T × Nat)} {D0 : Option Addr} {d0 : Nat} (h : CurAt w B g k kk o S0 D0 d0) (hT : ∀ w', Below B w w' → Tz w') (ha : Tr.bef S0 = []) :
    Calls Tryz.prog 24 #[.pointer (some ⟨g, 0, none⟩)] w fun e w' => e = .returned (.tuple #[entryV none 0 0 0, .bool false]) ∧
      ∃ S D d, CurAt w' B g k kk o S D d ∧ Foot (Cf g D0) w w' ∧ (∀ b, Cf g D b → Cf g D0 b ∨ w.heap.size ≤ b) ∧ Tr.bef S = [] ∧ Tr.aft S = Tr.aft S0 := by
  refine (back_c h hT).mono ?_
  rintro e w' ⟨S, D, d, h1, h2, h3, h4, h5, h6⟩
  rw [ha] at h4 h5 h6
  exact ⟨h4, S, D, d, h1, h2, h3, h5, h6⟩
theorem AllI.start {w w2 w3 w4 : World} {ob : Obj} {g k : Nat} {kk : Int} {o : Option T} {D0 : Option Addr} {x : Option Ent} {S : List (T × Nat)} {D : Option Addr} {d c : Nat} {P : Option Addr} {n dd v : Nat}
    (hrow : OwnL 36 2 (EntG (w4.alloc (.cells #[.slice P n dd, .int .u64 (v : Int)] 36)) (Fr w.heap.size (some ⟨w2.heap.size, 0, none⟩) g D)) (w2.alloc ob) w.heap.size (.slice (some ⟨w2.heap.size, 0, none⟩) 0 c) [])
    (h2 : Below w.heap.size w w2) (h3 : Below (w2.alloc ob).heap.size (w2.alloc ob) w3) (hg3 : ∀ b, Cf g D0 b → (w2.alloc ob).heap.size ≤ b) (hc : CurAt w4 w.heap.size g k kk o S D d) (hf : Foot (Cf g D0) w3 w4) (hr : ∀ b, Cf g D b → Cf g D0 b ∨ w3.heap.size ≤ b)
    (ht : Telt w3 w4 g D x P n dd v) (hw : [] ++ (x.toList ++ Tr.aft S) = Tr.entsO o) (hs : x = none → Tr.aft S = []) :
    AllI w g k kk o [] x S D d (some ⟨w2.heap.size, 0, none⟩) c w4.heap.size (w4.alloc (.cells #[.slice P n dd, .int .u64 (v : Int)] 36)) := by
  have hal := below_alloc w4 (.cells #[.slice P n dd, .int .u64 (v : Int)] 36)
  have hs2 : (w2.alloc ob).heap.size = w2.heap.size + 1 := by simp
  have q2 := h2.size
  have q3 := h3.size
  have q4 := hf.size
  have hlt : w2.heap.size < w3.heap.size := by omega
  have hnc : ¬ Cf g D w2.heap.size := fun hb => by
    rcases hr _ hb with hb | hb
    · have := hg3 _ hb; omega
    · omega
  have h34 : Below w.heap.size w3 w4 := hf.below (by omega) fun b hb => by have := hg3 b hb; omega
  have hww : Below w.heap.size w (w4.alloc (.cells #[.slice P n dd, .int .u64 (v : Int)] 36)) :=
    h2.trans (((below_alloc w2 ob).mono h2.size).trans ((h3.mono (by omega)).trans (h34.trans (hal.mono (by omega)))))
  have hb4 : (w4.alloc (.cells #[.slice P n dd, .int .u64 (v : Int)] 36)).heap[w2.heap.size]? = (w2.alloc ob).heap[w2.heap.size]? := by
    rw [hal.block _ (by omega), hf.block _ hlt (fun hb => by have := hg3 _ hb; omega), h3.block _ (by omega)]
  refine ⟨hc.below hal, hw, hs, hrow.block fun q hq => ?_, fun b hb => ?_, ?_, ⟨fun hb => ?_, ?_⟩, hww⟩
  · simp only [Value.ownBlock, Option.some.injEq] at hq; subst hq; exact hb4
  · simp only [Option.map_some, Option.some.injEq] at hb
    subst hb
    exact ⟨hnc, by omega⟩
  · cases x with
    | none =>
      obtain ⟨rfl, rfl, rfl, rfl⟩ := ht
      exact heap_at w4 _ _ rfl
    | some y =>
      obtain ⟨rfl, rfl, hh, rfl, ho, hn⟩ := ht
      have hh1 := (ho.2.lt hh rfl).1
      refine ⟨_, _, heap_at w4 _ _ rfl, (Own.ptsG (G := Fr w.heap.size (some ⟨w2.heap.size, 0, none⟩) g D) ho ⟨?_, hn, by omega⟩).step hal.size (fun b hb hG => ⟨hal.block b hb, hG⟩)⟩
      intro e
      simp only [Option.map_some, Option.some.injEq] at e
      omega
  · have := (hc.mem.lt _ hb).2; omega
  · omega
/-- the next round -/
theorem AllM.next {w : World} {g k : Nat} {kk : Int} {o : Option T} {L1 : List Ent} {S : List (T × Nat)} {D : Option Addr} {d : Nat} {R : Option Addr} {c eb : Nat} {P : Option Addr} {n nn v : Nat} {w5 : World} (h : AllM w g k kk o L1 S D d R c eb P n nn v w5)
    {x : Option Ent} {S' : List (T × Nat)} {D' : Option Addr} {d' : Nat} {P' : Option Addr} {n' dd' v' : Nat} {w7 : World} {y z : Value} (hc : CurAt w7 w.heap.size g k kk o S' D' d') (hf : Foot (Cf g D) (w5.alloc (.cells #[y, z] 36)) w7) (hr : ∀ b, Cf g D' b → Cf g D b ∨ (w5.alloc (.cells #[y, z] 36)).heap.size ≤ b)
    (ht : Telt (w5.alloc (.cells #[y, z] 36)) w7 g D' x P' n' dd' v') (hx : (Tr.aft S).head? = x) (ha : Tr.aft S' = (Tr.aft S).drop 1) :
    AllI w g k kk o L1 x S' D' d' R c w5.heap.size ((w7.setCell ⟨w5.heap.size, 0, none⟩ (.slice P' n' dd')).setCell ⟨w5.heap.size, 1, none⟩ (.int .u64 (v' : Int))) := by
  have hal := below_alloc w5 (.cells #[y, z] 36)
  have hs : (w5.alloc (.cells #[y, z] 36)).heap.size = w5.heap.size + 1 := by simp
  have q7 := hf.size
  have hnc : ¬ Cf g D w5.heap.size := fun hb => by have := (h.cur.mem.lt _ hb).2; omega
  have hnc' : ¬ Cf g D' w5.heap.size := fun hb => by
    rcases hr _ hb with hb | hb
    · exact hnc hb
    · omega
  have hset : ∀ b, b ≠ w5.heap.size → ((w7.setCell ⟨w5.heap.size, 0, none⟩ (.slice P' n' dd')).setCell ⟨w5.heap.size, 1, none⟩ (.int .u64 (v' : Int))).heap[b]? = w7.heap[b]? := fun b hb =>
    (Below.heap_setCell _ _ _ _ hb).trans (Below.heap_setCell _ _ _ _ hb)
  have hsz : ((w7.setCell ⟨w5.heap.size, 0, none⟩ (.slice P' n' dd')).setCell ⟨w5.heap.size, 1, none⟩ (.int .u64 (v' : Int))).heap.size = w7.heap.size := by simp
  have hbl : w7.heap[w5.heap.size]? = some (.cells #[y, z] 36 (0, 0)) := (hf.block _ (by omega) hnc).trans (heap_at w5 _ _ rfl)
  have q5 := h.bel.size
  have h57 : Below w.heap.size w5 w7 := (hal.mono q5).trans (hf.below (by omega) fun b hb => (h.cur.mem.lt b hb).1)
  have h78 : Below w.heap.size w7 ((w7.setCell ⟨w5.heap.size, 0, none⟩ (.slice P' n' dd')).setCell ⟨w5.heap.size, 1, none⟩ (.int .u64 (v' : Int))) := ((Below.refl _ _).setCell (p := ⟨w5.heap.size, 0, none⟩) q5 _).setCell (p := ⟨w5.heap.size, 1, none⟩) q5 _
  have hold : ∀ b, b < w5.heap.size → ¬ Cf g D b → ((w7.setCell ⟨w5.heap.size, 0, none⟩ (.slice P' n' dd')).setCell ⟨w5.heap.size, 1, none⟩ (.int .u64 (v' : Int))).heap[b]? = w5.heap[b]? := fun b hb hn => by
    rw [hset b (by omega), hf.block b (by omega) hn, hal.block b hb]
  have hfr : ∀ b, b < w5.heap.size → ¬ Cf g D b → ¬ Cf g D' b := fun b hb hn hc => by
    rcases hr b hc with hb' | hb'
    · exact hn hb'
    · omega
  refine ⟨hc.keep h78 fun b hb => hset b (fun e => hnc' (e ▸ hb)), ?_, fun e => ?_, ?_, fun b hb => ?_, ?_, ⟨hnc', q5⟩, h.bel.trans (h57.trans h78)⟩
  · rw [← h.whole, ha, ← hx]
    cases Tr.aft S <;> rfl
  · rw [ha]
    cases hS : Tr.aft S with
    | nil => rfl
    | cons a l => rw [hS, e] at hx; cases hx
  · refine (h.row.block fun q hq => ?_).imp (EntG.step (by omega) fun b hb hG => ⟨hold b hb hG.2.1, hG.1, hfr b hb hG.2.1, hG.2.2⟩)
    rw [own_block] at hq
    exact hold q (h.lt q hq).2 (h.rg q hq)
  · exact ⟨hfr b (h.lt b hb).2 (h.rg b hb), by have := (h.lt b hb).2; omega⟩
  · cases x with
    | none =>
      obtain ⟨rfl, rfl, rfl, rfl⟩ := ht
      exact block_set (block_set hbl _) _
    | some u =>
      obtain ⟨rfl, rfl, hh, rfl, ho, hn⟩ := ht
      have hh1 := (ho.2.lt hh rfl).1
      refine ⟨_, _, block_set (block_set hbl _) _, (Own.ptsG (G := Fr w.heap.size R g D') (own_set (own_set ho (a := ⟨w5.heap.size, 0, none⟩) (fun e => ?_) _) (a := ⟨w5.heap.size, 1, none⟩) (fun e => ?_) _) ⟨fun e => ?_, hn, by omega⟩)⟩
      · simp only [Value.ownBlock, Option.some.injEq] at e; omega
      · simp only [Value.ownBlock, Option.some.injEq] at e; omega
      · have := (h.lt hh e).2; omega
def lenV : Value → Nat
  | .slice _ n _ => n
  | _ => 0

set_option maxRecDepth 1000000 in
set_option maxHeartbeats 4000000 in
theorem all_c {w : World} {B k : Nat} {o : Option T} (h : NodeO w B k o) (hB : B ≤ w.heap.size) (hT : ∀ w', Below B w w' → Tz w') (hN : (Tr.entsO o).length ≤ 100000000) :
    Calls Tryz.prog 13 #[.pointer (rootP o)] w fun e w' => ∃ A c, e = .returned (.slice A (Tr.entsO o).length c) ∧ (Tr.entsO o).length ≤ c ∧ Ents w' w'.heap.size A (Tr.entsO o) ∧ Below w.heap.size w w' := by
  obtain ⟨S, hS⟩ : ∃ S, Tr.sums (Tr.entsO o) = S := ⟨_, rfl⟩
  have hc : S.c = (Tr.entsO o).length := by rw [← hS, Tr.sums_c]
  have H1 : Hid (Calls Tryz.prog 42 #[.pointer (rootP o)] w fun e w' => e = .returned (sumsV S) ∧ Below w.heap.size w w') := Lib.hid (by rw [← hS]; exact nSums_o h hB)
  have f0 := sums_count
  obtain ⟨i0, hi0, hz0, hz1, hz2⟩ := info_parts infoE2
  obtain ⟨ob, hob⟩ : ∃ ob, ob = Obj.cells (madeCells (Value.agg #[.slice none 0 0, .int .u64 0]).cells (S.c * i0.size)) 36 := ⟨_, rfl⟩
  have hmk : ∀ w : World, (Instr.makeSlice 27 (.int .i64 0) (.int .u64 (S.c : Int))).run Tryz.prog w = .ok (.slice (some ⟨w.heap.size, 0, none⟩) 0 S.c) (w.alloc ob) := fun w => by
    have := run_make (P := Tryz.prog) w 27 36 i0 (.agg #[.slice none 0 0, .int .u64 0]) Tryz.underlying27 hi0 hz0 .i64 .u64 0 (S.c : Int) (Int.le_refl _) (by omega) (by rw [hz2]; omega) (by omega)
    simp only [Int.toNat_zero, Int.toNat_natCast] at this
    rw [hob]; exact this
  have hrow : ∀ (w2 : World) (Q : (Nat → Option Value) → Ent → Prop), w.heap.size ≤ w2.heap.size → OwnL 36 2 Q (w2.alloc ob) w.heap.size (.slice (some ⟨w2.heap.size, 0, none⟩) 0 S.c) [] := fun w2 Q h2 =>
    ⟨[], LCells.nil 2 _, by rw [hob]; exact World.ownsRow_made w2 _ S.c h2 (by unfold maxLen; omega) (by rw [size_madeCells, hz1])⟩
  have HR := Lib.hid (And.intro hrow (And.intro hc hN))
  have HX := Lib.hid (And.intro h (And.intro hB hT))
  have HO : Hid (∀ w2, Below w.heap.size w w2 → Calls Tryz.prog 43 #[.pointer (rootP o)] w2 fun e w' => ∃ g D d kk, e = .returned (.pointer (some ⟨g, 0, none⟩)) ∧ CurAt w' w.heap.size g k kk o (startS o) D d ∧ Below w2.heap.size w2 w' ∧ (∀ b, Cf g D b → w2.heap.size ≤ b)) := Lib.hid fun w2 hb =>
    over_c (h.below hb hB (Nat.le_refl _)) hB hb.size
  clear h hB hT hN hc hS hob hrow hi0 hz0 hz1 hz2
  go_enter Tryz.func13, Tryz.ntmps13
  go_upto_region 3 with (first
    | (go_at_call 42; refine H1.out.mono ?_; rintro e w2 ⟨rfl, hb2⟩; have H2 := Lib.hid hb2; clear hb2)
    | (go_at_call 43; refine (HO.out _ (H2.out.trans ((below_alloc _ _).mono H2.out.size))).mono ?_; rintro e w3 ⟨g, D, d, kk, rfl, hc3, hb3, hg3⟩; have H3 := Lib.hid (And.intro hc3 (And.intro hb3 hg3)); clear hc3 hb3 hg3))
  have hT3 : Hid (∀ w5, Below w.heap.size w w5 → ∀ w', Below w.heap.size w5 w' → Tz w') := Lib.hid fun w5 h5 w' hb' => HX.out.2.2 w' ((h5.trans hb').mono HX.out.2.1)
  have hW3 : Hid (Below w.heap.size w w3) := Lib.hid (H2.out.trans (((below_alloc w2 ob).mono H2.out.size).trans (H3.out.2.1.mono (by have := H2.out.size; simp; omega))))
  clear H1 HO hmk f0
  obtain ⟨x, hx⟩ : ∃ x, (Tr.entsO o).head? = x := ⟨_, rfl⟩
  obtain ⟨bx, hbx⟩ : ∃ r, x.isSome = r := ⟨_, rfl⟩
  have HN := Lib.hid (next_any H3.out.1 (hT3.out _ hW3.out) x (by rw [(start_bef o).2, hx]) bx hbx)
  have HXX := Lib.hid hx
  have HBX := Lib.hid hbx
  clear hx hbx
  go_wp2_with (go_at_call 23; refine HN.out.mono ?_; rintro e w4 ⟨P, n, dd, v, rfl, S4, D4, d4, hc4, hf4, hr4, ht4, hb4, ha4⟩)
  have HI : Hid (AllI w g k kk o [] x S4 D4 d4 (some ⟨w2.heap.size, 0, none⟩) S.c w4.heap.size (w4.alloc (.cells #[.slice P n dd, .int .u64 (v : Int)] 36))) := Lib.hid (by
    rw [(start_bef o).2] at ha4
    exact AllI.start (HR.out.1 w2 _ H2.out.size) H2.out H3.out.2.1 H3.out.2.2 hc4 hf4 hr4 ht4 (by
      rw [ha4, ← HXX.out]
      cases Tr.entsO o <;> rfl) (fun e => by
      rw [ha4]
      rw [← HXX.out] at e
      cases h0 : Tr.entsO o with
      | nil => rfl
      | cons a l => rw [h0] at e; cases e))
  clear hc4 hf4 hr4 ht4 hb4 ha4 HN
  go_loopw [3, 5, 6] (fun l e i wr => ∃ (L1 : List Ent) (x : Option Ent) (S : List (T × Nat)) (D : Option Addr) (d : Nat) (R : Option Addr) (c eb : Nat) (r : Bool), l = .slice R L1.length c ∧ e = .pointer (some ⟨eb, 0, none⟩) ∧ i = .bool r ∧ x.isSome = r ∧ AllI w g k kk o L1 x S D d R c eb wr) (fun l _ _ _ => (Tr.entsO o).length - lenV l)
  case atStart => exact ⟨[], x, S4, D4, d4, _, _, _, _, rfl, rfl, rfl, HBX.out, HI.out⟩
  case round =>
    obtain ⟨L1, x, S, D, d, R, c, eb, r, rfl, rfl, rfl, hr, hI⟩ := hrel
    clear HI HXX HBX
    cases x with
    | none =>
      have HI := Lib.hid hI
      clear hI
      have hr' : r = false := hr.symm
      subst hr'
      clear hr
      go_wp2_with fail
      go_ret
      have hw := HI.out.whole
      rw [HI.out.stop rfl] at hw
      simp only [Option.toList, List.append_nil] at hw
      obtain ⟨A, c', hv, hc', hl⟩ := OwnL.rd (entG_ok _ _) HI.out.row
      simp only [Value.slice.injEq] at hv
      obtain ⟨rfl, -, rfl⟩ := hv
      rw [← hw]
      refine ⟨_, _, rfl, hc', fun hn => ?_, HI.out.bel⟩
      obtain ⟨b, off, h1, h2, h3⟩ := hl hn
      refine ⟨b, off, h1, h2, fun i a ha => ?_⟩
      obtain ⟨A', c'', h4, h5, h6, h7⟩ := h3 i a ha
      exact ⟨A', c'', h4, h5, h6.pts, h7⟩
    | some y =>
      obtain ⟨Pn, nn, hblk, hpts⟩ := hI.ent
      obtain ⟨c0, c1, -, -⟩ := box_cells hblk
      have HY := Lib.hid (And.intro hI (And.intro hblk hpts))
      have hwl := congrArg List.length hI.whole
      simp only [List.length_append, Option.toList, List.length_cons, List.length_nil] at hwl
      have hlen : L1.length ≤ 100000000 := by have := HR.out.2.2; omega
      have hyb : y.1.length ≤ maxLen ∧ y.2 < 18446744073709551616 := by
        have hmem : y ∈ Tr.entsO o := by rw [← hI.whole]; simp
        cases o with
        | none => cases hmem
        | some t =>
          have hw := (HX.out.1 t rfl).1
          have h1 := hw.each y hmem
          have h16 := hw.k16
          exact ⟨by unfold maxLen; omega, h1.2.2.1⟩
      have HY2 := Lib.hid (And.intro hyb hwl)
      clear hI hblk hpts hwl hyb
      have hr' : r = true := hr.symm
      subst hr'
      clear hr
      obtain ⟨x', hx'⟩ : ∃ x', (Tr.aft S).head? = x' := ⟨_, rfl⟩
      obtain ⟨r', hr'⟩ : ∃ r, x'.isSome = r := ⟨_, rfl⟩
      have HX' := Lib.hid (And.intro hx' hr')
      clear hx' hr'
      go_upto_region 8 with (at_builtin; refine wpList_append_list (Q := EntG wr (Fr w.heap.size R g D)) 27 36 (.agg #[.slice none 0 0, .int .u64 0]) 32 Tryz.underlying27 infoE2 (by rfl) (by omega) (by omega) (entG_ok _ _) (by rfl) _ _ (by rfl) w.heap.size (.slice R L1.length c) L1 [y] (L1.length + 1) (by simp) (by rfl) (by exact HY.out.1.row.below (below_alloc _ _) (Nat.le_refl _)) _ _ 1 1 (by rfl) (by rfl) (by exact lst_at (entG_ok _ _) #[.slice Pn y.1.length nn, .int .u64 (y.2 : Int)] y (by rfl) (by exact ⟨Pn, nn, rfl, rfl, HY.out.2.2, HY2.out.1.1, HY2.out.1.2⟩)) (by omega) (by have := HY.out.1.bel.size; simp; omega) ?_; intro D5 d5 w5 hown5 hgrow5 hat5; have HM := Lib.hid (AllI.app HY.out.1 HY.out.2.1 hown5 (by simp) hgrow5 hat5); obtain ⟨e0, e1, -, -⟩ := box_cells HM.out.blk; clear hown5 hgrow5 hat5)
      have HNx : Hid (∀ y z, Calls Tryz.prog 23 #[.pointer (some ⟨g, 0, none⟩)] (w5.alloc (.cells #[y, z] 36)) _) := Lib.hid fun y z => next_any (HM.out.cur.below (below_alloc w5 (.cells #[y, z] 36))) (hT3.out _ (HM.out.bel.trans ((below_alloc _ _).mono HM.out.bel.size))) x' HX'.out.1 r' HX'.out.2
      clear c0 c1 e0 e1
      go_wp2_with (go_at_call 23; refine (HNx.out _ _).mono ?_; rintro e w7 ⟨P', n', dd', v', rfl, S', D', d', hc7, hf7, hr7, ht7, hb7, ha7⟩; have hI8 := HM.out.next hc7 hf7 hr7 ht7 HX'.out.1 ha7; have hbl7 := (hf7.block w5.heap.size (by simp) (fun hb => by have := (HM.out.cur.mem.lt _ hb).2; omega)).trans (heap_at w5 _ _ rfl); obtain ⟨b0, b1, f0, f1⟩ := box_cells hbl7; have HI8 := Lib.hid hI8; clear hI8 hc7 hf7 hr7 ht7 hb7 ha7 hbl7)
      go_roundw
      case rel => exact ⟨L1 ++ [y], x', S', D', d', D5, d5, w5.heap.size, r', by simp, rfl, rfl, HX'.out.2, HI8.out⟩
      case measure => simp [lenV]; have := HY2.out.2; omega
end Go.Proofs.YtccefboifhfkdaaGreatDoor

/-
  CONTRACTS of package walk: Seek. Laid by wip/gen24.py.
-/
namespace Go.Proofs.YtccefboifhfkdaaGreatDoor
open Go.ChangeShapes Go.WideShapes Go.ChangeAt Go.RowKit
open Tr (T S4 Ent)

theorem rootP_no : rootP none = none := rfl
theorem rootP_yes (t : T) : rootP (some t) = some ⟨t.blk, 0, none⟩ := rfl
/-- all of a list ahead of a point; none ahead of it -/
def Ahead (p : List Nat) (L : List Ent) : Prop := ∀ e ∈ L, Tr.key e.1 < Tr.key p
def Past (p : List Nat) (L : List Ent) : Prop := ∀ e ∈ L, Tr.key p ≤ Tr.key e.1
theorem seek_nil (A : Option Addr) (n c : Nat) (w : World) : Calls Tryz.prog 25 #[.pointer none, .slice A n c] w fun e w' => e = .returned (.int .i64 1) ∧ w = w' := by
  go_enter Tryz.func25, Tryz.ntmps25
  go_wp2
  go_ret
  exact ⟨rfl, rfl⟩
theorem seek_dim {w : World} {B g k : Nat} {r : Option Addr} {S : List (T × Nat)} {D : Option Addr} {d : Nat} (h : CurM w B g (k : Int) r S D d) (hk : k ≤ 16) (A : Option Addr) (n c : Nat) (hn : n ≤ maxLen) (hne : n ≠ k) :
    Calls Tryz.prog 25 #[.pointer (some ⟨g, 0, none⟩), .slice A n c] w fun e w' => e = .returned (.int .i64 2) ∧ w = w' := by
  have HI := Lib.hid (isPoint_c A n c k w hn hk false (decide_eq_false (fun e => hne e.2)))
  have c0 := h.cells.1
  clear h hk hn hne
  go_enter Tryz.func25, Tryz.ntmps25
  go_wp2_with (go_at_call 47; refine HI.out.mono ?_; rintro e w' ⟨rfl, rfl⟩)
  go_ret
  exact ⟨rfl, rfl⟩
theorem CurM.none0 {w : World} {B g : Nat} {kk : Int} {r : Option Addr} {S : List (T × Nat)} {d : Nat} (h : CurM w B g kk r S none d) : S = [] ∧ d = 0 := by
  obtain ⟨vs, h1, h2⟩ := h.stk
  rcases h2.2 with ⟨hv, hn⟩ | ⟨q, cap, cur, hv, r⟩
  · simp only [Value.slice.injEq] at hv
    exact ⟨List.eq_nil_of_length_eq_zero (by simpa using hn), hv.2.2⟩
  · simp at hv
theorem CurM.cut {w : World} {B g : Nat} {kk : Int} {r : Option Addr} {S : List (T × Nat)} {D : Option Addr} {d : Nat} (h : CurM w B g kk r S D d) :
    CurM (w.setCell ⟨g, 2, none⟩ (.slice D 0 d)) B g kk r [] D d := by
  have h7 := OwnL.take stQ_ok h.stk 0 (Nat.zero_le _)
  rw [List.take_zero] at h7
  exact ⟨block_set h.blk _, h.gB, h7.block fun q hq => Below.heap_setCell _ _ _ _ (fun e => h.ne (by rw [own_block] at hq; rw [hq, e])), h.ne⟩
theorem cut_run (w : World) (D : Option Addr) (n d : Nat) (h : (D = none ∧ n = 0 ∧ d = 0) ∨ ∃ q, D = some ⟨q, 0, none⟩ ∧ n ≤ d) :
    (Instr.sliceAt 93 (.slice D n d) none (some (.int .i64 0)) none).run Tryz.prog w = .ok (.slice D 0 d) w := by
  rcases h with ⟨rfl, rfl, rfl⟩ | ⟨q, rfl, hnd⟩
  · kernel_rfl
  · exact step_top w q 0 n d 0 (Nat.zero_le _) hnd
/-- what a way down leaves on a cursor -/
def SeekI (B g : Nat) (kk : Int) (r : Option Addr) (us : List (T × Nat)) (w : World) (F : Nat → Prop) : Prop := us.length ≤ 65 ∧ ∃ D d, CurM w B g kk r us D d ∧ F = Cf g D
theorem seek_visit (B g k : Nat) (kk : Int) (r : Option Addr) : VisitB 57 g B k (SeekI B g kk r) where
  ent := enters_of Tryz.func57 (by kernel_rfl) rfl
  frame := by
    rintro us w w' F ⟨hl, D, d, hc, rfl⟩ _ hk _
    exact ⟨hl, D, d, hc.keep hk, rfl⟩
  inb := by
    rintro us w F ⟨hl, D, d, hc, rfl⟩ b hb
    exact ⟨(hc.lt b hb).2, (hc.lt b hb).1⟩
  call := by
    rintro us w F t a ⟨hl, D, d, hc, rfl⟩ hn hB hus _ _
    refine (step_c hc (by omega) hB t a).mono ?_
    rintro e w' ⟨rfl, D', d', hc', hf, hn'⟩
    exact ⟨rfl, Cf g D', ⟨by rw [List.length_cons]; omega, D', d', hc', rfl⟩, hn', hf⟩
theorem way_addr {p : List Nat} {o o' : Option T} {us : List (T × Nat)} (hp : p.length ≤ 16) (h : Tr.Way p o us o') : ∀ x ∈ us, x.2 ≤ 65536 := by
  induction h with
  | start => intro x hx; cases hx
  | @step us t h hl hc ih =>
    intro x hx
    rcases List.mem_cons.1 hx with rfl | hx
    · exact Nat.le_of_lt (Nat.lt_of_lt_of_le (Z.addr_bound p _) (Nat.pow_le_pow_right (n := 2) (by omega) hp))
    · exact ih x hx
theorem way_bef {p : List Nat} {o o' : Option T} {us : List (T × Nat)} (h : Tr.Way p o us o') : Tr.bef us = Tr.foreR us := by
  cases h with
  | start => rfl
  | @step us t h hl hc =>
    cases t with
    | ent => exact absurd rfl hl
    | br g l pre ks => rfl
set_option maxRecDepth 1000000 in
set_option maxHeartbeats 4000000 in
theorem seek_c {w : World} {B g k : Nat} {o : Option T} {S0 : List (T × Nat)} {D0 : Option Addr} {d0 : Nat} (h : CurAt w B g k (k : Int) o S0 D0 d0) (hn : NodeO w B k o) {p : List Nat} {A : Option Addr} {c : Nat} (hp : Pts w B A p) (hl : p.length = k) (h1 : 1 ≤ k) (h16 : k ≤ 16) :
    Calls Tryz.prog 25 #[.pointer (some ⟨g, 0, none⟩), .slice A p.length c] w fun e w' => e = .returned (.int .i64 0) ∧ ∃ S D d, CurAt w' B g k (k : Int) o S D d ∧ Foot (Cf g D0) w w' ∧ (∀ b, Cf g D b → Cf g D0 b ∨ w.heap.size ≤ b) ∧
      Ahead p (Tr.bef S) ∧ Past p (Tr.aft S) := by
  have HI := Lib.hid (isPoint_c A p.length c k w (by unfold maxLen; omega) h16 true (decide_eq_true ⟨by omega, hl⟩))
  obtain ⟨c0, c1, c2, f2⟩ := h.mem.cells
  have hcut : (D0 = none ∧ S0.length = 0 ∧ d0 = 0) ∨ ∃ q, D0 = some ⟨q, 0, none⟩ ∧ S0.length ≤ d0 := by
    cases D0 with
    | none => obtain ⟨h5, h6⟩ := h.mem.none0; exact .inl ⟨rfl, by rw [h5]; rfl, h6⟩
    | some a =>
      obtain ⟨vs, h5, h6⟩ := h.mem.stk
      rcases h6.2 with ⟨hv, hn⟩ | ⟨q, cap, cur, hv, hge, hh, hnc, r⟩
      · simp at hv
      · simp only [Value.slice.injEq, Option.some.injEq] at hv
        obtain ⟨rfl, -, rfl⟩ := hv
        exact .inr ⟨q, rfl, by simpa using hnc⟩
  have hst := fun w => cut_run w D0 S0.length d0 hcut
  have hent := enters_of Tryz.func57 (by kernel_rfl) rfl
  have HX := Lib.hid (And.intro h (And.intro hn (And.intro hp (And.intro hl (And.intro h1 h16)))))
  have hroot : (w.setCell ⟨g, 2, none⟩ (.slice D0 0 d0)).cell? ⟨g, 1, none⟩ = some (.pointer (rootP o)) := h.mem.cut.cells.2.1
  have hfc : Foot (Cf g D0) w (w.setCell ⟨g, 2, none⟩ (.slice D0 0 d0)) := foot_cell w _ _ _ (.inl rfl)
  have hbc : Below B w (w.setCell ⟨g, 2, none⟩ (.slice D0 0 d0)) := hfc.below h.size fun b hb => (h.mem.lt b hb).1
  have HD := Lib.hid (wdownB_c (seek_visit B g k (k : Int) (rootP o)) (w := w.setCell ⟨g, 2, none⟩ (.slice D0 0 d0)) (F := Cf g D0) (o := o) ⟨by simp, D0, d0, h.mem.cut, rfl⟩ (hn.below hbc (Nat.le_refl _) (Nat.le_refl _)) (by simpa using h.size) (hp.below' hbc (Nat.le_refl _)) (c := c) hl h1 h16)
  have HF := Lib.hid hfc
  clear h hcut hn hp hl h1 h16 hfc hbc
  go_enter Tryz.func25, Tryz.ntmps25
  go_upto_region 7 with (first
    | (go_at_call 47; refine HI.out.mono ?_; rintro e w' ⟨rfl, rfl⟩)
    | (go_at_call 50; refine HD.out.mono ?_; rintro e w2 ⟨us, o', hway, hstop, rfl, F', hI', hF', hfo⟩))
  obtain ⟨hlen, D, d, hcm, rfl⟩ := hI'
  have hfw : Foot (Cf g D0) w w2 := HF.out.trans hfo (fun b hb => .inl hb)
  have hfar : ∀ b, Cf g D b → Cf g D0 b ∨ w.heap.size ≤ b := fun b hb => by
    rcases hF' b hb with hb | hb
    · exact .inl hb
    · exact .inr (by simpa using hb)
  have hbw : Below B w w2 := hfw.below HX.out.1.size fun b hb => (HX.out.1.mem.lt b hb).1
  have hnd : ∀ x ∈ us, Node w2 B k x.1 ∧ x.2 ≤ 65536 := fun x hx => ⟨(way_nodes HX.out.2.1 hway x hx).below hbw (Nat.le_refl _) (Nat.le_refl _), way_addr (by have := HX.out.2.2.2.1; have := HX.out.2.2.2.2.2; omega) hway x hx⟩
  have hsz : B ≤ w2.heap.size := Nat.le_trans HX.out.1.size hfw.size
  have HW := Lib.hid (hway.sides (k := k) HX.out.2.2.2.1 HX.out.2.2.1.1 (fun t e => (HX.out.2.1 t e).1))
  cases o' with
  | none =>
    have HM := Lib.hid (And.intro hcm (And.intro hfw (And.intro hfar (And.intro hnd (And.intro hsz hway)))))
    clear hcm hfw hfar hnd hsz hway hbw hstop hF' hfo HI HD c0 c1 c2 f2 hst hroot hlen
    simp only [rootP_no]
    go_wp2_with fail
    go_ret
    obtain ⟨hcm, hfw, hfar, hnd, hsz, hway⟩ := HM.out
    refine ⟨rfl, us, D, ⟨d, ⟨hcm, hway.chain.2 rfl, hnd, hsz⟩⟩, hfw, hfar, ?_, ?_⟩
    · rw [way_bef hway]; exact HW.out.1
    · exact fun e he => Nat.le_of_lt (HW.out.2.2 (by first | rfl | trivial) e he)
  | some s =>
    have hns0 := way_node HX.out.2.1 hway s rfl
    have hns := hns0.below hbw (Nat.le_refl _) (Nat.le_refl _)
    obtain ⟨sd, hsd⟩ : ∃ sd, Z.cmp s.pre p = sd := ⟨_, rfl⟩
    have HZ := Lib.hid (Tr.stop_side hns0.1 HX.out.2.2.2.1 HX.out.2.2.1.1 hstop)
    rw [hsd] at HZ
    have HSd := Lib.hid (side_c (c := c) hns hsz (HX.out.2.2.1.below' hbw (Nat.le_refl _)) hsz HX.out.2.2.2.1 sd hsd)
    have HM := Lib.hid (And.intro hcm (And.intro hlen (And.intro (And.intro hfw (And.intro hfar hsz)) (And.intro hnd (And.intro hway (And.intro hstop hns))))))
    clear hcm hfw hfar hnd hsz hway hbw hstop hF' hfo HI HD c0 c1 c2 f2 hst hroot hlen hns hns0 hsd
    simp only [rootP_yes]
    by_cases hsg : sd < 0
    · have d1 : decide (sd < 0) = true := decide_eq_true hsg
      have HSt : Hid (∀ w3, Below w2.heap.size w2 w3 → Calls Tryz.prog 57 #[.pointer (some ⟨g, 0, none⟩), .pointer (some ⟨s.blk, 0, none⟩), .int .i64 65536] w3 fun e w' => e = .returned (.tuple #[]) ∧
          ∃ D' d', CurM w' B g (k : Int) (rootP o) ((s, 65536) :: us) D' d' ∧ Foot (Cf g D) w3 w' ∧ (∀ b, Cf g D' b → Cf g D b ∨ w3.heap.size ≤ b)) := Lib.hid fun w3 hb => step_c (HM.out.1.below hb) (by have := HM.out.2.1; omega) (Nat.le_trans HM.out.2.2.1.2.2 hb.size) s 65536
      have HC := Lib.hid hsg
      clear hsg
      go_wp2_with (first
        | (go_at_call 51; refine HSd.out.mono ?_; rintro e w3 ⟨rfl, hb3⟩; have H3 := Lib.hid hb3; clear hb3)
        | (go_at_call 57; refine (HSt.out _ H3.out).mono ?_; rintro e w5 ⟨rfl, D5, d5, hm5, hf5, hn5⟩))
      go_ret
      obtain ⟨hcm, hlen, ⟨hfw, hfar, hsz⟩, hnd, hway, hstop, hns⟩ := HM.out
      have hf25 : Foot (Cf g D) w2 w5 := (Foot.of_below (F := Cf g D) H3.out).trans hf5 (fun b hb => .inl hb)
      have hb25 : Below B w2 w5 := hf25.below hsz fun b hb => (hcm.lt b hb).1
      refine ⟨rfl, (s, 65536) :: us, D5, d5, ⟨hm5, hway.chain.1 s 65536 rfl, fun x hx => ?_, Nat.le_trans hsz hf25.size⟩, hfw.trans hf25 hfar, fun b hb => ?_, ?_, ?_⟩
      · rcases List.mem_cons.1 hx with rfl | hx
        · exact ⟨hns.below hb25 (Nat.le_refl _) (Nat.le_refl _), by show 65536 ≤ 65536; omega⟩
        · exact ⟨(hnd x hx).1.below hb25 (Nat.le_refl _) (Nat.le_refl _), (hnd x hx).2⟩
      · rcases hn5 b hb with hb | hb
        · exact hfar b hb
        · exact .inr (Nat.le_trans hfw.size (Nat.le_trans H3.out.size hb))
      · intro e he
        simp only [Tr.bef, (Tr.fore_top hns.1).1, List.mem_append] at he
        rcases he with he | he
        · exact (HW.out.1 e he)
        · exact (HZ.out.1 HC.out e he)
      · intro e he
        simp only [Tr.aft, (Tr.fore_top hns.1).2, List.nil_append] at he
        exact Nat.le_of_lt (HW.out.2.1 ⟨s, rfl⟩ e he)
    · have d1 : decide (sd < 0) = false := decide_eq_false hsg
      have HSt : Hid (∀ w3, Below w2.heap.size w2 w3 → Calls Tryz.prog 57 #[.pointer (some ⟨g, 0, none⟩), .pointer (some ⟨s.blk, 0, none⟩), .int .i64 0] w3 fun e w' => e = .returned (.tuple #[]) ∧
          ∃ D' d', CurM w' B g (k : Int) (rootP o) ((s, 0) :: us) D' d' ∧ Foot (Cf g D) w3 w' ∧ (∀ b, Cf g D' b → Cf g D b ∨ w3.heap.size ≤ b)) := Lib.hid fun w3 hb => step_c (HM.out.1.below hb) (by have := HM.out.2.1; omega) (Nat.le_trans HM.out.2.2.1.2.2 hb.size) s 0
      have HC := Lib.hid hsg
      clear hsg
      go_wp2_with (first
        | (go_at_call 51; refine HSd.out.mono ?_; rintro e w3 ⟨rfl, hb3⟩; have H3 := Lib.hid hb3; clear hb3)
        | (go_at_call 57; refine (HSt.out _ H3.out).mono ?_; rintro e w5 ⟨rfl, D5, d5, hm5, hf5, hn5⟩))
      go_ret
      obtain ⟨hcm, hlen, ⟨hfw, hfar, hsz⟩, hnd, hway, hstop, hns⟩ := HM.out
      have hf25 : Foot (Cf g D) w2 w5 := (Foot.of_below (F := Cf g D) H3.out).trans hf5 (fun b hb => .inl hb)
      have hb25 : Below B w2 w5 := hf25.below hsz fun b hb => (hcm.lt b hb).1
      refine ⟨rfl, (s, 0) :: us, D5, d5, ⟨hm5, hway.chain.1 s 0 rfl, fun x hx => ?_, Nat.le_trans hsz hf25.size⟩, hfw.trans hf25 hfar, fun b hb => ?_, ?_, ?_⟩
      · rcases List.mem_cons.1 hx with rfl | hx
        · exact ⟨hns.below hb25 (Nat.le_refl _) (Nat.le_refl _), by show 0 ≤ 65536; omega⟩
        · exact ⟨(hnd x hx).1.below hb25 (Nat.le_refl _) (Nat.le_refl _), (hnd x hx).2⟩
      · rcases hn5 b hb with hb | hb
        · exact hfar b hb
        · exact .inr (Nat.le_trans hfw.size (Nat.le_trans H3.out.size hb))
      · intro e he
        simp only [Tr.bef, (Tr.fore_zero s).1, List.append_nil] at he
        exact (HW.out.1 e he)
      · intro e he
        simp only [Tr.aft, (Tr.fore_zero s).2, List.mem_append] at he
        rcases he with he | he
        · exact HZ.out.2.1 (by have := HC.out; omega) e he
        · exact Nat.le_of_lt (HW.out.2.1 ⟨s, rfl⟩ e he)
end Go.Proofs.YtccefboifhfkdaaGreatDoor

/-
  CONTRACTS of package walk: From, UpTo. Laid by wip/gen25.py.
-/
namespace Go.Proofs.YtccefboifhfkdaaGreatDoor
open Go.ChangeShapes Go.WideShapes Go.ChangeAt Go.RowKit
open Tr (T S4 Ent)

/-- an answer as values: none, or the entry x in new memory -/
def TelE (w w' : World) (x : Option Ent) (P : Option Addr) (n dd v : Nat) : Prop := match x with
  | none => P = none ∧ n = 0 ∧ dd = 0 ∧ v = 0
  | some y => n = y.1.length ∧ v = y.2 ∧ ∃ hh, P = some ⟨hh, 0, none⟩ ∧ Own w' w.heap.size (.slice P n dd) y.1
theorem tel_of {w w' : World} {x : Option Ent} {e : Ending} (h : ToldE w w' x e) (r : Bool) (hr : x.isSome = r) : ∃ (P : Option Addr) (n dd v : Nat), e = .returned (.tuple #[.agg #[.slice P n dd, .int .u64 (v : Int)], .bool r]) ∧ TelE w w' x P n dd v := by
  subst hr
  cases x with
  | none => exact ⟨none, 0, 0, 0, h, rfl, rfl, rfl, rfl⟩
  | some y =>
    obtain ⟨hh, dd, h1, h2⟩ := h
    exact ⟨_, _, dd, _, h1, rfl, rfl, hh, rfl, h2⟩
theorem tel_res {w w' W : World} (hW : w.heap.size < W.heap.size) {x : Option Ent} {P : Option Addr} {n dd v : Nat} (h : TelE W w' x P n dd v) (a b : Value) :
    TelE w ((w'.setCell ⟨w.heap.size, 0, none⟩ a).setCell ⟨w.heap.size, 1, none⟩ b) x P n dd v := by
  cases x with
  | none => exact h
  | some y =>
    obtain ⟨rfl, rfl, hh, rfl, ho⟩ := h
    have h1 := (ho.2.lt hh rfl).1
    have hn : (Value.slice (some ⟨hh, 0, none⟩) y.1.length dd).ownBlock ≠ some w.heap.size := fun e => by simp only [Value.ownBlock, Option.some.injEq] at e; omega
    exact ⟨rfl, rfl, hh, rfl, own_set (own_set (ho.mono (Nat.le_of_lt hW)) (a := ⟨w.heap.size, 0, none⟩) hn a) (a := ⟨w.heap.size, 1, none⟩) hn b⟩
theorem first_any {w : World} {B k : Nat} {o : Option T} (h : NodeO w B k o) (hB : B ≤ w.heap.size) (hT : ∀ w', Below B w w' → Tz w') (x : Option Ent) (hx : (Tr.entsO o).head? = x) (r : Bool) (hr : x.isSome = r) :
    Calls Tryz.prog 15 #[.pointer (rootP o)] w fun e w' => (∃ (P : Option Addr) (n dd v : Nat), e = .returned (.tuple #[.agg #[.slice P n dd, .int .u64 (v : Int)], .bool r]) ∧ TelE w w' x P n dd v) ∧ Below w.heap.size w w' := by
  cases o with
  | none =>
    subst hx
    exact (first_nil w).mono fun e w' ⟨h1, h2⟩ => ⟨tel_of (x := none) h1 r hr, h2⟩
  | some t =>
    refine (first_c (h t rfl) hB hT).mono fun e w' ⟨h1, h2⟩ => ⟨tel_of ?_ r hr, h2⟩
    rw [← hx]; exact h1
theorem last_any {w : World} {B k : Nat} {o : Option T} (h : NodeO w B k o) (hB : B ≤ w.heap.size) (x : Option Ent) (hx : (Tr.entsO o).getLast? = x) (r : Bool) (hr : x.isSome = r) :
    Calls Tryz.prog 16 #[.pointer (rootP o)] w fun e w' => (∃ (P : Option Addr) (n dd v : Nat), e = .returned (.tuple #[.agg #[.slice P n dd, .int .u64 (v : Int)], .bool r]) ∧ TelE w w' x P n dd v) ∧ Below w.heap.size w w' := by
  cases o with
  | none =>
    subst hx
    exact (lastE_nil w).mono fun e w' ⟨h1, h2⟩ => ⟨tel_of (x := none) h1 r hr, h2⟩
  | some t =>
    refine (lastE_c (h t rfl) hB).mono fun e w' ⟨h1, h2⟩ => ⟨tel_of ?_ r hr, h2⟩
    rw [← hx]; exact h1

/-! ### the nearest node beside the way -/
def nxF : List (T × Nat) → Option T
  | [] => none
  | (t, a) :: us => match t.ks[Sl.idx t.ks ((a + 1 : Nat) : Int)]? with
    | some y => some y.2
    | none => nxF us
def nxB : List (T × Nat) → Option T
  | [] => none
  | (t, a) :: us => match upK t.ks ((a : Int) - 1) with
    | some y => some y.2
    | none => nxB us
/-- all behind the way -/
def aftW : List (T × Nat) → List Ent
  | [] => []
  | (t, a) :: us => Tr.entsL (t.ks.drop (Sl.idx t.ks ((a + 1 : Nat) : Int))) ++ aftW us
theorem aftW_chain {k : Nat} {o : Option T} : ∀ {us : List (T × Nat)} {s : T} {n : Nat}, Tr.Steps o ((s, n) :: us) → (∀ x ∈ us, Tr.Wf k x.1) → aftW us = Tr.aftR us
  | [], _, _, _, _ => rfl
  | (t, a) :: us, s, n, hc, hw => by
    obtain ⟨hm, hc'⟩ := hc
    have h1 := (Tr.kid_split (hw (t, a) List.mem_cons_self) hm).2
    have h2 := aftW_chain (s := t) (n := a) hc' fun x hx => hw x (List.mem_cons_of_mem _ hx)
    simp only [aftW, Tr.aftR, h1, h2]
theorem aftW_way {k : Nat} {p : List Nat} {o o' : Option T} {us : List (T × Nat)} (h : Tr.Way p o us o') (ho : ∀ t, o = some t → Tr.Wf k t) : (∀ s, o' = some s → aftW us = Tr.aftR us) ∧ (o' = none → aftW us = Tr.aft us) := by
  have hw := h.wf ho
  refine ⟨fun s e => aftW_chain (h.chain.1 s 0 e) hw.2, fun e => ?_⟩
  cases h with
  | start => rfl
  | @step us t h hl hc =>
    obtain ⟨g, l, pre, ks, rfl⟩ : ∃ g l pre ks, t = .br g l pre ks := by
      cases t with
      | ent => exact absurd rfl hl
      | br g l pre ks => exact ⟨g, l, pre, ks, rfl⟩
    have h1 := aftW_chain (h.chain.1 _ 0 rfl) fun x hx => hw.2 x (List.mem_cons_of_mem _ hx)
    have h2 := Sl.idx_succ (h.wf ho |>.1 _ rfl |>.srt) ((Z.addr p ((T.br g l pre ks).lv - 1) : Nat) : Int)
    have h3 : Sl.has (T.br g l pre ks).ks ((Z.addr p ((T.br g l pre ks).lv - 1) : Nat) : Int) = false := by
      unfold Sl.has
      have e' : Sl.get (T.br g l pre ks).ks ((Z.addr p ((T.br g l pre ks).lv - 1) : Nat) : Int) = none := e
      rw [e']; rfl
    rw [h3] at h2
    simp only [Bool.false_eq_true, if_false, Nat.add_zero] at h2
    show Tr.entsL _ ++ aftW us = Tr.entsL _ ++ Tr.aftR us
    rw [h1]
    congr 2
    rw [show (((Z.addr p ((T.br g l pre ks).lv - 1)) + 1 : Nat) : Int) = ((Z.addr p ((T.br g l pre ks).lv - 1) : Nat) : Int) + 1 by omega, h2]
    rfl
theorem nxF_head {k : Nat} : ∀ {us : List (T × Nat)}, (∀ x ∈ us, Tr.Wf k x.1) → (Tr.entsO (nxF us)).head? = (aftW us).head?
  | [], _ => rfl
  | (t, a) :: us, hw => by
    have ih := nxF_head fun x hx => hw x (List.mem_cons_of_mem _ hx)
    have ht := hw (t, a) List.mem_cons_self
    cases hk : t.ks[Sl.idx t.ks ((a + 1 : Nat) : Int)]? with
    | none =>
      have : t.ks.drop (Sl.idx t.ks ((a + 1 : Nat) : Int)) = [] := List.drop_eq_nil_of_le (by rw [List.getElem?_eq_none_iff] at hk; exact hk)
      simp only [nxF, hk, aftW, this, Tr.entsL_nil, List.nil_append]
      exact ih
    | some y =>
      obtain ⟨hi, hx'⟩ := List.getElem?_eq_some_iff.1 hk
      have h2 : t.ks.drop (Sl.idx t.ks ((a + 1 : Nat) : Int)) = y :: t.ks.drop (Sl.idx t.ks ((a + 1 : Nat) : Int) + 1) := by rw [List.drop_eq_getElem_cons hi, hx']
      have hne := (ht.sub (List.mem_of_getElem? hk)).1.ne
      simp only [nxF, hk, aftW, h2, Tr.entsL_cons]
      show y.2.ents.head? = _
      cases he : y.2.ents with
      | nil => exact absurd he hne
      | cons e es => rfl
theorem nxB_last {k : Nat} : ∀ {us : List (T × Nat)}, (∀ x ∈ us, Tr.Wf k x.1) → (Tr.entsO (nxB us)).getLast? = (Tr.foreR us).getLast?
  | [], _ => rfl
  | (t, a) :: us, hw => by
    have ih := nxB_last fun x hx => hw x (List.mem_cons_of_mem _ hx)
    have ht := hw (t, a) List.mem_cons_self
    cases hk : upK t.ks ((a : Int) - 1) with
    | none =>
      have h0 := upK_none hk
      simp only [nxB, hk, Tr.foreR, h0, List.take_zero, Tr.entsL_nil, List.append_nil]
      exact ih
    | some y =>
      rcases upK_at hk with ⟨_, e⟩ | ⟨i, e1, e⟩
      · cases e
      · have h4 : t.ks.take (i + 1) = t.ks.take i ++ [y] := by rw [List.take_add_one, e]; rfl
        have hne := (ht.sub (List.mem_of_getElem? e)).1.ne
        simp only [nxB, hk, Tr.foreR, e1, h4, Tr.entsL_append, Tr.entsL_cons, Tr.entsL_nil, List.append_nil]
        show y.2.ents.getLast? = _
        rw [List.getLast?_append, List.getLast?_append]
        cases he : y.2.ents.getLast? with
        | none => exact absurd (List.getLast?_eq_none_iff.1 he) hne
        | some e => rfl
theorem nx_node {w : World} {B k : Nat} {us : List (T × Nat)} (h : ∀ x ∈ us, Node w B k x.1) : NodeO w B k (nxF us) ∧ NodeO w B k (nxB us) := by
  induction us with
  | nil => exact ⟨NodeO.none _ _ _, NodeO.none _ _ _⟩
  | cons x us ih =>
    obtain ⟨t, a⟩ := x
    have i1 := ih fun x hx => h x (List.mem_cons_of_mem _ hx)
    have ht := h (t, a) List.mem_cons_self
    have hk : ∀ y ∈ t.ks, Node w B k y.2 := fun y hy => by
      obtain ⟨g', l, pre, ks, rfl⟩ := Tr.ks_br hy
      exact ht.kid hy
    refine ⟨fun s hs => ?_, fun s hs => ?_⟩
    · simp only [nxF] at hs
      split at hs
      · rename_i y hy; cases hs; exact hk y (List.mem_of_getElem? hy)
      · exact i1.1 s hs
    · simp only [nxB] at hs
      split at hs
      · rename_i y hy; cases hs; exact hk y (upK_mem hy)
      · exact i1.2 s hs

theorem from1_c {w : World} {B g k : Nat} {t : T} (h : Node w B k t) (hT : Tz w) (a : Nat) (ha : a < 65536) {v : Option Addr} {ty : TypeId} (hg : w.heap[g]? = some (.cells #[.pointer v] ty (0, 0))) (kx : Option (Nat × T)) (hkx : t.ks[Sl.idx t.ks ((a + 1 : Nat) : Int)]? = kx) :
    Calls Tryz.prog 49 #[.pointer (some ⟨t.blk, 0, none⟩), .int .i64 (a : Int), .pointer (some ⟨g, 0, none⟩)] w fun e w' => e = .returned (.tuple #[]) ∧ ∃ i, w' = match kx with | none => w.drewN i | some y => (w.drewN i).setCell ⟨g, 0, none⟩ (.pointer (some ⟨y.2.blk, 0, none⟩)) := by
  have H : Hid (Calls Tryz.prog 44 #[.pointer (some ⟨t.blk, 0, none⟩), .int .i64 ((a : Int) + 1)] w fun e w' => e = .returned (atKid (kidP kx).1 (kidP kx).2) ∧ ∃ i, w' = w.drewN i) := Lib.hid (by
    have := nFrom_c h.2 hT ((a + 1 : Nat) : Int) (by omega) (by omega) (kidP kx) (by rw [hkx])
    rw [show ((a + 1 : Nat) : Int) = (a : Int) + 1 by omega] at this
    exact this)
  have c0 : w.cell? ⟨g, 0, none⟩ = some (.pointer v) := by rw [cell_of_row w g _ _ ty (0, 0) hg]; rfl
  have f0 : w.frozen? ⟨g, 0, none⟩ = false := frozen_of_row w g _ _ ty hg
  have ha1 : (a : Int) + 1 ≤ 65536 := by omega
  have ha0 : (0 : Int) ≤ (a : Int) := by omega
  clear h hg hkx ha hT
  cases kx with
  | none =>
    have H2 : Hid (Calls Tryz.prog 44 #[.pointer (some ⟨t.blk, 0, none⟩), .int .i64 ((a : Int) + 1)] w fun e w' => e = .returned (atKid 0 none) ∧ ∃ i, w' = w.drewN i) := H
    clear H
    go_enter Tryz.func49, Tryz.ntmps49
    go_wp2_with (go_at_call 44; refine H2.out.mono ?_; rintro e w2 ⟨rfl, i2, rfl⟩)
    go_end0
    exact ⟨rfl, i2, rfl⟩
  | some y =>
    have H2 : Hid (Calls Tryz.prog 44 #[.pointer (some ⟨t.blk, 0, none⟩), .int .i64 ((a : Int) + 1)] w fun e w' => e = .returned (atKid y.1 (some ⟨y.2.blk, 0, none⟩)) ∧ ∃ i, w' = w.drewN i) := H
    clear H
    go_enter Tryz.func49, Tryz.ntmps49
    go_wp2_with (go_at_call 44; refine H2.out.mono ?_; rintro e w2 ⟨rfl, i2, rfl⟩)
    go_end0
    exact ⟨rfl, i2, rfl⟩
def FromI (B g : Nat) (us : List (T × Nat)) (w : World) (F : Nat → Prop) : Prop := F = (fun b => b = g) ∧ B ≤ g ∧ (∀ w', Below B w w' → Tz w') ∧ ∃ ty, w.heap[g]? = some (.cells #[.pointer (rootP (nxF us))] ty (0, 0))
theorem from_visit (B g k : Nat) : VisitA 49 g B k (FromI B g) where
  ent := enters_of Tryz.func49 (by kernel_rfl) rfl
  frame := by
    rintro us w w' F ⟨rfl, hB, hT, t, h⟩ hs hb hbe
    exact ⟨rfl, hB, fun w2 h2 => hT w2 (hbe.trans h2), t, (hb g rfl).trans h⟩
  inb := by
    rintro us w F ⟨rfl, hB, hT, t, h⟩ b rfl
    exact ⟨(Array.getElem?_eq_some_iff.1 h).1, hB⟩
  call := by
    rintro us w F t a ⟨rfl, hB, hT, ty, hg⟩ hn hBw hus hl ha
    obtain ⟨kx, hkx⟩ : ∃ kx, t.ks[Sl.idx t.ks ((a + 1 : Nat) : Int)]? = kx := ⟨_, rfl⟩
    refine (from1_c hn (hT w (Below.refl _ _)) a ha hg kx hkx).mono ?_
    rintro e w' ⟨rfl, i, rfl⟩
    cases kx with
    | none =>
      have hb : Below B w (w.drewN i) := below_drewN i (Below.refl _ _)
      refine ⟨rfl, fun b => b = g, ⟨rfl, hB, fun w2 h2 => hT w2 (hb.trans h2), ty, ?_⟩, fun b hb => .inl hb, ⟨rfl, rfl, rfl, Nat.le_refl _, fun _ _ _ => rfl⟩⟩
      have hnx : nxF ((t, a) :: us) = nxF us := by simp only [nxF, hkx]
      rw [hnx]; exact hg
    | some y =>
      have hb : Below B w ((w.drewN i).setCell ⟨g, 0, none⟩ (.pointer (some ⟨y.2.blk, 0, none⟩))) := (below_drewN i (Below.refl _ _)).setCell (p := ⟨g, 0, none⟩) hB _
      refine ⟨rfl, fun b => b = g, ⟨rfl, hB, fun w2 h2 => hT w2 (hb.trans h2), ty, ?_⟩, fun b hb => .inl hb, (Foot.of_below (F := fun b => b = g) (below_drewN i (Below.refl _ _))).trans (foot_cell _ (fun b => b = g) 0 _ rfl) (fun b hb => .inl hb)⟩
      have hnx : nxF ((t, a) :: us) = some y.2 := by simp only [nxF, hkx]
      rw [hnx]
      exact block_set hg _

theorem upto1_c {w : World} {B g k : Nat} {t : T} (h : Node w B k t) (a : Nat) (ha : a < 65536) {v : Option Addr} {ty : TypeId} (hg : w.heap[g]? = some (.cells #[.pointer v] ty (0, 0))) (kx : Option (Nat × T)) (hkx : upK t.ks ((a : Int) - 1) = kx) :
    Calls Tryz.prog 52 #[.pointer (some ⟨t.blk, 0, none⟩), .int .i64 (a : Int), .pointer (some ⟨g, 0, none⟩)] w fun e w' => e = .returned (.tuple #[]) ∧ ∃ i, w' = match kx with | none => w.drewN i | some y => (w.drewN i).setCell ⟨g, 0, none⟩ (.pointer (some ⟨y.2.blk, 0, none⟩)) := by
  have H : Hid (Calls Tryz.prog 46 #[.pointer (some ⟨t.blk, 0, none⟩), .int .i64 ((a : Int) - 1)] w fun e w' => e = .returned (atKid (kidP kx).1 (kidP kx).2) ∧ ∃ i, w' = w.drewN i) := Lib.hid (nUpTo_k h.2 ((a : Int) - 1) (kidP kx) (by rw [hkx]))
  have c0 : w.cell? ⟨g, 0, none⟩ = some (.pointer v) := by rw [cell_of_row w g _ _ ty (0, 0) hg]; rfl
  have f0 : w.frozen? ⟨g, 0, none⟩ = false := frozen_of_row w g _ _ ty hg
  have ha1 : (a : Int) + 1 ≤ 65536 := by omega
  have ha0 : (0 : Int) ≤ (a : Int) := by omega
  clear h hg hkx ha 
  cases kx with
  | none =>
    have H2 : Hid (Calls Tryz.prog 46 #[.pointer (some ⟨t.blk, 0, none⟩), .int .i64 ((a : Int) - 1)] w fun e w' => e = .returned (atKid 0 none) ∧ ∃ i, w' = w.drewN i) := H
    clear H
    go_enter Tryz.func52, Tryz.ntmps52
    go_wp2_with (go_at_call 46; refine H2.out.mono ?_; rintro e w2 ⟨rfl, i2, rfl⟩)
    go_end0
    exact ⟨rfl, i2, rfl⟩
  | some y =>
    have H2 : Hid (Calls Tryz.prog 46 #[.pointer (some ⟨t.blk, 0, none⟩), .int .i64 ((a : Int) - 1)] w fun e w' => e = .returned (atKid y.1 (some ⟨y.2.blk, 0, none⟩)) ∧ ∃ i, w' = w.drewN i) := H
    clear H
    go_enter Tryz.func52, Tryz.ntmps52
    go_wp2_with (go_at_call 46; refine H2.out.mono ?_; rintro e w2 ⟨rfl, i2, rfl⟩)
    go_end0
    exact ⟨rfl, i2, rfl⟩
def UpToI (B g : Nat) (us : List (T × Nat)) (w : World) (F : Nat → Prop) : Prop := F = (fun b => b = g) ∧ B ≤ g ∧ (∀ w', Below B w w' → Tz w') ∧ ∃ ty, w.heap[g]? = some (.cells #[.pointer (rootP (nxB us))] ty (0, 0))
theorem upto_visit (B g k : Nat) : VisitA 52 g B k (UpToI B g) where
  ent := enters_of Tryz.func52 (by kernel_rfl) rfl
  frame := by
    rintro us w w' F ⟨rfl, hB, hT, t, h⟩ hs hb hbe
    exact ⟨rfl, hB, fun w2 h2 => hT w2 (hbe.trans h2), t, (hb g rfl).trans h⟩
  inb := by
    rintro us w F ⟨rfl, hB, hT, t, h⟩ b rfl
    exact ⟨(Array.getElem?_eq_some_iff.1 h).1, hB⟩
  call := by
    rintro us w F t a ⟨rfl, hB, hT, ty, hg⟩ hn hBw hus hl ha
    obtain ⟨kx, hkx⟩ : ∃ kx, upK t.ks ((a : Int) - 1) = kx := ⟨_, rfl⟩
    refine (upto1_c hn a ha hg kx hkx).mono ?_
    rintro e w' ⟨rfl, i, rfl⟩
    cases kx with
    | none =>
      have hb : Below B w (w.drewN i) := below_drewN i (Below.refl _ _)
      refine ⟨rfl, fun b => b = g, ⟨rfl, hB, fun w2 h2 => hT w2 (hb.trans h2), ty, ?_⟩, fun b hb => .inl hb, ⟨rfl, rfl, rfl, Nat.le_refl _, fun _ _ _ => rfl⟩⟩
      have hnx : nxB ((t, a) :: us) = nxB us := by simp only [nxB, hkx]
      rw [hnx]; exact hg
    | some y =>
      have hb : Below B w ((w.drewN i).setCell ⟨g, 0, none⟩ (.pointer (some ⟨y.2.blk, 0, none⟩))) := (below_drewN i (Below.refl _ _)).setCell (p := ⟨g, 0, none⟩) hB _
      refine ⟨rfl, fun b => b = g, ⟨rfl, hB, fun w2 h2 => hT w2 (hb.trans h2), ty, ?_⟩, fun b hb => .inl hb, (Foot.of_below (F := fun b => b = g) (below_drewN i (Below.refl _ _))).trans (foot_cell _ (fun b => b = g) 0 _ rfl) (fun b hb => .inl hb)⟩
      have hnx : nxB ((t, a) :: us) = some y.2 := by simp only [nxB, hkx]
      rw [hnx]
      exact block_set hg _
end Go.Proofs.YtccefboifhfkdaaGreatDoor

/-
  CONTRACTS of package walk: From, UpTo. Laid by wip/gen25.py.
-/
namespace Go.Proofs.YtccefboifhfkdaaGreatDoor
open Go.ChangeShapes Go.WideShapes Go.ChangeAt Go.RowKit
open Tr (T S4 Ent)


def Upto (p : List Nat) (L : List Ent) : Prop := ∀ e ∈ L, Tr.key e.1 ≤ Tr.key p
def Behind (p : List Nat) (L : List Ent) : Prop := ∀ e ∈ L, Tr.key p < Tr.key e.1

theorem from_no {w : World} {B k : Nat} {o : Option T} (h : NodeO w B k o) (hB : B ≤ w.heap.size) (hk : k ≤ 16) (A : Option Addr) (n c : Nat) (hn : n ≤ maxLen) (hne : ∀ t, o = some t → n ≠ k) :
    Calls Tryz.prog 17 #[.pointer (rootP o), .slice A n c] w fun e w' => e = .returned (.tuple #[entryV none 0 0 0, .bool false]) ∧ Below w.heap.size w w' := by
  obtain ⟨kk, HK, hkk⟩ : ∃ kk : Nat, Hid (∀ w1, Below w.heap.size w w1 → Calls Tryz.prog 48 #[.pointer (rootP o)] w1 fun e w' => e = .returned (.int .i64 (kk : Int)) ∧ w1 = w') ∧ (kk ≤ 16 ∧ ¬ (1 ≤ n ∧ n = kk)) := by
    cases o with
    | none => exact ⟨0, Lib.hid fun w1 _ => nK_nil w1, by omega, by omega⟩
    | some t =>
      refine ⟨k, Lib.hid fun w1 hb => ?_, hk, fun e => hne t rfl e.2⟩
      have h1 := (h t rfl).below hb hB (Nat.le_refl _)
      obtain ⟨kp, hnd⟩ := h1.2.nd
      have := nK_c hnd
      rw [h1.1.len] at this
      exact this
  have HI : Hid (∀ w1, Calls Tryz.prog 47 #[.slice A n c, .int .i64 (kk : Int)] w1 fun e w' => e = .returned (.bool false) ∧ w1 = w') := Lib.hid fun w1 => isPoint_c A n c kk w1 hn hkk.1 false (decide_eq_false hkk.2)
  have hal := below_alloc w (.cells #[.slice none 0 0, .int .u64 0] 36)
  clear h hB hk hn hne hkk
  go_enter Tryz.func17, Tryz.ntmps17
  go_wp2_with (first
    | (go_at_call 48; refine (HK.out _ hal).mono ?_; rintro e w2 ⟨rfl, rfl⟩)
    | (go_at_call 47; refine (HI.out _).mono ?_; rintro e w2 ⟨rfl, rfl⟩))
  refine bodyPost_ret (v := .tuple #[entryV none 0 0 0, .bool false]) (by simp [results, Tryz.results17, go_sem]) rfl ?_
  exact ⟨rfl, hal⟩
set_option maxRecDepth 1000000 in
set_option maxHeartbeats 4000000 in
theorem from_c {w : World} {B k : Nat} {t : T} (h : Node w B k t) (hB : B ≤ w.heap.size) (hT : ∀ w', Below B w w' → Tz w') {p : List Nat} {A : Option Addr} {c : Nat} (hp : Pts w B A p) (hl : p.length = k) :
    Calls Tryz.prog 17 #[.pointer (some ⟨t.blk, 0, none⟩), .slice A p.length c] w fun e w' => ∃ F1 F2, t.ents = F1 ++ F2 ∧ Ahead p F1 ∧ Past p F2 ∧
      (∃ (P : Option Addr) (n dd v : Nat), e = .returned (.tuple #[.agg #[.slice P n dd, .int .u64 (v : Int)], .bool F2.head?.isSome]) ∧ TelE w w' F2.head? P n dd v) ∧ Below w.heap.size w w' := by
  have hal : Below w.heap.size w ((w.alloc (.cells #[.slice none 0 0, .int .u64 0] 36)).alloc (.cells #[.pointer none] 32)) := ((Below.refl _ _).alloc (Nat.le_refl _) _).alloc (by simp) _
  have hbox : ((w.alloc (.cells #[.slice none 0 0, .int .u64 0] 36)).alloc (.cells #[.pointer none] 32)).heap[w.heap.size]? = some (.cells #[.slice none 0 0, .int .u64 0] 36 (0, 0)) := heap_past _ (heap_at w _ _ rfl)
  have hvar : ((w.alloc (.cells #[.slice none 0 0, .int .u64 0] 36)).alloc (.cells #[.pointer none] 32)).heap[w.heap.size + 1]? = some (.cells #[.pointer none] 32 (0, 0)) := heap_at _ _ _ (by simp)
  have hent := enters_of Tryz.func49 (by kernel_rfl) rfl
  have HK : Hid (∀ w1, Below w.heap.size w w1 → Calls Tryz.prog 48 #[.pointer (some ⟨t.blk, 0, none⟩)] w1 fun e w' => e = .returned (.int .i64 (k : Int)) ∧ w1 = w') := Lib.hid fun w1 hb => by
    have h1 := h.below hb hB (Nat.le_refl _)
    obtain ⟨kp, hnd⟩ := h1.2.nd
    have := nK_c hnd
    rw [h1.1.len] at this
    exact this
  have HI : Hid (∀ w1, Calls Tryz.prog 47 #[.slice A p.length c, .int .i64 (k : Int)] w1 fun e w' => e = .returned (.bool true) ∧ w1 = w') := Lib.hid fun w1 => isPoint_c A p.length c k w1 (by have := h.1.k16; unfold maxLen; omega) h.1.k16 true (decide_eq_true ⟨by have := h.1.k1; omega, hl⟩)
  have HD := Lib.hid (wdownA_c (from_visit B (w.heap.size + 1) k) (w := ((w.alloc (.cells #[.slice none 0 0, .int .u64 0] 36)).alloc (.cells #[.pointer none] 32))) (F := fun b => b = w.heap.size + 1) (o := some t) ⟨rfl, by omega, fun w2 h2 => hT w2 ((hal.mono hB).trans h2), _, hvar⟩ ((NodeO.some h).below hal hB (Nat.le_refl _)) (by simp; omega) (hp.below' hal hB) (c := c) hl h.1.k1 h.1.k16)
  have HT : Hid (∀ w2, Below w.heap.size w w2 → ∀ w3, Below B w2 w3 → Tz w3) := Lib.hid fun w2 h2 w3 h3 => hT w3 ((h2.mono hB).trans h3)
  have HX := Lib.hid (And.intro h (And.intro hB (And.intro hp hl)))
  have HA := Lib.hid (And.intro hal hbox)
  have hal1 := below_alloc w (.cells #[.slice none 0 0, .int .u64 0] 36)
  clear h hB hp hl hT hal hbox hvar
  go_enter Tryz.func17, Tryz.ntmps17
  go_upto_region 6 with (first
    | (go_at_call 48; refine (HK.out _ hal1).mono ?_; rintro e w2 ⟨rfl, rfl⟩)
    | (go_at_call 47; refine (HI.out _).mono ?_; rintro e w2 ⟨rfl, rfl⟩)
    | (go_at_call 50; refine HD.out.mono ?_; rintro e w2 ⟨us, o', hway, hstop, rfl, F', ⟨rfl, -, hT2, ty, hv2⟩, hF', hfo⟩))
  have hw2 : Below w.heap.size w w2 := HA.out.1.trans (hfo.below (by simp; omega) (fun b hb => by omega))
  have hb2 : w2.heap[w.heap.size]? = some (.cells #[.slice none 0 0, .int .u64 0] 36 (0, 0)) := (hfo.block _ (by simp; omega) (by omega)).trans HA.out.2
  have hnd : ∀ x ∈ us, Node w B k x.1 := way_nodes (NodeO.some HX.out.1) hway
  have hwfs := fun x hx => (hnd x hx).1
  have HW := Lib.hid (hway.sides (k := k) HX.out.2.2.2 HX.out.2.2.1.1 (fun t e => by cases e; exact HX.out.1.1))
  have HV := Lib.hid (aftW_way hway (k := k) (fun t e => by cases e; exact HX.out.1.1))
  have HN := Lib.hid (And.intro (nx_node hnd) (And.intro (nxF_head hwfs) (nxB_last hwfs)))
  clear HK HI HD hal1 hF' hfo hT2
  cases o' with
  | none =>
    have hch := hway.chain.2 rfl
    have hba := Tr.bef_aft hch hwfs
    rw [way_bef hway] at hba
    have HB := Lib.hid hba
    clear hch hba hstop hnd hwfs hway
    simp only [rootP_no]
    have cv : w2.cell? ⟨w.heap.size + 1, 0, none⟩ = some (.pointer (rootP (nxF us))) := by rw [cell_of_row w2 _ _ _ _ (0, 0) hv2]; rfl
    obtain ⟨x, hx⟩ : ∃ x, (Tr.entsO (nxF us)).head? = x := ⟨_, rfl⟩
    obtain ⟨r, hr⟩ : ∃ r, x.isSome = r := ⟨_, rfl⟩
    have HFi : Hid (Calls Tryz.prog 15 #[.pointer (rootP (nxF us))] w2 _) := Lib.hid (first_any (HN.out.1.1.below hw2 HX.out.2.1 (Nat.le_refl _)) (Nat.le_trans HX.out.2.1 hw2.size) (HT.out _ hw2) x hx r hr)
    have HE := Lib.hid (And.intro hx (And.intro hr (And.intro hw2 hb2)))
    clear hx hr hw2 hb2 hv2
    go_wp2_with (go_at_call 15; refine HFi.out.mono ?_; rintro e w5 ⟨⟨P, n, dd, v, rfl, ht5⟩, hb5⟩; have hbx5 := (hb5.block _ (Array.getElem?_eq_some_iff.1 HE.out.2.2.2).1).trans HE.out.2.2.2; obtain ⟨b0, b1, f0, f1⟩ := box_cells hbx5; obtain ⟨r0, r1⟩ := res_cells hbx5 (.slice P n dd) (.int .u64 (v : Int)); have H5 := Lib.hid (And.intro ht5 (Below.andThen HE.out.2.2.1 hb5)); clear ht5 hb5 hbx5)
    refine bodyPost_ret (v := .tuple #[.agg #[.slice P n dd, .int .u64 (v : Int)], .bool r]) (by simp [results, Tryz.results17, go_sem, r0, r1]) rfl ?_
    have hlt : w.heap.size < w2.heap.size := (Array.getElem?_eq_some_iff.1 HE.out.2.2.2).1
    have hr := HE.out.2.1
    have hx := HE.out.1
    subst hr
    refine ⟨Tr.foreR us, Tr.aft us, HB.out.symm, HW.out.1, fun e he => Nat.le_of_lt (HW.out.2.2 (by first | rfl | trivial) e he), ?_, res_below H5.out.2 _ _⟩
    rw [show (Tr.aft us).head? = x by rw [← HV.out.2 (by first | rfl | trivial), ← HN.out.2.1]; exact hx]
    exact ⟨P, n, dd, v, rfl, tel_res hlt H5.out.1 _ _⟩
  | some s =>
    have hns := way_node (NodeO.some HX.out.1) hway s rfl
    have hns2 := hns.below hw2 HX.out.2.1 (Nat.le_refl _)
    obtain ⟨sd, hsd⟩ : ∃ sd, Z.cmp s.pre p = sd := ⟨_, rfl⟩
    have HZ := Lib.hid (Tr.stop_side hns.1 HX.out.2.2.2 HX.out.2.2.1.1 hstop)
    rw [hsd] at HZ
    have HSd := Lib.hid (side_c (c := c) hns2 (Nat.le_trans HX.out.2.1 hw2.size) (HX.out.2.2.1.below' hw2 HX.out.2.1) (Nat.le_trans HX.out.2.1 hw2.size) HX.out.2.2.2 sd hsd)
    have hch := Tr.steps_all (hway.chain.1 s 0 rfl) (fun x hx => by rcases List.mem_cons.1 hx with rfl | hx; exact hns.1; exact hwfs x hx)
    have HB := Lib.hid (And.intro hch (And.intro hns.1.ne hns))
    have H2 := Lib.hid (And.intro hw2 (And.intro hb2 hv2))
    clear hch hstop hnd hwfs hway hns hns2 hsd hw2 hb2 hv2
    simp only [rootP_yes]
    by_cases hsg : 0 ≤ sd
    · have d1 : decide (0 ≤ sd) = true := decide_eq_true hsg
      have HC := Lib.hid hsg
      clear hsg
      go_upto_region 8 with (first
        | (go_at_call 51; refine HSd.out.mono ?_; rintro e w3 ⟨rfl, hb3⟩; have hv3 := (hb3.block _ (Array.getElem?_eq_some_iff.1 H2.out.2.2).1).trans H2.out.2.2; have fz3 := frozen_of_row w3 _ 0 _ _ hv3; have cz3 : w3.cell? ⟨w.heap.size + 1, 0, none⟩ = some (.pointer (rootP (nxF us))) := (by rw [cell_of_row w3 _ _ _ _ (0, 0) hv3]; rfl); have H3 := Lib.hid (And.intro hb3 hv3); clear hb3 hv3))
      have hv4 := block_set (i := 0) H3.out.2 (.pointer (some ⟨s.blk, 0, none⟩))
      have hw4 : Below w.heap.size w (w3.setCell ⟨w.heap.size + 1, 0, none⟩ (.pointer (some ⟨s.blk, 0, none⟩))) := (Below.andThen H2.out.1 H3.out.1).setCell (p := ⟨w.heap.size + 1, 0, none⟩) (by show w.heap.size ≤ w.heap.size + 1; omega) _
      have hb4 : (w3.setCell ⟨w.heap.size + 1, 0, none⟩ (.pointer (some ⟨s.blk, 0, none⟩))).heap[w.heap.size]? = some (.cells #[.slice none 0 0, .int .u64 0] 36 (0, 0)) := (Below.heap_setCell _ _ _ _ (by show w.heap.size ≠ w.heap.size + 1; omega)).trans ((H3.out.1.block _ (Array.getElem?_eq_some_iff.1 H2.out.2.1).1).trans H2.out.2.1)
      obtain ⟨w4, hw4e⟩ : ∃ w4, w4 = w3.setCell ⟨w.heap.size + 1, 0, none⟩ (.pointer (some ⟨s.blk, 0, none⟩)) := ⟨_, rfl⟩
      rw [← hw4e] at hv4 hw4 hb4 ⊢
      clear fz3 cz3 hw4e
      have cv : w4.cell? ⟨w.heap.size + 1, 0, none⟩ = some (.pointer (some ⟨s.blk, 0, none⟩)) := by rw [cell_of_row w4 _ _ _ _ (0, 0) hv4]; rfl
      obtain ⟨x, hx⟩ : ∃ x, (Tr.entsO (some s)).head? = x := ⟨_, rfl⟩
      obtain ⟨r, hr⟩ : ∃ r, x.isSome = r := ⟨_, rfl⟩
      have HFi : Hid (Calls Tryz.prog 15 #[.pointer (some ⟨s.blk, 0, none⟩)] w4 _) := Lib.hid (first_any ((NodeO.some HB.out.2.2).below hw4 HX.out.2.1 (Nat.le_refl _)) (Nat.le_trans HX.out.2.1 hw4.size) (HT.out _ hw4) x hx r hr)
      have HE := Lib.hid (And.intro hx (And.intro hr (And.intro hw4 hb4)))
      clear hx hr hw4 hb4 hv4
      go_wp2_with (go_at_call 15; refine HFi.out.mono ?_; rintro e w5 ⟨⟨P, n, dd, v, rfl, ht5⟩, hb5⟩; have hbx5 := (hb5.block _ (Array.getElem?_eq_some_iff.1 HE.out.2.2.2).1).trans HE.out.2.2.2; obtain ⟨b0, b1, f0, f1⟩ := box_cells hbx5; obtain ⟨r0, r1⟩ := res_cells hbx5 (.slice P n dd) (.int .u64 (v : Int)); have H5 := Lib.hid (And.intro ht5 (Below.andThen HE.out.2.2.1 hb5)); clear ht5 hb5 hbx5)
      refine bodyPost_ret (v := .tuple #[.agg #[.slice P n dd, .int .u64 (v : Int)], .bool r]) (by simp [results, Tryz.results17, go_sem, r0, r1]) rfl ?_
      have hlt : w.heap.size < w4.heap.size := (Array.getElem?_eq_some_iff.1 HE.out.2.2.2).1
      have hr := HE.out.2.1
      have hx := HE.out.1
      subst hr
      refine ⟨Tr.foreR us, s.ents ++ Tr.aftR us, by rw [← List.append_assoc]; exact HB.out.1.symm, HW.out.1, fun e he => by rcases List.mem_append.1 he with he | he; exact HZ.out.2.1 HC.out e he; exact Nat.le_of_lt (HW.out.2.1 ⟨s, rfl⟩ e he), ?_, res_below H5.out.2 _ _⟩
      rw [show (s.ents ++ Tr.aftR us).head? = x by rw [← hx]; cases he : s.ents with | nil => exact absurd he HB.out.2.1 | cons a l => show some a = (Tr.entsO (some s)).head?; show some a = s.ents.head?; rw [he]; rfl]
      exact ⟨P, n, dd, v, rfl, tel_res hlt H5.out.1 _ _⟩
    · have d1 : decide (0 ≤ sd) = false := decide_eq_false hsg
      have HC := Lib.hid hsg
      clear hsg
      go_upto_region 8 with (first
        | (go_at_call 51; refine HSd.out.mono ?_; rintro e w3 ⟨rfl, hb3⟩; have hv3 := (hb3.block _ (Array.getElem?_eq_some_iff.1 H2.out.2.2).1).trans H2.out.2.2; have H3 := Lib.hid (And.intro hb3 hv3); clear hb3 hv3))
      have hv4 := H3.out.2
      have hw4 : Below w.heap.size w w3 := Below.andThen H2.out.1 H3.out.1
      have hb4 : w3.heap[w.heap.size]? = some (.cells #[.slice none 0 0, .int .u64 0] 36 (0, 0)) := (H3.out.1.block _ (Array.getElem?_eq_some_iff.1 H2.out.2.1).1).trans H2.out.2.1
      have cv : w3.cell? ⟨w.heap.size + 1, 0, none⟩ = some (.pointer (rootP (nxF us))) := by rw [cell_of_row w3 _ _ _ _ (0, 0) hv4]; rfl
      obtain ⟨x, hx⟩ : ∃ x, (Tr.entsO (nxF us)).head? = x := ⟨_, rfl⟩
      obtain ⟨r, hr⟩ : ∃ r, x.isSome = r := ⟨_, rfl⟩
      have HFi : Hid (Calls Tryz.prog 15 #[.pointer (rootP (nxF us))] w3 _) := Lib.hid (first_any (HN.out.1.1.below hw4 HX.out.2.1 (Nat.le_refl _)) (Nat.le_trans HX.out.2.1 hw4.size) (HT.out _ hw4) x hx r hr)
      have HE := Lib.hid (And.intro hx (And.intro hr (And.intro hw4 hb4)))
      clear hx hr hw4 hb4 hv4
      go_wp2_with (go_at_call 15; refine HFi.out.mono ?_; rintro e w5 ⟨⟨P, n, dd, v, rfl, ht5⟩, hb5⟩; have hbx5 := (hb5.block _ (Array.getElem?_eq_some_iff.1 HE.out.2.2.2).1).trans HE.out.2.2.2; obtain ⟨b0, b1, f0, f1⟩ := box_cells hbx5; obtain ⟨r0, r1⟩ := res_cells hbx5 (.slice P n dd) (.int .u64 (v : Int)); have H5 := Lib.hid (And.intro ht5 (Below.andThen HE.out.2.2.1 hb5)); clear ht5 hb5 hbx5)
      refine bodyPost_ret (v := .tuple #[.agg #[.slice P n dd, .int .u64 (v : Int)], .bool r]) (by simp [results, Tryz.results17, go_sem, r0, r1]) rfl ?_
      have hlt : w.heap.size < w3.heap.size := (Array.getElem?_eq_some_iff.1 HE.out.2.2.2).1
      have hr := HE.out.2.1
      have hx := HE.out.1
      subst hr
      refine ⟨Tr.foreR us ++ s.ents, Tr.aftR us, HB.out.1.symm, fun e he => by rcases List.mem_append.1 he with he | he; exact HW.out.1 e he; exact HZ.out.1 (by have := HC.out; omega) e he, fun e he => Nat.le_of_lt (HW.out.2.1 ⟨s, rfl⟩ e he), ?_, res_below H5.out.2 _ _⟩
      rw [show (Tr.aftR us).head? = x by rw [← HV.out.1 s rfl, ← HN.out.2.1]; exact hx]
      exact ⟨P, n, dd, v, rfl, tel_res hlt H5.out.1 _ _⟩

theorem upto_no {w : World} {B k : Nat} {o : Option T} (h : NodeO w B k o) (hB : B ≤ w.heap.size) (hk : k ≤ 16) (A : Option Addr) (n c : Nat) (hn : n ≤ maxLen) (hne : ∀ t, o = some t → n ≠ k) :
    Calls Tryz.prog 18 #[.pointer (rootP o), .slice A n c] w fun e w' => e = .returned (.tuple #[entryV none 0 0 0, .bool false]) ∧ Below w.heap.size w w' := by
  obtain ⟨kk, HK, hkk⟩ : ∃ kk : Nat, Hid (∀ w1, Below w.heap.size w w1 → Calls Tryz.prog 48 #[.pointer (rootP o)] w1 fun e w' => e = .returned (.int .i64 (kk : Int)) ∧ w1 = w') ∧ (kk ≤ 16 ∧ ¬ (1 ≤ n ∧ n = kk)) := by
    cases o with
    | none => exact ⟨0, Lib.hid fun w1 _ => nK_nil w1, by omega, by omega⟩
    | some t =>
      refine ⟨k, Lib.hid fun w1 hb => ?_, hk, fun e => hne t rfl e.2⟩
      have h1 := (h t rfl).below hb hB (Nat.le_refl _)
      obtain ⟨kp, hnd⟩ := h1.2.nd
      have := nK_c hnd
      rw [h1.1.len] at this
      exact this
  have HI : Hid (∀ w1, Calls Tryz.prog 47 #[.slice A n c, .int .i64 (kk : Int)] w1 fun e w' => e = .returned (.bool false) ∧ w1 = w') := Lib.hid fun w1 => isPoint_c A n c kk w1 hn hkk.1 false (decide_eq_false hkk.2)
  have hal := below_alloc w (.cells #[.slice none 0 0, .int .u64 0] 36)
  clear h hB hk hn hne hkk
  go_enter Tryz.func18, Tryz.ntmps18
  go_wp2_with (first
    | (go_at_call 48; refine (HK.out _ hal).mono ?_; rintro e w2 ⟨rfl, rfl⟩)
    | (go_at_call 47; refine (HI.out _).mono ?_; rintro e w2 ⟨rfl, rfl⟩))
  refine bodyPost_ret (v := .tuple #[entryV none 0 0 0, .bool false]) (by simp [results, Tryz.results18, go_sem]) rfl ?_
  exact ⟨rfl, hal⟩
set_option maxRecDepth 1000000 in
set_option maxHeartbeats 4000000 in
theorem upto_c {w : World} {B k : Nat} {t : T} (h : Node w B k t) (hB : B ≤ w.heap.size) (hT : ∀ w', Below B w w' → Tz w') {p : List Nat} {A : Option Addr} {c : Nat} (hp : Pts w B A p) (hl : p.length = k) :
    Calls Tryz.prog 18 #[.pointer (some ⟨t.blk, 0, none⟩), .slice A p.length c] w fun e w' => ∃ F1 F2, t.ents = F1 ++ F2 ∧ Upto p F1 ∧ Behind p F2 ∧
      (∃ (P : Option Addr) (n dd v : Nat), e = .returned (.tuple #[.agg #[.slice P n dd, .int .u64 (v : Int)], .bool F1.getLast?.isSome]) ∧ TelE w w' F1.getLast? P n dd v) ∧ Below w.heap.size w w' := by
  have hal : Below w.heap.size w ((w.alloc (.cells #[.slice none 0 0, .int .u64 0] 36)).alloc (.cells #[.pointer none] 32)) := ((Below.refl _ _).alloc (Nat.le_refl _) _).alloc (by simp) _
  have hbox : ((w.alloc (.cells #[.slice none 0 0, .int .u64 0] 36)).alloc (.cells #[.pointer none] 32)).heap[w.heap.size]? = some (.cells #[.slice none 0 0, .int .u64 0] 36 (0, 0)) := heap_past _ (heap_at w _ _ rfl)
  have hvar : ((w.alloc (.cells #[.slice none 0 0, .int .u64 0] 36)).alloc (.cells #[.pointer none] 32)).heap[w.heap.size + 1]? = some (.cells #[.pointer none] 32 (0, 0)) := heap_at _ _ _ (by simp)
  have hent := enters_of Tryz.func52 (by kernel_rfl) rfl
  have HK : Hid (∀ w1, Below w.heap.size w w1 → Calls Tryz.prog 48 #[.pointer (some ⟨t.blk, 0, none⟩)] w1 fun e w' => e = .returned (.int .i64 (k : Int)) ∧ w1 = w') := Lib.hid fun w1 hb => by
    have h1 := h.below hb hB (Nat.le_refl _)
    obtain ⟨kp, hnd⟩ := h1.2.nd
    have := nK_c hnd
    rw [h1.1.len] at this
    exact this
  have HI : Hid (∀ w1, Calls Tryz.prog 47 #[.slice A p.length c, .int .i64 (k : Int)] w1 fun e w' => e = .returned (.bool true) ∧ w1 = w') := Lib.hid fun w1 => isPoint_c A p.length c k w1 (by have := h.1.k16; unfold maxLen; omega) h.1.k16 true (decide_eq_true ⟨by have := h.1.k1; omega, hl⟩)
  have HD := Lib.hid (wdownA_c (upto_visit B (w.heap.size + 1) k) (w := ((w.alloc (.cells #[.slice none 0 0, .int .u64 0] 36)).alloc (.cells #[.pointer none] 32))) (F := fun b => b = w.heap.size + 1) (o := some t) ⟨rfl, by omega, fun w2 h2 => hT w2 ((hal.mono hB).trans h2), _, hvar⟩ ((NodeO.some h).below hal hB (Nat.le_refl _)) (by simp; omega) (hp.below' hal hB) (c := c) hl h.1.k1 h.1.k16)
  have HT : Hid (∀ w2, Below w.heap.size w w2 → ∀ w3, Below B w2 w3 → Tz w3) := Lib.hid fun w2 h2 w3 h3 => hT w3 ((h2.mono hB).trans h3)
  have HX := Lib.hid (And.intro h (And.intro hB (And.intro hp hl)))
  have HA := Lib.hid (And.intro hal hbox)
  have hal1 := below_alloc w (.cells #[.slice none 0 0, .int .u64 0] 36)
  clear h hB hp hl hT hal hbox hvar
  go_enter Tryz.func18, Tryz.ntmps18
  go_upto_region 6 with (first
    | (go_at_call 48; refine (HK.out _ hal1).mono ?_; rintro e w2 ⟨rfl, rfl⟩)
    | (go_at_call 47; refine (HI.out _).mono ?_; rintro e w2 ⟨rfl, rfl⟩)
    | (go_at_call 50; refine HD.out.mono ?_; rintro e w2 ⟨us, o', hway, hstop, rfl, F', ⟨rfl, -, hT2, ty, hv2⟩, hF', hfo⟩))
  have hw2 : Below w.heap.size w w2 := HA.out.1.trans (hfo.below (by simp; omega) (fun b hb => by omega))
  have hb2 : w2.heap[w.heap.size]? = some (.cells #[.slice none 0 0, .int .u64 0] 36 (0, 0)) := (hfo.block _ (by simp; omega) (by omega)).trans HA.out.2
  have hnd : ∀ x ∈ us, Node w B k x.1 := way_nodes (NodeO.some HX.out.1) hway
  have hwfs := fun x hx => (hnd x hx).1
  have HW := Lib.hid (hway.sides (k := k) HX.out.2.2.2 HX.out.2.2.1.1 (fun t e => by cases e; exact HX.out.1.1))
  have HV := Lib.hid (aftW_way hway (k := k) (fun t e => by cases e; exact HX.out.1.1))
  have HN := Lib.hid (And.intro (nx_node hnd) (And.intro (nxF_head hwfs) (nxB_last hwfs)))
  clear HK HI HD hal1 hF' hfo hT2
  cases o' with
  | none =>
    have hch := hway.chain.2 rfl
    have hba := Tr.bef_aft hch hwfs
    rw [way_bef hway] at hba
    have HB := Lib.hid hba
    clear hch hba hstop hnd hwfs hway
    simp only [rootP_no]
    have cv : w2.cell? ⟨w.heap.size + 1, 0, none⟩ = some (.pointer (rootP (nxB us))) := by rw [cell_of_row w2 _ _ _ _ (0, 0) hv2]; rfl
    obtain ⟨x, hx⟩ : ∃ x, (Tr.entsO (nxB us)).getLast? = x := ⟨_, rfl⟩
    obtain ⟨r, hr⟩ : ∃ r, x.isSome = r := ⟨_, rfl⟩
    have HFi : Hid (Calls Tryz.prog 16 #[.pointer (rootP (nxB us))] w2 _) := Lib.hid (last_any (HN.out.1.2.below hw2 HX.out.2.1 (Nat.le_refl _)) (Nat.le_trans HX.out.2.1 hw2.size) x hx r hr)
    have HE := Lib.hid (And.intro hx (And.intro hr (And.intro hw2 hb2)))
    clear hx hr hw2 hb2 hv2
    go_wp2_with (go_at_call 16; refine HFi.out.mono ?_; rintro e w5 ⟨⟨P, n, dd, v, rfl, ht5⟩, hb5⟩; have hbx5 := (hb5.block _ (Array.getElem?_eq_some_iff.1 HE.out.2.2.2).1).trans HE.out.2.2.2; obtain ⟨b0, b1, f0, f1⟩ := box_cells hbx5; obtain ⟨r0, r1⟩ := res_cells hbx5 (.slice P n dd) (.int .u64 (v : Int)); have H5 := Lib.hid (And.intro ht5 (Below.andThen HE.out.2.2.1 hb5)); clear ht5 hb5 hbx5)
    refine bodyPost_ret (v := .tuple #[.agg #[.slice P n dd, .int .u64 (v : Int)], .bool r]) (by simp [results, Tryz.results18, go_sem, r0, r1]) rfl ?_
    have hlt : w.heap.size < w2.heap.size := (Array.getElem?_eq_some_iff.1 HE.out.2.2.2).1
    have hr := HE.out.2.1
    have hx := HE.out.1
    subst hr
    refine ⟨Tr.foreR us, Tr.aft us, HB.out.symm, fun e he => Nat.le_of_lt (HW.out.1 e he), HW.out.2.2 (by first | rfl | trivial), ?_, res_below H5.out.2 _ _⟩
    rw [show (Tr.foreR us).getLast? = x by rw [← HN.out.2.2]; exact hx]
    exact ⟨P, n, dd, v, rfl, tel_res hlt H5.out.1 _ _⟩
  | some s =>
    have hns := way_node (NodeO.some HX.out.1) hway s rfl
    have hns2 := hns.below hw2 HX.out.2.1 (Nat.le_refl _)
    obtain ⟨sd, hsd⟩ : ∃ sd, Z.cmp s.pre p = sd := ⟨_, rfl⟩
    have HZ := Lib.hid (Tr.stop_side hns.1 HX.out.2.2.2 HX.out.2.2.1.1 hstop)
    rw [hsd] at HZ
    have HSd := Lib.hid (side_c (c := c) hns2 (Nat.le_trans HX.out.2.1 hw2.size) (HX.out.2.2.1.below' hw2 HX.out.2.1) (Nat.le_trans HX.out.2.1 hw2.size) HX.out.2.2.2 sd hsd)
    have hch := Tr.steps_all (hway.chain.1 s 0 rfl) (fun x hx => by rcases List.mem_cons.1 hx with rfl | hx; exact hns.1; exact hwfs x hx)
    have HB := Lib.hid (And.intro hch (And.intro hns.1.ne hns))
    have H2 := Lib.hid (And.intro hw2 (And.intro hb2 hv2))
    clear hch hstop hnd hwfs hway hns hns2 hsd hw2 hb2 hv2
    simp only [rootP_yes]
    by_cases hsg : sd ≤ 0
    · have d1 : decide (sd ≤ 0) = true := decide_eq_true hsg
      have HC := Lib.hid hsg
      clear hsg
      go_upto_region 8 with (first
        | (go_at_call 51; refine HSd.out.mono ?_; rintro e w3 ⟨rfl, hb3⟩; have hv3 := (hb3.block _ (Array.getElem?_eq_some_iff.1 H2.out.2.2).1).trans H2.out.2.2; have fz3 := frozen_of_row w3 _ 0 _ _ hv3; have cz3 : w3.cell? ⟨w.heap.size + 1, 0, none⟩ = some (.pointer (rootP (nxB us))) := (by rw [cell_of_row w3 _ _ _ _ (0, 0) hv3]; rfl); have H3 := Lib.hid (And.intro hb3 hv3); clear hb3 hv3))
      have hv4 := block_set (i := 0) H3.out.2 (.pointer (some ⟨s.blk, 0, none⟩))
      have hw4 : Below w.heap.size w (w3.setCell ⟨w.heap.size + 1, 0, none⟩ (.pointer (some ⟨s.blk, 0, none⟩))) := (Below.andThen H2.out.1 H3.out.1).setCell (p := ⟨w.heap.size + 1, 0, none⟩) (by show w.heap.size ≤ w.heap.size + 1; omega) _
      have hb4 : (w3.setCell ⟨w.heap.size + 1, 0, none⟩ (.pointer (some ⟨s.blk, 0, none⟩))).heap[w.heap.size]? = some (.cells #[.slice none 0 0, .int .u64 0] 36 (0, 0)) := (Below.heap_setCell _ _ _ _ (by show w.heap.size ≠ w.heap.size + 1; omega)).trans ((H3.out.1.block _ (Array.getElem?_eq_some_iff.1 H2.out.2.1).1).trans H2.out.2.1)
      obtain ⟨w4, hw4e⟩ : ∃ w4, w4 = w3.setCell ⟨w.heap.size + 1, 0, none⟩ (.pointer (some ⟨s.blk, 0, none⟩)) := ⟨_, rfl⟩
      rw [← hw4e] at hv4 hw4 hb4 ⊢
      clear fz3 cz3 hw4e
      have cv : w4.cell? ⟨w.heap.size + 1, 0, none⟩ = some (.pointer (some ⟨s.blk, 0, none⟩)) := by rw [cell_of_row w4 _ _ _ _ (0, 0) hv4]; rfl
      obtain ⟨x, hx⟩ : ∃ x, (Tr.entsO (some s)).getLast? = x := ⟨_, rfl⟩
      obtain ⟨r, hr⟩ : ∃ r, x.isSome = r := ⟨_, rfl⟩
      have HFi : Hid (Calls Tryz.prog 16 #[.pointer (some ⟨s.blk, 0, none⟩)] w4 _) := Lib.hid (last_any ((NodeO.some HB.out.2.2).below hw4 HX.out.2.1 (Nat.le_refl _)) (Nat.le_trans HX.out.2.1 hw4.size) x hx r hr)
      have HE := Lib.hid (And.intro hx (And.intro hr (And.intro hw4 hb4)))
      clear hx hr hw4 hb4 hv4
      go_wp2_with (go_at_call 16; refine HFi.out.mono ?_; rintro e w5 ⟨⟨P, n, dd, v, rfl, ht5⟩, hb5⟩; have hbx5 := (hb5.block _ (Array.getElem?_eq_some_iff.1 HE.out.2.2.2).1).trans HE.out.2.2.2; obtain ⟨b0, b1, f0, f1⟩ := box_cells hbx5; obtain ⟨r0, r1⟩ := res_cells hbx5 (.slice P n dd) (.int .u64 (v : Int)); have H5 := Lib.hid (And.intro ht5 (Below.andThen HE.out.2.2.1 hb5)); clear ht5 hb5 hbx5)
      refine bodyPost_ret (v := .tuple #[.agg #[.slice P n dd, .int .u64 (v : Int)], .bool r]) (by simp [results, Tryz.results18, go_sem, r0, r1]) rfl ?_
      have hlt : w.heap.size < w4.heap.size := (Array.getElem?_eq_some_iff.1 HE.out.2.2.2).1
      have hr := HE.out.2.1
      have hx := HE.out.1
      subst hr
      refine ⟨Tr.foreR us ++ s.ents, Tr.aftR us, HB.out.1.symm, fun e he => by rcases List.mem_append.1 he with he | he; exact Nat.le_of_lt (HW.out.1 e he); exact HZ.out.2.2.2 HC.out e he, HW.out.2.1 ⟨s, rfl⟩, ?_, res_below H5.out.2 _ _⟩
      rw [show (Tr.foreR us ++ s.ents).getLast? = x by rw [← hx, List.getLast?_append]; show _ = s.ents.getLast?; cases he : s.ents.getLast? with | none => exact absurd (List.getLast?_eq_none_iff.1 he) HB.out.2.1 | some a => rfl]
      exact ⟨P, n, dd, v, rfl, tel_res hlt H5.out.1 _ _⟩
    · have d1 : decide (sd ≤ 0) = false := decide_eq_false hsg
      have HC := Lib.hid hsg
      clear hsg
      go_upto_region 8 with (first
        | (go_at_call 51; refine HSd.out.mono ?_; rintro e w3 ⟨rfl, hb3⟩; have hv3 := (hb3.block _ (Array.getElem?_eq_some_iff.1 H2.out.2.2).1).trans H2.out.2.2; have H3 := Lib.hid (And.intro hb3 hv3); clear hb3 hv3))
      have hv4 := H3.out.2
      have hw4 : Below w.heap.size w w3 := Below.andThen H2.out.1 H3.out.1
      have hb4 : w3.heap[w.heap.size]? = some (.cells #[.slice none 0 0, .int .u64 0] 36 (0, 0)) := (H3.out.1.block _ (Array.getElem?_eq_some_iff.1 H2.out.2.1).1).trans H2.out.2.1
      have cv : w3.cell? ⟨w.heap.size + 1, 0, none⟩ = some (.pointer (rootP (nxB us))) := by rw [cell_of_row w3 _ _ _ _ (0, 0) hv4]; rfl
      obtain ⟨x, hx⟩ : ∃ x, (Tr.entsO (nxB us)).getLast? = x := ⟨_, rfl⟩
      obtain ⟨r, hr⟩ : ∃ r, x.isSome = r := ⟨_, rfl⟩
      have HFi : Hid (Calls Tryz.prog 16 #[.pointer (rootP (nxB us))] w3 _) := Lib.hid (last_any (HN.out.1.2.below hw4 HX.out.2.1 (Nat.le_refl _)) (Nat.le_trans HX.out.2.1 hw4.size) x hx r hr)
      have HE := Lib.hid (And.intro hx (And.intro hr (And.intro hw4 hb4)))
      clear hx hr hw4 hb4 hv4
      go_wp2_with (go_at_call 16; refine HFi.out.mono ?_; rintro e w5 ⟨⟨P, n, dd, v, rfl, ht5⟩, hb5⟩; have hbx5 := (hb5.block _ (Array.getElem?_eq_some_iff.1 HE.out.2.2.2).1).trans HE.out.2.2.2; obtain ⟨b0, b1, f0, f1⟩ := box_cells hbx5; obtain ⟨r0, r1⟩ := res_cells hbx5 (.slice P n dd) (.int .u64 (v : Int)); have H5 := Lib.hid (And.intro ht5 (Below.andThen HE.out.2.2.1 hb5)); clear ht5 hb5 hbx5)
      refine bodyPost_ret (v := .tuple #[.agg #[.slice P n dd, .int .u64 (v : Int)], .bool r]) (by simp [results, Tryz.results18, go_sem, r0, r1]) rfl ?_
      have hlt : w.heap.size < w3.heap.size := (Array.getElem?_eq_some_iff.1 HE.out.2.2.2).1
      have hr := HE.out.2.1
      have hx := HE.out.1
      subst hr
      refine ⟨Tr.foreR us, s.ents ++ Tr.aftR us, by rw [← List.append_assoc]; exact HB.out.1.symm, fun e he => Nat.le_of_lt (HW.out.1 e he), fun e he => by rcases List.mem_append.1 he with he | he; exact HZ.out.2.2.1 (by have := HC.out; omega) e he; exact HW.out.2.1 ⟨s, rfl⟩ e he, ?_, res_below H5.out.2 _ _⟩
      rw [show (Tr.foreR us).getLast? = x by rw [← HN.out.2.2]; exact hx]
      exact ⟨P, n, dd, v, rfl, tel_res hlt H5.out.1 _ _⟩
end Go.Proofs.YtccefboifhfkdaaGreatDoor
