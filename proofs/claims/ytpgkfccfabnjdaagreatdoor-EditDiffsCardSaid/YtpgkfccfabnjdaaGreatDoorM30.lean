import Derived.Test.YtpgkfccfabnjdaaGreatDoorM29
import Derived.Test.YtpgkfccfabnjdaaGreatDoorM23
import Derived.Test.YtpgkfccfabnjdaaGreatDoorM16
/-
  CONTRACTS of package walk: over, New, isPoint, side, First, Last. Laid by wip/gen21.py.
-/
namespace Go.Proofs.YtpgkfccfabnjdaaGreatDoor
open Go.ChangeShapes Go.WideShapes Go.ChangeAt Go.RowKit
open Tr (T S4 Ent)

/-! ### isPoint, side -/
/-! ### First, Last -/
/-! ### over, New -/
def startS : Option T → List (T × Nat)
  | none => []
  | some t => [(t, 0)]
theorem start_bef (o : Option T) : Tr.bef (startS o) = [] ∧ Tr.aft (startS o) = Tr.entsO o := by
  cases o with
  | none => exact ⟨rfl, rfl⟩
  | some t =>
    refine ⟨?_, ?_⟩
    · show [] ++ Tr.fore t 0 = []
      rw [(Tr.fore_zero t).1]; rfl
    · show Tr.aftT t 0 ++ [] = t.ents
      rw [(Tr.fore_zero t).2, List.append_nil]
theorem over_c {w : World} {B C k : Nat} {o : Option T} (h : NodeO w B k o) (hB : B ≤ C) (hC : C ≤ w.heap.size) : Calls Tryz.prog 175 #[.pointer (rootP o)] w fun e w' => ∃ g D d kk, e = .returned (.pointer (some ⟨g, 0, none⟩)) ∧
    CurAt w' C g k kk o (startS o) D d ∧ Below w.heap.size w w' ∧ (∀ b, Cf g D b → w.heap.size ≤ b) := by
  cases o with
  | none =>
    go_enter Tryz.func175, Tryz.ntmps175
    simp only [rootP]
    go_wp2_with (go_at_call 109; refine (nK_nil _).mono ?_; rintro e w2 ⟨rfl, rfl⟩)
    go_ret
    refine ⟨w.heap.size, none, 0, 0, rfl, ⟨⟨heap_at w _ _ rfl, hC, ownL_none _ _ _, by simp⟩, rfl, fun x hx => by simp [startS] at hx, by simp; omega⟩, below_alloc w _, fun b hb => by rcases hb with rfl | hb; exact Nat.le_refl _; cases hb⟩
  | some t =>
    have hn := h t rfl
    obtain ⟨kp, hnd⟩ := hn.2.nd
    have HK := Lib.hid (nK_c hnd)
    have hal := below_alloc w (.cells #[.int .i64 (t.pre.length : Int), .pointer (some ⟨t.blk, 0, none⟩), .slice none 0 0] 273)
    have hm : CurM (w.alloc (.cells #[.int .i64 (t.pre.length : Int), .pointer (some ⟨t.blk, 0, none⟩), .slice none 0 0] 273)) C w.heap.size (t.pre.length : Int) (some ⟨t.blk, 0, none⟩) [] none 0 :=
      ⟨heap_at w _ _ rfl, hC, ownL_none _ _ _, by simp⟩
    have HS : Hid (Calls Tryz.prog 206 #[.pointer (some ⟨w.heap.size, 0, none⟩), .pointer (some ⟨t.blk, 0, none⟩), .int .i64 0] (w.alloc (.cells #[.int .i64 (t.pre.length : Int), .pointer (some ⟨t.blk, 0, none⟩), .slice none 0 0] 273)) fun e w' => e = .returned (.tuple #[]) ∧
      ∃ D' d', CurM w' C w.heap.size (t.pre.length : Int) (some ⟨t.blk, 0, none⟩) [(t, 0)] D' d' ∧ Foot (Cf w.heap.size none) (w.alloc (.cells #[.int .i64 (t.pre.length : Int), .pointer (some ⟨t.blk, 0, none⟩), .slice none 0 0] 273)) w' ∧ (∀ b, Cf w.heap.size D' b → Cf w.heap.size none b ∨ (w.alloc (.cells #[.int .i64 (t.pre.length : Int), .pointer (some ⟨t.blk, 0, none⟩), .slice none 0 0] 273)).heap.size ≤ b)) := Lib.hid (step_c hm (by simp) (Nat.le_trans hC hal.size) t 0)
    have HA := Lib.hid (And.intro hal (And.intro hn (And.intro hB hC)))
    clear h hn hnd hal hm hB hC
    go_enter Tryz.func175, Tryz.ntmps175
    simp only [rootP]
    go_wp2_with (first
      | (go_at_call 109; refine HK.out.mono ?_; rintro e w2 ⟨rfl, rfl⟩)
      | (go_at_call 206; refine HS.out.mono ?_; rintro e w5 ⟨rfl, D5, d5, hm5, hf5, hn5⟩))
    go_ret
    have hb5 : Below w.heap.size w w5 := HA.out.1.trans (hf5.below HA.out.1.size (fun b hb => by rcases hb with rfl | hb; exact Nat.le_refl _; cases hb))
    refine ⟨w.heap.size, D5, d5, _, rfl, ⟨hm5, rfl, fun x hx => ?_, Nat.le_trans HA.out.2.2.2 hb5.size⟩, hb5, fun b hb => by rcases hn5 b hb with (rfl | hb) | hb; exact Nat.le_refl _; cases hb; exact Nat.le_trans HA.out.1.size hb⟩
    have hx' : x = (t, 0) := by simpa [startS] using hx
    subst hx'
    exact ⟨HA.out.2.1.below hb5 (Nat.le_trans HA.out.2.2.1 HA.out.2.2.2) HA.out.2.2.1, by show (0 : Nat) ≤ 65536; omega⟩
end Go.Proofs.YtpgkfccfabnjdaaGreatDoor

/-
  CONTRACTS of package walk: All, a list that grows while a cursor moves. Laid by wip/gen23.py.
-/
namespace Go.Proofs.YtpgkfccfabnjdaaGreatDoor
open Go.ChangeShapes Go.WideShapes Go.ChangeAt Go.RowKit
open Tr (T S4 Ent)

def PtsG (w : World) (G : Nat → Prop) (A : Option Addr) (us : List Nat) : Prop :=
  Z.Ok us ∧ (us ≠ [] → ∃ b off, A = some ⟨b, off, none⟩ ∧ G b ∧ b < w.heap.size ∧ ∀ (i u : Nat), us[i]? = some u → w.cell? ⟨b, off + i, none⟩ = some (.int .u64 (u : Int)))
theorem PtsG.pts {w : World} {G : Nat → Prop} {A : Option Addr} {us : List Nat} (h : PtsG w G A us) : Pts w w.heap.size A us :=
  ⟨h.1, fun hn => by obtain ⟨b, off, h1, _, h3, h4⟩ := h.2 hn; exact ⟨b, off, h1, h3, h4⟩⟩
theorem PtsG.step {w w' : World} {G G' : Nat → Prop} {A : Option Addr} {us : List Nat} (h : PtsG w G A us) (hs : w.heap.size ≤ w'.heap.size) (hk : ∀ b, b < w.heap.size → G b → w'.heap[b]? = w.heap[b]? ∧ G' b) : PtsG w' G' A us :=
  ⟨h.1, fun hn => by
    obtain ⟨b, off, h1, h2, h3, h4⟩ := h.2 hn
    obtain ⟨h5, h6⟩ := hk b h3 h2
    exact ⟨b, off, h1, h6, by omega, fun i u hu => (World.cell?_of_block (a := ⟨b, off + i, none⟩) h5).trans (h4 i u hu)⟩⟩
theorem Own.ptsG {w : World} {base h n d : Nat} {us : List Nat} {G : Nat → Prop} (ho : Own w base (.slice (some ⟨h, 0, none⟩) n d) us) (hG : G h) : PtsG w G (some ⟨h, 0, none⟩) us := by
  obtain ⟨A, c, hv, hp⟩ := ho.pts
  simp only [Value.slice.injEq] at hv
  obtain ⟨rfl, -, -⟩ := hv
  refine ⟨hp.1, fun hn => ?_⟩
  obtain ⟨b, off, h1, h2, h3⟩ := hp.2 hn
  simp only [Option.some.injEq, Addr.mk.injEq, and_true] at h1
  obtain ⟨rfl, rfl⟩ := h1
  exact ⟨h, 0, rfl, hG, h2, h3⟩
def EntG (w : World) (G : Nat → Prop) (f : Nat → Option Value) (e : Ent) : Prop :=
  ∃ A c, f 0 = some (.slice A e.1.length c) ∧ f 1 = some (.int .u64 (e.2 : Int)) ∧ PtsG w G A e.1 ∧ e.1.length ≤ maxLen ∧ e.2 < 18446744073709551616
theorem entG_ok (w : World) (G : Nat → Prop) : QOk 2 (EntG w G) where
  ext := by
    rintro f g a h ⟨A, c, h0, h1, r⟩
    exact ⟨A, c, by rw [← h 0 (by omega)]; exact h0, by rw [← h 1 (by omega)]; exact h1, r⟩
  has := by
    rintro f a ⟨A, c, h0, h1, r⟩ j hj
    match j, hj with
    | 0, _ => exact ⟨_, h0, rfl⟩
    | 1, _ => exact ⟨_, h1, rfl⟩
theorem EntG.step {w w' : World} {G G' : Nat → Prop} (hs : w.heap.size ≤ w'.heap.size) (hk : ∀ b, b < w.heap.size → G b → w'.heap[b]? = w.heap[b]? ∧ G' b) : ∀ f e, EntG w G f e → EntG w' G' f e := by
  rintro f e ⟨A, c, h0, h1, h2, r⟩
  exact ⟨A, c, h0, h1, h2.step hs hk, r⟩
def Fr (w0 : Nat) (R : Option Addr) (g : Nat) (D : Option Addr) : Nat → Prop := fun b => R.map (·.block) ≠ some b ∧ ¬ Cf g D b ∧ w0 ≤ b
def CurE (w : World) (G : Nat → Prop) (eb : Nat) (x : Option Ent) : Prop := match x with
  | none => w.heap[eb]? = some (.cells #[.slice none 0 0, .int .u64 0] 73 (0, 0))
  | some y => ∃ P n, w.heap[eb]? = some (.cells #[.slice P y.1.length n, .int .u64 (y.2 : Int)] 73 (0, 0)) ∧ PtsG w G P y.1
structure AllI (w : World) (g k : Nat) (kk : Int) (o : Option T) (L1 : List Ent) (x : Option Ent) (S : List (T × Nat)) (D : Option Addr) (d : Nat) (R : Option Addr) (c : Nat) (eb : Nat) (wr : World) : Prop where
  cur : CurAt wr w.heap.size g k kk o S D d
  whole : L1 ++ (x.toList ++ Tr.aft S) = Tr.entsO o
  stop : x = none → Tr.aft S = []
  row : OwnL 73 2 (EntG wr (Fr w.heap.size R g D)) wr w.heap.size (.slice R L1.length c) L1
  rg : ∀ b, R.map (·.block) = some b → ¬ Cf g D b ∧ b ≠ eb
  ent : CurE wr (Fr w.heap.size R g D) eb x
  ebn : ¬ Cf g D eb ∧ w.heap.size ≤ eb
  bel : Below w.heap.size w wr
structure AllM (w : World) (g k : Nat) (kk : Int) (o : Option T) (L1 : List Ent) (S : List (T × Nat)) (D : Option Addr) (d : Nat) (R : Option Addr) (c : Nat) (eb : Nat) (P : Option Addr) (n nn v : Nat) (wr : World) : Prop where
  cur : CurAt wr w.heap.size g k kk o S D d
  whole : L1 ++ Tr.aft S = Tr.entsO o
  row : OwnL 73 2 (EntG wr (Fr w.heap.size R g D)) wr w.heap.size (.slice R L1.length c) L1
  rg : ∀ b, R.map (·.block) = some b → ¬ Cf g D b
  blk : wr.heap[eb]? = some (.cells #[.slice P n nn, .int .u64 (v : Int)] 73 (0, 0))
  bel : Below w.heap.size w wr
theorem AllI.app {w : World} {g k : Nat} {kk : Int} {o : Option T} {L1 : List Ent} {y : Ent} {S : List (T × Nat)} {D : Option Addr} {d : Nat} {R : Option Addr} {c eb : Nat} {wr w5 : World} {P : Option Addr} {nn d5 : Nat} {D5 : Option Addr} {ob : Obj} {M : Nat}
    (h : AllI w g k kk o L1 (some y) S D d R c eb wr) (hblk : wr.heap[eb]? = some (.cells #[.slice P y.1.length nn, .int .u64 (y.2 : Int)] 73 (0, 0)))
    (hown : OwnL 73 2 (EntG wr (Fr w.heap.size R g D)) w5 w.heap.size (.slice D5 M d5) (L1 ++ [y])) (hM : M = (L1 ++ [y]).length) (hgr : (wr.alloc ob).grownBy w5 (Value.slice R L1.length c).ownBlock)
    (hat : (Value.slice D5 M d5).ownBlock = (Value.slice R L1.length c).ownBlock ∨ (Value.slice D5 M d5).ownBlock = some (wr.alloc ob).heap.size) :
    AllM w g k kk o (L1 ++ [y]) S D d D5 d5 eb P y.1.length nn y.2 w5 := by
  subst hM
  rw [own_block, own_block] at hat
  rw [own_block] at hgr
  have hsz : (wr.alloc ob).heap.size = wr.heap.size + 1 := by simp
  have hs5 : wr.heap.size ≤ w5.heap.size := Nat.le_trans (by omega) hgr.size
  have hb : ∀ b, b < wr.heap.size → R.map (·.block) ≠ some b → w5.heap[b]? = wr.heap[b]? := fun b hb hn => (hgr.block b (by omega) (fun e => hn e.symm)).trans (Below.heap_alloc _ _ _ hb)
  have hebw := (Array.getElem?_eq_some_iff.1 hblk).1
  have hR : ∀ b, R.map (·.block) = some b → w.heap.size ≤ b := fun b hb => (h.row.lt b (by rw [own_block]; exact hb)).1
  have hbel : Below w.heap.size wr w5 := ⟨hgr.os, hgr.tape, hgr.output, hs5, fun b hb' => hb b (Nat.lt_of_lt_of_le hb' h.bel.size) (fun e => by have := hR b e; omega)⟩
  refine ⟨h.cur.keep hbel fun b hb' => hb b (h.cur.mem.lt b hb').2 (fun e => (h.rg b e).1 hb'), ?_, ?_, fun b hb' => ?_, ?_, h.bel.trans hbel⟩
  · rw [← h.whole]; simp
  · refine hown.imp (EntG.step hs5 fun b hb' hG => ⟨hb b hb' hG.1, ?_, hG.2⟩)
    rcases hat with e | e
    · rw [e]; exact hG.1
    · rw [e]; intro e'; simp only [Option.some.injEq] at e'; omega
  · rcases hat with e | e
    · rw [e] at hb'; exact (h.rg b hb').1
    · rw [e] at hb'; simp only [Option.some.injEq] at hb'; intro hc; have := (h.cur.mem.lt b hc).2; omega
  · rw [hb eb hebw (fun e => (h.rg eb e).2 rfl)]; exact hblk
theorem AllM.lt {w : World} {g k : Nat} {kk : Int} {o : Option T} {L1 : List Ent} {S : List (T × Nat)} {D : Option Addr} {d : Nat} {R : Option Addr} {c eb : Nat} {P : Option Addr} {n nn v : Nat} {wr : World} (h : AllM w g k kk o L1 S D d R c eb P n nn v wr) : ∀ b, R.map (·.block) = some b → w.heap.size ≤ b ∧ b < wr.heap.size := fun b hb => h.row.lt b (by rw [own_block]; exact hb)
def Telt (w w' : World) (g : Nat) (D : Option Addr) (x : Option Ent) (P : Option Addr) (n dd v : Nat) : Prop := match x with
  | none => P = none ∧ n = 0 ∧ dd = 0 ∧ v = 0
  | some y => n = y.1.length ∧ v = y.2 ∧ ∃ hh, P = some ⟨hh, 0, none⟩ ∧ Own w' w.heap.size (.slice P n dd) y.1 ∧ ¬ Cf g D hh
theorem next_any {w : World} {B g k : Nat} {kk : Int} {o : Option T} {S0 : List (T × Nat)} {D0 : Option Addr} {d0 : Nat} (h : CurAt w B g k kk o S0 D0 d0) (hT : ∀ w', Below B w w' → Tz w') (x : Option Ent) (hx : (Tr.aft S0).head? = x) (r : Bool) (hr : x.isSome = r) :
    Calls Tryz.prog 176 #[.pointer (some ⟨g, 0, none⟩)] w fun e w' => ∃ (P : Option Addr) (n dd v : Nat), e = .returned (.tuple #[.agg #[.slice P n dd, .int .u64 (v : Int)], .bool r]) ∧
      ∃ S D d, CurAt w' B g k kk o S D d ∧ Foot (Cf g D0) w w' ∧ (∀ b, Cf g D b → Cf g D0 b ∨ w.heap.size ≤ b) ∧ Telt w w' g D x P n dd v ∧ Tr.bef S = Tr.bef S0 ++ (Tr.aft S0).take 1 ∧ Tr.aft S = (Tr.aft S0).drop 1 := by
  refine (next_c h hT).mono ?_
  rintro e w' ⟨S, D, d, h1, h2, h3, h4, h5, h6⟩
  rw [hx] at h4
  subst hr
  cases x with
  | none => exact ⟨none, 0, 0, 0, h4, S, D, d, h1, h2, h3, ⟨rfl, rfl, rfl, rfl⟩, h5, h6⟩
  | some y =>
    obtain ⟨hh, dd, h7, h8, h9⟩ := h4
    exact ⟨_, _, dd, _, h7, S, D, d, h1, h2, h3, ⟨rfl, rfl, hh, rfl, h8, h9⟩, h5, h6⟩
theorem AllI.start {w w2 w3 w4 : World} {ob : Obj} {g k : Nat} {kk : Int} {o : Option T} {D0 : Option Addr} {x : Option Ent} {S : List (T × Nat)} {D : Option Addr} {d c : Nat} {P : Option Addr} {n dd v : Nat}
    (hrow : OwnL 73 2 (EntG (w4.alloc (.cells #[.slice P n dd, .int .u64 (v : Int)] 73)) (Fr w.heap.size (some ⟨w2.heap.size, 0, none⟩) g D)) (w2.alloc ob) w.heap.size (.slice (some ⟨w2.heap.size, 0, none⟩) 0 c) [])
    (h2 : Below w.heap.size w w2) (h3 : Below (w2.alloc ob).heap.size (w2.alloc ob) w3) (hg3 : ∀ b, Cf g D0 b → (w2.alloc ob).heap.size ≤ b) (hc : CurAt w4 w.heap.size g k kk o S D d) (hf : Foot (Cf g D0) w3 w4) (hr : ∀ b, Cf g D b → Cf g D0 b ∨ w3.heap.size ≤ b)
    (ht : Telt w3 w4 g D x P n dd v) (hw : [] ++ (x.toList ++ Tr.aft S) = Tr.entsO o) (hs : x = none → Tr.aft S = []) :
    AllI w g k kk o [] x S D d (some ⟨w2.heap.size, 0, none⟩) c w4.heap.size (w4.alloc (.cells #[.slice P n dd, .int .u64 (v : Int)] 73)) := by
  have hal := below_alloc w4 (.cells #[.slice P n dd, .int .u64 (v : Int)] 73)
  have hs2 : (w2.alloc ob).heap.size = w2.heap.size + 1 := by simp
  have q2 := h2.size
  have q3 := h3.size
  have q4 := hf.size
  have hlt : w2.heap.size < w3.heap.size := by omega
  have hnc : ¬ Cf g D w2.heap.size := fun hb => by
    rcases hr _ hb with hb | hb
    · have := hg3 _ hb; omega
    · omega
  have h34 : Below w.heap.size w3 w4 := hf.below (by omega) fun b hb => by have := hg3 b hb; omega
  have hww : Below w.heap.size w (w4.alloc (.cells #[.slice P n dd, .int .u64 (v : Int)] 73)) :=
    h2.trans (((below_alloc w2 ob).mono h2.size).trans ((h3.mono (by omega)).trans (h34.trans (hal.mono (by omega)))))
  have hb4 : (w4.alloc (.cells #[.slice P n dd, .int .u64 (v : Int)] 73)).heap[w2.heap.size]? = (w2.alloc ob).heap[w2.heap.size]? := by
    rw [hal.block _ (by omega), hf.block _ hlt (fun hb => by have := hg3 _ hb; omega), h3.block _ (by omega)]
  refine ⟨hc.below hal, hw, hs, hrow.block fun q hq => ?_, fun b hb => ?_, ?_, ⟨fun hb => ?_, ?_⟩, hww⟩
  · simp only [Value.ownBlock, Option.some.injEq] at hq; subst hq; exact hb4
  · simp only [Option.map_some, Option.some.injEq] at hb
    subst hb
    exact ⟨hnc, by omega⟩
  · cases x with
    | none =>
      obtain ⟨rfl, rfl, rfl, rfl⟩ := ht
      exact heap_at w4 _ _ rfl
    | some y =>
      obtain ⟨rfl, rfl, hh, rfl, ho, hn⟩ := ht
      have hh1 := (ho.2.lt hh rfl).1
      refine ⟨_, _, heap_at w4 _ _ rfl, (Own.ptsG (G := Fr w.heap.size (some ⟨w2.heap.size, 0, none⟩) g D) ho ⟨?_, hn, by omega⟩).step hal.size (fun b hb hG => ⟨hal.block b hb, hG⟩)⟩
      intro e
      simp only [Option.map_some, Option.some.injEq] at e
      omega
  · have := (hc.mem.lt _ hb).2; omega
  · omega
theorem AllM.next {w : World} {g k : Nat} {kk : Int} {o : Option T} {L1 : List Ent} {S : List (T × Nat)} {D : Option Addr} {d : Nat} {R : Option Addr} {c eb : Nat} {P : Option Addr} {n nn v : Nat} {w5 : World} (h : AllM w g k kk o L1 S D d R c eb P n nn v w5)
    {x : Option Ent} {S' : List (T × Nat)} {D' : Option Addr} {d' : Nat} {P' : Option Addr} {n' dd' v' : Nat} {w7 : World} {y z : Value} (hc : CurAt w7 w.heap.size g k kk o S' D' d') (hf : Foot (Cf g D) (w5.alloc (.cells #[y, z] 73)) w7) (hr : ∀ b, Cf g D' b → Cf g D b ∨ (w5.alloc (.cells #[y, z] 73)).heap.size ≤ b)
    (ht : Telt (w5.alloc (.cells #[y, z] 73)) w7 g D' x P' n' dd' v') (hx : (Tr.aft S).head? = x) (ha : Tr.aft S' = (Tr.aft S).drop 1) :
    AllI w g k kk o L1 x S' D' d' R c w5.heap.size ((w7.setCell ⟨w5.heap.size, 0, none⟩ (.slice P' n' dd')).setCell ⟨w5.heap.size, 1, none⟩ (.int .u64 (v' : Int))) := by
  have hal := below_alloc w5 (.cells #[y, z] 73)
  have hs : (w5.alloc (.cells #[y, z] 73)).heap.size = w5.heap.size + 1 := by simp
  have q7 := hf.size
  have hnc : ¬ Cf g D w5.heap.size := fun hb => by have := (h.cur.mem.lt _ hb).2; omega
  have hnc' : ¬ Cf g D' w5.heap.size := fun hb => by
    rcases hr _ hb with hb | hb
    · exact hnc hb
    · omega
  have hset : ∀ b, b ≠ w5.heap.size → ((w7.setCell ⟨w5.heap.size, 0, none⟩ (.slice P' n' dd')).setCell ⟨w5.heap.size, 1, none⟩ (.int .u64 (v' : Int))).heap[b]? = w7.heap[b]? := fun b hb =>
    (Below.heap_setCell _ _ _ _ hb).trans (Below.heap_setCell _ _ _ _ hb)
  have hsz : ((w7.setCell ⟨w5.heap.size, 0, none⟩ (.slice P' n' dd')).setCell ⟨w5.heap.size, 1, none⟩ (.int .u64 (v' : Int))).heap.size = w7.heap.size := by simp
  have hbl : w7.heap[w5.heap.size]? = some (.cells #[y, z] 73 (0, 0)) := (hf.block _ (by omega) hnc).trans (heap_at w5 _ _ rfl)
  have q5 := h.bel.size
  have h57 : Below w.heap.size w5 w7 := (hal.mono q5).trans (hf.below (by omega) fun b hb => (h.cur.mem.lt b hb).1)
  have h78 : Below w.heap.size w7 ((w7.setCell ⟨w5.heap.size, 0, none⟩ (.slice P' n' dd')).setCell ⟨w5.heap.size, 1, none⟩ (.int .u64 (v' : Int))) := ((Below.refl _ _).setCell (p := ⟨w5.heap.size, 0, none⟩) q5 _).setCell (p := ⟨w5.heap.size, 1, none⟩) q5 _
  have hold : ∀ b, b < w5.heap.size → ¬ Cf g D b → ((w7.setCell ⟨w5.heap.size, 0, none⟩ (.slice P' n' dd')).setCell ⟨w5.heap.size, 1, none⟩ (.int .u64 (v' : Int))).heap[b]? = w5.heap[b]? := fun b hb hn => by
    rw [hset b (by omega), hf.block b (by omega) hn, hal.block b hb]
  have hfr : ∀ b, b < w5.heap.size → ¬ Cf g D b → ¬ Cf g D' b := fun b hb hn hc => by
    rcases hr b hc with hb' | hb'
    · exact hn hb'
    · omega
  refine ⟨hc.keep h78 fun b hb => hset b (fun e => hnc' (e ▸ hb)), ?_, fun e => ?_, ?_, fun b hb => ?_, ?_, ⟨hnc', q5⟩, h.bel.trans (h57.trans h78)⟩
  · rw [← h.whole, ha, ← hx]
    cases Tr.aft S <;> rfl
  · rw [ha]
    cases hS : Tr.aft S with
    | nil => rfl
    | cons a l => rw [hS, e] at hx; cases hx
  · refine (h.row.block fun q hq => ?_).imp (EntG.step (by omega) fun b hb hG => ⟨hold b hb hG.2.1, hG.1, hfr b hb hG.2.1, hG.2.2⟩)
    rw [own_block] at hq
    exact hold q (h.lt q hq).2 (h.rg q hq)
  · exact ⟨hfr b (h.lt b hb).2 (h.rg b hb), by have := (h.lt b hb).2; omega⟩
  · cases x with
    | none =>
      obtain ⟨rfl, rfl, rfl, rfl⟩ := ht
      exact block_set (block_set hbl _) _
    | some u =>
      obtain ⟨rfl, rfl, hh, rfl, ho, hn⟩ := ht
      have hh1 := (ho.2.lt hh rfl).1
      refine ⟨_, _, block_set (block_set hbl _) _, (Own.ptsG (G := Fr w.heap.size R g D') (own_set (own_set ho (a := ⟨w5.heap.size, 0, none⟩) (fun e => ?_) _) (a := ⟨w5.heap.size, 1, none⟩) (fun e => ?_) _) ⟨fun e => ?_, hn, by omega⟩)⟩
      · simp only [Value.ownBlock, Option.some.injEq] at e; omega
      · simp only [Value.ownBlock, Option.some.injEq] at e; omega
      · have := (h.lt hh e).2; omega
def lenV : Value → Nat
  | .slice _ n _ => n
  | _ => 0

def NewE (base : Nat) (w : World) (A : Option Addr) (c : Nat) (L : List Ent) : Prop :=
  OwnL 73 2 (EntG w (fun b => base ≤ b ∧ A.map (·.block) ≠ some b)) w base (.slice A L.length c) L
theorem AllI.newE {w : World} {g k : Nat} {kk : Int} {o : Option T} {L1 : List Ent} {x : Option Ent} {S : List (T × Nat)} {D : Option Addr} {d : Nat} {R : Option Addr} {c eb : Nat} {wr : World} (h : AllI w g k kk o L1 x S D d R c eb wr) : NewE w.heap.size wr R c L1 :=
  h.row.imp (EntG.step (Nat.le_refl _) fun _ _ hG => ⟨rfl, hG.2.2, hG.1⟩)
theorem NewE.mono {base base' : Nat} {w : World} {A : Option Addr} {c : Nat} {L : List Ent} (h : NewE base w A c L) (hb : base' ≤ base) : NewE base' w A c L :=
  (OwnL.mono h hb).imp (EntG.step (Nat.le_refl _) fun _ _ hG => ⟨rfl, Nat.le_trans hb hG.1, hG.2⟩)
theorem NewE.ents {base : Nat} {w : World} {A : Option Addr} {c : Nat} {L : List Ent} (h : NewE base w A c L) : Ents w w.heap.size A L := by
  obtain ⟨A', c', hv, -, hl⟩ := OwnL.rd (entG_ok _ _) h
  simp only [Value.slice.injEq] at hv
  obtain ⟨rfl, -, -⟩ := hv
  intro hn
  obtain ⟨b, off, h1, h2, h3⟩ := hl hn
  refine ⟨b, off, h1, h2, fun i a ha => ?_⟩
  obtain ⟨A', c'', h4, h5, h6, h7⟩ := h3 i a ha
  exact ⟨A', c'', h4, h5, h6.pts, h7⟩
set_option maxRecDepth 1000000 in
set_option maxHeartbeats 4000000 in
theorem allN_c {w : World} {B k : Nat} {o : Option T} (h : NodeO w B k o) (hB : B ≤ w.heap.size) (hT : ∀ w', Below B w w' → Tz w') (hN : (Tr.entsO o).length ≤ 100000000) :
    Calls Tryz.prog 139 #[.pointer (rootP o)] w fun e w' => ∃ A c, e = .returned (.slice A (Tr.entsO o).length c) ∧ (Tr.entsO o).length ≤ c ∧ NewE w.heap.size w' A c (Tr.entsO o) ∧ Below w.heap.size w w' := by
  obtain ⟨S, hS⟩ : ∃ S, Tr.sums (Tr.entsO o) = S := ⟨_, rfl⟩
  have hc : S.c = (Tr.entsO o).length := by rw [← hS, Tr.sums_c]
  have H1 : Hid (Calls Tryz.prog 101 #[.pointer (rootP o)] w fun e w' => e = .returned (sumsV S) ∧ Below w.heap.size w w') := Lib.hid (by rw [← hS]; exact nSums_o h hB)
  have f0 := sums_count
  obtain ⟨i0, hi0, hz0, hz1, hz2⟩ := info_parts infoE2
  obtain ⟨ob, hob⟩ : ∃ ob, ob = Obj.cells (madeCells (Value.agg #[.slice none 0 0, .int .u64 0]).cells (S.c * i0.size)) 73 := ⟨_, rfl⟩
  have hmk : ∀ w : World, (Instr.makeSlice 30 (.int .i64 0) (.int .u64 (S.c : Int))).run Tryz.prog w = .ok (.slice (some ⟨w.heap.size, 0, none⟩) 0 S.c) (w.alloc ob) := fun w => by
    have := run_make (P := Tryz.prog) w 30 73 i0 (.agg #[.slice none 0 0, .int .u64 0]) Tryz.underlying30 hi0 hz0 .i64 .u64 0 (S.c : Int) (Int.le_refl _) (by omega) (by rw [hz2]; omega) (by omega)
    simp only [Int.toNat_zero, Int.toNat_natCast] at this
    rw [hob]; exact this
  have hrow : ∀ (w2 : World) (Q : (Nat → Option Value) → Ent → Prop), w.heap.size ≤ w2.heap.size → OwnL 73 2 Q (w2.alloc ob) w.heap.size (.slice (some ⟨w2.heap.size, 0, none⟩) 0 S.c) [] := fun w2 Q h2 =>
    ⟨[], LCells.nil 2 _, by rw [hob]; exact World.ownsRow_made w2 _ S.c h2 (by unfold maxLen; omega) (by rw [size_madeCells, hz1])⟩
  have HR := Lib.hid (And.intro hrow (And.intro hc hN))
  have HX := Lib.hid (And.intro h (And.intro hB hT))
  have HO : Hid (∀ w2, Below w.heap.size w w2 → Calls Tryz.prog 175 #[.pointer (rootP o)] w2 fun e w' => ∃ g D d kk, e = .returned (.pointer (some ⟨g, 0, none⟩)) ∧ CurAt w' w.heap.size g k kk o (startS o) D d ∧ Below w2.heap.size w2 w' ∧ (∀ b, Cf g D b → w2.heap.size ≤ b)) := Lib.hid fun w2 hb =>
    over_c (h.below hb hB (Nat.le_refl _)) hB hb.size
  clear h hB hT hN hc hS hob hrow hi0 hz0 hz1 hz2
  go_enter Tryz.func139, Tryz.ntmps139
  go_upto_region 3 with (first
    | (go_at_call 101; refine H1.out.mono ?_; rintro e w2 ⟨rfl, hb2⟩; have H2 := Lib.hid hb2; clear hb2)
    | (go_at_call 175; refine (HO.out _ (H2.out.trans ((below_alloc _ _).mono H2.out.size))).mono ?_; rintro e w3 ⟨g, D, d, kk, rfl, hc3, hb3, hg3⟩; have H3 := Lib.hid (And.intro hc3 (And.intro hb3 hg3)); clear hc3 hb3 hg3))
  have hT3 : Hid (∀ w5, Below w.heap.size w w5 → ∀ w', Below w.heap.size w5 w' → Tz w') := Lib.hid fun w5 h5 w' hb' => HX.out.2.2 w' ((h5.trans hb').mono HX.out.2.1)
  have hW3 : Hid (Below w.heap.size w w3) := Lib.hid (H2.out.trans (((below_alloc w2 ob).mono H2.out.size).trans (H3.out.2.1.mono (by have := H2.out.size; simp; omega))))
  clear H1 HO hmk f0
  obtain ⟨x, hx⟩ : ∃ x, (Tr.entsO o).head? = x := ⟨_, rfl⟩
  obtain ⟨bx, hbx⟩ : ∃ r, x.isSome = r := ⟨_, rfl⟩
  have HN := Lib.hid (next_any H3.out.1 (hT3.out _ hW3.out) x (by rw [(start_bef o).2, hx]) bx hbx)
  have HXX := Lib.hid hx
  have HBX := Lib.hid hbx
  clear hx hbx
  go_wp2_with (go_at_call 176; refine HN.out.mono ?_; rintro e w4 ⟨P, n, dd, v, rfl, S4, D4, d4, hc4, hf4, hr4, ht4, hb4, ha4⟩)
  have HI : Hid (AllI w g k kk o [] x S4 D4 d4 (some ⟨w2.heap.size, 0, none⟩) S.c w4.heap.size (w4.alloc (.cells #[.slice P n dd, .int .u64 (v : Int)] 73))) := Lib.hid (by
    rw [(start_bef o).2] at ha4
    exact AllI.start (HR.out.1 w2 _ H2.out.size) H2.out H3.out.2.1 H3.out.2.2 hc4 hf4 hr4 ht4 (by
      rw [ha4, ← HXX.out]
      cases Tr.entsO o <;> rfl) (fun e => by
      rw [ha4]
      rw [← HXX.out] at e
      cases h0 : Tr.entsO o with
      | nil => rfl
      | cons a l => rw [h0] at e; cases e))
  clear hc4 hf4 hr4 ht4 hb4 ha4 HN
  go_loopw [3, 5, 6] (fun l e i wr => ∃ (L1 : List Ent) (x : Option Ent) (S : List (T × Nat)) (D : Option Addr) (d : Nat) (R : Option Addr) (c eb : Nat) (r : Bool), l = .slice R L1.length c ∧ e = .pointer (some ⟨eb, 0, none⟩) ∧ i = .bool r ∧ x.isSome = r ∧ AllI w g k kk o L1 x S D d R c eb wr) (fun l _ _ _ => (Tr.entsO o).length - lenV l)
  case atStart => exact ⟨[], x, S4, D4, d4, _, _, _, _, rfl, rfl, rfl, HBX.out, HI.out⟩
  case round =>
    obtain ⟨L1, x, S, D, d, R, c, eb, r, rfl, rfl, rfl, hr, hI⟩ := hrel
    clear HI HXX HBX
    cases x with
    | none =>
      have HI := Lib.hid hI
      clear hI
      have hr' : r = false := hr.symm
      subst hr'
      clear hr
      go_wp2_with fail
      go_ret
      have hw := HI.out.whole
      rw [HI.out.stop rfl] at hw
      simp only [Option.toList, List.append_nil] at hw
      obtain ⟨A, c', hv, hc', -⟩ := OwnL.rd (entG_ok _ _) HI.out.row
      simp only [Value.slice.injEq] at hv
      obtain ⟨rfl, -, rfl⟩ := hv
      rw [← hw]
      exact ⟨_, _, rfl, hc', HI.out.newE, HI.out.bel⟩
    | some y =>
      obtain ⟨Pn, nn, hblk, hpts⟩ := hI.ent
      obtain ⟨c0, c1, -, -⟩ := box_cells hblk
      have HY := Lib.hid (And.intro hI (And.intro hblk hpts))
      have hwl := congrArg List.length hI.whole
      simp only [List.length_append, Option.toList, List.length_cons, List.length_nil] at hwl
      have hlen : L1.length ≤ 100000000 := by have := HR.out.2.2; omega
      have hyb : y.1.length ≤ maxLen ∧ y.2 < 18446744073709551616 := by
        have hmem : y ∈ Tr.entsO o := by rw [← hI.whole]; simp
        cases o with
        | none => cases hmem
        | some t =>
          have hw := (HX.out.1 t rfl).1
          have h1 := hw.each y hmem
          have h16 := hw.k16
          exact ⟨by unfold maxLen; omega, h1.2.2.1⟩
      have HY2 := Lib.hid (And.intro hyb hwl)
      clear hI hblk hpts hwl hyb
      have hr' : r = true := hr.symm
      subst hr'
      clear hr
      obtain ⟨x', hx'⟩ : ∃ x', (Tr.aft S).head? = x' := ⟨_, rfl⟩
      obtain ⟨r', hr'⟩ : ∃ r, x'.isSome = r := ⟨_, rfl⟩
      have HX' := Lib.hid (And.intro hx' hr')
      clear hx' hr'
      go_upto_region 8 with (at_builtin; refine wpList_append_list (Q := EntG wr (Fr w.heap.size R g D)) 30 73 (.agg #[.slice none 0 0, .int .u64 0]) 32 Tryz.underlying30 infoE2 (by rfl) (by omega) (by omega) (entG_ok _ _) (by rfl) _ _ (by rfl) w.heap.size (.slice R L1.length c) L1 [y] (L1.length + 1) (by simp) (by rfl) (by exact HY.out.1.row.below (below_alloc _ _) (Nat.le_refl _)) _ _ 1 1 (by rfl) (by rfl) (by exact lst_at (entG_ok _ _) #[.slice Pn y.1.length nn, .int .u64 (y.2 : Int)] y (by rfl) (by exact ⟨Pn, nn, rfl, rfl, HY.out.2.2, HY2.out.1.1, HY2.out.1.2⟩)) (by omega) (by have := HY.out.1.bel.size; simp; omega) ?_; intro D5 d5 w5 hown5 hgrow5 hat5; have HM := Lib.hid (AllI.app HY.out.1 HY.out.2.1 hown5 (by simp) hgrow5 hat5); obtain ⟨e0, e1, -, -⟩ := box_cells HM.out.blk; clear hown5 hgrow5 hat5)
      have HNx : Hid (∀ y z, Calls Tryz.prog 176 #[.pointer (some ⟨g, 0, none⟩)] (w5.alloc (.cells #[y, z] 73)) _) := Lib.hid fun y z => next_any (HM.out.cur.below (below_alloc w5 (.cells #[y, z] 73))) (hT3.out _ (HM.out.bel.trans ((below_alloc _ _).mono HM.out.bel.size))) x' HX'.out.1 r' HX'.out.2
      clear c0 c1 e0 e1
      go_wp2_with (go_at_call 176; refine (HNx.out _ _).mono ?_; rintro e w7 ⟨P', n', dd', v', rfl, S', D', d', hc7, hf7, hr7, ht7, hb7, ha7⟩; have hI8 := HM.out.next hc7 hf7 hr7 ht7 HX'.out.1 ha7; have hbl7 := (hf7.block w5.heap.size (by simp) (fun hb => by have := (HM.out.cur.mem.lt _ hb).2; omega)).trans (heap_at w5 _ _ rfl); obtain ⟨b0, b1, f0, f1⟩ := box_cells hbl7; have HI8 := Lib.hid hI8; clear hI8 hc7 hf7 hr7 ht7 hb7 ha7 hbl7)
      go_roundw
      case rel => exact ⟨L1 ++ [y], x', S', D', d', D5, d5, w5.heap.size, r', by simp, rfl, rfl, HX'.out.2, HI8.out⟩
      case measure => simp [lenV]; have := HY2.out.2; omega
end Go.Proofs.YtpgkfccfabnjdaaGreatDoor

/-
  CONTRACTS of package walk: Seek. Laid by wip/gen24.py.
-/
namespace Go.Proofs.YtpgkfccfabnjdaaGreatDoor
open Go.ChangeShapes Go.WideShapes Go.ChangeAt Go.RowKit
open Tr (T S4 Ent)

theorem CurM.cut {w : World} {B g : Nat} {kk : Int} {r : Option Addr} {S : List (T × Nat)} {D : Option Addr} {d : Nat} (h : CurM w B g kk r S D d) :
    CurM (w.setCell ⟨g, 2, none⟩ (.slice D 0 d)) B g kk r [] D d := by
  have h7 := OwnL.take stQ_ok h.stk 0 (Nat.zero_le _)
  rw [List.take_zero] at h7
  exact ⟨block_set h.blk _, h.gB, h7.block fun q hq => Below.heap_setCell _ _ _ _ (fun e => h.ne (by rw [own_block] at hq; rw [hq, e])), h.ne⟩
end Go.Proofs.YtpgkfccfabnjdaaGreatDoor
