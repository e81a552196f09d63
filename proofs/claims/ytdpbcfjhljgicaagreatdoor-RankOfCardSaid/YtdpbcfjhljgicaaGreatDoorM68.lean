import Derived.Test.YtdpbcfjhljgicaaGreatDoorM67
import Derived.Test.YtdpbcfjhljgicaaGreatDoorM32
import Derived.Test.YtdpbcfjhljgicaaGreatDoorM33
/-
  CONTRACTS of package rank, ninth part: Range. Laid by wip/gen41.py.
-/
namespace Go.Proofs.YtdpbcfjhljgicaaGreatDoor
open Go.ChangeShapes Go.WideShapes Go.ChangeAt Go.RowKit
open Tr (T S4 Ent)

/-- a list of entries and its points, in new blocks -/
def NewR (base : Nat) (w : World) (A : Option Addr) (c : Nat) (L : List Ent) : Prop :=
  OwnL 54 2 (EntG w (fun b => base ≤ b ∧ A.map (·.block) ≠ some b)) w base (.slice A L.length c) L
theorem NewR.mono {base base' : Nat} {w : World} {A : Option Addr} {c : Nat} {L : List Ent} (h : NewR base w A c L) (hb : base' ≤ base) : NewR base' w A c L :=
  (OwnL.mono h hb).imp (EntG.step (Nat.le_refl _) fun _ _ hG => ⟨rfl, Nat.le_trans hb hG.1, hG.2⟩)
theorem NewR.ents {base : Nat} {w : World} {A : Option Addr} {c : Nat} {L : List Ent} (h : NewR base w A c L) : Ents w w.heap.size A L := by
  obtain ⟨A', c', hv, -, hl⟩ := OwnL.rd (entG_ok _ _) h
  simp only [Value.slice.injEq] at hv
  obtain ⟨rfl, -, -⟩ := hv
  intro hn
  obtain ⟨b, off, h1, h2, h3⟩ := hl hn
  refine ⟨b, off, h1, h2, fun i a ha => ?_⟩
  obtain ⟨A', c'', h4, h5, h6, h7⟩ := h3 i a ha
  exact ⟨A', c'', h4, h5, h6.pts, h7⟩
/-- A LIST THAT GROWS BY WHAT A CURSOR TELLS -/
structure RngA (w : World) (g k : Nat) (kk : Int) (o : Option T) (Lw : List Ent) (L1 : List Ent) (x : Option Ent) (S : List (T × Nat)) (D : Option Addr) (d : Nat) (R : Option Addr) (c : Nat) (eb : Nat) (wr : World) : Prop where
  cur : CurAt wr w.heap.size g k kk o S D d
  whole : L1 ++ (x.toList ++ Tr.aft S) = Lw
  stop : x = none → Tr.aft S = []
  row : OwnL 54 2 (EntG wr (Fr w.heap.size R g D)) wr w.heap.size (.slice R L1.length c) L1
  rg : ∀ b, R.map (·.block) = some b → ¬ Cf g D b ∧ b ≠ eb
  ent : CurE wr (Fr w.heap.size R g D) eb x
  ebn : ¬ Cf g D eb ∧ w.heap.size ≤ eb
  bel : Below w.heap.size w wr
/-- behind the append of a round -/
structure RngM (w : World) (g k : Nat) (kk : Int) (o : Option T) (Lw : List Ent) (L1 : List Ent) (S : List (T × Nat)) (D : Option Addr) (d : Nat) (R : Option Addr) (c : Nat) (eb : Nat) (P : Option Addr) (n nn v : Nat) (wr : World) : Prop where
  cur : CurAt wr w.heap.size g k kk o S D d
  whole : L1 ++ Tr.aft S = Lw
  row : OwnL 54 2 (EntG wr (Fr w.heap.size R g D)) wr w.heap.size (.slice R L1.length c) L1
  rg : ∀ b, R.map (·.block) = some b → ¬ Cf g D b
  blk : wr.heap[eb]? = some (.cells #[.slice P n nn, .int .u64 (v : Int)] 54 (0, 0))
  bel : Below w.heap.size w wr
theorem RngA.app {w : World} {g k : Nat} {kk : Int} {o : Option T} {Lw : List Ent} {L1 : List Ent} {y : Ent} {S : List (T × Nat)} {D : Option Addr} {d : Nat} {R : Option Addr} {c eb : Nat} {wr w5 : World} {P : Option Addr} {nn d5 : Nat} {D5 : Option Addr} {ob : Obj} {M : Nat}
    (h : RngA w g k kk o Lw L1 (some y) S D d R c eb wr) (hblk : wr.heap[eb]? = some (.cells #[.slice P y.1.length nn, .int .u64 (y.2 : Int)] 54 (0, 0)))
    (hown : OwnL 54 2 (EntG wr (Fr w.heap.size R g D)) w5 w.heap.size (.slice D5 M d5) (L1 ++ [y])) (hM : M = (L1 ++ [y]).length) (hgr : (wr.alloc ob).grownBy w5 (Value.slice R L1.length c).ownBlock)
    (hat : (Value.slice D5 M d5).ownBlock = (Value.slice R L1.length c).ownBlock ∨ (Value.slice D5 M d5).ownBlock = some (wr.alloc ob).heap.size) :
    RngM w g k kk o Lw (L1 ++ [y]) S D d D5 d5 eb P y.1.length nn y.2 w5 := by
  subst hM
  rw [own_block, own_block] at hat
  rw [own_block] at hgr
  have hsz : (wr.alloc ob).heap.size = wr.heap.size + 1 := by simp
  have hs5 : wr.heap.size ≤ w5.heap.size := Nat.le_trans (by omega) hgr.size
  have hb : ∀ b, b < wr.heap.size → R.map (·.block) ≠ some b → w5.heap[b]? = wr.heap[b]? := fun b hb hn => (hgr.block b (by omega) (fun e => hn e.symm)).trans (Below.heap_alloc _ _ _ hb)
  have hebw := (Array.getElem?_eq_some_iff.1 hblk).1
  have hR : ∀ b, R.map (·.block) = some b → w.heap.size ≤ b := fun b hb => (h.row.lt b (by rw [own_block]; exact hb)).1
  have hbel : Below w.heap.size wr w5 := ⟨hgr.os, hgr.tape, hgr.output, hs5, fun b hb' => hb b (Nat.lt_of_lt_of_le hb' h.bel.size) (fun e => by have := hR b e; omega)⟩
  refine ⟨h.cur.keep hbel fun b hb' => hb b (h.cur.mem.lt b hb').2 (fun e => (h.rg b e).1 hb'), ?_, ?_, fun b hb' => ?_, ?_, h.bel.trans hbel⟩
  · rw [← h.whole]; simp
  · refine hown.imp (EntG.step hs5 fun b hb' hG => ⟨hb b hb' hG.1, ?_, hG.2⟩)
    rcases hat with e | e
    · rw [e]; exact hG.1
    · rw [e]; intro e'; simp only [Option.some.injEq] at e'; omega
  · rcases hat with e | e
    · rw [e] at hb'; exact (h.rg b hb').1
    · rw [e] at hb'; simp only [Option.some.injEq] at hb'; intro hc; have := (h.cur.mem.lt b hc).2; omega
  · rw [hb eb hebw (fun e => (h.rg eb e).2 rfl)]; exact hblk
theorem RngM.lt {w : World} {g k : Nat} {kk : Int} {o : Option T} {Lw : List Ent} {L1 : List Ent} {S : List (T × Nat)} {D : Option Addr} {d : Nat} {R : Option Addr} {c eb : Nat} {P : Option Addr} {n nn v : Nat} {wr : World} (h : RngM w g k kk o Lw L1 S D d R c eb P n nn v wr) : ∀ b, R.map (·.block) = some b → w.heap.size ≤ b ∧ b < wr.heap.size := fun b hb => h.row.lt b (by rw [own_block]; exact hb)
/-- A LIST THAT GROWS BY WHAT A CURSOR TELLS, between two rounds -/
structure RngI (w : World) (g k : Nat) (kk : Int) (o : Option T) (Lw : List Ent) (L1 : List Ent) (S : List (T × Nat)) (D : Option Addr) (d : Nat) (R : Option Addr) (c : Nat) (wr : World) : Prop where
  cur : CurAt wr w.heap.size g k kk o S D d
  whole : L1 ++ Tr.aft S = Lw
  row : OwnL 54 2 (EntG wr (Fr w.heap.size R g D)) wr w.heap.size (.slice R L1.length c) L1
  rg : ∀ b, R.map (·.block) = some b → ¬ Cf g D b
  bel : Below w.heap.size w wr
theorem RngI.next {w : World} {g k : Nat} {kk : Int} {o : Option T} {Lw : List Ent} {L1 : List Ent} {S : List (T × Nat)} {D : Option Addr} {d : Nat} {R : Option Addr} {c : Nat} {wr : World} (h : RngI w g k kk o Lw L1 S D d R c wr)
    {x : Option Ent} {S' : List (T × Nat)} {D' : Option Addr} {d' : Nat} {P' : Option Addr} {n' dd' v' : Nat} {w7 : World} (hc : CurAt w7 w.heap.size g k kk o S' D' d') (hf : Foot (Cf g D) wr w7) (hr : ∀ b, Cf g D' b → Cf g D b ∨ wr.heap.size ≤ b)
    (ht : Telt wr w7 g D' x P' n' dd' v') (hx : (Tr.aft S).head? = x) (ha : Tr.aft S' = (Tr.aft S).drop 1) :
    RngA w g k kk o Lw L1 x S' D' d' R c w7.heap.size (w7.alloc (.cells #[.slice P' n' dd', .int .u64 (v' : Int)] 54)) := by
  have hal := below_alloc w7 (.cells #[.slice P' n' dd', .int .u64 (v' : Int)] 54)
  have q7 := hf.size
  have qw := h.bel.size
  have hsz : (w7.alloc (.cells #[.slice P' n' dd', .int .u64 (v' : Int)] 54)).heap.size = w7.heap.size + 1 := by simp
  have hlt : ∀ b, R.map (·.block) = some b → w.heap.size ≤ b ∧ b < wr.heap.size := fun b hb => h.row.lt b (by rw [own_block]; exact hb)
  have h7 : Below w.heap.size wr w7 := hf.below qw fun b hb => (h.cur.mem.lt b hb).1
  have hold : ∀ b, b < wr.heap.size → ¬ Cf g D b → (w7.alloc (.cells #[.slice P' n' dd', .int .u64 (v' : Int)] 54)).heap[b]? = wr.heap[b]? := fun b hb hn => by
    rw [hal.block b (by omega), hf.block b hb hn]
  have hfr : ∀ b, b < wr.heap.size → ¬ Cf g D b → ¬ Cf g D' b := fun b hb hn hc => by
    rcases hr b hc with hb' | hb'
    · exact hn hb'
    · omega
  refine ⟨hc.below hal, ?_, fun e => ?_, ?_, fun b hb => ?_, ?_, ⟨fun hb => ?_, by omega⟩, h.bel.trans (h7.trans (hal.mono (by omega)))⟩
  · rw [← h.whole, ha, ← hx]
    cases Tr.aft S <;> rfl
  · rw [ha]
    cases hS : Tr.aft S with
    | nil => rfl
    | cons a l => rw [hS, e] at hx; cases hx
  · refine (h.row.block fun q hq => ?_).imp (EntG.step (by omega) fun b hb hG => ⟨hold b hb hG.2.1, hG.1, hfr b hb hG.2.1, hG.2.2⟩)
    rw [own_block] at hq
    exact hold q (hlt q hq).2 (h.rg q hq)
  · exact ⟨hfr b (hlt b hb).2 (h.rg b hb), by have := (hlt b hb).2; omega⟩
  · cases x with
    | none =>
      obtain ⟨rfl, rfl, rfl, rfl⟩ := ht
      exact heap_at w7 _ _ rfl
    | some y =>
      obtain ⟨rfl, rfl, hh, rfl, ho, hn⟩ := ht
      have hh1 := (ho.2.lt hh rfl).1
      refine ⟨_, _, heap_at w7 _ _ rfl, (Own.ptsG (G := Fr w.heap.size R g D') ho ⟨fun e => ?_, hn, by omega⟩).step hal.size (fun b hb hG => ⟨hal.block b hb, hG⟩)⟩
      have := (hlt hh e).2; omega
  · have := (hc.mem.lt _ hb).2; omega
theorem RngM.rng {w : World} {g k : Nat} {kk : Int} {o : Option T} {Lw : List Ent} {L1 : List Ent} {S : List (T × Nat)} {D : Option Addr} {d : Nat} {R : Option Addr} {c eb : Nat} {P : Option Addr} {n nn v : Nat} {wr : World} (h : RngM w g k kk o Lw L1 S D d R c eb P n nn v wr) : RngI w g k kk o Lw L1 S D d R c wr :=
  ⟨h.cur, h.whole, h.row, h.rg, h.bel⟩
theorem RngI.newE {w : World} {g k : Nat} {kk : Int} {o : Option T} {Lw : List Ent} {L1 : List Ent} {S : List (T × Nat)} {D : Option Addr} {d : Nat} {R : Option Addr} {c : Nat} {wr : World} (h : RngI w g k kk o Lw L1 S D d R c wr) : NewR w.heap.size wr R c L1 :=
  h.row.imp (EntG.step (Nat.le_refl _) fun _ _ hG => ⟨rfl, hG.2.2, hG.1⟩)

/-- some in a row -/
def rngE (L : List Ent) (from' to : Int) : List Ent := (L.take to.toNat).drop from'.toNat
theorem rng_none {L : List Ent} {from' to : Int} (h : (L.length : Int) ≤ from' ∨ L.length = 0 ∨ to ≤ from' ∨ to ≤ 0) : rngE L from' to = [] := by
  unfold rngE
  apply List.drop_eq_nil_of_le
  rw [List.length_take]
  omega
theorem rng_some {L : List Ent} {from' to : Int} {F M : Nat} (hF : max from' 0 = (F : Int)) (hM : min to (L.length : Int) = ((F + M : Nat) : Int)) : rngE L from' to = (L.drop F).take M := by
  unfold rngE
  rw [show from'.toNat = F by omega, List.drop_take]
  rcases Int.le_total to (L.length : Int) with h | h
  · rw [show to.toNat - F = M by omega]
  · rw [List.take_of_length_le (by rw [List.length_drop]; omega), List.take_of_length_le (by rw [List.length_drop]; omega)]
/-- a list in z-order, cut at one of its entries -/
theorem cut_at {L X Y : List Ent} (hz : Tr.ZS L) (he : X ++ Y = L) {F : Nat} {y : Ent} (hy : L[F]? = some y) (hX : Ahead y.1 X) (hY : Past y.1 Y) : X = L.take F ∧ Y = L.drop F := by
  have hlen : X.length = F := by
    subst he
    rcases Nat.lt_trichotomy F X.length with h | h | h
    · rw [List.getElem?_append_left h] at hy
      have := hX y (List.mem_of_getElem? hy)
      omega
    · exact h.symm
    · rw [List.getElem?_append_right (by omega)] at hy
      obtain ⟨hl, hg⟩ := List.getElem?_eq_some_iff.1 hy
      have hz2 := (List.pairwise_append.1 hz).2.1
      have h0 : 0 < Y.length := by omega
      have h1 := List.pairwise_iff_getElem.1 hz2 0 (F - X.length) h0 hl (by omega)
      rw [hg] at h1
      have h2 := hY Y[0] (List.getElem_mem h0)
      omega
  subst he
  subst hlen
  simp
theorem kRange_nil (a b : Int) (w : World) : Calls Tryz.prog 30 #[.pointer none, .int .i64 a, .int .i64 b] w fun e w' => e = .returned (.tuple #[.slice none 0 0, .int .i64 1]) ∧ w = w' := by
  go_enter Tryz.func30, Tryz.ntmps30
  go_wp2
  go_ret2
  exact ⟨rfl, rfl⟩
set_option maxRecDepth 1000000 in
set_option maxHeartbeats 4000000 in
theorem kRange_out {w : World} {b k : Nat} {o : Option T} (ht : TreeX w b k o) (hN : (Tr.entsO o).length ≤ 100000000) (from' to : Int) (h : ((Tr.entsO o).length : Int) ≤ max from' 0) :
    Calls Tryz.prog 30 #[.pointer (some ⟨b, 0, none⟩), .int .i64 from', .int .i64 to] w fun e w' => e = .returned (.tuple #[.slice none 0 0, .int .i64 0]) ∧ Below w.heap.size w w' := by
  obtain ⟨F, hF⟩ : ∃ F : Int, max from' 0 = F := ⟨_, rfl⟩
  obtain ⟨M, hM⟩ : ∃ M : Int, min to ((Tr.entsO o).length : Int) = M := ⟨_, rfl⟩
  have HL := Lib.hid (tLen_c ht.1 (Nat.le_refl _) (by omega))
  have HN := Lib.hid fun (w1 : World) (hb : Below w.heap.size w w1) => kNth_out (ht.1.below hb (Nat.le_refl _) (Nat.le_refl _)) hb.size hN F (.inr (by omega))
  obtain ⟨N, hNN⟩ : ∃ N, (Tr.entsO o).length = N := ⟨_, rfl⟩
  rw [hNN] at HL hM
  clear ht hN hNN h
  go_enter Tryz.func30, Tryz.ntmps30
  go_wp2_with (first
    | (go_at_call 55; refine HL.out.mono ?_; rintro e w1 ⟨rfl, hb1⟩; have H1 := Lib.hid hb1; clear hb1)
    | (go_at_call 29; refine (HN.out _ H1.out).mono ?_; rintro e w2 ⟨rfl, hb2⟩; have H2 := Lib.hid (Below.andThen H1.out hb2); clear hb2))
  go_ret2
  exact ⟨rfl, Below.andThen H2.out (below_alloc _ _)⟩
set_option maxRecDepth 1000000 in
set_option maxHeartbeats 4000000 in
theorem kRange_no {w : World} {b k : Nat} {o : Option T} (ht : TreeX w b k o) (hT : ∀ w', Below w.heap.size w w' → Tz w') (hN : (Tr.entsO o).length ≤ 100000000) (from' to : Int) (h1 : from' < ((Tr.entsO o).length : Int)) (h0 : 0 < (Tr.entsO o).length) (h : to ≤ from' ∨ to ≤ 0) :
    Calls Tryz.prog 30 #[.pointer (some ⟨b, 0, none⟩), .int .i64 from', .int .i64 to] w fun e w' => e = .returned (.tuple #[.slice none 0 0, .int .i64 0]) ∧ Below w.heap.size w w' := by
  obtain ⟨F, hF⟩ : ∃ F : Nat, max from' 0 = (F : Int) := ⟨(max from' 0).toNat, by omega⟩
  obtain ⟨M, hM⟩ : ∃ M : Int, min to ((Tr.entsO o).length : Int) = M := ⟨_, rfl⟩
  obtain ⟨y, hy⟩ := get_lt (us := Tr.entsO o) (k := F) (by omega)
  have HL := Lib.hid (tLen_c ht.1 (Nat.le_refl _) (by omega))
  have HN := Lib.hid fun (w1 : World) (hb : Below w.heap.size w w1) => kNth_c (ht.1.below hb (Nat.le_refl _) (Nat.le_refl _)) hb.size (fun w' hb' => hT w' (hb.trans hb')) hN F hy
  have d1 : decide (M ≤ (F : Int)) = true := decide_eq_true (by omega)
  obtain ⟨N, hNN⟩ : ∃ N, (Tr.entsO o).length = N := ⟨_, rfl⟩
  rw [hNN] at HL hM
  clear ht hN hNN h hT hy h0 h1
  go_enter Tryz.func30, Tryz.ntmps30
  go_wp2_with (first
    | (go_at_call 55; refine HL.out.mono ?_; rintro e w1 ⟨rfl, hb1⟩; have H1 := Lib.hid hb1; clear hb1)
    | (go_at_call 29; refine (HN.out _ H1.out).mono ?_; rintro e w2 ⟨hh, dd, rfl, -, -, hb2⟩; have H2 := Lib.hid (H1.out.trans (hb2.mono H1.out.size)); clear hb2))
  go_ret2
  exact ⟨rfl, Below.andThen H2.out (below_alloc _ _)⟩
set_option maxRecDepth 1000000 in
set_option maxHeartbeats 4000000 in
theorem kRange_go {w : World} {b k : Nat} {o : Option T} (ht : TreeX w b k o) (hT : ∀ w', Below w.heap.size w w' → Tz w') (hN : (Tr.entsO o).length ≤ 100000000) (from' to : Int) {F M Tn : Nat} (hF : max from' 0 = (F : Int)) (hM : min to ((Tr.entsO o).length : Int) = (Tn : Int)) (hM1 : 1 ≤ M) (hTn : Tn = F + M) :
    Calls Tryz.prog 30 #[.pointer (some ⟨b, 0, none⟩), .int .i64 from', .int .i64 to] w fun e w' => ∃ A c, e = .returned (.tuple #[.slice A (((Tr.entsO o).drop F).take M).length c, .int .i64 0]) ∧ NewR w.heap.size w' A c (((Tr.entsO o).drop F).take M) ∧ Below w.heap.size w w' := by
  obtain ⟨y, hy⟩ := get_lt (us := Tr.entsO o) (k := F) (by omega)
  have HL := Lib.hid (tLen_c ht.1 (Nat.le_refl _) (by omega))
  have HN := Lib.hid fun (w1 : World) (hb : Below w.heap.size w w1) => kNth_c (ht.1.below hb (Nat.le_refl _) (Nat.le_refl _)) hb.size (fun w' hb' => hT w' (hb.trans hb')) hN F hy
  have d1 : decide ((Tn : Int) ≤ (F : Int)) = false := decide_eq_false (by omega)
  have d1' : decide (Tn ≤ F) = false := decide_eq_false (by omega)
  have hwr : wrap64 ((Tn : Int) - (F : Int)) = (M : Int) := by rw [IntWalk.wrap64_in _ (by omega)]; omega
  have hle : F + M ≤ (Tr.entsO o).length := by omega
  have hMI : (M : Int) ≤ 100000000 := by omega
  obtain ⟨i0, hi0, hz0, hz1, hz2⟩ := info_parts infoE2
  obtain ⟨ob, hob⟩ : ∃ ob, ob = Obj.cells (madeCells (Value.agg #[.slice none 0 0, .int .u64 0]).cells (M * i0.size)) 54 := ⟨_, rfl⟩
  have hmk : ∀ w : World, (Instr.makeSlice 30 (.int .i64 0) (.int .i64 (M : Int))).run Tryz.prog w = .ok (.slice (some ⟨w.heap.size, 0, none⟩) 0 M) (w.alloc ob) := fun w => by
    have := run_make (P := Tryz.prog) w 30 54 i0 (.agg #[.slice none 0 0, .int .u64 0]) Tryz.underlying30 hi0 hz0 .i64 .i64 0 (M : Int) (Int.le_refl _) (by omega) (by rw [hz2]; omega) (by omega)
    simp only [Int.toNat_zero, Int.toNat_natCast] at this
    rw [hob]; exact this
  have hrow : ∀ (w2 : World) (Q : (Nat → Option Value) → Ent → Prop), OwnL 54 2 Q (w2.alloc ob) w2.heap.size (.slice (some ⟨w2.heap.size, 0, none⟩) 0 M) [] := fun w2 Q =>
    ⟨[], LCells.nil 2 _, by rw [hob]; exact World.ownsRow_made w2 _ M (Nat.le_refl _) (by unfold maxLen; omega) (by rw [size_madeCells, hz1])⟩
  obtain ⟨N, hNN⟩ : ∃ N, (Tr.entsO o).length = N := ⟨_, rfl⟩
  have HX := Lib.hid (And.intro ht (And.intro hT (And.intro hN (And.intro hy (And.intro hle (And.intro hrow hNN))))))
  rw [hNN] at HL hM
  clear ht hN hNN hT hy hle hob hrow hi0 hz0 hz1 hz2 hM1 hTn
  go_enter Tryz.func30, Tryz.ntmps30
  go_upto_region 7 with (first
    | (go_at_call 55; refine HL.out.mono ?_; rintro e w1 ⟨rfl, hb1⟩; have H1 := Lib.hid hb1; clear hb1)
    | (go_at_call 29; refine (HN.out _ H1.out).mono ?_; rintro e w2 ⟨hh, dd, rfl, hp2, hg2, hb2⟩; have H2 := Lib.hid (And.intro hp2 (H1.out.trans (hb2.mono H1.out.size))); clear hb2 hp2 hg2))
  have HW : Hid (TreeX (w2.alloc (.cells #[.slice (some ⟨hh, 0, none⟩) y.1.length dd, .int .u64 (y.2 : Int)] 54)) b k o) := Lib.hid (HX.out.1.below (H2.out.2.trans ((below_alloc _ _).mono H2.out.2.size)) (Nat.le_refl _))
  have hblk : (w2.alloc (.cells #[.slice (some ⟨hh, 0, none⟩) y.1.length dd, .int .u64 (y.2 : Int)] 54)).heap[w2.heap.size]? = some (.cells #[.slice (some ⟨hh, 0, none⟩) y.1.length dd, .int .u64 (y.2 : Int)] 54 (0, 0)) := heap_at w2 _ _ rfl
  have hbw : Below w.heap.size w (w2.alloc (.cells #[.slice (some ⟨hh, 0, none⟩) y.1.length dd, .int .u64 (y.2 : Int)] 54)) := Below.andThen H2.out.2 (below_alloc _ _)
  have hpb : Pts (w2.alloc (.cells #[.slice (some ⟨hh, 0, none⟩) y.1.length dd, .int .u64 (y.2 : Int)] 54)) (w2.alloc (.cells #[.slice (some ⟨hh, 0, none⟩) y.1.length dd, .int .u64 (y.2 : Int)] 54)).heap.size (some ⟨hh, 0, none⟩) y.1 := (H2.out.1.below' (below_alloc _ _) (Nat.le_refl _)).keep (by simp) (fun _ _ => rfl)
  have hsz : w2.heap.size < (w2.alloc (.cells #[.slice (some ⟨hh, 0, none⟩) y.1.length dd, .int .u64 (y.2 : Int)] 54)).heap.size := by simp
  generalize w2.alloc (.cells #[.slice (some ⟨hh, 0, none⟩) y.1.length dd, .int .u64 (y.2 : Int)] 54) = Wb at *
  generalize w2.heap.size = eb at *
  have HB := Lib.hid (And.intro hblk (And.intro hbw (And.intro hpb hsz)))
  clear hblk hbw hpb hsz H2 H1 HL HN
  have HNew : Hid (Calls Tryz.prog 70 #[.pointer (some ⟨b, 0, none⟩)] (Wb.alloc ob) fun e w' => ∃ g D d, e = .returned (.pointer (some ⟨g, 0, none⟩)) ∧ CurAt w' Wb.heap.size g k (k : Int) o (startS o) D d ∧ Below (Wb.alloc ob).heap.size (Wb.alloc ob) w' ∧ (∀ b, Cf g D b → (Wb.alloc ob).heap.size ≤ b)) := Lib.hid (new_c (HW.out.1.below (below_alloc _ _) (Nat.le_refl _) (Nat.le_refl _)) (Nat.le_refl _) (by simp))
  go_upto_region 9 with (go_at_call 70; refine HNew.out.mono ?_; rintro e w3 ⟨g, D, d, rfl, hc3, hb3, hg3⟩; have H3 := Lib.hid (And.intro hc3 (And.intro hb3 hg3)); clear hc3 hb3 hg3)
  have hb3 : Below Wb.heap.size Wb w3 := (below_alloc Wb ob).trans (H3.out.2.1.mono (by simp))
  have hblk3 := (hb3.block eb HB.out.2.2.2).trans HB.out.1
  obtain ⟨c0, c1, -, -⟩ := box_cells hblk3
  have HSk := Lib.hid (seek_c (c := dd) H3.out.1 (HW.out.1.2.2.2.2.below hb3 (Nat.le_refl _) (Nat.le_refl _)) (HB.out.2.2.1.below' hb3 (Nat.le_refl _)) (by
    have hm := List.mem_of_getElem? HX.out.2.2.2.1
    cases o with
    | none => cases hm
    | some t => exact ((HW.out.1.2.2.2.2 t rfl).1.each y hm).1) HW.out.1.2.1 HW.out.1.2.2.1)
  have HB3 := Lib.hid hb3
  clear hb3 hblk3 HNew
  go_upto_region 10 with (go_at_call 71; refine HSk.out.mono ?_; rintro e w4 ⟨rfl, S, D', d', hc4, hf4, hr4, ha4, hp4⟩; have H4 := Lib.hid (And.intro hc4 (And.intro hf4 (And.intro hr4 (And.intro ha4 hp4)))); clear hc4 hf4 hr4 ha4 hp4)
  have hT4 : Hid (∀ w5, Below Wb.heap.size Wb w5 → ∀ w', Below Wb.heap.size w5 w' → Tz w') := Lib.hid fun w5 h5 w' hb' => HX.out.2.1 w' (HB.out.2.1.trans ((h5.trans hb').mono HB.out.2.1.size))
  have HI : Hid (RngI Wb g k (k : Int) o ((Tr.entsO o).drop F) [] S D' d' (some ⟨Wb.heap.size, 0, none⟩) M w4) := Lib.hid (by
    obtain ⟨hc4, hf4, hr4, ha4, hp4⟩ := H4.out
    have hgd : ∀ b, Cf g D b → Wb.heap.size + 1 ≤ b := fun b hb => by have := H3.out.2.2 b hb; simpa using this
    have hs3 := HB3.out.size
    have hsa : Wb.heap.size < w3.heap.size := by have := H3.out.2.1.size; simp at this; omega
    refine ⟨hc4, ?_, ?_, fun b hb hc => ?_, HB3.out.trans (hf4.below hs3 fun b hb => by have := hgd b hb; omega)⟩
    · rw [List.nil_append]
      have hz : Tr.ZS (Tr.entsO o) := by
        cases o with
        | none => exact Tr.ZS.nil
        | some t => exact (HW.out.1.2.2.2.2 t rfl).1.zs
      exact (cut_at hz (Tr.bef_aft hc4.chain hc4.wf) HX.out.2.2.2.1 ha4 hp4).2
    · refine (HX.out.2.2.2.2.2.1 Wb _).block fun q hq => ?_
      simp only [Value.ownBlock, Option.some.injEq] at hq
      subst hq
      rw [hf4.block _ hsa (fun h => by have := hgd _ h; omega)]
      exact H3.out.2.1.block _ (by simp)
    · simp only [Option.map_some, Option.some.injEq] at hb
      subst hb
      rcases hr4 _ hc with h | h
      · have := hgd _ h; omega
      · omega)
  have hlen : Hid (((Tr.entsO o).drop F).length = N - F ∧ F + M ≤ N) := Lib.hid ⟨by rw [List.length_drop, HX.out.2.2.2.2.2.2], by rw [← HX.out.2.2.2.2.2.2]; exact HX.out.2.2.2.2.1⟩
  clear HSk H3 H4 HB3 c0 c1 hmk
  go_upto_region 11 with fail
  rw [hwr]
  clear hwr
  go_loopw [11, 50] (fun l i wr => ∃ (L1 : List Ent) (S : List (T × Nat)) (D : Option Addr) (d : Nat) (R : Option Addr) (c : Nat), l = .slice R L1.length c ∧ i = .int .i64 (L1.length : Int) ∧ L1.length ≤ M ∧ RngI Wb g k (k : Int) o ((Tr.entsO o).drop F) L1 S D d R c wr) (fun l _ _ => M - lenV l)
  case atStart => exact ⟨[], _, _, _, _, _, rfl, rfl, Nat.zero_le _, HI.out⟩
  case round =>
    obtain ⟨L1, S, D, d, R, c, rfl, rfl, hm, hI⟩ := hrel
    clear HI
    have hwl := congrArg List.length hI.whole
    rw [List.length_append, hlen.out.1] at hwl
    by_cases hlt : L1.length < M
    · have dl : decide ((L1.length : Int) < (M : Int)) = true := decide_eq_true (by omega)
      have dl' : decide (L1.length < M) = true := decide_eq_true hlt
      cases ha : Tr.aft S with
      | nil =>
        rw [ha] at hwl
        simp only [List.length_nil] at hwl
        have := hlen.out.2
        omega
      | cons y' L =>
        have hyb : y'.1.length ≤ maxLen ∧ y'.2 < 18446744073709551616 := by
          have hmem : y' ∈ Tr.entsO o := List.mem_of_mem_drop (i := F) (by rw [← hI.whole, ha]; simp)
          cases o with
          | none => cases hmem
          | some t =>
            have hw := (HW.out.1.2.2.2.2 t rfl).1
            have h1 := hw.each y' hmem
            have h16 := hw.k16
            exact ⟨by unfold maxLen; omega, h1.2.2.1⟩
        have hlen8 : L1.length ≤ 100000000 := by omega
        have HNx := Lib.hid (next_any hI.cur (hT4.out _ hI.bel) (some y') (by rw [ha]; rfl) true rfl)
        have HI := Lib.hid (And.intro hI (And.intro hlt ha))
        have HY := Lib.hid hyb
        clear hI hm hlt ha hyb hwl
        go_upto_region 13 with (go_at_call 72; refine HNx.out.mono ?_; rintro e w7 ⟨P', n', dd', v', rfl, S', D', d', hc7, hf7, hr7, ht7, hb7, ha7⟩; have HI8 := Lib.hid (HI.out.1.next hc7 hf7 hr7 ht7 (by rw [HI.out.2.2]; rfl) ha7); clear hc7 hf7 hr7 ht7 hb7 ha7)
        have hI8 := HI8.out
        clear HI8 HNx
        obtain ⟨W8, hW8⟩ : ∃ W, W = w7.alloc (.cells #[.slice P' n' dd', .int .u64 (v' : Int)] 54) := ⟨_, rfl⟩
        rw [← hW8] at hI8 ⊢
        clear hW8
        obtain ⟨Pn, nn, hblk, hpts⟩ := hI8.ent
        obtain ⟨c0, c1, -, -⟩ := box_cells hblk
        have HE := Lib.hid (And.intro hI8 (And.intro hblk hpts))
        have hbs := hI8.bel.size
        clear hI8 hblk hpts
        go_wp2_with (at_builtin; refine wpList_append_list (Q := EntG W8 (Fr Wb.heap.size R g D')) 30 54 (.agg #[.slice none 0 0, .int .u64 0]) 32 Tryz.underlying30 infoE2 (by rfl) (by omega) (by omega) (entG_ok _ _) (by rfl) _ _ (by rfl) Wb.heap.size (.slice R L1.length c) L1 [y'] (L1.length + 1) (by simp) (by rfl) (by exact HE.out.1.row.below (below_alloc _ _) (Nat.le_refl _)) _ _ 1 1 (by rfl) (by rfl) (by exact lst_at (entG_ok _ _) #[.slice Pn y'.1.length nn, .int .u64 (y'.2 : Int)] y' (by rfl) (by exact ⟨Pn, nn, rfl, rfl, HE.out.2.2, HY.out.1, HY.out.2⟩)) (by omega) (by simp; omega) ?_; intro D5 d5 w5 hown5 hgrow5 hat5; have HM := Lib.hid (RngA.app HE.out.1 HE.out.2.1 hown5 (by simp) hgrow5 hat5); clear hown5 hgrow5 hat5)
        go_roundw
        case rel =>
          have hl := HI.out.2.1
          exact ⟨L1 ++ [y'], S', D', _, D5, d5, by simp, by simp, by simp; omega, HM.out.rng⟩
        case measure =>
          have hl := HI.out.2.1
          simp [lenV]
          omega
    · have hlm : L1.length = M := by omega
      have dl : decide ((L1.length : Int) < (M : Int)) = false := decide_eq_false (by omega)
      have dl' : decide (L1.length < M) = false := decide_eq_false hlt
      have hpre : ((Tr.entsO o).drop F).take M = L1 := by rw [← hI.whole, ← hlm]; simp
      have HI := Lib.hid (And.intro hI hpre)
      clear hI hpre hwl hlt hm hlm
      go_wp2_with fail
      go_ret2
      rw [HI.out.2]
      exact ⟨R, c, rfl, HI.out.1.newE.mono HB.out.2.1.size, HB.out.2.1.trans (HI.out.1.bel.mono HB.out.2.1.size)⟩
theorem kRange_c {w : World} {b k : Nat} {o : Option T} (ht : TreeX w b k o) (hT : ∀ w', Below w.heap.size w w' → Tz w') (hN : (Tr.entsO o).length ≤ 100000000) (from' to : Int) {R : List Ent} (hR : rngE (Tr.entsO o) from' to = R) :
    Calls Tryz.prog 30 #[.pointer (some ⟨b, 0, none⟩), .int .i64 from', .int .i64 to] w fun e w' => ∃ A c, e = .returned (.tuple #[.slice A R.length c, .int .i64 0]) ∧ NewR w.heap.size w' A c R ∧ Below w.heap.size w w' := by
  subst hR
  by_cases h1 : ((Tr.entsO o).length : Int) ≤ from' ∨ (Tr.entsO o).length = 0
  · rw [rng_none (by omega)]
    refine (kRange_out ht hN from' to (by omega)).mono ?_
    rintro e w' ⟨rfl, hb⟩
    exact ⟨none, 0, rfl, ownL_none _ _ _, hb⟩
  · by_cases h2 : to ≤ from' ∨ to ≤ 0
    · rw [rng_none (by omega)]
      refine (kRange_no ht hT hN from' to (by omega) (by omega) h2).mono ?_
      rintro e w' ⟨rfl, hb⟩
      exact ⟨none, 0, rfl, ownL_none _ _ _, hb⟩
    · obtain ⟨F, hF⟩ : ∃ F : Nat, max from' 0 = (F : Int) := ⟨(max from' 0).toNat, by omega⟩
      obtain ⟨Tn, hTn⟩ : ∃ Tn : Nat, min to ((Tr.entsO o).length : Int) = (Tn : Int) := ⟨(min to ((Tr.entsO o).length : Int)).toNat, by omega⟩
      rw [rng_some (F := F) (M := Tn - F) hF (by omega)]
      exact kRange_go ht hT hN from' to hF hTn (by omega) (by omega)
end Go.Proofs.YtdpbcfjhljgicaaGreatDoor

/-
  THE CONTRACT of pantilelaw10.awake, and THE LAW RankNil.
-/
namespace Go.Proofs.YtdpbcfjhljgicaaGreatDoor
open Go.ChangeShapes Go.WideShapes Go.ChangeAt Go.RowKit
open Tr (T S4 Ent)

/-- how many of a list are ahead of a point -/
theorem front_len {L F1 F2 : List Ent} {p : List Nat} (he : L = F1 ++ F2) (ha : Ahead p F1) (hb : Past p F2) : F1.length = (L.filter fun e => decide (Tr.key e.1 < Tr.key p)).length := by
  subst he
  rw [List.filter_append, List.filter_eq_self.2 (fun e he => decide_eq_true (ha e he)), List.filter_eq_nil_iff.2 (fun e he => by have := hb e he; simp; omega), List.append_nil]
theorem ex10 : (exL.filter fun e => decide (Tr.key e.1 < Tr.key [7, 7])).length = 2 := by decide +kernel
set_option maxRecDepth 100000 in
set_option maxHeartbeats 1000000 in
theorem awake10_c (w : World) (hT : Tz w) : Calls Tryz.prog 27 #[] w fun e w' => e = .returned (.bool true) ∧ Below w.heap.size w w' := by
  have HT := Lib.hid hT
  clear hT
  go_enter Tryz.func27, Tryz.ntmps27
  go_wp2_with fail
  refine (tNew_c 2 w (by decide) (by decide)).mono ?_
  rintro e w1 ⟨rfl, ht1, hb1⟩
  have T1 := Lib.hid ht1
  have B1 := Lib.hid hb1
  clear ht1 hb1
  go_wp2_with fail
  refine (tPut_new (T1.out.below (below_alloc w1 _) (Nat.le_refl _)) (pts_two w1 7 3 (by decide) (by decide)) rfl (c := 2) 1 (by decide) (by simp [Tr.entsO]) (by decide +kernel)).mono ?_
  rintro e w2 ⟨n2, t2, rfl, ht2, he2, hb2⟩
  have T2 := Lib.hid ht2
  have E2 := Lib.hid he2
  have B2 := Lib.hid (Below.andThen B1.out (Below.andThen (below_alloc w1 _) hb2))
  clear ht2 he2 hb2 T1
  go_wp2_with fail
  refine (tPut_new (T2.out.below (below_alloc w2 _) (Nat.le_refl _)) (pts_two w2 0 8 (by decide) (by decide)) rfl (c := 2) 2 (by decide) (by rw [show Tr.entsO (some t2) = t2.ents from rfl, E2.out]; decide +kernel) (by rw [show Tr.entsO (some t2) = t2.ents from rfl, E2.out]; decide +kernel)).mono ?_
  rintro e w3 ⟨n3, t3, rfl, ht3, he3, hb3⟩
  have T3 := Lib.hid ht3
  have E3 := Lib.hid (he3.trans (by rw [show Tr.entsO (some t2) = t2.ents from rfl, E2.out]))
  have B3 := Lib.hid (Below.andThen B2.out (Below.andThen (below_alloc w2 _) hb3))
  clear ht3 he3 hb3 T2
  go_wp2_with fail
  refine (tPut_new (T3.out.below (below_alloc w3 _) (Nat.le_refl _)) (pts_two w3 4 0 (by decide) (by decide)) rfl (c := 2) 3 (by decide) (by rw [show Tr.entsO (some t3) = t3.ents from rfl, E3.out]; decide +kernel) (by rw [show Tr.entsO (some t3) = t3.ents from rfl, E3.out]; decide +kernel)).mono ?_
  rintro e w4 ⟨n4, t4, rfl, ht4, he4, hb4⟩
  have T4 := Lib.hid ht4
  have E4 : Hid (Tr.entsO (some t4) = exL) := Lib.hid (by rw [show Tr.entsO (some t4) = t4.ents from rfl, he4, show Tr.entsO (some t3) = t3.ents from rfl, E3.out]; exact exL_put)
  have B4 := Lib.hid (Below.andThen B3.out (Below.andThen (below_alloc w3 _) hb4))
  clear ht4 he4 hb4 T3
  go_wp2_with fail
  refine (kOf_c (c := 2) (T4.out.below (below_alloc w4 _) (Nat.le_refl _)).1 (Nat.le_refl _) (fun w' hb => ((HT.out.on B4.out).on (below_alloc w4 _)).on hb) (by rw [E4.out]; decide) (pts_two w4 7 7 (by decide) (by decide)) rfl).mono ?_
  rintro e w5 ⟨F1, F2, he, ha, hp, rfl, hb5⟩
  have hl : F1.length = 2 := (front_len he ha hp).trans (by rw [E4.out]; exact ex10)
  rw [hl]
  have B5 := Lib.hid (Below.andThen B4.out (Below.andThen (below_alloc w4 _) hb5))
  clear he ha hp hl hb5
  go_wp2_with fail
  go_ret
  exact ⟨rfl, B5.out⟩
theorem kPart_nil (A : Option Addr) (n c : Nat) (w : World) : Calls Tryz.prog 33 #[.pointer none, .slice A n c] w fun e w' => e = .returned (.tuple #[.pointer none, .pointer none, .int .i64 1]) ∧ w = w' := by
  go_enter Tryz.func33, Tryz.ntmps33
  go_wp2_with (go_at_call 63; refine (kRef_nil A n c w).mono ?_; rintro e w' ⟨rfl, rfl⟩)
  go_ret3
  exact ⟨rfl, rfl⟩
set_option maxRecDepth 100000 in
set_option maxHeartbeats 1000000 in
theorem rankNil_c {w : World} (hT : Tz w) (A : Option Addr) (n c : Nat) (a b : Int) :
    Calls Tryz.prog 10 #[.slice A n c, .int .i64 a, .int .i64 b] w fun e w' => e = .returned (.bool true) ∧ Below w.heap.size w w' := by
  have HT := Lib.hid hT
  clear hT
  by_cases h : 40 < n
  · have d1 : decide ((40 : Int) < (n : Int)) = true := decide_eq_true (by omega)
    have d1' : decide (40 < n) = true := decide_eq_true h
    clear h
    go_enter Tryz.func10, Tryz.ntmps10
    go_wp2_with (go_at_call 27; refine (awake10_c w HT.out).mono ?_; rintro e w1 ⟨rfl, hb1⟩)
    go_ret
    exact ⟨rfl, hb1⟩
  · have d1 : decide ((40 : Int) < (n : Int)) = false := decide_eq_false (by omega)
    have d1' : decide (40 < n) = false := decide_eq_false h
    clear h
    go_enter Tryz.func10, Tryz.ntmps10
    go_upto_region 7 with (first
      | (go_at_call 27; refine (awake10_c w HT.out).mono ?_; rintro e w1 ⟨rfl, hb1⟩)
      | (go_at_call 28; refine (kOf_nil A n c _).mono ?_; rintro e w' ⟨rfl, rfl⟩)
      | (go_at_call 29; refine (kNth_nil a _).mono ?_; rintro e w2 ⟨rfl, hb2⟩; have H2 := Lib.hid (Below.andThen hb1 hb2); clear hb1 hb2))
    have hx : (w2.alloc (.cells #[.slice none 0 0, .int .u64 0] 54)).heap[w2.heap.size]? = some (.cells #[.slice none 0 0, .int .u64 0] 54 (0, 0)) := heap_at w2 _ _ rfl
    obtain ⟨b0, b1, f0, f1⟩ := box_cells hx
    have H3 := Lib.hid (Below.andThen H2.out (below_alloc w2 (.cells #[.slice none 0 0, .int .u64 0] 54)))
    clear hx
    go_wp2_with (first
      | (go_at_call 30; refine (kRange_nil a b _).mono ?_; rintro e w' ⟨rfl, rfl⟩)
      | (go_at_call 33; refine (kPart_nil A n c _).mono ?_; rintro e w' ⟨rfl, rfl⟩))
    go_ret
    exact ⟨rfl, H3.out⟩
end Go.Proofs.YtdpbcfjhljgicaaGreatDoor
