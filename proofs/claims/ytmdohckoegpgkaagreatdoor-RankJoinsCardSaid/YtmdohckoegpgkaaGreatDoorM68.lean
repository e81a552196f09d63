import Derived.Test.YtmdohckoegpgkaaGreatDoorM67
import Derived.Test.YtmdohckoegpgkaaGreatDoorM32
import Derived.Test.YtmdohckoegpgkaaGreatDoorM33
/-
  CONTRACTS of package rank, ninth part: Range. Laid by wip/gen41.py.
-/
namespace Go.Proofs.YtmdohckoegpgkaaGreatDoor
open Go.ChangeShapes Go.WideShapes Go.ChangeAt Go.RowKit
open Tr (T S4 Ent)

/-- a list of entries and its points, in new blocks -/
def NewR (base : Nat) (w : World) (A : Option Addr) (c : Nat) (L : List Ent) : Prop :=
  OwnL 47 2 (EntG w (fun b => base ≤ b ∧ A.map (·.block) ≠ some b)) w base (.slice A L.length c) L
theorem NewR.mono {base base' : Nat} {w : World} {A : Option Addr} {c : Nat} {L : List Ent} (h : NewR base w A c L) (hb : base' ≤ base) : NewR base' w A c L :=
  (OwnL.mono h hb).imp (EntG.step (Nat.le_refl _) fun _ _ hG => ⟨rfl, Nat.le_trans hb hG.1, hG.2⟩)
theorem NewR.ents {base : Nat} {w : World} {A : Option Addr} {c : Nat} {L : List Ent} (h : NewR base w A c L) : Ents w w.heap.size A L := by
  obtain ⟨A', c', hv, -, hl⟩ := OwnL.rd (entG_ok _ _) h
  simp only [Value.slice.injEq] at hv
  obtain ⟨rfl, -, -⟩ := hv
  intro hn
  obtain ⟨b, off, h1, h2, h3⟩ := hl hn
  refine ⟨b, off, h1, h2, fun i a ha => ?_⟩
  obtain ⟨A', c'', h4, h5, h6, h7⟩ := h3 i a ha
  exact ⟨A', c'', h4, h5, h6.pts, h7⟩
/-- A LIST THAT GROWS BY WHAT A CURSOR TELLS -/
structure RngA (w : World) (g k : Nat) (kk : Int) (o : Option T) (Lw : List Ent) (L1 : List Ent) (x : Option Ent) (S : List (T × Nat)) (D : Option Addr) (d : Nat) (R : Option Addr) (c : Nat) (eb : Nat) (wr : World) : Prop where
  cur : CurAt wr w.heap.size g k kk o S D d
  whole : L1 ++ (x.toList ++ Tr.aft S) = Lw
  stop : x = none → Tr.aft S = []
  row : OwnL 47 2 (EntG wr (Fr w.heap.size R g D)) wr w.heap.size (.slice R L1.length c) L1
  rg : ∀ b, R.map (·.block) = some b → ¬ Cf g D b ∧ b ≠ eb
  ent : CurE wr (Fr w.heap.size R g D) eb x
  ebn : ¬ Cf g D eb ∧ w.heap.size ≤ eb
  bel : Below w.heap.size w wr
/-- behind the append of a round -/
structure RngM (w : World) (g k : Nat) (kk : Int) (o : Option T) (Lw : List Ent) (L1 : List Ent) (S : List (T × Nat)) (D : Option Addr) (d : Nat) (R : Option Addr) (c : Nat) (eb : Nat) (P : Option Addr) (n nn v : Nat) (wr : World) : Prop where
  cur : CurAt wr w.heap.size g k kk o S D d
  whole : L1 ++ Tr.aft S = Lw
  row : OwnL 47 2 (EntG wr (Fr w.heap.size R g D)) wr w.heap.size (.slice R L1.length c) L1
  rg : ∀ b, R.map (·.block) = some b → ¬ Cf g D b
  blk : wr.heap[eb]? = some (.cells #[.slice P n nn, .int .u64 (v : Int)] 47 (0, 0))
  bel : Below w.heap.size w wr
theorem RngM.lt {w : World} {g k : Nat} {kk : Int} {o : Option T} {Lw : List Ent} {L1 : List Ent} {S : List (T × Nat)} {D : Option Addr} {d : Nat} {R : Option Addr} {c eb : Nat} {P : Option Addr} {n nn v : Nat} {wr : World} (h : RngM w g k kk o Lw L1 S D d R c eb P n nn v wr) : ∀ b, R.map (·.block) = some b → w.heap.size ≤ b ∧ b < wr.heap.size := fun b hb => h.row.lt b (by rw [own_block]; exact hb)
/-- A LIST THAT GROWS BY WHAT A CURSOR TELLS, between two rounds -/
structure RngI (w : World) (g k : Nat) (kk : Int) (o : Option T) (Lw : List Ent) (L1 : List Ent) (S : List (T × Nat)) (D : Option Addr) (d : Nat) (R : Option Addr) (c : Nat) (wr : World) : Prop where
  cur : CurAt wr w.heap.size g k kk o S D d
  whole : L1 ++ Tr.aft S = Lw
  row : OwnL 47 2 (EntG wr (Fr w.heap.size R g D)) wr w.heap.size (.slice R L1.length c) L1
  rg : ∀ b, R.map (·.block) = some b → ¬ Cf g D b
  bel : Below w.heap.size w wr
theorem RngI.next {w : World} {g k : Nat} {kk : Int} {o : Option T} {Lw : List Ent} {L1 : List Ent} {S : List (T × Nat)} {D : Option Addr} {d : Nat} {R : Option Addr} {c : Nat} {wr : World} (h : RngI w g k kk o Lw L1 S D d R c wr)
    {x : Option Ent} {S' : List (T × Nat)} {D' : Option Addr} {d' : Nat} {P' : Option Addr} {n' dd' v' : Nat} {w7 : World} (hc : CurAt w7 w.heap.size g k kk o S' D' d') (hf : Foot (Cf g D) wr w7) (hr : ∀ b, Cf g D' b → Cf g D b ∨ wr.heap.size ≤ b)
    (ht : Telt wr w7 g D' x P' n' dd' v') (hx : (Tr.aft S).head? = x) (ha : Tr.aft S' = (Tr.aft S).drop 1) :
    RngA w g k kk o Lw L1 x S' D' d' R c w7.heap.size (w7.alloc (.cells #[.slice P' n' dd', .int .u64 (v' : Int)] 47)) := by
  have hal := below_alloc w7 (.cells #[.slice P' n' dd', .int .u64 (v' : Int)] 47)
  have q7 := hf.size
  have qw := h.bel.size
  have hsz : (w7.alloc (.cells #[.slice P' n' dd', .int .u64 (v' : Int)] 47)).heap.size = w7.heap.size + 1 := by simp
  have hlt : ∀ b, R.map (·.block) = some b → w.heap.size ≤ b ∧ b < wr.heap.size := fun b hb => h.row.lt b (by rw [own_block]; exact hb)
  have h7 : Below w.heap.size wr w7 := hf.below qw fun b hb => (h.cur.mem.lt b hb).1
  have hold : ∀ b, b < wr.heap.size → ¬ Cf g D b → (w7.alloc (.cells #[.slice P' n' dd', .int .u64 (v' : Int)] 47)).heap[b]? = wr.heap[b]? := fun b hb hn => by
    rw [hal.block b (by omega), hf.block b hb hn]
  have hfr : ∀ b, b < wr.heap.size → ¬ Cf g D b → ¬ Cf g D' b := fun b hb hn hc => by
    rcases hr b hc with hb' | hb'
    · exact hn hb'
    · omega
  refine ⟨hc.below hal, ?_, fun e => ?_, ?_, fun b hb => ?_, ?_, ⟨fun hb => ?_, by omega⟩, h.bel.trans (h7.trans (hal.mono (by omega)))⟩
  · rw [← h.whole, ha, ← hx]
    cases Tr.aft S <;> rfl
  · rw [ha]
    cases hS : Tr.aft S with
    | nil => rfl
    | cons a l => rw [hS, e] at hx; cases hx
  · refine (h.row.block fun q hq => ?_).imp (EntG.step (by omega) fun b hb hG => ⟨hold b hb hG.2.1, hG.1, hfr b hb hG.2.1, hG.2.2⟩)
    rw [own_block] at hq
    exact hold q (hlt q hq).2 (h.rg q hq)
  · exact ⟨hfr b (hlt b hb).2 (h.rg b hb), by have := (hlt b hb).2; omega⟩
  · cases x with
    | none =>
      obtain ⟨rfl, rfl, rfl, rfl⟩ := ht
      exact heap_at w7 _ _ rfl
    | some y =>
      obtain ⟨rfl, rfl, hh, rfl, ho, hn⟩ := ht
      have hh1 := (ho.2.lt hh rfl).1
      refine ⟨_, _, heap_at w7 _ _ rfl, (Own.ptsG (G := Fr w.heap.size R g D') ho ⟨fun e => ?_, hn, by omega⟩).step hal.size (fun b hb hG => ⟨hal.block b hb, hG⟩)⟩
      have := (hlt hh e).2; omega
  · have := (hc.mem.lt _ hb).2; omega
/-- a list in z-order, cut at one of its entries -/
theorem cut_at {L X Y : List Ent} (hz : Tr.ZS L) (he : X ++ Y = L) {F : Nat} {y : Ent} (hy : L[F]? = some y) (hX : Ahead y.1 X) (hY : Past y.1 Y) : X = L.take F ∧ Y = L.drop F := by
  have hlen : X.length = F := by
    subst he
    rcases Nat.lt_trichotomy F X.length with h | h | h
    · rw [List.getElem?_append_left h] at hy
      have := hX y (List.mem_of_getElem? hy)
      omega
    · exact h.symm
    · rw [List.getElem?_append_right (by omega)] at hy
      obtain ⟨hl, hg⟩ := List.getElem?_eq_some_iff.1 hy
      have hz2 := (List.pairwise_append.1 hz).2.1
      have h0 : 0 < Y.length := by omega
      have h1 := List.pairwise_iff_getElem.1 hz2 0 (F - X.length) h0 hl (by omega)
      rw [hg] at h1
      have h2 := hY Y[0] (List.getElem_mem h0)
      omega
  subst he
  subst hlen
  simp
end Go.Proofs.YtmdohckoegpgkaaGreatDoor

/-
  THE CONTRACT of pantilelaw10.awake, and THE LAW RankNil.
-/
namespace Go.Proofs.YtmdohckoegpgkaaGreatDoor
open Go.ChangeShapes Go.WideShapes Go.ChangeAt Go.RowKit
open Tr (T S4 Ent)

/-- how many of a list are ahead of a point -/
theorem front_len {L F1 F2 : List Ent} {p : List Nat} (he : L = F1 ++ F2) (ha : Ahead p F1) (hb : Past p F2) : F1.length = (L.filter fun e => decide (Tr.key e.1 < Tr.key p)).length := by
  subst he
  rw [List.filter_append, List.filter_eq_self.2 (fun e he => decide_eq_true (ha e he)), List.filter_eq_nil_iff.2 (fun e he => by have := hb e he; simp; omega), List.append_nil]
theorem ex10 : (exL.filter fun e => decide (Tr.key e.1 < Tr.key [7, 7])).length = 2 := by decide +kernel
set_option maxRecDepth 100000 in
set_option maxHeartbeats 1000000 in
theorem awake10_c (w : World) (hT : Tz w) : Calls Tryz.prog 18 #[] w fun e w' => e = .returned (.bool true) ∧ Below w.heap.size w w' := by
  have HT := Lib.hid hT
  clear hT
  go_enter Tryz.func18, Tryz.ntmps18
  go_wp2_with fail
  refine (tNew_c 2 w (by decide) (by decide)).mono ?_
  rintro e w1 ⟨rfl, ht1, hb1⟩
  have T1 := Lib.hid ht1
  have B1 := Lib.hid hb1
  clear ht1 hb1
  go_wp2_with fail
  refine (tPut_new (T1.out.below (below_alloc w1 _) (Nat.le_refl _)) (pts_two w1 7 3 (by decide) (by decide)) rfl (c := 2) 1 (by decide) (by simp [Tr.entsO]) (by decide +kernel)).mono ?_
  rintro e w2 ⟨n2, t2, rfl, ht2, he2, hb2⟩
  have T2 := Lib.hid ht2
  have E2 := Lib.hid he2
  have B2 := Lib.hid (Below.andThen B1.out (Below.andThen (below_alloc w1 _) hb2))
  clear ht2 he2 hb2 T1
  go_wp2_with fail
  refine (tPut_new (T2.out.below (below_alloc w2 _) (Nat.le_refl _)) (pts_two w2 0 8 (by decide) (by decide)) rfl (c := 2) 2 (by decide) (by rw [show Tr.entsO (some t2) = t2.ents from rfl, E2.out]; decide +kernel) (by rw [show Tr.entsO (some t2) = t2.ents from rfl, E2.out]; decide +kernel)).mono ?_
  rintro e w3 ⟨n3, t3, rfl, ht3, he3, hb3⟩
  have T3 := Lib.hid ht3
  have E3 := Lib.hid (he3.trans (by rw [show Tr.entsO (some t2) = t2.ents from rfl, E2.out]))
  have B3 := Lib.hid (Below.andThen B2.out (Below.andThen (below_alloc w2 _) hb3))
  clear ht3 he3 hb3 T2
  go_wp2_with fail
  refine (tPut_new (T3.out.below (below_alloc w3 _) (Nat.le_refl _)) (pts_two w3 4 0 (by decide) (by decide)) rfl (c := 2) 3 (by decide) (by rw [show Tr.entsO (some t3) = t3.ents from rfl, E3.out]; decide +kernel) (by rw [show Tr.entsO (some t3) = t3.ents from rfl, E3.out]; decide +kernel)).mono ?_
  rintro e w4 ⟨n4, t4, rfl, ht4, he4, hb4⟩
  have T4 := Lib.hid ht4
  have E4 : Hid (Tr.entsO (some t4) = exL) := Lib.hid (by rw [show Tr.entsO (some t4) = t4.ents from rfl, he4, show Tr.entsO (some t3) = t3.ents from rfl, E3.out]; exact exL_put)
  have B4 := Lib.hid (Below.andThen B3.out (Below.andThen (below_alloc w3 _) hb4))
  clear ht4 he4 hb4 T3
  go_wp2_with fail
  refine (kOf_c (c := 2) (T4.out.below (below_alloc w4 _) (Nat.le_refl _)).1 (Nat.le_refl _) (fun w' hb => ((HT.out.on B4.out).on (below_alloc w4 _)).on hb) (by rw [E4.out]; decide) (pts_two w4 7 7 (by decide) (by decide)) rfl).mono ?_
  rintro e w5 ⟨F1, F2, he, ha, hp, rfl, hb5⟩
  have hl : F1.length = 2 := (front_len he ha hp).trans (by rw [E4.out]; exact ex10)
  rw [hl]
  have B5 := Lib.hid (Below.andThen B4.out (Below.andThen (below_alloc w4 _) hb5))
  clear he ha hp hl hb5
  go_wp2_with fail
  go_ret
  exact ⟨rfl, B5.out⟩
end Go.Proofs.YtmdohckoegpgkaaGreatDoor
