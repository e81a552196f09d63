import Derived.Test.YtpgkfccfabnjdaaM92
import Derived.Test.YtpgkfccfabnjdaaM30
import Derived.Test.YtpgkfccfabnjdaaM64
/-
  CONTRACTS of package diff, fifth part: rows of changes ('ChRow'), appendChanges.
-/
namespace Go.Proofs.Ytpgkfccfabnjdaa
open Go.ChangeShapes Go.WideShapes Go.ChangeAt Go.RowKit
open Tr (T S4 Ent Sd Fl Chg)

def ChG (w : World) (G : Nat → Prop) (f : Nat → Option Value) (c : Chg) : Prop :=
  ∃ A n, f 0 = some (.slice A c.1.length n) ∧ f 1 = some (.bool c.2.1.isSome) ∧ f 2 = some (.bool c.2.2.isSome) ∧ f 3 = some (.int .u64 ((c.2.1.getD 0 : Nat) : Int)) ∧ f 4 = some (.int .u64 ((c.2.2.getD 0 : Nat) : Int)) ∧
    PtsG w G A c.1 ∧ c.1.length ≤ maxLen ∧ c.2.1.getD 0 < 18446744073709551616 ∧ c.2.2.getD 0 < 18446744073709551616
theorem chG_ok (w : World) (G : Nat → Prop) : QOk 5 (ChG w G) where
  ext := by
    rintro f g a h ⟨A, c, h0, h1, h2, h3, h4, r⟩
    exact ⟨A, c, (h 0 (by omega)).symm.trans h0, (h 1 (by omega)).symm.trans h1, (h 2 (by omega)).symm.trans h2, (h 3 (by omega)).symm.trans h3, (h 4 (by omega)).symm.trans h4, r⟩
  has := by
    rintro f a ⟨A, c, h0, h1, h2, h3, h4, r⟩ j hj
    match j, hj with
    | 0, _ => exact ⟨_, h0, rfl⟩
    | 1, _ => exact ⟨_, h1, rfl⟩
    | 2, _ => exact ⟨_, h2, rfl⟩
    | 3, _ => exact ⟨_, h3, rfl⟩
    | 4, _ => exact ⟨_, h4, rfl⟩
theorem ChG.step {w w' : World} {G G' : Nat → Prop} (hs : w.heap.size ≤ w'.heap.size) (hk : ∀ b, b < w.heap.size → G b → w'.heap[b]? = w.heap[b]? ∧ G' b) : ∀ f e, ChG w G f e → ChG w' G' f e := by
  rintro f e ⟨A, c, h0, h1, h2, h3, h4, h5, r⟩
  exact ⟨A, c, h0, h1, h2, h3, h4, h5.step hs hk, r⟩
theorem infoChg : (Try.prog.info? 43).map (fun i => (i.zero, i.size, i.bytes)) = some (some (.agg #[.slice none 0 0, .bool false, .bool false, .int .u64 0, .int .u64 0]), 5, 48) := by kernel_rfl
structure ChRow (w : World) (base : Nat) (D : Nat → Prop) (V : Option Addr) (c : Nat) (L : List Chg) : Prop where
  row : OwnL 43 5 (ChG w D) w base (.slice V L.length c) L
  dom : ∀ b, D b → base ≤ b ∧ b < w.heap.size ∧ V.map (·.block) ≠ some b
theorem ChRow.lt {w : World} {base : Nat} {D : Nat → Prop} {V : Option Addr} {c : Nat} {L : List Chg} (h : ChRow w base D V c L) : ∀ b, V.map (·.block) = some b → base ≤ b ∧ b < w.heap.size := fun b hb => h.row.lt b (by rw [own_block]; exact hb)
theorem ChRow.frame {w w' : World} {base : Nat} {D : Nat → Prop} {V : Option Addr} {c : Nat} {L : List Chg} (h : ChRow w base D V c L) (hs : w.heap.size ≤ w'.heap.size) (hb : ∀ b, (V.map (·.block) = some b ∨ D b) → w'.heap[b]? = w.heap[b]?) : ChRow w' base D V c L :=
  ⟨(h.row.block fun q hq => hb q (.inl (by rw [own_block] at hq; exact hq))).imp (ChG.step hs fun b _ hD => ⟨hb b (.inr hD), hD⟩), fun b hD => ⟨(h.dom b hD).1, Nat.lt_of_lt_of_le (h.dom b hD).2.1 hs, (h.dom b hD).2.2⟩⟩
theorem ChRow.below {w w' : World} {base : Nat} {D : Nat → Prop} {V : Option Addr} {c : Nat} {L : List Chg} (h : ChRow w base D V c L) (hb : Below w.heap.size w w') : ChRow w' base D V c L :=
  h.frame hb.size fun b hb' => hb.block b (by
    rcases hb' with e | e
    · exact (h.lt b e).2
    · exact (h.dom b e).2.1)
theorem ChRow.wide {w w' : World} {base : Nat} {D : Nat → Prop} {V : Option Addr} {c : Nat} {L : List Chg} (h : ChRow w base D V c L) (hB : base ≤ w.heap.size) (hb : Below w.heap.size w w') : ChRow w' base (fun b => D b ∨ (w.heap.size ≤ b ∧ b < w'.heap.size)) V c L := by
  refine ⟨OwnL.imp (h.below hb).row (ChG.step (Nat.le_refl _) fun b _ hD => ⟨rfl, .inl hD⟩), fun b hD => ?_⟩
  rcases hD with hD | hD
  · have := h.dom b hD
    exact ⟨this.1, Nat.lt_of_lt_of_le this.2.1 hb.size, this.2.2⟩
  · exact ⟨by omega, hD.2, fun e => by have := (h.lt b e).2; omega⟩
theorem ChRow.app {w w2 w5 : World} {base m : Nat} {D : Nat → Prop} {V V' : Option Addr} {c c' : Nat} {L : List Chg} {x : Chg} (h : ChRow w base D V c L) (_hB : base ≤ w.heap.size) (hb : Below w.heap.size w w2) (hm : (L ++ [x]).length = m)
    (hown : OwnL 43 5 (ChG w D) w5 base (.slice V' m c') (L ++ [x])) (hgr : w2.grownBy w5 (Value.slice V L.length c).ownBlock) (hat : (Value.slice V' m c').ownBlock = (Value.slice V L.length c).ownBlock ∨ (Value.slice V' m c').ownBlock = some w2.heap.size) :
    ChRow w5 base D V' c' (L ++ [x]) ∧ Foot (fun b => V.map (·.block) = some b) w w5 ∧ (V'.map (·.block) = V.map (·.block) ∨ ∃ q, V'.map (·.block) = some q ∧ w.heap.size ≤ q) := by
  subst hm
  rw [own_block, own_block] at hat
  rw [own_block] at hgr
  have s2 := hb.size
  have hk : ∀ b, b < w2.heap.size → V.map (·.block) ≠ some b → w5.heap[b]? = w2.heap[b]? := fun b hb' hn => hgr.block b hb' (fun e => hn e.symm)
  refine ⟨⟨hown.imp (ChG.step (Nat.le_trans s2 hgr.size) fun b hlt hD => ⟨(hk b (Nat.lt_of_lt_of_le hlt s2) (h.dom b hD).2.2).trans (hb.block b hlt), hD⟩), fun b hD => ?_⟩, ⟨hgr.os.trans hb.os, hgr.tape.trans hb.tape, hgr.output.trans hb.output, Nat.le_trans s2 hgr.size, fun b hlt hn => (hk b (by omega) hn).trans (hb.block b hlt)⟩, ?_⟩
  · have := h.dom b hD
    refine ⟨this.1, Nat.lt_of_lt_of_le this.2.1 (Nat.le_trans s2 hgr.size), ?_⟩
    rcases hat with e | e
    · rw [e]; exact this.2.2
    · rw [e]; intro e'; simp only [Option.some.injEq] at e'; omega
  · rcases hat with e | e
    · exact .inl e
    · exact .inr ⟨_, e, s2⟩
structure ApI (w5 : World) (base : Nat) (D : Nat → Prop) (V0 : Option Addr) (n : Nat) (R : Option Addr) (c : Nat) (L : List Chg) (W : World) : Prop where
  row : ChRow W base D R c L
  foot : Foot (fun b => V0.map (·.block) = some b) w5 W
  at_ : R.map (·.block) = V0.map (·.block) ∨ ∃ q, R.map (·.block) = some q ∧ w5.heap.size ≤ q
  len : L.length = n
theorem ApI.step {w5 w2 w6 W : World} {base : Nat} {D : Nat → Prop} {V0 R R' : Option Addr} {n c c' : Nat} {L : List Chg} {x : Chg} (h : ApI w5 base D V0 n R c L W) (hB : base ≤ w5.heap.size) (hb : Below W.heap.size W w2)
    (hown : OwnL 43 5 (ChG W D) w6 base (.slice R' (n + 1) c') (L ++ [x])) (hgr : w2.grownBy w6 (Value.slice R n c).ownBlock) (hat : (Value.slice R' (n + 1) c').ownBlock = (Value.slice R n c).ownBlock ∨ (Value.slice R' (n + 1) c').ownBlock = some w2.heap.size) :
    ApI w5 base D V0 (n + 1) R' c' (L ++ [x]) w6 := by
  have hl := h.len
  subst hl
  obtain ⟨h1, h2, h3⟩ := h.row.app (Nat.le_trans hB h.foot.size) hb (by simp) hown hgr hat
  have hs := h.foot.size
  refine ⟨h1, h.foot.trans h2 fun b hb' => ?_, ?_, by simp⟩
  · rcases h.at_ with e | ⟨q, e, hq⟩
    · rw [e] at hb'; exact .inl hb'
    · rw [e] at hb'
      simp only [Option.some.injEq] at hb'
      subst hb'
      exact .inr hq
  · rcases h3 with e | ⟨q, e, hq⟩
    · rw [e]; exact h.at_
    · exact .inr ⟨q, e, Nat.le_trans hs hq⟩
theorem ApI.own {w5 W w2 : World} {base : Nat} {D : Nat → Prop} {V0 R : Option Addr} {n c : Nat} {L : List Chg} (h : ApI w5 base D V0 n R c L W) (hb : Below W.heap.size W w2) : OwnL 43 5 (ChG W D) w2 base (.slice R n c) L := by
  have hl := h.len
  subst hl
  exact h.row.row.below hb (Nat.le_refl _)
theorem map_take {α β : Type} (f : α → β) {X : List α} {j : Nat} {e : α} (h : X[j]? = some e) (L : List β) : L ++ (X.take (j + 1)).map f = L ++ (X.take j).map f ++ [f e] := by
  rw [List.take_add_one, h]
  simp
end Go.Proofs.Ytpgkfccfabnjdaa
