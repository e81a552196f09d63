import Derived.Test.YtpgkfccfabnjdaaM9q
import Derived.Test.YtpgkfccfabnjdaaM93
import Derived.Test.YtpgkfccfabnjdaaM95
/-
  EDIT: rows of changes as they lie (RwG, RwRow, RwI); Clone of any point. Laid by wip/gen58.py.
-/
namespace Go.Proofs.Ytpgkfccfabnjdaa
open Go.ChangeShapes Go.WideShapes Go.ChangeAt Go.RowKit
open Tr (T S4 Ent Chg Raw)

def RwG (w : World) (G : Nat → Prop) (f : Nat → Option Value) (c : Raw) : Prop :=
  ∃ A n, f 0 = some (.slice A c.1.length n) ∧ f 1 = some (.bool c.2.1.1) ∧ f 2 = some (.bool c.2.2.1) ∧ f 3 = some (.int .u64 (c.2.1.2 : Int)) ∧ f 4 = some (.int .u64 (c.2.2.2 : Int)) ∧
    PtsG w G A c.1 ∧ c.1.length ≤ maxLen ∧ c.2.1.2 < 18446744073709551616 ∧ c.2.2.2 < 18446744073709551616
theorem rwG_ok (w : World) (G : Nat → Prop) : QOk 5 (RwG w G) where
  ext := by
    rintro f g a h ⟨A, c, h0, h1, h2, h3, h4, r⟩
    exact ⟨A, c, (h 0 (by omega)).symm.trans h0, (h 1 (by omega)).symm.trans h1, (h 2 (by omega)).symm.trans h2, (h 3 (by omega)).symm.trans h3, (h 4 (by omega)).symm.trans h4, r⟩
  has := by
    rintro f a ⟨A, c, h0, h1, h2, h3, h4, r⟩ j hj
    match j, hj with
    | 0, _ => exact ⟨_, h0, rfl⟩
    | 1, _ => exact ⟨_, h1, rfl⟩
    | 2, _ => exact ⟨_, h2, rfl⟩
    | 3, _ => exact ⟨_, h3, rfl⟩
    | 4, _ => exact ⟨_, h4, rfl⟩
theorem RwG.step {w w' : World} {G G' : Nat → Prop} (hs : w.heap.size ≤ w'.heap.size) (hk : ∀ b, b < w.heap.size → G b → w'.heap[b]? = w.heap[b]? ∧ G' b) : ∀ f e, RwG w G f e → RwG w' G' f e := by
  rintro f e ⟨A, c, h0, h1, h2, h3, h4, h5, r⟩
  exact ⟨A, c, h0, h1, h2, h3, h4, h5.step hs hk, r⟩
structure RwRow (w : World) (base : Nat) (D : Nat → Prop) (V : Option Addr) (c : Nat) (L : List Raw) : Prop where
  row : OwnL 43 5 (RwG w D) w base (.slice V L.length c) L
  dom : ∀ b, D b → base ≤ b ∧ b < w.heap.size ∧ V.map (·.block) ≠ some b
theorem RwRow.lt {w : World} {base : Nat} {D : Nat → Prop} {V : Option Addr} {c : Nat} {L : List Raw} (h : RwRow w base D V c L) : ∀ b, V.map (·.block) = some b → base ≤ b ∧ b < w.heap.size := fun b hb => h.row.lt b (by rw [own_block]; exact hb)
theorem RwRow.frame {w w' : World} {base : Nat} {D : Nat → Prop} {V : Option Addr} {c : Nat} {L : List Raw} (h : RwRow w base D V c L) (hs : w.heap.size ≤ w'.heap.size) (hb : ∀ b, (V.map (·.block) = some b ∨ D b) → w'.heap[b]? = w.heap[b]?) : RwRow w' base D V c L :=
  ⟨(h.row.block fun q hq => hb q (.inl (by rw [own_block] at hq; exact hq))).imp (RwG.step hs fun b _ hD => ⟨hb b (.inr hD), hD⟩), fun b hD => ⟨(h.dom b hD).1, Nat.lt_of_lt_of_le (h.dom b hD).2.1 hs, (h.dom b hD).2.2⟩⟩
theorem RwRow.below {w w' : World} {base : Nat} {D : Nat → Prop} {V : Option Addr} {c : Nat} {L : List Raw} (h : RwRow w base D V c L) (hb : Below w.heap.size w w') : RwRow w' base D V c L :=
  h.frame hb.size fun b hb' => hb.block b (by
    rcases hb' with e | e
    · exact (h.lt b e).2
    · exact (h.dom b e).2.1)
theorem RwRow.wide {w w' : World} {base : Nat} {D : Nat → Prop} {V : Option Addr} {c : Nat} {L : List Raw} (h : RwRow w base D V c L) (hB : base ≤ w.heap.size) (hb : Below w.heap.size w w') : RwRow w' base (fun b => D b ∨ (w.heap.size ≤ b ∧ b < w'.heap.size)) V c L := by
  refine ⟨OwnL.imp (h.below hb).row (RwG.step (Nat.le_refl _) fun b _ hD => ⟨rfl, .inl hD⟩), fun b hD => ?_⟩
  rcases hD with hD | hD
  · have := h.dom b hD
    exact ⟨this.1, Nat.lt_of_lt_of_le this.2.1 hb.size, this.2.2⟩
  · exact ⟨by omega, hD.2, fun e => by have := (h.lt b e).2; omega⟩
theorem RwRow.app {w w2 w5 : World} {base m : Nat} {D : Nat → Prop} {V V' : Option Addr} {c c' : Nat} {L : List Raw} {x : Raw} (h : RwRow w base D V c L) (_hB : base ≤ w.heap.size) (hb : Below w.heap.size w w2) (hm : (L ++ [x]).length = m)
    (hown : OwnL 43 5 (RwG w D) w5 base (.slice V' m c') (L ++ [x])) (hgr : w2.grownBy w5 (Value.slice V L.length c).ownBlock) (hat : (Value.slice V' m c').ownBlock = (Value.slice V L.length c).ownBlock ∨ (Value.slice V' m c').ownBlock = some w2.heap.size) :
    RwRow w5 base D V' c' (L ++ [x]) ∧ Foot (fun b => V.map (·.block) = some b) w w5 ∧ (V'.map (·.block) = V.map (·.block) ∨ ∃ q, V'.map (·.block) = some q ∧ w.heap.size ≤ q) := by
  subst hm
  rw [own_block, own_block] at hat
  rw [own_block] at hgr
  have s2 := hb.size
  have hk : ∀ b, b < w2.heap.size → V.map (·.block) ≠ some b → w5.heap[b]? = w2.heap[b]? := fun b hb' hn => hgr.block b hb' (fun e => hn e.symm)
  refine ⟨⟨hown.imp (RwG.step (Nat.le_trans s2 hgr.size) fun b hlt hD => ⟨(hk b (Nat.lt_of_lt_of_le hlt s2) (h.dom b hD).2.2).trans (hb.block b hlt), hD⟩), fun b hD => ?_⟩, ⟨hgr.os.trans hb.os, hgr.tape.trans hb.tape, hgr.output.trans hb.output, Nat.le_trans s2 hgr.size, fun b hlt hn => (hk b (by omega) hn).trans (hb.block b hlt)⟩, ?_⟩
  · have := h.dom b hD
    refine ⟨this.1, Nat.lt_of_lt_of_le this.2.1 (Nat.le_trans s2 hgr.size), ?_⟩
    rcases hat with e | e
    · rw [e]; exact this.2.2
    · rw [e]; intro e'; simp only [Option.some.injEq] at e'; omega
  · rcases hat with e | e
    · exact .inl e
    · exact .inr ⟨_, e, s2⟩
theorem rwG_own {w : World} {G : Nat → Prop} {base : Nat} {A : Option Addr} {c m : Nat} {L : List Raw} (h : OwnL 43 5 (RwG w G) w base (.slice A m c) L) : RwL w w.heap.size A L := by
  obtain ⟨A', c', hv, -, hl⟩ := OwnL.rd (rwG_ok _ _) h
  simp only [Value.slice.injEq] at hv
  obtain ⟨rfl, -, -⟩ := hv
  intro hn
  obtain ⟨b, off, hA, hbl, hc⟩ := hl hn
  refine ⟨b, off, hA, hbl, fun i c hi => ?_⟩
  obtain ⟨P, n, h0, h1, h2, h3, h4, h5, h6⟩ := hc i c hi
  exact ⟨P, n, h0, h1, h2, h3, h4, h5.pts, h6⟩
theorem RwRow.grow {w w2 w5 : World} {base n : Nat} {D : Nat → Prop} {V V' : Option Addr} {c c' : Nat} {L : List Raw} {x : Raw} (hgr : w2.grownBy w5 (Value.slice V n c).ownBlock) (hown : OwnL 43 5 (RwG w D) w5 base (.slice V' (n + 1) c') (L ++ [x])) (hat : (Value.slice V' (n + 1) c').ownBlock = (Value.slice V n c).ownBlock ∨ (Value.slice V' (n + 1) c').ownBlock = some w2.heap.size)
    (h : RwRow w base D V c L) (hn : L.length = n) (hB : base ≤ w.heap.size) (hb : Below w.heap.size w w2) :
    RwRow w5 base D V' c' (L ++ [x]) ∧ Foot (fun b => V.map (·.block) = some b) w w5 ∧ (V'.map (·.block) = V.map (·.block) ∨ ∃ q, V'.map (·.block) = some q ∧ w.heap.size ≤ q) := by
  subst hn
  exact h.app hB hb (by simp) hown hgr hat
theorem clone_any (us : List Nat) (A : Option Addr) (c B : Nat) (w : World) (hB : B ≤ w.heap.size) (hA : Pts w B A us) (hl : us.length ≤ 1000000) {m : Nat} (hm : us.length = m) :
    Calls Try.prog 19 #[.slice A m c] w fun e w' => ∃ A' d, e = .returned (.slice A' m d) ∧ PtsG w' (fun b => w.heap.size ≤ b ∧ b < w'.heap.size) A' us ∧ Below w.heap.size w w' := by
  by_cases hne : us = []
  · subst hne
    subst hm
    have hz : ∀ w', PtsG w' (fun b => w.heap.size ≤ b ∧ b < w'.heap.size) none [] := fun w' => ⟨hA.1, fun h => absurd rfl h⟩
    have hz' : ∀ w' x, PtsG w' (fun b => w.heap.size ≤ b ∧ b < w'.heap.size) x [] := fun w' x => ⟨hA.1, fun h => absurd rfl h⟩
    have Hz := Lib.hid hz'
    have Hh := Lib.hid (pts_rdV hA)
    have Ho := Lib.hid (ownV_nil 40 w)
    have hq : ∀ (w : World) (a : Option Addr) (n c n' c' : Nat), (binOp .eql 41 (.slice a n c) (.slice none n' c')).run Try.prog w = .ok (.bool a.isNone) w := fun w a n c n' c' => Lib.run_eql_slice_nil w _ _ a n c n' c' Try.underlying41
    clear hA hl hz hz'
    cases A with
    | none =>
      go_enter Try.func19, Try.ntmps19
      go_wp2_with fail
      go_ret
      exact ⟨none, 0, rfl, Hz.out _ _, Below.refl _ _⟩
    | some a =>
      go_enter Try.func19, Try.ntmps19
      go_wp2_with (at_builtin; refine wpList_append_vals 41 40 (Value.int .u64 0) 8 Try.underlying41 info_u64 rfl (by omega) rfl (.tmp 5) (.tmp 6) rfl w.heap.size _ [] (vals []) rfl Ho.out B _ _ c (vals_length []) rfl (Hh.out.below (below_alloc _ _) hB (Nat.le_refl _)) (vals_one []) (by rw [vals_length]; simp) (by simp) ?_; intro v2 w2 hown2 hgrow2 _)
      go_ret
      rw [List.nil_append] at hown2
      obtain ⟨A', c', hv, -, -⟩ := hown2.rd
      subst hv
      exact ⟨A', c', rfl, Hz.out _ _, ((Below.refl w.heap.size w).alloc (Nat.le_refl _) _).grown hgrow2 (by simp) (fun q hq => (Ho.out.lt q hq).1)⟩
  · subst hm
    refine (clone_pts us A c B w hB hA hne hl).mono ?_
    rintro e w' ⟨g, d, rfl, ho, hb⟩
    have hlt := ho.2.lt g (by rw [own_block]; rfl)
    exact ⟨_, d, rfl, ho.ptsG hlt, hb⟩
end Go.Proofs.Ytpgkfccfabnjdaa
