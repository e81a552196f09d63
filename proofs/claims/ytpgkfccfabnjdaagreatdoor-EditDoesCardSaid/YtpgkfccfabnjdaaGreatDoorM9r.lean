import Derived.Test.YtpgkfccfabnjdaaGreatDoorM9q
import Derived.Test.YtpgkfccfabnjdaaGreatDoorM93
import Derived.Test.YtpgkfccfabnjdaaGreatDoorM95
/-
  EDIT: rows of changes as they lie (RwG, RwRow, RwI); Clone of any point. Laid by wip/gen58.py.
-/
namespace Go.Proofs.YtpgkfccfabnjdaaGreatDoor
open Go.ChangeShapes Go.WideShapes Go.ChangeAt Go.RowKit
open Tr (T S4 Ent Chg Raw)

def RwG (w : World) (G : Nat → Prop) (f : Nat → Option Value) (c : Raw) : Prop :=
  ∃ A n, f 0 = some (.slice A c.1.length n) ∧ f 1 = some (.bool c.2.1.1) ∧ f 2 = some (.bool c.2.2.1) ∧ f 3 = some (.int .u64 (c.2.1.2 : Int)) ∧ f 4 = some (.int .u64 (c.2.2.2 : Int)) ∧
    PtsG w G A c.1 ∧ c.1.length ≤ maxLen ∧ c.2.1.2 < 18446744073709551616 ∧ c.2.2.2 < 18446744073709551616
theorem rwG_ok (w : World) (G : Nat → Prop) : QOk 5 (RwG w G) where
  ext := by
    rintro f g a h ⟨A, c, h0, h1, h2, h3, h4, r⟩
    exact ⟨A, c, (h 0 (by omega)).symm.trans h0, (h 1 (by omega)).symm.trans h1, (h 2 (by omega)).symm.trans h2, (h 3 (by omega)).symm.trans h3, (h 4 (by omega)).symm.trans h4, r⟩
  has := by
    rintro f a ⟨A, c, h0, h1, h2, h3, h4, r⟩ j hj
    match j, hj with
    | 0, _ => exact ⟨_, h0, rfl⟩
    | 1, _ => exact ⟨_, h1, rfl⟩
    | 2, _ => exact ⟨_, h2, rfl⟩
    | 3, _ => exact ⟨_, h3, rfl⟩
    | 4, _ => exact ⟨_, h4, rfl⟩
theorem RwG.step {w w' : World} {G G' : Nat → Prop} (hs : w.heap.size ≤ w'.heap.size) (hk : ∀ b, b < w.heap.size → G b → w'.heap[b]? = w.heap[b]? ∧ G' b) : ∀ f e, RwG w G f e → RwG w' G' f e := by
  rintro f e ⟨A, c, h0, h1, h2, h3, h4, h5, r⟩
  exact ⟨A, c, h0, h1, h2, h3, h4, h5.step hs hk, r⟩
structure RwRow (w : World) (base : Nat) (D : Nat → Prop) (V : Option Addr) (c : Nat) (L : List Raw) : Prop where
  row : OwnL 111 5 (RwG w D) w base (.slice V L.length c) L
  dom : ∀ b, D b → base ≤ b ∧ b < w.heap.size ∧ V.map (·.block) ≠ some b
theorem RwRow.lt {w : World} {base : Nat} {D : Nat → Prop} {V : Option Addr} {c : Nat} {L : List Raw} (h : RwRow w base D V c L) : ∀ b, V.map (·.block) = some b → base ≤ b ∧ b < w.heap.size := fun b hb => h.row.lt b (by rw [own_block]; exact hb)
theorem RwRow.frame {w w' : World} {base : Nat} {D : Nat → Prop} {V : Option Addr} {c : Nat} {L : List Raw} (h : RwRow w base D V c L) (hs : w.heap.size ≤ w'.heap.size) (hb : ∀ b, (V.map (·.block) = some b ∨ D b) → w'.heap[b]? = w.heap[b]?) : RwRow w' base D V c L :=
  ⟨(h.row.block fun q hq => hb q (.inl (by rw [own_block] at hq; exact hq))).imp (RwG.step hs fun b _ hD => ⟨hb b (.inr hD), hD⟩), fun b hD => ⟨(h.dom b hD).1, Nat.lt_of_lt_of_le (h.dom b hD).2.1 hs, (h.dom b hD).2.2⟩⟩
theorem RwRow.below {w w' : World} {base : Nat} {D : Nat → Prop} {V : Option Addr} {c : Nat} {L : List Raw} (h : RwRow w base D V c L) (hb : Below w.heap.size w w') : RwRow w' base D V c L :=
  h.frame hb.size fun b hb' => hb.block b (by
    rcases hb' with e | e
    · exact (h.lt b e).2
    · exact (h.dom b e).2.1)
theorem RwRow.wide {w w' : World} {base : Nat} {D : Nat → Prop} {V : Option Addr} {c : Nat} {L : List Raw} (h : RwRow w base D V c L) (hB : base ≤ w.heap.size) (hb : Below w.heap.size w w') : RwRow w' base (fun b => D b ∨ (w.heap.size ≤ b ∧ b < w'.heap.size)) V c L := by
  refine ⟨OwnL.imp (h.below hb).row (RwG.step (Nat.le_refl _) fun b _ hD => ⟨rfl, .inl hD⟩), fun b hD => ?_⟩
  rcases hD with hD | hD
  · have := h.dom b hD
    exact ⟨this.1, Nat.lt_of_lt_of_le this.2.1 hb.size, this.2.2⟩
  · exact ⟨by omega, hD.2, fun e => by have := (h.lt b e).2; omega⟩
theorem RwRow.app {w w2 w5 : World} {base m : Nat} {D : Nat → Prop} {V V' : Option Addr} {c c' : Nat} {L : List Raw} {x : Raw} (h : RwRow w base D V c L) (_hB : base ≤ w.heap.size) (hb : Below w.heap.size w w2) (hm : (L ++ [x]).length = m)
    (hown : OwnL 111 5 (RwG w D) w5 base (.slice V' m c') (L ++ [x])) (hgr : w2.grownBy w5 (Value.slice V L.length c).ownBlock) (hat : (Value.slice V' m c').ownBlock = (Value.slice V L.length c).ownBlock ∨ (Value.slice V' m c').ownBlock = some w2.heap.size) :
    RwRow w5 base D V' c' (L ++ [x]) ∧ Foot (fun b => V.map (·.block) = some b) w w5 ∧ (V'.map (·.block) = V.map (·.block) ∨ ∃ q, V'.map (·.block) = some q ∧ w.heap.size ≤ q) := by
  subst hm
  rw [own_block, own_block] at hat
  rw [own_block] at hgr
  have s2 := hb.size
  have hk : ∀ b, b < w2.heap.size → V.map (·.block) ≠ some b → w5.heap[b]? = w2.heap[b]? := fun b hb' hn => hgr.block b hb' (fun e => hn e.symm)
  refine ⟨⟨hown.imp (RwG.step (Nat.le_trans s2 hgr.size) fun b hlt hD => ⟨(hk b (Nat.lt_of_lt_of_le hlt s2) (h.dom b hD).2.2).trans (hb.block b hlt), hD⟩), fun b hD => ?_⟩, ⟨hgr.os.trans hb.os, hgr.tape.trans hb.tape, hgr.output.trans hb.output, Nat.le_trans s2 hgr.size, fun b hlt hn => (hk b (by omega) hn).trans (hb.block b hlt)⟩, ?_⟩
  · have := h.dom b hD
    refine ⟨this.1, Nat.lt_of_lt_of_le this.2.1 (Nat.le_trans s2 hgr.size), ?_⟩
    rcases hat with e | e
    · rw [e]; exact this.2.2
    · rw [e]; intro e'; simp only [Option.some.injEq] at e'; omega
  · rcases hat with e | e
    · exact .inl e
    · exact .inr ⟨_, e, s2⟩
structure RwI (w5 : World) (base : Nat) (D : Nat → Prop) (V0 : Option Addr) (n : Nat) (R : Option Addr) (c : Nat) (L : List Raw) (W : World) : Prop where
  row : RwRow W base D R c L
  foot : Foot (fun b => V0.map (·.block) = some b) w5 W
  at_ : R.map (·.block) = V0.map (·.block) ∨ ∃ q, R.map (·.block) = some q ∧ w5.heap.size ≤ q
  len : L.length = n
theorem RwI.step {w5 w2 w6 W : World} {base : Nat} {D : Nat → Prop} {V0 R R' : Option Addr} {n c c' : Nat} {L : List Raw} {x : Raw} (h : RwI w5 base D V0 n R c L W) (hB : base ≤ w5.heap.size) (hb : Below W.heap.size W w2)
    (hown : OwnL 111 5 (RwG W D) w6 base (.slice R' (n + 1) c') (L ++ [x])) (hgr : w2.grownBy w6 (Value.slice R n c).ownBlock) (hat : (Value.slice R' (n + 1) c').ownBlock = (Value.slice R n c).ownBlock ∨ (Value.slice R' (n + 1) c').ownBlock = some w2.heap.size) :
    RwI w5 base D V0 (n + 1) R' c' (L ++ [x]) w6 := by
  have hl := h.len
  subst hl
  obtain ⟨h1, h2, h3⟩ := h.row.app (Nat.le_trans hB h.foot.size) hb (by simp) hown hgr hat
  have hs := h.foot.size
  refine ⟨h1, h.foot.trans h2 fun b hb' => ?_, ?_, by simp⟩
  · rcases h.at_ with e | ⟨q, e, hq⟩
    · rw [e] at hb'; exact .inl hb'
    · rw [e] at hb'
      simp only [Option.some.injEq] at hb'
      subst hb'
      exact .inr hq
  · rcases h3 with e | ⟨q, e, hq⟩
    · rw [e]; exact h.at_
    · exact .inr ⟨q, e, Nat.le_trans hs hq⟩
theorem RwI.own {w5 W w2 : World} {base : Nat} {D : Nat → Prop} {V0 R : Option Addr} {n c : Nat} {L : List Raw} (h : RwI w5 base D V0 n R c L W) (hb : Below W.heap.size W w2) : OwnL 111 5 (RwG W D) w2 base (.slice R n c) L := by
  have hl := h.len
  subst hl
  exact h.row.row.below hb (Nat.le_refl _)
theorem rwG_own {w : World} {G : Nat → Prop} {base : Nat} {A : Option Addr} {c m : Nat} {L : List Raw} (h : OwnL 111 5 (RwG w G) w base (.slice A m c) L) : RwL w w.heap.size A L := by
  obtain ⟨A', c', hv, -, hl⟩ := OwnL.rd (rwG_ok _ _) h
  simp only [Value.slice.injEq] at hv
  obtain ⟨rfl, -, -⟩ := hv
  intro hn
  obtain ⟨b, off, hA, hbl, hc⟩ := hl hn
  refine ⟨b, off, hA, hbl, fun i c hi => ?_⟩
  obtain ⟨P, n, h0, h1, h2, h3, h4, h5, h6⟩ := hc i c hi
  exact ⟨P, n, h0, h1, h2, h3, h4, h5.pts, h6⟩
theorem RwRow.grow {w w2 w5 : World} {base n : Nat} {D : Nat → Prop} {V V' : Option Addr} {c c' : Nat} {L : List Raw} {x : Raw} (hgr : w2.grownBy w5 (Value.slice V n c).ownBlock) (hown : OwnL 111 5 (RwG w D) w5 base (.slice V' (n + 1) c') (L ++ [x])) (hat : (Value.slice V' (n + 1) c').ownBlock = (Value.slice V n c).ownBlock ∨ (Value.slice V' (n + 1) c').ownBlock = some w2.heap.size)
    (h : RwRow w base D V c L) (hn : L.length = n) (hB : base ≤ w.heap.size) (hb : Below w.heap.size w w2) :
    RwRow w5 base D V' c' (L ++ [x]) ∧ Foot (fun b => V.map (·.block) = some b) w w5 ∧ (V'.map (·.block) = V.map (·.block) ∨ ∃ q, V'.map (·.block) = some q ∧ w.heap.size ≤ q) := by
  subst hn
  exact h.app hB hb (by simp) hown hgr hat
theorem clone_any (us : List Nat) (A : Option Addr) (c B : Nat) (w : World) (hB : B ≤ w.heap.size) (hA : Pts w B A us) (hl : us.length ≤ 1000000) {m : Nat} (hm : us.length = m) :
    Calls Tryz.prog 74 #[.slice A m c] w fun e w' => ∃ A' d, e = .returned (.slice A' m d) ∧ PtsG w' (fun b => w.heap.size ≤ b ∧ b < w'.heap.size) A' us ∧ Below w.heap.size w w' := by
  by_cases hne : us = []
  · subst hne
    subst hm
    have hz : ∀ w', PtsG w' (fun b => w.heap.size ≤ b ∧ b < w'.heap.size) none [] := fun w' => ⟨hA.1, fun h => absurd rfl h⟩
    have hz' : ∀ w' x, PtsG w' (fun b => w.heap.size ≤ b ∧ b < w'.heap.size) x [] := fun w' x => ⟨hA.1, fun h => absurd rfl h⟩
    have Hz := Lib.hid hz'
    have Hh := Lib.hid (pts_rdV hA)
    have Ho := Lib.hid (ownV_nil 62 w)
    have hq : ∀ (w : World) (a : Option Addr) (n c n' c' : Nat), (binOp .eql 23 (.slice a n c) (.slice none n' c')).run Tryz.prog w = .ok (.bool a.isNone) w := fun w a n c n' c' => Lib.run_eql_slice_nil w _ _ a n c n' c' Tryz.underlying23
    clear hA hl hz hz'
    cases A with
    | none =>
      go_enter Tryz.func74, Tryz.ntmps74
      go_wp2_with fail
      go_ret
      exact ⟨none, 0, rfl, Hz.out _ _, Below.refl _ _⟩
    | some a =>
      go_enter Tryz.func74, Tryz.ntmps74
      go_wp2_with (at_builtin; refine wpList_append_vals 23 62 (Value.int .u64 0) 8 Tryz.underlying23 info_u64 rfl (by omega) rfl (.tmp 5) (.tmp 6) rfl w.heap.size _ [] (vals []) rfl Ho.out B _ _ c (vals_length []) rfl (Hh.out.below (below_alloc _ _) hB (Nat.le_refl _)) (vals_one []) (by rw [vals_length]; simp) (by simp) ?_; intro v2 w2 hown2 hgrow2 _)
      go_ret
      rw [List.nil_append] at hown2
      obtain ⟨A', c', hv, -, -⟩ := hown2.rd
      subst hv
      exact ⟨A', c', rfl, Hz.out _ _, ((Below.refl w.heap.size w).alloc (Nat.le_refl _) _).grown hgrow2 (by simp) (fun q hq => (Ho.out.lt q hq).1)⟩
  · subst hm
    refine (clone_pts us A c B w hB hA hne hl).mono ?_
    rintro e w' ⟨g, d, rfl, ho, hb⟩
    have hlt := ho.2.lt g (by rw [own_block]; rfl)
    exact ⟨_, d, rfl, ho.ptsG hlt, hb⟩
end Go.Proofs.YtpgkfccfabnjdaaGreatDoor

/-
  CONTRACTS of package edit, sixth part: Undo.
-/
namespace Go.Proofs.YtpgkfccfabnjdaaGreatDoor
open Go.ChangeShapes Go.WideShapes Go.ChangeAt Go.RowKit
open Tr (T S4 Ent Chg Raw)

set_option maxRecDepth 1000000 in
set_option maxHeartbeats 8000000 in
theorem ed_undo {w : World} {L : List Raw} {A : Option Addr} {c n : Nat} (h : RwL w w.heap.size A L) (hn : L.length = n) (hl : n ≤ 100000) (hp : ∀ r ∈ L, r.1.length ≤ 1000000) :
    Calls Tryz.prog 28 #[.slice A n c] w fun e w' => ∃ D d, e = .returned (.slice D n d) ∧ RwL w' w'.heap.size D (L.map Tr.swapR) ∧ Below w.heap.size w w' := by
  have HX := Lib.hid (And.intro h (And.intro hn (And.intro hl hp)))
  have hn9 : (n : Int) ≤ 100000 := by omega
  clear h hn hl hp
  go_enter Tryz.func28, Tryz.ntmps28
  go_wp2_with fail
  go_loopw [3, 8] (fun u v wr => ∃ (j : Nat) (D : Option Addr) (d : Nat) (Dm : Nat → Prop), u = .slice D j d ∧ v = .int .i64 (j : Int) ∧ j ≤ n ∧ RwRow wr w.heap.size Dm D d ((L.take j).map Tr.swapR) ∧ Below w.heap.size w wr) (fun _ v _ => n - (intOf v).toNat)
  case atStart => exact ⟨0, none, 0, fun _ => False, rfl, rfl, Nat.zero_le _, ⟨ownL_none _ _ _, fun b hb => hb.elim⟩, Below.refl _ _⟩
  case round =>
    obtain ⟨j, D, d, Dm, rfl, rfl, hj, hrow, hbr⟩ := hrel
    by_cases hlt : j < n
    · obtain ⟨y, hy⟩ := get_lt (us := L) (k := j) (by rw [HX.out.2.1]; exact hlt)
      obtain ⟨b, off, P, pc, hA, hb, e0, e1, e2, e3, e4, pp, pl, q1, q2⟩ := (HX.out.1.below hbr (Nat.le_refl _) (Nat.le_refl _)).at hy
      have hyl := HX.out.2.2.2 y (List.mem_of_getElem? hy)
      obtain ⟨s1, hs1⟩ : ∃ s, y.2.1.1 = s := ⟨_, rfl⟩
      obtain ⟨s2, hs2⟩ : ∃ s, y.2.2.1 = s := ⟨_, rfl⟩
      obtain ⟨v1, hv1⟩ : ∃ v, y.2.1.2 = v := ⟨_, rfl⟩
      obtain ⟨v2, hv2⟩ : ∃ v, y.2.2.2 = v := ⟨_, rfl⟩
      obtain ⟨m, hm⟩ : ∃ m, y.1.length = m := ⟨_, rfl⟩
      rw [hm] at e0
      rw [hs1] at e1
      rw [hs2] at e2
      rw [hv1] at e3
      rw [hv2] at e4
      have hlen : ((L.take j).map Tr.swapR).length = j := by rw [List.length_map, List.length_take, HX.out.2.1]; omega
      have hCl : ∀ w1, Below wr.heap.size wr w1 → Calls Tryz.prog 74 #[.slice P m pc] w1 fun e w' => ∃ A' d, e = .returned (.slice A' m d) ∧ PtsG w' (fun b => wr.heap.size ≤ b ∧ b < w'.heap.size) A' y.1 ∧ Below w1.heap.size w1 w' := fun w1 hb1 =>
        (clone_any y.1 P pc w.heap.size w1 (Nat.le_trans hbr.size hb1.size) (pp.below' hb1 hbr.size) hyl hm).mono fun e w' ⟨A', d, h1, h2, h3⟩ => ⟨A', d, h1, h2.step (Nat.le_refl _) (fun b _ hG => ⟨rfl, Nat.le_trans hb1.size hG.1, hG.2⟩), h3⟩
      have HCl := Lib.hid hCl
      subst hA
      have HE := Lib.hid (And.intro hy (And.intro hm (And.intro hs1 (And.intro hs2 (And.intro hv1 (And.intro hv2 (And.intro pl (And.intro q1 (And.intro q2 (And.intro hlt (And.intro hlen hbr.size)))))))))))
      have HR := Lib.hid (And.intro hrow hbr)
      have f1 : decide ((j : Int) < (n : Int)) = true := decide_eq_true (by omega)
      have f1' : decide (j < n) = true := decide_eq_true hlt
      have m1 : (0 : Int) ≤ (j : Int) := by omega
      have m2 : (j : Int) < (n : Int) := by omega
      have m3 : (j : Int) ≤ 100000 := by omega
      obtain ⟨W1, hW1⟩ : ∃ W1, W1 = wr.alloc (.cells #[.slice P m pc, .bool s1, .bool s2, .int .u64 (v1 : Int), .int .u64 (v2 : Int)] 111) := ⟨_, rfl⟩
      have hS1 : W1.heap[wr.heap.size]? = some (.cells #[.slice P m pc, .bool s1, .bool s2, .int .u64 (v1 : Int), .int .u64 (v2 : Int)] 111 (0, 0)) := by rw [hW1]; exact heap_at wr _ _ rfl
      have hb1 : Below wr.heap.size wr W1 := by rw [hW1]; exact below_alloc wr _
      have hgl : wr.heap.size < W1.heap.size := (Array.getElem?_eq_some_iff.1 hS1).1
      clear hy hm hs1 hs2 hv1 hv2 pl q1 q2 hlt hlen hrow hbr pp hyl hCl hb hj
      have a0 : ∀ w' : World, w'.heap[wr.heap.size]? = some (.cells #[.slice P m pc, .bool s1, .bool s2, .int .u64 (v1 : Int), .int .u64 (v2 : Int)] 111 (0, 0)) → w'.cell? ⟨wr.heap.size, 0, none⟩ = some (.slice P m pc) := fun w' h => by rw [cell_of_row w' _ _ _ _ (0, 0) h]; rfl
      have a1 : ∀ w' : World, w'.heap[wr.heap.size]? = some (.cells #[.slice P m pc, .bool s1, .bool s2, .int .u64 (v1 : Int), .int .u64 (v2 : Int)] 111 (0, 0)) → w'.cell? ⟨wr.heap.size, 1, none⟩ = some (.bool s1) := fun w' h => by rw [cell_of_row w' _ _ _ _ (0, 0) h]; rfl
      have a2 : ∀ w' : World, w'.heap[wr.heap.size]? = some (.cells #[.slice P m pc, .bool s1, .bool s2, .int .u64 (v1 : Int), .int .u64 (v2 : Int)] 111 (0, 0)) → w'.cell? ⟨wr.heap.size, 2, none⟩ = some (.bool s2) := fun w' h => by rw [cell_of_row w' _ _ _ _ (0, 0) h]; rfl
      have a3 : ∀ w' : World, w'.heap[wr.heap.size]? = some (.cells #[.slice P m pc, .bool s1, .bool s2, .int .u64 (v1 : Int), .int .u64 (v2 : Int)] 111 (0, 0)) → w'.cell? ⟨wr.heap.size, 3, none⟩ = some (.int .u64 (v1 : Int)) := fun w' h => by rw [cell_of_row w' _ _ _ _ (0, 0) h]; rfl
      have a4 : ∀ w' : World, w'.heap[wr.heap.size]? = some (.cells #[.slice P m pc, .bool s1, .bool s2, .int .u64 (v1 : Int), .int .u64 (v2 : Int)] 111 (0, 0)) → w'.cell? ⟨wr.heap.size, 4, none⟩ = some (.int .u64 (v2 : Int)) := fun w' h => by rw [cell_of_row w' _ _ _ _ (0, 0) h]; rfl
      have hbb := Below.refl W1.heap.size W1
      go_upto_region 5 with fail
      rw [← hW1]
      clear hW1 e0 e1 e2 e3 e4
      go_region_held3 (fun w' : World => w'.heap[wr.heap.size]? = some (.cells #[.slice P m pc, .bool s1, .bool s2, .int .u64 (v1 : Int), .int .u64 (v2 : Int)] 111 (0, 0))) (first | exact hS6 | exact ((show Below W1.heap.size W1 _ by ((repeat (first | refine Below.drew ?_ | (with_reducible refine below_drewN _ ?_) | refine Below.alloc ?_ (by first | omega | (simp; done) | (simp; omega)) _ | refine Below.setCell ?_ (by first | omega | (simp; done) | (simp; omega)) _)); first | exact Below.refl _ _ | assumption | exact below_drewN _ (Below.refl _ _) | exact below_drewN _ (below_drewN _ (Below.refl _ _)))).block _ hgl).trans hS1)
        ((first
          | (go_at_call 74; refine (HCl.out _ (hb1.trans ((show Below W1.heap.size W1 _ by ((repeat (first | refine Below.drew ?_ | (with_reducible refine below_drewN _ ?_) | refine Below.alloc ?_ (by first | omega | (simp; done) | (simp; omega)) _ | refine Below.setCell ?_ (by first | omega | (simp; done) | (simp; omega)) _)); first | exact Below.refl _ _ | assumption | exact below_drewN _ (Below.refl _ _) | exact below_drewN _ (below_drewN _ (Below.refl _ _)))).mono hb1.size))).mono ?_; rintro e wC ⟨P', d', rfl, hpg, hbC⟩; have hbD := Below.andThen (show Below W1.heap.size W1 _ by ((repeat (first | refine Below.drew ?_ | (with_reducible refine below_drewN _ ?_) | refine Below.alloc ?_ (by first | omega | (simp; done) | (simp; omega)) _ | refine Below.setCell ?_ (by first | omega | (simp; done) | (simp; omega)) _)); first | exact Below.refl _ _ | assumption | exact below_drewN _ (Below.refl _ _) | exact below_drewN _ (below_drewN _ (Below.refl _ _)))) hbC; have hszC := Below.size hbD; have HC := Lib.hid (And.intro hpg hbC); clear hpg hbC)
          | (refine step_append_list (Q := RwG wC fun b => Dm b ∨ (wr.heap.size ≤ b ∧ b < wC.heap.size)) 44 111 (.agg #[.slice none 0 0, .bool false, .bool false, .int .u64 0, .int .u64 0]) 48 Tryz.underlying44 infoChg (by rfl) (by omega) (by omega) (rwG_ok _ _) (by rfl) _ _ (by rfl) w.heap.size (.slice D j d) ((L.take j).map Tr.swapR) [Tr.swapR y] (j + 1) (by rw [HE.out.2.2.2.2.2.2.2.2.2.2.1]; rfl) (by rfl) (by have hh := (HR.out.1.wide HE.out.2.2.2.2.2.2.2.2.2.2.2 (hb1.trans (hbD.mono hb1.size))).row; rw [HE.out.2.2.2.2.2.2.2.2.2.2.1] at hh; exact hh.below (show Below wC.heap.size wC _ by ((repeat (first | refine Below.drew ?_ | (with_reducible refine below_drewN _ ?_) | refine Below.alloc ?_ (by first | omega | (simp; done) | (simp; omega)) _ | refine Below.setCell ?_ (by first | omega | (simp; done) | (simp; omega)) _)); first | exact Below.refl _ _ | assumption | exact below_drewN _ (Below.refl _ _) | exact below_drewN _ (below_drewN _ (Below.refl _ _)))) (Nat.le_refl _)) _ _ 1 1 (by rfl) (by rfl) (by exact lst_at (rwG_ok _ _) #[.slice P' m d', .bool s2, .bool s1, .int .u64 (v2 : Int), .int .u64 (v1 : Int)] (Tr.swapR y) (by rfl) (by exact ⟨P', d', by rw [← HE.out.2.1]; rfl, by rw [← HE.out.2.2.2.1]; rfl, by rw [← HE.out.2.2.1]; rfl, by rw [← HE.out.2.2.2.2.2.1]; rfl, by rw [← HE.out.2.2.2.2.1]; rfl, HC.out.1.step (Nat.le_refl _) (fun b _ hG => ⟨rfl, .inr hG⟩), HE.out.2.2.2.2.2.2.1, HE.out.2.2.2.2.2.2.2.2.1, HE.out.2.2.2.2.2.2.2.1⟩)) (by omega) (by have := HE.out.2.2.2.2.2.2.2.2.2.2.2; have := (hb1.trans (hbD.mono hb1.size)).size; simp; omega) ?_; intro D5 d5 w6 hown5 hgrow5 hat5; have hap := RwRow.grow hgrow5 hown5 hat5 (HR.out.1.wide HE.out.2.2.2.2.2.2.2.2.2.2.2 (hb1.trans (hbD.mono hb1.size))) HE.out.2.2.2.2.2.2.2.2.2.2.1 (Nat.le_trans HE.out.2.2.2.2.2.2.2.2.2.2.2 (hb1.trans (hbD.mono hb1.size)).size) (by ((repeat (first | refine Below.drew ?_ | (with_reducible refine below_drewN _ ?_) | refine Below.alloc ?_ (by first | omega | (simp; done) | (simp; omega)) _ | refine Below.setCell ?_ (by first | omega | (simp; done) | (simp; omega)) _)); first | exact Below.refl _ _ | assumption | exact below_drewN _ (Below.refl _ _) | exact below_drewN _ (below_drewN _ (Below.refl _ _)))); have hS6 := (hap.2.1.block wr.heap.size (Nat.lt_of_lt_of_le hgl hbD.size) (fun e => by have := (HR.out.1.lt _ e).2; omega)).trans ((hbD.block _ hgl).trans hS1); have HN := Lib.hid (And.intro hap.1 (And.intro hap.2.1 (hb1.trans (hbD.mono hb1.size)))); clear hown5 hgrow5 hat5 hap)))
      clear a0 a1 a2 a3 a4 hS6 hS1
      go_wp2_with fail
      go_roundw
      case rel =>
        have htk : (L.take (j + 1)).map Tr.swapR = (L.take j).map Tr.swapR ++ [Tr.swapR y] := by
          rw [List.take_add_one, HE.out.1]
          simp
        have hle := HE.out.2.2.2.2.2.2.2.2.2.2.2
        exact ⟨j + 1, D5, d5, _, rfl, by first | rfl | go_num, by have := HE.out.2.2.2.2.2.2.2.2.2.1; omega, by rw [htk]; exact HN.out.1, (HR.out.2.trans (HN.out.2.2.mono hle)).trans (HN.out.2.1.below (Nat.le_trans hle HN.out.2.2.size) (fun b hb => (HR.out.1.lt b hb).1))⟩
      case measure =>
        have := HE.out.2.2.2.2.2.2.2.2.2.1
        show n - ((j : Int) + 1).toNat < n - (j : Int).toNat
        omega
    · have hjn : n = j := by omega
      subst hjn
      have f1 : decide ((n : Int) < (n : Int)) = false := decide_eq_false (by omega)
      have f1' : decide (n < n) = false := decide_eq_false (by omega)
      rw [show L.take n = L by rw [← HX.out.2.1, List.take_length]] at hrow
      have hch : RwL wr wr.heap.size D (L.map Tr.swapR) := by
        have h := hrow.row
        exact rwG_own h
      have HR := Lib.hid (And.intro hch hbr)
      clear hrow hch hbr hlt hj
      go_wp2_with fail
      go_ret
      exact ⟨D, d, rfl, HR.out.1, HR.out.2⟩
end Go.Proofs.YtpgkfccfabnjdaaGreatDoor
