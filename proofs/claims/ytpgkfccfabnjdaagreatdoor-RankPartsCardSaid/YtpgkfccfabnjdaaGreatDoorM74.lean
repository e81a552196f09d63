import Derived.Test.YtpgkfccfabnjdaaGreatDoorM73
import Derived.Test.YtpgkfccfabnjdaaGreatDoorM64
/-
  A ROW OF POINTERS to nodes, all of whose spare cells hold none ('RowP'): what append makes of it.
-/
namespace Go.Proofs.YtpgkfccfabnjdaaGreatDoor
open Go.ChangeShapes Go.WideShapes Go.ChangeAt Go.RowKit
open Tr (T S4 Ent)

theorem infoPtr : (Tryz.prog.info? 75).map (fun i => (i.zero, i.size, i.bytes)) = some (some (.pointer none), 1, 8) := by kernel_rfl
def RowP (w : World) (base : Nat) (v : Value) (us : List T) : Prop :=
  (v = .slice none 0 0 ∧ us = []) ∨ ∃ g cap cur, v = .slice (some ⟨g, 0, none⟩) us.length cap ∧ base ≤ g ∧ w.heap[g]? = some (.cells cur 75 (0, 0)) ∧ us.length ≤ cap ∧ cap ≤ maxLen ∧ cur.size = cap ∧ cur.toList.take us.length = ptrV us ∧ ∀ c ∈ cur.toList.drop us.length, c = Value.pointer none
section
variable {w : World} {base : Nat} {v : Value} {us : List T}
theorem RowP.own (h : RowP w base v us) : OwnV 75 w base v (ptrV us) := by
  refine ⟨fun x hx => ?_, by simp, ?_⟩
  · simp only [ptrV, List.mem_map] at hx
    obtain ⟨u, -, rfl⟩ := hx
    rfl
  · rcases h with ⟨hv, hu⟩ | ⟨g, cap, cur, hv, hg, hh, h1, h2, h3, h4, -⟩
    · exact .inl ⟨hv, by simp [hu, ptrV]⟩
    · have hl : (ptrV us).length = us.length := by simp [ptrV]
      exact .inr ⟨g, cap, cur, by rw [hl]; exact hv, hg, hh, by omega, h2, by omega, by rw [hl, Nat.mul_one]; exact h4⟩
theorem RowP.ptr (h : RowP w base v us) {r : Nat} (hr : v.ownBlock = some r) : PtrBlk w r us := by
  intro i x hi
  rcases h with ⟨rfl, -⟩ | ⟨g, cap, cur, rfl, hg, hh, h1, h2, h3, h4, h5⟩
  · simp [Value.ownBlock] at hr
  · simp only [Value.ownBlock, Option.some.injEq] at hr
    subst hr
    rw [cell_of_row w g i cur _ (0, 0) hh] at hi
    have hm : cur.toList[i]? = some x := by simpa using hi
    rcases Nat.lt_or_ge i us.length with c | c
    · right; right
      have h6 : (cur.toList.take us.length)[i]? = some x := by rw [List.getElem?_take, if_pos c]; exact hm
      rw [h4] at h6
      have := List.mem_of_getElem? h6
      simp only [ptrV, List.mem_map] at this
      obtain ⟨u, hu, e⟩ := this
      exact ⟨u, hu, e.symm⟩
    · right; left
      refine h5 x (List.mem_of_getElem? (i := i - us.length) ?_)
      rw [List.getElem?_drop, show us.length + (i - us.length) = i by omega]
      exact hm
theorem zeroCells_none (n : Nat) : ∀ c ∈ (Builtin.zeroCells (Value.pointer none).cells n).toList, c = Value.pointer none := by
  intro c hc
  simp [Builtin.zeroCells, Value.cells] at hc
  obtain ⟨i, -, rfl⟩ := hc
  rw [Nat.mod_one]
  rfl
theorem run_append_rowP {t : T} (h : RowP w base v us) (ty : TypeId) (a : Addr) (c : Nat) (ha : w.cell? a = some (.pointer (some ⟨t.blk, 0, none⟩))) (hp : a.add 0 = a) (hl : us.length ≤ 1000000) (hbase : base ≤ w.heap.size) :
    ∃ v' w', (Builtin.append_ #[134, 134] ty #[v, .slice (some a) 1 c]).run Tryz.prog w = .ok v' w' ∧ RowP w' base v' (us ++ [t]) ∧ w.grownBy w' v.ownBlock ∧ (v'.ownBlock = v.ownBlock ∨ v'.ownBlock = some w.heap.size) := by
  obtain ⟨i0, hi0, hz0, hz1, hz2⟩ := info_parts infoPtr
  have hnews : ∀ j u, [Value.pointer (some ⟨t.blk, 0, none⟩)][j]? = some u → w.cell? (a.add j) = some u := fun j u hj => by
    cases j with
    | zero =>
      simp only [List.getElem?_cons_zero, Option.some.injEq] at hj
      rw [hp, ha, hj]
    | succ j => simp at hj
  have hpt : ptrV (us ++ [t]) = ptrV us ++ [Value.pointer (some ⟨t.blk, 0, none⟩)] := by simp [ptrV, ndV]
  have hpl : (ptrV us).length = us.length := by simp [ptrV]
  have grown : ∀ old, RowP (w.drew.alloc (.cells ((ptrV us).toArray ++ [Value.pointer (some ⟨t.blk, 0, none⟩)].toArray ++ Builtin.zeroCells (Value.pointer none).cells (grownCap w (us.length + 1) old 75 - (us.length + 1))) 75)) base (.slice (some ⟨w.heap.size, 0, none⟩) (us.length + 1) (grownCap w (us.length + 1) old 75)) (us ++ [t]) := by
    intro old
    have hge := grownCap_ge w (us.length + 1) old 75
    have hcm := grownCap_le_maxLen w (us.length + 1) old 75 (by unfold maxLen; omega)
    refine .inr ⟨w.heap.size, _, _, by simp, hbase, World.alloc_heap_new w.drew _, by simp; omega, hcm, ?_, ?_, ?_⟩
    · simp only [Array.size_append, List.size_toArray, size_zeroCells, hpl, List.length_singleton]
      have : (Value.pointer none).cells.size = 1 := rfl
      rw [this]
      omega
    · rw [hpt]
      simp only [Array.toList_append]
      rw [List.take_append_of_le_length (by simp [hpl])]
      exact List.take_of_length_le (by simp [hpl])
    · intro x hx
      simp only [Array.toList_append] at hx
      rw [List.drop_append_of_le_length (by simp [hpl]), List.drop_of_length_le (by simp [hpl]), List.nil_append] at hx
      exact zeroCells_none _ x hx
  rcases h with ⟨rfl, rfl⟩ | ⟨g, cap, cur, rfl, hg, hh, h1, h2, h3, h4, h5⟩
  · have hr := _root_.Go.run_append_nil (P := Tryz.prog) w 134 ty 75 i0 (Value.pointer none) Tryz.underlying134 hi0 hz0 a 1 c [Value.pointer (some ⟨t.blk, 0, none⟩)] (by simp [hz1]) hnews (by omega) (by omega) (by rw [hz2]; omega)
    have hgr := grown 0
    simp only [ptrV, List.map_nil, List.length_nil, Nat.zero_add, Array.empty_append] at hgr hr
    exact ⟨_, _, hr, hgr, ⟨rfl, rfl, rfl, by simp, fun k hk _ => Below.heap_alloc w.drew _ k hk⟩, .inr rfl⟩
  · by_cases hroom : us.length + 1 ≤ cap
    · have hr := run_append_room (P := Tryz.prog) w 134 ty 75 i0 Tryz.underlying134 hi0 g us.length cap cur hh a 1 c [Value.pointer (some ⟨t.blk, 0, none⟩)] (by simp [hz1]) hnews (fun u hu => by rw [List.mem_singleton] at hu; subst hu; rfl) hroom (by rw [hz1]; simp; omega)
      rw [hz1, Nat.mul_one, h4] at hr
      refine ⟨_, _, hr, .inr ⟨g, cap, _, by simp, hg, setRow_heap w g cur _ _ _ hh, by simp; omega, h2, ?_, ?_, ?_⟩, ⟨rfl, rfl, rfl, by simp, fun k _ hk => setRow_other w g k _ (fun e => hk (by simp [Value.ownBlock, e]))⟩, .inl rfl⟩
      · simp only [List.size_toArray, List.length_append, hpl, List.length_drop, Array.length_toList, List.length_singleton]
        omega
      · rw [hpt]
        rw [List.take_append_of_le_length (by simp [hpl])]
        exact List.take_of_length_le (by simp [hpl])
      · intro x hx
        rw [List.drop_append_of_le_length (by simp [hpl]), List.drop_of_length_le (by simp [hpl]), List.nil_append] at hx
        refine h5 x ?_
        simp only [List.length_singleton] at hx
        rw [← List.drop_drop] at hx
        exact List.mem_of_mem_drop hx
    · have hr := run_append_grow (P := Tryz.prog) w 134 ty 75 i0 (Value.pointer none) Tryz.underlying134 hi0 hz0 ⟨g, 0, none⟩ us.length cap (ptrV us) (by rw [hz1, hpl]; omega) (RowP.own (.inr ⟨g, cap, cur, rfl, hg, hh, h1, h2, h3, h4, h5⟩) |>.2.cells (by simp [Value.ownBlock])) a 1 c [Value.pointer (some ⟨t.blk, 0, none⟩)] (by simp [hz1]) hnews (by omega) (by omega) (growslice_fits (by omega) (by rw [hz2]; omega))
      exact ⟨_, _, hr, grown cap, ⟨rfl, rfl, rfl, by simp, fun k hk _ => Below.heap_alloc w.drew _ k hk⟩, .inr rfl⟩
theorem RowP.block {w' : World} (h : RowP w base v us) (hb : ∀ q, v.ownBlock = some q → w'.heap[q]? = w.heap[q]?) : RowP w' base v us := by
  rcases h with h | ⟨g, cap, cur, rfl, hg, hh, r⟩
  · exact .inl h
  · exact .inr ⟨g, cap, cur, rfl, hg, (hb g rfl).trans hh, r⟩
theorem RowP.lt (h : RowP w base v us) : ∀ q, v.ownBlock = some q → q < w.heap.size ∧ base ≤ q := by
  intro q hq
  rcases h with ⟨rfl, -⟩ | ⟨g, cap, cur, rfl, hg, hh, r⟩
  · simp [Value.ownBlock] at hq
  · simp only [Value.ownBlock, Option.some.injEq] at hq
    subst hq
    exact ⟨(Array.getElem?_eq_some_iff.1 hh).1, hg⟩
theorem RowP.slice (h : RowP w base v us) : ∃ D d, v = .slice D us.length d := by
  rcases h with ⟨rfl, rfl⟩ | ⟨g, cap, cur, rfl, -⟩
  · exact ⟨none, 0, rfl⟩
  · exact ⟨_, _, rfl⟩
theorem wpList_append_rowP {ops : Array Oper} {rest : List Oper} {o : Oper} {a : Act} {Q : Exit → Act → World → Prop} {t : T} {m : Nat} (hgd : o.guard = none) (s x : Operand) (ho : o.op = .call { callee := .builtin .append, args := #[s, x], argTypes := #[134, 134] }) (hs : a.eval s = v) (h : RowP w base v us) (hm : us.length + 1 = m)
    (ad : Addr) (c : Nat) (hx : a.eval x = .slice (some ad) 1 c) (ha : w.cell? ad = some (.pointer (some ⟨t.blk, 0, none⟩))) (hp : ad.add 0 = ad) (hl : us.length ≤ 1000000) (hbase : base ≤ w.heap.size)
    (hk : ∀ D d w', RowP w' base (.slice D m d) (us ++ [t]) → w.grownBy w' v.ownBlock → ((Value.slice D m d).ownBlock = v.ownBlock ∨ (Value.slice D m d).ownBlock = some w.heap.size) → wpList Tryz.prog ops Q rest (a.put o.dst (.slice D m d)) w') : wpList Tryz.prog ops Q (o :: rest) a w := by
  refine wpList_plain hgd fun K hK => ?_
  obtain ⟨v', w', hr, h1, h2, h3⟩ := run_append_rowP h o.type ad c ha hp hl hbase
  obtain ⟨D, d, rfl⟩ := h1.slice
  rw [List.length_append, List.length_singleton, hm] at h1 h3 hr
  unfold Oper.wp
  simp [execOp, ho, resolve, invoke, builtin, hs, hx, hr, Result.andThen]
  exact hK _ _ (hk D d w' h1 h2 h3)
end
end Go.Proofs.YtpgkfccfabnjdaaGreatDoor

/-
  CONTRACTS of package rank: what join keeps of the nodes above ('AbvM'); join$1.
-/
namespace Go.Proofs.YtpgkfccfabnjdaaGreatDoor
open Go.ChangeShapes Go.WideShapes Go.ChangeAt Go.RowKit
open Tr (T S4 Ent)

structure AbvM (w : World) (B g : Nat) (us : List T) (D : Option Addr) (d : Nat) : Prop where
  c : w.heap[g]? = some (.cells #[.slice D us.length d] 134 (0, 0))
  ge : B ≤ g
  row : RowP w B (.slice D us.length d) us
  ne : D.map (·.block) ≠ some g
def AbvF (g : Nat) (D : Option Addr) : Nat → Prop := fun b => b = g ∨ D.map (·.block) = some b
section
variable {w w' : World} {B g : Nat} {us : List T} {D : Option Addr} {d : Nat}
theorem AbvM.lt (h : AbvM w B g us D d) : ∀ b, AbvF g D b → b < w.heap.size ∧ B ≤ b := by
  rintro b (rfl | hb)
  · exact ⟨(Array.getElem?_eq_some_iff.1 h.c).1, h.ge⟩
  · exact h.row.lt b (by rw [own_block]; exact hb)
theorem AbvM.keep (h : AbvM w B g us D d) (hk : ∀ b, AbvF g D b → w'.heap[b]? = w.heap[b]?) : AbvM w' B g us D d :=
  ⟨(hk _ (.inl rfl)).trans h.c, h.ge, h.row.block fun q hq => hk q (.inr (by rw [own_block] at hq; exact hq)), h.ne⟩
theorem AbvM.below (h : AbvM w B g us D d) (hb : Below w.heap.size w w') : AbvM w' B g us D d := h.keep fun b hb' => hb.block b (h.lt b hb').1
end
set_option maxRecDepth 100000 in
set_option maxHeartbeats 4000000 in
theorem join1_c {w : World} {B g : Nat} {us : List T} {D : Option Addr} {d : Nat} (h : AbvM w B g us D d) (hus : us.length ≤ 1000) (hB : B ≤ w.heap.size) (t : T) :
    Calls Tryz.prog 130 #[.pointer (some ⟨t.blk, 0, none⟩), .pointer (some ⟨g, 0, none⟩)] w fun e w' => e = .returned (.tuple #[]) ∧
      ∃ D' d', AbvM w' B g (us ++ [t]) D' d' ∧ (∀ b, AbvF g D' b → AbvF g D b ∨ w.heap.size ≤ b) ∧ Foot (AbvF g D) w w' := by
  have c2 : w.cell? ⟨g, 0, none⟩ = some (.slice D us.length d) := by rw [cell_of_row w g _ _ _ (0, 0) h.c]; rfl
  have H := Lib.hid (And.intro h (And.intro hus hB))
  clear h hus hB
  go_enter Tryz.func130, Tryz.ntmps130
  go_wp2_with (at_builtin; refine wpList_append_rowP (base := B) (v := .slice D us.length d) (us := us) (t := t) (m := us.length + 1) (by rfl) _ _ (by rfl) (by rfl) (by exact H.out.1.row.block fun q hq => Below.heap_alloc w _ q (H.out.1.row.lt q hq).1) (by rfl) _ _ (by rfl) (by rw [World.cell?_alloc_new]; rfl) (by rfl) (by have := H.out.2.1; omega) (by have := H.out.2.2; simp; omega) ?_; intro D5 d5 w5 hrow5 hgrow5 hat5; have hg5 : w5.heap[g]? = some (.cells #[.slice D us.length d] 134 (0, 0)) := (hgrow5.block g (by have := (H.out.1.lt g (.inl rfl)).1; simp; omega) (fun e => H.out.1.ne (by rw [own_block] at e; exact e.symm))).trans ((Below.heap_alloc _ _ _ (H.out.1.lt g (.inl rfl)).1).trans H.out.1.c); have fz5 := frozen_of_row w5 g 0 _ _ hg5; have cz5 : w5.cell? ⟨g, 0, none⟩ = some (.slice D us.length d) := by { rw [cell_of_row w5 g _ _ _ (0, 0) hg5]; rfl }; have HG := Lib.hid (And.intro hrow5 (And.intro hgrow5 (And.intro hat5 hg5))); clear hrow5 hgrow5 hat5 hg5)
  go_end0
  obtain ⟨hrow5, hgrow5, hat5, hg5⟩ := HG.out
  obtain ⟨h, hl, hB⟩ := H.out
  have hat : D5.map (·.block) = D.map (·.block) ∨ D5.map (·.block) = some w.heap.size ∨ D5.map (·.block) = some (w.heap.size + 1) := by
    rcases hat5 with e | e
    · rw [own_block, own_block] at e; exact .inl e
    · rw [own_block] at e; exact .inr (.inr (e.trans (by simp)))
  have hl1 := (h.lt g (.inl rfl)).1
  have hne1 : D5.map (·.block) ≠ some g := by
    rcases hat with e | e | e
    · rw [e]; exact h.ne
    · rw [e]; intro e'; simp only [Option.some.injEq] at e'; omega
    · rw [e]; intro e'; simp only [Option.some.injEq] at e'; omega
  have hfo : Foot (AbvF g D) w w5 := (Foot.of_below (F := AbvF g D) (below_alloc w _)).trans (Foot.grown (F := AbvF g D) hgrow5 (fun q hq => .inr (by rw [own_block] at hq; exact hq))) (fun b hb => .inl hb)
  refine ⟨rfl, D5, d5, ⟨by rw [List.length_append, List.length_singleton]; exact block_set hg5 _, h.ge, ?_, hne1⟩, fun b hb => ?_, hfo.trans (Foot.setCell w5 (F := AbvF g D) (a := ⟨g, 0, none⟩) (.inl rfl) _) (fun b hb => .inl hb)⟩
  · rw [List.length_append, List.length_singleton]
    exact hrow5.block fun q hq => Below.heap_setCell _ _ _ _ (fun e => hne1 (by rw [own_block] at hq; rw [hq, e]))
  · rcases hb with rfl | hb
    · exact .inl (.inl rfl)
    · rcases hat with e | e | e
      · rw [e] at hb; exact .inl (.inr hb)
      · rw [e] at hb; simp only [Option.some.injEq] at hb; exact .inr (by omega)
      · rw [e] at hb; simp only [Option.some.injEq] at hb; exact .inr (by omega)
end Go.Proofs.YtpgkfccfabnjdaaGreatDoor

/-
  CONTRACTS of package rank: seam.down.
-/
namespace Go.Proofs.YtpgkfccfabnjdaaGreatDoor
open Go.ChangeShapes Go.WideShapes Go.ChangeAt Go.RowKit
open Tr (T S4 Ent)

def Fits (k : Nat) (A : List Ent) : List T → List Ent → Prop
  | [], C => C = A
  | u :: us, C => C.length ≤ A.length ∧ u.ents.length ≤ A.length ∧ ∃ C', (∀ n, Tr.Wf k n → n.ents = C → Below1 u n ∧ ∀ g, Tr.Wf k (stepT g u n) ∧ (stepT g u n).ents = C') ∧ Fits k A us C'
structure Seam (k : Nat) (A : List Ent) (us : List T) (a b : T) : Prop where
  wa : Tr.Wf k a
  wb : Tr.Wf k b
  bef : Tr.Bef a.ents b.ents
  nest : Nested us
  below : ∀ u ∈ us, Below1 u a ∧ Below1 u b
  fits : Fits k A us.reverse (a.ents ++ b.ents)
  len : a.ents.length + b.ents.length ≤ A.length
  few : a.lv + us.length ≤ 64 ∧ b.lv + us.length ≤ 64
theorem Seam.step {k : Nat} {A : List Ent} {us : List T} {a b up s f : T} (h : Seam k A us a b) (m : Tr.Meets k a b up s f) : Seam k A (us ++ [up]) s f := by
  have hup : ∀ u ∈ us, Below1 u up := by
    intro u hu
    obtain ⟨h1, h2⟩ := h.below u hu
    rcases m.same with ⟨e1, e2⟩ | ⟨e1, e2⟩
    · exact ⟨by rw [e1]; exact h1.1, by rw [e2]; exact h1.2⟩
    · exact ⟨by rw [e1]; exact h2.1, by rw [e2]; exact h2.2⟩
  have tr : ∀ u ∈ us, ∀ x, Below1 up x → Below1 u x := fun u hu x hx => by
    have h1 := hup u hu
    exact ⟨Nat.lt_trans hx.1 h1.1, by rw [← Tr.cut_cut x.pre up.lv u.lv (Nat.le_of_lt h1.1), hx.2, h1.2]⟩
  refine ⟨m.ws, m.wf, m.bef, List.pairwise_append.2 ⟨h.nest, List.pairwise_singleton _ _, fun u hu v hv => by rw [List.mem_singleton.1 hv]; exact hup u hu⟩, fun u hu => ?_, ?_, Nat.le_trans m.len.1 h.len, ?_⟩
  · rcases List.mem_append.1 hu with hu | hu
    · exact ⟨tr u hu s m.us, tr u hu f m.uf⟩
    · rw [List.mem_singleton.1 hu]; exact ⟨m.us, m.uf⟩
  · rw [List.reverse_append]
    exact ⟨by rw [List.length_append]; exact Nat.le_trans m.len.1 h.len, Nat.le_trans m.len.2 h.len, _, m.fit, h.fits⟩
  · have h1 := m.us.1
    have h2 := m.uf.1
    have h3 := h.few
    rw [List.length_append, List.length_singleton]
    rcases m.same with ⟨e1, -⟩ | ⟨e1, -⟩ <;> omega
theorem node_abv {w w' : World} {B C k g : Nat} {us : List T} {D : Option Addr} {d : Nat} (h : AbvM w B g us D d) (hf : Foot (AbvF g D) w w') (hn : Nested us) (hus : ∀ u ∈ us, Node w w.heap.size k u) {t : T} (ht : Node w C k t) (hC : C ≤ w.heap.size) (hg : ∃ v ty, w'.heap[g]? = some (.cells #[v] ty (0, 0))) : Node w' C k t := by
  have ap := apart_nested hn hus ht
  -- first the variable, then the row
  have p1 : PtrBlk w g us := fun i v hi => by
    rw [cell_of_row w g i _ _ (0, 0) h.c] at hi
    cases i with
    | zero => simp at hi; exact .inl ⟨_, _, _, hi.symm⟩
    | succ i => simp at hi
  obtain ⟨W1, hW1⟩ : ∃ W1 : World, W1 = { w with heap := w.heap.setIfInBounds g (w'.heap.getD g (.deferred none)) } := ⟨_, rfl⟩
  have hgl : g < w.heap.size := (h.lt g (.inl rfl)).1
  have hg1 : W1.heap[g]? = w'.heap[g]? := by
    obtain ⟨v, ty, e⟩ := hg
    have hgl' : g < w'.heap.size := (Array.getElem?_eq_some_iff.1 e).1
    rw [hW1]
    simp [hgl, hgl']
  have ho1 : ∀ b, b ≠ g → W1.heap[b]? = w.heap[b]? := fun b hb => by
    rw [hW1]
    simp only [Array.getElem?_setIfInBounds]
    rw [if_neg (fun e => hb e.symm)]
  have n1 := node_off p1 ho1 ht ap
  cases hD : D.map (·.block) with
  | none =>
    refine (n1.below (C := w.heap.size) (w' := w') ⟨?_, ?_, ?_, ?_, ?_⟩ hC (Nat.le_refl _))
    · rw [hf.os, hW1]
    · rw [hf.tape, hW1]
    · rw [hf.output, hW1]
    · rw [hW1]; simp; exact hf.size
    · intro b hb
      by_cases e : b = g
      · rw [e]; exact hg1.symm
      · rw [ho1 b e]
        exact hf.block b hb (by rintro (c | c); exact e c; rw [hD] at c; cases c)
  | some r =>
    have hr : r ≠ g := fun e => h.ne (by rw [hD, e])
    have p2 : PtrBlk W1 r us := fun i v hi => by
      rw [World.cell?_of_block (w := w) (a := ⟨r, i, none⟩) (ho1 r hr)] at hi
      exact h.row.ptr (by rw [own_block]; exact hD) i v hi
    obtain ⟨W2, hW2⟩ : ∃ W2 : World, W2 = { W1 with heap := W1.heap.setIfInBounds r (w'.heap.getD r (.deferred none)) } := ⟨_, rfl⟩
    have hs1 : W1.heap.size = w.heap.size := by rw [hW1]; simp
    have hrl : r < w.heap.size := (h.lt r (.inr hD)).1
    have hr2 : W2.heap[r]? = w'.heap[r]? := by
      have := hf.size
      have hrl' : r < w'.heap.size := by omega
      rw [hW2]
      simp [hs1, hrl, hrl']
    have ho2 : ∀ b, b ≠ r → W2.heap[b]? = W1.heap[b]? := fun b hb => by
      rw [hW2]
      simp only [Array.getElem?_setIfInBounds]
      rw [if_neg (fun e => hb e.symm)]
    have n2 := node_off p2 ho2 n1 ap
    refine (n2.below (C := w.heap.size) (w' := w') ⟨?_, ?_, ?_, ?_, ?_⟩ hC (Nat.le_refl _))
    · rw [hf.os, hW2, hW1]
    · rw [hf.tape, hW2, hW1]
    · rw [hf.output, hW2, hW1]
    · rw [hW2, hW1]; simp; exact hf.size
    · intro b hb
      by_cases e : b = r
      · rw [e]; exact hr2.symm
      · rw [ho2 b e]
        by_cases e2 : b = g
        · rw [e2]; exact hg1.symm
        · rw [ho1 b e2]
          exact hf.block b hb (by rintro (c | c); exact e2 c; rw [hD] at c; exact e (Option.some.inj c).symm)
end Go.Proofs.YtpgkfccfabnjdaaGreatDoor

/-
  CONTRACTS of package rank: seam.down with join's closure.
-/
namespace Go.Proofs.YtpgkfccfabnjdaaGreatDoor
open Go.ChangeShapes Go.WideShapes Go.ChangeAt Go.RowKit
open Tr (T S4 Ent)

structure SeamI (w : World) (B k g : Nat) (A : List Ent) (us : List T) (a b : T) (D : Option Addr) (d : Nat) (W : World) : Prop where
  sm : Seam k A us a b
  na : Node W B k a
  nb : Node W B k b
  nu : ∀ u ∈ us, Node W W.heap.size k u
  abv : AbvM W B g us D d
  bel : Below B w W
theorem SeamI.next {w : World} {B k g : Nat} {A : List Ent} {us : List T} {a b : T} {D : Option Addr} {d : Nat} {W W' : World} (h : SeamI w B k g A us a b D d W) (hb : Below W.heap.size W W') (hB : B ≤ W.heap.size) : SeamI w B k g A us a b D d W' :=
  ⟨h.sm, h.na.below hb hB (Nat.le_refl _), h.nb.below hb hB (Nat.le_refl _), fun u hu => (h.nu u hu).below hb (Nat.le_refl _) hb.size, h.abv.below hb, h.bel.trans (hb.mono hB)⟩
theorem seam_next {w : World} {B k g : Nat} {A : List Ent} {us : List T} {a b up s f : T} {D D' : Option Addr} {d d' : Nat} {W W' : World} (h : SeamI w B k g A us a b D d W) (hup : Node W W.heap.size k up) (hs : Node W B k s) (hf : Node W B k f) (hm : Tr.Meets k a b up s f) (hB : B ≤ W.heap.size)
    (ha : AbvM W' B g (us ++ [up]) D' d') (hfo : Foot (AbvF g D) W W') : SeamI w B k g A (us ++ [up]) s f D' d' W' := by
  have hg := ha.c
  have hsz := hfo.size
  refine ⟨h.sm.step hm, node_abv h.abv hfo h.sm.nest h.nu hs hB ⟨_, _, hg⟩, node_abv h.abv hfo h.sm.nest h.nu hf hB ⟨_, _, hg⟩, fun u hu => ?_, ha, h.bel.trans (hfo.below hB fun b hb => (h.abv.lt b hb).2)⟩
  rcases List.mem_append.1 hu with hu | hu
  · have h1 := node_abv h.abv hfo h.sm.nest h.nu (h.nu u hu) (Nat.le_refl _) ⟨_, _, hg⟩
    exact h1.below (Below.refl _ _) hsz hsz
  · rw [List.mem_singleton.1 hu]
    have h1 := node_abv h.abv hfo h.sm.nest h.nu hup (Nat.le_refl _) ⟨_, _, hg⟩
    exact h1.below (Below.refl _ _) hsz hsz
set_option maxRecDepth 1000000 in
set_option maxHeartbeats 4000000 in
theorem seam_c {w : World} {B k g : Nat} {a b : T} {D : Option Addr} {d : Nat} (hB : B ≤ w.heap.size) (hT : ∀ w', Below B w w' → Tz w') (h : SeamI w B k g (a.ents ++ b.ents) [] a b D d w) (hN : a.ents.length + b.ents.length ≤ 200000000) :
    Calls Tryz.prog 131 #[.agg #[.func (.func 130) #[] #[.pointer (some ⟨g, 0, none⟩)]], .pointer (some ⟨a.blk, 0, none⟩), .pointer (some ⟨b.blk, 0, none⟩)] w fun e w' =>
      ∃ n us D' d', e = .returned (.pointer (some ⟨n.blk, 0, none⟩)) ∧ Node w' w'.heap.size k n ∧ (∀ u ∈ us, Node w' w'.heap.size k u) ∧ Nested us ∧ us.length ≤ 64 ∧ Fits k (a.ents ++ b.ents) us.reverse n.ents ∧ n.ents.length ≤ a.ents.length + b.ents.length ∧ AbvM w' B g us D' d' ∧ Below B w w' := by
  have hent : ∀ args w, (callFunc 130 args).run Tryz.prog w = .ok (.enter 130 args) w := enters_of Tryz.func130 (by kernel_rfl) rfl
  obtain ⟨A, hA⟩ : ∃ A, a.ents ++ b.ents = A := ⟨_, rfl⟩
  have hAl : A.length ≤ 200000000 := by rw [← hA, List.length_append]; exact hN
  rw [show a.ents.length + b.ents.length = A.length by rw [← hA, List.length_append]]
  rw [hA] at h ⊢
  have HX := Lib.hid (And.intro hB (And.intro hT hAl))
  have H0 := Lib.hid h
  clear hB hT h hN hA hAl
  go_enter Tryz.func131, Tryz.ntmps131
  have hgw : g < w.heap.size := (H0.out.abv.lt g (.inl rfl)).1
  have hal := below_alloc w (.cells #[.func (.func 130) #[] #[.pointer (some ⟨g, 0, none⟩)]] 192)
  have hI0 := H0.out.next hal HX.out.1
  have hx0 : (w.alloc (.cells #[.func (.func 130) #[] #[.pointer (some ⟨g, 0, none⟩)]] 192)).heap[w.heap.size]? = some (.cells #[.func (.func 130) #[] #[.pointer (some ⟨g, 0, none⟩)]] 192 (0, 0)) := heap_at w _ _ rfl
  have hD0 : D.map (·.block) ≠ some w.heap.size := fun e => by have := (H0.out.abv.lt _ (.inr e)).1; omega
  have HS := Lib.hid (And.intro hI0 (And.intro hx0 (And.intro hD0 (And.intro hgw (show w.heap.size < (w.alloc (.cells #[.func (.func 130) #[] #[.pointer (some ⟨g, 0, none⟩)]] 192)).heap.size by simp)))))
  clear hal hI0 hx0 hD0 hgw H0
  go_wp2_with fail
  refine wp_scope_count 0 (fun m a' W => ∃ (us : List T) (a1 b1 : T) (D1 : Option Addr) (d1 : Nat) (u4 u5 u7 u8 u9 u10 u11 u12 u13 u14 u15 u16 u17 u18 u19 u20 u21 u22 u23 u24 u25 : Value), a' = { tmps := #[.agg #[.func (.func 130) #[] #[.pointer (some ⟨g, 0, none⟩)]], .pointer (some ⟨a1.blk, 0, none⟩), .pointer (some ⟨b1.blk, 0, none⟩), .pointer (some ⟨w.heap.size, 0, none⟩), u4, u5, .pointer none, u7, u8, u9, u10, u11, u12, u13, u14, u15, u16, u17, u18, u19, u20, u21, u22, u23, u24, u25], defers := [] } ∧
      SeamI w B k g A us a1 b1 D1 d1 W ∧ W.heap[w.heap.size]? = some (.cells #[.func (.func 130) #[] #[.pointer (some ⟨g, 0, none⟩)]] 192 (0, 0)) ∧ D1.map (·.block) ≠ some w.heap.size ∧ m + us.length = 65) rfl ?first ?pass
  case first =>
    intro hp
    refine wp_seq (wp_label (hp 65 _ _ ⟨[], a, b, D, d, _, _, _, _, _, _, _, _, _, _, _, _, _, _, _, _, _, _, _, _, _, rfl, HS.out.1, HS.out.2.1, HS.out.2.2.1, rfl⟩))
  case pass =>
    rintro m a' W ⟨us, a1, b1, D1, d1, u4, u5, u7, u8, u9, u10, u11, u12, u13, u14, u15, u16, u17, u18, u19, u20, u21, u22, u23, u24, u25, rfl, hI, hbox, hD1, hm⟩
    have hBW : B ≤ W.heap.size := Nat.le_trans HX.out.1 hI.bel.size
    have hxl : w.heap.size < W.heap.size := (Array.getElem?_eq_some_iff.1 hbox).1
    have HOv := Lib.hid (kOver_c hI.na hI.nb hBW (fun w' hb => HX.out.2.1 w' (hI.bel.trans (hb.mono hBW))) hI.sm.bef (by have := hI.sm.len; have := HX.out.2.2; omega))
    have HI := Lib.hid (And.intro hI (And.intro hbox (And.intro hD1 (And.intro hm (And.intro hBW hxl)))))
    clear hI hbox hD1 hm hBW hxl
    go_wp2_with fail
    refine HOv.out.mono ?_
    rintro e w2 (⟨n, rfl, hn, hents, hb2⟩ | ⟨up, s, f, rfl, hup, hs, hf, hmt, hb2⟩)
    · have HN := Lib.hid (And.intro hn (And.intro hents hb2))
      clear hn hents hb2
      go_wp2_with fail
      simp only [Exit.jump]
      go_ret
      obtain ⟨hI, hbox, hD1, hm, hBW, hxl⟩ := HI.out
      obtain ⟨hn, hents, hb2⟩ := HN.out
      have hI2 := hI.next hb2 hBW
      exact ⟨n, us, D1, d1, rfl, hn, hI2.nu, hI2.sm.nest, by have := hI2.sm.few; omega, by rw [hents]; exact hI2.sm.fits, by rw [hents, List.length_append]; exact hI2.sm.len, hI2.abv, hI2.bel⟩
    · have hI2 := HI.out.1.next hb2 HI.out.2.2.2.2.1
      have hBW2 : B ≤ w2.heap.size := Nat.le_trans HI.out.2.2.2.2.1 hb2.size
      have hbox2 := (hb2.block _ HI.out.2.2.2.2.2).trans HI.out.2.1
      have q0 : w2.cell? ⟨w.heap.size, 0, none⟩ = some (.func (.func 130) #[] #[.pointer (some ⟨g, 0, none⟩)]) := by rw [cell_of_row w2 _ _ _ _ (0, 0) hbox2]; rfl
      have HF := Lib.hid (join1_c hI2.abv (by have := hI2.sm.few; omega) hBW2 up)
      have HN := Lib.hid (And.intro hI2 (And.intro hup (And.intro hs (And.intro hf (And.intro hmt (And.intro hBW2 (And.intro hbox2 hb2.size)))))))
      clear hI2 hup hs hf hmt hBW2 hbox2 hb2
      go_wp2_with fail
      refine HF.out.mono ?_
      rintro e w3 ⟨rfl, D', d', habv, hin, hfo⟩
      have HN3 := Lib.hid (And.intro habv (And.intro hin hfo))
      clear habv hin hfo q0
      go_wp2_with fail
      go_step3
      obtain ⟨hI, hbox, hD1, hm, hBW, hxl⟩ := HI.out
      obtain ⟨hI2, hup, hs, hf, hmt, hBW2, hbox2, hsz2⟩ := HN.out
      obtain ⟨habv, hin, hfo⟩ := HN3.out
      have hI3 := seam_next hI2 hup hs hf hmt hBW2 habv hfo
      have hl3 := hI3.sm.few
      rw [List.length_append, List.length_singleton] at hl3
      refine ⟨rfl, m - 1, by omega, us ++ [up], s, f, D', d', _, _, _, _, _, _, _, _, _, _, _, _, _, _, _, _, _, _, _, _, _, rfl, hI3, (hfo.block _ (by omega) ?_).trans hbox2, fun e => ?_, by rw [List.length_append, List.length_singleton]; omega⟩
      · rintro (c | c)
        · have := HS.out.2.2.2.1; omega
        · exact hD1 c
      · rcases hin _ (.inr e) with (c | c) | c
        · have := HS.out.2.2.2.1; omega
        · exact hD1 c
        · omega
end Go.Proofs.YtpgkfccfabnjdaaGreatDoor

/-
  CONTRACTS of package rank: join.
-/
namespace Go.Proofs.YtpgkfccfabnjdaaGreatDoor
open Go.RowKit Go.Shelf
open Tr (T S4 Ent)
attribute [local go_sem] Oper.semAt_some

structure JnJ (w2 : World) (k : Nat) (us : List T) (A0 : List Ent) (D : Option Addr) (d j : Nat) (W : World) : Prop where
  cur : ∃ t ty, W.heap[w2.heap.size]? = some (.cells #[.pointer (some ⟨t.blk, 0, none⟩)] ty (0, 0)) ∧ Node W W.heap.size k t ∧ Fits k A0 (us.reverse.drop j) t.ents
  box : W.cell? ⟨w2.heap.size + 1, 0, none⟩ = some (.slice D us.length d)
  dfr : W.heap[w2.heap.size + 2]? = some (.deferred (some []))
  bel : Below w2.heap.size w2 W
  size : w2.heap.size + 4 ≤ W.heap.size
section
variable {w2 W W' : World} {k : Nat} {us : List T} {A0 : List Ent} {D : Option Addr} {d j : Nat}
theorem JnJ.keep (h : JnJ w2 k us A0 D d j W) (hk : CellKeep W W') (hs : W.heap.size ≤ W'.heap.size) (hb : Below w2.heap.size W W') (h0 : W'.heap[w2.heap.size]? = W.heap[w2.heap.size]?) (h2 : W'.heap[w2.heap.size + 2]? = W.heap[w2.heap.size + 2]?) : JnJ w2 k us A0 D d j W' := by
  obtain ⟨t, ty, c1, c2, c3⟩ := h.cur
  exact ⟨⟨t, ty, h0.trans c1, c2.keepc hk hs, c3⟩, hk _ _ h.box, h2.trans h.dfr, h.bel.trans hb, Nat.le_trans h.size hs⟩
theorem JnJ.put (h : JnJ w2 k us A0 D d j W) {o o' : Obj} (hl : W.heap[w2.heap.size + 3]? = some o) (ho : o.isCells = false) : JnJ w2 k us A0 D d j (W.putObj (w2.heap.size + 3) o') :=
  h.keep (CellKeep.putObj hl ho) (by simp) (below_putObj W o' (by omega)) (World.putObj_heap_other (by omega)) (World.putObj_heap_other (by omega))
theorem jn_start {x : T} (hx : Node w2 w2.heap.size k x) (hf : Fits k A0 us.reverse x.ents) (r0 : Loop) :
    JnJ w2 k us A0 D d 0 (rangeWorld (havWorld w2 x D us.length d) r0) ∧ (rangeWorld (havWorld w2 x D us.length d) r0).heap[w2.heap.size + 3]? = some (.loop r0) := by
  have hbl : Below w2.heap.size w2 (rangeWorld (havWorld w2 x D us.length d) r0) := ((((Below.refl _ w2).alloc (Nat.le_refl _) _).alloc (by simp) _).alloc (by simp; omega) _).alloc (by simp; omega) _
  have g0 : (rangeWorld (havWorld w2 x D us.length d) r0).heap[w2.heap.size]? = some (.cells #[.pointer (some ⟨x.blk, 0, none⟩)] 75) := hav_old (hav_old (hav_old (hav_next rfl)))
  have g1 : (rangeWorld (havWorld w2 x D us.length d) r0).heap[w2.heap.size + 1]? = some (.cells #[.slice D us.length d] 134) := hav_old (hav_old (hav_next (by simp)))
  have g2 : (rangeWorld (havWorld w2 x D us.length d) r0).heap[w2.heap.size + 2]? = some (.deferred (some [])) := hav_old (hav_next (havWorld_size ..))
  have g3 : (rangeWorld (havWorld w2 x D us.length d) r0).heap[w2.heap.size + 3]? = some (.loop r0) := hav_next (by rw [World.size_alloc, havWorld_size])
  have hsz : w2.heap.size + 4 ≤ (rangeWorld (havWorld w2 x D us.length d) r0).heap.size := by have := (Array.getElem?_eq_some_iff.1 g3).1; omega
  exact ⟨⟨⟨x, _, g0, hx.below hbl (Nat.le_refl _) hbl.size, hf⟩, (hav_cell g1).1, g2, hbl, hsz⟩, g3⟩
theorem jn_step {W1 W3 : World} {t u : T} {g2 : Nat} {ty : TypeId} {R2 : Loop} {C' : List Ent} (hC : JnJ w2 k us A0 D d j W1) (hl : W1.heap[w2.heap.size + 3]? = some (.loop R2)) (hX : W1.heap[w2.heap.size]? = some (.cells #[.pointer (some ⟨t.blk, 0, none⟩)] ty (0, 0)))
    (hn2 : Node W3 W3.heap.size k (stepT g2 u t)) (he : (stepT g2 u t).ents = C') (hf : Fits k A0 (us.reverse.drop (j + 1)) C') (hb2 : Below W1.heap.size W1 W3) :
    (W3.setCell ⟨w2.heap.size, 0, none⟩ (.pointer (some ⟨g2, 0, none⟩))).heap[w2.heap.size + 3]? = some (.loop R2) ∧ JnJ w2 k us A0 D d (j + 1) (W3.setCell ⟨w2.heap.size, 0, none⟩ (.pointer (some ⟨g2, 0, none⟩))) := by
  have hsz := hC.size
  have hs2 := hb2.size
  have hlow : ∀ k, k ≠ w2.heap.size → (W3.setCell ⟨w2.heap.size, 0, none⟩ (.pointer (some ⟨g2, 0, none⟩))).heap[k]? = W3.heap[k]? := fun k hk => Below.heap_setCell _ _ _ k hk
  have hkc := CellKeep.of_below hb2
  have hset : ∀ p v, p.block ≠ w2.heap.size → W1.cell? p = some v → (W3.setCell ⟨w2.heap.size, 0, none⟩ (.pointer (some ⟨g2, 0, none⟩))).cell? p = some v := fun p v hp e => (World.cell?_of_block (hlow p.block hp)).trans (hkc p v e)
  have hB2 : Below w2.heap.size w2 (W3.setCell ⟨w2.heap.size, 0, none⟩ (.pointer (some ⟨g2, 0, none⟩))) := (hC.bel.trans (hb2.mono (by omega))).setCell (p := ⟨w2.heap.size, 0, none⟩) (Nat.le_refl _) _
  have hX2 : W3.heap[w2.heap.size]? = some (.cells #[.pointer (some ⟨t.blk, 0, none⟩)] ty (0, 0)) := (hb2.block _ (by omega)).trans hX
  have hX3 := heap_setCell_same W3 w2.heap.size 0 _ ty (.pointer (some ⟨g2, 0, none⟩)) hX2
  refine ⟨(hlow _ (by omega)).trans ((hb2.block _ (by omega)).trans hl), ⟨stepT g2 u t, ty, hX3, ?_, by rw [he]; exact hf⟩, hset _ _ (by show w2.heap.size + 1 ≠ _; omega) hC.box, (hlow _ (by omega)).trans ((hb2.block _ (by omega)).trans hC.dfr), hB2, by simp; omega⟩
  have := node_var (v := .pointer (some ⟨g2, 0, none⟩)) hX2 hn2
  rw [World.size_setCell]
  exact this
theorem fits_at {u t : T} (h : Fits k A0 (us.reverse.drop j) t.ents) (hu : us.reverse[j]? = some u) (wt : Tr.Wf k t) (wu : Tr.Wf k u) (hA : A0.length ≤ 200000000) : FitsT k u t ∧ ∃ C', (∀ g, (stepT g u t).ents = C') ∧ Fits k A0 (us.reverse.drop (j + 1)) C' := by
  obtain ⟨hj, he⟩ := List.getElem?_eq_some_iff.1 hu
  rw [List.drop_eq_getElem_cons hj, he] at h
  obtain ⟨l1, l2, C', h1, h2⟩ := h
  obtain ⟨hb, hs⟩ := h1 t wt rfl
  refine ⟨?_, C', fun g => (hs g).2, h2⟩
  cases u with
  | ent g p v => have := hb.1; simp [T.lv] at this
  | br g l pre ks =>
    have hp := Tr.below_part wu wt hb
    rw [Tr.ents_br] at l2
    exact ⟨g, l, pre, ks, rfl, wt, hp.1, hp.2, by omega⟩
end
theorem join_first (b : Option Addr) (w : World) : Calls Tryz.prog 67 #[.pointer none, .pointer b] w fun e w' => e = .returned (.pointer b) ∧ w = w' := by
  refine (callsIn_wide (n := 8)).1 ?_
  refine callsIn_of_wp_marks Tryz.func67 rfl trivial ?_ rfl
  simp only [Tryz.ntmps67, List.size_toArray, List.length_cons, List.length_nil, Nat.reduceAdd, Nat.reduceSub, Array.replicate_succ, Array.replicate_zero, List.push_toArray, List.append_toArray, List.nil_append, List.cons_append]
  gi_wp2
  exact ⟨.pointer b, by simp [results, Tryz.f67, go_sem], rfl, rfl⟩
theorem join_last (a : Addr) (w : World) : Calls Tryz.prog 67 #[.pointer (some a), .pointer none] w fun e w' => e = .returned (.pointer (some a)) ∧ w = w' := by
  refine (callsIn_wide (n := 8)).1 ?_
  refine callsIn_of_wp_marks Tryz.func67 rfl trivial ?_ rfl
  simp only [Tryz.ntmps67, List.size_toArray, List.length_cons, List.length_nil, Nat.reduceAdd, Nat.reduceSub, Array.replicate_succ, Array.replicate_zero, List.push_toArray, List.append_toArray, List.nil_append, List.cons_append]
  gi_wp2
  exact ⟨.pointer (some a), by simp [results, Tryz.f67, go_sem], rfl, rfl⟩
set_option maxRecDepth 1000000 in
set_option maxHeartbeats 4000000 in
theorem join_c {w : World} {B k : Nat} {a b : T} (ha : Node w B k a) (hb : Node w B k b) (hB : B ≤ w.heap.size) (hT : ∀ w', Below w.heap.size w w' → Tz w') (hz : Tr.Bef a.ents b.ents) (hN : a.ents.length + b.ents.length ≤ 200000000) :
    Calls Tryz.prog 67 #[.pointer (some ⟨a.blk, 0, none⟩), .pointer (some ⟨b.blk, 0, none⟩)] w fun e w' => ∃ n, e = .returned (.pointer (some ⟨n.blk, 0, none⟩)) ∧ Node w' w'.heap.size k n ∧ n.ents = a.ents ++ b.ents ∧ Below w.heap.size w w' := by
  refine (callsIn_wide (n := 8)).1 ?_
  refine callsIn_of_wp_marks Tryz.func67 rfl trivial ?_ rfl
  simp only [Tryz.ntmps67, List.size_toArray, List.length_cons, List.length_nil, Nat.reduceAdd, Nat.reduceSub, Array.replicate_succ, Array.replicate_zero, List.push_toArray, List.append_toArray, List.nil_append, List.cons_append]
  have HX := Lib.hid (And.intro ha (And.intro hb (And.intro hB (And.intro hT (And.intro hz hN)))))
  clear ha hb hB hT hz hN
  obtain ⟨W0, hW0⟩ : ∃ W0, W0 = w.alloc (.cells #[.slice none 0 0] 134) := ⟨_, rfl⟩
  have hb0 : Below w.heap.size w W0 := by rw [hW0]; exact below_alloc w _
  have hs0 : W0.heap.size = w.heap.size + 1 := by rw [hW0]; simp
  have HD : Hid _ := Lib.hid (seam_c (w := W0) (B := w.heap.size) (k := k) (g := w.heap.size) (a := a) (b := b) (D := none) (d := 0) (by omega) (fun w' h => HX.out.2.2.2.1 w' (hb0.trans h)) ⟨⟨HX.out.1.1, HX.out.2.1.1, HX.out.2.2.2.2.1, List.Pairwise.nil, fun u hu => (by cases hu), rfl, by rw [List.length_append]; exact Nat.le_refl _, by have := HX.out.1.1.lv64; have := HX.out.2.1.1.lv64; simp only [List.length_nil]; omega⟩,
    HX.out.1.below hb0 HX.out.2.2.1 HX.out.2.2.1, HX.out.2.1.below hb0 HX.out.2.2.1 HX.out.2.2.1, fun u hu => (by cases hu), ⟨by rw [hW0]; exact heap_at w _ _ rfl, Nat.le_refl _, .inl ⟨rfl, rfl⟩, by simp⟩, Below.refl _ _⟩ HX.out.2.2.2.2.2)
  rw [hW0] at HD
  gi_wp2_with (refine ⟨trivial, ?_⟩; first
    | ((with_reducible refine (callsIn_wide.2 HD.out).mono ?_); rintro e w2 ⟨n, us, D, d, rfl, hn, hnu, hne, hul, hfi, hle, habv, hb2⟩; have c2 : w2.cell? ⟨w.heap.size, 0, none⟩ = some (.slice D us.length d) := (by rw [cell_of_row w2 _ _ _ _ (0, 0) habv.c]; rfl); have c2' : ∀ o, (w2.alloc o).cell? ⟨w.heap.size, 0, none⟩ = some (.slice D us.length d) := fun o => (by rw [cell_of_row _ _ _ _ _ (0, 0) (hav_old (o := o) habv.c)]; rfl); have HN := Lib.hid (And.intro hn (And.intro hnu (And.intro hul (And.intro hfi (And.intro hle (And.intro habv hb2)))))); clear hn hnu hne hul hfi hle habv hb2)
    | ((with_reducible refine (callsIn_wide.2 (backward_c D us.length d _)).mono ?_); rintro e w' ⟨rfl, rfl⟩))
  clear hW0 hb0 hs0 W0
  have hW6 := havWorld_size w2 n D us.length d
  change Code.wpIn _ _ _ _ _ _ (havWorld w2 n D us.length d)
  generalize hW : havWorld w2 n D us.length d = W6 at *
  refine range_at rfl (by omega) (gf := 172) (lb := #[.pointer (some ⟨w2.heap.size + 1, 0, none⟩)]) rfl trivial (enters_of Tryz.func172 (by kernel_rfl) rfl) ?_
  intro fn _
  generalize hr : recOf fn _ _ _ _ _ = r0
  obtain ⟨hC, hrec⟩ := jn_start (D := D) (d := d) HN.out.1 HN.out.2.2.2.1 r0
  rw [hW] at hC hrec
  have hL : W6.heap.size + 1 = w2.heap.size + 3 := by rw [hW6]
  rw [hL]
  have hpl := ptrV_length us
  have hrow := HN.out.2.2.2.2.2.1.row.own
  obtain ⟨A', c', hv', hc', hrd⟩ := hrow.rd
  rw [hpl] at hv'
  simp only [Value.slice.injEq, true_and] at hv'
  obtain ⟨rfl, rfl⟩ := hv'
  refine (back1_in 7 (by omega) (w2.heap.size + 3) (w2.heap.size + 1) D d w2.heap.size (ptrV us) (by have := HN.out.2.2.1; omega) (fun j W => JnJ w2 k us (a.ents ++ b.ents) D d j W ∧ W.heap[w2.heap.size + 3]? = some (.loop r0)) ?cells ?round (rangeWorld W6 r0) ⟨hC, hrec⟩).mono ?post
  case cells => exact fun j W h => ⟨by rw [hpl]; exact h.1.box, hrd.below h.1.bel (Nat.le_refl _) (Nat.le_refl _)⟩
  case round =>
    intro j y W hJ hlt hy
    obtain ⟨hC, hrec⟩ := hJ
    obtain ⟨u, hu, rfl⟩ : ∃ u, us[us.length - 1 - j]? = some u ∧ y = .pointer (some ⟨u.blk, 0, none⟩) := by
      rw [hpl] at hy
      simp only [ptrV, List.getElem?_map, Option.map_eq_some_iff] at hy
      obtain ⟨u, h1, h2⟩ := hy
      exact ⟨u, h1, h2.symm⟩
    rw [hpl] at hlt ⊢
    have hrev : us.reverse[j]? = some u := by rw [List.getElem?_reverse hlt]; exact hu
    refine one_round (r := r0) (a1 := { tmps := #[.pointer (some ⟨a.blk, 0, none⟩), .pointer (some ⟨b.blk, 0, none⟩), undef, undef, .pointer none, .pointer (some ⟨w.heap.size, 0, none⟩), .pointer (some ⟨w2.heap.size, 0, none⟩), undef, .pointer (some ⟨u.blk, 0, none⟩), .pointer (some ⟨a.blk, 0, none⟩), .bool false, undef, .pointer (some ⟨b.blk, 0, none⟩), .bool false, undef, .func (.func 130) #[] #[.pointer (some ⟨w.heap.size, 0, none⟩)], .agg #[.func (.func 130) #[] #[.pointer (some ⟨w.heap.size, 0, none⟩)]], .pointer (some ⟨a.blk, 0, none⟩), .pointer (some ⟨b.blk, 0, none⟩), .pointer (some ⟨n.blk, 0, none⟩), .slice D us.length d, .func (.func 172) #[] #[.pointer (some ⟨w2.heap.size + 1, 0, none⟩)], .int .i64 ((us.length : Int) - 1 - (j : Int)), .pointer (some ⟨u.blk, 0, none⟩), undef, undef, undef, undef, undef, undef, undef], defers := [] }) trivial hrec (by rw [← hr]; rfl) (by rw [← hr]; rfl) ?assign ?body
    case assign =>
      intro K hK
      rw [← hr]
      simp only [recOf]
      gi_wp2
      exact hK
    case body =>
      have hC1 := hC.put (o' := .loop { r0 with state := .busy }) hrec rfl
      have hl1 : (W.putObj (w2.heap.size + 3) (.loop { r0 with state := .busy })).heap[w2.heap.size + 3]? = some (.loop { r0 with state := .busy }) := World.putObj_heap_same (Array.getElem?_eq_some_iff.1 hrec).1
      have hb1 := congrArg Loop.body hr
      obtain ⟨R2, hR2⟩ : ∃ R2, R2 = { r0 with state := .busy } := ⟨_, rfl⟩
      rw [← hR2] at hC1 hl1
      refine wpIn_mono (body_eq hb1 (?walk : Code.wpIn _ _ _ _ (fun e _ W3 => match e with | .normal => W3.heap[w2.heap.size + 3]? = some (.loop R2) ∧ JnJ w2 k us (a.ents ++ b.ents) D d (j + 1) W3 | _ => False) _ _)) ?conv
      case conv =>
        intro e a3 W3 hp
        cases e with
        | normal =>
          obtain ⟨p1, p2⟩ := hp
          have hrr : ({ r0 with state := .ready, pending := none } : Loop) = r0 := by rw [← hr]; rfl
          refine ⟨by rw [← hR2]; exact p1, rfl, p2.put p1 rfl, ?_⟩
          have := World.putObj_heap_same (w := W3) (o := .loop { r0 with state := .ready, pending := none }) (Array.getElem?_eq_some_iff.1 p1).1
          rw [hrr] at this ⊢
          exact this
        | ret => exact hp.elim
        | exit id => exact hp.elim
        | goto t => exact hp.elim
        | panic ch => exact hp.elim
        | outgrown => exact hp.elim
      case walk =>
      rw [← hR2]
      generalize hW1 : W.putObj (w2.heap.size + 3) (.loop R2) = W1 at *
      simp only [recOf]
      clear hb1 hW1 hr hrec hC hR2
      obtain ⟨t, ty, hX, hnt, hft⟩ := hC1.cur
      have c0 : W1.cell? ⟨w2.heap.size, 0, none⟩ = some (.pointer (some ⟨t.blk, 0, none⟩)) := by rw [cell_of_row W1 _ _ _ ty (0, 0) hX]; rfl
      have f0 := frozen_of_row W1 w2.heap.size 0 _ ty hX
      have hnu := (HN.out.2.1 u (List.mem_of_getElem? hu)).below hC1.bel (Nat.le_refl _) hC1.bel.size
      obtain ⟨hfit, C', he', hf'⟩ := fits_at hft hrev hnt.1 hnu.1 (by rw [List.length_append]; exact HX.out.2.2.2.2.2)
      have HW := Lib.hid (With_step hnu hnt (Nat.le_refl _) hfit)
      have HXX := Lib.hid hX
      have HC := Lib.hid hC1
      have Hl := Lib.hid hl1
      have Hf := Lib.hid (And.intro he' hf')
      clear hC1 hl1 hnt hX hfit hnu hft hrev hu hy hrd hrow he' hf' c2 c2'
      gi_wp2_with (refine ⟨trivial, ?_⟩; (with_reducible refine (CallsIn.inRound (w2.heap.size + 3) (callsIn_wide.2 HW.out)).mono ?_); rintro e W2 ⟨g2, rfl, hn2, hb2⟩; have q0 := (hb2.cell (p := ⟨w2.heap.size, 0, none⟩) (by have := HC.out.size; show w2.heap.size < _; omega)).trans c0; have q1 := (hb2.frozen (p := ⟨w2.heap.size, 0, none⟩) (by have := HC.out.size; show w2.heap.size < _; omega)).trans f0)
      exact jn_step HC.out Hl.out HXX.out hn2 (Hf.out.1 g2) Hf.out.2 hb2
  case post =>
    have hQ : Hid (r0.pending = none ∧ r0.state ≠ .busy) := Lib.hid (by rw [← hr]; exact ⟨rfl, by intro h; cases h⟩)
    rintro e W1 ⟨⟨v, rfl⟩, hC, hrec⟩
    refine ⟨none, W1.putObj (w2.heap.size + 3) (.loop { r0 with state := .exhausted }), by rw [← hQ.out.1]; exact run_endLoop hrec hQ.out.2, ?_⟩
    have hC1 := hC.put (o' := .loop { r0 with state := .exhausted }) hrec rfl
    generalize hWW : W1.putObj (w2.heap.size + 3) (.loop { r0 with state := .exhausted }) = W2 at *
    clear hWW hC hrec
    simp only [marked, hW6]
    clear hr hQ hW hL
    obtain ⟨t, ty, hX, hnt, hft⟩ := hC1.cur
    rw [hpl, ← List.length_reverse, List.drop_length] at hft
    have c0 : W2.cell? ⟨w2.heap.size, 0, none⟩ = some (.pointer (some ⟨t.blk, 0, none⟩)) := by rw [cell_of_row W2 _ _ _ ty (0, 0) hX]; rfl
    have HC := Lib.hid hC1
    have Hnt := Lib.hid (And.intro hnt hft)
    clear hC1 hnt hX hW6 hft hrd hrow c2 c2'
    gi_wp2
    have hK : W2.heap[w2.heap.size + 2]? = some (.deferred (some [])) := HC.out.dfr
    have hsz := HC.out.size
    have hb0 : Below w.heap.size w (w.alloc (.cells #[.slice none 0 0] 134)) := below_alloc w _
    have hw2 := (hb0.trans HN.out.2.2.2.2.2.2)
    refine ⟨by simp, .inl ⟨_, _, rfl, run_takeDeferred hK, ?_⟩⟩
    exact ⟨.pointer (some ⟨t.blk, 0, none⟩), by simp [results, Tryz.f67, go_sem], t, rfl, Hnt.out.1.keepc (CellKeep.putObj hK rfl) (by simp), Hnt.out.2, (hw2.trans (HC.out.bel.mono hw2.size)).trans (below_putObj _ _ (by have := hw2.size; omega))⟩
end Go.Proofs.YtpgkfccfabnjdaaGreatDoor
