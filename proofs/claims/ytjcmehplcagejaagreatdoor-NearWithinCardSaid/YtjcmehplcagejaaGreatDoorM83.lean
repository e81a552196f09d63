import Derived.Test.YtjcmehplcagejaaGreatDoorM82
import Derived.Test.YtjcmehplcagejaaGreatDoorM12
/-
  CONTRACTS of package near and container/heap: Push, Pop.
-/
namespace Go.Proofs.YtjcmehplcagejaaGreatDoor
open Go.RowKit Go.Shelf
open Tr (T S4 Ent)
attribute [local go_sem] Oper.semAt_some

theorem infoStd : (Tryz.prog.info? 240).map (fun i => (i.zero, i.size, i.bytes)) = some (some (.agg #[.pointer none, .slice none 0 0, .int .u64 0]), 3, 40) := by kernel_rfl
abbrev stdV (b : Nat) (A : Option Addr) (n c x : Nat) : Value := .agg #[.pointer (some ⟨b, 0, none⟩), .slice A n c, .int .u64 (x : Int)]
theorem std_assert (v : Value) (w : World) : (Instr.typeAssert (.iface 240 v) 20 240 true).run Tryz.prog w = .ok (.tuple #[v, .bool true]) w := by kernel_rfl
/-- the search's block -/
abbrev BoxS (W : World) (g : Nat) (D : Option Addr) (n d : Nat) (x1 x2 x3 : Value) : Prop := W.heap[g]? = some (.cells #[.slice D n d, x1, x2, x3] 190 (0, 0))
theorem BoxS.c0 {W : World} {g : Nat} {D : Option Addr} {n d : Nat} {x1 x2 x3 : Value} (h : BoxS W g D n d x1 x2 x3) : W.cell? ⟨g, 0, none⟩ = some (.slice D n d) ∧ W.frozen? ⟨g, 0, none⟩ = false := ⟨by rw [cell_of_row W g _ _ _ (0, 0) h]; rfl, frozen_of_row W g 0 _ _ h⟩
theorem BoxS.lt {W : World} {g : Nat} {D : Option Addr} {n d : Nat} {x1 x2 x3 : Value} (h : BoxS W g D n d x1 x2 x3) : g < W.heap.size := (Array.getElem?_eq_some_iff.1 h).1
set_option maxRecDepth 100000 in
set_option maxHeartbeats 4000000 in
theorem qPush_c {W : World} {b0 g n d : Nat} {G : Nat → Prop} {p : List Nat} {D : Option Addr} {qs : List T} {x1 x2 x3 : Value} (hq : QueR W b0 G p D d qs) (hbox : BoxS W g D n d x1 x2 x3) (hn : qs.length = n) (hD : D.map (·.block) ≠ some g) (hG : ∀ b, G b → b ≠ g ∧ D.map (·.block) ≠ some b) (hb0 : b0 ≤ W.heap.size) (hl : n ≤ 1000000000)
    {t : T} {A : Option Addr} {c m x : Nat} (hp : PtsG W G A t.pre) (hm : t.pre.length = m) (hx : Nr.distT p t = x) :
    Calls Tryz.prog 257 #[.pointer (some ⟨g, 0, none⟩), .iface 240 (stdV t.blk A m c x)] W fun e w' => e = .returned (.tuple #[]) ∧ ∃ D' d', BoxS w' g D' (n + 1) d' x1 x2 x3 ∧ QueR w' b0 (fun b => G b ∧ b < W.heap.size) p D' d' (qs ++ [t]) ∧
      (∀ b, D'.map (·.block) = some b → D.map (·.block) = some b ∨ W.heap.size ≤ b) ∧ Foot (fun b => b = g ∨ D.map (·.block) = some b) W w' := by
  subst hm hx
  have HX := Lib.hid (And.intro hq (And.intro hbox (And.intro hn (And.intro hD (And.intro hG (And.intro hb0 (And.intro hl hp)))))))
  have hb1 := hav_old (o := .cells #[.pointer (some ⟨t.blk, 0, none⟩), .slice A t.pre.length c, .int .u64 (Nr.distT p t : Int)] 240) hbox
  have hs1 := heap_at W (.cells #[.pointer (some ⟨t.blk, 0, none⟩), .slice A t.pre.length c, .int .u64 (Nr.distT p t : Int)] 240) _ rfl
  have hbe := below_alloc W (.cells #[.pointer (some ⟨t.blk, 0, none⟩), .slice A t.pre.length c, .int .u64 (Nr.distT p t : Int)] 240)
  have hta := fun (w : World) => std_assert (stdV t.blk A t.pre.length c (Nr.distT p t)) w
  clear hq hbox hn hD hG hb0 hl hp
  go_enter Tryz.func257, Tryz.ntmps257
  go_wp2_with fail
  generalize hW1 : W.alloc (.cells #[.pointer (some ⟨t.blk, 0, none⟩), .slice A t.pre.length c, .int .u64 (Nr.distT p t : Int)] 240) = W1 at *
  have HB := Lib.hid (And.intro hbe hb1)
  obtain ⟨X, hX⟩ : ∃ X, W.heap.size = X := ⟨_, rfl⟩
  have s0 : W1.cell? ⟨X, 0, none⟩ = some (.pointer (some ⟨t.blk, 0, none⟩)) := by rw [cell_of_row W1 X _ _ _ (0, 0) (hX ▸ hs1)]; rfl
  have s1 : W1.cell? ⟨X, 1, none⟩ = some (.slice A t.pre.length c) := by rw [cell_of_row W1 X _ _ _ (0, 0) (hX ▸ hs1)]; rfl
  have s2 : W1.cell? ⟨X, 2, none⟩ = some (.int .u64 (Nr.distT p t : Int)) := by rw [cell_of_row W1 X _ _ _ (0, 0) (hX ▸ hs1)]; rfl
  have c0 := (BoxS.c0 hb1).1
  have c1 : ∀ ob, (W1.alloc ob).cell? ⟨g, 0, none⟩ = some (.slice D n d) := fun ob => (BoxS.c0 (hav_old (o := ob) hb1)).1
  have HX1 := Lib.hid hX
  rw [hX]
  clear hs1 hbe hb1 hX hW1 hta
  go_region_law ((refine step_append_list (Q := StdQ W G p) 188 240 (.agg #[.pointer none, .slice none 0 0, .int .u64 0]) 40 Tryz.underlying188 infoStd (by rfl) (by omega) (by omega) (stdQ_ok W G p) (by rfl) _ _ (by rfl) b0 (.slice D n d) qs [t] (n + 1) (by rw [HX.out.2.2.1]; rfl) (by rfl) (by have h := HX.out.1; unfold QueR at h; rw [HX.out.2.2.1] at h; exact h.below (C := W.heap.size) (HB.out.1.trans (Below.mono (by first | exact (below_alloc W1 _).drew | exact below_alloc W1 _) HB.out.1.size)) (Nat.le_refl _)) _ _ 1 1 (by rfl) (by rfl) (by exact lst_at (stdQ_ok W G p) _ t (by rfl) (by exact ⟨A, c, rfl, rfl, rfl, HX.out.2.2.2.2.2.2.2⟩)) (by have := HX.out.2.2.2.2.2.2.1; omega) (by have := HX.out.2.2.2.2.2.1; have := HB.out.1.size; simp; omega) ?_; intro D5 d5 w5 hown5 hgrow5 hat5; have hgr5 : (W1.alloc (.cells #[.pointer (some ⟨t.blk, 0, none⟩), .slice A t.pre.length c, .int .u64 (Nr.distT p t : Int)] 240)).grownBy w5 (Value.slice D n d).ownBlock := ⟨hgrow5.os, hgrow5.tape, hgrow5.output, hgrow5.size, hgrow5.block⟩; have hg5 : BoxS w5 g D n d x1 x2 x3 := (hgr5.block g (by have := BoxS.lt HB.out.2; simp; omega) (fun e => HX.out.2.2.2.1 (by rw [own_block] at e; exact e.symm))).trans (hav_old HB.out.2); have c5 := (BoxS.c0 hg5).1; have z5 := (BoxS.c0 hg5).2; have HG := Lib.hid (And.intro hown5 (And.intro hgr5 (And.intro hat5 hg5))); clear hown5 hgr5 hgrow5 hat5 hg5))
  all_goals go_end0
  all_goals (
    obtain ⟨hown5, hgr5, hat5, hg5⟩ := HG.out
    obtain ⟨hq, hbox, hn, hD, hG, hb0, hl, hp⟩ := HX.out
    have hlt := BoxS.lt hbox
    have hs1 := HB.out.1.size
    have hat : D5.map (·.block) = D.map (·.block) ∨ (D5.map (·.block) = some (W1.heap.size + 1)) := by
      rcases hat5 with e | e
      · rw [own_block, own_block] at e; exact .inl e
      · rw [own_block] at e; exact .inr (e.trans (by simp))
    have hne : D5.map (·.block) ≠ some g := by
      rcases hat with e | e
      · rw [e]; exact hD
      · rw [e]; intro e'; simp only [Option.some.injEq] at e'; omega
    have hDlt : ∀ b, D.map (·.block) = some b → b0 ≤ b ∧ b < W.heap.size := fun b hb => OwnL.lt hq b (by rw [own_block]; exact hb)
    have hfo : Foot (fun b => b = g ∨ D.map (·.block) = some b) W w5 := (Foot.of_below (HB.out.1.trans ((below_alloc W1 _).mono hs1))).trans (Foot.grown (F := fun b => b = g ∨ D.map (·.block) = some b) hgr5 (fun q hq => .inr (by rw [own_block] at hq; exact hq))) (fun b hb => .inl hb)
    have hfo2 := hfo.trans (Foot.setCell w5 (F := fun b => b = g ∨ D.map (·.block) = some b) (a := ⟨g, 0, none⟩) (.inl rfl) (.slice D5 (n + 1) d5)) (fun b hb => .inl hb)
    refine ⟨rfl, D5, d5, block_set hg5 _, ?_, fun b hb => ?_, hfo2⟩
    · have h5 := OwnL.block hown5 (w' := w5.setCell ⟨g, 0, none⟩ (.slice D5 (n + 1) d5)) fun q hq => Below.heap_setCell _ _ _ _ (fun e => hne (by rw [own_block] at hq; rw [hq, e]))
      have h6 := OwnL.imp (Q' := StdQ (w5.setCell ⟨g, 0, none⟩ (.slice D5 (n + 1) d5)) (fun b => G b ∧ b < W.heap.size) p) h5 (StdQ.step hfo2.size fun b hb hg => ⟨hfo2.block b hb (fun e => by have := hG b hg; rcases e with e | e <;> simp_all), hg, hb⟩)
      unfold QueR
      rw [show (qs ++ [t]).length = n + 1 by rw [List.length_append, hn]; rfl]
      exact h6
    · rcases hat with e | e
      · rw [e] at hb; exact .inl hb
      · rw [e, Option.some.injEq] at hb; right; omega)
theorem std_top (w : World) (b off n c i : Nat) (h2 : i ≤ n) (h3 : n ≤ c) :
    (Instr.sliceAt 188 (.slice (some ⟨b, off, none⟩) n c) none (some (.int .i64 (i : Int))) none).run Tryz.prog w = .ok (.slice (some ⟨b, off, none⟩) i c) w := by
  have ht : Tryz.prog.underlying 188 = some (.slice 240) := Tryz.underlying188
  have hel : Tryz.prog.elem 188 = 240 := by simp [Program.elem, ht]
  have hs : Tryz.prog.underlying 188 = some (.slice (Tryz.prog.elem 188)) := by rw [hel]; exact ht
  have hsz : ∀ w, (sizeOf 240).run Tryz.prog w = .ok 3 w := fun w => by
    have h : (Tryz.prog.info? 240).map (·.size) = some 3 := by kernel_rfl
    obtain ⟨i0, hi0, hz⟩ := Option.map_eq_some_iff.1 h
    simp [sizeOf, typeInfo, hi0, hz]
  rw [run_sliceAt_slice w _ _ _ _ _ hs, run_slice_h w _ _ _ _ hs .i64 (i : Int) (by omega) (by omega), hel, hsz]
  simp [Result.andThen, sliced]
  intro _
  rw [Go.WideShapes.add_plain, Nat.add_zero]
set_option maxRecDepth 100000 in
set_option maxHeartbeats 4000000 in
theorem qPop_c {W : World} {b0 g n d : Nat} {G : Nat → Prop} {p : List Nat} {q : Nat} {qs : List T} {x1 x2 x3 : Value} (hq : QueR W b0 G p (some ⟨q, 0, none⟩) d qs) (hbox : BoxS W g (some ⟨q, 0, none⟩) (n + 1) d x1 x2 x3) (hn : qs.length = n + 1) (hgq : g ≠ q) (hG : ∀ b, G b → b ≠ g) (hl : n ≤ 1000000000) {t : T} (ht : qs[n]? = some t) :
    Calls Tryz.prog 256 #[.pointer (some ⟨g, 0, none⟩)] W fun e w' => ∃ A c, e = .returned (.iface 240 (stdV t.blk A t.pre.length c (Nr.distT p t))) ∧ PtsG w' G A t.pre ∧ BoxS w' g (some ⟨q, 0, none⟩) n d x1 x2 x3 ∧ QueR w' b0 G p (some ⟨q, 0, none⟩) d (qs.take n) ∧ Foot (fun b => b = g) W w' := by
  obtain ⟨q', A, c, hD, hb0, hqlt, y0, y1, y2, hpt⟩ := hq.at ht
  cases hD
  have hdn : n + 1 ≤ d := by obtain ⟨_, _, _, _, _, h, _⟩ := hq.own (fun e => by rw [e] at hn; simp at hn); omega
  have HX := Lib.hid (And.intro hq (And.intro hbox (And.intro hn (And.intro hgq (And.intro hG hpt)))))
  obtain ⟨c0, f0⟩ := BoxS.c0 hbox
  have c1 : ∀ ob, (W.alloc ob).cell? ⟨g, 0, none⟩ = some (.slice (some ⟨q, 0, none⟩) (n + 1) d) := fun ob => (BoxS.c0 (hav_old (o := ob) hbox)).1
  have f1 : ∀ ob, (W.alloc ob).frozen? ⟨g, 0, none⟩ = false := fun ob => (BoxS.c0 (hav_old (o := ob) hbox)).2
  have hgW : (⟨g, 0, none⟩ : Addr) ≠ ⟨W.heap.size, 0, none⟩ := fun e => by have := BoxS.lt hbox; simp only [Addr.mk.injEq] at e; omega
  have e4 : ((n + 1 : Nat) : Int) - 1 = (n : Int) := by omega
  have m1 : (0 : Int) ≤ (n : Int) := by omega
  have m2 : (n : Int) < ((n + 1 : Nat) : Int) := by omega
  have m3 : (n : Int) ≤ 1000000000 := by omega
  have HST := fun (w : World) => std_top w q 0 (n + 1) d n (by omega) hdn
  clear hq hbox hn hgq hG hl ht hpt hdn hb0 hqlt
  go_enter Tryz.func256, Tryz.ntmps256
  go_wp2_with fail
  go_ret
  obtain ⟨hq, hbox, hn, hgq, hG, hp⟩ := HX.out
  have hlt := BoxS.lt hbox
  have hfo := (Foot.of_below (F := fun b => b = g) (below_alloc W (.cells #[.pointer (some ⟨t.blk, 0, none⟩), .slice A t.pre.length c, .int .u64 (Nr.distT p t : Int)] 240))).trans (Foot.setCell _ (F := fun b => b = g) (a := ⟨g, 0, none⟩) rfl (.slice (some ⟨q, 0, none⟩) n d)) (fun b hb => .inl hb)
  refine ⟨A, c, rfl, hp.step hfo.size fun b hb hg => ⟨hfo.block b hb (fun e => hG b hg e), hg⟩, block_set (hav_old hbox) _, ?_, hfo⟩
  have h7 := OwnL.take (stdQ_ok W G p) hq n (by omega)
  have hql := OwnL.lt hq q (by rw [own_block]; rfl)
  have h8 := h7.block (w' := (W.alloc (.cells #[.pointer (some ⟨t.blk, 0, none⟩), .slice A t.pre.length c, .int .u64 (Nr.distT p t : Int)] 240)).setCell ⟨g, 0, none⟩ (.slice (some ⟨q, 0, none⟩) n d)) fun q' hq' => by
    rw [own_block] at hq'
    simp only [Option.map_some, Option.some.injEq] at hq'
    subst hq'
    exact hfo.block q hql.2 (fun e => hgq e.symm)
  unfold QueR
  rw [show (qs.take n).length = n by rw [List.length_take, hn]; omega]
  exact h8.imp (StdQ.step hfo.size fun b hb hg => ⟨hfo.block b hb (fun e => hG b hg e), hg⟩)
end Go.Proofs.YtjcmehplcagejaaGreatDoor

/-
  CONTRACTS of package container/heap over a search: Push, Pop.
-/
namespace Go.Proofs.YtjcmehplcagejaaGreatDoor
open Go.RowKit Go.Shelf
open Tr (T S4 Ent)
attribute [local go_sem] Oper.semAt_some

/-- A SEARCH'S QUEUE: a heap of nodes; the points of its places lie in blocks of G, neither in its row nor in the search's block -/
structure QueS (W : World) (b0 g k : Nat) (G : Nat → Prop) (p : List Nat) (D : Option Addr) (d : Nat) (qs : List T) (x1 x2 x3 : Value) : Prop where
  box : BoxS W g D qs.length d x1 x2 x3
  row : QueR W b0 G p D d qs
  heap : Hp.HeapN (qo p qs) qs.length
  wf : ∀ t ∈ qs, Tr.Wf k t
  out : ∀ b, G b → b ≠ g ∧ D.map (·.block) ≠ some b
  sep : D.map (·.block) ≠ some g
section
variable {W W' : World} {b0 g k : Nat} {G : Nat → Prop} {p : List Nat} {D : Option Addr} {d : Nat} {qs : List T} {x1 x2 x3 : Value}
theorem QueS.lt (h : QueS W b0 g k G p D d qs x1 x2 x3) : ∀ b, D.map (·.block) = some b → b0 ≤ b ∧ b < W.heap.size := fun b hb => OwnL.lt h.row b (by rw [own_block]; exact hb)
/-- what lies elsewhere may change -/
theorem QueS.keep {G' : Nat → Prop} (h : QueS W b0 g k G p D d qs x1 x2 x3) (hs : W.heap.size ≤ W'.heap.size) (hg : W'.heap[g]? = W.heap[g]?) (hD : ∀ b, D.map (·.block) = some b → W'.heap[b]? = W.heap[b]?) (hG : ∀ b, b < W.heap.size → G b → W'.heap[b]? = W.heap[b]? ∧ G' b) (ho : ∀ b, G' b → b ≠ g ∧ D.map (·.block) ≠ some b) :
    QueS W' b0 g k G' p D d qs x1 x2 x3 :=
  ⟨hg.trans h.box, (OwnL.block h.row (w' := W') fun q hq => hD q (by rw [own_block] at hq; exact hq)).imp (StdQ.step hs hG), h.heap, h.wf, ho, h.sep⟩
theorem QueS.below (h : QueS W b0 g k G p D d qs x1 x2 x3) (hb : Below W.heap.size W W') : QueS W' b0 g k G p D d qs x1 x2 x3 :=
  h.keep hb.size (hb.block g (BoxS.lt h.box)) (fun b hD => hb.block b (h.lt b hD).2) (fun b hlt hg => ⟨hb.block b hlt, hg⟩) h.out
set_option maxRecDepth 100000 in
set_option maxHeartbeats 4000000 in
theorem hPush_c (h : QueS W b0 g k G p D d qs x1 x2 x3) (hb0 : b0 ≤ W.heap.size) (hl : qs.length ≤ 900000000) (hp : p.length = k) (hpo : Z.Ok p) {t : T} (hw : Tr.Wf k t) {A : Option Addr} {c m x : Nat} (hpt : PtsG W G A t.pre) (hm : t.pre.length = m) (hx : Nr.distT p t = x) :
    Calls Tryz.prog 208 #[.iface 238 (.pointer (some ⟨g, 0, none⟩)), .iface 240 (stdV t.blk A m c x)] W fun e w' => e = .returned (.tuple #[]) ∧ ∃ D' d' qs', qs'.Perm (t :: qs) ∧ QueS w' b0 g k (fun b => G b ∧ b < W.heap.size) p D' d' qs' x1 x2 x3 ∧
      (∀ b, D'.map (·.block) = some b → D.map (·.block) = some b ∨ W.heap.size ≤ b) ∧ Foot (fun b => b = g ∨ D.map (·.block) = some b) W w' := by
  have HP := Lib.hid (qPush_c (c := c) h.row h.box rfl h.sep h.out hb0 (by omega) hpt hm hx)
  have hmp := m_push W g
  have HX := Lib.hid (And.intro h (And.intro hl (And.intro hp (And.intro hpo hw))))
  obtain ⟨n, hn⟩ : ∃ n, qs.length = n := ⟨_, rfl⟩
  have HN := Lib.hid hn
  have hn9 : (n : Int) ≤ 900000000 := by omega
  clear h hb0 hl hp hpo hw hpt hm hx
  go_enter Tryz.func208, Tryz.ntmps208
  go_wp2_with (go_at_call 257; refine HP.out.mono ?_; rintro e w2 ⟨rfl, D', d', hb2, hq2, hd2, hf2⟩; have H2 := Lib.hid (And.intro hb2 (And.intro hq2 (And.intro hd2 hf2))); have c2 := (BoxS.c0 hb2).1; have hml := m_len c2; clear hb2 hq2 hd2 hf2)
  obtain ⟨h, hl, hp, hpo, hw⟩ := HX.out
  obtain ⟨hb2, hq2, hd2, hf2⟩ := H2.out
  have hlen : (qs ++ [t]).length = n + 1 := by rw [List.length_append, HN.out]; rfl
  obtain ⟨q, vs, rfl, hbq, hlq, -, -, -⟩ := hq2.own (by intro e; simp at e)
  have hGq : ¬ (G q ∧ q < W.heap.size) := fun hg => by
    rcases hd2 q rfl with e | e
    · exact (h.out q hg.1).2 e
    · omega
  have hgq : g ≠ q := fun e => by
    rcases hd2 q rfl with e' | e'
    · exact h.sep (e ▸ e')
    · have := BoxS.lt h.box; omega
  have hheap : Hp.UpH (qo p (qs ++ [t])) (n + 1) n := by
    have := Hp.fo_app (Nr.ordT p) qs t h.heap
    rw [HN.out] at this
    exact this
  have HU := Lib.hid (hUp_c hq2 hGq hgq (BoxS.lt hb2) (by have := (BoxS.c0 hb2).1; rw [HN.out] at this; exact this) hlen (fun s hs => by
    rcases List.mem_append.1 hs with hs | hs
    · exact h.wf s hs
    · rw [List.mem_singleton.1 hs]; exact hw) hp hpo (j := n) (by omega) (by rw [HN.out] at hl; omega) hheap)
  have HG := Lib.hid (And.intro hgq (And.intro hlen hlq))
  clear h hl hp hpo hw hb2 hq2 hd2 hf2 hlen hbq hlq hGq hgq hheap hmp HP
  go_wp2_with (first
    | (go_at_call 174; refine (qLen_c _ _ _ _).mono ?_; rintro e w3 ⟨rfl, rfl⟩)
    | (go_at_call 231; refine HU.out.mono ?_; rintro e w4 ⟨rfl, xs, hper, hhp, hq4, hf4⟩; have H4 := Lib.hid (And.intro hper (And.intro hhp (And.intro hq4 hf4))); clear hper hhp hq4 hf4))
  go_end0
  obtain ⟨h, hl, hp, hpo, hw⟩ := HX.out
  obtain ⟨hb2, hq2, hd2, hf2⟩ := H2.out
  obtain ⟨hper, hhp, hq4, hf4⟩ := H4.out
  obtain ⟨hgq, hlen, hlq⟩ := HG.out
  have hlx : xs.length = n + 1 := by rw [hper.length_eq, hlen]
  refine ⟨rfl, some ⟨q, 0, none⟩, d', xs, hper.trans (List.perm_append_singleton t qs), ⟨?_, hq4, by rw [hlx]; exact hhp, fun s hs => ?_, fun b hb => ⟨(h.out b hb.1).1, fun e => ?_⟩, fun e => ?_⟩, hd2, ?_⟩
  · rw [hlx, ← HN.out]
    exact (hf4.block g (BoxS.lt hb2) hgq).trans hb2
  · rcases List.mem_append.1 (hper.mem_iff.1 hs) with hs | hs
    · exact h.wf s hs
    · rw [List.mem_singleton.1 hs]; exact hw
  · rcases hd2 b e with e' | e'
    · exact (h.out b hb.1).2 e'
    · omega
  · simp only [Option.map_some, Option.some.injEq] at e
    exact hgq e.symm
  · refine hf2.trans hf4 fun b hb => ?_
    subst hb
    rcases hd2 b rfl with e | e
    · exact .inl (.inr e)
    · exact .inr e
set_option maxRecDepth 100000 in
set_option maxHeartbeats 4000000 in
theorem hPop_c (h : QueS W b0 g k G p D d qs x1 x2 x3) (hne : qs ≠ []) (hl : qs.length ≤ 900000000) (hp : p.length = k) (hpo : Z.Ok p) :
    Calls Tryz.prog 175 #[.iface 238 (.pointer (some ⟨g, 0, none⟩))] W fun e w' => ∃ t rest A c, e = .returned (.iface 240 (stdV t.blk A t.pre.length c (Nr.distT p t))) ∧ qs.Perm (t :: rest) ∧ (∀ s ∈ rest, Nr.ordT p t ≤ Nr.ordT p s) ∧ PtsG w' G A t.pre ∧
      QueS w' b0 g k G p D d rest x1 x2 x3 ∧ Foot (fun b => b = g ∨ D.map (·.block) = some b) W w' := by
  obtain ⟨n, hn⟩ : ∃ n, qs.length = n + 1 := ⟨qs.length - 1, by have := List.length_pos_iff.2 hne; omega⟩
  obtain ⟨q, vs, rfl, hbq, hlq, -, -, -⟩ := h.row.own hne
  have hGq : ¬ G q := fun hg => (h.out q hg).2 rfl
  have hgq : g ≠ q := fun e => h.sep (by rw [e]; rfl)
  have hxl := Hp.swL_length qs 0 n
  have hdn : Hp.DownH (qo p (Hp.swL qs 0 n)) n 0 := by
    unfold qo
    rw [Hp.swL_fo _ (by omega) (by omega)]
    have := h.heap
    rw [hn] at this
    exact this.down
  have HX := Lib.hid (And.intro h (And.intro hn (And.intro hGq (And.intro hgq (And.intro hdn (And.intro hp (And.intro hpo (And.intro hl (And.intro hlq hxl)))))))))
  have HS := qSwap_c h.row hGq (i := 0) (j := n) (by omega) (by omega)
  rw [hn] at HS
  have HS := Lib.hid HS
  have hb := h.box
  rw [hn] at hb
  have c0 := (BoxS.c0 hb).1
  have hml := m_len c0
  have hms := m_swap c0
  have e4 : ((n + 1 : Nat) : Int) - 1 = (n : Int) := by omega
  have hn9 : (n : Int) ≤ 900000000 := by omega
  clear h hne hl hp hpo hn hbq hlq hGq hgq hdn hb hxl
  go_enter Tryz.func175, Tryz.ntmps175
  go_wp2_with (first
    | (go_at_call 174; refine (qLen_c _ _ _ _).mono ?_; rintro e w3 ⟨rfl, rfl⟩)
    | (go_at_call 254; refine HS.out.mono ?_; rintro e w2 ⟨rfl, hq2, hf2⟩; have H2 := Lib.hid (And.intro hq2 hf2); clear hq2 hf2))
  obtain ⟨h, hn, hGq, hgq, hdn, hp, hpo, hl, hlq, hxl⟩ := HX.out
  obtain ⟨hq2, hf2⟩ := H2.out
  have hper2 := Hp.swL_perm qs 0 n
  have hb2 : BoxS w2 g (some ⟨q, 0, none⟩) (n + 1) d x1 x2 x3 := by
    have := (hf2.block g (BoxS.lt h.box) hgq).trans h.box
    rw [hn] at this
    exact this
  have HD := Lib.hid (hDown_c hq2 hGq hgq (BoxS.lt hb2) (BoxS.c0 hb2).1 (by rw [hxl, hn]) (fun s hs => h.wf s (hper2.mem_iff.1 hs)) hp hpo (by omega) hdn)
  have HB2 := Lib.hid (And.intro hb2 hper2)
  have hmpop := fun w => m_pop w g
  clear h hn hGq hgq hdn hp hpo hl hlq hxl hq2 hf2 hper2 hb2 hml hms c0 HS
  go_wp2_with (go_at_call 209; refine HD.out.mono ?_; rintro e w3 ⟨⟨bb, rfl⟩, ys, hper, hhp, hq3, hf3, hlast⟩; have H3 := Lib.hid (And.intro hper (And.intro hhp (And.intro hq3 (And.intro hf3 hlast)))); clear hper hhp hq3 hf3 hlast)
  obtain ⟨h, hn, hGq, hgq, hdn, hp, hpo, hl, hlq, hxl⟩ := HX.out
  obtain ⟨hper, hhp, hq3, hf3, hlast⟩ := H3.out
  obtain ⟨hb2, hper2⟩ := HB2.out
  have hyl : ys.length = n + 1 := by rw [hper.length_eq, hxl, hn]
  have hb3 : BoxS w3 g (some ⟨q, 0, none⟩) (n + 1) d x1 x2 x3 := (hf3.block g (BoxS.lt hb2) hgq).trans hb2
  obtain ⟨t, ht⟩ := get_lt (us := ys) (k := n) (by omega)
  have HP := Lib.hid (qPop_c hq3 hb3 hyl hgq (fun b hb => (h.out b hb).1) (by omega) ht)
  have HT := Lib.hid (And.intro hyl (And.intro ht hb3))
  clear h hn hGq hgq hdn hp hpo hl hlq hxl hper hhp hq3 hf3 hlast hb2 hper2 hyl hb3 ht HD
  go_wp2_with (go_at_call 256; refine HP.out.mono ?_; rintro e w4 ⟨A, c, rfl, hp4, hb4, hq4, hf4⟩; have H4 := Lib.hid (And.intro hp4 (And.intro hb4 (And.intro hq4 hf4))); clear hp4 hb4 hq4 hf4)
  go_ret
  obtain ⟨h, hn, hGq, hgq, hdn, hp, hpo, hl, hlq, hxl⟩ := HX.out
  obtain ⟨hq2, hf2⟩ := H2.out
  obtain ⟨hper, hhp, hq3, hf3, hlast⟩ := H3.out
  obtain ⟨hb2, hper2⟩ := HB2.out
  obtain ⟨hyl, ht, hb3⟩ := HT.out
  obtain ⟨hp4, hb4, hq4, hf4⟩ := H4.out
  have hsplit : ys = ys.take n ++ [t] := by
    obtain ⟨hi, rfl⟩ := List.getElem?_eq_some_iff.1 ht
    rw [← List.take_succ_eq_append_getElem hi, List.take_of_length_le (by omega)]
  have hpermT : qs.Perm (t :: ys.take n) := by
    refine (hper.trans hper2).symm.trans ?_
    conv => lhs; rw [hsplit]
    exact List.perm_append_singleton t _
  obtain ⟨y0, hy0⟩ := get_lt (us := qs) (k := 0) (by omega)
  obtain ⟨yn, hyn⟩ := get_lt (us := qs) (k := n) (by omega)
  have ht0 : t = y0 := by
    rw [hlast, Hp.swL_eq hy0 hyn, List.getElem?_set_self (by rw [List.length_set]; omega)] at ht
    exact (Option.some.inj ht).symm
  have htl : (ys.take n).length = n := by rw [List.length_take]; omega
  refine ⟨t, ys.take n, A, c, rfl, hpermT, fun s hs => ?_, hp4, ⟨by rw [htl]; exact hb4, hq4, ?_, fun s hs => h.wf s (hpermT.mem_iff.2 (List.mem_cons_of_mem _ hs)), h.out, h.sep⟩, ?_⟩
  · obtain ⟨i, hi, rfl⟩ := List.mem_iff_getElem.1 (hpermT.mem_iff.2 (List.mem_cons_of_mem _ hs))
    have h9 := h.heap.least i hi
    rw [qo_at hy0, qo_at (List.getElem?_eq_getElem hi), ← ht0] at h9
    exact h9
  · exact Hp.fo_drop (by omega) hhp
  · have hq : ∀ b, b = q → (b = g ∨ Option.map (·.block) (some (⟨q, 0, none⟩ : Addr)) = some b) ∨ W.heap.size ≤ b := fun b hb => .inl (.inr (by subst hb; rfl))
    exact (((Foot.refl _ W).trans hf2 hq).trans hf3 hq).trans hf4 (fun b hb => .inl (.inl hb))
end
end Go.Proofs.YtjcmehplcagejaaGreatDoor
