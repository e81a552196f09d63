import Derived.Test.YtjcmehplcagejaaGreatDoorM80
import Derived.Test.YtjcmehplcagejaaGreatDoorM32
/-
  CONTRACTS of package near: the queue in memory; Less, Swap, Len, Push, Pop.
-/
namespace Go.Proofs.YtjcmehplcagejaaGreatDoor
open Go.RowKit Go.Shelf
open Tr (T S4 Ent)
attribute [local go_sem] Oper.semAt_some

/-- one place of the queue: a node, the first point that it covers, and its distance -/
def StdQ (w : World) (G : Nat → Prop) (p : List Nat) (f : Nat → Option Value) (t : T) : Prop :=
  ∃ A c, f 0 = some (.pointer (some ⟨t.blk, 0, none⟩)) ∧ f 1 = some (.slice A t.pre.length c) ∧ f 2 = some (.int .u64 (Nr.distT p t : Int)) ∧ PtsG w G A t.pre
theorem stdQ_ok (w : World) (G : Nat → Prop) (p : List Nat) : QOk 3 (StdQ w G p) where
  ext := by
    rintro f g s h ⟨A, c, h0, h1, h2, r⟩
    exact ⟨A, c, (h 0 (by omega)).symm.trans h0, (h 1 (by omega)).symm.trans h1, (h 2 (by omega)).symm.trans h2, r⟩
  has := by
    rintro f s ⟨A, c, h0, h1, h2, r⟩ j hj
    match j, hj with
    | 0, _ => exact ⟨_, h0, rfl⟩
    | 1, _ => exact ⟨_, h1, rfl⟩
    | 2, _ => exact ⟨_, h2, rfl⟩
theorem StdQ.step {w w' : World} {G G' : Nat → Prop} {p : List Nat} (hs : w.heap.size ≤ w'.heap.size) (hk : ∀ b, b < w.heap.size → G b → w'.heap[b]? = w.heap[b]? ∧ G' b) : ∀ f t, StdQ w G p f t → StdQ w' G' p f t :=
  fun _ _ ⟨A, c, h0, h1, h2, r⟩ => ⟨A, c, h0, h1, h2, r.step hs hk⟩
/-- the queue's row, in a block that is none of G; the points of its places lie in G -/
abbrev QueR (W : World) (b0 : Nat) (G : Nat → Prop) (p : List Nat) (D : Option Addr) (d : Nat) (qs : List T) : Prop := OwnL 240 3 (StdQ W G p) W b0 (.slice D qs.length d) qs
theorem QueR.own {W : World} {b0 : Nat} {G : Nat → Prop} {p : List Nat} {D : Option Addr} {d : Nat} {qs : List T} (h : QueR W b0 G p D d qs) (hne : qs ≠ []) : ∃ q vs, D = some ⟨q, 0, none⟩ ∧ b0 ≤ q ∧ q < W.heap.size ∧ qs.length ≤ d ∧ LCells 3 (StdQ W G p) vs qs ∧ W.ownsRow b0 240 3 (.slice (some ⟨q, 0, none⟩) qs.length d) qs.length vs := by
  obtain ⟨vs, h1, h2⟩ := h
  have h3 := h2
  have hl : 0 < qs.length := List.length_pos_iff.2 hne
  rcases h2.2 with ⟨hv, hn⟩ | ⟨g, cap, cur, hv, hg, hh, hnc, hcm, hsz, hcur⟩
  · omega
  · cases hv
    exact ⟨g, vs, rfl, hg, (Array.getElem?_eq_some_iff.1 hh).1, hnc, h1, h3⟩
theorem QueR.at {W : World} {b0 : Nat} {G : Nat → Prop} {p : List Nat} {D : Option Addr} {d : Nat} {qs : List T} (h : QueR W b0 G p D d qs) {i : Nat} {t : T} (hi : qs[i]? = some t) : ∃ q A c, D = some ⟨q, 0, none⟩ ∧ b0 ≤ q ∧ q < W.heap.size ∧
    W.cell? ⟨q, i * 3, none⟩ = some (.pointer (some ⟨t.blk, 0, none⟩)) ∧ W.cell? ⟨q, i * 3 + 1, none⟩ = some (.slice A t.pre.length c) ∧ W.cell? ⟨q, i * 3 + 2, none⟩ = some (.int .u64 (Nr.distT p t : Int)) ∧ PtsG W G A t.pre := by
  have hlt := lt_get hi
  obtain ⟨q, vs, hD, hq, hlq, -, h1, h2⟩ := h.own (fun e => by rw [e] at hi; cases hi)
  obtain ⟨A, c, e0, e1, e2, hp⟩ := h1.2 i t hi
  exact ⟨q, A, c, hD, hq, hlq, (h2.cellAt _ (by omega)).trans e0, (h2.cellAt _ (by omega)).trans e1, (h2.cellAt _ (by omega)).trans e2, hp⟩
theorem LCells.put3 {α : Type} {Q : (Nat → Option Value) → α → Prop} (hQ : QOk 3 Q) {vs : List Value} {L : List α} (h : LCells 3 Q vs L) {i : Nat} (hi : i < L.length) {a0 a1 a2 : Value} {x : α} (hx : Q (fun j => match j with | 0 => some a0 | 1 => some a1 | 2 => some a2 | _ => none) x) :
    LCells 3 Q (((vs.set (i * 3) a0).set (i * 3 + 1) a1).set (i * 3 + 2) a2) (L.set i x) := by
  have hlv := h.1
  refine ⟨by simp only [List.length_set]; exact hlv, fun k a ha => ?_⟩
  by_cases hk : k = i
  · subst hk
    rw [List.getElem?_set_self hi] at ha
    cases ha
    refine hQ.ext _ _ _ (fun j hj => ?_) hx
    match j, hj with
    | 0, _ => show some a0 = _; rw [List.getElem?_set_ne (by omega), List.getElem?_set_ne (by omega), Nat.add_zero, List.getElem?_set_self (by omega)]
    | 1, _ => show some a1 = _; rw [List.getElem?_set_ne (by omega), List.getElem?_set_self (by rw [List.length_set]; omega)]
    | 2, _ => show some a2 = _; rw [List.getElem?_set_self (by simp only [List.length_set]; omega)]
  · rw [List.getElem?_set_ne (fun e => hk e.symm)] at ha
    refine hQ.ext _ _ _ (fun j hj => ?_) (h.2 k a ha)
    show vs[k * 3 + j]? = _
    rw [List.getElem?_set_ne (by omega), List.getElem?_set_ne (by omega), List.getElem?_set_ne (by omega)]
theorem own_put3 {W : World} {b0 q n d i : Nat} {vs : List Value} (h : W.ownsRow b0 240 3 (.slice (some ⟨q, 0, none⟩) n d) n vs) (a0 a1 a2 : Value) :
    ((((W.setCell ⟨q, i * 3, none⟩ a0).setCell ⟨q, i * 3 + 1, none⟩ a1).setCell ⟨q, i * 3 + 2, none⟩ a2).ownsRow b0 240 3 (.slice (some ⟨q, 0, none⟩) n d) n (((vs.set (i * 3) a0).set (i * 3 + 1) a1).set (i * 3 + 2) a2)) ∧
    Foot (fun b => b = q) W (((W.setCell ⟨q, i * 3, none⟩ a0).setCell ⟨q, i * 3 + 1, none⟩ a1).setCell ⟨q, i * 3 + 2, none⟩ a2) := by
  refine ⟨(((h.stored _ a0).1.stored _ a1).1.stored _ a2).1, ?_⟩
  exact ((Foot.setCell W (F := fun b => b = q) (a := ⟨q, _, none⟩) rfl _).trans (Foot.setCell _ (F := fun b => b = q) (a := ⟨q, _, none⟩) rfl _) (fun b hb => .inl hb)).trans (Foot.setCell _ (F := fun b => b = q) (a := ⟨q, _, none⟩) rfl _) (fun b hb => .inl hb)
/-- two places are changed -/
theorem QueR.swap {W : World} {b0 : Nat} {G : Nat → Prop} {p : List Nat} {q d : Nat} {qs : List T} (h : QueR W b0 G p (some ⟨q, 0, none⟩) d qs) (hG : ¬ G q) {i j : Nat} {x y : T} (hi : qs[i]? = some x) (hj : qs[j]? = some y) {A A' : Option Addr} {c c' : Nat}
    (hx : PtsG W G A x.pre) (hy : PtsG W G A' y.pre) {W' : World}
    (hW : W' = ((((((W.setCell ⟨q, i * 3, none⟩ (.pointer (some ⟨y.blk, 0, none⟩))).setCell ⟨q, i * 3 + 1, none⟩ (.slice A' y.pre.length c')).setCell ⟨q, i * 3 + 2, none⟩ (.int .u64 (Nr.distT p y : Int))).setCell ⟨q, j * 3, none⟩ (.pointer (some ⟨x.blk, 0, none⟩))).setCell ⟨q, j * 3 + 1, none⟩ (.slice A x.pre.length c)).setCell ⟨q, j * 3 + 2, none⟩ (.int .u64 (Nr.distT p x : Int)))) :
    QueR W' b0 G p (some ⟨q, 0, none⟩) d (Hp.swL qs i j) ∧ Foot (fun b => b = q) W W' := by
  subst hW
  obtain ⟨q', vs, hD, hq, hlq, hnd, h1, h2⟩ := h.own (fun e => by rw [e] at hi; cases hi)
  cases hD
  obtain ⟨o1, f1⟩ := own_put3 (i := i) h2 (.pointer (some ⟨y.blk, 0, none⟩)) (.slice A' y.pre.length c') (.int .u64 (Nr.distT p y : Int))
  obtain ⟨o2, f2⟩ := own_put3 (i := j) o1 (.pointer (some ⟨x.blk, 0, none⟩)) (.slice A x.pre.length c) (.int .u64 (Nr.distT p x : Int))
  have hf := f1.trans f2 (fun b hb => .inl hb)
  refine ⟨?_, hf⟩
  have c1 := h1.put3 (stdQ_ok W G p) (lt_get hi) (x := y) (a0 := .pointer (some ⟨y.blk, 0, none⟩)) (a1 := .slice A' y.pre.length c') (a2 := .int .u64 (Nr.distT p y : Int)) ⟨A', c', rfl, rfl, rfl, hy⟩
  have c2 := c1.put3 (stdQ_ok W G p) (i := j) (by rw [List.length_set]; exact lt_get hj) (x := x) (a0 := .pointer (some ⟨x.blk, 0, none⟩)) (a1 := .slice A x.pre.length c) (a2 := .int .u64 (Nr.distT p x : Int)) ⟨A, c, rfl, rfl, rfl, hx⟩
  have hs := Hp.swL_eq hi hj
  have hl := Hp.swL_length qs i j
  show OwnL _ _ _ _ _ (.slice (some ⟨q, 0, none⟩) (Hp.swL qs i j).length d) _
  rw [hl, hs]
  refine ⟨_, c2.imp (StdQ.step hf.size fun b hb hg => ⟨hf.block b hb (fun e => hG (e ▸ hg)), hg⟩), ?_⟩
  rw [← hs, hl]
  exact o2
theorem QueR.drewN {W : World} {b0 : Nat} {G : Nat → Prop} {p : List Nat} {D : Option Addr} {d : Nat} {qs : List T} (h : QueR W b0 G p D d qs) (n : Nat) : QueR (W.drewN n) b0 G p D d qs := h

/-! ### the methods of a search, by its embedded queue -/
theorem m_less0 (w : World) (g : Nat) : (method 431 238 (.pointer (some ⟨g, 0, none⟩)) "Less").run Tryz.prog w = (do let v ← loadVar 188 ⟨g, 0, none⟩; pure (253, v) : Sem (FuncId × Value)).run Tryz.prog w := by kernel_rfl
theorem m_less {w : World} {g : Nat} {v : Value} (h : w.cell? ⟨g, 0, none⟩ = some v) : (method 431 238 (.pointer (some ⟨g, 0, none⟩)) "Less").run Tryz.prog w = .ok (253, v) w := by
  rw [m_less0]; simp [go_sem, loadVar, h]
theorem m_swap0 (w : World) (g : Nat) : (method 431 238 (.pointer (some ⟨g, 0, none⟩)) "Swap").run Tryz.prog w = (do let v ← loadVar 188 ⟨g, 0, none⟩; pure (254, v) : Sem (FuncId × Value)).run Tryz.prog w := by kernel_rfl
theorem m_swap {w : World} {g : Nat} {v : Value} (h : w.cell? ⟨g, 0, none⟩ = some v) : (method 431 238 (.pointer (some ⟨g, 0, none⟩)) "Swap").run Tryz.prog w = .ok (254, v) w := by
  rw [m_swap0]; simp [go_sem, loadVar, h]
theorem m_len0 (w : World) (g : Nat) : (method 431 238 (.pointer (some ⟨g, 0, none⟩)) "Len").run Tryz.prog w = (do let v ← loadVar 188 ⟨g, 0, none⟩; pure (174, v) : Sem (FuncId × Value)).run Tryz.prog w := by kernel_rfl
theorem m_len {w : World} {g : Nat} {v : Value} (h : w.cell? ⟨g, 0, none⟩ = some v) : (method 431 238 (.pointer (some ⟨g, 0, none⟩)) "Len").run Tryz.prog w = .ok (174, v) w := by
  rw [m_len0]; simp [go_sem, loadVar, h]
theorem m_push (w : World) (g : Nat) : (method 431 238 (.pointer (some ⟨g, 0, none⟩)) "Push").run Tryz.prog w = .ok (257, .pointer (some ⟨g, 0, none⟩)) w := by kernel_rfl
theorem m_pop (w : World) (g : Nat) : (method 431 238 (.pointer (some ⟨g, 0, none⟩)) "Pop").run Tryz.prog w = .ok (256, .pointer (some ⟨g, 0, none⟩)) w := by kernel_rfl

theorem qLen_c (D : Option Addr) (n d : Nat) (w : World) : Calls Tryz.prog 174 #[.slice D n d] w fun e w' => e = .returned (.int .i64 (n : Int)) ∧ w = w' := by
  go_enter Tryz.func174, Tryz.ntmps174
  go_wp2
  go_ret
  exact ⟨rfl, rfl⟩
set_option maxRecDepth 100000 in
theorem qLess_c {W : World} {b0 k : Nat} {G : Nat → Prop} {p : List Nat} {D : Option Addr} {d : Nat} {qs : List T} (h : QueR W b0 G p D d qs) (hw : ∀ t ∈ qs, Tr.Wf k t) (hp : p.length = k) (hpo : Z.Ok p) {i j : Nat} {x y : T} (hi : qs[i]? = some x) (hj : qs[j]? = some y) {r : Bool} (hr : decide (Nr.ordT p x < Nr.ordT p y) = r) :
    Calls Tryz.prog 253 #[.slice D qs.length d, .int .i64 (i : Int), .int .i64 (j : Int)] W fun e w' => e = .returned (.bool r) ∧ ∃ n, w' = W.drewN n := by
  have wx := hw x (List.mem_of_getElem? hi)
  have wy := hw y (List.mem_of_getElem? hj)
  obtain ⟨q, A, c, rfl, -, -, x0, x1, x2, px⟩ := h.at hi
  obtain ⟨q', A', c', hD, -, -, y0, y1, y2, py⟩ := h.at hj
  cases hD
  have m0 : (0 : Int) ≤ (i : Int) := by omega
  have m1 : (i : Int) < (qs.length : Int) := by have := lt_get hi; omega
  have m2 : (0 : Int) ≤ (j : Int) := by omega
  have m3 : (j : Int) < (qs.length : Int) := by have := lt_get hj; omega
  have k1 := wx.k1
  have k16 := wx.k16
  have hlx := wx.len
  have hly := wy.len
  have hkx : Tr.key x.pre < (2 ^ p.length) ^ 64 := Nr.key_bd (by rw [hlx, hp])
  have hky : Tr.key y.pre < (2 ^ p.length) ^ 64 := Nr.key_bd (by rw [hly, hp])
  have hlt := Nr.lex_lt (k := p.length) (d := Nr.distT p x) (d' := Nr.distT p y) hkx hky
  have hkl := Tr.key_lt (p := x.pre) (q := y.pre) (by rw [hlx, hly]) wx.ok wy.ok
  have bx := Nr.distT_lt hpo wx
  have by' := Nr.distT_lt hpo wy
  obtain ⟨N, hN⟩ : ∃ N, qs.length = N := ⟨_, rfl⟩
  obtain ⟨dx, hdx⟩ : ∃ dx, Nr.distT p x = dx := ⟨_, rfl⟩
  obtain ⟨dy, hdy⟩ : ∃ dy, Nr.distT p y = dy := ⟨_, rfl⟩
  rw [hdx] at x2 hlt bx
  rw [hdy] at y2 hlt by'
  rw [hN] at m1 m3 ⊢
  by_cases hd : dx = dy
  · subst hd
    obtain ⟨s, hs⟩ : ∃ s, Z.cmp x.pre y.pre = s := ⟨_, rfl⟩
    have hr2 : decide (s < 0) = r := by
      rw [← hr, decide_eq_decide, ← hs, ← hkl]
      unfold Nr.ordT
      rw [hdx, hdy, hlt]
      omega
    have n1 : ((dx : Int) != (dx : Int)) = false := by simp
    have HC := Lib.hid fun (i : Nat) => cmp_yes A A' c c' x.pre y.pre W.heap.size (W.drewN i) px.pts py.pts (by omega) (by omega) (by omega)
    rw [hs] at HC
    clear hN hdx hdy hlt hkl hkx hky hr hs bx by' px py wx wy hw hp hpo h hi hj k1 k16 hlx hly
    go_enter Tryz.func253, Tryz.ntmps253
    go_wp2_with fail
    go_quiet (fail)
    have HQ : Hid (∀ i, Calls Tryz.prog 68 #[.slice A x.pre.length c, .slice A' y.pre.length c'] ((W.drewN nq).drewN i) fun e w' => e = .returned (.tuple #[.int .i64 s, .int .i64 0]) ∧ ∃ j, w' = ((W.drewN nq).drewN i).drewN j) := Lib.hid fun i => by
      have h := HC.out (nq + i)
      rw [← World.drewN_drewN] at h
      exact h.mono fun e w' hh => ⟨hh.1, 0, hh.2.symm⟩
    have z1 : (W.drewN nq).cell? ⟨q, i * 3 + 1, none⟩ = some (.slice A x.pre.length c) := x1
    have z2 : (W.drewN nq).cell? ⟨q, j * 3 + 1, none⟩ = some (.slice A' y.pre.length c') := y1
    obtain ⟨W6, hW6⟩ : ∃ W6, W6 = W.drewN nq := ⟨_, rfl⟩
    have H6 := Lib.hid hW6
    rw [← hW6] at HQ z1 z2 ⊢
    clear x0 x2 y0 y2 HC x1 y1 hW6
    go_wp2_with fail
    go_quiet ((go_at_call 68; exact Calls.quiet_of (HQ.out _)))
    clear z1 z2 HQ
    go_wp2_with fail
    go_ret
    exact ⟨rfl, _, by rw [H6.out, World.drewN_drewN]⟩
  · have hr2 : decide ((dx : Int) < (dy : Int)) = r := by
      rw [← hr, decide_eq_decide]
      unfold Nr.ordT
      rw [hdx, hdy, hlt]
      omega
    have n1 : ((dx : Int) != (dy : Int)) = true := by rw [bne_iff_ne]; omega
    clear hN hdx hdy hlt hkl hkx hky hr bx by' px py wx wy hw hp hpo h hi hj k1 k16 hlx hly hd x0 x1 y0 y1
    go_enter Tryz.func253, Tryz.ntmps253
    go_wp2_with fail
    go_quiet (fail)
    go_wp2_with fail
    go_quiet (fail)
    clear x2 y2
    go_wp2_with fail
    go_ret
    exact ⟨by first | rfl | (rw [← hr2]; simp), _, World.drewN_drewN _ _ _⟩
set_option maxRecDepth 100000 in
theorem qSwap_c {W : World} {b0 : Nat} {G : Nat → Prop} {p : List Nat} {q d : Nat} {qs : List T} (h : QueR W b0 G p (some ⟨q, 0, none⟩) d qs) (hG : ¬ G q) {i j : Nat} (hi : i < qs.length) (hj : j < qs.length) :
    Calls Tryz.prog 254 #[.slice (some ⟨q, 0, none⟩) qs.length d, .int .i64 (i : Int), .int .i64 (j : Int)] W fun e w' => e = .returned (.tuple #[]) ∧ QueR w' b0 G p (some ⟨q, 0, none⟩) d (Hp.swL qs i j) ∧ Foot (fun b => b = q) W w' := by
  obtain ⟨x, hx⟩ := get_lt hi
  obtain ⟨y, hy⟩ := get_lt hj
  obtain ⟨q', A, c, hD, -, -, x0, x1, x2, px⟩ := h.at hx
  cases hD
  obtain ⟨q', A', c', hD, -, -, y0, y1, y2, py⟩ := h.at hy
  cases hD
  have hsw := Lib.hid fun (W' : World) => h.swap hG hx hy (c := c) (c' := c') px py (W' := W')
  have m0 : (0 : Int) ≤ (i : Int) := by omega
  have m1 : (i : Int) < (qs.length : Int) := by omega
  have m2 : (0 : Int) ≤ (j : Int) := by omega
  have m3 : (j : Int) < (qs.length : Int) := by omega
  obtain ⟨N, hN⟩ : ∃ N, qs.length = N := ⟨_, rfl⟩
  obtain ⟨dx, hdx⟩ : ∃ dx, Nr.distT p x = dx := ⟨_, rfl⟩
  obtain ⟨dy, hdy⟩ : ∃ dy, Nr.distT p y = dy := ⟨_, rfl⟩
  obtain ⟨f0, f1, f2⟩ : W.frozen? ⟨q, i * 3, none⟩ = false ∧ W.frozen? ⟨q, i * 3 + 1, none⟩ = false ∧ W.frozen? ⟨q, i * 3 + 2, none⟩ = false := by
    obtain ⟨q', vs, hD, -, -, -, -, h2⟩ := h.own (fun e => by rw [e] at hi; simp at hi)
    cases hD
    exact ⟨h2.frozenAt _, h2.frozenAt _, h2.frozenAt _⟩
  obtain ⟨g0, g1, g2⟩ : W.frozen? ⟨q, j * 3, none⟩ = false ∧ W.frozen? ⟨q, j * 3 + 1, none⟩ = false ∧ W.frozen? ⟨q, j * 3 + 2, none⟩ = false := by
    obtain ⟨q', vs, hD, -, -, -, -, h2⟩ := h.own (fun e => by rw [e] at hi; simp at hi)
    cases hD
    exact ⟨h2.frozenAt _, h2.frozenAt _, h2.frozenAt _⟩
  obtain ⟨⟨v0, e0⟩, ⟨v1, e1⟩, ⟨v2, e2⟩⟩ : (∃ v, (W.setCell ⟨q, i * 3, none⟩ (.pointer (some ⟨y.blk, 0, none⟩))).cell? ⟨q, j * 3, none⟩ = some v) ∧ (∃ v, ((W.setCell ⟨q, i * 3, none⟩ (.pointer (some ⟨y.blk, 0, none⟩))).setCell ⟨q, i * 3 + 1, none⟩ (.slice A' y.pre.length c')).cell? ⟨q, j * 3 + 1, none⟩ = some v) ∧ (∃ v, (((W.setCell ⟨q, i * 3, none⟩ (.pointer (some ⟨y.blk, 0, none⟩))).setCell ⟨q, i * 3 + 1, none⟩ (.slice A' y.pre.length c')).setCell ⟨q, i * 3 + 2, none⟩ (.int .u64 (Nr.distT p y : Int))).cell? ⟨q, j * 3 + 2, none⟩ = some v) := by
    obtain ⟨q', vs, hD, -, -, -, h1, h2⟩ := h.own (fun e => by rw [e] at hi; simp at hi)
    cases hD
    have hlv := h1.1
    exact ⟨⟨_, ((h2.stored (i * 3) _).1.cellAt (j * 3) (by omega)).trans (List.getElem?_eq_getElem (by rw [List.length_set]; omega))⟩, ⟨_, (((h2.stored (i * 3) _).1.stored (i * 3 + 1) _).1.cellAt (j * 3 + 1) (by omega)).trans (List.getElem?_eq_getElem (by simp only [List.length_set]; omega))⟩, ⟨_, ((((h2.stored (i * 3) _).1.stored (i * 3 + 1) _).1.stored (i * 3 + 2) _).1.cellAt (j * 3 + 2) (by omega)).trans (List.getElem?_eq_getElem (by simp only [List.length_set]; omega))⟩⟩
  rw [hdx] at x2 hsw
  rw [hdy] at y2 hsw e2
  rw [hN] at m1 m3 ⊢
  clear hN hdx hdy px py h hx hy hi hj
  go_enter Tryz.func254, Tryz.ntmps254
  go_wp2_with fail
  go_region
  go_end0
  exact ⟨rfl, (hsw.out _ rfl).1.drewN 1, (hsw.out _ rfl).2.drewN 1⟩
end Go.Proofs.YtjcmehplcagejaaGreatDoor
