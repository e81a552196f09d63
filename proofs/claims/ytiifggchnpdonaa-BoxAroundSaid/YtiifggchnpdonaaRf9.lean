/-
  CONTRACTS of package pantileref03 (the document's answers for layer 3), third part: Nearest, Around, Cell.
-/
import Derived.Test.YtiifggchnpdonaaRf8
import Derived.Test.YtiifggchnpdonaaBx4
import Derived.Maps.AppendAt
namespace Go.Proofs.Ytiifggchnpdonaa
open Go.ChangeShapes Go.WideShapes Go.ChangeAt Go.RowKit

/-- 'append(v, y)' onto a row of the call's own -/
theorem app_one {w : World} {ops : Array Oper} {rest : List Oper} {o : Oper} {a : Act} {Q : Exit → Act → World → Prop} (hgd : o.guard = none) (s x : Operand)
    (ho : o.op = .call { callee := .builtin .append, args := #[s, x], argTypes := #[22, 22] }) (base : Nat) (v : Value) (n : Nat) (xs : List Value) {y : Int} (hs : a.eval s = v) (hown : w.ownsRow base 30 1 v n xs)
    {gb : Nat} (hx : a.eval x = .slice (some ⟨gb, 0, none⟩) 1 1) (hgb : gb = w.heap.size) (hn : n ≤ 1000) (hbase : base ≤ w.heap.size)
    (h : ∀ v' w', w'.ownsRow base 30 1 v' (n + 1) (xs ++ [.int .u64 y]) → (w.alloc (.cells #[.int .u64 y] 30)).grownBy w' v.ownBlock → (v'.ownBlock = v.ownBlock ∨ v'.ownBlock = some (w.heap.size + 1)) → wpList Try.prog ops Q rest (a.put o.dst v') w') :
    wpList Try.prog ops Q (o :: rest) a (w.alloc (.cells #[.int .u64 y] 30)) := by
  obtain ⟨i0, hi0, hz0, hz1, hz2⟩ := info_parts info_u64
  subst hgb
  refine wpList_append_own_at _ hgd s x 22 ho base 30 i0 (.int .u64 0) 1 8 Try.underlying22 hi0 hz0 hz1 hz2 rfl (by decide) v n xs hs (hown.alloc _) ⟨w.heap.size, 0, none⟩ 1 1 [.int .u64 y] hx rfl (cell_one_new _ _ _) (by intro u hu; simp at hu; subst hu; rfl) (by unfold maxLen; omega) (by omega) (by simp; omega) ?_
  intro v' w' h1 h2 _ h4
  rw [World.size_alloc] at h4
  exact h v' w' h1 h2 h4

theorem take_next {k : Nat} (f : Nat → Nat) {j : Nat} {y : Int} (hj : j < k) (hy : y = (f j : Int)) : (vals (Bx.tab k f)).take j ++ [.int .u64 y] = (vals (Bx.tab k f)).take (j + 1) := by
  have hj' : j < (vals (Bx.tab k f)).length := by rw [vals_length, Bx.tab_length]; exact hj
  have e : (vals (Bx.tab k f))[j] = .int .u64 (f j : Int) := (List.getElem?_eq_some_iff.1 (vals_get (Bx.tab_get f hj))).2
  rw [Z.take_snoc _ j hj', e, hy]
theorem own_tab {w : World} {base k j : Nat} {v : Value} {f : Nat → Nat} (h : w.ownsRow base 30 1 v j ((vals (Bx.tab k f)).take j)) (hj : j = k) (hf : ∀ i, i < k → f i < 18446744073709551616) : Own w base v (Bx.tab k f) := by
  subst hj
  refine ⟨Bx.tab_ok hf, ?_⟩
  rw [Bx.tab_length]
  rwa [List.take_of_length_le (by rw [vals_length, Bx.tab_length]; omega)] at h

set_option maxRecDepth 100000 in
set_option maxHeartbeats 400000 in
theorem r3near_c (A A' C : Option Addr) (c c' d : Nat) (lo hi us : List Nat) (B : Nat) (w : World) (hr : Bx.emp lo hi lo.length = false) (hp : Pts w B A lo) (hq : Pts w B A' hi) (hu : Pts w B C us) (hB : B ≤ w.heap.size) (h1 : 1 ≤ lo.length) (h16 : lo.length ≤ 16) (hlen : lo.length = hi.length) (hlen2 : lo.length = us.length) :
    Calls Try.prog 20 #[boxV A lo.length c A' hi.length c', .slice C us.length d] w fun e w' => ∃ v, e = .returned v ∧ Own w' w.heap.size v (Bx.near lo hi us) ∧ Below w.heap.size w w' := by
  have Hl := Lib.hid hlen
  have Hl2 := Lib.hid hlen2
  have Hle := Lib.hid (Bx.emp_false.1 hr)
  have hbel := below_alloc w (.cells #[.slice A lo.length c, .slice A' hi.length c'] 24)
  have hbx := boxAt_new w A lo.length c A' hi.length c'
  have hp0 := hp.below' hbel hB
  have hq0 := hq.below' hbel hB
  have hu0 := hu.below' hbel hB
  have h2 : 1 ≤ hi.length := by omega
  have h26 : hi.length ≤ 16 := by omega
  have h3 : 1 ≤ us.length := by omega
  have h36 : us.length ≤ 16 := by omega
  have hlg := fun i => Bx.g_lt hp.ok i
  have hhg := fun i => Bx.g_lt hq.ok i
  have hug := fun i => Bx.g_lt hu.ok i
  have hng : Hid (∀ i, i < us.length → Bx.nearG lo hi us i < 18446744073709551616) := Lib.hid (fun i _ => Bx.nearG_lt hq.ok i)
  have hBs : B < w.heap.size + 1 := by omega
  obtain ⟨k0, k1⟩ := hbx
  obtain ⟨b, off, hA, hb, hc⟩ := hp0.at h1
  obtain ⟨b', off', hA', hb', hc'⟩ := hq0.at h2
  obtain ⟨b2, off2, hA2, hb2, hc2⟩ := hu0.at h3
  subst hA hA' hA2
  clear hlen hlen2 hr hp hq hu hp0 hq0 hu0
  have hWs : (w.alloc (.cells #[.slice (some ⟨b, off, none⟩) lo.length c, .slice (some ⟨b', off', none⟩) hi.length c'] 24)).heap.size = w.heap.size + 1 := by simp
  go_enter Try.func20, Try.ntmps20
  go_wp2
  generalize hW : w.alloc _ = W at *
  have hown0 : (W.alloc (.cells #[] 30)).ownsRow (w.heap.size + 1) 30 1 (.slice (some ⟨W.heap.size, 0, none⟩) 0 0) 0 [] := World.ownsRow_made W #[] 0 (by omega) (by unfold maxLen; omega) (by simp)
  rw [hWs] at hown0
  have hbel0 : Below W.heap.size W (W.alloc (.cells #[] 30)) := below_alloc _ _
  go_loopw [5, 6, 7] (fun v i _ wr => ∃ k : Nat, k ≤ us.length ∧ i = .int .i64 k ∧ wr.ownsRow (w.heap.size + 1) 30 1 v k ((vals (Bx.near lo hi us)).take k) ∧ Below W.heap.size W wr) (fun _ i _ _ => us.length - (intOf i).toNat)
  case atStart => exact ⟨0, Nat.zero_le _, rfl, by simpa using hown0, hbel0⟩
  case round =>
    obtain ⟨k, hk, rfl, hrow, hbw⟩ := hrel
    clear hown0 hbel0
    by_cases hlt : k < us.length
    · have hl1 : k < lo.length := by have := Hl2.out; omega
      have hl2 : k < hi.length := by have := Hl2.out; have := Hl.out; omega
      have hcell := (hbw.cell (p := ⟨b, off + k, none⟩) (by show b < _; omega)).trans (hc k hl1)
      have hcell' := (hbw.cell (p := ⟨b', off' + k, none⟩) (by show b' < _; omega)).trans (hc' k hl2)
      have hcell2 := (hbw.cell (p := ⟨b2, off2 + k, none⟩) (by show b2 < _; omega)).trans (hc2 k hlt)
      have m0 := (hbw.cell (p := ⟨w.heap.size, 0, none⟩) (by show w.heap.size < _; omega)).trans k0
      have m1 := (hbw.cell (p := ⟨w.heap.size, 1, none⟩) (by show w.heap.size < _; omega)).trans k1
      have b1 := hlg k
      have b2' := hhg k
      have b3 := hug k
      have ble := Hle.out k hl1
      have hst : Hid (Bx.nearG lo hi us k = min (max (Bx.g us k) (Bx.g lo k)) (Bx.g hi k)) := Lib.hid rfl
      have hnext : Hid (∀ (y : Int), y = (Bx.nearG lo hi us k : Int) → (vals (Bx.near lo hi us)).take k ++ [.int .u64 y] = (vals (Bx.near lo hi us)).take (k + 1)) := Lib.hid (fun y h => take_next (Bx.nearG lo hi us) hlt h)
      have Hrow := Lib.hid hrow
      have hsz := hbw.size
      clear hc hc' hc2 hlg hhg hug k0 k1 hrow
      generalize Bx.nearG lo hi us k = t at *
      generalize Bx.g lo k = x at *
      generalize Bx.g hi k = y at *
      generalize Bx.g us k = z at *
      by_cases hzx : z < x
      · go_wp2_with (at_builtin; refine app_one rfl (.tmp 43) (.tmp 45) rfl (w.heap.size + 1) u5 k _ rfl Hrow.out rfl (by simp) (by omega) (by omega) ?_; intro v1 w1 hown1 hgrow1 _)
        go_roundw
        case rel => exact ⟨k + 1, by omega, by go_num, by rw [← hnext.out (x : Int) (by have := hst.out; omega)]; exact hown1, (hbw.alloc hsz _).grown hgrow1 (by simp; omega) (fun q hq => by have := (Hrow.out.lt q hq).1; omega)⟩
        case measure => simp [intOf]; omega
      · by_cases hyz : y < z
        · go_wp2_with (at_builtin; refine app_one rfl (.tmp 43) (.tmp 45) rfl (w.heap.size + 1) u5 k _ rfl Hrow.out rfl (by simp) (by omega) (by omega) ?_; intro v1 w1 hown1 hgrow1 _)
          go_roundw
          case rel => exact ⟨k + 1, by omega, by go_num, by rw [← hnext.out (y : Int) (by have := hst.out; omega)]; exact hown1, (hbw.alloc hsz _).grown hgrow1 (by simp; omega) (fun q hq => by have := (Hrow.out.lt q hq).1; omega)⟩
          case measure => simp [intOf]; omega
        · go_wp2_with (at_builtin; refine app_one rfl (.tmp 43) (.tmp 45) rfl (w.heap.size + 1) u5 k _ rfl Hrow.out rfl (by simp) (by omega) (by omega) ?_; intro v1 w1 hown1 hgrow1 _)
          go_roundw
          case rel => exact ⟨k + 1, by omega, by go_num, by rw [← hnext.out (z : Int) (by have := hst.out; omega)]; exact hown1, (hbw.alloc hsz _).grown hgrow1 (by simp; omega) (fun q hq => by have := (Hrow.out.lt q hq).1; omega)⟩
          case measure => simp [intOf]; omega
    · have hkeep : Hid (Own wr w.heap.size u5 (Bx.near lo hi us)) := Lib.hid ((own_tab hrow (by omega) hng.out).mono (by omega))
      have hfin : Hid (Below w.heap.size w wr) := Lib.hid (Below.andThen hbel hbw)
      clear hc hc' hc2 hlg hhg hug hrow
      go_wp2
      go_ret
      exact ⟨_, rfl, hkeep.out, hfin.out⟩

theorem owns_slice {w : World} {base : Nat} {e : TypeId} {size : Nat} {v : Value} {n : Nat} {xs : List Value} (h : w.ownsRow base e size v n xs) : ∃ A c, v = .slice A n c := by
  rcases h.2 with ⟨rfl, rfl⟩ | ⟨g, cap, cur, rfl, _⟩
  · exact ⟨none, 0, rfl⟩
  · exact ⟨_, cap, rfl⟩

/-! ### two rows that grow side by side, in the two cells of a box -/
/-- the result's block at w.heap.size, the box in block bb, its two rows in other blocks -/
def P2 (w wr : World) (bb : Nat) (vL vH : Value) (nL nH : Nat) (xL xH : List Value) : Prop :=
  Below w.heap.size w wr ∧ w.heap.size < bb ∧ bb < wr.heap.size ∧ Bx0 wr w.heap.size (.slice none 0 0) (.slice none 0 0) ∧ Bx0 wr bb vL vH ∧
    wr.ownsRow (w.heap.size + 1) 30 1 vL nL xL ∧ wr.ownsRow (w.heap.size + 1) 30 1 vH nH xH ∧ (vL.ownBlock = none ∨ vL.ownBlock ≠ vH.ownBlock) ∧ vL.ownBlock ≠ some bb ∧ vH.ownBlock ≠ some bb
theorem bx0_setCell0 {w : World} {b : Nat} {x y : Value} (h : Bx0 w b x y) (v : Value) : Bx0 (w.setCell ⟨b, 0, none⟩ v) b v y := by
  refine ⟨World.cell?_setCell_same _ _ _ h.1, ?_, ?_, ?_⟩
  · rw [World.cell?_setCell_other _ _ _ _ (by simp)]; exact h.2.1
  · rw [World.frozen?_setCell]; exact h.2.2.1
  · rw [World.frozen?_setCell]; exact h.2.2.2
theorem bx0_setCell1 {w : World} {b : Nat} {x y : Value} (h : Bx0 w b x y) (v : Value) : Bx0 (w.setCell ⟨b, 1, none⟩ v) b x v := by
  refine ⟨?_, World.cell?_setCell_same _ _ _ h.2.1, ?_, ?_⟩
  · rw [World.cell?_setCell_other _ _ _ _ (by simp)]; exact h.1
  · rw [World.frozen?_setCell]; exact h.2.2.1
  · rw [World.frozen?_setCell]; exact h.2.2.2
theorem p2_grow {w wr w1 : World} {bb : Nat} {vL vH v : Value} {nL nH : Nat} {xL xH : List Value} (S : P2 w wr bb vL vH nL nH xL xH) (o : Obj) (hg : (wr.alloc o).grownBy w1 v.ownBlock) (hv : v = vL ∨ v = vH) :
    Below w.heap.size w w1 ∧ bb < w1.heap.size ∧ Bx0 w1 w.heap.size (.slice none 0 0) (.slice none 0 0) ∧ Bx0 w1 bb vL vH := by
  obtain ⟨h1, h2, h3, h4, h5, h6, h7, h8, h9, h10⟩ := S
  have hbase : ∀ k, v.ownBlock = some k → w.heap.size + 1 ≤ k ∧ k ≠ bb := by
    rcases hv with rfl | rfl
    · exact fun k hk => ⟨(h6.lt k hk).1, fun e => h9 (by rw [hk, e])⟩
    · exact fun k hk => ⟨(h7.lt k hk).1, fun e => h10 (by rw [hk, e])⟩
  have hbl : ∀ b, b < wr.heap.size → (b = bb ∨ b ≤ w.heap.size) → w1.heap[b]? = wr.heap[b]? := fun b hb hc => by
    rw [hg.block b (by simp; omega) (by intro e; have := hbase b e.symm; omega), Below.heap_alloc _ _ _ (by omega)]
  refine ⟨(h1.alloc (by omega) o).grown hg (by simp; omega) (fun k hk => by have := hbase k hk; omega), ?_, bx0_block h4 (hbl _ (by omega) (.inr (Nat.le_refl _))), bx0_block h5 (hbl _ h3 (.inl rfl))⟩
  have := hg.size
  rw [World.size_alloc] at this
  omega
theorem p2_lo {w wr w1 : World} {bb : Nat} {vL vH v1 : Value} {nL nH m : Nat} {xL xH x1 : List Value} (S : P2 w wr bb vL vH nL nH xL xH) (o : Obj) (hown : w1.ownsRow (w.heap.size + 1) 30 1 v1 m x1) (hg : (wr.alloc o).grownBy w1 vL.ownBlock)
    (hl : v1.ownBlock = vL.ownBlock ∨ v1.ownBlock = some (wr.heap.size + 1)) : Bx0 w1 bb vL vH ∧ P2 w (w1.setCell ⟨bb, 0, none⟩ v1) bb v1 vH m nH x1 xH := by
  obtain ⟨g1, g2, g3, g4⟩ := p2_grow S o hg (.inl rfl)
  obtain ⟨h1, h2, h3, h4, h5, h6, h7, h8, h9, h10⟩ := S
  have hne : vH.ownBlock = none ∨ vH.ownBlock ≠ vL.ownBlock := by
    rcases h8 with h | h
    · rcases hb : vH.ownBlock with _ | b
      · exact .inl rfl
      · exact .inr (by rw [h]; simp)
    · exact .inr (Ne.symm h)
  have hH := (h7.alloc o).kept hg hne
  have hv1 : v1.ownBlock ≠ some bb := by
    rcases hl with e | e
    · rw [e]; exact h9
    · rw [e]; intro e2; have := Option.some.inj e2; omega
  refine ⟨g4, g1.setCell (p := ⟨bb, 0, none⟩) (by show w.heap.size ≤ bb; omega) _, h2, by simpa using g2, bx0_block g3 (Below.heap_setCell _ _ _ _ (by show w.heap.size ≠ bb; omega)), bx0_setCell0 g4 v1, ownsRow_setCell_other hown hv1 _, ownsRow_setCell_other hH h10 _, ?_, hv1, h10⟩
  rcases hl with e | e
  · rw [e]; exact h8
  · refine .inr ?_
    rw [e]
    intro e2
    have := (h7.lt _ e2.symm).2
    omega
theorem p2_hi {w wr w1 : World} {bb : Nat} {vL vH v1 : Value} {nL nH m : Nat} {xL xH x1 : List Value} (S : P2 w wr bb vL vH nL nH xL xH) (o : Obj) (hown : w1.ownsRow (w.heap.size + 1) 30 1 v1 m x1) (hg : (wr.alloc o).grownBy w1 vH.ownBlock)
    (hl : v1.ownBlock = vH.ownBlock ∨ v1.ownBlock = some (wr.heap.size + 1)) : Bx0 w1 bb vL vH ∧ P2 w (w1.setCell ⟨bb, 1, none⟩ v1) bb vL v1 nL m xL x1 := by
  obtain ⟨g1, g2, g3, g4⟩ := p2_grow S o hg (.inr rfl)
  obtain ⟨h1, h2, h3, h4, h5, h6, h7, h8, h9, h10⟩ := S
  have hL := (h6.alloc o).kept hg h8
  have hv1 : v1.ownBlock ≠ some bb := by
    rcases hl with e | e
    · rw [e]; exact h10
    · rw [e]; intro e2; have := Option.some.inj e2; omega
  refine ⟨g4, g1.setCell (p := ⟨bb, 1, none⟩) (by show w.heap.size ≤ bb; omega) _, h2, by simpa using g2, bx0_block g3 (Below.heap_setCell _ _ _ _ (by show w.heap.size ≠ bb; omega)), bx0_setCell1 g4 v1, ownsRow_setCell_other hL h9 _, ownsRow_setCell_other hown hv1 _, ?_, h9, hv1⟩
  rcases hl with e | e
  · rw [e]; exact h8
  · rcases hb : vL.ownBlock with _ | b
    · exact .inl rfl
    · refine .inr ?_
      rw [e]
      intro e2
      have := (h6.lt _ hb).2
      have := Option.some.inj e2
      omega
/-- the box in the result's block -/
theorem p2_out {w wr : World} {vL vH : Value} {us vs : List Nat} (h0 : Bx0 wr w.heap.size (.slice none 0 0) (.slice none 0 0)) (hb : Below w.heap.size w wr) (o1 : Own wr (w.heap.size + 1) vL us) (o2 : Own wr (w.heap.size + 1) vH vs) :
    ((wr.setCell ⟨w.heap.size, 0, none⟩ vL).setCell ⟨w.heap.size, 1, none⟩ vH).cell? ⟨w.heap.size, 0, none⟩ = some vL ∧ ((wr.setCell ⟨w.heap.size, 0, none⟩ vL).setCell ⟨w.heap.size, 1, none⟩ vH).cell? ⟨w.heap.size, 1, none⟩ = some vH ∧
    Own ((wr.setCell ⟨w.heap.size, 0, none⟩ vL).setCell ⟨w.heap.size, 1, none⟩ vH) w.heap.size vL us ∧ Own ((wr.setCell ⟨w.heap.size, 0, none⟩ vL).setCell ⟨w.heap.size, 1, none⟩ vH) w.heap.size vH vs ∧
    Below w.heap.size w ((wr.setCell ⟨w.heap.size, 0, none⟩ vL).setCell ⟨w.heap.size, 1, none⟩ vH) := by
  obtain ⟨k0, k1⟩ := bx0_two h0 vL vH
  have n1 : vL.ownBlock ≠ some w.heap.size := fun e => by have := (o1.2.lt _ e).1; omega
  have n2 : vH.ownBlock ≠ some w.heap.size := fun e => by have := (o2.2.lt _ e).1; omega
  exact ⟨k0, k1, (own_store (own_store o1 n1 _) n1 _).mono (by omega), (own_store (own_store o2 n2 _) n2 _).mono (by omega), bx0_below hb _ _⟩
theorem p2_eq {w wr : World} {bb : Nat} {vL vH : Value} {nL nH : Nat} {xL xH yL yH : List Value} (S : P2 w wr bb vL vH nL nH xL xH) (h1 : xL = yL) (h2 : xH = yH) : P2 w wr bb vL vH nL nH yL yH := by
  subst h1 h2; exact S
theorem p2_new (w : World) : P2 w ((w.alloc (.cells #[.slice none 0 0, .slice none 0 0] 24)).alloc (.cells #[.slice none 0 0, .slice none 0 0] 24)) (w.heap.size + 1) (.slice none 0 0) (.slice none 0 0) 0 0 [] [] :=
  ⟨(below_alloc _ _).alloc (by simp) _, by omega, by simp, bx0_at (heap_past _ (heap_at _ _ _ rfl)), bx0_at (heap_at _ _ _ (by simp)), World.ownsRow_nil _ _ _ _, World.ownsRow_nil _ _ _ _, .inl rfl, by simp [Value.ownBlock], by simp [Value.ownBlock]⟩

/-! ### Around -/
set_option maxRecDepth 100000 in
set_option maxHeartbeats 800000 in
theorem r3around_v (A : Option Addr) (c n : Nat) (us : List Nat) (B : Nat) (w : World) (hp : Pts w B A us) (hB : B ≤ w.heap.size) (h1 : 1 ≤ us.length) (h16 : us.length ≤ 16) (hn : n < 18446744073709551616) :
    Calls Try.prog 26 #[.slice A us.length c, .int .u64 (n : Int)] w fun e w' => ∃ v1 v2, e = .returned (.agg #[v1, v2]) ∧ Own w' w.heap.size v1 (Bx.aroLo us n) ∧ Own w' w.heap.size v2 (Bx.aroHi us n) ∧ Below w.heap.size w w' := by
  have hok := hp.ok
  obtain ⟨b, off, hA, hb, hc⟩ := hp.at h1
  subst hA
  clear hp
  have hnew := p2_new w
  have hlg := fun i => Bx.g_lt hok i
  go_enter Try.func26, Try.ntmps26
  go_wp2
  go_loopw [6, 7, 8] (fun i _ _ wr => ∃ (k : Nat) (vL vH : Value), k ≤ us.length ∧ i = .int .i64 k ∧ P2 w wr (w.heap.size + 1) vL vH k k ((vals (Bx.aroLo us n)).take k) ((vals (Bx.aroHi us n)).take k)) (fun i _ _ _ => us.length - (intOf i).toNat)
  case atStart => exact ⟨0, _, _, Nat.zero_le _, rfl, hnew⟩
  case round =>
    obtain ⟨k, vL, vH, hk, rfl, hS⟩ := hrel
    obtain ⟨AL, cL, rfl⟩ := owns_slice hS.2.2.2.2.2.1
    obtain ⟨AH, cH, rfl⟩ := owns_slice hS.2.2.2.2.2.2.1
    clear hnew
    by_cases hlt : k < us.length
    · have hcell := (hS.1.cell (p := ⟨b, off + k, none⟩) (by show b < _; omega)).trans (hc k hlt)
      have b1 := hlg k
      obtain ⟨r0, r1, r2, r3⟩ := hS.2.2.2.2.1
      have S := Lib.hid hS
      have hn1 : Hid (∀ (y : Int), y = ((Bx.g us k - n : Nat) : Int) → (vals (Bx.aroLo us n)).take k ++ [.int .u64 y] = (vals (Bx.aroLo us n)).take (k + 1)) := Lib.hid (fun y h => take_next _ hlt h)
      have hn2 : Hid (∀ (y : Int), y = ((min 18446744073709551615 (Bx.g us k + n) : Nat) : Int) → (vals (Bx.aroHi us n)).take k ++ [.int .u64 y] = (vals (Bx.aroHi us n)).take (k + 1)) := Lib.hid (fun y h => take_next _ hlt h)
      clear hc hlg hok hS
      generalize Bx.g us k = x at *
      have hlo : n < x ∨ ¬ n < x := Classical.em _
      have hhi : (x : Int) < 18446744073709551615 - (n : Int) ∨ ¬ (x : Int) < 18446744073709551615 - (n : Int) := Classical.em _
      rcases hlo with hlo | hlo <;> rcases hhi with hhi | hhi
      all_goals
        go_wp2_with (first
          | (at_builtin; refine app_one rfl (.tmp 42) (.tmp 44) rfl (w.heap.size + 1) _ k _ rfl S.out.2.2.2.2.2.1 rfl (by simp) (by omega) (by have := S.out.2.1; have := S.out.2.2.1; omega) ?_; intro v1 w1 hown1 hgrow1 hl1; obtain ⟨A1, c1, rfl⟩ := owns_slice hown1; have s1 := p2_lo S.out _ hown1 hgrow1 hl1; obtain ⟨t0, t1, t2, t3⟩ := s1.1; obtain ⟨z0, z1, z2, z3⟩ := s1.2.2.2.2.2.1)
          | (at_builtin; refine app_one rfl (.tmp 48) (.tmp 50) rfl (w.heap.size + 1) _ k _ rfl s1.2.2.2.2.2.2.2.1 rfl (by simp) (by omega) (by have := s1.2.2.1; have := s1.2.2.2.1; omega) ?_; intro v2 w2 hown2 hgrow2 hl2; obtain ⟨A2, c2, rfl⟩ := owns_slice hown2; have s2 := p2_hi s1.2 _ hown2 hgrow2 hl2; obtain ⟨y0, y1, y2, y3⟩ := s2.1))
        go_roundw
        case rel => exact ⟨k + 1, _, _, by omega, by go_num, p2_eq s2.2 (hn1.out _ (by omega)) (hn2.out _ (by omega))⟩
        case measure => simp [intOf]; omega
    · have hkk : Hid (k = us.length) := Lib.hid (by omega)
      obtain ⟨r0, r1, r2, r3⟩ := hS.2.2.2.2.1
      obtain ⟨q0, q1, q2, q3⟩ := hS.2.2.2.1
      have S := Lib.hid hS
      have Hok := Lib.hid hok
      clear hc hlg hok hS
      go_wp2
      have o1 : Own wr (w.heap.size + 1) (.slice AL k cL) (Bx.aroLo us n) := own_tab S.out.2.2.2.2.2.1 hkk.out (fun i _ => by have := Bx.g_lt Hok.out i; omega)
      have o2 : Own wr (w.heap.size + 1) (.slice AH k cH) (Bx.aroHi us n) := own_tab S.out.2.2.2.2.2.2.1 hkk.out (fun i _ => by omega)
      obtain ⟨k0, k1, x1, x2, hbel⟩ := p2_out S.out.2.2.2.1 S.out.1 o1 o2
      refine bodyPost_ret (v := .agg #[.slice AL k cL, .slice AH k cH]) (by simp [results, Try.results26, go_sem, k0, k1]) rfl ?_
      exact ⟨_, _, rfl, x1, x2, hbel⟩

end Go.Proofs.Ytiifggchnpdonaa
