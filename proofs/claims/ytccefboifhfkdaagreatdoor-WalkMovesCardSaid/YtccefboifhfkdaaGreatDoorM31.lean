import Derived.Test.YtccefboifhfkdaaGreatDoorM30
/-
  CONTRACTS of package walk: over, New, isPoint, side, First, Last. Laid by wip/gen21.py.
-/
namespace Go.Proofs.YtccefboifhfkdaaGreatDoor
open Go.ChangeShapes Go.WideShapes Go.ChangeAt Go.RowKit
open Tr (T S4 Ent)

/-! ### isPoint, side -/
theorem isPoint_c (A : Option Addr) (n c k : Nat) (w : World) (hn : n ≤ maxLen) (hk : k ≤ 16) (r : Bool) (hr : decide (1 ≤ n ∧ n = k) = r) :
    Calls Tryz.prog 47 #[.slice A n c, .int .i64 (k : Int)] w fun e w' => e = .returned (.bool r) ∧ w = w' := by
  by_cases h : 1 ≤ n ∧ n ≤ 16
  · have H := Lib.hid (right_yes A n c w h.1 h.2)
    have e1 : ((n : Int) == (k : Int)) = r := by
      rw [← hr]
      by_cases hnk : n = k
      · subst hnk; simp [h.1]
      · rw [decide_eq_false (fun e => hnk e.2)]; simp; omega
    clear h hr hn hk
    go_enter Tryz.func47, Tryz.ntmps47
    go_wp2_with (go_at_call 91; refine H.out.mono ?_; rintro e w' ⟨rfl, rfl⟩)
    go_ret
    exact ⟨rfl, rfl⟩
  · have H := Lib.hid (right_no A n c w hn h)
    have e1 : r = false := by rw [← hr]; exact decide_eq_false (fun e => h ⟨e.1, by omega⟩)
    subst e1
    clear h hr hn hk
    go_enter Tryz.func47, Tryz.ntmps47
    go_wp2_with (go_at_call 91; refine H.out.mono ?_; rintro e w' ⟨rfl, rfl⟩)
    go_ret
    exact ⟨rfl, rfl⟩
theorem side_c {w : World} {B k : Nat} {t : T} (h : Node w B k t) (hB : B ≤ w.heap.size) {p : List Nat} {A : Option Addr} {c B' : Nat} (hp : Pts w B' A p) (hB' : B' ≤ w.heap.size) (hl : p.length = k) (s : Int) (hs : Z.cmp t.pre p = s) :
    Calls Tryz.prog 51 #[.pointer (some ⟨t.blk, 0, none⟩), .slice A p.length c] w fun e w' => e = .returned (.int .i64 s) ∧ Below w.heap.size w w' := by
  obtain ⟨kp, hnd⟩ := h.2.nd
  have hlen := h.1.len
  have k1 := h.1.k1
  have k16 := h.1.k16
  have H1 := Lib.hid (nPrefix_c hnd hB (by intro e; rw [e] at hlen; simp at hlen; omega) (by omega))
  have H2 : Hid (∀ w2 h2 d2, Own w2 w.heap.size (.slice (some ⟨h2, 0, none⟩) t.pre.length d2) t.pre → Below w.heap.size w w2 → Calls Tryz.prog 95 #[.slice (some ⟨h2, 0, none⟩) t.pre.length d2, .slice A p.length c] w2 fun e w' => e = .returned (.tuple #[.int .i64 s, .int .i64 0]) ∧ w2 = w') := Lib.hid fun w2 h2 d2 ho hb => by
    obtain ⟨A', c', hv, hp'⟩ := ho.pts
    simp only [Value.slice.injEq] at hv
    obtain ⟨rfl, -, rfl⟩ := hv
    have := cmp_yes (some ⟨h2, 0, none⟩) A d2 c t.pre p w2.heap.size w2 hp' ((hp.below' hb hB').keep (Nat.le_trans hB' hb.size) (fun _ _ => rfl)) (by omega) (by omega) (by omega)
    rw [hs] at this
    exact this
  clear hnd hlen k1 k16 hp hs hl h
  go_enter Tryz.func51, Tryz.ntmps51
  go_wp2_with (first
    | (go_at_call 96; refine H1.out.mono ?_; rintro e w2 ⟨h2, d2, rfl, ho, hb⟩; have H3 := Lib.hid (And.intro ho hb); clear ho hb)
    | (go_at_call 95; refine (H2.out _ _ _ H3.out.1 H3.out.2).mono ?_; rintro e w' ⟨rfl, rfl⟩))
  go_ret
  exact ⟨rfl, H3.out.2⟩

/-! ### First, Last -/
/-- what is told: none, or the entry x, its point in a new block -/
def ToldE (w w' : World) (x : Option Ent) (e : Ending) : Prop := match x with
  | none => e = .returned (.tuple #[entryV none 0 0 0, .bool false])
  | some x => ∃ h d, e = .returned (.tuple #[entryV (some ⟨h, 0, none⟩) x.1.length d x.2, .bool true]) ∧ Own w' w.heap.size (.slice (some ⟨h, 0, none⟩) x.1.length d) x.1
theorem res_below {w w' : World} (h : Below w.heap.size w w') (x y : Value) : Below w.heap.size w ((w'.setCell ⟨w.heap.size, 0, none⟩ x).setCell ⟨w.heap.size, 1, none⟩ y) :=
  (h.setCell (p := ⟨w.heap.size, 0, none⟩) (Nat.le_refl _) x).setCell (p := ⟨w.heap.size, 1, none⟩) (Nat.le_refl _) y
theorem told_res {w w' : World} {W : World} (hW : w.heap.size < W.heap.size) {p : List Nat} {v hh dd : Nat} (ho : Own w' W.heap.size (.slice (some ⟨hh, 0, none⟩) p.length dd) p) (x y : Value) :
    ToldE w ((w'.setCell ⟨w.heap.size, 0, none⟩ x).setCell ⟨w.heap.size, 1, none⟩ y) (some (p, v)) (.returned (.tuple #[entryV (some ⟨hh, 0, none⟩) p.length dd v, .bool true])) := by
  have h1 := (ho.2.lt hh rfl).1
  have hn : (Value.slice (some ⟨hh, 0, none⟩) p.length dd).ownBlock ≠ some w.heap.size := fun e => by simp only [Value.ownBlock, Option.some.injEq] at e; omega
  exact ⟨hh, dd, rfl, own_set (own_set (ho.mono (Nat.le_of_lt hW)) (a := ⟨w.heap.size, 0, none⟩) hn x) (a := ⟨w.heap.size, 1, none⟩) hn y⟩
/-- on the way to an end: the node at which it stands tells what the first one tells -/
structure Way1 (w : World) (B k : Nat) (f : List Ent → Option Ent) (t s : T) (w' : World) : Prop where
  node : Node w B k s
  ends : f s.ents = f t.ents
  bel : Below w.heap.size w w'
  box : w'.heap[w.heap.size]? = some (.cells #[.slice none 0 0, .int .u64 0] 36 (0, 0))
theorem Way1.lt {w : World} {B k : Nat} {f : List Ent → Option Ent} {t s : T} {w' : World} (h : Way1 w B k f t s w') : w.heap.size < w'.heap.size := (Array.getElem?_eq_some_iff.1 h.box).1
theorem head_entsL {k : Nat} {t s : T} {a : Nat} (hw : Tr.Wf k t) (h : t.ks[0]? = some (a, s)) : s.ents.head? = t.ents.head? := by
  have hm := List.mem_of_getElem? h
  rw [Tr.ents_ks hm]
  cases hk : t.ks with
  | nil => rw [hk] at hm; cases hm
  | cons x ks =>
    rw [hk] at h
    simp only [List.getElem?_cons_zero, Option.some.injEq] at h
    subst h
    rw [Tr.entsL_cons]
    have hne := (hw.sub hm).1.ne
    cases he : s.ents with
    | nil => exact absurd he hne
    | cons e es => rfl
theorem last_entsL {k : Nat} {t s : T} {a : Nat} (hw : Tr.Wf k t) (h : t.ks[t.ks.length - 1]? = some (a, s)) : s.ents.getLast? = t.ents.getLast? := by
  have hm := List.mem_of_getElem? h
  rw [Tr.ents_ks hm, Tr.ents_split h, List.getLast?_append, List.getLast?_append]
  have hlt := (List.getElem?_eq_some_iff.1 h).1
  rw [List.drop_eq_nil_of_le (by omega), Tr.entsL_nil]
  have hne := (hw.sub hm).1.ne
  cases he : s.ents.getLast? with
  | none => exact absurd (List.getLast?_eq_none_iff.1 he) hne
  | some e => rfl
theorem ks_ent {k : Nat} {t : T} (h : Tr.Wf k t) (hk : t.ks = []) : ∃ g p v, t = .ent g p v := by
  cases h with
  | ent g p v => exact ⟨g, p, v, rfl⟩
  | br g l pre ks h63 hw h2 =>
    have hk' : ks = [] := hk
    rw [hk'] at h2
    simp at h2

theorem upT_at {k : Nat} {t : T} (hw : Tr.Wf k t) {y : Option (Nat × T)} (h : upK t.ks 65536 = y) : (t.ks = [] ∧ y = none) ∨ (t.ks[t.ks.length - 1]? = y ∧ t.ks ≠ []) := by
  have e : Sl.idx t.ks ((65536 : Int) + 1) = t.ks.length := Sl.idx_all fun p hp => by have := hw.lt16 p hp; omega
  unfold upK at h
  rw [e] at h
  split at h
  · rename_i h0; exact .inl ⟨List.eq_nil_of_length_eq_zero h0, h.symm⟩
  · rename_i h0; exact .inr ⟨h, fun e => h0 (by rw [e]; rfl)⟩
theorem upT_mem {ks : List (Nat × T)} {y : Nat × T} (h : upK ks 65536 = some y) : y ∈ ks := by
  unfold upK at h
  split at h
  · cases h
  · exact List.mem_of_getElem? h
theorem upT_none {k : Nat} {t : T} (hw : Tr.Wf k t) (h : upK t.ks 65536 = none) : t.ks = [] := by
  rcases upT_at hw h with ⟨e, _⟩ | ⟨e, hn⟩
  · exact e
  · rw [List.getElem?_eq_none_iff] at e
    exact List.eq_nil_of_length_eq_zero (by omega)
theorem upK_last {k : Nat} {t s : T} {a : Nat} (hw : Tr.Wf k t) (h : upK t.ks 65536 = some (a, s)) : s.ents.getLast? = t.ents.getLast? := by
  rcases upT_at hw h with ⟨_, e⟩ | ⟨e, _⟩
  · cases e
  · exact last_entsL hw e

/-! ### over, New -/
def startS : Option T → List (T × Nat)
  | none => []
  | some t => [(t, 0)]
theorem start_bef (o : Option T) : Tr.bef (startS o) = [] ∧ Tr.aft (startS o) = Tr.entsO o := by
  cases o with
  | none => exact ⟨rfl, rfl⟩
  | some t =>
    refine ⟨?_, ?_⟩
    · show [] ++ Tr.fore t 0 = []
      rw [(Tr.fore_zero t).1]; rfl
    · show Tr.aftT t 0 ++ [] = t.ents
      rw [(Tr.fore_zero t).2, List.append_nil]
theorem over_c {w : World} {B C k : Nat} {o : Option T} (h : NodeO w B k o) (hB : B ≤ C) (hC : C ≤ w.heap.size) : Calls Tryz.prog 43 #[.pointer (rootP o)] w fun e w' => ∃ g D d kk, e = .returned (.pointer (some ⟨g, 0, none⟩)) ∧
    CurAt w' C g k kk o (startS o) D d ∧ Below w.heap.size w w' ∧ (∀ b, Cf g D b → w.heap.size ≤ b) := by
  cases o with
  | none =>
    go_enter Tryz.func43, Tryz.ntmps43
    simp only [rootP]
    go_wp2_with (go_at_call 48; refine (nK_nil _).mono ?_; rintro e w2 ⟨rfl, rfl⟩)
    go_ret
    refine ⟨w.heap.size, none, 0, 0, rfl, ⟨⟨heap_at w _ _ rfl, hC, ownL_none _ _ _, by simp⟩, rfl, fun x hx => by simp [startS] at hx, by simp; omega⟩, below_alloc w _, fun b hb => by rcases hb with rfl | hb; exact Nat.le_refl _; cases hb⟩
  | some t =>
    have hn := h t rfl
    obtain ⟨kp, hnd⟩ := hn.2.nd
    have HK := Lib.hid (nK_c hnd)
    have hal := below_alloc w (.cells #[.int .i64 (t.pre.length : Int), .pointer (some ⟨t.blk, 0, none⟩), .slice none 0 0] 95)
    have hm : CurM (w.alloc (.cells #[.int .i64 (t.pre.length : Int), .pointer (some ⟨t.blk, 0, none⟩), .slice none 0 0] 95)) C w.heap.size (t.pre.length : Int) (some ⟨t.blk, 0, none⟩) [] none 0 :=
      ⟨heap_at w _ _ rfl, hC, ownL_none _ _ _, by simp⟩
    have HS : Hid (Calls Tryz.prog 57 #[.pointer (some ⟨w.heap.size, 0, none⟩), .pointer (some ⟨t.blk, 0, none⟩), .int .i64 0] (w.alloc (.cells #[.int .i64 (t.pre.length : Int), .pointer (some ⟨t.blk, 0, none⟩), .slice none 0 0] 95)) fun e w' => e = .returned (.tuple #[]) ∧
      ∃ D' d', CurM w' C w.heap.size (t.pre.length : Int) (some ⟨t.blk, 0, none⟩) [(t, 0)] D' d' ∧ Foot (Cf w.heap.size none) (w.alloc (.cells #[.int .i64 (t.pre.length : Int), .pointer (some ⟨t.blk, 0, none⟩), .slice none 0 0] 95)) w' ∧ (∀ b, Cf w.heap.size D' b → Cf w.heap.size none b ∨ (w.alloc (.cells #[.int .i64 (t.pre.length : Int), .pointer (some ⟨t.blk, 0, none⟩), .slice none 0 0] 95)).heap.size ≤ b)) := Lib.hid (step_c hm (by simp) (Nat.le_trans hC hal.size) t 0)
    have HA := Lib.hid (And.intro hal (And.intro hn (And.intro hB hC)))
    clear h hn hnd hal hm hB hC
    go_enter Tryz.func43, Tryz.ntmps43
    simp only [rootP]
    go_wp2_with (first
      | (go_at_call 48; refine HK.out.mono ?_; rintro e w2 ⟨rfl, rfl⟩)
      | (go_at_call 57; refine HS.out.mono ?_; rintro e w5 ⟨rfl, D5, d5, hm5, hf5, hn5⟩))
    go_ret
    have hb5 : Below w.heap.size w w5 := HA.out.1.trans (hf5.below HA.out.1.size (fun b hb => by rcases hb with rfl | hb; exact Nat.le_refl _; cases hb))
    refine ⟨w.heap.size, D5, d5, _, rfl, ⟨hm5, rfl, fun x hx => ?_, Nat.le_trans HA.out.2.2.2 hb5.size⟩, hb5, fun b hb => by rcases hn5 b hb with (rfl | hb) | hb; exact Nat.le_refl _; cases hb; exact Nat.le_trans HA.out.1.size hb⟩
    have hx' : x = (t, 0) := by simpa [startS] using hx
    subst hx'
    exact ⟨HA.out.2.1.below hb5 (Nat.le_trans HA.out.2.2.1 HA.out.2.2.2) HA.out.2.2.1, by show (0 : Nat) ≤ 65536; omega⟩
theorem new_nil (w : World) : Calls Tryz.prog 22 #[.pointer none] w fun e w' => e = .returned (.pointer none) ∧ w = w' := by
  go_enter Tryz.func22, Tryz.ntmps22
  go_wp2
  go_ret
  exact ⟨rfl, rfl⟩
theorem CurAt.setK {w : World} {B g k : Nat} {kk : Int} {o : Option T} {S : List (T × Nat)} {D : Option Addr} {d : Nat} (h : CurAt w B g k kk o S D d) (k' : Int) : CurAt (w.setCell ⟨g, 0, none⟩ (.int .i64 k')) B g k k' o S D d := by
  have hb : Below B w (w.setCell ⟨g, 0, none⟩ (.int .i64 k')) := (Below.refl B w).setCell (p := ⟨g, 0, none⟩) h.mem.gB _
  exact ⟨⟨block_set h.mem.blk _, h.mem.gB, h.mem.stk.block fun q hq => Below.heap_setCell _ _ _ _ (fun e => h.mem.ne (by rw [own_block] at hq; rw [hq, e])), h.mem.ne⟩, h.chain,
    fun x hx => ⟨(h.nodes x hx).1.below hb (Nat.le_refl _) (Nat.le_refl _), (h.nodes x hx).2⟩, by simpa using h.size⟩
theorem new_c {w : World} {B C b k : Nat} {o : Option T} (h : TreeAt w B b k o) (hB : B ≤ C) (hC : C ≤ w.heap.size) : Calls Tryz.prog 22 #[.pointer (some ⟨b, 0, none⟩)] w fun e w' => ∃ g D d, e = .returned (.pointer (some ⟨g, 0, none⟩)) ∧
    CurAt w' C g k (k : Int) o (startS o) D d ∧ Below w.heap.size w w' ∧ (∀ b, Cf g D b → w.heap.size ≤ b) := by
  have H1 := Lib.hid (tRoot_c h.2.2.2.1)
  have H2 := Lib.hid (over_c h.2.2.2.2 hB hC)
  have H3 : Hid (∀ w2, Below w.heap.size w w2 → Calls Tryz.prog 54 #[.pointer (some ⟨b, 0, none⟩)] w2 fun e w' => e = .returned (.int .i64 (k : Int)) ∧ w2 = w') := Lib.hid fun w2 hb => tK_c (h.2.2.2.1.below hb (Nat.lt_of_lt_of_le h.1 (Nat.le_trans hB hC)))
  have HC := Lib.hid hC
  clear h hB hC
  go_enter Tryz.func22, Tryz.ntmps22
  go_wp2_with (first
    | (go_at_call 14; refine H1.out.mono ?_; rintro e w2 ⟨rfl, rfl⟩)
    | (go_at_call 43; refine H2.out.mono ?_; rintro e w2 ⟨g, D, d, kk, rfl, hc, hb, hg⟩; have hc0 := hc.mem.cells.1; have hf0 := frozen_of_row w2 g 0 _ _ hc.mem.blk; have H4 := Lib.hid (And.intro hc (And.intro hb hg)); clear hc hb hg)
    | (go_at_call 54; refine (H3.out _ H4.out.2.1).mono ?_; rintro e w' ⟨rfl, rfl⟩))
  go_ret
  exact ⟨g, D, d, rfl, H4.out.1.setK _, H4.out.2.1.setCell (p := ⟨g, 0, none⟩) (H4.out.2.2 g (.inl rfl)) _, H4.out.2.2⟩

theorem first_nil (w : World) : Calls Tryz.prog 15 #[.pointer none] w fun e w' => e = .returned (.tuple #[entryV none 0 0 0, .bool false]) ∧ Below w.heap.size w w' := by
  obtain ⟨b0, b1, f0, f1⟩ := box_cells (heap_at w (.cells #[.slice none 0 0, .int .u64 0] 36) _ rfl)
  have hal := below_alloc w (.cells #[.slice none 0 0, .int .u64 0] 36)
  have hbox : (w.alloc (.cells #[.slice none 0 0, .int .u64 0] 36)).heap[w.heap.size]? = some (.cells #[.slice none 0 0, .int .u64 0] 36 (0, 0)) := heap_at w _ _ rfl
  have H0 := Lib.hid (And.intro hal hbox)
  clear b0 b1 f0 f1 hal hbox
  go_enter Tryz.func15, Tryz.ntmps15
  go_wp2_with fail
  refine wp_scope_count 0 (fun _ a' w' => ∃ (u1 u4 u5 u6 u7 u8 u9 u10 u11 u12 u13 u14 u15 u16 u17 : Value), a' = { tmps := #[.pointer none, u1, .pointer (some ⟨w.heap.size, 0, none⟩), .bool false, u4, u5, u6, u7, u8, u9, u10, u11, u12, u13, u14, u15, u16, u17], defers := [] } ∧ w' = w.alloc (.cells #[.slice none 0 0, .int .u64 0] 36)) rfl ?first ?pass
  case first =>
    intro hp
    refine wp_seq (wp_label (hp 0 _ _ ⟨_, _, _, _, _, _, _, _, _, _, _, _, _, _, _, rfl, rfl⟩))
  case pass =>
    rintro m a' w' ⟨u1, u4, u5, u6, u7, u8, u9, u10, u11, u12, u13, u14, u15, u16, u17, rfl, rfl⟩
    go_wp2_with (first
      | (go_at_call 44; refine (nFrom_nil _ _).mono ?_; rintro e w2 ⟨rfl, rfl⟩)
      | (go_at_call 45; refine (nEntry_nil _).mono ?_; rintro e w4 ⟨rfl, hb4⟩; have hbox4 := (hb4.block _ (by simp)).trans H0.out.2; obtain ⟨b0, b1, f0, f1⟩ := box_cells hbox4; obtain ⟨r0, r1⟩ := res_cells hbox4 (.slice none 0 0) (.int .u64 0); have H4 := Lib.hid (Below.andThen H0.out.1 hb4); clear hb4 hbox4))
    simp only [Exit.jump]
    refine bodyPost_ret (v := .tuple #[entryV none 0 0 0, .bool false]) (by simp [results, Tryz.results15, go_sem, r0, r1]) rfl ?_
    exact ⟨rfl, res_below H4.out _ _⟩
set_option maxRecDepth 1000000 in
set_option maxHeartbeats 4000000 in
theorem first_c {w : World} {B k : Nat} {t : T} (h : Node w B k t) (hB : B ≤ w.heap.size) (hT : ∀ w', Below B w w' → Tz w') :
    Calls Tryz.prog 15 #[.pointer (some ⟨t.blk, 0, none⟩)] w fun e w' => ToldE w w' (List.head? t.ents) e ∧ Below w.heap.size w w' := by
  have hal := below_alloc w (.cells #[.slice none 0 0, .int .u64 0] 36)
  have H0 := Lib.hid (show Way1 w B k List.head? t t (w.alloc (.cells #[.slice none 0 0, .int .u64 0] 36)) from ⟨h, rfl, hal, heap_at w _ _ rfl⟩)
  have HX := Lib.hid (And.intro hB hT)
  clear h hB hal hT
  go_enter Tryz.func15, Tryz.ntmps15
  go_wp2_with fail
  refine wp_scope_count 0 (fun m a' w' => ∃ (s : T) (u1 u4 u5 u6 u7 u8 u9 u10 u11 u12 u13 u14 u15 u16 u17 : Value), a' = { tmps := #[.pointer (some ⟨s.blk, 0, none⟩), u1, .pointer (some ⟨w.heap.size, 0, none⟩), .bool false, u4, u5, u6, u7, u8, u9, u10, u11, u12, u13, u14, u15, u16, u17], defers := [] } ∧ Way1 w B k List.head? t s w' ∧ m = s.lv) rfl ?first ?pass
  case first =>
    intro hp
    refine wp_seq (wp_label (hp _ _ _ ⟨t, _, _, _, _, _, _, _, _, _, _, _, _, _, _, _, rfl, H0.out, rfl⟩))
  case pass =>
    rintro m a' w' ⟨s, u1, u4, u5, u6, u7, u8, u9, u10, u11, u12, u13, u14, u15, u16, u17, rfl, hw, hm⟩
    clear H0
    have hbel : Below B w w' := hw.bel.mono HX.out.1
    have hnd := hw.node.below hbel (Nat.le_refl _) (Nat.le_refl _)
    have hmem := hnd.2
    obtain ⟨kx, hkx⟩ : ∃ kx, s.ks[0]? = kx := ⟨_, rfl⟩
    have hT' := HX.out.2 w' hbel
    have HF : Hid (Calls Tryz.prog 44 #[.pointer (some ⟨s.blk, 0, none⟩), .int .i64 0] w' fun e w2 => e = .returned (atKid (kidP kx).1 (kidP kx).2) ∧ ∃ i, w2 = w'.drewN i) := Lib.hid (by
          have := nFrom_c hmem hT' ((0 : Nat) : Int) (by omega) (by omega) (kidP kx) (by rw [show Sl.idx s.ks ((0 : Nat) : Int) = 0 from Sl.idx_zero _, hkx])
          exact this)
    have HS := Lib.hid (And.intro hw (And.intro hm (And.intro hnd hkx)))
    clear hw hm hbel hnd hmem hkx hT'
    cases kx with
    | some y =>
      obtain ⟨a, s'⟩ := y
      have HF2 : Hid (Calls Tryz.prog 44 #[.pointer (some ⟨s.blk, 0, none⟩), .int .i64 0] w' fun e w2 => e = .returned (atKid a (some ⟨s'.blk, 0, none⟩)) ∧ ∃ i, w2 = w'.drewN i) := HF
      clear HF
      go_wp2_with (go_at_call 44; refine HF2.out.mono ?_; rintro e w2 ⟨rfl, i2, rfl⟩)
      go_step3
      obtain ⟨hw, hm, hnd, hkx⟩ := HS.out
      have hsub : (a, s') ∈ s.ks := List.mem_of_getElem? hkx
      have hs' : Node w B k s' := by
        obtain ⟨g', l, pre, ks, rfl⟩ := Tr.ks_br hsub
        exact hw.node.kid hsub
      exact ⟨rfl, s'.lv, by rw [hm]; exact (hw.node.1.sub hsub).2, s', _, _, _, _, _, _, _, _, _, _, _, _, _, _, _, rfl, ⟨hs', (head_entsL hw.node.1 hkx).trans hw.ends, below_drewN i2 hw.bel, hw.box⟩, rfl⟩
    | none =>
      have HF2 : Hid (Calls Tryz.prog 44 #[.pointer (some ⟨s.blk, 0, none⟩), .int .i64 0] w' fun e w2 => e = .returned (atKid 0 none) ∧ ∃ i, w2 = w'.drewN i) := HF
      clear HF
      obtain ⟨eb, p, v, hse⟩ := ks_ent HS.out.1.node.1 (by have := List.getElem?_eq_none_iff.1 HS.out.2.2.2; exact List.eq_nil_of_length_eq_zero (by omega))
      subst hse
      have HN : Hid (∀ i, NdAt (w'.drewN i) B eb (-1) p v none (Tr.s1 v)) := Lib.hid fun i => by cases HS.out.2.2.1.2 with | ent _ _ _ h => exact h
      have hpl : p ≠ [] ∧ p.length ≤ 1000000 := by
        cases HS.out.1.node.1 with
        | ent _ _ _ k1 k16 hl ho hv => exact ⟨by intro e; rw [e] at hl; simp at hl; omega, by omega⟩
      have HP := Lib.hid hpl
      have HB : Hid (∀ i, B ≤ (w'.drewN i).heap.size) := Lib.hid fun i => Nat.le_trans HX.out.1 HS.out.1.bel.size
      clear hpl
      simp only [T.blk] at HF2 ⊢
      go_wp2_with (first
        | (go_at_call 44; refine HF2.out.mono ?_; rintro e w2 ⟨rfl, i2, rfl⟩)
        | (go_at_call 45; refine (nEntry_ent (HN.out _) (HB.out _) HP.out.1 HP.out.2).mono ?_; rintro e w4 ⟨hh, dd, rfl, ho4, hb4⟩; have hbox4 := (hb4.block w.heap.size HS.out.1.lt).trans HS.out.1.box; obtain ⟨b0, b1, f0, f1⟩ := box_cells hbox4; obtain ⟨r0, r1⟩ := res_cells hbox4 (.slice (some ⟨hh, 0, none⟩) p.length dd) (.int .u64 (v : Int)); have H4 := Lib.hid (And.intro ho4 (Below.andThen (below_drewN i2 HS.out.1.bel) hb4)); clear ho4 hb4 hbox4))
      simp only [Exit.jump]
      refine bodyPost_ret (v := .tuple #[entryV (some ⟨hh, 0, none⟩) p.length dd v, .bool true]) (by simp [results, Tryz.results15, go_sem, r0, r1]) rfl ?_
      have hx : List.head? t.ents = some (p, v) := by rw [← HS.out.1.ends, Tr.ents_ent]; rfl
      rw [hx]
      exact ⟨told_res (W := w'.drewN i2) HS.out.1.lt H4.out.1 _ _, res_below H4.out.2 _ _⟩

theorem lastE_nil (w : World) : Calls Tryz.prog 16 #[.pointer none] w fun e w' => e = .returned (.tuple #[entryV none 0 0 0, .bool false]) ∧ Below w.heap.size w w' := by
  obtain ⟨b0, b1, f0, f1⟩ := box_cells (heap_at w (.cells #[.slice none 0 0, .int .u64 0] 36) _ rfl)
  have hal := below_alloc w (.cells #[.slice none 0 0, .int .u64 0] 36)
  have hbox : (w.alloc (.cells #[.slice none 0 0, .int .u64 0] 36)).heap[w.heap.size]? = some (.cells #[.slice none 0 0, .int .u64 0] 36 (0, 0)) := heap_at w _ _ rfl
  have H0 := Lib.hid (And.intro hal hbox)
  clear b0 b1 f0 f1 hal hbox
  go_enter Tryz.func16, Tryz.ntmps16
  go_wp2_with fail
  refine wp_scope_count 0 (fun _ a' w' => ∃ (u1 u4 u5 u6 u7 u8 u9 u10 u11 u12 u13 u14 u15 u16 u17 : Value), a' = { tmps := #[.pointer none, u1, .pointer (some ⟨w.heap.size, 0, none⟩), .bool false, u4, u5, u6, u7, u8, u9, u10, u11, u12, u13, u14, u15, u16, u17], defers := [] } ∧ w' = w.alloc (.cells #[.slice none 0 0, .int .u64 0] 36)) rfl ?first ?pass
  case first =>
    intro hp
    refine wp_seq (wp_label (hp 0 _ _ ⟨_, _, _, _, _, _, _, _, _, _, _, _, _, _, _, rfl, rfl⟩))
  case pass =>
    rintro m a' w' ⟨u1, u4, u5, u6, u7, u8, u9, u10, u11, u12, u13, u14, u15, u16, u17, rfl, rfl⟩
    go_wp2_with (first
      | (go_at_call 46; refine (nUpTo_nil _ _).mono ?_; rintro e w2 ⟨rfl, rfl⟩)
      | (go_at_call 45; refine (nEntry_nil _).mono ?_; rintro e w4 ⟨rfl, hb4⟩; have hbox4 := (hb4.block _ (by simp)).trans H0.out.2; obtain ⟨b0, b1, f0, f1⟩ := box_cells hbox4; obtain ⟨r0, r1⟩ := res_cells hbox4 (.slice none 0 0) (.int .u64 0); have H4 := Lib.hid (Below.andThen H0.out.1 hb4); clear hb4 hbox4))
    simp only [Exit.jump]
    refine bodyPost_ret (v := .tuple #[entryV none 0 0 0, .bool false]) (by simp [results, Tryz.results16, go_sem, r0, r1]) rfl ?_
    exact ⟨rfl, res_below H4.out _ _⟩
set_option maxRecDepth 1000000 in
set_option maxHeartbeats 4000000 in
theorem lastE_c {w : World} {B k : Nat} {t : T} (h : Node w B k t) (hB : B ≤ w.heap.size) :
    Calls Tryz.prog 16 #[.pointer (some ⟨t.blk, 0, none⟩)] w fun e w' => ToldE w w' (List.getLast? t.ents) e ∧ Below w.heap.size w w' := by
  have hal := below_alloc w (.cells #[.slice none 0 0, .int .u64 0] 36)
  have H0 := Lib.hid (show Way1 w B k List.getLast? t t (w.alloc (.cells #[.slice none 0 0, .int .u64 0] 36)) from ⟨h, rfl, hal, heap_at w _ _ rfl⟩)
  have HX := Lib.hid hB
  clear h hB hal 
  go_enter Tryz.func16, Tryz.ntmps16
  go_wp2_with fail
  refine wp_scope_count 0 (fun m a' w' => ∃ (s : T) (u1 u4 u5 u6 u7 u8 u9 u10 u11 u12 u13 u14 u15 u16 u17 : Value), a' = { tmps := #[.pointer (some ⟨s.blk, 0, none⟩), u1, .pointer (some ⟨w.heap.size, 0, none⟩), .bool false, u4, u5, u6, u7, u8, u9, u10, u11, u12, u13, u14, u15, u16, u17], defers := [] } ∧ Way1 w B k List.getLast? t s w' ∧ m = s.lv) rfl ?first ?pass
  case first =>
    intro hp
    refine wp_seq (wp_label (hp _ _ _ ⟨t, _, _, _, _, _, _, _, _, _, _, _, _, _, _, _, rfl, H0.out, rfl⟩))
  case pass =>
    rintro m a' w' ⟨s, u1, u4, u5, u6, u7, u8, u9, u10, u11, u12, u13, u14, u15, u16, u17, rfl, hw, hm⟩
    clear H0
    have hbel : Below B w w' := hw.bel.mono HX.out
    have hnd := hw.node.below hbel (Nat.le_refl _) (Nat.le_refl _)
    have hmem := hnd.2
    obtain ⟨kx, hkx⟩ : ∃ kx, upK s.ks 65536 = kx := ⟨_, rfl⟩
    
    have HF : Hid (Calls Tryz.prog 46 #[.pointer (some ⟨s.blk, 0, none⟩), .int .i64 65536] w' fun e w2 => e = .returned (atKid (kidP kx).1 (kidP kx).2) ∧ ∃ i, w2 = w'.drewN i) := Lib.hid (nUpTo_k hmem 65536 (kidP kx) (by rw [hkx]))
    have HS := Lib.hid (And.intro hw (And.intro hm (And.intro hnd hkx)))
    clear hw hm hbel hnd hmem hkx 
    cases kx with
    | some y =>
      obtain ⟨a, s'⟩ := y
      have HF2 : Hid (Calls Tryz.prog 46 #[.pointer (some ⟨s.blk, 0, none⟩), .int .i64 65536] w' fun e w2 => e = .returned (atKid a (some ⟨s'.blk, 0, none⟩)) ∧ ∃ i, w2 = w'.drewN i) := HF
      clear HF
      go_wp2_with (go_at_call 46; refine HF2.out.mono ?_; rintro e w2 ⟨rfl, i2, rfl⟩)
      go_step3
      obtain ⟨hw, hm, hnd, hkx⟩ := HS.out
      have hsub : (a, s') ∈ s.ks := upT_mem hkx
      have hs' : Node w B k s' := by
        obtain ⟨g', l, pre, ks, rfl⟩ := Tr.ks_br hsub
        exact hw.node.kid hsub
      exact ⟨rfl, s'.lv, by rw [hm]; exact (hw.node.1.sub hsub).2, s', _, _, _, _, _, _, _, _, _, _, _, _, _, _, _, rfl, ⟨hs', (upK_last hw.node.1 hkx).trans hw.ends, below_drewN i2 hw.bel, hw.box⟩, rfl⟩
    | none =>
      have HF2 : Hid (Calls Tryz.prog 46 #[.pointer (some ⟨s.blk, 0, none⟩), .int .i64 65536] w' fun e w2 => e = .returned (atKid 0 none) ∧ ∃ i, w2 = w'.drewN i) := HF
      clear HF
      obtain ⟨eb, p, v, hse⟩ := ks_ent HS.out.1.node.1 (upT_none HS.out.1.node.1 HS.out.2.2.2)
      subst hse
      have HN : Hid (∀ i, NdAt (w'.drewN i) B eb (-1) p v none (Tr.s1 v)) := Lib.hid fun i => by cases HS.out.2.2.1.2 with | ent _ _ _ h => exact h
      have hpl : p ≠ [] ∧ p.length ≤ 1000000 := by
        cases HS.out.1.node.1 with
        | ent _ _ _ k1 k16 hl ho hv => exact ⟨by intro e; rw [e] at hl; simp at hl; omega, by omega⟩
      have HP := Lib.hid hpl
      have HB : Hid (∀ i, B ≤ (w'.drewN i).heap.size) := Lib.hid fun i => Nat.le_trans HX.out HS.out.1.bel.size
      clear hpl
      simp only [T.blk] at HF2 ⊢
      go_wp2_with (first
        | (go_at_call 46; refine HF2.out.mono ?_; rintro e w2 ⟨rfl, i2, rfl⟩)
        | (go_at_call 45; refine (nEntry_ent (HN.out _) (HB.out _) HP.out.1 HP.out.2).mono ?_; rintro e w4 ⟨hh, dd, rfl, ho4, hb4⟩; have hbox4 := (hb4.block w.heap.size HS.out.1.lt).trans HS.out.1.box; obtain ⟨b0, b1, f0, f1⟩ := box_cells hbox4; obtain ⟨r0, r1⟩ := res_cells hbox4 (.slice (some ⟨hh, 0, none⟩) p.length dd) (.int .u64 (v : Int)); have H4 := Lib.hid (And.intro ho4 (Below.andThen (below_drewN i2 HS.out.1.bel) hb4)); clear ho4 hb4 hbox4))
      simp only [Exit.jump]
      refine bodyPost_ret (v := .tuple #[entryV (some ⟨hh, 0, none⟩) p.length dd v, .bool true]) (by simp [results, Tryz.results16, go_sem, r0, r1]) rfl ?_
      have hx : List.getLast? t.ents = some (p, v) := by rw [← HS.out.1.ends, Tr.ents_ent]; rfl
      rw [hx]
      exact ⟨told_res (W := w'.drewN i2) HS.out.1.lt H4.out.1 _ _, res_below H4.out.2 _ _⟩
end Go.Proofs.YtccefboifhfkdaaGreatDoor

/-
  CONTRACTS of package walk: down, whoever is told each node that is met, and the address at which the way goes on. Laid by wip/gen22.py.
-/
namespace Go.Proofs.YtccefboifhfkdaaGreatDoor
open Go.ChangeShapes Go.WideShapes Go.ChangeAt Go.RowKit
open Tr (T S4 Ent)

theorem way_node {w : World} {B k : Nat} {p : List Nat} {o o' : Option T} {us : List (T × Nat)} (ho : ∀ t, o = some t → Node w B k t) (h : Tr.Way p o us o') : ∀ t, o' = some t → Node w B k t := by
  induction h with
  | start => exact ho
  | @step us t h hl hc ih =>
    intro s hs
    have hm := Tr.kidAt_mem hs
    have ht := ih t rfl
    obtain ⟨g', l, pre, ks, rfl⟩ := Tr.ks_br hm
    exact ht.kid hm
theorem way_nodes {w : World} {B k : Nat} {p : List Nat} {o o' : Option T} {us : List (T × Nat)} (ho : ∀ t, o = some t → Node w B k t) (h : Tr.Way p o us o') : ∀ x ∈ us, Node w B k x.1 := by
  induction h with
  | start => intro x hx; cases hx
  | @step us t h hl hc ih =>
    intro x hx
    rcases List.mem_cons.1 hx with rfl | hx
    · exact way_node ho h t rfl
    · exact ih x hx

/-- whoever is told each node that is met -/
structure VisitA (fid g B k : Nat) (Inv : List (T × Nat) → World → (Nat → Prop) → Prop) : Prop where
  ent : ∀ args w, (callFunc fid args).run Tryz.prog w = .ok (.enter fid args) w
  frame : ∀ us w w' F, Inv us w F → w.heap.size ≤ w'.heap.size → (∀ b, F b → w'.heap[b]? = w.heap[b]?) → Below B w w' → Inv us w' F
  inb : ∀ us w F, Inv us w F → ∀ b, F b → b < w.heap.size ∧ B ≤ b
  call : ∀ us w F t (a : Nat), Inv us w F → Node w B k t → B ≤ w.heap.size → us.length ≤ 64 → t.lv ≠ 0 → a < 65536 → Calls Tryz.prog fid #[.pointer (some ⟨t.blk, 0, none⟩), .int .i64 (a : Int), .pointer (some ⟨g, 0, none⟩)] w fun e w' =>
    e = .returned (.tuple #[]) ∧ ∃ F', Inv ((t, a) :: us) w' F' ∧ (∀ b, F' b → F b ∨ w.heap.size ≤ b) ∧ Foot F w w'
set_option maxRecDepth 1000000 in
set_option maxHeartbeats 4000000 in
theorem wdownA_c {fid g B k : Nat} {Inv : List (T × Nat) → World → (Nat → Prop) → Prop} (hv : VisitA fid g B k Inv) {w : World} {F : Nat → Prop} (hI : Inv [] w F) {o : Option T} (hn : NodeO w B k o) (hB : B ≤ w.heap.size)
    {p : List Nat} {A : Option Addr} {c : Nat} (hp : Pts w B A p) (hl : p.length = k) (h1 : 1 ≤ k) (h16 : k ≤ 16) :
    Calls Tryz.prog 50 #[.agg #[.func (.func fid) #[] #[.pointer (some ⟨g, 0, none⟩)]], .pointer (rootP o), .slice A p.length c] w fun e w' => ∃ us o', Tr.Way p o us o' ∧ Tr.Stop p o' ∧
      e = .returned (.pointer (rootP o')) ∧ ∃ F', Inv us w' F' ∧ (∀ b, F' b → F b ∨ w.heap.size ≤ b) ∧ Foot F w w' := by
  have hent := hv.ent
  have HV := Lib.hid hv
  have HX := Lib.hid (And.intro hn (And.intro hB (And.intro hp (And.intro hl (And.intro h1 h16)))))
  have hal := below_alloc w (.cells #[.func (.func fid) #[] #[.pointer (some ⟨g, 0, none⟩)]] 89)
  have hI0 := HV.out.frame _ _ (w.alloc (.cells #[.func (.func fid) #[] #[.pointer (some ⟨g, 0, none⟩)]] 89)) _ hI hal.size (fun b hb => hal.block b (HV.out.inb _ _ _ hI b hb).1) (hal.mono hB)
  have hx0 : (w.alloc (.cells #[.func (.func fid) #[] #[.pointer (some ⟨g, 0, none⟩)]] 89)).heap[w.heap.size]? = some (.cells #[.func (.func fid) #[] #[.pointer (some ⟨g, 0, none⟩)]] 89 (0, 0)) := heap_at w _ _ rfl
  have hF0 : ¬ F w.heap.size := fun h => by have := (HV.out.inb _ _ _ hI _ h).1; omega
  have H0 := Lib.hid (And.intro hI0 (And.intro hx0 (And.intro hF0 (And.intro (Foot.of_below (F := F) hal) hI))))
  clear hv hn hB hp hl h1 h16 hI hal hI0 hx0 hF0
  go_enter Tryz.func50, Tryz.ntmps50
  go_wp2_with fail
  refine wp_scope_count 0 (fun m a' w' => ∃ (us : List (T × Nat)) (o' : Option T) (F' : Nat → Prop) (u4 u5 u7 u8 u9 u10 u11 u12 u13 u14 u15 u16 u17 u18 u19 u20 u21 u22 u23 u24 u25 u26 u27 u28 u29 u30 u31 u32 u33 : Value), a' = { tmps := #[.agg #[.func (.func fid) #[] #[.pointer (some ⟨g, 0, none⟩)]], .pointer (rootP o'), .slice A p.length c, .pointer (some ⟨w.heap.size, 0, none⟩), u4, u5, .pointer none, u7, u8, u9, u10, u11, u12, u13, u14, u15, u16, u17, u18, u19, u20, u21, u22, u23, u24, u25, u26, u27, u28, u29, u30, u31, u32, u33], defers := [] } ∧
      Tr.Way p o us o' ∧ Inv us w' F' ∧ (∀ b, F' b → F b ∨ w.heap.size ≤ b) ∧ Foot F w w' ∧ w'.heap[w.heap.size]? = some (.cells #[.func (.func fid) #[] #[.pointer (some ⟨g, 0, none⟩)]] 89 (0, 0)) ∧ ¬ F' w.heap.size ∧ m + us.length = 65) rfl ?first ?pass
  case first =>
    intro hp
    refine wp_seq (wp_label (hp 65 _ _ ⟨[], o, F, _, _, _, _, _, _, _, _, _, _, _, _, _, _, _, _, _, _, _, _, _, _, _, _, _, _, _, _, _, rfl, .start, H0.out.1, fun b hb => .inl hb, H0.out.2.2.2.1, H0.out.2.1, H0.out.2.2.1, rfl⟩))
  case pass =>
    rintro m a' w' ⟨us, o', F', u4, u5, u7, u8, u9, u10, u11, u12, u13, u14, u15, u16, u17, u18, u19, u20, u21, u22, u23, u24, u25, u26, u27, u28, u29, u30, u31, u32, u33, rfl, hway, hinv, hF', hfoot, hbox, hnF, hm⟩
    cases o' with
    | none =>
      have HR := Lib.hid (And.intro hway (And.intro hinv (And.intro hF' hfoot)))
      clear hway hinv hF' hfoot hbox hnF H0 hm
      simp only [rootP]
      go_wp2_with (go_at_call 56; refine (nLevel_nil _).mono ?_; rintro e w2 ⟨rfl, rfl⟩)
      simp only [Exit.jump]
      go_ret
      exact ⟨us, none, HR.out.1, trivial, rfl, F', HR.out.2.1, HR.out.2.2.1, HR.out.2.2.2⟩
    | some t =>
      have hfo := hfoot.below HX.out.2.1 (fun b hb => (HV.out.inb [] w F H0.out.2.2.2.2 b hb).2)
      have hnt0 := (hway.wf (fun t e => (HX.out.1 t e).1)).1 t rfl
      have hnt : Node w' B k t := way_node (fun t e => (HX.out.1 t e).below hfo (Nat.le_refl _) (Nat.le_refl _)) hway t rfl
      have hpt := HX.out.2.2.1.below' hfo (Nat.le_refl _)
      have hBw := Nat.le_trans HX.out.2.1 hfo.size
      obtain ⟨kp, hnd⟩ := hnt.2.nd
      have hlen : t.pre.length = k := hnt.1.len
      obtain ⟨lv, hlv⟩ : ∃ lv, levI t = lv := ⟨_, rfl⟩
      rw [hlv] at hnd
      have HL := Lib.hid hnd
      by_cases h0 : t.lv = 0
      · have d1 : decide (lv < 0) = true := decide_eq_true (by rw [← hlv]; simp only [levI, h0]; omega)
        have HR := Lib.hid (And.intro hway (And.intro hinv (And.intro hF' (And.intro hfoot h0))))
        clear hway hinv hF' hfoot hbox hnF H0 hnd hnt hnt0 hpt hlen hlv h0 hm hBw hfo
        simp only [rootP]
        go_wp2_with (go_at_call 56; refine (nLevel_c HL.out).mono ?_; rintro e w2 ⟨rfl, rfl⟩)
        simp only [Exit.jump]
        go_ret
        exact ⟨us, some t, HR.out.1, .inl HR.out.2.2.2.2, rfl, F', HR.out.2.1, HR.out.2.2.1, HR.out.2.2.2.1⟩
      · have d1 : decide (lv < 0) = false := decide_eq_false (by rw [← hlv]; simp only [levI]; omega)
        obtain ⟨r, hr⟩ : ∃ r, Tr.covers t p = r := ⟨_, rfl⟩
        have HC := Lib.hid (nCovers_c hnd (by rw [hlen]; exact HX.out.2.2.2.2.1) (by rw [hlen]; exact HX.out.2.2.2.2.2) A p c hpt (by rw [hlen, HX.out.2.2.2.1]) r (by rw [← hlv]; exact covers_eq hr))
        cases r with
        | false =>
          have HR := Lib.hid (And.intro hway (And.intro hinv (And.intro hF' (And.intro hfoot hr))))
          clear hway hinv hF' hfoot hbox hnF H0 hnd hnt hnt0 hpt hlen hr hlv h0 hm hBw hfo
          simp only [rootP]
          go_wp2_with (first
            | (go_at_call 56; refine (nLevel_c HL.out).mono ?_; rintro e w2 ⟨rfl, rfl⟩)
            | (go_at_call 92; refine HC.out.mono ?_; rintro e w2 ⟨rfl, rfl⟩))
          simp only [Exit.jump]
          go_ret
          exact ⟨us, some t, HR.out.1, .inr HR.out.2.2.2.2, rfl, F', HR.out.2.1, HR.out.2.2.1, HR.out.2.2.2.1⟩
        | true =>
          obtain ⟨q, l, pre, ks, rfl⟩ : ∃ g l pre ks, t = .br g l pre ks := by
            cases t with
            | ent => exact absurd rfl h0
            | br g l pre ks => exact ⟨g, l, pre, ks, rfl⟩
          have hlvl : lv = (l : Int) := by rw [← hlv]; show ((l + 1 : Nat) : Int) - 1 = l; omega
          subst hlvl
          have h63 : l ≤ 63 := by cases hnt.1 with | br _ _ _ _ h63 => exact h63
          have hus := (hway.len (fun t e => (HX.out.1 t e).1)).1
          have ha16 : Z.addr p l < 65536 := Nat.lt_of_lt_of_le (Z.addr_bound p l) (by rw [HX.out.2.2.2.1]; exact Nat.pow_le_pow_right (n := 2) (by omega) HX.out.2.2.2.2.2)
          have HF := Lib.hid (HV.out.call us w' F' (.br q l pre ks) (Z.addr p l) hinv hnt hBw hus h0 ha16)
          have HA := Lib.hid (addr_yes A c p l B w' hpt (by rw [HX.out.2.2.2.1]; exact HX.out.2.2.2.2.1) (by rw [HX.out.2.2.2.1]; exact HX.out.2.2.2.2.2) h63)
          have hxlt : w.heap.size < w'.heap.size := (Array.getElem?_eq_some_iff.1 hbox).1
          have HK : Hid (∀ w2, Below B w' w2 → Calls Tryz.prog 94 #[.pointer (some ⟨q, 0, none⟩), .int .i64 (Z.addr p l : Int)] w2 fun e w3 => e = .returned (.pointer (rootP (Tr.kidAt (.br q l pre ks) p))) ∧ ∃ i, w3 = w2.drewN i) := Lib.hid fun w2 hb2 => by
            have h2 := hnt.below hb2 (Nat.le_refl _) (Nat.le_refl _)
            obtain ⟨b, h3, h4⟩ : ∃ b, NdAt w2 B q (l : Int) pre 0 (some ⟨b, 0, none⟩) (Tr.sums (Tr.entsL ks)) ∧ Sn.At w2 B b k (kidL ks) := by cases h2.2 with | br _ _ _ _ b h ha hk => exact ⟨b, h, ha⟩
            exact nKid_br h3 h4 (Z.addr p l : Int) (rootP (Tr.kidAt (.br q l pre ks) p)) (rootP_kid _)
          have HR := Lib.hid (And.intro hway (And.intro hinv (And.intro hF' (And.intro hfoot (And.intro hr (And.intro hbox (And.intro hnF (And.intro hm (And.intro h0 (And.intro hBw hxlt))))))))))
          have q0 : w'.cell? ⟨w.heap.size, 0, none⟩ = some (.func (.func fid) #[] #[.pointer (some ⟨g, 0, none⟩)]) := by rw [cell_of_row w' _ _ _ _ (0, 0) hbox]; rfl
          have hip : (0 : Int) ≤ (l : Int) := by omega
          clear hway hinv hF' hfoot hbox hnF H0 hnd hnt hnt0 hpt hlen hr hlv h0 hm hBw hfo hus ha16 h63 hxlt
          simp only [rootP, T.blk]
          simp only [T.blk] at HL HC HF
          go_wp2_with (first
            | (go_at_call 56; refine (nLevel_c HL.out).mono ?_; rintro e w2 ⟨rfl, rfl⟩)
            | (go_at_call 92; refine HC.out.mono ?_; rintro e w2 ⟨rfl, rfl⟩)
            | (go_at_call 93; refine HA.out.mono ?_; rintro e w2 ⟨rfl, rfl⟩))
          refine HF.out.mono ?_
          rintro e w2 ⟨rfl, F2, hi2, hF2, hfo2⟩
          have HR2 := Lib.hid (And.intro hi2 (And.intro hF2 hfo2))
          have hb2 : Below B w' w2 := hfo2.below HR.out.2.2.2.2.2.2.2.2.2.1 (fun b hb => (HV.out.inb _ _ _ HR.out.2.1 b hb).2)
          clear hi2 hF2 hfo2 q0 HF
          go_wp2_with (go_at_call 94; refine (HK.out _ hb2).mono ?_; rintro e w3 ⟨rfl, n3, rfl⟩)
          go_step3
          obtain ⟨hway, hinv, hF', hfoot, hr, hbox, hnF, hm, h0, hBw, hxlt⟩ := HR.out
          obtain ⟨hi2, hF2, hfo2⟩ := HR2.out
          have hw2 : Tr.Way p o ((.br q l pre ks, Z.addr p l) :: us) (Tr.kidAt (.br q l pre ks) p) := .step hway h0 hr
          have hl2 := (hw2.len (fun t e => (HX.out.1 t e).1)).1
          rw [List.length_cons] at hl2
          refine ⟨rfl, m - 1, by omega, _, Tr.kidAt (.br q l pre ks) p, F2, _, _, _, _, _, _, _, _, _, _, _, _, _, _, _, _, _, _, _, _, _, _, _, _, _, _, _, _, _, rfl, hw2, HV.out.frame _ w2 (w2.drewN n3) _ hi2 (Nat.le_refl _) (fun _ _ => rfl) (below_drewN n3 (Below.refl _ _)), fun b hb => ?_, (hfoot.trans hfo2 hF').drewN _, (hfo2.block _ hxlt hnF).trans hbox, fun hb => ?_, by rw [List.length_cons]; omega⟩
          · rcases hF2 b hb with hb | hb
            · exact hF' b hb
            · exact .inr (Nat.le_trans hfoot.size hb)
          · rcases hF2 _ hb with hb | hb
            · exact hnF hb
            · omega

/-- whoever is told each node that is met -/
structure VisitB (fid g B k : Nat) (Inv : List (T × Nat) → World → (Nat → Prop) → Prop) : Prop where
  ent : ∀ args w, (callFunc fid args).run Tryz.prog w = .ok (.enter fid args) w
  frame : ∀ us w w' F, Inv us w F → w.heap.size ≤ w'.heap.size → (∀ b, F b → w'.heap[b]? = w.heap[b]?) → Below B w w' → Inv us w' F
  inb : ∀ us w F, Inv us w F → ∀ b, F b → b < w.heap.size ∧ B ≤ b
  call : ∀ us w F t (a : Nat), Inv us w F → Node w B k t → B ≤ w.heap.size → us.length ≤ 64 → t.lv ≠ 0 → a < 65536 → Calls Tryz.prog fid #[.pointer (some ⟨g, 0, none⟩), .pointer (some ⟨t.blk, 0, none⟩), .int .i64 (a : Int)] w fun e w' =>
    e = .returned (.tuple #[]) ∧ ∃ F', Inv ((t, a) :: us) w' F' ∧ (∀ b, F' b → F b ∨ w.heap.size ≤ b) ∧ Foot F w w'
set_option maxRecDepth 1000000 in
set_option maxHeartbeats 4000000 in
theorem wdownB_c {fid g B k : Nat} {Inv : List (T × Nat) → World → (Nat → Prop) → Prop} (hv : VisitB fid g B k Inv) {w : World} {F : Nat → Prop} (hI : Inv [] w F) {o : Option T} (hn : NodeO w B k o) (hB : B ≤ w.heap.size)
    {p : List Nat} {A : Option Addr} {c : Nat} (hp : Pts w B A p) (hl : p.length = k) (h1 : 1 ≤ k) (h16 : k ≤ 16) :
    Calls Tryz.prog 50 #[.agg #[.func (.func fid) #[.pointer (some ⟨g, 0, none⟩)] #[]], .pointer (rootP o), .slice A p.length c] w fun e w' => ∃ us o', Tr.Way p o us o' ∧ Tr.Stop p o' ∧
      e = .returned (.pointer (rootP o')) ∧ ∃ F', Inv us w' F' ∧ (∀ b, F' b → F b ∨ w.heap.size ≤ b) ∧ Foot F w w' := by
  have hent := hv.ent
  have HV := Lib.hid hv
  have HX := Lib.hid (And.intro hn (And.intro hB (And.intro hp (And.intro hl (And.intro h1 h16)))))
  have hal := below_alloc w (.cells #[.func (.func fid) #[.pointer (some ⟨g, 0, none⟩)] #[]] 89)
  have hI0 := HV.out.frame _ _ (w.alloc (.cells #[.func (.func fid) #[.pointer (some ⟨g, 0, none⟩)] #[]] 89)) _ hI hal.size (fun b hb => hal.block b (HV.out.inb _ _ _ hI b hb).1) (hal.mono hB)
  have hx0 : (w.alloc (.cells #[.func (.func fid) #[.pointer (some ⟨g, 0, none⟩)] #[]] 89)).heap[w.heap.size]? = some (.cells #[.func (.func fid) #[.pointer (some ⟨g, 0, none⟩)] #[]] 89 (0, 0)) := heap_at w _ _ rfl
  have hF0 : ¬ F w.heap.size := fun h => by have := (HV.out.inb _ _ _ hI _ h).1; omega
  have H0 := Lib.hid (And.intro hI0 (And.intro hx0 (And.intro hF0 (And.intro (Foot.of_below (F := F) hal) hI))))
  clear hv hn hB hp hl h1 h16 hI hal hI0 hx0 hF0
  go_enter Tryz.func50, Tryz.ntmps50
  go_wp2_with fail
  refine wp_scope_count 0 (fun m a' w' => ∃ (us : List (T × Nat)) (o' : Option T) (F' : Nat → Prop) (u4 u5 u7 u8 u9 u10 u11 u12 u13 u14 u15 u16 u17 u18 u19 u20 u21 u22 u23 u24 u25 u26 u27 u28 u29 u30 u31 u32 u33 : Value), a' = { tmps := #[.agg #[.func (.func fid) #[.pointer (some ⟨g, 0, none⟩)] #[]], .pointer (rootP o'), .slice A p.length c, .pointer (some ⟨w.heap.size, 0, none⟩), u4, u5, .pointer none, u7, u8, u9, u10, u11, u12, u13, u14, u15, u16, u17, u18, u19, u20, u21, u22, u23, u24, u25, u26, u27, u28, u29, u30, u31, u32, u33], defers := [] } ∧
      Tr.Way p o us o' ∧ Inv us w' F' ∧ (∀ b, F' b → F b ∨ w.heap.size ≤ b) ∧ Foot F w w' ∧ w'.heap[w.heap.size]? = some (.cells #[.func (.func fid) #[.pointer (some ⟨g, 0, none⟩)] #[]] 89 (0, 0)) ∧ ¬ F' w.heap.size ∧ m + us.length = 65) rfl ?first ?pass
  case first =>
    intro hp
    refine wp_seq (wp_label (hp 65 _ _ ⟨[], o, F, _, _, _, _, _, _, _, _, _, _, _, _, _, _, _, _, _, _, _, _, _, _, _, _, _, _, _, _, _, rfl, .start, H0.out.1, fun b hb => .inl hb, H0.out.2.2.2.1, H0.out.2.1, H0.out.2.2.1, rfl⟩))
  case pass =>
    rintro m a' w' ⟨us, o', F', u4, u5, u7, u8, u9, u10, u11, u12, u13, u14, u15, u16, u17, u18, u19, u20, u21, u22, u23, u24, u25, u26, u27, u28, u29, u30, u31, u32, u33, rfl, hway, hinv, hF', hfoot, hbox, hnF, hm⟩
    cases o' with
    | none =>
      have HR := Lib.hid (And.intro hway (And.intro hinv (And.intro hF' hfoot)))
      clear hway hinv hF' hfoot hbox hnF H0 hm
      simp only [rootP]
      go_wp2_with (go_at_call 56; refine (nLevel_nil _).mono ?_; rintro e w2 ⟨rfl, rfl⟩)
      simp only [Exit.jump]
      go_ret
      exact ⟨us, none, HR.out.1, trivial, rfl, F', HR.out.2.1, HR.out.2.2.1, HR.out.2.2.2⟩
    | some t =>
      have hfo := hfoot.below HX.out.2.1 (fun b hb => (HV.out.inb [] w F H0.out.2.2.2.2 b hb).2)
      have hnt0 := (hway.wf (fun t e => (HX.out.1 t e).1)).1 t rfl
      have hnt : Node w' B k t := way_node (fun t e => (HX.out.1 t e).below hfo (Nat.le_refl _) (Nat.le_refl _)) hway t rfl
      have hpt := HX.out.2.2.1.below' hfo (Nat.le_refl _)
      have hBw := Nat.le_trans HX.out.2.1 hfo.size
      obtain ⟨kp, hnd⟩ := hnt.2.nd
      have hlen : t.pre.length = k := hnt.1.len
      obtain ⟨lv, hlv⟩ : ∃ lv, levI t = lv := ⟨_, rfl⟩
      rw [hlv] at hnd
      have HL := Lib.hid hnd
      by_cases h0 : t.lv = 0
      · have d1 : decide (lv < 0) = true := decide_eq_true (by rw [← hlv]; simp only [levI, h0]; omega)
        have HR := Lib.hid (And.intro hway (And.intro hinv (And.intro hF' (And.intro hfoot h0))))
        clear hway hinv hF' hfoot hbox hnF H0 hnd hnt hnt0 hpt hlen hlv h0 hm hBw hfo
        simp only [rootP]
        go_wp2_with (go_at_call 56; refine (nLevel_c HL.out).mono ?_; rintro e w2 ⟨rfl, rfl⟩)
        simp only [Exit.jump]
        go_ret
        exact ⟨us, some t, HR.out.1, .inl HR.out.2.2.2.2, rfl, F', HR.out.2.1, HR.out.2.2.1, HR.out.2.2.2.1⟩
      · have d1 : decide (lv < 0) = false := decide_eq_false (by rw [← hlv]; simp only [levI]; omega)
        obtain ⟨r, hr⟩ : ∃ r, Tr.covers t p = r := ⟨_, rfl⟩
        have HC := Lib.hid (nCovers_c hnd (by rw [hlen]; exact HX.out.2.2.2.2.1) (by rw [hlen]; exact HX.out.2.2.2.2.2) A p c hpt (by rw [hlen, HX.out.2.2.2.1]) r (by rw [← hlv]; exact covers_eq hr))
        cases r with
        | false =>
          have HR := Lib.hid (And.intro hway (And.intro hinv (And.intro hF' (And.intro hfoot hr))))
          clear hway hinv hF' hfoot hbox hnF H0 hnd hnt hnt0 hpt hlen hr hlv h0 hm hBw hfo
          simp only [rootP]
          go_wp2_with (first
            | (go_at_call 56; refine (nLevel_c HL.out).mono ?_; rintro e w2 ⟨rfl, rfl⟩)
            | (go_at_call 92; refine HC.out.mono ?_; rintro e w2 ⟨rfl, rfl⟩))
          simp only [Exit.jump]
          go_ret
          exact ⟨us, some t, HR.out.1, .inr HR.out.2.2.2.2, rfl, F', HR.out.2.1, HR.out.2.2.1, HR.out.2.2.2.1⟩
        | true =>
          obtain ⟨q, l, pre, ks, rfl⟩ : ∃ g l pre ks, t = .br g l pre ks := by
            cases t with
            | ent => exact absurd rfl h0
            | br g l pre ks => exact ⟨g, l, pre, ks, rfl⟩
          have hlvl : lv = (l : Int) := by rw [← hlv]; show ((l + 1 : Nat) : Int) - 1 = l; omega
          subst hlvl
          have h63 : l ≤ 63 := by cases hnt.1 with | br _ _ _ _ h63 => exact h63
          have hus := (hway.len (fun t e => (HX.out.1 t e).1)).1
          have ha16 : Z.addr p l < 65536 := Nat.lt_of_lt_of_le (Z.addr_bound p l) (by rw [HX.out.2.2.2.1]; exact Nat.pow_le_pow_right (n := 2) (by omega) HX.out.2.2.2.2.2)
          have HF := Lib.hid (HV.out.call us w' F' (.br q l pre ks) (Z.addr p l) hinv hnt hBw hus h0 ha16)
          have HA := Lib.hid (addr_yes A c p l B w' hpt (by rw [HX.out.2.2.2.1]; exact HX.out.2.2.2.2.1) (by rw [HX.out.2.2.2.1]; exact HX.out.2.2.2.2.2) h63)
          have hxlt : w.heap.size < w'.heap.size := (Array.getElem?_eq_some_iff.1 hbox).1
          have HK : Hid (∀ w2, Below B w' w2 → Calls Tryz.prog 94 #[.pointer (some ⟨q, 0, none⟩), .int .i64 (Z.addr p l : Int)] w2 fun e w3 => e = .returned (.pointer (rootP (Tr.kidAt (.br q l pre ks) p))) ∧ ∃ i, w3 = w2.drewN i) := Lib.hid fun w2 hb2 => by
            have h2 := hnt.below hb2 (Nat.le_refl _) (Nat.le_refl _)
            obtain ⟨b, h3, h4⟩ : ∃ b, NdAt w2 B q (l : Int) pre 0 (some ⟨b, 0, none⟩) (Tr.sums (Tr.entsL ks)) ∧ Sn.At w2 B b k (kidL ks) := by cases h2.2 with | br _ _ _ _ b h ha hk => exact ⟨b, h, ha⟩
            exact nKid_br h3 h4 (Z.addr p l : Int) (rootP (Tr.kidAt (.br q l pre ks) p)) (rootP_kid _)
          have HR := Lib.hid (And.intro hway (And.intro hinv (And.intro hF' (And.intro hfoot (And.intro hr (And.intro hbox (And.intro hnF (And.intro hm (And.intro h0 (And.intro hBw hxlt))))))))))
          have q0 : w'.cell? ⟨w.heap.size, 0, none⟩ = some (.func (.func fid) #[.pointer (some ⟨g, 0, none⟩)] #[]) := by rw [cell_of_row w' _ _ _ _ (0, 0) hbox]; rfl
          have hip : (0 : Int) ≤ (l : Int) := by omega
          clear hway hinv hF' hfoot hbox hnF H0 hnd hnt hnt0 hpt hlen hr hlv h0 hm hBw hfo hus ha16 h63 hxlt
          simp only [rootP, T.blk]
          simp only [T.blk] at HL HC HF
          go_wp2_with (first
            | (go_at_call 56; refine (nLevel_c HL.out).mono ?_; rintro e w2 ⟨rfl, rfl⟩)
            | (go_at_call 92; refine HC.out.mono ?_; rintro e w2 ⟨rfl, rfl⟩)
            | (go_at_call 93; refine HA.out.mono ?_; rintro e w2 ⟨rfl, rfl⟩))
          refine HF.out.mono ?_
          rintro e w2 ⟨rfl, F2, hi2, hF2, hfo2⟩
          have HR2 := Lib.hid (And.intro hi2 (And.intro hF2 hfo2))
          have hb2 : Below B w' w2 := hfo2.below HR.out.2.2.2.2.2.2.2.2.2.1 (fun b hb => (HV.out.inb _ _ _ HR.out.2.1 b hb).2)
          clear hi2 hF2 hfo2 q0 HF
          go_wp2_with (go_at_call 94; refine (HK.out _ hb2).mono ?_; rintro e w3 ⟨rfl, n3, rfl⟩)
          go_step3
          obtain ⟨hway, hinv, hF', hfoot, hr, hbox, hnF, hm, h0, hBw, hxlt⟩ := HR.out
          obtain ⟨hi2, hF2, hfo2⟩ := HR2.out
          have hw2 : Tr.Way p o ((.br q l pre ks, Z.addr p l) :: us) (Tr.kidAt (.br q l pre ks) p) := .step hway h0 hr
          have hl2 := (hw2.len (fun t e => (HX.out.1 t e).1)).1
          rw [List.length_cons] at hl2
          refine ⟨rfl, m - 1, by omega, _, Tr.kidAt (.br q l pre ks) p, F2, _, _, _, _, _, _, _, _, _, _, _, _, _, _, _, _, _, _, _, _, _, _, _, _, _, _, _, _, _, rfl, hw2, HV.out.frame _ w2 (w2.drewN n3) _ hi2 (Nat.le_refl _) (fun _ _ => rfl) (below_drewN n3 (Below.refl _ _)), fun b hb => ?_, (hfoot.trans hfo2 hF').drewN _, (hfo2.block _ hxlt hnF).trans hbox, fun hb => ?_, by rw [List.length_cons]; omega⟩
          · rcases hF2 b hb with hb | hb
            · exact hF' b hb
            · exact .inr (Nat.le_trans hfoot.size hb)
          · rcases hF2 _ hb with hb | hb
            · exact hnF hb
            · omega
end Go.Proofs.YtccefboifhfkdaaGreatDoor
