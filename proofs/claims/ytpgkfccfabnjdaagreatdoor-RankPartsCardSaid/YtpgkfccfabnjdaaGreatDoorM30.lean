import Derived.Test.YtpgkfccfabnjdaaGreatDoorM29
import Derived.Test.YtpgkfccfabnjdaaGreatDoorM23
import Derived.Test.YtpgkfccfabnjdaaGreatDoorM16
/-
  CONTRACTS of package walk: Back. Laid by wip/gen20.py.
-/
namespace Go.Proofs.YtpgkfccfabnjdaaGreatDoor
open Go.ChangeShapes Go.WideShapes Go.ChangeAt Go.RowKit
open Tr (T S4 Ent)

def upK (ks : List (Nat × T)) (a : Int) : Option (Nat × T) := if Sl.idx ks (a + 1) = 0 then none else ks[Sl.idx ks (a + 1) - 1]?
theorem upK_kid (ks : List (Nat × T)) (a : Int) : (Sn.upE (kidL ks) a).getD (0, none) = kidP (upK ks a) := by
  unfold Sn.upE upK
  rw [idx_kidL]
  split
  · rfl
  · rw [kidL, List.getElem?_map]
    cases ks[Sl.idx ks (a + 1) - 1]? <;> rfl
theorem nUpTo_k {w : World} {B k : Nat} {t : T} (h : Mem w B k t) (a : Int) (p : Nat × Option Addr) (hp : kidP (upK t.ks a) = p) :
    Calls Tryz.prog 125 #[.pointer (some ⟨t.blk, 0, none⟩), .int .i64 a] w fun e w' => e = .returned (atKid p.1 p.2) ∧ ∃ n, w' = w.drewN n := by
  subst hp
  cases h with
  | ent g q v hn => exact (nUpTo_ent hn a).mono fun e w' h => ⟨h.1, 0, h.2.symm⟩
  | br g l pre ks b hn ha hk => exact nUpTo_br hn ha a _ (upK_kid ks a)
end Go.Proofs.YtpgkfccfabnjdaaGreatDoor

/-
  CONTRACTS of package walk: over, New, isPoint, side, First, Last. Laid by wip/gen21.py.
-/
namespace Go.Proofs.YtpgkfccfabnjdaaGreatDoor
open Go.ChangeShapes Go.WideShapes Go.ChangeAt Go.RowKit
open Tr (T S4 Ent)

/-! ### isPoint, side -/
/-! ### First, Last -/
def ToldE (w w' : World) (x : Option Ent) (e : Ending) : Prop := match x with
  | none => e = .returned (.tuple #[entryV none 0 0 0, .bool false])
  | some x => ∃ h d, e = .returned (.tuple #[entryV (some ⟨h, 0, none⟩) x.1.length d x.2, .bool true]) ∧ Own w' w.heap.size (.slice (some ⟨h, 0, none⟩) x.1.length d) x.1
theorem res_below {w w' : World} (h : Below w.heap.size w w') (x y : Value) : Below w.heap.size w ((w'.setCell ⟨w.heap.size, 0, none⟩ x).setCell ⟨w.heap.size, 1, none⟩ y) :=
  (h.setCell (p := ⟨w.heap.size, 0, none⟩) (Nat.le_refl _) x).setCell (p := ⟨w.heap.size, 1, none⟩) (Nat.le_refl _) y
theorem told_res {w w' : World} {W : World} (hW : w.heap.size < W.heap.size) {p : List Nat} {v hh dd : Nat} (ho : Own w' W.heap.size (.slice (some ⟨hh, 0, none⟩) p.length dd) p) (x y : Value) :
    ToldE w ((w'.setCell ⟨w.heap.size, 0, none⟩ x).setCell ⟨w.heap.size, 1, none⟩ y) (some (p, v)) (.returned (.tuple #[entryV (some ⟨hh, 0, none⟩) p.length dd v, .bool true])) := by
  have h1 := (ho.2.lt hh rfl).1
  have hn : (Value.slice (some ⟨hh, 0, none⟩) p.length dd).ownBlock ≠ some w.heap.size := fun e => by simp only [Value.ownBlock, Option.some.injEq] at e; omega
  exact ⟨hh, dd, rfl, own_set (own_set (ho.mono (Nat.le_of_lt hW)) (a := ⟨w.heap.size, 0, none⟩) hn x) (a := ⟨w.heap.size, 1, none⟩) hn y⟩
structure Way1 (w : World) (B k : Nat) (f : List Ent → Option Ent) (t s : T) (w' : World) : Prop where
  node : Node w B k s
  ends : f s.ents = f t.ents
  bel : Below w.heap.size w w'
  box : w'.heap[w.heap.size]? = some (.cells #[.slice none 0 0, .int .u64 0] 73 (0, 0))
theorem Way1.lt {w : World} {B k : Nat} {f : List Ent → Option Ent} {t s : T} {w' : World} (h : Way1 w B k f t s w') : w.heap.size < w'.heap.size := (Array.getElem?_eq_some_iff.1 h.box).1
theorem head_entsL {k : Nat} {t s : T} {a : Nat} (hw : Tr.Wf k t) (h : t.ks[0]? = some (a, s)) : s.ents.head? = t.ents.head? := by
  have hm := List.mem_of_getElem? h
  rw [Tr.ents_ks hm]
  cases hk : t.ks with
  | nil => rw [hk] at hm; cases hm
  | cons x ks =>
    rw [hk] at h
    simp only [List.getElem?_cons_zero, Option.some.injEq] at h
    subst h
    rw [Tr.entsL_cons]
    have hne := (hw.sub hm).1.ne
    cases he : s.ents with
    | nil => exact absurd he hne
    | cons e es => rfl
theorem last_entsL {k : Nat} {t s : T} {a : Nat} (hw : Tr.Wf k t) (h : t.ks[t.ks.length - 1]? = some (a, s)) : s.ents.getLast? = t.ents.getLast? := by
  have hm := List.mem_of_getElem? h
  rw [Tr.ents_ks hm, Tr.ents_split h, List.getLast?_append, List.getLast?_append]
  have hlt := (List.getElem?_eq_some_iff.1 h).1
  rw [List.drop_eq_nil_of_le (by omega), Tr.entsL_nil]
  have hne := (hw.sub hm).1.ne
  cases he : s.ents.getLast? with
  | none => exact absurd (List.getLast?_eq_none_iff.1 he) hne
  | some e => rfl
theorem ks_ent {k : Nat} {t : T} (h : Tr.Wf k t) (hk : t.ks = []) : ∃ g p v, t = .ent g p v := by
  cases h with
  | ent g p v => exact ⟨g, p, v, rfl⟩
  | br g l pre ks h63 hw h2 =>
    have hk' : ks = [] := hk
    rw [hk'] at h2
    simp at h2

theorem upT_at {k : Nat} {t : T} (hw : Tr.Wf k t) {y : Option (Nat × T)} (h : upK t.ks 65536 = y) : (t.ks = [] ∧ y = none) ∨ (t.ks[t.ks.length - 1]? = y ∧ t.ks ≠ []) := by
  have e : Sl.idx t.ks ((65536 : Int) + 1) = t.ks.length := Sl.idx_all fun p hp => by have := hw.lt16 p hp; omega
  unfold upK at h
  rw [e] at h
  split at h
  · rename_i h0; exact .inl ⟨List.eq_nil_of_length_eq_zero h0, h.symm⟩
  · rename_i h0; exact .inr ⟨h, fun e => h0 (by rw [e]; rfl)⟩
theorem upT_mem {ks : List (Nat × T)} {y : Nat × T} (h : upK ks 65536 = some y) : y ∈ ks := by
  unfold upK at h
  split at h
  · cases h
  · exact List.mem_of_getElem? h
theorem upT_none {k : Nat} {t : T} (hw : Tr.Wf k t) (h : upK t.ks 65536 = none) : t.ks = [] := by
  rcases upT_at hw h with ⟨e, _⟩ | ⟨e, hn⟩
  · exact e
  · rw [List.getElem?_eq_none_iff] at e
    exact List.eq_nil_of_length_eq_zero (by omega)
theorem upK_last {k : Nat} {t s : T} {a : Nat} (hw : Tr.Wf k t) (h : upK t.ks 65536 = some (a, s)) : s.ents.getLast? = t.ents.getLast? := by
  rcases upT_at hw h with ⟨_, e⟩ | ⟨e, _⟩
  · cases e
  · exact last_entsL hw e

/-! ### over, New -/
theorem first_nil (w : World) : Calls Tryz.prog 64 #[.pointer none] w fun e w' => e = .returned (.tuple #[entryV none 0 0 0, .bool false]) ∧ Below w.heap.size w w' := by
  obtain ⟨b0, b1, f0, f1⟩ := box_cells (heap_at w (.cells #[.slice none 0 0, .int .u64 0] 73) _ rfl)
  have hal := below_alloc w (.cells #[.slice none 0 0, .int .u64 0] 73)
  have hbox : (w.alloc (.cells #[.slice none 0 0, .int .u64 0] 73)).heap[w.heap.size]? = some (.cells #[.slice none 0 0, .int .u64 0] 73 (0, 0)) := heap_at w _ _ rfl
  have H0 := Lib.hid (And.intro hal hbox)
  clear b0 b1 f0 f1 hal hbox
  go_enter Tryz.func64, Tryz.ntmps64
  go_wp2_with fail
  refine wp_scope_count 0 (fun _ a' w' => ∃ (u1 u4 u5 u6 u7 u8 u9 u10 u11 u12 u13 u14 u15 u16 u17 : Value), a' = { tmps := #[.pointer none, u1, .pointer (some ⟨w.heap.size, 0, none⟩), .bool false, u4, u5, u6, u7, u8, u9, u10, u11, u12, u13, u14, u15, u16, u17], defers := [] } ∧ w' = w.alloc (.cells #[.slice none 0 0, .int .u64 0] 73)) rfl ?first ?pass
  case first =>
    intro hp
    refine wp_seq (wp_label (hp 0 _ _ ⟨_, _, _, _, _, _, _, _, _, _, _, _, _, _, _, rfl, rfl⟩))
  case pass =>
    rintro m a' w' ⟨u1, u4, u5, u6, u7, u8, u9, u10, u11, u12, u13, u14, u15, u16, u17, rfl, rfl⟩
    go_wp2_with (first
      | (go_at_call 126; refine (nFrom_nil _ _).mono ?_; rintro e w2 ⟨rfl, rfl⟩)
      | (go_at_call 108; refine (nEntry_nil _).mono ?_; rintro e w4 ⟨rfl, hb4⟩; have hbox4 := (hb4.block _ (by simp)).trans H0.out.2; obtain ⟨b0, b1, f0, f1⟩ := box_cells hbox4; obtain ⟨r0, r1⟩ := res_cells hbox4 (.slice none 0 0) (.int .u64 0); have H4 := Lib.hid (Below.andThen H0.out.1 hb4); clear hb4 hbox4))
    simp only [Exit.jump]
    refine bodyPost_ret (v := .tuple #[entryV none 0 0 0, .bool false]) (by simp [results, Tryz.results64, go_sem, r0, r1]) rfl ?_
    exact ⟨rfl, res_below H4.out _ _⟩
set_option maxRecDepth 1000000 in
set_option maxHeartbeats 4000000 in
theorem first_c {w : World} {B k : Nat} {t : T} (h : Node w B k t) (hB : B ≤ w.heap.size) (hT : ∀ w', Below B w w' → Tz w') :
    Calls Tryz.prog 64 #[.pointer (some ⟨t.blk, 0, none⟩)] w fun e w' => ToldE w w' (List.head? t.ents) e ∧ Below w.heap.size w w' := by
  have hal := below_alloc w (.cells #[.slice none 0 0, .int .u64 0] 73)
  have H0 := Lib.hid (show Way1 w B k List.head? t t (w.alloc (.cells #[.slice none 0 0, .int .u64 0] 73)) from ⟨h, rfl, hal, heap_at w _ _ rfl⟩)
  have HX := Lib.hid (And.intro hB hT)
  clear h hB hal hT
  go_enter Tryz.func64, Tryz.ntmps64
  go_wp2_with fail
  refine wp_scope_count 0 (fun m a' w' => ∃ (s : T) (u1 u4 u5 u6 u7 u8 u9 u10 u11 u12 u13 u14 u15 u16 u17 : Value), a' = { tmps := #[.pointer (some ⟨s.blk, 0, none⟩), u1, .pointer (some ⟨w.heap.size, 0, none⟩), .bool false, u4, u5, u6, u7, u8, u9, u10, u11, u12, u13, u14, u15, u16, u17], defers := [] } ∧ Way1 w B k List.head? t s w' ∧ m = s.lv) rfl ?first ?pass
  case first =>
    intro hp
    refine wp_seq (wp_label (hp _ _ _ ⟨t, _, _, _, _, _, _, _, _, _, _, _, _, _, _, _, rfl, H0.out, rfl⟩))
  case pass =>
    rintro m a' w' ⟨s, u1, u4, u5, u6, u7, u8, u9, u10, u11, u12, u13, u14, u15, u16, u17, rfl, hw, hm⟩
    clear H0
    have hbel : Below B w w' := hw.bel.mono HX.out.1
    have hnd := hw.node.below hbel (Nat.le_refl _) (Nat.le_refl _)
    have hmem := hnd.2
    obtain ⟨kx, hkx⟩ : ∃ kx, s.ks[0]? = kx := ⟨_, rfl⟩
    have hT' := HX.out.2 w' hbel
    have HF : Hid (Calls Tryz.prog 126 #[.pointer (some ⟨s.blk, 0, none⟩), .int .i64 0] w' fun e w2 => e = .returned (atKid (kidP kx).1 (kidP kx).2) ∧ ∃ i, w2 = w'.drewN i) := Lib.hid (by
          have := nFrom_c hmem hT' ((0 : Nat) : Int) (by omega) (by omega) (kidP kx) (by rw [show Sl.idx s.ks ((0 : Nat) : Int) = 0 from Sl.idx_zero _, hkx])
          exact this)
    have HS := Lib.hid (And.intro hw (And.intro hm (And.intro hnd hkx)))
    clear hw hm hbel hnd hmem hkx hT'
    cases kx with
    | some y =>
      obtain ⟨a, s'⟩ := y
      have HF2 : Hid (Calls Tryz.prog 126 #[.pointer (some ⟨s.blk, 0, none⟩), .int .i64 0] w' fun e w2 => e = .returned (atKid a (some ⟨s'.blk, 0, none⟩)) ∧ ∃ i, w2 = w'.drewN i) := HF
      clear HF
      go_wp2_with (go_at_call 126; refine HF2.out.mono ?_; rintro e w2 ⟨rfl, i2, rfl⟩)
      go_step3
      obtain ⟨hw, hm, hnd, hkx⟩ := HS.out
      have hsub : (a, s') ∈ s.ks := List.mem_of_getElem? hkx
      have hs' : Node w B k s' := by
        obtain ⟨g', l, pre, ks, rfl⟩ := Tr.ks_br hsub
        exact hw.node.kid hsub
      exact ⟨rfl, s'.lv, by rw [hm]; exact (hw.node.1.sub hsub).2, s', _, _, _, _, _, _, _, _, _, _, _, _, _, _, _, rfl, ⟨hs', (head_entsL hw.node.1 hkx).trans hw.ends, below_drewN i2 hw.bel, hw.box⟩, rfl⟩
    | none =>
      have HF2 : Hid (Calls Tryz.prog 126 #[.pointer (some ⟨s.blk, 0, none⟩), .int .i64 0] w' fun e w2 => e = .returned (atKid 0 none) ∧ ∃ i, w2 = w'.drewN i) := HF
      clear HF
      obtain ⟨eb, p, v, hse⟩ := ks_ent HS.out.1.node.1 (by have := List.getElem?_eq_none_iff.1 HS.out.2.2.2; exact List.eq_nil_of_length_eq_zero (by omega))
      subst hse
      have HN : Hid (∀ i, NdAt (w'.drewN i) B eb (-1) p v none (Tr.s1 v)) := Lib.hid fun i => by cases HS.out.2.2.1.2 with | ent _ _ _ h => exact h
      have hpl : p ≠ [] ∧ p.length ≤ 1000000 := by
        cases HS.out.1.node.1 with
        | ent _ _ _ k1 k16 hl ho hv => exact ⟨by intro e; rw [e] at hl; simp at hl; omega, by omega⟩
      have HP := Lib.hid hpl
      have HB : Hid (∀ i, B ≤ (w'.drewN i).heap.size) := Lib.hid fun i => Nat.le_trans HX.out.1 HS.out.1.bel.size
      clear hpl
      simp only [T.blk] at HF2 ⊢
      go_wp2_with (first
        | (go_at_call 126; refine HF2.out.mono ?_; rintro e w2 ⟨rfl, i2, rfl⟩)
        | (go_at_call 108; refine (nEntry_ent (HN.out _) (HB.out _) HP.out.1 HP.out.2).mono ?_; rintro e w4 ⟨hh, dd, rfl, ho4, hb4⟩; have hbox4 := (hb4.block w.heap.size HS.out.1.lt).trans HS.out.1.box; obtain ⟨b0, b1, f0, f1⟩ := box_cells hbox4; obtain ⟨r0, r1⟩ := res_cells hbox4 (.slice (some ⟨hh, 0, none⟩) p.length dd) (.int .u64 (v : Int)); have H4 := Lib.hid (And.intro ho4 (Below.andThen (below_drewN i2 HS.out.1.bel) hb4)); clear ho4 hb4 hbox4))
      simp only [Exit.jump]
      refine bodyPost_ret (v := .tuple #[entryV (some ⟨hh, 0, none⟩) p.length dd v, .bool true]) (by simp [results, Tryz.results64, go_sem, r0, r1]) rfl ?_
      have hx : List.head? t.ents = some (p, v) := by rw [← HS.out.1.ends, Tr.ents_ent]; rfl
      rw [hx]
      exact ⟨told_res (W := w'.drewN i2) HS.out.1.lt H4.out.1 _ _, res_below H4.out.2 _ _⟩

theorem lastE_nil (w : World) : Calls Tryz.prog 63 #[.pointer none] w fun e w' => e = .returned (.tuple #[entryV none 0 0 0, .bool false]) ∧ Below w.heap.size w w' := by
  obtain ⟨b0, b1, f0, f1⟩ := box_cells (heap_at w (.cells #[.slice none 0 0, .int .u64 0] 73) _ rfl)
  have hal := below_alloc w (.cells #[.slice none 0 0, .int .u64 0] 73)
  have hbox : (w.alloc (.cells #[.slice none 0 0, .int .u64 0] 73)).heap[w.heap.size]? = some (.cells #[.slice none 0 0, .int .u64 0] 73 (0, 0)) := heap_at w _ _ rfl
  have H0 := Lib.hid (And.intro hal hbox)
  clear b0 b1 f0 f1 hal hbox
  go_enter Tryz.func63, Tryz.ntmps63
  go_wp2_with fail
  refine wp_scope_count 0 (fun _ a' w' => ∃ (u1 u4 u5 u6 u7 u8 u9 u10 u11 u12 u13 u14 u15 u16 u17 : Value), a' = { tmps := #[.pointer none, u1, .pointer (some ⟨w.heap.size, 0, none⟩), .bool false, u4, u5, u6, u7, u8, u9, u10, u11, u12, u13, u14, u15, u16, u17], defers := [] } ∧ w' = w.alloc (.cells #[.slice none 0 0, .int .u64 0] 73)) rfl ?first ?pass
  case first =>
    intro hp
    refine wp_seq (wp_label (hp 0 _ _ ⟨_, _, _, _, _, _, _, _, _, _, _, _, _, _, _, rfl, rfl⟩))
  case pass =>
    rintro m a' w' ⟨u1, u4, u5, u6, u7, u8, u9, u10, u11, u12, u13, u14, u15, u16, u17, rfl, rfl⟩
    go_wp2_with (first
      | (go_at_call 125; refine (nUpTo_nil _ _).mono ?_; rintro e w2 ⟨rfl, rfl⟩)
      | (go_at_call 108; refine (nEntry_nil _).mono ?_; rintro e w4 ⟨rfl, hb4⟩; have hbox4 := (hb4.block _ (by simp)).trans H0.out.2; obtain ⟨b0, b1, f0, f1⟩ := box_cells hbox4; obtain ⟨r0, r1⟩ := res_cells hbox4 (.slice none 0 0) (.int .u64 0); have H4 := Lib.hid (Below.andThen H0.out.1 hb4); clear hb4 hbox4))
    simp only [Exit.jump]
    refine bodyPost_ret (v := .tuple #[entryV none 0 0 0, .bool false]) (by simp [results, Tryz.results63, go_sem, r0, r1]) rfl ?_
    exact ⟨rfl, res_below H4.out _ _⟩
set_option maxRecDepth 1000000 in
set_option maxHeartbeats 4000000 in
theorem lastE_c {w : World} {B k : Nat} {t : T} (h : Node w B k t) (hB : B ≤ w.heap.size) :
    Calls Tryz.prog 63 #[.pointer (some ⟨t.blk, 0, none⟩)] w fun e w' => ToldE w w' (List.getLast? t.ents) e ∧ Below w.heap.size w w' := by
  have hal := below_alloc w (.cells #[.slice none 0 0, .int .u64 0] 73)
  have H0 := Lib.hid (show Way1 w B k List.getLast? t t (w.alloc (.cells #[.slice none 0 0, .int .u64 0] 73)) from ⟨h, rfl, hal, heap_at w _ _ rfl⟩)
  have HX := Lib.hid hB
  clear h hB hal 
  go_enter Tryz.func63, Tryz.ntmps63
  go_wp2_with fail
  refine wp_scope_count 0 (fun m a' w' => ∃ (s : T) (u1 u4 u5 u6 u7 u8 u9 u10 u11 u12 u13 u14 u15 u16 u17 : Value), a' = { tmps := #[.pointer (some ⟨s.blk, 0, none⟩), u1, .pointer (some ⟨w.heap.size, 0, none⟩), .bool false, u4, u5, u6, u7, u8, u9, u10, u11, u12, u13, u14, u15, u16, u17], defers := [] } ∧ Way1 w B k List.getLast? t s w' ∧ m = s.lv) rfl ?first ?pass
  case first =>
    intro hp
    refine wp_seq (wp_label (hp _ _ _ ⟨t, _, _, _, _, _, _, _, _, _, _, _, _, _, _, _, rfl, H0.out, rfl⟩))
  case pass =>
    rintro m a' w' ⟨s, u1, u4, u5, u6, u7, u8, u9, u10, u11, u12, u13, u14, u15, u16, u17, rfl, hw, hm⟩
    clear H0
    have hbel : Below B w w' := hw.bel.mono HX.out
    have hnd := hw.node.below hbel (Nat.le_refl _) (Nat.le_refl _)
    have hmem := hnd.2
    obtain ⟨kx, hkx⟩ : ∃ kx, upK s.ks 65536 = kx := ⟨_, rfl⟩
    
    have HF : Hid (Calls Tryz.prog 125 #[.pointer (some ⟨s.blk, 0, none⟩), .int .i64 65536] w' fun e w2 => e = .returned (atKid (kidP kx).1 (kidP kx).2) ∧ ∃ i, w2 = w'.drewN i) := Lib.hid (nUpTo_k hmem 65536 (kidP kx) (by rw [hkx]))
    have HS := Lib.hid (And.intro hw (And.intro hm (And.intro hnd hkx)))
    clear hw hm hbel hnd hmem hkx 
    cases kx with
    | some y =>
      obtain ⟨a, s'⟩ := y
      have HF2 : Hid (Calls Tryz.prog 125 #[.pointer (some ⟨s.blk, 0, none⟩), .int .i64 65536] w' fun e w2 => e = .returned (atKid a (some ⟨s'.blk, 0, none⟩)) ∧ ∃ i, w2 = w'.drewN i) := HF
      clear HF
      go_wp2_with (go_at_call 125; refine HF2.out.mono ?_; rintro e w2 ⟨rfl, i2, rfl⟩)
      go_step3
      obtain ⟨hw, hm, hnd, hkx⟩ := HS.out
      have hsub : (a, s') ∈ s.ks := upT_mem hkx
      have hs' : Node w B k s' := by
        obtain ⟨g', l, pre, ks, rfl⟩ := Tr.ks_br hsub
        exact hw.node.kid hsub
      exact ⟨rfl, s'.lv, by rw [hm]; exact (hw.node.1.sub hsub).2, s', _, _, _, _, _, _, _, _, _, _, _, _, _, _, _, rfl, ⟨hs', (upK_last hw.node.1 hkx).trans hw.ends, below_drewN i2 hw.bel, hw.box⟩, rfl⟩
    | none =>
      have HF2 : Hid (Calls Tryz.prog 125 #[.pointer (some ⟨s.blk, 0, none⟩), .int .i64 65536] w' fun e w2 => e = .returned (atKid 0 none) ∧ ∃ i, w2 = w'.drewN i) := HF
      clear HF
      obtain ⟨eb, p, v, hse⟩ := ks_ent HS.out.1.node.1 (upT_none HS.out.1.node.1 HS.out.2.2.2)
      subst hse
      have HN : Hid (∀ i, NdAt (w'.drewN i) B eb (-1) p v none (Tr.s1 v)) := Lib.hid fun i => by cases HS.out.2.2.1.2 with | ent _ _ _ h => exact h
      have hpl : p ≠ [] ∧ p.length ≤ 1000000 := by
        cases HS.out.1.node.1 with
        | ent _ _ _ k1 k16 hl ho hv => exact ⟨by intro e; rw [e] at hl; simp at hl; omega, by omega⟩
      have HP := Lib.hid hpl
      have HB : Hid (∀ i, B ≤ (w'.drewN i).heap.size) := Lib.hid fun i => Nat.le_trans HX.out HS.out.1.bel.size
      clear hpl
      simp only [T.blk] at HF2 ⊢
      go_wp2_with (first
        | (go_at_call 125; refine HF2.out.mono ?_; rintro e w2 ⟨rfl, i2, rfl⟩)
        | (go_at_call 108; refine (nEntry_ent (HN.out _) (HB.out _) HP.out.1 HP.out.2).mono ?_; rintro e w4 ⟨hh, dd, rfl, ho4, hb4⟩; have hbox4 := (hb4.block w.heap.size HS.out.1.lt).trans HS.out.1.box; obtain ⟨b0, b1, f0, f1⟩ := box_cells hbox4; obtain ⟨r0, r1⟩ := res_cells hbox4 (.slice (some ⟨hh, 0, none⟩) p.length dd) (.int .u64 (v : Int)); have H4 := Lib.hid (And.intro ho4 (Below.andThen (below_drewN i2 HS.out.1.bel) hb4)); clear ho4 hb4 hbox4))
      simp only [Exit.jump]
      refine bodyPost_ret (v := .tuple #[entryV (some ⟨hh, 0, none⟩) p.length dd v, .bool true]) (by simp [results, Tryz.results63, go_sem, r0, r1]) rfl ?_
      have hx : List.getLast? t.ents = some (p, v) := by rw [← HS.out.1.ends, Tr.ents_ent]; rfl
      rw [hx]
      exact ⟨told_res (W := w'.drewN i2) HS.out.1.lt H4.out.1 _ _, res_below H4.out.2 _ _⟩
end Go.Proofs.YtpgkfccfabnjdaaGreatDoor

/-
  CONTRACTS of package walk: down, whoever is told each node that is met, and the address at which the way goes on. Laid by wip/gen22.py.
-/
namespace Go.Proofs.YtpgkfccfabnjdaaGreatDoor
open Go.ChangeShapes Go.WideShapes Go.ChangeAt Go.RowKit
open Tr (T S4 Ent)

theorem way_node {w : World} {B k : Nat} {p : List Nat} {o o' : Option T} {us : List (T × Nat)} (ho : ∀ t, o = some t → Node w B k t) (h : Tr.Way p o us o') : ∀ t, o' = some t → Node w B k t := by
  induction h with
  | start => exact ho
  | @step us t h hl hc ih =>
    intro s hs
    have hm := Tr.kidAt_mem hs
    have ht := ih t rfl
    obtain ⟨g', l, pre, ks, rfl⟩ := Tr.ks_br hm
    exact ht.kid hm
theorem way_nodes {w : World} {B k : Nat} {p : List Nat} {o o' : Option T} {us : List (T × Nat)} (ho : ∀ t, o = some t → Node w B k t) (h : Tr.Way p o us o') : ∀ x ∈ us, Node w B k x.1 := by
  induction h with
  | start => intro x hx; cases hx
  | @step us t h hl hc ih =>
    intro x hx
    rcases List.mem_cons.1 hx with rfl | hx
    · exact way_node ho h t rfl
    · exact ih x hx

end Go.Proofs.YtpgkfccfabnjdaaGreatDoor

/-
  CONTRACTS of package walk: Seek. Laid by wip/gen24.py.
-/
namespace Go.Proofs.YtpgkfccfabnjdaaGreatDoor
open Go.ChangeShapes Go.WideShapes Go.ChangeAt Go.RowKit
open Tr (T S4 Ent)

theorem rootP_no : rootP none = none := rfl
theorem rootP_yes (t : T) : rootP (some t) = some ⟨t.blk, 0, none⟩ := rfl
def Ahead (p : List Nat) (L : List Ent) : Prop := ∀ e ∈ L, Tr.key e.1 < Tr.key p
def Past (p : List Nat) (L : List Ent) : Prop := ∀ e ∈ L, Tr.key p ≤ Tr.key e.1
theorem way_bef {p : List Nat} {o o' : Option T} {us : List (T × Nat)} (h : Tr.Way p o us o') : Tr.bef us = Tr.foreR us := by
  cases h with
  | start => rfl
  | @step us t h hl hc =>
    cases t with
    | ent => exact absurd rfl hl
    | br g l pre ks => rfl
end Go.Proofs.YtpgkfccfabnjdaaGreatDoor

/-
  CONTRACTS of package walk: All, a list that grows while a cursor moves. Laid by wip/gen23.py.
-/
namespace Go.Proofs.YtpgkfccfabnjdaaGreatDoor
open Go.ChangeShapes Go.WideShapes Go.ChangeAt Go.RowKit
open Tr (T S4 Ent)

def Fr (w0 : Nat) (R : Option Addr) (g : Nat) (D : Option Addr) : Nat → Prop := fun b => R.map (·.block) ≠ some b ∧ ¬ Cf g D b ∧ w0 ≤ b
end Go.Proofs.YtpgkfccfabnjdaaGreatDoor
