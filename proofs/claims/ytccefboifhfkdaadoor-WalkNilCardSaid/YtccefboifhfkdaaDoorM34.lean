import Derived.Test.YtccefboifhfkdaaDoorM33
/-
  THE LAW WalkNil. Laid by wip/gen26.py.
-/
namespace Go.Proofs.YtccefboifhfkdaaDoor
open Go.ChangeShapes Go.WideShapes Go.ChangeAt Go.RowKit
open Tr (T S4 Ent)

set_option maxRecDepth 100000 in
theorem next_nilc (w : World) : Calls Tryd.prog 21 #[.pointer none] w fun e w' => e = .returned (.tuple #[entryV none 0 0 0, .bool false]) ∧ Below w.heap.size w w' := by
  have hbox : (w.alloc (.cells #[.slice none 0 0, .int .u64 0] 31)).heap[w.heap.size]? = some (.cells #[.slice none 0 0, .int .u64 0] 31 (0, 0)) := heap_at w _ _ rfl
  obtain ⟨b0, b1, f0, f1⟩ := box_cells hbox
  obtain ⟨r0, r1⟩ := res_cells hbox (.slice none 0 0) (.int .u64 0)
  have hal := below_alloc w (.cells #[.slice none 0 0, .int .u64 0] 31)
  obtain ⟨W, hW⟩ : ∃ W, W = w.alloc (.cells #[.slice none 0 0, .int .u64 0] 31) := ⟨_, rfl⟩
  rw [← hW] at b0 b1 f0 f1 r0 r1 hal
  clear hbox
  go_enter Tryd.func21, Tryd.ntmps21
  go_wp2_with fail
  rw [← hW]
  clear hW
  refine wp_scope_count 0 (fun _ a' w' => ∃ (u1 u4 u5 u6 u7 u8 u9 u10 u11 u12 u13 u14 u15 u16 u17 u18 u19 u20 u21 u22 u23 u24 u25 u26 u27 u28 u29 u30 u31 u32 u33 u34 u35 u36 u37 u38 u39 u40 u41 u42 u43 u44 u45 u46 u47 u48 u49 u50 u51 u52 u53 u54 u55 u56 u57 u58 u59 u60 u61 u62 u63 u64 u65 u66 : Value), a' = { tmps := #[.pointer none, u1, .pointer (some ⟨w.heap.size, 0, none⟩), .bool false, u4, u5, u6, u7, u8, u9, u10, u11, u12, u13, u14, u15, u16, u17, u18, u19, u20, u21, u22, u23, u24, u25, u26, u27, u28, u29, u30, u31, u32, u33, u34, u35, u36, u37, u38, u39, u40, u41, u42, u43, u44, u45, u46, u47, u48, u49, u50, u51, u52, u53, u54, u55, u56, u57, u58, u59, u60, u61, u62, u63, u64, u65, u66], defers := [] } ∧ w' = W) rfl ?first ?pass
  case first =>
    intro hp
    refine wp_seq (wp_label (hp 0 _ _ ⟨_, _, _, _, _, _, _, _, _, _, _, _, _, _, _, _, _, _, _, _, _, _, _, _, _, _, _, _, _, _, _, _, _, _, _, _, _, _, _, _, _, _, _, _, _, _, _, _, _, _, _, _, _, _, _, _, _, _, _, _, _, _, _, _, rfl, rfl⟩))
  case pass =>
    rintro m a' w' ⟨u1, u4, u5, u6, u7, u8, u9, u10, u11, u12, u13, u14, u15, u16, u17, u18, u19, u20, u21, u22, u23, u24, u25, u26, u27, u28, u29, u30, u31, u32, u33, u34, u35, u36, u37, u38, u39, u40, u41, u42, u43, u44, u45, u46, u47, u48, u49, u50, u51, u52, u53, u54, u55, u56, u57, u58, u59, u60, u61, u62, u63, u64, u65, u66, rfl, rfl⟩
    go_wp2_with (go_at_call 61; refine (last_nil _).mono ?_; rintro e w2 ⟨rfl, rfl⟩)
    simp only [Exit.jump]
    refine bodyPost_ret (v := .tuple #[entryV none 0 0 0, .bool false]) (by simp [results, Tryd.results21, go_sem, r0, r1]) rfl ?_
    exact ⟨rfl, res_below hal _ _⟩

set_option maxRecDepth 100000 in
theorem back_nilc (w : World) : Calls Tryd.prog 22 #[.pointer none] w fun e w' => e = .returned (.tuple #[entryV none 0 0 0, .bool false]) ∧ Below w.heap.size w w' := by
  have hbox : (w.alloc (.cells #[.slice none 0 0, .int .u64 0] 31)).heap[w.heap.size]? = some (.cells #[.slice none 0 0, .int .u64 0] 31 (0, 0)) := heap_at w _ _ rfl
  obtain ⟨b0, b1, f0, f1⟩ := box_cells hbox
  obtain ⟨r0, r1⟩ := res_cells hbox (.slice none 0 0) (.int .u64 0)
  have hal := below_alloc w (.cells #[.slice none 0 0, .int .u64 0] 31)
  obtain ⟨W, hW⟩ : ∃ W, W = w.alloc (.cells #[.slice none 0 0, .int .u64 0] 31) := ⟨_, rfl⟩
  rw [← hW] at b0 b1 f0 f1 r0 r1 hal
  clear hbox
  go_enter Tryd.func22, Tryd.ntmps22
  go_wp2_with fail
  rw [← hW]
  clear hW
  refine wp_scope_count 0 (fun _ a' w' => ∃ (u1 u4 u5 u6 u7 u8 u9 u10 u11 u12 u13 u14 u15 u16 u17 u18 u19 u20 u21 u22 u23 u24 u25 u26 u27 u28 u29 u30 u31 u32 u33 u34 u35 u36 u37 u38 u39 u40 u41 u42 u43 u44 u45 u46 u47 u48 u49 u50 u51 u52 u53 u54 u55 u56 u57 u58 u59 : Value), a' = { tmps := #[.pointer none, u1, .pointer (some ⟨w.heap.size, 0, none⟩), .bool false, u4, u5, u6, u7, u8, u9, u10, u11, u12, u13, u14, u15, u16, u17, u18, u19, u20, u21, u22, u23, u24, u25, u26, u27, u28, u29, u30, u31, u32, u33, u34, u35, u36, u37, u38, u39, u40, u41, u42, u43, u44, u45, u46, u47, u48, u49, u50, u51, u52, u53, u54, u55, u56, u57, u58, u59], defers := [] } ∧ w' = W) rfl ?first ?pass
  case first =>
    intro hp
    refine wp_seq (wp_label (hp 0 _ _ ⟨_, _, _, _, _, _, _, _, _, _, _, _, _, _, _, _, _, _, _, _, _, _, _, _, _, _, _, _, _, _, _, _, _, _, _, _, _, _, _, _, _, _, _, _, _, _, _, _, _, _, _, _, _, _, _, _, _, rfl, rfl⟩))
  case pass =>
    rintro m a' w' ⟨u1, u4, u5, u6, u7, u8, u9, u10, u11, u12, u13, u14, u15, u16, u17, u18, u19, u20, u21, u22, u23, u24, u25, u26, u27, u28, u29, u30, u31, u32, u33, u34, u35, u36, u37, u38, u39, u40, u41, u42, u43, u44, u45, u46, u47, u48, u49, u50, u51, u52, u53, u54, u55, u56, u57, u58, u59, rfl, rfl⟩
    go_wp2_with (go_at_call 61; refine (last_nil _).mono ?_; rintro e w2 ⟨rfl, rfl⟩)
    simp only [Exit.jump]
    refine bodyPost_ret (v := .tuple #[entryV none 0 0 0, .bool false]) (by simp [results, Tryd.results22, go_sem, r0, r1]) rfl ?_
    exact ⟨rfl, res_below hal _ _⟩

/-- a variable that holds no entry -/
def Zb (w : World) (b : Nat) : Prop := w.heap[b]? = some (.cells #[.slice none 0 0, .int .u64 0] 31 (0, 0))
theorem Zb.below {w w' : World} {b : Nat} (h : Zb w b) (hb : Below w.heap.size w w') : Zb w' b := (hb.block b (Array.getElem?_eq_some_iff.1 h).1).trans h
theorem Zb.cells {w : World} {b : Nat} (h : Zb w b) : w.cell? ⟨b, 0, none⟩ = some (.slice none 0 0) ∧ w.cell? ⟨b, 1, none⟩ = some (.int .u64 0) := ⟨(box_cells h).1, (box_cells h).2.1⟩

theorem walkNil_big {w : World} (hT : Tz w) (A : Option Addr) (n c : Nat) (h : 40 < n) :
    Calls Tryd.prog 4 #[.slice A n c] w fun e w' => e = .returned (.bool true) ∧ Below w.heap.size w w' := by
  have d1 : decide ((40 : Int) < (n : Int)) = true := decide_eq_true (by omega)
  have d1' : decide (40 < n) = true := decide_eq_true (by omega)
  go_enter Tryd.func4, Tryd.ntmps4
  go_wp2_with (go_at_call 20; refine (awake8_c w hT).mono ?_; rintro e w1 ⟨rfl, hb1⟩)
  go_ret
  exact ⟨rfl, hb1⟩
set_option maxRecDepth 100000 in
set_option maxHeartbeats 2000000 in
theorem walkNil_go {w : World} (hT : Tz w) (A : Option Addr) (n c : Nat) (h : n ≤ 40) :
    Calls Tryd.prog 4 #[.slice A n c] w fun e w' => e = .returned (.bool true) ∧ Below w.heap.size w w' := by
  have d1 : decide ((40 : Int) < (n : Int)) = false := decide_eq_false (by omega)
  have d1' : decide (40 < n) = false := decide_eq_false (by omega)
  have hm : n ≤ maxLen := by unfold maxLen; omega
  have HT := Lib.hid (And.intro hT hm)
  clear hT h hm
  go_enter Tryd.func4, Tryd.ntmps4
  go_wp2_with (go_at_call 20; refine (awake8_c w HT.out.1).mono ?_; rintro e w1 ⟨rfl, hb1⟩; have H1 := Lib.hid hb1; clear hb1)
  go_upto_region 7 with (go_at_call 21; refine (next_nilc _).mono ?_; rintro e v2 ⟨rfl, hb2⟩)
  obtain ⟨W2, hW2⟩ : ∃ W, W = v2.alloc (.cells #[.slice none 0 0, .int .u64 0] 31) := ⟨_, rfl⟩
  have hbw2 : Below w1.heap.size w1 W2 := by rw [hW2]; exact Below.andThen hb2 (below_alloc v2 _)
  have z2 : Zb W2 v2.heap.size := by rw [hW2]; exact heap_at v2 _ _ rfl
  rw [← hW2]
  have Z2 := Lib.hid z2
  have H2 := Lib.hid (Below.andThen H1.out hbw2)
  clear hW2 hb2 hbw2 z2 
  go_upto_region 8 with (go_at_call 22; refine (back_nilc _).mono ?_; rintro e v3 ⟨rfl, hb3⟩)
  obtain ⟨W3, hW3⟩ : ∃ W, W = v3.alloc (.cells #[.slice none 0 0, .int .u64 0] 31) := ⟨_, rfl⟩
  have hbw3 : Below W2.heap.size W2 W3 := by rw [hW3]; exact Below.andThen hb3 (below_alloc v3 _)
  have z3 : Zb W3 v3.heap.size := by rw [hW3]; exact heap_at v3 _ _ rfl
  have z2_3 : Zb W3 v2.heap.size := Z2.out.below hbw3
  rw [← hW3]
  have Z3 := Lib.hid z3
  have Z2_3 := Lib.hid z2_3
  have H3 := Lib.hid (Below.andThen H2.out hbw3)
  clear hW3 hb3 hbw3 z3 z2_3
  go_upto_region 9 with (go_at_call 23; refine (first_nil _).mono ?_; rintro e v4 ⟨rfl, hb4⟩)
  obtain ⟨W4, hW4⟩ : ∃ W, W = v4.alloc (.cells #[.slice none 0 0, .int .u64 0] 31) := ⟨_, rfl⟩
  have hbw4 : Below W3.heap.size W3 W4 := by rw [hW4]; exact Below.andThen hb4 (below_alloc v4 _)
  have z4 : Zb W4 v4.heap.size := by rw [hW4]; exact heap_at v4 _ _ rfl
  have z2_4 : Zb W4 v2.heap.size := Z2_3.out.below hbw4
  have z3_4 : Zb W4 v3.heap.size := Z3.out.below hbw4
  rw [← hW4]
  have Z4 := Lib.hid z4
  have Z2_4 := Lib.hid z2_4
  have Z3_4 := Lib.hid z3_4
  have H4 := Lib.hid (Below.andThen H3.out hbw4)
  clear hW4 hb4 hbw4 z4 z2_4 z3_4
  go_upto_region 10 with (go_at_call 24; refine (lastE_nil _).mono ?_; rintro e v5 ⟨rfl, hb5⟩)
  obtain ⟨W5, hW5⟩ : ∃ W, W = v5.alloc (.cells #[.slice none 0 0, .int .u64 0] 31) := ⟨_, rfl⟩
  have hbw5 : Below W4.heap.size W4 W5 := by rw [hW5]; exact Below.andThen hb5 (below_alloc v5 _)
  have z5 : Zb W5 v5.heap.size := by rw [hW5]; exact heap_at v5 _ _ rfl
  have z2_5 : Zb W5 v2.heap.size := Z2_4.out.below hbw5
  have z3_5 : Zb W5 v3.heap.size := Z3_4.out.below hbw5
  have z4_5 : Zb W5 v4.heap.size := Z4.out.below hbw5
  rw [← hW5]
  have Z5 := Lib.hid z5
  have Z2_5 := Lib.hid z2_5
  have Z3_5 := Lib.hid z3_5
  have Z4_5 := Lib.hid z4_5
  have H5 := Lib.hid (Below.andThen H4.out hbw5)
  clear hW5 hb5 hbw5 z5 z2_5 z3_5 z4_5
  go_upto_region 11 with (go_at_call 25; refine (from_no (NodeO.none _ 0 1) (Nat.zero_le _) (by decide) _ _ _ HT.out.2 (fun t e => by cases e)).mono ?_; rintro e v6 ⟨rfl, hb6⟩)
  obtain ⟨W6, hW6⟩ : ∃ W, W = v6.alloc (.cells #[.slice none 0 0, .int .u64 0] 31) := ⟨_, rfl⟩
  have hbw6 : Below W5.heap.size W5 W6 := by rw [hW6]; exact Below.andThen hb6 (below_alloc v6 _)
  have z6 : Zb W6 v6.heap.size := by rw [hW6]; exact heap_at v6 _ _ rfl
  have z2_6 : Zb W6 v2.heap.size := Z2_5.out.below hbw6
  have z3_6 : Zb W6 v3.heap.size := Z3_5.out.below hbw6
  have z4_6 : Zb W6 v4.heap.size := Z4_5.out.below hbw6
  have z5_6 : Zb W6 v5.heap.size := Z5.out.below hbw6
  rw [← hW6]
  have Z6 := Lib.hid z6
  have Z2_6 := Lib.hid z2_6
  have Z3_6 := Lib.hid z3_6
  have Z4_6 := Lib.hid z4_6
  have Z5_6 := Lib.hid z5_6
  have H6 := Lib.hid (Below.andThen H5.out hbw6)
  clear hW6 hb6 hbw6 z6 z2_6 z3_6 z4_6 z5_6
  go_wp2_with (first
    | (go_at_call 26; refine (upto_no (NodeO.none _ 0 1) (Nat.zero_le _) (by decide) _ _ _ HT.out.2 (fun t e => by cases e)).mono ?_; rintro e v7 ⟨rfl, hb7⟩; have hbw7 := Below.andThen hb7 (below_alloc v7 (.cells #[.slice none 0 0, .int .u64 0] 31)); obtain ⟨p0, q0⟩ := (Z2_6.out.below hbw7).cells; obtain ⟨p1, q1⟩ := (Z3_6.out.below hbw7).cells; obtain ⟨p2, q2⟩ := (Z4_6.out.below hbw7).cells; obtain ⟨p3, q3⟩ := (Z5_6.out.below hbw7).cells; obtain ⟨p4, q4⟩ := (Z6.out.below hbw7).cells; obtain ⟨p5, q5⟩ := (show Zb (v7.alloc (.cells #[.slice none 0 0, .int .u64 0] 31)) v7.heap.size from heap_at v7 _ _ rfl).cells; have H7 := Lib.hid (Below.andThen H6.out hbw7); clear hb7 hbw7)
    | (go_at_call 27; refine (new_nil _).mono ?_; rintro e v8 ⟨rfl, rfl⟩)
    | (go_at_call 28; refine (seek_nil _ _ _ _).mono ?_; rintro e v8 ⟨rfl, rfl⟩)
    | (go_at_call 29; refine (all_c (NodeO.none _ w.heap.size 1) H7.out.size (fun w' hb => HT.out.1.on (H7.out.trans hb)) (by simp [Tr.entsO])).mono ?_; rintro e v9 ⟨A9, c9, rfl, -, -, hb9⟩))
  go_ret
  exact ⟨rfl, Below.andThen H7.out hb9⟩
theorem walkNil_c {w : World} (hT : Tz w) (A : Option Addr) (n c : Nat) :
    Calls Tryd.prog 4 #[.slice A n c] w fun e w' => e = .returned (.bool true) ∧ Below w.heap.size w w' := by
  by_cases h : 40 < n
  · exact walkNil_big hT A n c h
  · exact walkNil_go hT A n c (by omega)
end Go.Proofs.YtccefboifhfkdaaDoor
