import Derived.Test.YtccefboifhfkdaaGreatDoorM37
import Derived.Test.YtccefboifhfkdaaGreatDoorM35
/-
  THE LAW WalkAll. Laid by wip/gen28.py.
-/
namespace Go.Proofs.YtccefboifhfkdaaGreatDoor
open Go.ChangeShapes Go.WideShapes Go.ChangeAt Go.RowKit
open Tr (T S4 Ent)

theorem walkAll_skip {w : World} {A : Option Addr} {c : Nat} {l : List ActT} (k : Int) (hT : Tz w) (hA : ActsT w w.heap.size A l) (hl : l.length ≤ maxLen) (hh : heavyA 50 l = true) (A2 : Option Addr) (n c2 : Nat) :
    Calls Tryz.prog 3 #[.int .i64 k, .slice A l.length c, .slice A2 n c2] w fun e w' => e = .returned (.bool true) ∧ Below w.heap.size w w' := by
  have HX := Lib.hid (And.intro hA (And.intro hl (And.intro hh hT)))
  clear hA hl hh hT
  go_enter Tryz.func3, Tryz.ntmps3
  go_wp2_with fail
  refine (awake8_c w HX.out.2.2.2).mono ?_
  rintro e w1 ⟨rfl, hb1⟩
  have HH := Lib.hid (rheavy7_c (c := c) (HX.out.1.below hb1 (Nat.le_refl _) (Nat.le_refl _)) HX.out.2.1 50 true HX.out.2.2.1)
  have HB := Lib.hid hb1
  clear hb1
  go_wp2_with (go_at_call 10; refine HH.out.mono ?_; rintro e w' ⟨rfl, rfl⟩)
  go_ret
  exact ⟨rfl, HB.out⟩
theorem walkAll_arg {w : World} {A : Option Addr} {c : Nat} {l : List ActT} (k : Int) (hT : Tz w) (hA : ActsT w w.heap.size A l) (hl : l.length ≤ maxLen) (hh : heavyA 50 l = false) (hk : ¬ (1 ≤ k ∧ k ≤ 16)) (A2 : Option Addr) (n c2 : Nat) :
    Calls Tryz.prog 3 #[.int .i64 k, .slice A l.length c, .slice A2 n c2] w fun e w' => e = .returned (.bool true) ∧ Below w.heap.size w w' := by
  have HX := Lib.hid (And.intro hA (And.intro hl (And.intro hh hT)))
  clear hA hl hh hT
  by_cases d0 : k < 1
  · have d1 : decide (k < 1) = true := decide_eq_true d0
    clear hk d0
    go_enter Tryz.func3, Tryz.ntmps3
    go_wp2_with fail
    refine (awake8_c w HX.out.2.2.2).mono ?_
    rintro e w1 ⟨rfl, hb1⟩
    have HH := Lib.hid (rheavy7_c (c := c) (HX.out.1.below hb1 (Nat.le_refl _) (Nat.le_refl _)) HX.out.2.1 50 false HX.out.2.2.1)
    have HB := Lib.hid hb1
    clear hb1
    go_wp2_with (go_at_call 10; refine HH.out.mono ?_; rintro e w' ⟨rfl, rfl⟩)
    go_ret
    exact ⟨rfl, HB.out⟩
  · have d1 : decide (k < 1) = false := decide_eq_false d0
    have d2 : decide (16 < k) = true := decide_eq_true (by omega)
    clear hk d0
    go_enter Tryz.func3, Tryz.ntmps3
    go_wp2_with fail
    refine (awake8_c w HX.out.2.2.2).mono ?_
    rintro e w1 ⟨rfl, hb1⟩
    have HH := Lib.hid (rheavy7_c (c := c) (HX.out.1.below hb1 (Nat.le_refl _) (Nat.le_refl _)) HX.out.2.1 50 false HX.out.2.2.1)
    have HB := Lib.hid hb1
    clear hb1
    go_wp2_with (go_at_call 10; refine HH.out.mono ?_; rintro e w' ⟨rfl, rfl⟩)
    go_ret
    exact ⟨rfl, HB.out⟩

theorem walkAll_big {w : World} {A : Option Addr} {c : Nat} {l : List ActT} (k : Nat) (hT : Tz w) (hA : ActsT w w.heap.size A l) (hl : l.length ≤ maxLen) (hh : heavyA 50 l = false) (h1 : 1 ≤ k) (h16 : k ≤ 16) (A2 : Option Addr) (n c2 : Nat) (hn : 40 < n) :
    Calls Tryz.prog 3 #[.int .i64 (k : Int), .slice A l.length c, .slice A2 n c2] w fun e w' => e = .returned (.bool true) ∧ Below w.heap.size w w' := by
  have HX := Lib.hid (And.intro hA (And.intro hl (And.intro hh hT)))
  have d1 : decide ((k : Int) < 1) = false := decide_eq_false (by omega)
  have d2 : decide ((16 : Int) < (k : Int)) = false := decide_eq_false (by omega)
  have d3 : decide ((40 : Int) < (n : Int)) = true := decide_eq_true (by omega)
  have d3' : decide (40 < n) = true := decide_eq_true hn
  clear hA hl hh hT h1 h16 hn
  go_enter Tryz.func3, Tryz.ntmps3
  go_wp2_with fail
  refine (awake8_c w HX.out.2.2.2).mono ?_
  rintro e w1 ⟨rfl, hb1⟩
  have HH := Lib.hid (rheavy7_c (c := c) (HX.out.1.below hb1 (Nat.le_refl _) (Nat.le_refl _)) HX.out.2.1 50 false HX.out.2.2.1)
  have HB := Lib.hid hb1
  clear hb1
  go_wp2_with (go_at_call 10; refine HH.out.mono ?_; rintro e w' ⟨rfl, rfl⟩)
  go_ret
  exact ⟨rfl, HB.out⟩
/-- a variable that holds an entry, or none -/
def Vb (w : World) (b : Nat) (P : Option Addr) (n dd v : Nat) : Prop := w.heap[b]? = some (.cells #[.slice P n dd, .int .u64 (v : Int)] 36 (0, 0))
theorem Vb.lt {w : World} {b : Nat} {P : Option Addr} {n dd v : Nat} (h : Vb w b P n dd v) : b < w.heap.size := (Array.getElem?_eq_some_iff.1 h).1
theorem Vb.below {w w' : World} {b : Nat} {P : Option Addr} {n dd v : Nat} (h : Vb w b P n dd v) (hb : Below w.heap.size w w') : Vb w' b P n dd v := (hb.block b h.lt).trans h
theorem Vb.cells {w : World} {b : Nat} {P : Option Addr} {n dd v : Nat} (h : Vb w b P n dd v) : w.cell? ⟨b, 0, none⟩ = some (.slice P n dd) ∧ w.cell? ⟨b, 1, none⟩ = some (.int .u64 (v : Int)) := ⟨(box_cells h).1, (box_cells h).2.1⟩
theorem Vb.of (w : World) (P : Option Addr) (n dd v : Nat) : Vb (w.alloc (.cells #[.slice P n dd, .int .u64 (v : Int)] 36)) w.heap.size P n dd v := heap_at w _ _ rfl

set_option maxRecDepth 1000000 in
set_option maxHeartbeats 4000000 in
theorem walkAllD_go {w : World} {A : Option Addr} {c : Nat} {l : List ActT} (k : Nat) (hT : Tz w) (hA : ActsT w w.heap.size A l) (hl : l.length ≤ maxLen) (hh : heavyA 50 l = false) (h1 : 1 ≤ k) (h16 : k ≤ 16) {A2 : Option Addr} {c2 : Nat} {p : List Nat} (hp : Pts w w.heap.size A2 p) (hpn : p.length ≤ 40) (hpk : p.length ≠ k) :
    Calls Tryz.prog 3 #[.int .i64 (k : Int), .slice A l.length c, .slice A2 p.length c2] w fun e w' => e = .returned (.bool true) ∧ Below w.heap.size w w' := by
  have hfew := heavyA_few hh
  have HX := Lib.hid (And.intro hA (And.intro hl (And.intro hh hT)))
  have HK := Lib.hid (And.intro h1 (And.intro h16 hfew))
  have d1 : decide ((k : Int) < 1) = false := decide_eq_false (by omega)
  have d2 : decide ((16 : Int) < (k : Int)) = false := decide_eq_false (by omega)
  have d3 : decide ((40 : Int) < (p.length : Int)) = false := decide_eq_false (by omega)
  have d3' : decide (40 < p.length) = false := decide_eq_false (by omega)
  have d4 : ((p.length : Int) != (k : Int)) = true := by simp; omega
  have HP := Lib.hid (And.intro hp (And.intro hpn hpk))
  clear hA hl hh hT h1 h16 hfew hp hpn hpk
  go_enter Tryz.func3, Tryz.ntmps3
  go_wp2_with fail
  refine (awake8_c w HX.out.2.2.2).mono ?_
  rintro e w0 ⟨rfl, hb0⟩
  have HH := Lib.hid (rheavy7_c (c := c) (HX.out.1.below hb0 (Nat.le_refl _) (Nat.le_refl _)) HX.out.2.1 50 false HX.out.2.2.1)
  have HG := Lib.hid (grown_c (c := c) HK.out.1 HK.out.2.1 (HX.out.1.below hb0 (Nat.le_refl _) (Nat.le_refl _)) hb0.size (by have := HK.out.2.2; omega))
  have HB0 := Lib.hid hb0
  clear hb0
  go_upto_region 6 with (first
    | (go_at_call 10; refine HH.out.mono ?_; rintro e w' ⟨rfl, rfl⟩)
    | (go_at_call 11; refine HG.out.mono ?_; rintro e w2 ⟨tb, o, D2, d2c, rfl, hd2, -, hb2⟩; have HD := Lib.hid hd2; have HB2 := Lib.hid (Below.andThen HB0.out hb2); clear hd2 hb2))
  have hlenE : (Tr.entsO o).length ≤ 50 := by have := HD.out.few; have := HK.out.2.2; omega
  have HT2 : Hid (∀ w', Below w2.heap.size w2 w' → Tz w') := Lib.hid fun w' hb => (HX.out.2.2.2.on HB2.out).on hb
  have hlI : ((Tr.entsO o).length : Int) ≤ 50 := by omega
  have HND := Lib.hid HD.out.tree.1.2.2.2.2
  have HRo : Hid (∀ w', Below w2.heap.size w2 w' → Calls Tryz.prog 14 #[.pointer (some ⟨tb, 0, none⟩)] w' fun e w'' => e = .returned (.pointer (rootP o)) ∧ w' = w'') := Lib.hid fun w' hb => tRoot_c (HD.out.tree.1.2.2.2.1.below hb HD.out.tree.1.1)
  have HAll := Lib.hid (all_c HND.out (Nat.le_refl _) HT2.out (by omega))
  have hb22 := Below.refl w2.heap.size w2
  go_upto_region 8 with (first
    | (go_at_call 14; refine (HRo.out _ hb22).mono ?_; rintro e w' ⟨rfl, rfl⟩)
    | (go_at_call 13; refine HAll.out.mono ?_; rintro e w5 ⟨A5, c5, rfl, -, hE5, hb5⟩; have H5 := Lib.hid (And.intro hE5 hb5); clear hE5 hb5)
    | (go_at_call 12; refine (rsameEnts_c H5.out.1 (HD.out.ents H5.out.2) (by omega)).mono ?_; rintro e w6 ⟨rfl, hb6⟩; have B6 := Lib.hid (Below.andThen H5.out.2 hb6); clear hb6))
  obtain ⟨x0, hx0⟩ : ∃ x, (Tr.entsO o).head? = x := ⟨_, rfl⟩
  obtain ⟨r0, hr0⟩ : ∃ r, x0.isSome = r := ⟨_, rfl⟩
  have HX0 := Lib.hid (And.intro hx0 hr0)
  clear hx0 hr0
  have hbp0 := B6.out
  go_upto_region 9 with (first
    | (go_at_call 14; refine (HRo.out _ hbp0).mono ?_; rintro e w' ⟨rfl, rfl⟩)
    | (go_at_call 15; refine (first_any (HND.out.below B6.out (Nat.le_refl _) (Nat.le_refl _)) B6.out.size (fun w' hb => HT2.out w' (B6.out.trans hb)) x0 HX0.out.1 r0 HX0.out.2).mono ?_; rintro e u0 ⟨⟨P0, n0, e0, v0, rfl, ht0⟩, hb0⟩; have HY0 := Lib.hid (And.intro hb0 ht0.rd); clear hb0 ht0))
  clear hbp0
  obtain ⟨W0, hW0⟩ : ∃ W, W = u0.alloc (.cells #[.slice P0 n0 e0, .int .u64 (v0 : Int)] 36) := ⟨_, rfl⟩
  have hal0 : Below u0.heap.size u0 W0 := by rw [hW0]; exact below_alloc _ _
  have vb0 : Vb W0 u0.heap.size P0 n0 e0 v0 := by rw [hW0]; exact Vb.of u0 P0 n0 e0 v0
  rw [← hW0]
  have hst0 : Below w6.heap.size w6 W0 := Below.andThen HY0.out.1 hal0
  have V0_0 := Lib.hid vb0
  have R0_0 := Lib.hid (HY0.out.2.below hal0)
  have C0 := Lib.hid (Below.andThen B6.out hst0)
  clear hW0 hal0 vb0 hst0
  obtain ⟨x1, hx1⟩ : ∃ x, (Tr.entsO o).getLast? = x := ⟨_, rfl⟩
  obtain ⟨r1, hr1⟩ : ∃ r, x1.isSome = r := ⟨_, rfl⟩
  have HX1 := Lib.hid (And.intro hx1 hr1)
  clear hx1 hr1
  have hbp1 := C0.out
  go_upto_region 10 with (first
    | (go_at_call 14; refine (HRo.out _ hbp1).mono ?_; rintro e w' ⟨rfl, rfl⟩)
    | (go_at_call 16; refine (last_any (HND.out.below C0.out (Nat.le_refl _) (Nat.le_refl _)) C0.out.size x1 HX1.out.1 r1 HX1.out.2).mono ?_; rintro e u1 ⟨⟨P1, n1, e1, v1, rfl, ht1⟩, hb1⟩; have HY1 := Lib.hid (And.intro hb1 ht1.rd); clear hb1 ht1))
  clear hbp1
  obtain ⟨W1, hW1⟩ : ∃ W, W = u1.alloc (.cells #[.slice P1 n1 e1, .int .u64 (v1 : Int)] 36) := ⟨_, rfl⟩
  have hal1 : Below u1.heap.size u1 W1 := by rw [hW1]; exact below_alloc _ _
  have vb1 : Vb W1 u1.heap.size P1 n1 e1 v1 := by rw [hW1]; exact Vb.of u1 P1 n1 e1 v1
  rw [← hW1]
  have hst1 : Below W0.heap.size W0 W1 := Below.andThen HY1.out.1 hal1
  have V0_1 := Lib.hid (V0_0.out.below hst1)
  have R0_1 := Lib.hid (R0_0.out.below hst1)
  have V1_1 := Lib.hid vb1
  have R1_1 := Lib.hid (HY1.out.2.below hal1)
  have C1 := Lib.hid (Below.andThen C0.out hst1)
  clear hW1 hal1 vb1 hst1
  have hbp2 := C1.out
  go_upto_region 11 with (first
    | (go_at_call 14; refine (HRo.out _ hbp2).mono ?_; rintro e w' ⟨rfl, rfl⟩)
    | (go_at_call 17; refine (from_no (HND.out.below C1.out (Nat.le_refl _) (Nat.le_refl _)) C1.out.size HK.out.2.1 A2 p.length c2 (by have := HP.out.2.1; unfold maxLen; omega) (fun _ _ => HP.out.2.2)).mono ?_; rintro e u2 ⟨rfl, hb2⟩; have HY2 := Lib.hid (And.intro hb2 trivial); clear hb2))
  clear hbp2
  obtain ⟨W2, hW2⟩ : ∃ W, W = u2.alloc (.cells #[.slice none 0 0, .int .u64 0] 36) := ⟨_, rfl⟩
  have hal2 : Below u2.heap.size u2 W2 := by rw [hW2]; exact below_alloc _ _
  have vb2 : Vb W2 u2.heap.size none 0 0 0 := by rw [hW2]; exact Vb.of u2 none 0 0 0
  rw [← hW2]
  have hst2 : Below W1.heap.size W1 W2 := Below.andThen HY2.out.1 hal2
  have V0_2 := Lib.hid (V0_1.out.below hst2)
  have R0_2 := Lib.hid (R0_1.out.below hst2)
  have V1_2 := Lib.hid (V1_1.out.below hst2)
  have R1_2 := Lib.hid (R1_1.out.below hst2)
  have V2_2 := Lib.hid vb2
  have C2 := Lib.hid (Below.andThen C1.out hst2)
  clear hW2 hal2 vb2 hst2
  have hbp3 := C2.out
  go_upto_region 12 with (first
    | (go_at_call 14; refine (HRo.out _ hbp3).mono ?_; rintro e w' ⟨rfl, rfl⟩)
    | (go_at_call 18; refine (upto_no (HND.out.below C2.out (Nat.le_refl _) (Nat.le_refl _)) C2.out.size HK.out.2.1 A2 p.length c2 (by have := HP.out.2.1; unfold maxLen; omega) (fun _ _ => HP.out.2.2)).mono ?_; rintro e u3 ⟨rfl, hb3⟩; have HY3 := Lib.hid (And.intro hb3 trivial); clear hb3))
  clear hbp3
  obtain ⟨W3, hW3⟩ : ∃ W, W = u3.alloc (.cells #[.slice none 0 0, .int .u64 0] 36) := ⟨_, rfl⟩
  have hal3 : Below u3.heap.size u3 W3 := by rw [hW3]; exact below_alloc _ _
  have vb3 : Vb W3 u3.heap.size none 0 0 0 := by rw [hW3]; exact Vb.of u3 none 0 0 0
  rw [← hW3]
  have hst3 : Below W2.heap.size W2 W3 := Below.andThen HY3.out.1 hal3
  have V0_3 := Lib.hid (V0_2.out.below hst3)
  have R0_3 := Lib.hid (R0_2.out.below hst3)
  have V1_3 := Lib.hid (V1_2.out.below hst3)
  have R1_3 := Lib.hid (R1_2.out.below hst3)
  have V2_3 := Lib.hid (V2_2.out.below hst3)
  have V3_3 := Lib.hid vb3
  have C3 := Lib.hid (Below.andThen C2.out hst3)
  clear hW3 hal3 vb3 hst3
  obtain ⟨c0a, c0b⟩ := V0_3.out.cells
  have hL3 := HD.out.ents C3.out
  have HL3 := Lib.hid hL3
  clear hL3
  go_upto_region 14 with (first
    | (go_at_call 19; with_reducible refine (rat_any rfl HL3.out x0 (by rw [atI_zero]; exact HX0.out.1) r0 HX0.out.2 R0_3.out).mono ?_; rintro e w7 ⟨rfl, hb7⟩; obtain ⟨c1a, c1b⟩ := (V1_3.out.below hb7).cells; have H7 := Lib.hid hb7; clear hb7)
    | (go_at_call 19; with_reducible refine (rat_any rfl (HL3.out.below H7.out (Nat.le_refl _) H7.out.size) x1 (by rw [atI_last]; exact HX1.out.1) r1 HX1.out.2 (R1_3.out.below H7.out)).mono ?_; rintro e w8 ⟨rfl, hb8⟩; have H8 := Lib.hid (Below.andThen H7.out hb8); clear hb8))
  clear c0a c0b c1a c1b
  obtain ⟨c2a, c2b⟩ := (V2_3.out.below H8.out).cells
  obtain ⟨c3a, c3b⟩ := (V3_3.out.below H8.out).cells
  go_wp2_with fail
  go_ret
  exact ⟨rfl, Below.andThen HB2.out (Below.andThen C3.out H8.out)⟩

set_option maxRecDepth 1000000 in
set_option maxHeartbeats 4000000 in
theorem walkAllE_go {w : World} {A : Option Addr} {c : Nat} {l : List ActT} (k : Nat) (hT : Tz w) (hA : ActsT w w.heap.size A l) (hl : l.length ≤ maxLen) (hh : heavyA 50 l = false) (h1 : 1 ≤ k) (h16 : k ≤ 16) {A2 : Option Addr} {c2 : Nat} {p : List Nat} (hp : Pts w w.heap.size A2 p) (hpn : p.length ≤ 40) (hpk : p.length = k) :
    Calls Tryz.prog 3 #[.int .i64 (k : Int), .slice A l.length c, .slice A2 p.length c2] w fun e w' => e = .returned (.bool true) ∧ Below w.heap.size w w' := by
  have hfew := heavyA_few hh
  have HX := Lib.hid (And.intro hA (And.intro hl (And.intro hh hT)))
  have HK := Lib.hid (And.intro h1 (And.intro h16 hfew))
  have d1 : decide ((k : Int) < 1) = false := decide_eq_false (by omega)
  have d2 : decide ((16 : Int) < (k : Int)) = false := decide_eq_false (by omega)
  have d3 : decide ((40 : Int) < (p.length : Int)) = false := decide_eq_false (by omega)
  have d3' : decide (40 < p.length) = false := decide_eq_false (by omega)
  have d4 : ((p.length : Int) != (k : Int)) = false := by rw [hpk]; simp
  have HP := Lib.hid (And.intro hp (And.intro hpn hpk))
  clear hA hl hh hT h1 h16 hfew hp hpn hpk
  go_enter Tryz.func3, Tryz.ntmps3
  go_wp2_with fail
  refine (awake8_c w HX.out.2.2.2).mono ?_
  rintro e w0 ⟨rfl, hb0⟩
  have HH := Lib.hid (rheavy7_c (c := c) (HX.out.1.below hb0 (Nat.le_refl _) (Nat.le_refl _)) HX.out.2.1 50 false HX.out.2.2.1)
  have HG := Lib.hid (grown_c (c := c) HK.out.1 HK.out.2.1 (HX.out.1.below hb0 (Nat.le_refl _) (Nat.le_refl _)) hb0.size (by have := HK.out.2.2; omega))
  have HB0 := Lib.hid hb0
  clear hb0
  go_upto_region 6 with (first
    | (go_at_call 10; refine HH.out.mono ?_; rintro e w' ⟨rfl, rfl⟩)
    | (go_at_call 11; refine HG.out.mono ?_; rintro e w2 ⟨tb, o, D2, d2c, rfl, hd2, -, hb2⟩; have HD := Lib.hid hd2; have HB2 := Lib.hid (Below.andThen HB0.out hb2); clear hd2 hb2))
  have hlenE : (Tr.entsO o).length ≤ 50 := by have := HD.out.few; have := HK.out.2.2; omega
  have HT2 : Hid (∀ w', Below w2.heap.size w2 w' → Tz w') := Lib.hid fun w' hb => (HX.out.2.2.2.on HB2.out).on hb
  have hlI : ((Tr.entsO o).length : Int) ≤ 50 := by omega
  have HND := Lib.hid HD.out.tree.1.2.2.2.2
  have HRo : Hid (∀ w', Below w2.heap.size w2 w' → Calls Tryz.prog 14 #[.pointer (some ⟨tb, 0, none⟩)] w' fun e w'' => e = .returned (.pointer (rootP o)) ∧ w' = w'') := Lib.hid fun w' hb => tRoot_c (HD.out.tree.1.2.2.2.1.below hb HD.out.tree.1.1)
  have HAll := Lib.hid (all_c HND.out (Nat.le_refl _) HT2.out (by omega))
  have hb22 := Below.refl w2.heap.size w2
  go_upto_region 8 with (first
    | (go_at_call 14; refine (HRo.out _ hb22).mono ?_; rintro e w' ⟨rfl, rfl⟩)
    | (go_at_call 13; refine HAll.out.mono ?_; rintro e w5 ⟨A5, c5, rfl, -, hE5, hb5⟩; have H5 := Lib.hid (And.intro hE5 hb5); clear hE5 hb5)
    | (go_at_call 12; refine (rsameEnts_c H5.out.1 (HD.out.ents H5.out.2) (by omega)).mono ?_; rintro e w6 ⟨rfl, hb6⟩; have B6 := Lib.hid (Below.andThen H5.out.2 hb6); clear hb6))
  obtain ⟨x0, hx0⟩ : ∃ x, (Tr.entsO o).head? = x := ⟨_, rfl⟩
  obtain ⟨r0, hr0⟩ : ∃ r, x0.isSome = r := ⟨_, rfl⟩
  have HX0 := Lib.hid (And.intro hx0 hr0)
  clear hx0 hr0
  have hbp0 := B6.out
  go_upto_region 9 with (first
    | (go_at_call 14; refine (HRo.out _ hbp0).mono ?_; rintro e w' ⟨rfl, rfl⟩)
    | (go_at_call 15; refine (first_any (HND.out.below B6.out (Nat.le_refl _) (Nat.le_refl _)) B6.out.size (fun w' hb => HT2.out w' (B6.out.trans hb)) x0 HX0.out.1 r0 HX0.out.2).mono ?_; rintro e u0 ⟨⟨P0, n0, e0, v0, rfl, ht0⟩, hb0⟩; have HY0 := Lib.hid (And.intro hb0 ht0.rd); clear hb0 ht0))
  clear hbp0
  obtain ⟨W0, hW0⟩ : ∃ W, W = u0.alloc (.cells #[.slice P0 n0 e0, .int .u64 (v0 : Int)] 36) := ⟨_, rfl⟩
  have hal0 : Below u0.heap.size u0 W0 := by rw [hW0]; exact below_alloc _ _
  have vb0 : Vb W0 u0.heap.size P0 n0 e0 v0 := by rw [hW0]; exact Vb.of u0 P0 n0 e0 v0
  rw [← hW0]
  have hst0 : Below w6.heap.size w6 W0 := Below.andThen HY0.out.1 hal0
  have V0_0 := Lib.hid vb0
  have R0_0 := Lib.hid (HY0.out.2.below hal0)
  have C0 := Lib.hid (Below.andThen B6.out hst0)
  clear hW0 hal0 vb0 hst0
  obtain ⟨x1, hx1⟩ : ∃ x, (Tr.entsO o).getLast? = x := ⟨_, rfl⟩
  obtain ⟨r1, hr1⟩ : ∃ r, x1.isSome = r := ⟨_, rfl⟩
  have HX1 := Lib.hid (And.intro hx1 hr1)
  clear hx1 hr1
  have hbp1 := C0.out
  go_upto_region 10 with (first
    | (go_at_call 14; refine (HRo.out _ hbp1).mono ?_; rintro e w' ⟨rfl, rfl⟩)
    | (go_at_call 16; refine (last_any (HND.out.below C0.out (Nat.le_refl _) (Nat.le_refl _)) C0.out.size x1 HX1.out.1 r1 HX1.out.2).mono ?_; rintro e u1 ⟨⟨P1, n1, e1, v1, rfl, ht1⟩, hb1⟩; have HY1 := Lib.hid (And.intro hb1 ht1.rd); clear hb1 ht1))
  clear hbp1
  obtain ⟨W1, hW1⟩ : ∃ W, W = u1.alloc (.cells #[.slice P1 n1 e1, .int .u64 (v1 : Int)] 36) := ⟨_, rfl⟩
  have hal1 : Below u1.heap.size u1 W1 := by rw [hW1]; exact below_alloc _ _
  have vb1 : Vb W1 u1.heap.size P1 n1 e1 v1 := by rw [hW1]; exact Vb.of u1 P1 n1 e1 v1
  rw [← hW1]
  have hst1 : Below W0.heap.size W0 W1 := Below.andThen HY1.out.1 hal1
  have V0_1 := Lib.hid (V0_0.out.below hst1)
  have R0_1 := Lib.hid (R0_0.out.below hst1)
  have V1_1 := Lib.hid vb1
  have R1_1 := Lib.hid (HY1.out.2.below hal1)
  have C1 := Lib.hid (Below.andThen C0.out hst1)
  clear hW1 hal1 vb1 hst1
  have hbp2 := C1.out
  go_upto_region 11 with (first
    | (go_at_call 14; refine (HRo.out _ hbp2).mono ?_; rintro e w' ⟨rfl, rfl⟩)
    | (go_at_call 17; refine (from_any (HND.out.below C1.out (Nat.le_refl _) (Nat.le_refl _)) C1.out.size HK.out.2.1 (fun w' hb => HT2.out w' (C1.out.trans hb)) ((HP.out.1.below' HB2.out (Nat.le_refl _)).keep HB2.out.size (fun _ _ => rfl) |>.below' C1.out (Nat.le_refl _)) (c := c2) HP.out.2.2).mono ?_; rintro e u2 ⟨F2, G2, he2, ha2, hg2, ⟨P2, n2, e2, v2, rfl, ht2⟩, hb2⟩; have HF2 := Lib.hid (And.intro he2 (And.intro ha2 hg2)); clear he2 ha2 hg2; have HY2 := Lib.hid (And.intro hb2 ht2); clear hb2 ht2))
  clear hbp2
  obtain ⟨W2, hW2⟩ : ∃ W, W = u2.alloc (.cells #[.slice P2 n2 e2, .int .u64 (v2 : Int)] 36) := ⟨_, rfl⟩
  have hal2 : Below u2.heap.size u2 W2 := by rw [hW2]; exact below_alloc _ _
  have vb2 : Vb W2 u2.heap.size P2 n2 e2 v2 := by rw [hW2]; exact Vb.of u2 P2 n2 e2 v2
  rw [← hW2]
  have hst2 : Below W1.heap.size W1 W2 := Below.andThen HY2.out.1 hal2
  have V0_2 := Lib.hid (V0_1.out.below hst2)
  have R0_2 := Lib.hid (R0_1.out.below hst2)
  have V1_2 := Lib.hid (V1_1.out.below hst2)
  have R1_2 := Lib.hid (R1_1.out.below hst2)
  have V2_2 := Lib.hid vb2
  have R2_2 := Lib.hid (HY2.out.2.below hal2)
  have C2 := Lib.hid (Below.andThen C1.out hst2)
  clear hW2 hal2 vb2 hst2
  have hbp3 := C2.out
  go_upto_region 12 with (first
    | (go_at_call 14; refine (HRo.out _ hbp3).mono ?_; rintro e w' ⟨rfl, rfl⟩)
    | (go_at_call 18; refine (upto_any (HND.out.below C2.out (Nat.le_refl _) (Nat.le_refl _)) C2.out.size HK.out.2.1 (fun w' hb => HT2.out w' (C2.out.trans hb)) ((HP.out.1.below' HB2.out (Nat.le_refl _)).keep HB2.out.size (fun _ _ => rfl) |>.below' C2.out (Nat.le_refl _)) (c := c2) HP.out.2.2).mono ?_; rintro e u3 ⟨F3, G3, he3, ha3, hg3, ⟨P3, n3, e3, v3, rfl, ht3⟩, hb3⟩; have HF3 := Lib.hid (And.intro he3 (And.intro ha3 hg3)); clear he3 ha3 hg3; have HY3 := Lib.hid (And.intro hb3 ht3); clear hb3 ht3))
  clear hbp3
  obtain ⟨W3, hW3⟩ : ∃ W, W = u3.alloc (.cells #[.slice P3 n3 e3, .int .u64 (v3 : Int)] 36) := ⟨_, rfl⟩
  have hal3 : Below u3.heap.size u3 W3 := by rw [hW3]; exact below_alloc _ _
  have vb3 : Vb W3 u3.heap.size P3 n3 e3 v3 := by rw [hW3]; exact Vb.of u3 P3 n3 e3 v3
  rw [← hW3]
  have hst3 : Below W2.heap.size W2 W3 := Below.andThen HY3.out.1 hal3
  have V0_3 := Lib.hid (V0_2.out.below hst3)
  have R0_3 := Lib.hid (R0_2.out.below hst3)
  have V1_3 := Lib.hid (V1_2.out.below hst3)
  have R1_3 := Lib.hid (R1_2.out.below hst3)
  have V2_3 := Lib.hid (V2_2.out.below hst3)
  have R2_3 := Lib.hid (R2_2.out.below hst3)
  have V3_3 := Lib.hid vb3
  have R3_3 := Lib.hid (HY3.out.2.below hal3)
  have C3 := Lib.hid (Below.andThen C2.out hst3)
  clear hW3 hal3 vb3 hst3
  obtain ⟨c0a, c0b⟩ := V0_3.out.cells
  have hL3 := HD.out.ents C3.out
  have HL3 := Lib.hid hL3
  clear hL3
  go_upto_region 14 with (first
    | (go_at_call 19; with_reducible refine (rat_any rfl HL3.out x0 (by rw [atI_zero]; exact HX0.out.1) r0 HX0.out.2 R0_3.out).mono ?_; rintro e w7 ⟨rfl, hb7⟩; obtain ⟨c1a, c1b⟩ := (V1_3.out.below hb7).cells; have H7 := Lib.hid hb7; clear hb7)
    | (go_at_call 19; with_reducible refine (rat_any rfl (HL3.out.below H7.out (Nat.le_refl _) H7.out.size) x1 (by rw [atI_last]; exact HX1.out.1) r1 HX1.out.2 (R1_3.out.below H7.out)).mono ?_; rintro e w8 ⟨rfl, hb8⟩; have H8 := Lib.hid (Below.andThen H7.out hb8); clear hb8))
  clear c0a c0b c1a c1b
  obtain ⟨c2a, c2b⟩ := (V2_3.out.below H8.out).cells
  obtain ⟨c3a, c3b⟩ := (V3_3.out.below H8.out).cells
  have l2 := (V2_3.out.below H8.out).lt
  have l3 := (V3_3.out.below H8.out).lt
  have a0 : ∀ w', Below w8.heap.size w8 w' → w'.cell? ⟨u2.heap.size, 0, none⟩ = some (.slice P2 n2 e2) := fun w' h => (h.cell (p := ⟨u2.heap.size, 0, none⟩) l2).trans c2a
  have a1 : ∀ w', Below w8.heap.size w8 w' → w'.cell? ⟨u2.heap.size, 1, none⟩ = some (.int .u64 (v2 : Int)) := fun w' h => (h.cell (p := ⟨u2.heap.size, 1, none⟩) l2).trans c2b
  have a2 : ∀ w', Below w8.heap.size w8 w' → w'.cell? ⟨u3.heap.size, 0, none⟩ = some (.slice P3 n3 e3) := fun w' h => (h.cell (p := ⟨u3.heap.size, 0, none⟩) l3).trans c3a
  have a3 : ∀ w', Below w8.heap.size w8 w' → w'.cell? ⟨u3.heap.size, 1, none⟩ = some (.int .u64 (v3 : Int)) := fun w' h => (h.cell (p := ⟨u3.heap.size, 1, none⟩) l3).trans c3b
  have HL8 := Lib.hid (HL3.out.below H8.out (Nat.le_refl _) H8.out.size)
  have HP8 : Hid (Pts w8 w8.heap.size A2 p) := Lib.hid ((HP.out.1.below' (Below.andThen HB2.out (Below.andThen C3.out H8.out)) (Nat.le_refl _)).keep (Nat.le_trans HB2.out.size (Nat.le_trans C3.out.size H8.out.size)) (fun _ _ => rfl))
  have hdim : Tr.Dim k (Tr.entsO o) := by
    cases o with
    | none => intro e he; cases he
    | some t => exact (HD.out.wf t rfl).dim
  have HQ1 : Hid (∀ w1, Below w8.heap.size w8 w1 → Calls Tryz.prog 20 #[.slice D2 (Tr.entsO o).length d2c, .slice A2 p.length c2] w1 fun e w' => e = .returned (.int .i64 (F2.length : Int)) ∧ w1 = w') := Lib.hid fun w1 hb =>
    rfrom8_c hdim (HL8.out.below hb (Nat.le_refl _) hb.size) ((HP8.out.below' hb (Nat.le_refl _)).keep hb.size (fun _ _ => rfl)) HP.out.2.2 HK.out.1 HK.out.2.1 (by omega) HF2.out.1 HF2.out.2.1 HF2.out.2.2
  have HQ2 : Hid (∀ w1, Below w8.heap.size w8 w1 → Calls Tryz.prog 21 #[.slice D2 (Tr.entsO o).length d2c, .slice A2 p.length c2] w1 fun e w' => e = .returned (.int .i64 ((F3.length : Int) - 1)) ∧ w1 = w') := Lib.hid fun w1 hb =>
    rupto8_c hdim (HL8.out.below hb (Nat.le_refl _) hb.size) ((HP8.out.below' hb (Nat.le_refl _)).keep hb.size (fun _ _ => rfl)) HP.out.2.2 HK.out.1 HK.out.2.1 (by omega) HF3.out.1 HF3.out.2.1 HF3.out.2.2
  have HA1 : Hid (∀ w1, Below w8.heap.size w8 w1 → Calls Tryz.prog 19 #[.slice D2 (Tr.entsO o).length d2c, .int .i64 (F2.length : Int), .agg #[.slice P2 n2 e2, .int .u64 (v2 : Int)], .bool G2.head?.isSome] w1 fun e w' => e = .returned (.bool true) ∧ Below w1.heap.size w1 w') := Lib.hid fun w1 hb =>
    rat_any rfl (HL8.out.below hb (Nat.le_refl _) hb.size) _ (atI_front HF2.out.1) _ rfl ((R2_3.out.below H8.out).below hb)
  have HA2 : Hid (∀ w1, Below w8.heap.size w8 w1 → Calls Tryz.prog 19 #[.slice D2 (Tr.entsO o).length d2c, .int .i64 ((F3.length : Int) - 1), .agg #[.slice P3 n3 e3, .int .u64 (v3 : Int)], .bool F3.getLast?.isSome] w1 fun e w' => e = .returned (.bool true) ∧ Below w1.heap.size w1 w') := Lib.hid fun w1 hb =>
    rat_any rfl (HL8.out.below hb (Nat.le_refl _) hb.size) _ (atI_back HF3.out.1) _ rfl ((R3_3.out.below H8.out).below hb)
  have HZ := Lib.hid (Below.andThen HB2.out (Below.andThen C3.out H8.out))
  have hb0 : Below w8.heap.size w8 w8 := Below.refl _ _
  clear c2a c2b c3a c3b l2 l3 hdim
  go_wp2_with fail
  go_region_held3 (fun w' => Below w8.heap.size w8 w') (((repeat (first | refine Below.drew ?_ | (with_reducible refine below_drewN _ ?_) | refine Below.alloc ?_ (by first | omega | (simp; done) | (simp; omega)) _ | refine Below.setCell ?_ (by first | omega | (simp; done) | (simp; omega)) _)); first | exact Below.refl _ _ | assumption | exact below_drewN _ (Below.refl _ _) | exact below_drewN _ (below_drewN _ (Below.refl _ _))))
    (first
     | (go_at_call 20; refine (HQ1.out _ (show Below w8.heap.size w8 _ by ((repeat (first | refine Below.drew ?_ | (with_reducible refine below_drewN _ ?_) | refine Below.alloc ?_ (by first | omega | (simp; done) | (simp; omega)) _ | refine Below.setCell ?_ (by first | omega | (simp; done) | (simp; omega)) _)); first | exact Below.refl _ _ | assumption | exact below_drewN _ (Below.refl _ _) | exact below_drewN _ (below_drewN _ (Below.refl _ _))))).mono ?_; rintro e q1 ⟨rfl, rfl⟩)
     | (go_at_call 21; refine (HQ2.out _ (show Below w8.heap.size w8 _ by ((repeat (first | refine Below.drew ?_ | (with_reducible refine below_drewN _ ?_) | refine Below.alloc ?_ (by first | omega | (simp; done) | (simp; omega)) _ | refine Below.setCell ?_ (by first | omega | (simp; done) | (simp; omega)) _)); first | exact Below.refl _ _ | assumption | exact below_drewN _ (Below.refl _ _) | exact below_drewN _ (below_drewN _ (Below.refl _ _))))).mono ?_; rintro e q2 ⟨rfl, rfl⟩)
     | (go_at_call 19; with_reducible refine (HA1.out _ (show Below w8.heap.size w8 _ by ((repeat (first | refine Below.drew ?_ | (with_reducible refine below_drewN _ ?_) | refine Below.alloc ?_ (by first | omega | (simp; done) | (simp; omega)) _ | refine Below.setCell ?_ (by first | omega | (simp; done) | (simp; omega)) _)); first | exact Below.refl _ _ | assumption | exact below_drewN _ (Below.refl _ _) | exact below_drewN _ (below_drewN _ (Below.refl _ _))))).mono ?_; rintro e q3 ⟨rfl, hb9⟩; have hbD := Below.trans (show Below w8.heap.size w8 _ by ((repeat (first | refine Below.drew ?_ | (with_reducible refine below_drewN _ ?_) | refine Below.alloc ?_ (by first | omega | (simp; done) | (simp; omega)) _ | refine Below.setCell ?_ (by first | omega | (simp; done) | (simp; omega)) _)); first | exact Below.refl _ _ | assumption | exact below_drewN _ (Below.refl _ _) | exact below_drewN _ (below_drewN _ (Below.refl _ _)))) (hb9.mono (Below.size (show Below w8.heap.size w8 _ by ((repeat (first | refine Below.drew ?_ | (with_reducible refine below_drewN _ ?_) | refine Below.alloc ?_ (by first | omega | (simp; done) | (simp; omega)) _ | refine Below.setCell ?_ (by first | omega | (simp; done) | (simp; omega)) _)); first | exact Below.refl _ _ | assumption | exact below_drewN _ (Below.refl _ _) | exact below_drewN _ (below_drewN _ (Below.refl _ _)))))); clear hb9 hb0 HA1)
     | (go_at_call 19; with_reducible refine (HA2.out _ (show Below w8.heap.size w8 _ by ((repeat (first | refine Below.drew ?_ | (with_reducible refine below_drewN _ ?_) | refine Below.alloc ?_ (by first | omega | (simp; done) | (simp; omega)) _ | refine Below.setCell ?_ (by first | omega | (simp; done) | (simp; omega)) _)); first | exact Below.refl _ _ | assumption | exact below_drewN _ (Below.refl _ _) | exact below_drewN _ (below_drewN _ (Below.refl _ _))))).mono ?_; rintro e q4 ⟨rfl, hb9⟩; have hbE := Below.trans (show Below w8.heap.size w8 _ by ((repeat (first | refine Below.drew ?_ | (with_reducible refine below_drewN _ ?_) | refine Below.alloc ?_ (by first | omega | (simp; done) | (simp; omega)) _ | refine Below.setCell ?_ (by first | omega | (simp; done) | (simp; omega)) _)); first | exact Below.refl _ _ | assumption | exact below_drewN _ (Below.refl _ _) | exact below_drewN _ (below_drewN _ (Below.refl _ _)))) (hb9.mono (Below.size (show Below w8.heap.size w8 _ by ((repeat (first | refine Below.drew ?_ | (with_reducible refine below_drewN _ ?_) | refine Below.alloc ?_ (by first | omega | (simp; done) | (simp; omega)) _ | refine Below.setCell ?_ (by first | omega | (simp; done) | (simp; omega)) _)); first | exact Below.refl _ _ | assumption | exact below_drewN _ (Below.refl _ _) | exact below_drewN _ (below_drewN _ (Below.refl _ _)))))); clear hb9))
  clear a0 a1 a2 a3
  go_wp2_with fail
  go_ret
  exact ⟨rfl, Below.andThen HZ.out hbE⟩

theorem walkAll_c {w : World} {A : Option Addr} {c : Nat} {l : List ActT} (k : Int) (hT : Tz w) (hA : ActsT w w.heap.size A l) (hl : l.length ≤ maxLen) {A2 : Option Addr} {c2 : Nat} {p : List Nat} (hp : Pts w w.heap.size A2 p) :
    Calls Tryz.prog 3 #[.int .i64 k, .slice A l.length c, .slice A2 p.length c2] w fun e w' => e = .returned (.bool true) ∧ Below w.heap.size w w' := by
  rcases hh : heavyA 50 l with _ | _
  · by_cases hk : 1 ≤ k ∧ k ≤ 16
    · obtain ⟨n, rfl⟩ : ∃ n : Nat, k = (n : Int) := ⟨k.toNat, by omega⟩
      by_cases hbig : 40 < p.length
      · exact walkAll_big n hT hA hl hh (by omega) (by omega) A2 p.length c2 hbig
      · by_cases hpk : p.length = n
        · exact walkAllE_go n hT hA hl hh (by omega) (by omega) hp (by omega) hpk
        · exact walkAllD_go n hT hA hl hh (by omega) (by omega) hp (by omega) hpk
    · exact walkAll_arg k hT hA hl hh hk A2 p.length c2
  · exact walkAll_skip k hT hA hl hh A2 p.length c2
end Go.Proofs.YtccefboifhfkdaaGreatDoor
