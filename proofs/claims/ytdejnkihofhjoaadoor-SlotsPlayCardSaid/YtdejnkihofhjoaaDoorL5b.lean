/-
  THE WALK of the law SlotsPlay.
-/
import Derived.Test.YtdejnkihofhjoaaDoorL5p
import Derived.Test.YtdejnkihofhjoaaDoorAw5
import Derived.Test.YtdejnkihofhjoaaDoorSau
import Derived.Deep.CutRange
namespace Go.Proofs.YtdejnkihofhjoaaDoor
open Go.ChangeShapes Go.WideShapes Go.ChangeAt Go.RowKit
open Go.Proofs.YtdejnkihofhjoaaDoor.Su

/-- what is done: a list of acts that can be read -/
def Acts (w : World) (B : Nat) (A : Option Addr) (l : List (Bool × Int × Nat)) : Prop :=
  l ≠ [] → ∃ b off, A = some ⟨b, off, none⟩ ∧ b < B ∧ ∀ (i : Nat) (t : Bool × Int × Nat), l[i]? = some t → (w.cell? ⟨b, off + i * 3, none⟩ = some (.bool t.1) ∧ w.cell? ⟨b, off + i * 3 + 1, none⟩ = some (.int .i64 t.2.1) ∧ w.cell? ⟨b, off + i * 3 + 2, none⟩ = some (.int .u64 (t.2.2 : Int))) ∧ -9223372036854775808 ≤ t.2.1 ∧ t.2.1 ≤ 9223372036854775807
theorem Acts.at {w : World} {B : Nat} {A : Option Addr} {l : List (Bool × Int × Nat)} (h : Acts w B A l) {i : Nat} {t : Bool × Int × Nat} (ht : l[i]? = some t) :
    ∃ b off, A = some ⟨b, off, none⟩ ∧ b < B ∧ (w.cell? ⟨b, off + i * 3, none⟩ = some (.bool t.1) ∧ w.cell? ⟨b, off + i * 3 + 1, none⟩ = some (.int .i64 t.2.1) ∧ w.cell? ⟨b, off + i * 3 + 2, none⟩ = some (.int .u64 (t.2.2 : Int))) ∧ -9223372036854775808 ≤ t.2.1 ∧ t.2.1 ≤ 9223372036854775807 := by
  obtain ⟨b, off, hA, hb, hc⟩ := h (by rintro rfl; simp at ht)
  exact ⟨b, off, hA, hb, hc i t ht⟩
theorem Acts.below {w w' : World} {B D : Nat} {A : Option Addr} {l : List (Bool × Int × Nat)} (h : Acts w B A l) (hb : Below D w w') (hD : B ≤ D) : Acts w' B A l := by
  intro hn
  obtain ⟨b, off, hA, hlt, hc⟩ := h hn
  refine ⟨b, off, hA, hlt, fun i t ht => ⟨⟨?_, ?_, ?_⟩, (hc i t ht).2⟩⟩
  · exact (hb.cell (p := ⟨b, off + i * 3, none⟩) (by show b < D; omega)).trans (hc i t ht).1.1
  · exact (hb.cell (p := ⟨b, off + i * 3 + 1, none⟩) (by show b < D; omega)).trans (hc i t ht).1.2.1
  · exact (hb.cell (p := ⟨b, off + i * 3 + 2, none⟩) (by show b < D; omega)).trans (hc i t ht).1.2.2
set_option maxRecDepth 100000 in
theorem slotsPlay_big (k a : Int) (A : Option Addr) (n c : Nat) (w : World) (hn : 100 < n) (hm : n ≤ maxLen) :
    Calls Tryd.prog 3 #[.int .i64 k, .slice A n c, .int .i64 a] w fun e w' => e = .returned (.bool true) ∧ Below w.heap.size w w' := by
  unfold maxLen at hm
  go_enter Tryd.func3, Tryd.ntmps3
  go_wp2_with fail
  refine (awake5_c _).mono ?_
  rintro e w1 ⟨rfl, hb1⟩
  go_wp2_with fail
  go_ret
  exact ⟨rfl, hb1⟩
set_option maxRecDepth 100000 in
theorem slotsPlay_arg (k a : Int) (A : Option Addr) (n c : Nat) (w : World) (hn : n ≤ 100) (hk : k < 1 ∨ 16 < k) :
    Calls Tryd.prog 3 #[.int .i64 k, .slice A n c, .int .i64 a] w fun e w' => e = .returned (.bool true) ∧ Below w.heap.size w w' := by
  rcases (show k < 1 ∨ (¬ k < 1 ∧ 16 < k) by omega) with h | ⟨h, h'⟩
  · have d1 : decide (k < 1) = true := decide_eq_true h
    clear hk h
    go_enter Tryd.func3, Tryd.ntmps3
    go_wp2_with fail
    refine (awake5_c _).mono ?_
    rintro e w1 ⟨rfl, hb1⟩
    go_wp2_with fail
    refine (sNew_no k w1 (by simp at d1; omega)).mono ?_
    rintro e w2 ⟨rfl, rfl⟩
    go_wp2_with fail
    go_ret
    exact ⟨rfl, hb1⟩
  · have d1 : decide (k < 1) = false := decide_eq_false h
    have d2 : decide (16 < k) = true := decide_eq_true h'
    clear hk h h'
    go_enter Tryd.func3, Tryd.ntmps3
    go_wp2_with fail
    refine (awake5_c _).mono ?_
    rintro e w1 ⟨rfl, hb1⟩
    go_wp2_with fail
    refine (sNew_no k w1 (by simp at d2; omega)).mono ?_
    rintro e w2 ⟨rfl, rfl⟩
    go_wp2_with fail
    go_ret
    exact ⟨rfl, hb1⟩

/-- what holds ahead of each round -/
def Round (w : World) (g h k n : Nat) (s old i : Value) : Prop :=
  ∃ (j b : Nat) (A : Option Addr) (c : Nat) (C : Option Addr) (c' : Nat) (L : Al) (d : Nat) (D : Option Addr) (f : Nat) (F : Option Addr) (f' : Nat) (M : Al),
    j ≤ n ∧ i = .int .i64 (j : Int) ∧ s = .pointer (some ⟨b, 0, none⟩) ∧ old = .pointer (some ⟨d, 0, none⟩) ∧ Play w g h k b A c C c' L d D f F f' M
set_option maxRecDepth 100000 in
set_option maxHeartbeats 4000000 in
theorem slotsPlay_go (k : Nat) (a : Int) (A : Option Addr) (l : List (Bool × Int × Nat)) (c : Nat) (w : World) (hl : Acts w w.heap.size A l) (hn : l.length ≤ 100) (h1 : 1 ≤ k) (h16 : k ≤ 16) (hT : Tz w) (hlo : -9223372036854775808 ≤ a) (hhi : a ≤ 9223372036854775807) :
    Calls Tryd.prog 3 #[.int .i64 (k : Int), .slice A l.length c, .int .i64 a] w fun e w' => e = .returned (.bool true) ∧ Below w.heap.size w w' := by
  have d1 : decide ((k : Int) < 1) = false := decide_eq_false (by omega)
  have d2 : decide ((16 : Int) < (k : Int)) = false := decide_eq_false (by omega)
  have d3 : decide ((100 : Int) < (l.length : Int)) = false := decide_eq_false (by omega)
  obtain ⟨n, hln⟩ : ∃ n, l.length = n := ⟨_, rfl⟩
  rw [hln] at hn d3 ⊢
  have HL := Lib.hid (And.intro hl hln)
  have HT := Lib.hid hT
  have Hk := Lib.hid (And.intro h1 h16)
  have Ha := Lib.hid (And.intro hlo hhi)
  clear hl hT h1 h16 hlo hhi hln
  go_enter Tryd.func3, Tryd.ntmps3
  go_wp2_with fail
  refine (awake5_c _).mono ?_
  rintro e w1 ⟨rfl, hb1⟩
  have B1 := Lib.hid hb1
  clear hb1
  go_wp2_with fail
  refine (sNew_yes k w1 Hk.out.1 Hk.out.2).mono ?_
  rintro e w2 ⟨b0, rfl, hat2, hb2⟩
  have B2 := Lib.hid (Below.andThen B1.out hb2)
  have P0 := Lib.hid (play_new hat2 (HT.out.on B2.out) 32)
  clear hb2 hat2
  go_wp2_with fail
  go_region
  have hB := ((below_alloc w2 (.cells #[.int .i64 (k : Int), .slice none 0 0, .slice none 0 0] 32)).alloc (by simp) (.cells #[.int .i64 (k : Int), .slice none 0 0, .slice none 0 0] 32))
  have B3 := Lib.hid (Below.andThen B2.out hB)
  have hgw : w.heap.size ≤ w2.heap.size := B2.out.size
  clear hB
  generalize (w2.alloc _).alloc _ = W at *
  obtain ⟨g, hg⟩ : ∃ g, w2.heap.size = g := ⟨_, rfl⟩
  rw [hg] at P0 hgw ⊢
  go_wp2_with fail
  go_loopw [7, 10, 12] (fun s old i wr => Round wr g (g + 1) k n s old i ∧ Below w.heap.size w wr) (fun _ _ i _ => n - (intOf i).toNat)
  case atStart => exact ⟨⟨0, b0, none, 0, none, 0, [], b0, none, 0, none, 0, [], Nat.zero_le _, rfl, rfl, rfl, P0.out.step (Below.refl _ _).drew⟩, B3.out.drew⟩
  case round =>
    obtain ⟨⟨j, b, A1, c1, C1, c1', L, d, D, f, F, f', M, hj, rfl, rfl, rfl, hP⟩, hbw⟩ := hrel
    have P1 := Lib.hid hP
    have BW := Lib.hid hbw
    clear hP hbw
    by_cases hlt : j < n
    · obtain ⟨⟨del, ad, x⟩, ht⟩ := get_lt (show j < l.length by rw [HL.out.2]; exact hlt)
      obtain ⟨ab, ao, hAA, hab, hcell, hadlo, hadhi⟩ := HL.out.1.at ht
      cases hAA
      have k1 : (0 : Int) ≤ (j : Int) := by omega
      have k2 : (j : Int) < (n : Int) := by omega
      have hsW := BW.out.size
      obtain ⟨xo, hxo⟩ : ∃ xo, (Sl.get L ad).getD 0 = xo := ⟨_, rfl⟩
      obtain ⟨r, hr⟩ : ∃ r, Sl.has L ad = r := ⟨_, rfl⟩
      obtain ⟨ia, hia⟩ : ∃ ia, isA k ad = ia := ⟨_, rfl⟩
      have HX := Lib.hid (And.intro hxo (And.intro hr hia))
      have HCw : Hid (∀ w', Below w.heap.size w w' → w'.cell? ⟨ab, ao + j * 3, none⟩ = some (.bool del) ∧ w'.cell? ⟨ab, ao + j * 3 + 1, none⟩ = some (.int .i64 ad) ∧ w'.cell? ⟨ab, ao + j * 3 + 2, none⟩ = some (.int .u64 (x : Int))) := Lib.hid fun w' hb => ⟨(hb.cell (p := ⟨ab, ao + j * 3, none⟩) hab).trans hcell.1, (hb.cell (p := ⟨ab, ao + j * 3 + 1, none⟩) hab).trans hcell.2.1, (hb.cell (p := ⟨ab, ao + j * 3 + 2, none⟩) hab).trans hcell.2.2⟩
      have HCq : Hid (∀ w', Below wr.heap.size wr w' → w'.cell? ⟨ab, ao + j * 3, none⟩ = some (.bool del) ∧ w'.cell? ⟨ab, ao + j * 3 + 1, none⟩ = some (.int .i64 ad) ∧ w'.cell? ⟨ab, ao + j * 3 + 2, none⟩ = some (.int .u64 (x : Int))) := Lib.hid fun w' hb => HCw.out w' (BW.out.trans (hb.mono hsW))
      have HD := Lib.hid (And.intro hadlo hadhi)
      clear hxo hr hia hcell hadlo hadhi ht
      have B1r : Hid (Below wr.heap.size wr wr) := Lib.hid (Below.refl _ _)
      have q0 : ∀ w', Below wr.heap.size wr w' → w'.cell? ⟨g, 0, none⟩ = some (.int .i64 (k : Int)) := fun w' hb => (P1.out.step hb).c9.1.1
      have q1 : ∀ w', Below wr.heap.size wr w' → w'.cell? ⟨g, 1, none⟩ = some (.slice A1 L.length c1) := fun w' hb => (P1.out.step hb).c9.1.2.1
      have q2 : ∀ w', Below wr.heap.size wr w' → w'.cell? ⟨g, 2, none⟩ = some (.slice C1 L.length c1') := fun w' hb => (P1.out.step hb).c9.1.2.2
      have l1 : ∀ w', Below wr.heap.size wr w' → w'.cell? ⟨ab, ao + j * 3 + 1, none⟩ = some (.int .i64 ad) := fun w' hb => (HCq.out w' (B1r.out.trans (hb.mono B1r.out.size))).2.1
      go_wp2_with fail
      go_region_held3 (fun w' => Below wr.heap.size wr w') (((repeat (first | refine Below.drew ?_ | refine Below.alloc ?_ (by first | omega | (simp; done) | (simp; omega)) _ | refine Below.setCell ?_ (by first | omega | (simp; done) | (simp; omega)) _)); first | exact Below.refl _ _ | assumption | exact below_drewN _ (Below.refl _ _)))
        ((first
          | (go_at_call 7; refine (rget_c (P1.out.step (by ((repeat (first | refine Below.drew ?_ | refine Below.alloc ?_ (by first | omega | (simp; done) | (simp; omega)) _ | refine Below.setCell ?_ (by first | omega | (simp; done) | (simp; omega)) _)); first | exact Below.refl _ _ | assumption | exact below_drewN _ (Below.refl _ _)))).one.out.2 (Nat.le_refl _) ad xo r HX.out.1 HX.out.2.1).mono ?_; rintro e w3 ⟨rfl, hb3⟩; have hB3 := Below.andThen (show Below wr.heap.size wr _ by ((repeat (first | refine Below.drew ?_ | refine Below.alloc ?_ (by first | omega | (simp; done) | (simp; omega)) _ | refine Below.setCell ?_ (by first | omega | (simp; done) | (simp; omega)) _)); first | exact Below.refl _ _ | assumption | exact below_drewN _ (Below.refl _ _))) hb3; clear hb3)))
      clear q0 q1 q2 l1
      have P3 := Lib.hid (P1.out.step hB3)
      have B3 := Lib.hid hB3
      obtain ⟨y0, y1, y2⟩ := HCq.out w3 hB3
      clear hB3
      go_upto_if 65 with fail
      go_cut [7] from 45 to 170 (fun s wx => ∃ b2 A2 c2 C2 c2' L2, s = Value.pointer (some ⟨b2, 0, none⟩) ∧ Play wx g (g + 1) k b2 A2 c2 C2 c2' L2 d D f F f' M ∧ Below w.heap.size w wx)
      case first =>
        cases del
        · clear y0 y1 y2
          have q0 : ∀ w', Below w3.heap.size w3 w' → w'.cell? ⟨g, 0, none⟩ = some (.int .i64 (k : Int)) := fun w' hb => (P3.out.step hb).c9.1.1
          have q1 : ∀ w', Below w3.heap.size w3 w' → w'.cell? ⟨g, 1, none⟩ = some (.slice A1 L.length c1) := fun w' hb => (P3.out.step hb).c9.1.2.1
          have q2 : ∀ w', Below w3.heap.size w3 w' → w'.cell? ⟨g, 2, none⟩ = some (.slice C1 L.length c1') := fun w' hb => (P3.out.step hb).c9.1.2.2
          have l1 : ∀ w', Below w3.heap.size w3 w' → w'.cell? ⟨ab, ao + j * 3 + 1, none⟩ = some (.int .i64 ad) := fun w' hb => (HCq.out w' (B3.out.trans (hb.mono B3.out.size))).2.1
          have l2 : ∀ w', Below w3.heap.size w3 w' → w'.cell? ⟨ab, ao + j * 3 + 2, none⟩ = some (.int .u64 (x : Int)) := fun w' hb => (HCq.out w' (B3.out.trans (hb.mono B3.out.size))).2.2
          cases ia
          · go_wp2_with fail
            go_region_held3 (fun w' => Below w3.heap.size w3 w') (((repeat (first | refine Below.drew ?_ | refine Below.alloc ?_ (by first | omega | (simp; done) | (simp; omega)) _ | refine Below.setCell ?_ (by first | omega | (simp; done) | (simp; omega)) _)); first | exact Below.refl _ _ | assumption | exact below_drewN _ (Below.refl _ _)))
              ((first
                | (go_at_call 11; refine (sPut_arg (P3.out.step (by ((repeat (first | refine Below.drew ?_ | refine Below.alloc ?_ (by first | omega | (simp; done) | (simp; omega)) _ | refine Below.setCell ?_ (by first | omega | (simp; done) | (simp; omega)) _)); first | exact Below.refl _ _ | assumption | exact below_drewN _ (Below.refl _ _)))).one.out.1.1 (P3.out.step (by ((repeat (first | refine Below.drew ?_ | refine Below.alloc ?_ (by first | omega | (simp; done) | (simp; omega)) _ | refine Below.setCell ?_ (by first | omega | (simp; done) | (simp; omega)) _)); first | exact Below.refl _ _ | assumption | exact below_drewN _ (Below.refl _ _)))).one.out.1.2 ad HX.out.2.2 _).mono ?_; rintro e w' ⟨rfl, rfl⟩)))
            have hB4 : Below w3.heap.size w3 w3.drew := (Below.refl _ _).drew
            generalize w3.drew = w4 at *
            have P4 := Lib.hid (P3.out.step hB4)
            have B4 := Lib.hid (B3.out.trans (hB4.mono B3.out.size))
            clear q0 q1 q2 l1 l2 hB4
            have q0 : ∀ w', Below w4.heap.size w4 w' → w'.cell? ⟨g, 0, none⟩ = some (.int .i64 (k : Int)) := fun w' hb => (P4.out.step hb).c9.1.1
            have q1 : ∀ w', Below w4.heap.size w4 w' → w'.cell? ⟨g, 1, none⟩ = some (.slice A1 L.length c1) := fun w' hb => (P4.out.step hb).c9.1.2.1
            have q2 : ∀ w', Below w4.heap.size w4 w' → w'.cell? ⟨g, 2, none⟩ = some (.slice C1 L.length c1') := fun w' hb => (P4.out.step hb).c9.1.2.2
            have l1 : ∀ w', Below w4.heap.size w4 w' → w'.cell? ⟨ab, ao + j * 3 + 1, none⟩ = some (.int .i64 ad) := fun w' hb => (HCq.out w' (B4.out.trans (hb.mono B4.out.size))).2.1
            go_wp2_with fail
            go_region_held3 (fun w' => Below w4.heap.size w4 w') (((repeat (first | refine Below.drew ?_ | refine Below.alloc ?_ (by first | omega | (simp; done) | (simp; omega)) _ | refine Below.setCell ?_ (by first | omega | (simp; done) | (simp; omega)) _)); first | exact Below.refl _ _ | assumption | exact below_drewN _ (Below.refl _ _)))
              ((first
                | (go_at_call 9; refine (rthere_c A1 L.length c1 C1 L.length c1' _ Hk.out.2 _ false HX.out.2.2).mono ?_; rintro e w5 ⟨rfl, hb5⟩; have hB5 := Below.andThen (show Below w4.heap.size w4 _ by ((repeat (first | refine Below.drew ?_ | refine Below.alloc ?_ (by first | omega | (simp; done) | (simp; omega)) _ | refine Below.setCell ?_ (by first | omega | (simp; done) | (simp; omega)) _)); first | exact Below.refl _ _ | assumption | exact below_drewN _ (Below.refl _ _))) hb5; clear hb5)))
            have P5 := Lib.hid (P4.out.step hB5)
            have B5 := Lib.hid (B4.out.trans (hB5.mono B4.out.size))
            clear q0 q1 q2 l1 hB5
            go_wp2_with fail
            go_roundw
            case rel => exact ⟨⟨j + 1, b, A1, c1, C1, c1', L, d, D, f, F, f', M, by omega, by go_num, rfl, rfl, P5.out⟩, BW.out.trans (B5.out.mono hsW)⟩
            case measure => simp [intOf]; omega
          · obtain ⟨an, rfl, han⟩ := isA_true HX.out.2.2
            go_wp2_with fail
            go_region_held3 (fun w' => Below w3.heap.size w3 w') (((repeat (first | refine Below.drew ?_ | refine Below.alloc ?_ (by first | omega | (simp; done) | (simp; omega)) _ | refine Below.setCell ?_ (by first | omega | (simp; done) | (simp; omega)) _)); first | exact Below.refl _ _ | assumption | exact below_drewN _ (Below.refl _ _)))
              ((first
                | (go_at_call 11; refine (sPut_c (P3.out.step (by ((repeat (first | refine Below.drew ?_ | refine Below.alloc ?_ (by first | omega | (simp; done) | (simp; omega)) _ | refine Below.setCell ?_ (by first | omega | (simp; done) | (simp; omega)) _)); first | exact Below.refl _ _ | assumption | exact below_drewN _ (Below.refl _ _)))).one.out.1 (Nat.le_refl _) an han x).mono ?_; rintro e w4 ⟨b2, rfl, hat2, hb4⟩; have hB4 := Below.andThen (show Below w3.heap.size w3 _ by ((repeat (first | refine Below.drew ?_ | refine Below.alloc ?_ (by first | omega | (simp; done) | (simp; omega)) _ | refine Below.setCell ?_ (by first | omega | (simp; done) | (simp; omega)) _)); first | exact Below.refl _ _ | assumption | exact below_drewN _ (Below.refl _ _))) hb4; clear hb4)))
            have HA4 := Lib.hid hat2
            have P4 := Lib.hid (P3.out.step hB4)
            have B4 := Lib.hid (B3.out.trans (hB4.mono B3.out.size))
            clear q0 q1 q2 l1 l2 hB4 hat2
            have q0 : ∀ w', Below w4.heap.size w4 w' → w'.cell? ⟨g, 0, none⟩ = some (.int .i64 (k : Int)) := fun w' hb => (P4.out.step hb).c9.1.1
            have q1 : ∀ w', Below w4.heap.size w4 w' → w'.cell? ⟨g, 1, none⟩ = some (.slice A1 L.length c1) := fun w' hb => (P4.out.step hb).c9.1.2.1
            have q2 : ∀ w', Below w4.heap.size w4 w' → w'.cell? ⟨g, 2, none⟩ = some (.slice C1 L.length c1') := fun w' hb => (P4.out.step hb).c9.1.2.2
            have l1 : ∀ w', Below w4.heap.size w4 w' → w'.cell? ⟨ab, ao + j * 3 + 1, none⟩ = some (.int .i64 (an : Int)) := fun w' hb => (HCq.out w' (B4.out.trans (hb.mono B4.out.size))).2.1
            go_wp2_with fail
            go_region_held3 (fun w' => Below w4.heap.size w4 w') (((repeat (first | refine Below.drew ?_ | refine Below.alloc ?_ (by first | omega | (simp; done) | (simp; omega)) _ | refine Below.setCell ?_ (by first | omega | (simp; done) | (simp; omega)) _)); first | exact Below.refl _ _ | assumption | exact below_drewN _ (Below.refl _ _)))
              ((first
                | (go_at_call 9; refine (rthere_c A1 L.length c1 C1 L.length c1' _ Hk.out.2 _ true HX.out.2.2).mono ?_; rintro e w5 ⟨rfl, hb5⟩; have hB5 := Below.andThen (show Below w4.heap.size w4 _ by ((repeat (first | refine Below.drew ?_ | refine Below.alloc ?_ (by first | omega | (simp; done) | (simp; omega)) _ | refine Below.setCell ?_ (by first | omega | (simp; done) | (simp; omega)) _)); first | exact Below.refl _ _ | assumption | exact below_drewN _ (Below.refl _ _))) hb5; clear hb5)))
            have P5 := Lib.hid (P4.out.step hB5)
            have B5 := Lib.hid (B4.out.trans (hB5.mono B4.out.size))
            have HA5 := Lib.hid (HA4.out.below hB5 (Nat.le_refl _) hB5.size)
            clear q0 q1 q2 l1 hB5
            obtain ⟨⟨z0, z1, z2⟩, z3, z4, z5⟩ := P5.out.c9
            obtain ⟨y0, y1, y2⟩ := HCq.out w5 B5.out
            have hW5 := BW.out.trans (B5.out.mono hsW)
            go_wp2_with fail
            go_region_with
              ((first
                | (go_at_call 12; refine (rput_c (P5.out.step (show Below w5.heap.size w5 _ by ((repeat (first | refine Below.drew ?_ | refine Below.alloc ?_ (by first | omega | (simp; done) | (simp; omega)) _ | refine Below.setCell ?_ (by first | omega | (simp; done) | (simp; omega)) _)); first | exact Below.refl _ _ | assumption | exact below_drewN _ (Below.refl _ _)))).one.out.2 (Nat.le_refl _) an x han).mono ?_; rintro e w6 ⟨A2, c2, C2, c2', rfl, hr6, hb6⟩; have hb56 := Below.andThen (show Below w5.heap.size w5 _ by ((repeat (first | refine Below.drew ?_ | refine Below.alloc ?_ (by first | omega | (simp; done) | (simp; omega)) _ | refine Below.setCell ?_ (by first | omega | (simp; done) | (simp; omega)) _)); first | exact Below.refl _ _ | assumption | exact below_drewN _ (Below.refl _ _))) hb6; have P6 := Lib.hid (P5.out.step hb56); have S6 := Lib.hid (side_of (HA5.out.below hb56 (Nat.le_refl _) hb56.size) P6.out.k9 P6.out.k11 (show g < _ by simpa using P5.out.lt9) (show g + 1 < _ by simpa using P5.out.lt11) hr6); have hB6 := hW5.trans (hb56.mono hW5.size); clear z0 z1 z2 z3 z4 z5 hr6 hb6; obtain ⟨⟨z0, z1, z2⟩, z3, z4, z5⟩ := P6.out.c9)))
            all_goals (
              go_wp2_with fail
              go_meet
              case rel => exact ⟨b2, A2, c2, C2, c2', _, rfl, P6.out.moved S6.out, below_set3 hB6 hgw _ _ _⟩)
        · go_wp2_with fail
          cases ia
          · refine (sDel_arg P3.out.one.out.1.1 P3.out.one.out.1.2 ad HX.out.2.2).mono ?_
            rintro e w' ⟨rfl, rfl⟩
            clear y0 y1 y2
            have q0 : ∀ w', Below w3.heap.size w3 w' → w'.cell? ⟨g, 0, none⟩ = some (.int .i64 (k : Int)) := fun w' hb => (P3.out.step hb).c9.1.1
            have q1 : ∀ w', Below w3.heap.size w3 w' → w'.cell? ⟨g, 1, none⟩ = some (.slice A1 L.length c1) := fun w' hb => (P3.out.step hb).c9.1.2.1
            have q2 : ∀ w', Below w3.heap.size w3 w' → w'.cell? ⟨g, 2, none⟩ = some (.slice C1 L.length c1') := fun w' hb => (P3.out.step hb).c9.1.2.2
            have l1 : ∀ w', Below w3.heap.size w3 w' → w'.cell? ⟨ab, ao + j * 3 + 1, none⟩ = some (.int .i64 ad) := fun w' hb => (HCq.out w' (B3.out.trans (hb.mono B3.out.size))).2.1
            go_wp2_with fail
            go_region_held3 (fun w' => Below w3.heap.size w3 w') (((repeat (first | refine Below.drew ?_ | refine Below.alloc ?_ (by first | omega | (simp; done) | (simp; omega)) _ | refine Below.setCell ?_ (by first | omega | (simp; done) | (simp; omega)) _)); first | exact Below.refl _ _ | assumption | exact below_drewN _ (Below.refl _ _)))
              ((first
                | (go_at_call 9; refine (rthere_c A1 L.length c1 C1 L.length c1' _ Hk.out.2 _ false HX.out.2.2).mono ?_; rintro e w5 ⟨rfl, hb5⟩; have hB5 := Below.andThen (show Below w3.heap.size w3 _ by ((repeat (first | refine Below.drew ?_ | refine Below.alloc ?_ (by first | omega | (simp; done) | (simp; omega)) _ | refine Below.setCell ?_ (by first | omega | (simp; done) | (simp; omega)) _)); first | exact Below.refl _ _ | assumption | exact below_drewN _ (Below.refl _ _))) hb5; clear hb5)))
            have P5 := Lib.hid (P3.out.step hB5)
            have B5 := Lib.hid (B3.out.trans (hB5.mono B3.out.size))
            clear q0 q1 q2 l1 hB5
            go_wp2_with fail
            go_roundw
            case rel => exact ⟨⟨j + 1, b, A1, c1, C1, c1', L, d, D, f, F, f', M, by omega, by go_num, rfl, rfl, P5.out⟩, BW.out.trans (B5.out.mono hsW)⟩
            case measure => simp [intOf]; omega
          · obtain ⟨an, rfl, han⟩ := isA_true HX.out.2.2
            cases r
            · refine (sDel_none P3.out.one.out.1.1 P3.out.one.out.1.2 an han HX.out.2.1).mono ?_
              rintro e w4 ⟨rfl, n4, h4⟩
              have hB4 : Below w3.heap.size w3 w4 := by rw [h4]; exact below_drewN _ (Below.refl _ _)
              have P4 := Lib.hid (P3.out.step hB4)
              have B4 := Lib.hid (B3.out.trans (hB4.mono B3.out.size))
              clear y0 y1 y2 hB4 h4
              have q0 : ∀ w', Below w4.heap.size w4 w' → w'.cell? ⟨g, 0, none⟩ = some (.int .i64 (k : Int)) := fun w' hb => (P4.out.step hb).c9.1.1
              have q1 : ∀ w', Below w4.heap.size w4 w' → w'.cell? ⟨g, 1, none⟩ = some (.slice A1 L.length c1) := fun w' hb => (P4.out.step hb).c9.1.2.1
              have q2 : ∀ w', Below w4.heap.size w4 w' → w'.cell? ⟨g, 2, none⟩ = some (.slice C1 L.length c1') := fun w' hb => (P4.out.step hb).c9.1.2.2
              have l1 : ∀ w', Below w4.heap.size w4 w' → w'.cell? ⟨ab, ao + j * 3 + 1, none⟩ = some (.int .i64 (an : Int)) := fun w' hb => (HCq.out w' (B4.out.trans (hb.mono B4.out.size))).2.1
              go_wp2_with fail
              go_region_held3 (fun w' => Below w4.heap.size w4 w') (((repeat (first | refine Below.drew ?_ | refine Below.alloc ?_ (by first | omega | (simp; done) | (simp; omega)) _ | refine Below.setCell ?_ (by first | omega | (simp; done) | (simp; omega)) _)); first | exact Below.refl _ _ | assumption | exact below_drewN _ (Below.refl _ _)))
                ((first
                  | (go_at_call 9; refine (rthere_c A1 L.length c1 C1 L.length c1' _ Hk.out.2 _ true HX.out.2.2).mono ?_; rintro e w5 ⟨rfl, hb5⟩; have hB5 := Below.andThen (show Below w4.heap.size w4 _ by ((repeat (first | refine Below.drew ?_ | refine Below.alloc ?_ (by first | omega | (simp; done) | (simp; omega)) _ | refine Below.setCell ?_ (by first | omega | (simp; done) | (simp; omega)) _)); first | exact Below.refl _ _ | assumption | exact below_drewN _ (Below.refl _ _))) hb5; clear hb5)))
              have P5 := Lib.hid (P4.out.step hB5)
              have B5 := Lib.hid (B4.out.trans (hB5.mono B4.out.size))
              clear q0 q1 q2 l1 hB5
              go_wp2_with fail
              go_roundw
              case rel => exact ⟨⟨j + 1, b, A1, c1, C1, c1', L, d, D, f, F, f', M, by omega, by go_num, rfl, rfl, P5.out⟩, BW.out.trans (B5.out.mono hsW)⟩
              case measure => simp [intOf]; omega
            · refine (sDel_c P3.out.one.out.1 (Nat.le_refl _) an han HX.out.2.1).mono ?_
              rintro e w4 ⟨b2, rfl, hat2, hB4⟩
              have HA4 := Lib.hid hat2
              have P4 := Lib.hid (P3.out.step hB4)
              have B4 := Lib.hid (B3.out.trans (hB4.mono B3.out.size))
              clear hat2 hB4 y0 y1 y2
              have q0 : ∀ w', Below w4.heap.size w4 w' → w'.cell? ⟨g, 0, none⟩ = some (.int .i64 (k : Int)) := fun w' hb => (P4.out.step hb).c9.1.1
              have q1 : ∀ w', Below w4.heap.size w4 w' → w'.cell? ⟨g, 1, none⟩ = some (.slice A1 L.length c1) := fun w' hb => (P4.out.step hb).c9.1.2.1
              have q2 : ∀ w', Below w4.heap.size w4 w' → w'.cell? ⟨g, 2, none⟩ = some (.slice C1 L.length c1') := fun w' hb => (P4.out.step hb).c9.1.2.2
              have l1 : ∀ w', Below w4.heap.size w4 w' → w'.cell? ⟨ab, ao + j * 3 + 1, none⟩ = some (.int .i64 (an : Int)) := fun w' hb => (HCq.out w' (B4.out.trans (hb.mono B4.out.size))).2.1
              go_wp2_with fail
              go_region_held3 (fun w' => Below w4.heap.size w4 w') (((repeat (first | refine Below.drew ?_ | refine Below.alloc ?_ (by first | omega | (simp; done) | (simp; omega)) _ | refine Below.setCell ?_ (by first | omega | (simp; done) | (simp; omega)) _)); first | exact Below.refl _ _ | assumption | exact below_drewN _ (Below.refl _ _)))
                ((first
                  | (go_at_call 9; refine (rthere_c A1 L.length c1 C1 L.length c1' _ Hk.out.2 _ true HX.out.2.2).mono ?_; rintro e w5 ⟨rfl, hb5⟩; have hB5 := Below.andThen (show Below w4.heap.size w4 _ by ((repeat (first | refine Below.drew ?_ | refine Below.alloc ?_ (by first | omega | (simp; done) | (simp; omega)) _ | refine Below.setCell ?_ (by first | omega | (simp; done) | (simp; omega)) _)); first | exact Below.refl _ _ | assumption | exact below_drewN _ (Below.refl _ _))) hb5; clear hb5)))
              have P5 := Lib.hid (P4.out.step hB5)
              have B5 := Lib.hid (B4.out.trans (hB5.mono B4.out.size))
              have HA5 := Lib.hid (HA4.out.below hB5 (Nat.le_refl _) hB5.size)
              clear q0 q1 q2 l1 hB5
              obtain ⟨⟨z0, z1, z2⟩, z3, z4, z5⟩ := P5.out.c9
              obtain ⟨y0, y1, y2⟩ := HCq.out w5 B5.out
              have hW5 := BW.out.trans (B5.out.mono hsW)
              obtain ⟨vo, hvo⟩ := Option.isSome_iff_exists.1 HX.out.2.1
              have Hvo := Lib.hid hvo
              clear hvo
              go_wp2_with fail
              go_region_with
                ((first
                  | (go_at_call 10; refine (rdel_yes (P5.out.step (show Below w5.heap.size w5 _ by ((repeat (first | refine Below.drew ?_ | refine Below.alloc ?_ (by first | omega | (simp; done) | (simp; omega)) _ | refine Below.setCell ?_ (by first | omega | (simp; done) | (simp; omega)) _)); first | exact Below.refl _ _ | assumption | exact below_drewN _ (Below.refl _ _)))).one.out.2 (Nat.le_refl _) an vo Hvo.out).mono ?_; rintro e w6 ⟨A2, c2, C2, c2', rfl, hr6, hb6⟩; have hb56 := Below.andThen (show Below w5.heap.size w5 _ by ((repeat (first | refine Below.drew ?_ | refine Below.alloc ?_ (by first | omega | (simp; done) | (simp; omega)) _ | refine Below.setCell ?_ (by first | omega | (simp; done) | (simp; omega)) _)); first | exact Below.refl _ _ | assumption | exact below_drewN _ (Below.refl _ _))) hb6; have P6 := Lib.hid (P5.out.step hb56); have S6 := Lib.hid (side_of (HA5.out.below hb56 (Nat.le_refl _) hb56.size) P6.out.k9 P6.out.k11 (show g < _ by simpa using P5.out.lt9) (show g + 1 < _ by simpa using P5.out.lt11) hr6); have hB6 := hW5.trans (hb56.mono hW5.size); clear z0 z1 z2 z3 z4 z5 hr6 hb6; obtain ⟨⟨z0, z1, z2⟩, z3, z4, z5⟩ := P6.out.c9)))
              all_goals (
                go_wp2_with fail
                go_meet
                case rel => exact ⟨b2, A2, c2, C2, c2', _, rfl, P6.out.moved S6.out, below_set3 hB6 hgw _ _ _⟩)
      case rest =>
        obtain ⟨b2, A2, c2, C2, c2', L2, rfl, hP2, hb2⟩ := hcut
        have P6 := Lib.hid hP2
        have B6 := Lib.hid hb2
        obtain ⟨⟨z0, z1, z2⟩, -⟩ := P6.out.c11
        clear hP2 hb2 y0 y1 y2
        go_upto_if 154 with fail
        obtain ⟨t7, ht7⟩ : ∃ t7, ((j : Int) % 7 == 3) = t7 := ⟨_, rfl⟩
        rw [ht7]
        clear ht7
        go_cut [10] from 45 to 170 (fun o wx => ∃ d2 D2 f2 F2 f2' M2, o = Value.pointer (some ⟨d2, 0, none⟩) ∧ Play wx g (g + 1) k b2 A2 c2 C2 c2' L2 d2 D2 f2 F2 f2' M2 ∧ Below w.heap.size w wx)
        case first =>
          cases t7
          · go_wp2_with fail
            go_meet
            case rel => exact ⟨d, D, f, F, f', M, rfl, P6.out, B6.out⟩
          · go_wp2_with fail
            refine (even_c P6.out.two.out.1 P6.out.two.out.2 (Nat.le_refl _) P6.out.tz a Ha.out.1 Ha.out.2).mono ?_
            rintro e w7 ⟨rfl, hb7⟩
            have P7 := Lib.hid (P6.out.step hb7)
            have B7 := Lib.hid (B6.out.trans (hb7.mono B6.out.size))
            clear hb7 z0 z1 z2
            obtain ⟨⟨z0, z1, z2⟩, z3, z4, z5⟩ := P7.out.c11
            obtain ⟨⟨y0, y1, y2⟩, -⟩ := P7.out.c9
            go_wp2_with fail
            go_region
            all_goals (
              have P8 := Lib.hid (P7.out.step (Below.refl _ _).drew)
              have B8 := Lib.hid B7.out.drew
              go_wp2_with fail
              go_meet
              case rel => exact ⟨b2, A2, c2, C2, c2', L2, rfl, P8.out.kept, below_set3 B8.out (by omega) _ _ _⟩)
        case rest =>
          obtain ⟨d2, D2, f2, F2, f2', M2, rfl, hP7, hb7⟩ := hcut
          have P7 := Lib.hid hP7
          have B7 := Lib.hid hb7
          clear hP7 hb7
          have q0 : ∀ w', Below wc.heap.size wc w' → w'.cell? ⟨g, 0, none⟩ = some (.int .i64 (k : Int)) := fun w' hb => (P7.out.step hb).c9.1.1
          have q1 : ∀ w', Below wc.heap.size wc w' → w'.cell? ⟨g, 1, none⟩ = some (.slice A2 L2.length c2) := fun w' hb => (P7.out.step hb).c9.1.2.1
          have q2 : ∀ w', Below wc.heap.size wc w' → w'.cell? ⟨g, 2, none⟩ = some (.slice C2 L2.length c2') := fun w' hb => (P7.out.step hb).c9.1.2.2
          have l1 : ∀ w', Below wc.heap.size wc w' → w'.cell? ⟨ab, ao + j * 3 + 1, none⟩ = some (.int .i64 ad) := fun w' hb => (HCw.out w' (B7.out.trans (hb.mono B7.out.size))).2.1
          go_wp2_with fail
          go_region_held3 (fun w' => Below wc.heap.size wc w') (((repeat (first | refine Below.drew ?_ | refine Below.alloc ?_ (by first | omega | (simp; done) | (simp; omega)) _ | refine Below.setCell ?_ (by first | omega | (simp; done) | (simp; omega)) _)); first | exact Below.refl _ _ | assumption | exact below_drewN _ (Below.refl _ _)))
            ((first
              | (go_at_call 13; refine (even_c (P7.out.step (by ((repeat (first | refine Below.drew ?_ | refine Below.alloc ?_ (by first | omega | (simp; done) | (simp; omega)) _ | refine Below.setCell ?_ (by first | omega | (simp; done) | (simp; omega)) _)); first | exact Below.refl _ _ | assumption | exact below_drewN _ (Below.refl _ _)))).one.out.1 (P7.out.step (by ((repeat (first | refine Below.drew ?_ | refine Below.alloc ?_ (by first | omega | (simp; done) | (simp; omega)) _ | refine Below.setCell ?_ (by first | omega | (simp; done) | (simp; omega)) _)); first | exact Below.refl _ _ | assumption | exact below_drewN _ (Below.refl _ _)))).one.out.2 (Nat.le_refl _) (P7.out.step (by ((repeat (first | refine Below.drew ?_ | refine Below.alloc ?_ (by first | omega | (simp; done) | (simp; omega)) _ | refine Below.setCell ?_ (by first | omega | (simp; done) | (simp; omega)) _)); first | exact Below.refl _ _ | assumption | exact below_drewN _ (Below.refl _ _)))).tz ad HD.out.1 HD.out.2).mono ?_; rintro e w8 ⟨rfl, hb8⟩; have hB8 := Below.andThen (show Below wc.heap.size wc _ by ((repeat (first | refine Below.drew ?_ | refine Below.alloc ?_ (by first | omega | (simp; done) | (simp; omega)) _ | refine Below.setCell ?_ (by first | omega | (simp; done) | (simp; omega)) _)); first | exact Below.refl _ _ | assumption | exact below_drewN _ (Below.refl _ _))) hb8; clear hb8)))
          have P8 := Lib.hid (P7.out.step hB8)
          have B8 := Lib.hid (B7.out.trans (hB8.mono B7.out.size))
          clear q0 q1 q2 l1 hB8
          go_wp2_with fail
          go_roundw
          case rel => exact ⟨⟨j + 1, b2, A2, c2, C2, c2', L2, d2, D2, f2, F2, f2', M2, by omega, by go_num, rfl, rfl, P8.out⟩, B8.out⟩
          case measure => simp [intOf]; omega
    · obtain rfl : j = n := by omega
      obtain ⟨⟨z0, z1, z2⟩, -⟩ := P1.out.c11
      go_wp2_with fail
      refine (even_c P1.out.two.out.1 P1.out.two.out.2 (Nat.le_refl _) P1.out.tz a Ha.out.1 Ha.out.2).mono ?_
      rintro e w4 ⟨rfl, hb4⟩
      have P4 := Lib.hid (P1.out.step hb4)
      have B4 := Lib.hid (BW.out.trans (hb4.mono BW.out.size))
      clear z0 z1 z2 hb4
      obtain ⟨⟨y0, y1, y2⟩, -⟩ := P4.out.c9
      go_wp2_with fail
      refine (even_c P4.out.one.out.1 P4.out.one.out.2 (Nat.le_refl _) P4.out.tz a Ha.out.1 Ha.out.2).mono ?_
      rintro e w5 ⟨rfl, hb5⟩
      have B5 := Lib.hid (B4.out.trans (hb5.mono B4.out.size))
      clear hb5
      go_wp2_with fail
      go_ret
      exact ⟨rfl, B5.out⟩
end Go.Proofs.YtdejnkihofhjoaaDoor
