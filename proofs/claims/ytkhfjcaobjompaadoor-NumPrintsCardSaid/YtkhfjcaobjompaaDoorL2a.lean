/-
  THE WALK of pantilelaw02.NumReads: it returns true for every text.
-/
import Derived.Test.YtkhfjcaobjompaaDoorAw2
namespace Go.Proofs.YtkhfjcaobjompaaDoor
open Go.ChangeShapes Go.WideShapes Go.ChangeAt Go.RowKit

theorem rsame_yes (A A' : Option Addr) (c c' : Nat) (us : List Nat) (B : Nat) (w : World) (hp : Pts w B A us) (hq : Pts w B A' us) (hB : B ≤ w.heap.size) (hm : us.length ≤ 16) :
    Calls Tryd.prog 12 #[.slice A us.length c, .slice A' us.length c'] w fun e w' => e = .returned (.bool true) ∧ Below w.heap.size w w' :=
  (rsame_c A A' c c' us us B w hp hq hB (by unfold maxLen; omega)).mono fun _ _ ⟨he, hb⟩ => ⟨by rw [he]; simp, hb⟩
/-- a box in memory, at block b -/
def BoxAt (w : World) (b : Nat) (x y : Value) : Prop := w.cell? ⟨b, 0, none⟩ = some x ∧ w.cell? ⟨b, 1, none⟩ = some y
theorem boxAt_new (w : World) (x y : Value) (t : TypeId) : BoxAt (w.alloc (.cells #[x, y] t)) w.heap.size x y := ⟨by rw [World.cell?_alloc_new]; rfl, by rw [World.cell?_alloc_new]; rfl⟩
theorem BoxAt.below {w w' : World} {b C : Nat} {x y : Value} (h : BoxAt w b x y) (hb : Below C w w') (hC : b < C) : BoxAt w' b x y := ⟨(hb.cell hC).trans h.1, (hb.cell hC).trans h.2⟩
theorem BoxAt.lt {w : World} {b : Nat} {x y : Value} (h : BoxAt w b x y) : b < w.heap.size := World.block_lt_of_cell? w _ h.1

/-- what Point tells of what ReadPoint read -/
theorem point_back (s : ByteArray) : ∃ (x : ByteArray) (k : Int), ((T.rdPoint s.data.toList).2 = 0 → x = s ∧ k = 0) ∧ ∀ (A : Option Addr) (c : Nat) (w : World), Ready w → Pts w w.heap.size A (T.rdPoint s.data.toList).1 →
    Calls Tryd.prog 15 #[.slice A (T.rdPoint s.data.toList).1.length c] w fun e w' => e = .returned (.tuple #[.string x, .int .i64 k]) ∧ Below w.heap.size w w' := by
  by_cases h : (T.rdPoint s.data.toList).2 = 0
  · obtain ⟨h1, h2, h3, h4⟩ := T.rdPoint_spec h
    refine ⟨s, 0, fun _ => ⟨rfl, rfl⟩, fun A c w hw hp => ?_⟩
    have := point_yes A c _ w.heap.size w hw hp (Nat.le_refl _) h1 h2
    rw [h4, list_str] at this
    exact this
  · refine ⟨⟨#[]⟩, 2, fun h0 => absurd h0 h, fun A c w hw hp => ?_⟩
    rw [T.rdPoint_err h]
    exact (point_no A 0 c w (by unfold maxLen; omega) (by omega)).mono fun e w' ⟨he, hw'⟩ => ⟨he, by rw [← hw']; exact Below.refl _ _⟩
/-- what Box tells of what ReadBox read -/
theorem box_back (s : ByteArray) : ∃ (x : ByteArray) (k : Int), ((T.rdBox s.data.toList).2 = 0 → x = s ∧ k = 0) ∧ ∀ (A A' : Option Addr) (c c' : Nat) (w : World), Ready w → Pts w w.heap.size A (T.rdBox s.data.toList).1.1 → Pts w w.heap.size A' (T.rdBox s.data.toList).1.2 →
    Calls Tryd.prog 16 #[.agg #[.slice A (T.rdBox s.data.toList).1.1.length c, .slice A' (T.rdBox s.data.toList).1.2.length c']] w fun e w' => e = .returned (.tuple #[.string x, .int .i64 k]) ∧ Below w.heap.size w w' := by
  by_cases h : (T.rdBox s.data.toList).2 = 0
  · obtain ⟨h1, h2, h3, _, _, h4⟩ := T.rdBox_spec h
    refine ⟨s, 0, fun _ => ⟨rfl, rfl⟩, fun A A' c c' w hw hp hq => ?_⟩
    have := box_yes A A' c c' _ _ w hw hp hq h1 h2 h3
    rw [h4, list_str] at this
    exact this
  · refine ⟨⟨#[]⟩, 2, fun h0 => absurd h0 h, fun A A' c c' w hw hp hq => ?_⟩
    rw [T.rdBox_err h]
    exact box_no A A' 0 c 0 c' w (by unfold maxLen; omega) (by unfold maxLen; omega) (by omega)

theorem numReads_long (s : ByteArray) (w : World) (hw : Ready w) (h : 500 < s.size) :
    Calls Tryd.prog 3 #[.string s] w fun e w' => e = .returned (.bool true) ∧ Below w.heap.size w w' := by
  go_enter Tryd.func3, Tryd.ntmps3
  go_wp2_with (go_at_call 5; refine (awake2_c _ hw).mono ?_; rintro e w1 ⟨rfl, hb1⟩)
  go_ret
  exact ⟨rfl, hb1⟩

set_option maxRecDepth 1000000 in
set_option maxHeartbeats 4000000 in
theorem numReads_walk (s : ByteArray) (w : World) (hw : Ready w) (h500 : s.size ≤ 500) :
    Calls Tryd.prog 3 #[.string s] w fun e w' => e = .returned (.bool true) ∧ Below w.heap.size w w' := by
  have hs : s.size < 4294967281 := by omega
  obtain ⟨x, k3, hx, hPoint⟩ := point_back s
  obtain ⟨y, k4, hy, hBox⟩ := box_back s
  have hnum : ∀ (w : World), Ready w → (T.rdNum s.data.toList).2 = 0 → Calls Tryd.prog 17 #[.int .u64 ((T.rdNum s.data.toList).1 : Int)] w fun e w' => e = .returned (.string s) ∧ Below w.heap.size w w' := fun w hw h0 => by
    have := number_c (T.rdNum s.data.toList).1 (T.rdNum_lt _) w hw
    rw [T.dec_of_ok h0, list_str] at this
    exact this
  have hR1 := fun (w : World) (h : Ready w) => readNumber_c s w hs h
  have hR2 := fun (w : World) => rreadNumber_c s w hs
  have hR3 := fun (w : World) (h : Ready w) => readPoint_c s w hs h
  have hR4 := fun (w : World) => rreadPoint_c s w hs
  have hR5 := fun (w : World) (h : Ready w) => readBox_c s w hs h
  have hR6 := fun (w : World) => rreadBox_c s w hs
  have hN1 := fun (w : World) => name_c s w hs
  have hN2 := fun (w : World) => rname_c s w hs
  have l1 := (T.rdPoint_lt s.data.toList).2
  have l2 := (T.rdBox_lt s.data.toList).2.2
  unfold RdPt at hR3 hR4
  unfold RdBx at hR5 hR6
  obtain ⟨n1, hn1⟩ : ∃ n, (T.rdNum s.data.toList).1 = n := ⟨_, rfl⟩
  obtain ⟨n2, hn2⟩ : ∃ n, (T.rdNum s.data.toList).2 = n := ⟨_, rfl⟩
  obtain ⟨us, hus⟩ : ∃ n, (T.rdPoint s.data.toList).1 = n := ⟨_, rfl⟩
  obtain ⟨k, hk⟩ : ∃ n, (T.rdPoint s.data.toList).2 = n := ⟨_, rfl⟩
  obtain ⟨lo, hlo⟩ : ∃ n, (T.rdBox s.data.toList).1.1 = n := ⟨_, rfl⟩
  obtain ⟨hi, hhi⟩ : ∃ n, (T.rdBox s.data.toList).1.2 = n := ⟨_, rfl⟩
  obtain ⟨b, hb⟩ : ∃ n, (T.rdBox s.data.toList).2 = n := ⟨_, rfl⟩
  obtain ⟨nm, hnm⟩ : ∃ n, T.isName s.data.toList = n := ⟨_, rfl⟩
  simp only [hn1, hn2, hus, hk, hlo, hhi, hb, hnm] at hx hPoint hy hBox hnum hR1 hR2 hR3 hR4 hR5 hR6 hN1 hN2 l1 l2
  clear hn1 hn2 hus hk hlo hhi hb hnm
  have l1' : us.length ≤ 16 := l1
  have HL := Lib.hid (show us.length ≤ 16 ∧ lo.length ≤ 16 ∧ hi.length ≤ 16 from ⟨l1, l2⟩)
  clear l1 l2 l1'
  have HPoint := Lib.hid hPoint
  have HBox := Lib.hid hBox
  have Hnum := Lib.hid hnum
  have HR1 := Lib.hid hR1
  have HR2 := Lib.hid hR2
  have HR3 := Lib.hid hR3
  have HR4 := Lib.hid hR4
  have HR5 := Lib.hid hR5
  have HR6 := Lib.hid hR6
  have HN1 := Lib.hid hN1
  have HN2 := Lib.hid hN2
  clear hPoint hBox hnum hR1 hR2 hR3 hR4 hR5 hR6 hN1 hN2
  have cN : (n2 = 0) ∨ ((n2 : Int) != 0) = true := by by_cases h : n2 = 0; exact .inl h; exact .inr (by rw [bne_iff_ne]; omega)
  have cK : (k = 0 ∧ x = s ∧ k3 = 0) ∨ ((k : Int) != 0) = true := by by_cases h : k = 0; exact .inl ⟨h, hx h⟩; exact .inr (by rw [bne_iff_ne]; omega)
  have cB : (b = 0 ∧ y = s ∧ k4 = 0) ∨ ((b : Int) != 0) = true := by by_cases h : b = 0; exact .inl ⟨h, hy h⟩; exact .inr (by rw [bne_iff_ne]; omega)
  clear hx hy
  rcases cN with rfl | fN
  all_goals rcases cK with ⟨rfl, rfl, rfl⟩ | fK
  all_goals rcases cB with ⟨rfl, rfl, rfl⟩ | fB
  all_goals
    go_enter Tryd.func3, Tryd.ntmps3
    go_wp2_with (first
      | (go_at_call 5; (with_reducible refine (awake2_c _ hw).mono ?_); rintro e w1 ⟨rfl, hb1⟩; have B1 := Lib.hid hb1; have r1 := Lib.hid (hw.on hb1); clear hb1)
      | (go_at_call 6; (with_reducible refine (HR1.out _ r1.out).mono ?_); rintro e w2 ⟨rfl, hb2⟩; have B2 := Lib.hid (Below.andThen B1.out hb2); have r2 := Lib.hid (hw.on B2.out); have c2 := Lib.hid hb2; clear hb2)
      | (go_at_call 7; (with_reducible refine (HR2.out _).mono ?_); rintro e wz ⟨rfl, rfl⟩)
      | (go_at_call 8; (with_reducible refine (HR3.out _ r2.out).mono ?_); rintro e w3 ⟨A1, c1, rfl, hp1, hb3⟩; have B3 := Lib.hid (Below.andThen B2.out hb3); have r3 := Lib.hid (hw.on B3.out); have c3 := Lib.hid hb3; clear hb3; have P1 := Lib.hid hp1; clear hp1)
      | (go_at_call 9; (with_reducible refine (HR4.out _).mono ?_); rintro e w4 ⟨A2, c2, rfl, hp2, hb4⟩; have B4 := Lib.hid (Below.andThen B3.out hb4); have r4 := Lib.hid (hw.on B4.out); have c4 := Lib.hid hb4; clear hb4; have P2 := Lib.hid hp2; clear hp2; have P1a := Lib.hid (P1.out.below c4.out c4.out.size))
      | (go_at_call 10; (with_reducible refine (HR5.out _ r4.out).mono ?_); rintro e w5 ⟨A3, c3', A4, c4', rfl, hp3, hp4, hb5⟩; have B5 := Lib.hid (Below.andThen B4.out hb5); have r5 := Lib.hid (hw.on B5.out); have c5 := Lib.hid hb5; clear hb5; have P3 := Lib.hid hp3; have P4 := Lib.hid hp4; clear hp3 hp4; have P1b := Lib.hid (P1a.out.below c5.out c5.out.size); have P2b := Lib.hid (P2.out.below c5.out c5.out.size))
      | (go_at_call 11; (with_reducible refine (HR6.out _).mono ?_); rintro e w6 ⟨A5, c5', A6, c6', rfl, hp5, hp6, hb6⟩; have d6 := Lib.hid (((Below.refl _ w5).alloc (Nat.le_refl _) _).trans (hb6.mono (by simp))); have B6 := Lib.hid (Below.andThen B5.out d6.out); have r6 := Lib.hid (hw.on B6.out); have X6 := Lib.hid ((boxAt_new w5 _ _ _).below hb6 (by simp)); have P5 := Lib.hid hp5; have P6 := Lib.hid hp6; clear hp5 hp6 hb6; have P1c := Lib.hid (P1b.out.below d6.out d6.out.size); have P2c := Lib.hid (P2b.out.below d6.out d6.out.size); have P3c := Lib.hid (P3.out.below d6.out d6.out.size); have P4c := Lib.hid (P4.out.below d6.out d6.out.size))
      | (go_at_call 12; (with_reducible refine (rsame_yes A1 A2 c1 c2 us w6.heap.size _ (P1c.out.below' ((Below.refl _ w6).alloc (Nat.le_refl _) _) (Nat.le_refl _)) (P2c.out.below' ((Below.refl _ w6).alloc (Nat.le_refl _) _) (Nat.le_refl _)) (by simp) HL.out.1).mono ?_); rintro e w7 ⟨rfl, hb7⟩; have d7 := Lib.hid (((Below.refl _ w6).alloc (Nat.le_refl _) _).trans (hb7.mono (by simp))); have B7 := Lib.hid (Below.andThen B6.out d7.out); have X7 := Lib.hid (X6.out.below d7.out X6.out.lt); have Y7 := Lib.hid ((boxAt_new w6 _ _ _).below hb7 (by simp)); clear hb7; have z0 := X7.out.1; have z1 := X7.out.2; have z2 := Y7.out.1; have z3 := Y7.out.2)
      | (go_at_call 12; (with_reducible refine (rsame_yes A3 A5 c3' c5' lo w6.heap.size w7 (P3c.out.below' d7.out (Nat.le_refl _)) (P5.out.below' d7.out (Nat.le_refl _)) d7.out.size HL.out.2.1).mono ?_); rintro e w8 ⟨rfl, hb8⟩; have d8 := Lib.hid (d7.out.trans (hb8.mono d7.out.size)); have B8 := Lib.hid (Below.andThen B7.out hb8); have X8 := Lib.hid (X7.out.below hb8 X7.out.lt); have Y8 := Lib.hid (Y7.out.below hb8 Y7.out.lt); clear hb8 z0 z1 z2 z3; have z0 := X8.out.1; have z1 := X8.out.2; have z2 := Y8.out.1; have z3 := Y8.out.2)
      | (go_at_call 12; (with_reducible refine (rsame_yes A4 A6 c4' c6' hi w6.heap.size w8 (P4c.out.below' d8.out (Nat.le_refl _)) (P6.out.below' d8.out (Nat.le_refl _)) d8.out.size HL.out.2.2).mono ?_); rintro e w9 ⟨rfl, hb9⟩; have d9 := Lib.hid (d8.out.trans (hb9.mono d8.out.size)); have B9 := Lib.hid (Below.andThen B8.out hb9); have X9 := Lib.hid (X8.out.below hb9 X8.out.lt); clear hb9 z0 z1 z2 z3)
      | (go_at_call 13; (with_reducible refine (HN1.out _).mono ?_); rintro e wa ⟨rfl, hba⟩; have da := Lib.hid (d9.out.trans (hba.mono d9.out.size)); have Ba := Lib.hid (Below.andThen B9.out hba); have Xa := Lib.hid (X9.out.below hba X9.out.lt); have ra := Lib.hid (hw.on Ba.out); clear hba)
      | (go_at_call 14; (with_reducible refine (HN2.out _).mono ?_); rintro e wz ⟨rfl, rfl⟩)
      | (go_at_call 15; (with_reducible refine (HPoint.out A1 c1 _ ra.out (P1c.out.below da.out da.out.size)).mono ?_); rintro e wb ⟨rfl, hbb⟩; have db := Lib.hid (da.out.trans (hbb.mono da.out.size)); have Bb := Lib.hid (Below.andThen Ba.out hbb); have Xb := Lib.hid (Xa.out.below hbb Xa.out.lt); have rb := Lib.hid (hw.on Bb.out); clear hbb; have z0 := Xb.out.1; have z1 := Xb.out.2)
      | (go_at_call 16; (with_reducible refine (HBox.out A3 A4 c3' c4' _ rb.out (P3c.out.below db.out db.out.size) (P4c.out.below db.out db.out.size)).mono ?_); rintro e wc ⟨rfl, hbc⟩; have BN := Lib.hid (Below.andThen Bb.out hbc); have rc := Lib.hid (hw.on BN.out); clear hbc z0 z1)
      | (go_at_call 17; (with_reducible refine (Hnum.out _ rc.out (by simp)).mono ?_); rintro e wd ⟨rfl, hbd⟩; have BM := Lib.hid (Below.andThen BN.out hbd); clear hbd))
    go_ret
    first | exact ⟨rfl, BM.out⟩ | exact ⟨rfl, BN.out⟩
theorem numReads_any (s : ByteArray) (w : World) (hw : Ready w) :
    Calls Tryd.prog 3 #[.string s] w fun e w' => e = .returned (.bool true) ∧ Below w.heap.size w w' := by
  by_cases h : 500 < s.size
  · exact numReads_long s w hw h
  · exact numReads_walk s w hw (by omega)
end Go.Proofs.YtkhfjcaobjompaaDoor
