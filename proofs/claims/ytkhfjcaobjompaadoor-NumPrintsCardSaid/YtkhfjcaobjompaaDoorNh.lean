/-
  CONTRACTS of package num, seventh part: ReadBox.
-/
import Derived.Test.YtkhfjcaobjompaaDoorNg
namespace Go.Proofs.YtkhfjcaobjompaaDoor
open Go.ChangeShapes Go.WideShapes Go.ChangeAt Go.RowKit

theorem index_dots (s : ByteArray) (w : World) (hs : s.size < 4294967281) (hw : Ready w) :
    Calls Tryd.prog 26 #[.string s, .string ⟨#[46, 46]⟩] w fun e w' => e = .returned (.int .i64 (Lib.index s.data.toList T.dots)) ∧ w' = w := by
  obtain ⟨m, hm⟩ := hw.len
  exact Tryd.strings_Index s ⟨#[46, 46]⟩ m w hs hm
theorem last_dots (s : ByteArray) (w : World) (hs : s.size < 4294967281) :
    Calls Tryd.prog 27 #[.string s, .string ⟨#[46, 46]⟩] w fun e w' => e = .returned (.int .i64 (Lib.lastIndex s.data.toList T.dots)) ∧ w' = w :=
  Tryd.strings_LastIndex s ⟨#[46, 46]⟩ (by omega) w

set_option maxRecDepth 100000 in
set_option maxHeartbeats 1000000 in
theorem readBox_c (s : ByteArray) (w : World) (hs : s.size < 4294967281) (hw : Ready w) :
    Calls Tryd.prog 10 #[.string s] w (RdBx w s.data.toList) := by
  obtain ⟨l, hl⟩ : ∃ l, s.data.toList = l := ⟨_, rfl⟩
  have hsz : l.length = s.size := by rw [← hl]; simp
  rw [hl]
  have hrdW : Hid (Ready (w.alloc (.cells #[.slice none 0 0, .slice none 0 0] 31))) := Lib.hid (hw.alloc _)
  have hbel0 : Hid (Below w.heap.size w (w.alloc (.cells #[.slice none 0 0, .slice none 0 0] 31))) := Lib.hid ((Below.refl _ _).alloc (Nat.le_refl _) _)
  have hWs : (w.alloc (.cells #[.slice none 0 0, .slice none 0 0] 31)).heap.size = w.heap.size + 1 := by simp
  have hW' := Lib.hid (box_new w)
  have HWs := Lib.hid hWs
  clear hWs
  rcases T.one_index l with ⟨hi, hone⟩ | ⟨i, hi, hil, ⟨hla, hone⟩ | ⟨hla, hone⟩⟩
  · have hres := Lib.hid (T.rdBox_none hone)
    have hidx : Hid (∀ w1, Ready w1 → Calls Tryd.prog 26 #[.string s, .string ⟨#[46, 46]⟩] w1 fun e w' => e = .returned (.int .i64 (-1)) ∧ w' = w1) := Lib.hid (fun w1 h1 => by have := index_dots s w1 hs h1; rw [hl, hi] at this; exact this)
    clear hone hi hl hsz
    go_enter Tryd.func10, Tryd.ntmps10
    go_wp2_with (go_at_call 26; (with_reducible refine (hidx.out _ hrdW.out).mono ?_); rintro e wz ⟨rfl, rfl⟩)
    exact bodyPost_ret (v := .tuple #[.agg #[.slice none 0 0, .slice none 0 0], .int .i64 8]) (by simp [results, Tryd.results10, go_sem]) rfl (rdBx_err hres.out hbel0.out)
  · have hidx : Hid (∀ w1, Ready w1 → Calls Tryd.prog 26 #[.string s, .string ⟨#[46, 46]⟩] w1 fun e w' => e = .returned (.int .i64 (i : Int)) ∧ w' = w1) := Lib.hid (fun w1 h1 => by have := index_dots s w1 hs h1; rw [hl, hi] at this; exact this)
    have hlast : Hid (∀ w1, Calls Tryd.prog 27 #[.string s, .string ⟨#[46, 46]⟩] w1 fun e w' => e = .returned (.int .i64 (i : Int)) ∧ w' = w1) := Lib.hid (fun w1 => by have := last_dots s w1 hs; rw [hl, hla] at this; exact this)
    rw [hsz] at hil
    have hx1 := ext_size s 0 i (by omega)
    have hx2 := ext_size s (i + 2) s.size (Nat.le_refl _)
    have e1 : Hid ((s.extract 0 i).data.toList = l.take i) := Lib.hid (by rw [ext_list, hl, List.drop_zero])
    have e2 : Hid ((s.extract (i + 2) s.size).data.toList = l.drop (i + 2)) := Lib.hid (by rw [ext_list, hl, List.take_of_length_le (by rw [hsz]; omega)])
    have Hone := Lib.hid hone
    clear hone hi hla hl hsz
    by_cases h1 : (T.rdPoint (l.take i)).2 = 0
    · by_cases h2 : (T.rdPoint (l.drop (i + 2))).2 = 0
      · obtain ⟨us, hus⟩ : ∃ us, (T.rdPoint (l.take i)).1 = us := ⟨_, rfl⟩
        obtain ⟨vs, hvs⟩ : ∃ vs, (T.rdPoint (l.drop (i + 2))).1 = vs := ⟨_, rfl⟩
        have k1 := (T.rdPoint_lt (l.take i)).2
        have k2 := (T.rdPoint_lt (l.drop (i + 2))).2
        rw [hus] at k1
        rw [hvs] at k2
        by_cases h3 : us.length = vs.length
        · have hres : Hid (T.rdBox l = ((us, vs), 0)) := Lib.hid (by have := T.rdBox_yes Hone.out h1 h2 (by rw [hus, hvs]; exact h3); rw [hus, hvs] at this; exact this)
          have Hn := Lib.hid h1
          have Hm := Lib.hid h2
          have Hus := Lib.hid hus
          have Hvs := Lib.hid hvs
          have f : ((us.length : Int) != (vs.length : Int)) = false := by rw [bne_eq_false_iff_eq]; omega
          clear h1 h2 hus hvs h3
          go_enter Tryd.func10, Tryd.ntmps10
          go_wp2_with (first | (go_at_call 26; (with_reducible refine (hidx.out _ hrdW.out).mono ?_); rintro e wz ⟨rfl, rfl⟩) | (go_at_call 27; (with_reducible refine (hlast.out _).mono ?_); rintro e wz ⟨rfl, rfl⟩) | (go_at_call 8; (with_reducible refine (readPoint_c (s.extract 0 i) _ (by omega) hrdW.out).mono ?_); rw [e1.out]; rintro e w1 ⟨A1, c1, rfl, hp1, hb1⟩; rw [Hn.out]; rw [Hus.out] at hp1 ⊢; have hq1 := hW'.out.below hb1 (by have := HWs.out; omega); obtain ⟨q0, q1, q2, q3⟩ := hq1) | (go_at_call 8; (with_reducible refine (readPoint_c (s.extract (i + 2) s.size) _ (by omega) (hrdW.out.on hb1)).mono ?_); rw [e2.out]; rintro e w2 ⟨A2, c2, rfl, hp2, hb2⟩; rw [Hm.out]; rw [Hvs.out] at hp2 ⊢; have hq2 := (hW'.out.below hb1 (by have := HWs.out; omega)).below hb2 (by have := hb1.size; have := HWs.out; omega); obtain ⟨r0, r1, r2, r3⟩ := hq2))
          have hB2 : Box0 w2 w.heap.size := ⟨r0, r1, r2, r3⟩
          obtain ⟨k0, k1⟩ := box_two hB2 (.slice A1 us.length c1) (.slice A2 vs.length c2)
          have hWs := HWs.out
          refine bodyPost_ret (v := .tuple #[.agg #[.slice A1 us.length c1, .slice A2 vs.length c2], .int .i64 0]) (by simp [results, Tryd.results10, go_sem, k0, k1]) rfl (rdBx_yes hres.out ?_ ?_ ?_)
          · rw [World.size_setCell, World.size_setCell]; exact box_pts hB2 (hp1.below hb2 hb2.size) _ _
          · rw [World.size_setCell, World.size_setCell]; exact box_pts hB2 hp2 _ _
          · exact box_below (hbel0.out.trans ((hb1.mono (by omega)).trans (hb2.mono (by have := hb1.size; omega)))) _ _
        · have hres := Lib.hid (T.rdBox_dim Hone.out h1 h2 (by rw [hus, hvs]; exact h3))
          have Hn := Lib.hid h1
          have Hm := Lib.hid h2
          have Hus := Lib.hid hus
          have Hvs := Lib.hid hvs
          have f : ((us.length : Int) != (vs.length : Int)) = true := by rw [bne_iff_ne]; omega
          clear h1 h2 hus hvs h3
          go_enter Tryd.func10, Tryd.ntmps10
          go_wp2_with (first | (go_at_call 26; (with_reducible refine (hidx.out _ hrdW.out).mono ?_); rintro e wz ⟨rfl, rfl⟩) | (go_at_call 27; (with_reducible refine (hlast.out _).mono ?_); rintro e wz ⟨rfl, rfl⟩) | (go_at_call 8; (with_reducible refine (readPoint_c (s.extract 0 i) _ (by omega) hrdW.out).mono ?_); rw [e1.out]; rintro e w1 ⟨A1, c1, rfl, hp1, hb1⟩; rw [Hn.out]; rw [Hus.out] at hp1 ⊢; have hq1 := hW'.out.below hb1 (by have := HWs.out; omega); obtain ⟨q0, q1, q2, q3⟩ := hq1) | (go_at_call 8; (with_reducible refine (readPoint_c (s.extract (i + 2) s.size) _ (by omega) (hrdW.out.on hb1)).mono ?_); rw [e2.out]; rintro e w2 ⟨A2, c2, rfl, hp2, hb2⟩; rw [Hm.out]; rw [Hvs.out] at hp2 ⊢; have hq2 := (hW'.out.below hb1 (by have := HWs.out; omega)).below hb2 (by have := hb1.size; have := HWs.out; omega); obtain ⟨r0, r1, r2, r3⟩ := hq2))
          have hB2 : Box0 w2 w.heap.size := ⟨r0, r1, r2, r3⟩
          obtain ⟨k0, k1⟩ := box_two hB2 (.slice none 0 0) (.slice none 0 0)
          have hWs := HWs.out
          exact bodyPost_ret (v := .tuple #[.agg #[.slice none 0 0, .slice none 0 0], .int .i64 2]) (by simp [results, Tryd.results10, go_sem, k0, k1]) rfl (rdBx_err hres.out (box_below (hbel0.out.trans ((hb1.mono (by omega)).trans (hb2.mono (by have := hb1.size; omega)))) _ _))
      · have hres := Lib.hid (T.rdBox_hi Hone.out h1 h2)
        have Hn := Lib.hid h1
        obtain ⟨m, hm⟩ : ∃ m, (T.rdPoint (l.drop (i + 2))).2 = m := ⟨_, rfl⟩
        rw [hm] at h2 hres
        have f : ((m : Int) != 0) = true := by rw [bne_iff_ne]; omega
        have Hm := Lib.hid hm
        clear h1 h2 hm
        go_enter Tryd.func10, Tryd.ntmps10
        go_wp2_with (first | (go_at_call 26; (with_reducible refine (hidx.out _ hrdW.out).mono ?_); rintro e wz ⟨rfl, rfl⟩) | (go_at_call 27; (with_reducible refine (hlast.out _).mono ?_); rintro e wz ⟨rfl, rfl⟩) | (go_at_call 8; (with_reducible refine (readPoint_c (s.extract 0 i) _ (by omega) hrdW.out).mono ?_); rw [e1.out]; rintro e w1 ⟨A1, c1, rfl, hp1, hb1⟩; rw [Hn.out]; have hq1 := hW'.out.below hb1 (by have := HWs.out; omega); obtain ⟨q0, q1, q2, q3⟩ := hq1) | (go_at_call 8; (with_reducible refine (readPoint_c (s.extract (i + 2) s.size) _ (by omega) (hrdW.out.on hb1)).mono ?_); rw [e2.out]; rintro e w2 ⟨A2, c2, rfl, hp2, hb2⟩; rw [Hm.out]; have hq2 := (hW'.out.below hb1 (by have := HWs.out; omega)).below hb2 (by have := hb1.size; have := HWs.out; omega); obtain ⟨r0, r1, r2, r3⟩ := hq2))
        have hB2 : Box0 w2 w.heap.size := ⟨r0, r1, r2, r3⟩
        obtain ⟨k0, k1⟩ := box_two hB2 (.slice none 0 0) (.slice none 0 0)
        have hWs := HWs.out
        exact bodyPost_ret (v := .tuple #[.agg #[.slice none 0 0, .slice none 0 0], .int .i64 (m : Int)]) (by simp [results, Tryd.results10, go_sem, k0, k1]) rfl (rdBx_err hres.out (box_below (hbel0.out.trans ((hb1.mono (by omega)).trans (hb2.mono (by have := hb1.size; omega)))) _ _))
    · have hres := Lib.hid (T.rdBox_lo Hone.out h1)
      obtain ⟨n, hn⟩ : ∃ n, (T.rdPoint (l.take i)).2 = n := ⟨_, rfl⟩
      rw [hn] at h1 hres
      have f : ((n : Int) != 0) = true := by rw [bne_iff_ne]; omega
      have Hn := Lib.hid hn
      clear h1 hn
      go_enter Tryd.func10, Tryd.ntmps10
      go_wp2_with (first | (go_at_call 26; (with_reducible refine (hidx.out _ hrdW.out).mono ?_); rintro e wz ⟨rfl, rfl⟩) | (go_at_call 27; (with_reducible refine (hlast.out _).mono ?_); rintro e wz ⟨rfl, rfl⟩) | (go_at_call 8; (with_reducible refine (readPoint_c (s.extract 0 i) _ (by omega) hrdW.out).mono ?_); rw [e1.out]; rintro e w1 ⟨A1, c1, rfl, hp1, hb1⟩; rw [Hn.out]; have hq1 := hW'.out.below hb1 (by have := HWs.out; omega); obtain ⟨q0, q1, q2, q3⟩ := hq1))
      have hB1 : Box0 w1 w.heap.size := ⟨q0, q1, q2, q3⟩
      obtain ⟨k0, k1⟩ := box_two hB1 (.slice none 0 0) (.slice none 0 0)
      have hWs := HWs.out
      exact bodyPost_ret (v := .tuple #[.agg #[.slice none 0 0, .slice none 0 0], .int .i64 (n : Int)]) (by simp [results, Tryd.results10, go_sem, k0, k1]) rfl (rdBx_err hres.out (box_below (hbel0.out.trans (hb1.mono (by omega))) _ _))
  · have hres := Lib.hid (T.rdBox_none hone)
    obtain ⟨j, hj⟩ : ∃ j, Lib.lastIndex l T.dots = j := ⟨_, rfl⟩
    rw [hj] at hla
    have hidx : Hid (∀ w1, Ready w1 → Calls Tryd.prog 26 #[.string s, .string ⟨#[46, 46]⟩] w1 fun e w' => e = .returned (.int .i64 (i : Int)) ∧ w' = w1) := Lib.hid (fun w1 h1 => by have := index_dots s w1 hs h1; rw [hl, hi] at this; exact this)
    have hlast : Hid (∀ w1, Calls Tryd.prog 27 #[.string s, .string ⟨#[46, 46]⟩] w1 fun e w' => e = .returned (.int .i64 j) ∧ w' = w1) := Lib.hid (fun w1 => by have := last_dots s w1 hs; rw [hl, hj] at this; exact this)
    have f : ((i : Int) != j) = true := by rw [bne_iff_ne]; omega
    clear hone hi hl hsz hla hj
    go_enter Tryd.func10, Tryd.ntmps10
    go_wp2_with (first | (go_at_call 26; (with_reducible refine (hidx.out _ hrdW.out).mono ?_); rintro e wz ⟨rfl, rfl⟩) | (go_at_call 27; (with_reducible refine (hlast.out _).mono ?_); rintro e wz ⟨rfl, rfl⟩))
    exact bodyPost_ret (v := .tuple #[.agg #[.slice none 0 0, .slice none 0 0], .int .i64 8]) (by simp [results, Tryd.results10, go_sem]) rfl (rdBx_err hres.out hbel0.out)
end Go.Proofs.YtkhfjcaobjompaaDoor
