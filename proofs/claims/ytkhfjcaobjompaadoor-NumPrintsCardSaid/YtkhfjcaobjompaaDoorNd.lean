/-
  CONTRACTS of package num, third part: Name.
-/
import Derived.Test.YtkhfjcaobjompaaDoorNc
namespace Go.Proofs.YtkhfjcaobjompaaDoor
open Go.ChangeShapes Go.WideShapes Go.ChangeAt Go.RowKit Go.Sort

theorem rune_letter (s : ByteArray) (pos : Nat) (h : pos < s.size) : lRune ((Utf8.decode s pos).1 : Int) = T.isL (s[pos]'h) ∧ (T.isL (s[pos]'h) = true → (Utf8.decode s pos).2 = 1) := by
  by_cases ha : (s[pos]'h).toNat < 128
  · rw [decode_ascii s pos h ha]
    refine ⟨?_, fun _ => rfl⟩
    unfold lRune T.isL
    rw [Bool.eq_iff_iff]
    simp
    omega
  · obtain ⟨h1, h2⟩ := decode_high s pos h (by omega)
    have hd : T.isL (s[pos]'h) = false := by
      unfold T.isL
      have : ¬ (s[pos]'h).toNat ≤ 122 := by omega
      simp [this]
    refine ⟨?_, fun h => by rw [hd] at h; cases h⟩
    rw [hd]
    unfold lRune
    have : ¬ (((Utf8.decode s pos).1 : Nat) : Int) ≤ 122 := by omega
    simp [this]
theorem rune_dash (s : ByteArray) (pos : Nat) (h : pos < s.size) : ((((Utf8.decode s pos).1 : Nat) : Int) == 45) = ((s[pos]'h) == 45) ∧ (((s[pos]'h) == 45) = true → (Utf8.decode s pos).2 = 1) := by
  have h45 : ((s[pos]'h) == 45) = decide ((s[pos]'h).toNat = 45) := by
    rw [Bool.eq_iff_iff]
    simp only [beq_iff_eq, decide_eq_true_eq]
    exact ⟨fun e => by rw [e]; rfl, fun e => UInt8.toNat_inj.1 e⟩
  rw [h45]
  by_cases ha : (s[pos]'h).toNat < 128
  · rw [decode_ascii s pos h ha]
    refine ⟨?_, fun _ => rfl⟩
    rw [Bool.eq_iff_iff]
    simp
    omega
  · obtain ⟨h1, h2⟩ := decode_high s pos h (by omega)
    refine ⟨?_, fun g => by simp at g; omega⟩
    rw [Bool.eq_iff_iff]
    simp
    omega

theorem name_long (s : ByteArray) (w : World) (_hs : s.size < 4294967281) (h : ¬ (1 ≤ s.size ∧ s.size ≤ 32)) :
    Calls Tryd.prog 13 #[.string s] w fun e w' => e = .returned (.bool false) ∧ Below w.heap.size w w' := by
  by_cases h0 : s.size = 0
  · go_enter Tryd.func13, Tryd.ntmps13
    go_wp2
    go_ret
    exact ⟨rfl, Below.refl _ _⟩
  · have h1 : 32 < s.size := by omega
    clear h
    go_enter Tryd.func13, Tryd.ntmps13
    go_wp2
    go_ret
    exact ⟨rfl, Below.refl _ _⟩
theorem name_short (s : ByteArray) (w : World) (h1 : 1 ≤ s.size) (h32 : s.size ≤ 32) :
    Calls Tryd.prog 13 #[.string s] w fun e w' => e = .returned (.bool (T.isName s.data.toList)) ∧ Below w.heap.size w w' := by
  go_enter Tryd.func13, Tryd.ntmps13
  go_wp2
  go_loopw [] (fun w' => ∃ pos : Nat, w' = w.iter s pos ∧ pos ≤ s.size ∧ ∀ i, i < pos → T.nameAt s.data.toList i = true) (fun w' => s.size - w'.iterPos w.heap.size)
  case atStart => exact ⟨0, rfl, Nat.zero_le _, fun i h => absurd h (Nat.not_lt_zero _)⟩
  case round =>
    obtain ⟨pos, rfl, hle, hall⟩ := hrel
    have Hall := Lib.hid hall
    clear hall
    by_cases hp : pos < s.size
    · obtain ⟨hr1, hr2⟩ := rune_digit s pos hp
      obtain ⟨hl1, hl2⟩ := rune_letter s pos hp
      obtain ⟨hm1, hm2⟩ := rune_dash s pos hp
      obtain ⟨r, k, hdec⟩ : ∃ r k, Utf8.decode s pos = (r, k) := ⟨_, _, rfl⟩
      have hnx : ∀ ty, (Instr.next (.pointer (some ⟨w.heap.size, 0, none⟩)) true ty).run Tryd.prog (w.iter s pos) = .ok (.tuple #[.bool true, .int .i64 (pos : Int), .int .i32 (r : Int)]) (w.iter s (pos + k)) := fun ty => by
        have := run_next_any (P := Tryd.prog) w s pos ty hp
        rw [hdec] at this
        exact this
      rw [hdec] at hr1 hr2 hl1 hl2 hm1 hm2
      simp only at hr1 hr2 hl1 hl2 hm1 hm2
      have hat := T.nameAt_some (byte_get s pos hp)
      have hbl : Hid (Below w.heap.size w (w.iter s (pos + k))) := Lib.hid ((Below.refl _ w).alloc (Nat.le_refl _) _)
      have hbad : Hid (T.nameAt s.data.toList pos = false → T.isName s.data.toList = false) := Lib.hid (fun h => T.isName_bad (by simpa using hp) h)
      have hgood : Hid (T.nameAt s.data.toList pos = true → ∀ i, i < pos + 1 → T.nameAt s.data.toList i = true) := Lib.hid (fun h i hi => by
        rcases Nat.lt_or_ge i pos with g | g
        · exact Hall.out i g
        · rw [show i = pos by omega]; exact h)
      by_cases hL : T.isL (s[pos]'hp) = true
      · obtain rfl : k = 1 := hl2 hL
        have hr := Lib.hid (hl1.trans hL)
        have hg := Lib.hid (hgood.out (by rw [hat, hL]; rfl))
        clear hr1 hr2 hl1 hl2 hm1 hm2 hdec hat hL
        go_wp2_with (go_at_call 28; refine (isLetter_yes _ _ hr.out).mono ?_; rintro e w' ⟨rfl, rfl⟩)
        go_roundw
        case rel => exact ⟨pos + 1, rfl, by omega, hg.out⟩
        case measure => simp; omega
      · have hL' : T.isL (s[pos]'hp) = false := by simpa using hL
        have hr := Lib.hid (hl1.trans hL')
        by_cases h0 : pos = 0
        · subst h0
          have hb := Lib.hid (hbad.out (by rw [hat, hL']; rfl))
          clear hr1 hr2 hl1 hl2 hm1 hm2 hdec hat hL hL'
          go_wp2_with (go_at_call 28; refine (isLetter_no _ _ hr.out).mono ?_; rintro e w' ⟨rfl, rfl⟩)
          go_ret
          exact ⟨ret_bool hb.out.symm, by have := hbl.out; rwa [Nat.zero_add] at this⟩
        · have h0' : 0 < pos := by omega
          have hz : ((pos : Int) == 0) = false := by simpa using h0
          by_cases hD : T.isD (s[pos]'hp) = true
          · obtain rfl : k = 1 := hr2 hD
            have hq := Lib.hid (hr1.trans hD)
            have hg := Lib.hid (hgood.out (by rw [hat, hL', hD]; simp [h0]))
            clear hr1 hr2 hl1 hl2 hm1 hm2 hdec hat hL hL' hD h0
            go_wp2_with (first | (go_at_call 28; refine (isLetter_no _ _ hr.out).mono ?_; rintro e w' ⟨rfl, rfl⟩) | (go_at_call 29; refine (isDigit_yes _ _ hq.out).mono ?_; rintro e w' ⟨rfl, rfl⟩))
            go_roundw
            case rel => exact ⟨pos + 1, rfl, by omega, hg.out⟩
            case measure => simp; omega
          · have hD' : T.isD (s[pos]'hp) = false := by simpa using hD
            have hq := Lib.hid (hr1.trans hD')
            by_cases hM : ((s[pos]'hp) == 45) = true
            · obtain rfl : k = 1 := hm2 hM
              have hm : ((r : Int) == 45) = true := hm1.trans hM
              have hm' : ((r : Int) != 45) = false := by simpa using hm
              have hg := Lib.hid (hgood.out (by rw [hat, hL', hM]; simp [h0]))
              clear hr1 hr2 hl1 hl2 hm1 hm2 hdec hat hL hL' hD hD' h0 hM
              go_wp2_with (first | (go_at_call 28; refine (isLetter_no _ _ hr.out).mono ?_; rintro e w' ⟨rfl, rfl⟩) | (go_at_call 29; refine (isDigit_no _ _ hq.out).mono ?_; rintro e w' ⟨rfl, rfl⟩))
              go_roundw
              case rel => exact ⟨pos + 1, rfl, by omega, hg.out⟩
              case measure => simp; omega
            · have hM' : ((s[pos]'hp) == 45) = false := by simpa using hM
              have hm : ((r : Int) == 45) = false := hm1.trans hM'
              have hm' : ((r : Int) != 45) = true := by simpa using hm
              have hb := Lib.hid (hbad.out (by rw [hat, hL', hD', hM']; simp))
              clear hr1 hr2 hl1 hl2 hm1 hm2 hdec hat hL hL' hD hD' h0 hM hM'
              go_wp2_with (first | (go_at_call 28; refine (isLetter_no _ _ hr.out).mono ?_; rintro e w' ⟨rfl, rfl⟩) | (go_at_call 29; refine (isDigit_no _ _ hq.out).mono ?_; rintro e w' ⟨rfl, rfl⟩))
              go_ret
              exact ⟨ret_bool hb.out.symm, hbl.out⟩
    · have hnx : ∀ ty, (Instr.next (.pointer (some ⟨w.heap.size, 0, none⟩)) true ty).run Tryd.prog (w.iter s pos) = _ := fun ty => run_next_end w s pos ty hp
      have hbl : Hid (Below w.heap.size w (w.iter s pos)) := Lib.hid ((Below.refl _ w).alloc (Nat.le_refl _) _)
      have hy : Hid (T.isName s.data.toList = true) := by
        show _ = _
        rw [T.isName_all (fun i hi => Hall.out i (by simp at hi; omega))]
        simp; omega
      go_wp2
      go_ret
      exact ⟨ret_bool hy.out.symm, hbl.out⟩
theorem name_c (s : ByteArray) (w : World) (hs : s.size < 4294967281) :
    Calls Tryd.prog 13 #[.string s] w fun e w' => e = .returned (.bool (T.isName s.data.toList)) ∧ Below w.heap.size w w' := by
  by_cases h : 1 ≤ s.size ∧ s.size ≤ 32
  · exact name_short s w h.1 h.2
  · rw [T.isName_len (l := s.data.toList) (by simpa using h)]
    exact name_long s w hs h
end Go.Proofs.YtkhfjcaobjompaaDoor
