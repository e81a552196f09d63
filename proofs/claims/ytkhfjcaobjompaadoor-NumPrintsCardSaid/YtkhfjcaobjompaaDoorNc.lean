/-
  CONTRACTS of package num, second part: isDigit, isLetter, isNumberText, ReadNumber, Name.
-/
import Derived.Test.YtkhfjcaobjompaaDoorNb
namespace Go.Proofs.YtkhfjcaobjompaaDoor
open Go.ChangeShapes Go.WideShapes Go.ChangeAt Go.RowKit Go.Sort

def dRune (r : Int) : Bool := decide (48 ≤ r) && decide (r ≤ 57)
def lRune (r : Int) : Bool := decide (97 ≤ r) && decide (r ≤ 122)
theorem isDigit_c (r : Int) (w : World) :
    Calls Tryd.prog 29 #[.int .i32 r] w fun e w' => e = .returned (.bool (dRune r)) ∧ w = w' := by
  go_enter Tryd.func29, Tryd.ntmps29
  go_wp2
  all_goals go_ret
  all_goals refine ⟨ret_bool ?_, rfl⟩
  all_goals (unfold dRune; rw [Bool.eq_iff_iff]; simp; try omega)
theorem isLetter_c (r : Int) (w : World) :
    Calls Tryd.prog 28 #[.int .i32 r] w fun e w' => e = .returned (.bool (lRune r)) ∧ w = w' := by
  go_enter Tryd.func28, Tryd.ntmps28
  go_wp2
  all_goals go_ret
  all_goals refine ⟨ret_bool ?_, rfl⟩
  all_goals (unfold lRune; rw [Bool.eq_iff_iff]; simp; try omega)

theorem isDigit_yes (r : Int) (w : World) (h : dRune r = true) :
    Calls Tryd.prog 29 #[.int .i32 r] w fun e w' => e = .returned (.bool true) ∧ w = w' := by rw [← h]; exact isDigit_c r w
theorem isDigit_no (r : Int) (w : World) (h : dRune r = false) :
    Calls Tryd.prog 29 #[.int .i32 r] w fun e w' => e = .returned (.bool false) ∧ w = w' := by rw [← h]; exact isDigit_c r w
theorem isLetter_yes (r : Int) (w : World) (h : lRune r = true) :
    Calls Tryd.prog 28 #[.int .i32 r] w fun e w' => e = .returned (.bool true) ∧ w = w' := by rw [← h]; exact isLetter_c r w
theorem isLetter_no (r : Int) (w : World) (h : lRune r = false) :
    Calls Tryd.prog 28 #[.int .i32 r] w fun e w' => e = .returned (.bool false) ∧ w = w' := by rw [← h]; exact isLetter_c r w

/-- the byte at a place of a string, and the rune that begins there -/
theorem byte_get (s : ByteArray) (pos : Nat) (h : pos < s.size) : s.data.toList[pos]? = some (s[pos]'h) := by
  have hl : pos < s.data.toList.length := by simpa using h
  rw [List.getElem?_eq_getElem hl]
  rfl
theorem rune_digit (s : ByteArray) (pos : Nat) (h : pos < s.size) : dRune ((Utf8.decode s pos).1 : Int) = T.isD (s[pos]'h) ∧ (T.isD (s[pos]'h) = true → (Utf8.decode s pos).2 = 1) := by
  by_cases ha : (s[pos]'h).toNat < 128
  · rw [decode_ascii s pos h ha]
    refine ⟨?_, fun _ => rfl⟩
    unfold dRune T.isD
    rw [Bool.eq_iff_iff]
    simp
    omega
  · obtain ⟨h1, h2⟩ := decode_high s pos h (by omega)
    have hd : T.isD (s[pos]'h) = false := by
      unfold T.isD
      have : ¬ (s[pos]'h).toNat ≤ 57 := by omega
      simp [this]
    refine ⟨?_, fun h => by rw [hd] at h; cases h⟩
    rw [hd]
    unfold dRune
    have : ¬ (((Utf8.decode s pos).1 : Nat) : Int) ≤ 57 := by omega
    simp [this]

/-- what is asked behind the loop -/
theorem num_end (s : ByteArray) (hall : s.data.toList.all T.isD = true) :
    (s.toList = [48] → T.numText s.data.toList = true) ∧ (¬ s.toList = [48] → s.toList = [] → T.numText s.data.toList = false) ∧
    (∀ h0 : 0 < s.size, ¬ s.toList = [48] → ¬ s.toList = [] → T.numText s.data.toList = (((s[0]'h0).toNat : Int) != 48)) ∧ (¬ s.toList = [] → 0 < s.size) := by
  rw [ByteArray.toList_eq] 
  refine ⟨fun h => ?_, fun h h2 => ?_, fun h0 h h2 => ?_, fun h => ?_⟩
  · unfold T.numText; rw [hall, h]; rfl
  · rw [h2]; rfl
  · have hb := byte_get s 0 h0
    unfold T.numText
    rw [hall, show (s.data.toList == [48]) = false by simpa using h, show (s.data.toList != []) = true by simpa using h2, List.head?_eq_getElem?, hb]
    simp only [Bool.true_and, Bool.false_or]
    rw [Bool.eq_iff_iff]
    simp only [bne_iff_ne, ne_eq, Option.some.injEq]
    constructor
    · intro g e
      apply g
      apply UInt8.toNat_inj.1
      show (s[0]'h0).toNat = 48
      omega
    · intro g e
      rw [e] at g
      exact g rfl
  · rcases Nat.eq_zero_or_pos s.size with g | g
    · exact absurd (List.eq_nil_of_length_eq_zero (by simpa using g)) h
    · exact g
theorem isNumberText_c (s : ByteArray) (w : World) (_hs : s.size < 4294967281) :
    Calls Tryd.prog 22 #[.string s] w fun e w' => e = .returned (.bool (T.numText s.data.toList)) ∧ Below w.heap.size w w' := by
  go_enter Tryd.func22, Tryd.ntmps22
  go_wp2
  go_loopw [] (fun w' => ∃ pos : Nat, w' = w.iter s pos ∧ pos ≤ s.size ∧ (s.data.toList.take pos).all T.isD = true) (fun w' => s.size - w'.iterPos w.heap.size)
  case atStart => exact ⟨0, rfl, Nat.zero_le _, by simp⟩
  case round =>
    obtain ⟨pos, rfl, hle, hall⟩ := hrel
    by_cases hp : pos < s.size
    · obtain ⟨hr1, hr2⟩ := rune_digit s pos hp
      obtain ⟨r, k, hdec⟩ : ∃ r k, Utf8.decode s pos = (r, k) := ⟨_, _, rfl⟩
      have hnx : ∀ ty, (Instr.next (.pointer (some ⟨w.heap.size, 0, none⟩)) true ty).run Tryd.prog (w.iter s pos) = .ok (.tuple #[.bool true, .int .i64 (pos : Int), .int .i32 (r : Int)]) (w.iter s (pos + k)) := fun ty => by
        have := run_next_any (P := Tryd.prog) w s pos ty hp
        rw [hdec] at this
        exact this
      rw [hdec] at hr1 hr2
      have hb := byte_get s pos hp
      by_cases hd : T.isD (s[pos]'hp) = true
      · obtain rfl : k = 1 := hr2 hd
        have hr := Lib.hid (hr1.trans hd)
        have hall' : Hid ((s.data.toList.take (pos + 1)).all T.isD = true) := by
          show _ = _
          rw [List.take_add_one, hb, List.all_append, hall]
          simpa using hd
        clear hr1 hr2 hdec hb hall hd
        go_wp2_with (go_at_call 29; refine (isDigit_yes _ _ hr.out).mono ?_; rintro e w' ⟨rfl, rfl⟩)
        go_roundw
        case rel => exact ⟨pos + 1, rfl, by omega, hall'.out⟩
        case measure => simp; omega
      · have hd' : T.isD (s[pos]'hp) = false := by simpa using hd
        have hr := Lib.hid (hr1.trans hd')
        have hno : Hid (T.numText s.data.toList = false) := by
          show _ = _
          unfold T.numText
          have : s.data.toList.all T.isD = false := by
            rw [List.all_eq_false]
            exact ⟨_, List.mem_of_getElem? hb, by rw [hd']; simp⟩
          rw [this, Bool.false_and]
        have hbl : Hid (Below w.heap.size w (w.iter s (pos + k))) := Lib.hid ((Below.refl _ w).alloc (Nat.le_refl _) _)
        clear hr1 hr2 hdec hb hall hd hd'
        go_wp2_with (go_at_call 29; refine (isDigit_no _ _ hr.out).mono ?_; rintro e w' ⟨rfl, rfl⟩)
        go_ret
        exact ⟨ret_bool hno.out.symm, hbl.out⟩
    · have hnx : ∀ ty, (Instr.next (.pointer (some ⟨w.heap.size, 0, none⟩)) true ty).run Tryd.prog (w.iter s pos) = _ := fun ty => run_next_end w s pos ty hp
      have hbl : Hid (Below w.heap.size w (w.iter s pos)) := Lib.hid ((Below.refl _ w).alloc (Nat.le_refl _) _)
      have hfull : s.data.toList.all T.isD = true := by rw [List.take_of_length_le (by simp; omega)] at hall; exact hall
      obtain ⟨e1, e2, e3, e4⟩ := num_end s hfull
      clear hfull hall
      have E1 := Lib.hid e1
      have E2 := Lib.hid e2
      have E3 := Lib.hid e3
      have E4 := Lib.hid e4
      clear e1 e2 e3 e4
      by_cases g1 : s.toList = [48]
      · go_wp2
        go_ret
        exact ⟨ret_bool (E1.out g1).symm, hbl.out⟩
      · by_cases g2 : s.toList = []
        · go_wp2
          go_ret
          exact ⟨ret_bool (E2.out g1 g2).symm, hbl.out⟩
        · have h0 := E4.out g2
          have e5 := Lib.hid (E3.out h0 g1 g2)
          go_wp2
          go_ret
          refine ⟨ret_bool ?_, hbl.out⟩
          rw [e5.out]
          have q1 : (s.toList == [48]) = false := by simpa using g1
          have q2 : s.toList.isEmpty = false := by cases hq : s.toList <;> simp_all
          simp [q1, q2]
theorem isNumberText_yes (s : ByteArray) (w : World) (hs : s.size < 4294967281) (h : T.numText s.data.toList = true) :
    Calls Tryd.prog 22 #[.string s] w fun e w' => e = .returned (.bool true) ∧ Below w.heap.size w w' := by rw [← h]; exact isNumberText_c s w hs
theorem isNumberText_no (s : ByteArray) (w : World) (hs : s.size < 4294967281) (h : T.numText s.data.toList = false) :
    Calls Tryd.prog 22 #[.string s] w fun e w' => e = .returned (.bool false) ∧ Below w.heap.size w w' := by rw [← h]; exact isNumberText_c s w hs

theorem readNumber_c (s : ByteArray) (w : World) (hs : s.size < 4294967281) (hw : Ready w) :
    Calls Tryd.prog 6 #[.string s] w fun e w' => e = .returned (.tuple #[.int .u64 ((T.rdNum s.data.toList).1 : Int), .int .i64 ((T.rdNum s.data.toList).2 : Int)]) ∧ Below w.heap.size w w' := by
  by_cases h1 : T.numText s.data.toList = true
  · by_cases h2 : T.val 0 s.data.toList < 18446744073709551616
    · have hr : T.rdNum s.data.toList = (T.val 0 s.data.toList, 0) := by unfold T.rdNum; rw [if_pos h1, if_pos h2]
      have h3 : (T.rdNum s.data.toList).1 = T.val 0 s.data.toList := by rw [hr]
      have H1 := Lib.hid h1
      have HR := Lib.hid hr
      clear h1 hr h3
      go_enter Tryd.func6, Tryd.ntmps6
      go_wp2_with (first
        | (go_at_call 22; refine (isNumberText_yes s _ hs H1.out).mono ?_; rintro e w1 ⟨rfl, hb1⟩)
        | (go_at_call 23; refine (parse_ok s _ hs H1.out h2).mono ?_; rintro e w2 ⟨rfl, hb2⟩))
      go_ret2
      exact ⟨by rw [HR.out]; rfl, Below.andThen hb1 hb2⟩
    · have hr : T.rdNum s.data.toList = (0, 11) := by unfold T.rdNum; rw [if_pos h1, if_neg h2]
      have H1 := Lib.hid h1
      have HR := Lib.hid hr
      have H2 := Lib.hid h2
      clear h1 hr h2
      go_enter Tryd.func6, Tryd.ntmps6
      go_wp2_with (first
        | (go_at_call 22; refine (isNumberText_yes s _ hs H1.out).mono ?_; rintro e w1 ⟨rfl, hb1⟩)
        | (go_at_call 23; refine (parse_long s _ hs (hw.on hb1) H1.out H2.out).mono ?_; rintro e w2 ⟨te, pe, rfl, hb2⟩))
      go_ret2
      exact ⟨by rw [HR.out]; rfl, Below.andThen hb1 hb2⟩
  · have h1' : T.numText s.data.toList = false := by simpa using h1
    have hr : T.rdNum s.data.toList = (0, 8) := by unfold T.rdNum; rw [if_neg h1]
    have H1 := Lib.hid h1'
    have HR := Lib.hid hr
    clear h1 hr h1'
    go_enter Tryd.func6, Tryd.ntmps6
    go_wp2_with (go_at_call 22; refine (isNumberText_no s _ hs H1.out).mono ?_; rintro e w1 ⟨rfl, hb1⟩)
    go_ret2
    exact ⟨by rw [HR.out]; rfl, hb1⟩
end Go.Proofs.YtkhfjcaobjompaaDoor
