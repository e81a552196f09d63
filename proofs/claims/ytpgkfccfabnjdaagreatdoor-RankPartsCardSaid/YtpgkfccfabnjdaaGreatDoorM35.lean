import Derived.Test.YtpgkfccfabnjdaaGreatDoorM18
import Derived.Test.YtpgkfccfabnjdaaGreatDoorM27
import Derived.Test.YtpgkfccfabnjdaaGreatDoorM33
import Derived.Test.YtpgkfccfabnjdaaGreatDoorM68
/-
  THE LAW TreePlays; Heavy of acts.
-/
namespace Go.Proofs.YtpgkfccfabnjdaaGreatDoor
open Go.ChangeShapes Go.WideShapes Go.ChangeAt Go.RowKit
open Tr (T S4 Ent)

set_option maxRecDepth 100000 in
theorem rheavy7_c {w : World} {B : Nat} {A : Option Addr} {c : Nat} {L : List ActT} (h : ActsT w B A L) (hl : L.length ≤ maxLen) (m : Nat) (r : Bool) (hr : decide (m < L.length ∨ ∃ e ∈ L, 40 < e.p.length) = r) :
    Calls Tryz.prog 9 #[.slice A L.length c, .int .i64 (m : Int)] w fun e w' => e = .returned (.bool r) ∧ w = w' := by
  have HX := Lib.hid (And.intro h hr)
  have hm : L.length ≤ 9223372036854775807 := by unfold maxLen at hl; omega
  clear h hr hl
  by_cases hbig : m < L.length
  · have d1 : decide ((m : Int) < (L.length : Int)) = true := decide_eq_true (by omega)
    have hrt : Hid (r = true) := Lib.hid (by rw [← HX.out.2]; exact decide_eq_true (.inl hbig))
    have d1' : decide (m < L.length) = true := decide_eq_true hbig
    go_enter Tryz.func9, Tryz.ntmps9
    go_wp2
    go_ret
    exact ⟨by rw [hrt.out]; rfl, rfl⟩
  · have d1 : decide ((m : Int) < (L.length : Int)) = false := decide_eq_false (by omega)
    have d1' : decide (m < L.length) = false := decide_eq_false hbig
    have HB := Lib.hid hbig
    go_enter Tryz.func9, Tryz.ntmps9
    go_wp2
    go_loopw [5] (fun i wr => ∃ j : Nat, j ≤ L.length ∧ i = .int .i64 j ∧ wr = w ∧ ∀ q e, q < j → L[q]? = some e → ¬ 40 < e.p.length) (fun i _ => L.length - (intOf i).toNat)
    case atStart => exact ⟨0, Nat.zero_le _, (by first | rfl | trivial), (by first | rfl | trivial), fun m e hm => by omega⟩
    case round =>
      obtain ⟨j, hj, rfl, rfl, hbe⟩ := hrel
      by_cases hlt : j < L.length
      · obtain ⟨e, he⟩ := get_lt hlt
        obtain ⟨b, off, A1, c1, hA, -, -, x0, -, -, -, -⟩ := HX.out.1.at he
        subst hA
        have m1 : (0 : Int) ≤ (j : Int) := by omega
        have m2 : (j : Int) < (L.length : Int) := by omega
        have HY := Lib.hid (And.intro he hbe)
        by_cases hc : 40 < e.p.length
        · have d2 : decide ((40 : Int) < (e.p.length : Int)) = true := decide_eq_true (by omega)
          have hrt : Hid (r = true) := Lib.hid (by rw [← HX.out.2]; exact decide_eq_true (.inr ⟨e, List.mem_of_getElem? he, hc⟩))
          clear he hbe hc
          go_wp2_with fail
          go_ret
          exact ⟨by rw [hrt.out]; rfl, rfl⟩
        · have d2 : decide ((40 : Int) < (e.p.length : Int)) = false := decide_eq_false (by omega)
          have hc := Lib.hid hc
          clear he hbe
          go_wp2_with fail
          go_roundw
          case rel =>
            refine ⟨j + 1, by omega, by go_num, (by first | rfl | trivial), fun q e' hq he' => ?_⟩
            by_cases c : q < j
            · exact HY.out.2 q e' c he'
            · have : q = j := by omega
              subst this
              rw [HY.out.1] at he'
              cases he'
              exact hc.out
          case measure => simp [intOf]; omega
      · have hrf : Hid (r = false) := Lib.hid (by
          rw [← HX.out.2]
          refine decide_eq_false ?_
          rintro (h | ⟨e, he, h40⟩)
          · exact HB.out h
          · obtain ⟨q, hq⟩ := List.mem_iff_getElem?.1 he
            exact hbe q e (by have := lt_get hq; omega) hq h40)
        clear hbe
        go_wp2_with fail
        go_ret
        exact ⟨by rw [hrf.out]; rfl, rfl⟩
def heavyA (m : Nat) (L : List ActT) : Bool := decide (m < L.length ∨ ∃ a ∈ L, 40 < a.p.length)
theorem heavyA_few {m : Nat} {L : List ActT} (h : heavyA m L = false) : L.length ≤ m := by
  simp only [heavyA, decide_eq_false_iff_not, not_or] at h
  omega
end Go.Proofs.YtpgkfccfabnjdaaGreatDoor

/-
  A CURSOR THAT STANDS BEHIND j ENTRIES ('RunI'), and what each of its moves makes of that.
-/
namespace Go.Proofs.YtpgkfccfabnjdaaGreatDoor
open Go.ChangeShapes Go.WideShapes Go.ChangeAt Go.RowKit
open Tr (T S4 Ent)

theorem Hand.ents {w w' : World} {C b k : Nat} {o : Option T} {A : Option Addr} {c M : Nat} (h : Hand w C b k o A c M) (hb : Below w.heap.size w w') : Ents w' w'.heap.size A (Tr.entsO o) :=
  (h.list.ents h.old (Nat.le_refl _)).below hb (Nat.le_refl _) hb.size
end Go.Proofs.YtpgkfccfabnjdaaGreatDoor

/-
  CONTRACTS of packages pantileref08 (From, UpTo) and pantilelaw08 (at, of any entry); From, UpTo of package walk at any root.
-/
namespace Go.Proofs.YtpgkfccfabnjdaaGreatDoor
open Go.ChangeShapes Go.WideShapes Go.ChangeAt Go.RowKit
open Tr (T S4 Ent)

theorem get_front {L F1 F2 : List Ent} (he : L = F1 ++ F2) {j : Nat} {y : Ent} (hy : L[j]? = some y) : (j < F1.length → y ∈ F1) ∧ (F1.length ≤ j → y ∈ F2) := by
  subst he
  refine ⟨fun h => ?_, fun h => ?_⟩
  · rw [List.getElem?_append_left h] at hy; exact List.mem_of_getElem? hy
  · rw [List.getElem?_append_right h] at hy; exact List.mem_of_getElem? hy
theorem rfrom8_c {w : World} {B k : Nat} {A A' : Option Addr} {c c' : Nat} {L F1 F2 : List Ent} {p : List Nat} (hd : Tr.Dim k L) (h : Ents w B A L) (hp : Pts w B A' p) (hpl : p.length = k) (h1 : 1 ≤ k) (h16 : k ≤ 16) (hl : L.length ≤ 1000000)
    (he : L = F1 ++ F2) (ha : Ahead p F1) (hb : Past p F2) :
    Calls Tryz.prog 19 #[.slice A L.length c, .slice A' p.length c'] w fun e w' => e = .returned (.int .i64 (F1.length : Int)) ∧ w = w' := by
  have hF : F1.length ≤ L.length := by rw [he, List.length_append]; omega
  have HX := Lib.hid (And.intro hd (And.intro h (And.intro hp (And.intro hpl (And.intro h1 (And.intro h16 (And.intro he (And.intro ha (And.intro hb hF)))))))))
  clear hd h hp hpl h1 h16 he ha hb hF
  go_enter Tryz.func19, Tryz.ntmps19
  go_wp2
  go_loopw [5] (fun i wr => ∃ j : Nat, j ≤ F1.length ∧ i = .int .i64 j ∧ wr = w) (fun i _ => F1.length - (intOf i).toNat)
  case atStart => exact ⟨0, Nat.zero_le _, (by first | rfl | trivial), (by first | rfl | trivial)⟩
  case round =>
    obtain ⟨j, hj, rfl, rfl⟩ := hrel
    obtain ⟨hd, h, hp, hpl, h1, h16, he, ha, hb, hF⟩ := HX.out
    by_cases hlt : j < L.length
    · obtain ⟨e, hg⟩ := get_lt hlt
      obtain ⟨b, off, A1, c1, hA, -, x0, -, p1, -, -⟩ := h.at hg
      subst hA
      have hm := hd _ (List.mem_of_getElem? hg)
      have HC := Lib.hid (rcmp_c A1 A' c1 c' e.1 p B wr p1 hp (by rw [hm.1]; exact h1) (by rw [hm.1]; exact h16) (by rw [hm.1, hpl]))
      have hkc := Tr.key_lt (p := e.1) (q := p) (by rw [hm.1, hpl]) hm.2.1 hp.1
      have hgf := get_front he hg
      have m1 : (0 : Int) ≤ (j : Int) := by omega
      have m2 : (j : Int) < (L.length : Int) := by omega
      by_cases hc : j < F1.length
      · have d1 : decide (Z.cmp e.1 p < 0) = true := decide_eq_true (hkc.1 (ha e (hgf.1 hc)))
        have HJ := Lib.hid hc
        clear hd h hp hpl h1 h16 he ha hb hF hg hm p1 hkc hgf hc hlt
        go_wp2_with (go_at_call 62; refine HC.out.mono ?_; rintro e w2 ⟨rfl, rfl⟩)
        go_roundw
        case rel => exact ⟨j + 1, by have := HJ.out; omega, by go_num, (by first | rfl | trivial)⟩
        case measure => simp [intOf]; have := HJ.out; omega
      · have hjF : j = F1.length := by omega
        have d1 : decide (Z.cmp e.1 p < 0) = false := decide_eq_false (fun hn => by have h5 := hkc.2 hn; have h6 := hb e (hgf.2 (by omega)); omega)
        have HJ := Lib.hid hjF
        clear hd h hp hpl h1 h16 he ha hb hF hg hm p1 hkc hgf hc hlt hjF
        go_wp2_with (go_at_call 62; refine HC.out.mono ?_; rintro e w2 ⟨rfl, rfl⟩)
        go_ret
        exact ⟨by rw [← HJ.out]; rfl, rfl⟩
    · have HJ := Lib.hid (show j = F1.length by omega)
      have d1 : decide ((j : Int) < (L.length : Int)) = false := decide_eq_false (by omega)
      have d2 : decide (j < L.length) = false := decide_eq_false hlt
      clear hd h hp hpl h1 h16 he ha hb hF hlt
      go_wp2_with fail
      go_ret
      exact ⟨by rw [← HJ.out]; rfl, rfl⟩
/-! ### at, of any entry -/
/-! ### From, UpTo, at any root -/
end Go.Proofs.YtpgkfccfabnjdaaGreatDoor
