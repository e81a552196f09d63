import Derived.Test.YtpgdoicamgfibaaGreatDoorM18
import Derived.Test.YtpgdoicamgfibaaGreatDoorM27
/-
  THE LAW TreePlays; Heavy of acts.
-/
namespace Go.Proofs.YtpgdoicamgfibaaGreatDoor
open Go.ChangeShapes Go.WideShapes Go.ChangeAt Go.RowKit
open Tr (T S4 Ent)

set_option maxRecDepth 100000 in
theorem rheavy7_c {w : World} {B : Nat} {A : Option Addr} {c : Nat} {L : List ActT} (h : ActsT w B A L) (hl : L.length ≤ maxLen) (m : Nat) (r : Bool) (hr : decide (m < L.length ∨ ∃ e ∈ L, 40 < e.p.length) = r) :
    Calls Tryz.prog 10 #[.slice A L.length c, .int .i64 (m : Int)] w fun e w' => e = .returned (.bool r) ∧ w = w' := by
  have HX := Lib.hid (And.intro h hr)
  have hm : L.length ≤ 9223372036854775807 := by unfold maxLen at hl; omega
  clear h hr hl
  by_cases hbig : m < L.length
  · have d1 : decide ((m : Int) < (L.length : Int)) = true := decide_eq_true (by omega)
    have hrt : Hid (r = true) := Lib.hid (by rw [← HX.out.2]; exact decide_eq_true (.inl hbig))
    have d1' : decide (m < L.length) = true := decide_eq_true hbig
    go_enter Tryz.func10, Tryz.ntmps10
    go_wp2
    go_ret
    exact ⟨by rw [hrt.out]; rfl, rfl⟩
  · have d1 : decide ((m : Int) < (L.length : Int)) = false := decide_eq_false (by omega)
    have d1' : decide (m < L.length) = false := decide_eq_false hbig
    have HB := Lib.hid hbig
    go_enter Tryz.func10, Tryz.ntmps10
    go_wp2
    go_loopw [5] (fun i wr => ∃ j : Nat, j ≤ L.length ∧ i = .int .i64 j ∧ wr = w ∧ ∀ q e, q < j → L[q]? = some e → ¬ 40 < e.p.length) (fun i _ => L.length - (intOf i).toNat)
    case atStart => exact ⟨0, Nat.zero_le _, (by first | rfl | trivial), (by first | rfl | trivial), fun m e hm => by omega⟩
    case round =>
      obtain ⟨j, hj, rfl, rfl, hbe⟩ := hrel
      by_cases hlt : j < L.length
      · obtain ⟨e, he⟩ := get_lt hlt
        obtain ⟨b, off, A1, c1, hA, -, -, x0, -, -, -, -⟩ := HX.out.1.at he
        subst hA
        have m1 : (0 : Int) ≤ (j : Int) := by omega
        have m2 : (j : Int) < (L.length : Int) := by omega
        have HY := Lib.hid (And.intro he hbe)
        by_cases hc : 40 < e.p.length
        · have d2 : decide ((40 : Int) < (e.p.length : Int)) = true := decide_eq_true (by omega)
          have hrt : Hid (r = true) := Lib.hid (by rw [← HX.out.2]; exact decide_eq_true (.inr ⟨e, List.mem_of_getElem? he, hc⟩))
          clear he hbe hc
          go_wp2_with fail
          go_ret
          exact ⟨by rw [hrt.out]; rfl, rfl⟩
        · have d2 : decide ((40 : Int) < (e.p.length : Int)) = false := decide_eq_false (by omega)
          have hc := Lib.hid hc
          clear he hbe
          go_wp2_with fail
          go_roundw
          case rel =>
            refine ⟨j + 1, by omega, by go_num, (by first | rfl | trivial), fun q e' hq he' => ?_⟩
            by_cases c : q < j
            · exact HY.out.2 q e' c he'
            · have : q = j := by omega
              subst this
              rw [HY.out.1] at he'
              cases he'
              exact hc.out
          case measure => simp [intOf]; omega
      · have hrf : Hid (r = false) := Lib.hid (by
          rw [← HX.out.2]
          refine decide_eq_false ?_
          rintro (h | ⟨e, he, h40⟩)
          · exact HB.out h
          · obtain ⟨q, hq⟩ := List.mem_iff_getElem?.1 he
            exact hbe q e (by have := lt_get hq; omega) hq h40)
        clear hbe
        go_wp2_with fail
        go_ret
        exact ⟨by rw [hrf.out]; rfl, rfl⟩
def heavyA (m : Nat) (L : List ActT) : Bool := decide (m < L.length ∨ ∃ a ∈ L, 40 < a.p.length)
theorem heavyA_few {m : Nat} {L : List ActT} (h : heavyA m L = false) : L.length ≤ m := by
  simp only [heavyA, decide_eq_false_iff_not, not_or] at h
  omega
/-- too many acts -/
theorem treePlays_skip {w : World} {A : Option Addr} {c : Nat} {l : List ActT} (k : Int) (hT : Tz w) (hA : ActsT w w.heap.size A l) (hl : l.length ≤ maxLen) (hh : heavyA 60 l = true) :
    Calls Tryz.prog 3 #[.int .i64 k, .slice A l.length c] w fun e w' => e = .returned (.bool true) ∧ Below w.heap.size w w' := by
  have HX := Lib.hid (And.intro hA (And.intro hl (And.intro hh hT)))
  clear hA hl hh hT
  go_enter Tryz.func3, Tryz.ntmps3
  go_wp2_with fail
  refine (awake7_c w HX.out.2.2.2).mono ?_
  rintro e w1 ⟨rfl, hb1⟩
  have HH := Lib.hid (rheavy7_c (c := c) (HX.out.1.below hb1 (Nat.le_refl _) (Nat.le_refl _)) HX.out.2.1 60 true HX.out.2.2.1)
  have HB := Lib.hid hb1
  clear hb1
  go_wp2_with (go_at_call 10; refine HH.out.mono ?_; rintro e w' ⟨rfl, rfl⟩)
  go_ret
  exact ⟨rfl, HB.out⟩
theorem treePlays_arg {w : World} {A : Option Addr} {c : Nat} {l : List ActT} (k : Int) (hT : Tz w) (hA : ActsT w w.heap.size A l) (hl : l.length ≤ maxLen) (hh : heavyA 60 l = false) (hk : ¬ (1 ≤ k ∧ k ≤ 16)) :
    Calls Tryz.prog 3 #[.int .i64 k, .slice A l.length c] w fun e w' => e = .returned (.bool true) ∧ Below w.heap.size w w' := by
  have HX := Lib.hid (And.intro hA (And.intro hl (And.intro hh hT)))
  have HK := Lib.hid hk
  clear hA hl hh hT
  by_cases d0 : k < 1
  · have d1 : decide (k < 1) = true := decide_eq_true d0
    clear hk d0
    go_enter Tryz.func3, Tryz.ntmps3
    go_wp2_with fail
    refine (awake7_c w HX.out.2.2.2).mono ?_
    rintro e w1 ⟨rfl, hb1⟩
    have HH := Lib.hid (rheavy7_c (c := c) (HX.out.1.below hb1 (Nat.le_refl _) (Nat.le_refl _)) HX.out.2.1 60 false HX.out.2.2.1)
    have HB := Lib.hid hb1
    have HN := Lib.hid (tNew_arg k w1 HK.out)
    clear hb1
    go_wp2_with (first
      | (go_at_call 10; refine HH.out.mono ?_; rintro e w' ⟨rfl, rfl⟩)
      | (go_at_call 11; refine HN.out.mono ?_; rintro e w' ⟨rfl, rfl⟩))
    go_ret
    exact ⟨rfl, HB.out⟩
  · have d1 : decide (k < 1) = false := decide_eq_false d0
    have d2 : decide (16 < k) = true := decide_eq_true (by omega)
    clear hk d0
    go_enter Tryz.func3, Tryz.ntmps3
    go_wp2_with fail
    refine (awake7_c w HX.out.2.2.2).mono ?_
    rintro e w1 ⟨rfl, hb1⟩
    have HH := Lib.hid (rheavy7_c (c := c) (HX.out.1.below hb1 (Nat.le_refl _) (Nat.le_refl _)) HX.out.2.1 60 false HX.out.2.2.1)
    have HB := Lib.hid hb1
    have HN := Lib.hid (tNew_arg k w1 HK.out)
    clear hb1
    go_wp2_with (first
      | (go_at_call 10; refine HH.out.mono ?_; rintro e w' ⟨rfl, rfl⟩)
      | (go_at_call 11; refine HN.out.mono ?_; rintro e w' ⟨rfl, rfl⟩))
    go_ret
    exact ⟨rfl, HB.out⟩
set_option maxRecDepth 100000 in
set_option maxHeartbeats 1000000 in
theorem treePlays_go {w : World} {A : Option Addr} {c : Nat} {l : List ActT} (k : Nat) (hT : Tz w) (hA : ActsT w w.heap.size A l) (hl : l.length ≤ maxLen) (hh : heavyA 60 l = false) (h1 : 1 ≤ k) (h16 : k ≤ 16) :
    Calls Tryz.prog 3 #[.int .i64 (k : Int), .slice A l.length c] w fun e w' => e = .returned (.bool true) ∧ Below w.heap.size w w' := by
  have hfew := heavyA_few hh
  have HX := Lib.hid (And.intro hA (And.intro hl (And.intro hh hT)))
  have HK := Lib.hid (And.intro h1 h16)
  have d1 : decide ((k : Int) < 1) = false := decide_eq_false (by omega)
  have d2 : decide ((16 : Int) < (k : Int)) = false := decide_eq_false (by omega)
  clear hA hl hh hT h1 h16
  go_enter Tryz.func3, Tryz.ntmps3
  go_wp2_with fail
  refine (awake7_c w HX.out.2.2.2).mono ?_
  rintro e w0 ⟨rfl, hb0⟩
  have HH := Lib.hid (rheavy7_c (c := c) (HX.out.1.below hb0 (Nat.le_refl _) (Nat.le_refl _)) HX.out.2.1 60 false HX.out.2.2.1)
  have HB0 := Lib.hid hb0
  clear hb0
  go_wp2_with (go_at_call 10; refine HH.out.mono ?_; rintro e w' ⟨rfl, rfl⟩)
  refine (tNew_c k w0 HK.out.1 HK.out.2).mono ?_
  rintro e w1 ⟨rfl, ht1, hb1⟩
  have HT := Lib.hid (And.intro ht1 (Below.andThen HB0.out hb1))
  clear ht1 hb1
  go_wp2_with fail
  have hal := below_alloc w1 (.cells #[] 61)
  have HS := Lib.hid (show Hand (w1.alloc (.cells #[] 61)) w.heap.size w0.heap.size k none (some ⟨w1.heap.size, 0, none⟩) 0 0 from ⟨HT.out.1.below hal (Nat.le_refl _), EntL.nil _ _ _ _, Nat.le_refl _, Nat.le_refl _, by omega, Nat.le_trans HT.out.2.size hal.size⟩)
  have HB := Lib.hid (Below.andThen HT.out.2 hal)
  clear hal
  go_loopw [5, 7, 8] (fun t v i wr => ∃ (j b : Nat) (o : Option T) (D : Option Addr) (d : Nat), j ≤ l.length ∧ t = .pointer (some ⟨b, 0, none⟩) ∧ v = .slice D (Tr.entsO o).length d ∧ i = .int .i64 j ∧ Hand wr w.heap.size b k o D d j ∧ Below w.heap.size w wr) (fun _ _ i _ => l.length - (intOf i).toNat)
  case atStart => exact ⟨0, w0.heap.size, none, _, _, Nat.zero_le _, rfl, rfl, rfl, HS.out, HB.out⟩
  case round =>
    obtain ⟨j, b, o, D, d, hj, rfl, rfl, rfl, hh, hbr⟩ := hrel
    by_cases hlt : j < l.length
    · obtain ⟨a, ha⟩ := get_lt hlt
      obtain ⟨gb, go, A', c', hAA, hgb, x0, x1, x2, hp, hm, hv⟩ := (HX.out.1.below hbr (Nat.le_refl _) (Nat.le_refl _)).at ha
      have HD := Lib.hid (done_c (d := c') hh (by omega) hp hm hv)
      have HY := Lib.hid hbr
      subst hAA
      have m1 : (0 : Int) ≤ (j : Int) := by omega
      have m2 : (j : Int) < (l.length : Int) := by omega
      clear hh hbr ha hp hm hv
      go_wp2_with (go_at_call 12; refine HD.out.mono ?_; rintro e w2 ⟨b2, o2, D2, d2, rfl, hh2, he2, -, hb2⟩; clear he2)
      go_roundw
      case rel => exact ⟨j + 1, b2, o2, D2, d2, by omega, rfl, rfl, by go_num, hh2, Below.andThen HY.out hb2⟩
      case measure => simp [intOf]; omega
    · have HI := Lib.hid (is7_c (c := d) hh.tree.1 (fun w' hb => (HX.out.2.2.2.on hbr).on hb) (hh.list.ents hh.old (Nat.le_refl _)) hh.cap (by have := hh.few; have := hh.most; omega))
      have HY := Lib.hid hbr
      clear hh hbr
      go_wp2_with (go_at_call 13; refine HI.out.mono ?_; rintro e w2 ⟨rfl, hb2⟩)
      go_ret
      exact ⟨rfl, Below.andThen HY.out hb2⟩
/-- The law, at arguments laid open. -/
theorem treePlays_c {w : World} {A : Option Addr} {c : Nat} {l : List ActT} (k : Int) (hT : Tz w) (hA : ActsT w w.heap.size A l) (hl : l.length ≤ maxLen) :
    Calls Tryz.prog 3 #[.int .i64 k, .slice A l.length c] w fun e w' => e = .returned (.bool true) ∧ Below w.heap.size w w' := by
  rcases hh : heavyA 60 l with _ | _
  · by_cases hk : 1 ≤ k ∧ k ≤ 16
    · obtain ⟨n, rfl⟩ : ∃ n : Nat, k = (n : Int) := ⟨k.toNat, by omega⟩
      exact treePlays_go n hT hA hl hh (by omega) (by omega)
    · exact treePlays_arg k hT hA hl hh hk
  · exact treePlays_skip k hT hA hl hh
end Go.Proofs.YtpgdoicamgfibaaGreatDoor
