import Derived.Test.YtpgkfccfabnjdaaGreatDoorM95
import Derived.Test.YtpgkfccfabnjdaaGreatDoorM16
import Derived.Test.YtpgkfccfabnjdaaGreatDoorM18
/-
  DIFF: pantileref12.Changes, Swapped.
-/
namespace Go.Proofs.YtpgkfccfabnjdaaGreatDoor
open Go.ChangeShapes Go.WideShapes Go.ChangeAt Go.RowKit
open Tr (T S4 Ent Sd Fl Chg)

theorem ApI.later {w5 W W' : World} {base : Nat} {D : Nat → Prop} {V0 R : Option Addr} {n c : Nat} {L : List Chg} (h : ApI w5 base D V0 n R c L W) (hb : Below W.heap.size W W') : ApI w5 base D V0 n R c L W' :=
  ⟨h.row.below hb, h.foot.trans (Foot.of_below (F := fun b => V0.map (·.block) = some b) hb) (fun _ hb => .inl hb), h.at_, h.len⟩
end Go.Proofs.YtpgkfccfabnjdaaGreatDoor

/-
  DIFF: Two of law 12; pantileref12.Swapped.
-/
namespace Go.Proofs.YtpgkfccfabnjdaaGreatDoor
open Go.ChangeShapes Go.WideShapes Go.ChangeAt Go.RowKit
open Tr (T S4 Ent Sd Fl Chg)

set_option maxRecDepth 100000 in
set_option maxHeartbeats 2000000 in
theorem two_c {w : World} {C k : Nat} {A A' : Option Addr} {c c' n n' : Nat} {l m : List ActT} (h1 : 1 ≤ k) (h16 : k ≤ 16) (hA : ActsT w C A l) (hA' : ActsT w C A' m) (hC : C ≤ w.heap.size) (hl : l.length ≤ 100) (hm : m.length ≤ 100) (hn : l.length = n) (hn' : m.length = n') :
    Calls Tryz.prog 32 #[.int .i64 (k : Int), .slice A n c, .slice A' n' c'] w fun e w' => ∃ (b : Nat) (o : Option T) (D : Option Addr) (d b' : Nat) (o' : Option T) (D' : Option Addr) (d' : Nat), e = .returned (.tuple #[.pointer (some ⟨b, 0, none⟩), .pointer (some ⟨b', 0, none⟩), .slice D (Tr.entsO o).length d, .slice D' (Tr.entsO o').length d', .bool true]) ∧ Hand w' C b k o D d n ∧ Hand w' C b' k o' D' d' (n + n') ∧ Below w.heap.size w w' := by
  have HG := grown_c (c := c) h1 h16 hA hC hl
  rw [hn] at HG
  have HG := Lib.hid HG
  have HX := Lib.hid (And.intro hA' (And.intro hC (And.intro hl (And.intro hm (And.intro hn hn')))))
  have hn9 : (n' : Int) ≤ 100 := by omega
  clear h1 h16 hA hA' hC hl hm hn hn'
  go_enter Tryz.func32, Tryz.ntmps32
  go_wp2_with fail
  refine HG.out.mono ?_
  rintro e w1 ⟨b, o, D, d, rfl, hh, -, hb1⟩
  have H1 := Lib.hid (And.intro hh hb1)
  obtain ⟨N, hN⟩ : ∃ N, (Tr.entsO o).length = N := ⟨_, rfl⟩
  have HN := Lib.hid hN
  rw [hN]
  clear hh hb1 HG hN
  go_wp2_with fail
  go_loopw [13, 14, 15, 16] (fun ok t v i wr => ∃ (j b' : Nat) (o' : Option T) (D' : Option Addr) (d' : Nat), ok = .bool true ∧ j ≤ n' ∧ t = .pointer (some ⟨b', 0, none⟩) ∧ v = .slice D' (Tr.entsO o').length d' ∧ i = .int .i64 (j : Int) ∧ Hand wr C b' k o' D' d' (n + j) ∧ Below w1.heap.size w1 wr) (fun _ _ _ i _ => n' - (intOf i).toNat)
  case atStart => exact ⟨0, b, o, D, d, rfl, Nat.zero_le _, rfl, by rw [HN.out], rfl, H1.out.1, Below.refl _ _⟩
  case round =>
    obtain ⟨j, b', o', D', d', rfl, hj, rfl, rfl, rfl, hh, hbr⟩ := hrel
    by_cases hlt : j < n'
    · obtain ⟨a, ha⟩ := get_lt (us := m) (k := j) (by rw [HX.out.2.2.2.2.2]; exact hlt)
      have hbw := Below.andThen H1.out.2 hbr
      obtain ⟨gb, go, A5, c5, hAA, hgb, x0, x1, x2, hp, hpm, hv⟩ := (HX.out.1.below hbw HX.out.2.1 (Nat.le_refl _)).at ha
      have HD := Lib.hid (done_c (d := c5) hh (by have := HX.out; omega) hp hpm hv)
      have HY := Lib.hid (And.intro hbr hlt)
      subst hAA
      have f1 : decide ((j : Int) < (n' : Int)) = true := decide_eq_true (by omega)
      have f1' : decide (j < n') = true := decide_eq_true hlt
      have m1 : (0 : Int) ≤ (j : Int) := by omega
      have m2 : (j : Int) < (n' : Int) := by omega
      clear hh hbr ha hp hpm hv hbw hlt hj
      go_wp2_with (go_at_call 35; refine HD.out.mono ?_; rintro e w2 ⟨b2, o2, D2, d2, rfl, hh2, -, -, hb2⟩)
      go_roundw
      case rel =>
        exact ⟨j + 1, b2, o2, D2, d2, rfl, by have := HY.out.2; omega, rfl, rfl, by first | rfl | go_num, hh2, Below.andThen HY.out.1 hb2⟩
      case measure =>
        have := HY.out.2
        show n' - ((j : Int) + 1).toNat < n' - (j : Int).toNat
        omega
    · have hjn : n' = j := by omega
      subst hjn
      have f1 : decide ((n' : Int) < (n' : Int)) = false := decide_eq_false (by omega)
      have f1' : decide (n' < n') = false := decide_eq_false (by omega)
      have HY := Lib.hid (And.intro hh hbr)
      clear hh hbr hlt hj
      go_wp2_with fail
      refine bodyPost_ret (v := .tuple #[.pointer (some ⟨b, 0, none⟩), .pointer (some ⟨b', 0, none⟩), .slice D N d, .slice D' (Tr.entsO o').length d', .bool true]) (by simp [results, Tryz.results32, go_sem]) rfl ?_
      exact ⟨b, o, D, d, b', o', D', d', by rw [HN.out], H1.out.1.below HY.out.2, HY.out.1, Below.andThen H1.out.2 HY.out.2⟩
end Go.Proofs.YtpgkfccfabnjdaaGreatDoor
