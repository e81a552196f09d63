/-
  CONTRACTS of package pantileref05 (the document's answers for layer 5), first part: place, There, Dense, Get, SameInts.
-/
import Derived.Test.YtdejnkihofhjoaaDoorS5u
import Derived.Test.YtdejnkihofhjoaaDoorRf1
import Derived.BigQuiet
import Derived.Deep.Cut
namespace Go.Proofs.YtdejnkihofhjoaaDoor
open Go.ChangeShapes Go.WideShapes Go.ChangeAt Go.RowKit
open Go.Proofs.YtdejnkihofhjoaaDoor.Su (Al elV intV elV_get elV_length intV_length isA)

abbrev refV (k : Nat) (A : Option Addr) (n c : Nat) (C : Option Addr) (n' c' : Nat) : Value := .agg #[.int .i64 (k : Int), .slice A n c, .slice C n' c']
/-- THE DOCUMENT's SLOTS: two rows, rising. -/
def RefM (w : World) (B k : Nat) (A : Option Addr) (c : Nat) (C : Option Addr) (c' : Nat) (L : Al) : Prop :=
  Sl.Wf k L ∧ L.length ≤ c ∧ L.length ≤ c' ∧ RdV w B A (intV (Sl.keys L)) ∧ RdV w B C (elV (Sl.things L))
theorem RefM.below {w w' : World} {B B' D k : Nat} {A : Option Addr} {c : Nat} {C : Option Addr} {c' : Nat} {L : Al} (h : RefM w B k A c C c' L) (hb : Below D w w') (hD : B ≤ D) (hB : B ≤ B') : RefM w' B' k A c C c' L :=
  ⟨h.1, h.2.1, h.2.2.1, h.2.2.2.1.below hb hD hB, h.2.2.2.2.below hb hD hB⟩
theorem intV_get {ks : List Nat} {i k : Nat} (h : ks[i]? = some k) : (intV ks)[i]? = some (.int .i64 (k : Int)) := by simp [Su.intV, h]
theorem cells3 (w : World) (x y z : Value) (t : TypeId) : (w.alloc (.cells #[x, y, z] t)).cell? ⟨w.heap.size, 0, none⟩ = some x ∧ (w.alloc (.cells #[x, y, z] t)).cell? ⟨w.heap.size, 1, none⟩ = some y ∧ (w.alloc (.cells #[x, y, z] t)).cell? ⟨w.heap.size, 2, none⟩ = some z :=
  ⟨by rw [World.cell?_alloc_new]; rfl, by rw [World.cell?_alloc_new]; rfl, by rw [World.cell?_alloc_new]; rfl⟩

set_option maxRecDepth 100000 in
theorem rplace5_c {w : World} {B k : Nat} {A : Option Addr} {c : Nat} {C : Option Addr} {c' : Nat} {L : Al} (h : RefM w B k A c C c' L) (hB : B ≤ w.heap.size) (a : Int) :
    Calls Tryd.prog 22 #[refV k A L.length c C L.length c', .int .i64 a] w fun e w' => e = .returned (.tuple #[.int .i64 (Sl.idx L a : Int), .bool (Sl.has L a)]) ∧ Below w.heap.size w w' := by
  obtain ⟨wf, h1, h2, hA, -⟩ := h
  have hlen := wf.len16
  have hle := Sl.idx_le L a
  have hbel := below_alloc w (.cells #[.int .i64 (k : Int), .slice A L.length c, .slice C L.length c'] 32)
  obtain ⟨q0, q1, q2⟩ := cells3 w (.int .i64 (k : Int)) (.slice A L.length c) (.slice C L.length c') 32
  have hA2 := hA.below hbel hB (Nat.le_refl _)
  have Hw := Lib.hid wf
  have HA := Lib.hid hA2
  have Hb := Lib.hid hbel
  clear wf hA hA2 hbel
  go_enter Tryd.func22, Tryd.ntmps22
  go_wp2_with fail
  generalize w.alloc _ = W at *
  obtain ⟨i, hi⟩ : ∃ i, Sl.idx L a = i := ⟨_, rfl⟩
  have Hi := Lib.hid hi
  rw [hi] at hle
  clear hi
  go_loop [6] (fun x => ∃ j : Nat, j ≤ i ∧ x = .int .i64 j) (fun x => i - (intOf x).toNat)
  case atStart => exact ⟨0, Nat.zero_le _, rfl⟩
  case round =>
    obtain ⟨j, hj, rfl⟩ := hrel
    by_cases hlt : j < i
    · have hjL : j < L.length := by omega
      obtain ⟨p, hp⟩ := get_lt hjL
      have hb := Sl.idx_below L a j p (by rw [Hi.out]; exact hlt) hp
      have hrA := HA.out.at (intV_get (Sl.keys_get hp))
      obtain ⟨pb, po, hAA, hpb, hcell⟩ := hrA
      subst hAA
      have e1 : decide (j < L.length) = true := decide_eq_true hjL
      have e2 : decide ((j : Int) < (L.length : Int)) = true := decide_eq_true (by omega)
      have e3 : decide ((p.1 : Int) < a) = true := decide_eq_true hb
      have k1 : (0 : Int) ≤ (j : Int) := by omega
      have k2 : (j : Int) < (L.length : Int) := by omega
      clear hb hp
      go_wp2_with fail
      go_round
      case rel => exact ⟨j + 1, by omega, by go_num⟩
      case measure => simp [intOf]; omega
    · have hji : j = i := by omega
      subst hji
      obtain ⟨r, hr⟩ : ∃ r, Sl.has L a = r := ⟨_, rfl⟩
      by_cases hjL : j < L.length
      · obtain ⟨p, hp⟩ := get_lt hjL
        have hb := Sl.idx_at L a p (by rw [Hi.out]; exact hp)
        have hh := Sl.has_idx Hw.out.srt (a := a) (p := p) (by rw [Hi.out]; exact hp)
        rw [hr] at hh
        have hrA := HA.out.at (intV_get (Sl.keys_get hp))
        obtain ⟨pb, po, hAA, hpb, hcell⟩ := hrA
        subst hAA
        have e1 : decide (j < L.length) = true := decide_eq_true hjL
        have e2 : decide ((j : Int) < (L.length : Int)) = true := decide_eq_true (by omega)
        have e3 : decide ((p.1 : Int) < a) = false := decide_eq_false (by omega)
        have e4 : ((p.1 : Int) == a) = r := by rw [hh, Bool.eq_iff_iff, beq_iff_eq, decide_eq_true_eq]
        have k1 : (0 : Int) ≤ (j : Int) := by omega
        have k2 : (j : Int) < (L.length : Int) := by omega
        have Hr := Lib.hid (And.intro hr e4)
        clear hb hp hh hr e4
        go_wp2_with fail
        go_quiet (fail)
        go_wp2_with fail
        go_ret2
        exact ⟨by rw [Hi.out, Hr.out.1, ← Hr.out.2]; rfl, below_drewN _ Hb.out⟩
      · have hh := Sl.has_end Hw.out.srt (a := a) (by rw [Hi.out]; omega)
        rw [hr] at hh
        subst hh
        have Hr := Lib.hid hr
        have e1 : decide (j < L.length) = false := decide_eq_false hjL
        have e2 : decide ((j : Int) < (L.length : Int)) = false := decide_eq_false (by omega)
        clear hr
        go_wp2_with fail
        go_quiet (fail)
        go_wp2_with fail
        go_ret2
        exact ⟨by rw [Hi.out, Hr.out]; rfl, below_drewN _ Hb.out⟩

/-! ### There, Dense -/
set_option maxRecDepth 100000 in
theorem rthere_c {k : Nat} (A : Option Addr) (n c : Nat) (C : Option Addr) (n' c' : Nat) (w : World) (k16 : k ≤ 16) (a : Int) (r : Bool) (hr : isA k a = r) :
    Calls Tryd.prog 9 #[refV k A n c C n' c', .int .i64 a] w fun e w' => e = .returned (.bool r) ∧ Below w.heap.size w w' := by
  have hbel := below_alloc w (.cells #[.int .i64 (k : Int), .slice A n c, .slice C n' c'] 32)
  obtain ⟨q0, q1, q2⟩ := cells3 w (.int .i64 (k : Int)) (.slice A n c) (.slice C n' c') 32
  have hpow : ∀ j, j ≤ 16 → 2 ^ j ≤ 65536 := fun j hj => Nat.pow_le_pow_right (n := 2) (by omega) hj
  have Hp := Lib.hid hpow
  have Hr := Lib.hid hr
  clear hpow hr
  go_enter Tryd.func9, Tryd.ntmps9
  go_wp2_with fail
  generalize w.alloc _ = W at *
  go_loop [5, 6] (fun x i => ∃ j : Nat, j ≤ k ∧ i = .int .i64 j ∧ x = .int .i64 ((2 ^ j : Nat) : Int)) (fun _ i => k - (intOf i).toNat)
  case atStart => exact ⟨0, Nat.zero_le _, rfl, rfl⟩
  case round =>
    obtain ⟨j, hj, rfl, rfl⟩ := hrel
    have hb := Hp.out j (by omega)
    by_cases hlt : j < k
    · have hs : Hid (2 * 2 ^ j = 2 ^ (j + 1)) := Lib.hid (by rw [Nat.pow_succ]; omega)
      generalize 2 ^ j = P at *
      go_wp2_with fail
      go_round
      case rel => exact ⟨j + 1, by omega, by go_num, by rw [← hs.out]; go_num⟩
      case measure => simp [intOf]; omega
    · have hjk : j = k := by omega
      subst hjk
      have hr2 := Hr.out
      unfold Su.isA at hr2
      generalize 2 ^ j = P at *
      by_cases c0 : 0 ≤ a
      · have e1 : decide (0 ≤ a) = true := decide_eq_true c0
        rw [e1, Bool.true_and] at hr2
        have H2 := Lib.hid hr2
        clear hr2 c0
        go_wp2_with fail
        go_ret
        exact ⟨by rw [← H2.out]; rfl, hbel⟩
      · have e1 : decide (0 ≤ a) = false := decide_eq_false c0
        rw [e1, Bool.false_and] at hr2
        have H2 := Lib.hid hr2
        clear hr2 c0
        go_wp2_with fail
        go_ret
        exact ⟨by rw [← H2.out]; rfl, hbel⟩
set_option maxRecDepth 100000 in
theorem rdense_c {k : Nat} (A : Option Addr) (n c : Nat) (C : Option Addr) (n' c' : Nat) (w : World) (k16 : k ≤ 16) (hn : n ≤ 65536) (r : Bool) (hr : (decide (k ≤ 6) && decide (2 ^ k < 2 * n)) = r) :
    Calls Tryd.prog 29 #[refV k A n c C n' c'] w fun e w' => e = .returned (.bool r) ∧ Below w.heap.size w w' := by
  have hbel := below_alloc w (.cells #[.int .i64 (k : Int), .slice A n c, .slice C n' c'] 32)
  obtain ⟨q0, q1, q2⟩ := cells3 w (.int .i64 (k : Int)) (.slice A n c) (.slice C n' c') 32
  have hpow : ∀ j, j ≤ 16 → 2 ^ j ≤ 65536 := fun j hj => Nat.pow_le_pow_right (n := 2) (by omega) hj
  have Hp := Lib.hid hpow
  have Hr := Lib.hid hr
  clear hpow hr
  go_enter Tryd.func29, Tryd.ntmps29
  go_wp2_with fail
  generalize w.alloc _ = W at *
  go_loop [3, 4] (fun x i => ∃ j : Nat, j ≤ k ∧ i = .int .i64 j ∧ x = .int .i64 ((2 ^ j : Nat) : Int)) (fun _ i => k - (intOf i).toNat)
  case atStart => exact ⟨0, Nat.zero_le _, rfl, rfl⟩
  case round =>
    obtain ⟨j, hj, rfl, rfl⟩ := hrel
    have hb := Hp.out j (by omega)
    by_cases hlt : j < k
    · have hs : Hid (2 * 2 ^ j = 2 ^ (j + 1)) := Lib.hid (by rw [Nat.pow_succ]; omega)
      generalize 2 ^ j = P at *
      go_wp2_with fail
      go_round
      case rel => exact ⟨j + 1, by omega, by go_num, by rw [← hs.out]; go_num⟩
      case measure => simp [intOf]; omega
    · have hjk : j = k := by omega
      subst hjk
      have hr2 := Hr.out
      generalize 2 ^ j = P at *
      by_cases c0 : j ≤ 6
      · have e1 : decide (j ≤ 6) = true := decide_eq_true c0
        have e1' : decide ((j : Int) ≤ 6) = true := decide_eq_true (by omega)
        rw [e1, Bool.true_and] at hr2
        have H2 : Hid (decide ((P : Int) < 2 * (n : Int)) = r) := Lib.hid (by rw [← hr2, Bool.eq_iff_iff, decide_eq_true_eq, decide_eq_true_eq]; omega)
        clear hr2 c0 e1
        go_wp2_with fail
        go_ret
        exact ⟨by rw [← H2.out]; rfl, hbel⟩
      · have e1 : decide (j ≤ 6) = false := decide_eq_false c0
        have e1' : decide ((j : Int) ≤ 6) = false := decide_eq_false (by omega)
        rw [e1, Bool.false_and] at hr2
        have H2 := Lib.hid hr2
        clear hr2 c0 e1
        go_wp2_with fail
        go_ret
        exact ⟨by rw [← H2.out]; rfl, hbel⟩

/-! ### Get -/
set_option maxRecDepth 100000 in
theorem rget_c {w : World} {B k : Nat} {A : Option Addr} {c : Nat} {C : Option Addr} {c' : Nat} {L : Al} (h : RefM w B k A c C c' L) (hB : B ≤ w.heap.size) (a : Int) (x : Nat) (r : Bool) (hx : (Sl.get L a).getD 0 = x) (hr : Sl.has L a = r) :
    Calls Tryd.prog 7 #[refV k A L.length c C L.length c', .int .i64 a] w fun e w' => e = .returned (.tuple #[.int .u64 (x : Int), .bool r]) ∧ Below w.heap.size w w' := by
  have hbel := below_alloc w (.cells #[.int .i64 (k : Int), .slice A L.length c, .slice C L.length c'] 32)
  have hq := cells3 w (.int .i64 (k : Int)) (.slice A L.length c) (.slice C L.length c') 32
  obtain ⟨q0, q1, q2⟩ := hq
  have h2 := h.below hbel hB (show B ≤ (w.alloc (.cells #[.int .i64 (k : Int), .slice A L.length c, .slice C L.length c'] 32)).heap.size by simp; omega)
  have HP := rplace5_c h2 (Nat.le_refl _) a
  obtain ⟨wf, l1, l2, hA, hC⟩ := h
  have hlen := wf.len16
  obtain ⟨i, hi⟩ : ∃ i, Sl.idx L a = i := ⟨_, rfl⟩
  rw [hi, hr] at HP
  have HP := Lib.hid HP
  have Hw := Lib.hid (And.intro hC (And.intro wf.srt (And.intro hx (And.intro hr hi))))
  have hws : (w.alloc (.cells #[.int .i64 (k : Int), .slice A L.length c, .slice C L.length c'] 32)).heap.size = w.heap.size + 1 := by simp
  have Hb := Lib.hid hbel
  cases r
  · have hx0 : x = 0 := by
      cases hg : Sl.get L a with
      | none => rw [hg] at hx; exact hx.symm
      | some v => simp [Sl.has, hg] at hr
    subst hx0
    clear hA hC wf hx hr hi h2 hbel
    go_enter Tryd.func7, Tryd.ntmps7
    go_wp2_with (go_at_call 22; refine HP.out.mono ?_; rintro e w2 ⟨rfl, hb2⟩)
    go_ret2
    exact ⟨rfl, Below.andThen Hb.out hb2⟩
  · obtain ⟨v, hg⟩ := Option.isSome_iff_exists.1 hr
    obtain ⟨m, hm, hat⟩ := Sl.get_at wf.srt hg
    rw [hg] at hx
    simp only [Option.getD_some] at hx
    subst hx
    rw [hi] at hat
    have hcell := (hC.at (elV_get (Sl.things_get hat)))
    obtain ⟨qb, qo, hCC, hqb, hcell⟩ := hcell
    subst hCC
    have hlt := lt_get hat
    have k1 : (0 : Int) ≤ (i : Int) := by omega
    have k2 : (i : Int) < (L.length : Int) := by omega
    clear hA hC wf hr hi h2 hg hat hm Hw
    go_enter Tryd.func7, Tryd.ntmps7
    go_wp2_with (go_at_call 22; refine HP.out.mono ?_; rintro e w2 ⟨rfl, hb2⟩; have hq2 := (hb2.cell (p := ⟨w.heap.size, 2, none⟩) (by show w.heap.size < _; rw [hws]; omega)).trans q2; have hc2 := ((Hb.out.trans (hb2.mono (by rw [hws]; omega))).cell (p := ⟨qb, qo + i, none⟩) (by show qb < _; omega)).trans hcell)
    go_ret2
    exact ⟨rfl, Below.andThen Hb.out hb2⟩

/-! ### SameInts -/
set_option maxRecDepth 100000 in
theorem sameInts_c (A C : Option Addr) (c c' : Nat) (us : List Nat) (B : Nat) (w : World) (hA : RdV w B A (intV us)) (hC : RdV w B C (intV us)) (hl : us.length ≤ 65536) :
    Calls Tryd.prog 30 #[.slice A us.length c, .slice C us.length c'] w fun e w' => e = .returned (.bool true) ∧ ∃ n, w' = w.drewN n := by
  have HA := Lib.hid (And.intro hA hC)
  clear hA hC
  have hne : ((us.length : Int) != (us.length : Int)) = false := by simp
  go_enter Tryd.func30, Tryd.ntmps30
  go_wp2_with fail
  go_loopw [5] (fun i wr => ∃ j n : Nat, j ≤ us.length ∧ i = .int .i64 j ∧ wr = w.drewN n) (fun i _ => us.length - (intOf i).toNat)
  case atStart => exact ⟨0, 0, Nat.zero_le _, rfl, rfl⟩
  case round =>
    obtain ⟨j, n, hj, rfl, rfl⟩ := hrel
    by_cases hlt : j < us.length
    · obtain ⟨u, hu⟩ := get_lt hlt
      have hrA := HA.out.1.at (intV_get hu)
      have hrC := HA.out.2.at (intV_get hu)
      obtain ⟨pb, po, hAA, _, hcell⟩ := hrA
      obtain ⟨qb, qo, hCC, _, hcell'⟩ := hrC
      subst hAA hCC
      have k1 : (0 : Int) ≤ (j : Int) := by omega
      have k2 : (j : Int) < (us.length : Int) := by omega
      have e1 : ((u : Int) != (u : Int)) = false := by simp
      clear hu
      go_wp2_with fail
      go_quiet (fail)
      go_wp2_with fail
      go_roundw
      case rel => exact ⟨j + 1, _, by omega, by go_num, rfl⟩
      case measure => simp [intOf]; omega
    · go_wp2_with fail
      go_ret
      exact ⟨rfl, _, rfl⟩
end Go.Proofs.YtdejnkihofhjoaaDoor
