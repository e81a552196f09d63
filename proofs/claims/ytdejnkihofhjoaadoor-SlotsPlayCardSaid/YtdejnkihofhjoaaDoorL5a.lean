/-
  THE CONTRACT of pantilelaw05.even: slots and the document's slots that hold the same are told to be alike, at every address.
-/
import Derived.Test.YtdejnkihofhjoaaDoorRs2
import Derived.Test.YtdejnkihofhjoaaDoorSbu
import Derived.Deep.RegionHeld3
namespace Go.Proofs.YtdejnkihofhjoaaDoor
open Go.ChangeShapes Go.WideShapes Go.ChangeAt Go.RowKit
open Go.Proofs.YtdejnkihofhjoaaDoor.Su

theorem rdV_to {w : World} {B B' : Nat} {A : Option Addr} {xs : List Value} (h : RdV w B A xs) (hB : B ≤ B') : RdV w B' A xs := h.below (Below.refl B' w) hB hB
theorem sameInts_n (A C : Option Addr) (c c' : Nat) (us : List Nat) (n B B' : Nat) (w : World) (hn : us.length = n) (hA : RdV w B A (intV us)) (hC : RdV w B' C (intV us)) (hl : n ≤ 65536) :
    Calls Tryd.prog 30 #[.slice A n c, .slice C n c'] w fun e w' => e = .returned (.bool true) ∧ Below w.heap.size w w' := by
  subst hn
  refine (sameInts_c A C c c' us (max B B') w (rdV_to hA (by omega)) (rdV_to hC (by omega)) hl).mono ?_
  rintro e w' ⟨rfl, n, rfl⟩
  exact ⟨rfl, below_drewN _ (Below.refl _ _)⟩
set_option maxRecDepth 100000 in
theorem rsameE_c (A C : Option Addr) (c c' : Nat) (us : List Nat) (B : Nat) (w : World) (hA : RdV w B A (elV us)) (hC : RdV w B C (elV us)) (hl : us.length ≤ 65536) :
    Calls Tryd.prog 31 #[.slice A us.length c, .slice C us.length c'] w fun e w' => e = .returned (.bool true) ∧ ∃ n, w' = w.drewN n := by
  have HA := Lib.hid (And.intro hA hC)
  clear hA hC
  have hne : ((us.length : Int) != (us.length : Int)) = false := by simp
  go_enter Tryd.func31, Tryd.ntmps31
  go_wp2_with fail
  go_loopw [5] (fun i wr => ∃ j n : Nat, j ≤ us.length ∧ i = .int .i64 j ∧ wr = w.drewN n) (fun i _ => us.length - (intOf i).toNat)
  case atStart => exact ⟨0, 0, Nat.zero_le _, rfl, rfl⟩
  case round =>
    obtain ⟨j, n, hj, rfl, rfl⟩ := hrel
    by_cases hlt : j < us.length
    · obtain ⟨u, hu⟩ := get_lt hlt
      have hrA := HA.out.1.at (elV_get hu)
      have hrC := HA.out.2.at (elV_get hu)
      obtain ⟨pb, po, hAA, _, hcell⟩ := hrA
      obtain ⟨qb, qo, hCC, _, hcell'⟩ := hrC
      subst hAA hCC
      have k1 : (0 : Int) ≤ (j : Int) := by omega
      have k2 : (j : Int) < (us.length : Int) := by omega
      have e1 : ((u : Int) != (u : Int)) = false := by simp
      clear hu
      go_wp2_with fail
      go_quiet (fail)
      go_wp2_with fail
      go_roundw
      case rel => exact ⟨j + 1, _, by omega, by go_num, rfl⟩
      case measure => simp [intOf]; omega
    · go_wp2_with fail
      go_ret
      exact ⟨rfl, _, rfl⟩
theorem rsameE_n (A C : Option Addr) (c c' : Nat) (us : List Nat) (n B B' : Nat) (w : World) (hn : us.length = n) (hA : RdV w B A (elV us)) (hC : RdV w B' C (elV us)) (hl : n ≤ 65536) :
    Calls Tryd.prog 31 #[.slice A n c, .slice C n c'] w fun e w' => e = .returned (.bool true) ∧ Below w.heap.size w w' := by
  subst hn
  refine (rsameE_c A C c c' us (max B B') w (rdV_to hA (by omega)) (rdV_to hC (by omega)) hl).mono ?_
  rintro e w' ⟨rfl, n, rfl⟩
  exact ⟨rfl, below_drewN _ (Below.refl _ _)⟩

/-- slots, the document's slots, a variable that holds them, and the table -/
def Ev (w : World) (b g k : Nat) (A : Option Addr) (c : Nat) (C : Option Addr) (c' : Nat) (L : Al) : Prop :=
  At w w.heap.size b k L ∧ RefM w w.heap.size k A c C c' L ∧ C3 w g (.int .i64 (k : Int)) (.slice A L.length c) (.slice C L.length c') ∧ Tz w ∧ g < w.heap.size
theorem Ev.step {w w' : World} {b g k : Nat} {A : Option Addr} {c : Nat} {C : Option Addr} {c' : Nat} {L : Al} (h : Ev w b g k A c C c' L) (hb : Below w.heap.size w w') : Ev w' b g k A c C c' L := by
  obtain ⟨h1, h2, h3, h4, h5⟩ := h
  have hs := hb.size
  exact ⟨h1.below hb (Nat.le_refl _) hs, h2.below hb (Nat.le_refl _) hs, h3.below hb h5, h4.on hb, by omega⟩
theorem sDense_h {w : World} {B b k : Nat} {L : Al} (h : At w B b k L) {d : Bool} (hd : Sl.dense k L = d) :
    Calls Tryd.prog 19 #[.pointer (some ⟨b, 0, none⟩)] w fun e w' => e = .returned (.bool d) ∧ w = w' := by
  subst hd; exact sDense_c h.2
theorem sPlaces_o {w : World} {b k : Nat} {L : Al} (h : At w w.heap.size b k L) :
    Calls Tryd.prog 20 #[.pointer (some ⟨b, 0, none⟩)] w fun e w' => ∃ D m, e = .returned (.slice D L.length m) ∧ RdV w' w'.heap.size D (intV (Sl.keys L)) ∧ Below w.heap.size w w' := by
  refine (sPlaces_c h.1 h.2 (Nat.le_refl _)).mono ?_
  rintro e w' ⟨v, rfl, ho, hb⟩
  obtain ⟨D, m, rfl, _, hr⟩ := ho.rd
  exact ⟨D, m, by rw [intV_length, Sl.keys_length], hr, hb⟩
theorem sAll_o {w : World} {b k : Nat} {L : Al} (h : At w w.heap.size b k L) :
    Calls Tryd.prog 21 #[.pointer (some ⟨b, 0, none⟩)] w fun e w' => ∃ D m, e = .returned (.slice D L.length m) ∧ RdV w' w'.heap.size D (elV (Sl.things L)) ∧ Below w.heap.size w w' := by
  refine (sAll_c h.1 h.2 (Nat.le_refl _)).mono ?_
  rintro e w' ⟨v, rfl, ho, hb⟩
  obtain ⟨D, m, rfl, _, hr⟩ := ho.rd
  exact ⟨D, m, by rw [elV_length, Sl.things_length], hr, hb⟩
theorem sFrom_n {w : World} {b k : Nat} {L : Al} (h : At w w.heap.size b k L) (hT : Tz w) (a : Int) (hl : -9223372036854775808 ≤ a ∧ a ≤ 9223372036854775807) (i : Nat) (hi : Sl.idx L a = i) (hp : L[i]? = none) :
    Calls Tryd.prog 15 #[.pointer (some ⟨b, 0, none⟩), .int .i64 a] w fun e w' => e = .returned (.tuple #[.int .i64 0, .int .u64 0, .bool false]) ∧ Below w.heap.size w w' := by
  refine (sFrom_c h.1 h.2 hT a hl.1 hl.2).mono ?_
  rintro e w' ⟨rfl, n, rfl⟩
  rw [hi, hp]
  exact ⟨rfl, below_drewN _ (Below.refl _ _)⟩
theorem sFrom_y {w : World} {b k : Nat} {L : Al} (h : At w w.heap.size b k L) (hT : Tz w) (a : Int) (hl : -9223372036854775808 ≤ a ∧ a ≤ 9223372036854775807) (i : Nat) (hi : Sl.idx L a = i) (p q : Nat) (hp : L[i]? = some (p, q)) :
    Calls Tryd.prog 15 #[.pointer (some ⟨b, 0, none⟩), .int .i64 a] w fun e w' => e = .returned (.tuple #[.int .i64 (p : Int), .int .u64 (q : Int), .bool true]) ∧ Below w.heap.size w w' := by
  refine (sFrom_c h.1 h.2 hT a hl.1 hl.2).mono ?_
  rintro e w' ⟨rfl, n, rfl⟩
  rw [hi, hp]
  exact ⟨rfl, below_drewN _ (Below.refl _ _)⟩
theorem sUpTo_n {w : World} {b k : Nat} {L : Al} (h : At w w.heap.size b k L) (a : Int) (hi : Sl.idx L (a + 1) = 0) :
    Calls Tryd.prog 16 #[.pointer (some ⟨b, 0, none⟩), .int .i64 a] w fun e w' => e = .returned (.tuple #[.int .i64 0, .int .u64 0, .bool false]) ∧ Below w.heap.size w w' := by
  refine (sUpTo_c h.1 h.2 a).mono ?_
  rintro e w' ⟨rfl, n, rfl⟩
  rw [show upE L a = none by unfold upE; rw [if_pos hi]]
  exact ⟨rfl, below_drewN _ (Below.refl _ _)⟩
theorem sUpTo_y {w : World} {b k : Nat} {L : Al} (h : At w w.heap.size b k L) (a : Int) (i : Nat) (hi : Sl.idx L (a + 1) = i + 1) (p q : Nat) (hp : L[i]? = some (p, q)) :
    Calls Tryd.prog 16 #[.pointer (some ⟨b, 0, none⟩), .int .i64 a] w fun e w' => e = .returned (.tuple #[.int .i64 (p : Int), .int .u64 (q : Int), .bool true]) ∧ Below w.heap.size w w' := by
  refine (sUpTo_c h.1 h.2 a).mono ?_
  rintro e w' ⟨rfl, n, rfl⟩
  rw [show upE L a = some (p, q) by unfold upE; rw [if_neg (by omega), hi, Nat.add_sub_cancel]; exact hp]
  exact ⟨rfl, below_drewN _ (Below.refl _ _)⟩
set_option maxRecDepth 100000 in
set_option maxHeartbeats 2000000 in
theorem even_c {w : World} {B b k : Nat} {A : Option Addr} {c : Nat} {C : Option Addr} {c' : Nat} {L : Al} (hs : At w B b k L) (hm : RefM w B k A c C c' L) (hB : B ≤ w.heap.size) (hT : Tz w) (a : Int) (hlo : -9223372036854775808 ≤ a) (hhi : a ≤ 9223372036854775807) :
    Calls Tryd.prog 13 #[.pointer (some ⟨b, 0, none⟩), refV k A L.length c C L.length c', .int .i64 a] w fun e w' => e = .returned (.bool true) ∧ Below w.heap.size w w' := by
  have wf := hs.1
  have hlen := wf.len16
  have hk16 := wf.k16
  obtain ⟨d, hd⟩ : ∃ d, Sl.dense k L = d := ⟨_, rfl⟩
  obtain ⟨x, hx⟩ : ∃ x, (Sl.get L a).getD 0 = x := ⟨_, rfl⟩
  obtain ⟨r, hr⟩ : ∃ r, Sl.has L a = r := ⟨_, rfl⟩
  have hbel := below_alloc w (.cells #[.int .i64 (k : Int), .slice A L.length c, .slice C L.length c'] 32)
  have hE : Ev (w.alloc (.cells #[.int .i64 (k : Int), .slice A L.length c, .slice C L.length c'] 32)) b w.heap.size k A c C c' L :=
    ⟨hs.below hbel hB (by simp; omega), hm.below hbel hB (by simp; omega), c3_at (heap_at _ _ _ rfl), hT.on hbel, by simp⟩
  have E0 := Lib.hid (And.intro hE hbel)
  have Hd := Lib.hid hd
  have Hx := Lib.hid (And.intro hx hr)
  have Hw := Lib.hid wf
  have Hl := Lib.hid (And.intro hlo hhi)
  clear hs hm hT wf hd hx hr hbel hE hlo hhi
  go_enter Tryd.func13, Tryd.ntmps13
  go_wp2_with fail
  generalize w.alloc _ = w0 at *
  refine (sGet_c E0.out.1.1.1 E0.out.1.1.2 a x r Hx.out.1 Hx.out.2).mono ?_
  rintro e w1 ⟨rfl, n1, h1⟩
  have hb1 : Below w0.heap.size w0 w1 := by rw [h1]; exact below_drewN _ (Below.refl _ _)
  have E1 := Lib.hid (And.intro (E0.out.1.step hb1) (E0.out.2.trans (hb1.mono E0.out.2.size)))
  obtain ⟨⟨z0, z1, z2⟩, -⟩ := E1.out.1.2.2.1
  clear h1 hb1
  go_wp2_with fail
  refine (rget_c E1.out.1.2.1 (Nat.le_refl _) a x r Hx.out.1 Hx.out.2).mono ?_
  rintro e w2 ⟨rfl, hb2⟩
  have E2 := Lib.hid (And.intro (E1.out.1.step hb2) (E1.out.2.trans (hb2.mono E1.out.2.size)))
  have q0 : ∀ w', Below w2.heap.size w2 w' → w'.cell? ⟨w.heap.size, 0, none⟩ = some (.int .i64 (k : Int)) := fun w' hb => (E2.out.1.step hb).2.2.1.1.1
  have q1 : ∀ w', Below w2.heap.size w2 w' → w'.cell? ⟨w.heap.size, 1, none⟩ = some (.slice A L.length c) := fun w' hb => (E2.out.1.step hb).2.2.1.1.2.1
  have q2 : ∀ w', Below w2.heap.size w2 w' → w'.cell? ⟨w.heap.size, 2, none⟩ = some (.slice C L.length c') := fun w' hb => (E2.out.1.step hb).2.2.1.1.2.2
  have f1 : ((k : Int) != (k : Int)) = false := by simp
  have f2 : ((L.length : Int) != (L.length : Int)) = false := by simp
  have f3 : (d != d) = false := by cases d <;> rfl
  have f4 : (r != r) = false := by cases r <;> rfl
  have f5 : ((x : Int) != (x : Int)) = false := by simp
  clear hb2 z0 z1 z2
  go_wp2_with fail
  go_region_held3 (fun w' => Below w2.heap.size w2 w') (((repeat (first | refine Below.drew ?_ | refine Below.alloc ?_ (by first | omega | (simp; done) | (simp; omega)) _ | refine Below.setCell ?_ (by first | omega | (simp; done) | (simp; omega)) _)); first | exact Below.refl _ _ | assumption | exact below_drewN _ (Below.refl _ _)))
    ((first
      | (go_at_call 17; refine (sK_c (E2.out.1.step (by ((repeat (first | refine Below.drew ?_ | refine Below.alloc ?_ (by first | omega | (simp; done) | (simp; omega)) _ | refine Below.setCell ?_ (by first | omega | (simp; done) | (simp; omega)) _)); first | exact Below.refl _ _ | assumption | exact below_drewN _ (Below.refl _ _)))).1.2).mono ?_; rintro e w' ⟨rfl, rfl⟩)
      | (go_at_call 18; refine (sLen_c (E2.out.1.step (by ((repeat (first | refine Below.drew ?_ | refine Below.alloc ?_ (by first | omega | (simp; done) | (simp; omega)) _ | refine Below.setCell ?_ (by first | omega | (simp; done) | (simp; omega)) _)); first | exact Below.refl _ _ | assumption | exact below_drewN _ (Below.refl _ _)))).1.1 (E2.out.1.step (by ((repeat (first | refine Below.drew ?_ | refine Below.alloc ?_ (by first | omega | (simp; done) | (simp; omega)) _ | refine Below.setCell ?_ (by first | omega | (simp; done) | (simp; omega)) _)); first | exact Below.refl _ _ | assumption | exact below_drewN _ (Below.refl _ _)))).1.2).mono ?_; rintro e w' ⟨rfl, rfl⟩)
      | (go_at_call 19; refine (sDense_h (E2.out.1.step (by ((repeat (first | refine Below.drew ?_ | refine Below.alloc ?_ (by first | omega | (simp; done) | (simp; omega)) _ | refine Below.setCell ?_ (by first | omega | (simp; done) | (simp; omega)) _)); first | exact Below.refl _ _ | assumption | exact below_drewN _ (Below.refl _ _)))).1 Hd.out).mono ?_; rintro e w' ⟨rfl, rfl⟩)
      | (go_at_call 29; refine (rdense_c A L.length c C L.length c' _ hk16 hlen d Hd.out).mono ?_; rintro e w3 ⟨rfl, hb3⟩; have hB3 := Below.andThen (show Below w2.heap.size w2 _ by ((repeat (first | refine Below.drew ?_ | refine Below.alloc ?_ (by first | omega | (simp; done) | (simp; omega)) _ | refine Below.setCell ?_ (by first | omega | (simp; done) | (simp; omega)) _)); first | exact Below.refl _ _ | assumption | exact below_drewN _ (Below.refl _ _))) hb3; clear hb3)
      | (go_at_call 20; refine (sPlaces_o (E2.out.1.step (by ((repeat (first | refine Below.drew ?_ | refine Below.alloc ?_ (by first | omega | (simp; done) | (simp; omega)) _ | refine Below.setCell ?_ (by first | omega | (simp; done) | (simp; omega)) _)); first | exact Below.refl _ _ | assumption | exact below_drewN _ (Below.refl _ _)))).1).mono ?_; rintro e w4 ⟨D4, m4, rfl, hr4, hb4⟩; have hB4 := Below.andThen (show Below w2.heap.size w2 _ by ((repeat (first | refine Below.drew ?_ | refine Below.alloc ?_ (by first | omega | (simp; done) | (simp; omega)) _ | refine Below.setCell ?_ (by first | omega | (simp; done) | (simp; omega)) _)); first | exact Below.refl _ _ | assumption | exact below_drewN _ (Below.refl _ _))) hb4; have R4 := Lib.hid hr4; clear hb4 hr4)
      | (go_at_call 30; refine (sameInts_n D4 A m4 c (Sl.keys L) L.length _ _ _ (Sl.keys_length L) (R4.out.below (C := w4.heap.size) (by ((repeat (first | refine Below.drew ?_ | refine Below.alloc ?_ (by first | omega | (simp; done) | (simp; omega)) _ | refine Below.setCell ?_ (by first | omega | (simp; done) | (simp; omega)) _)); first | exact Below.refl _ _ | assumption | exact below_drewN _ (Below.refl _ _))) (Nat.le_refl _) (Nat.le_refl _)) (E2.out.1.step (by ((repeat (first | refine Below.drew ?_ | refine Below.alloc ?_ (by first | omega | (simp; done) | (simp; omega)) _ | refine Below.setCell ?_ (by first | omega | (simp; done) | (simp; omega)) _)); first | exact Below.refl _ _ | assumption | exact below_drewN _ (Below.refl _ _)))).2.1.2.2.2.1 hlen).mono ?_; rintro e w5 ⟨rfl, hb5⟩; have hB5 := Below.andThen (show Below w2.heap.size w2 _ by ((repeat (first | refine Below.drew ?_ | refine Below.alloc ?_ (by first | omega | (simp; done) | (simp; omega)) _ | refine Below.setCell ?_ (by first | omega | (simp; done) | (simp; omega)) _)); first | exact Below.refl _ _ | assumption | exact below_drewN _ (Below.refl _ _))) hb5; clear hb5)
      | (go_at_call 21; refine (sAll_o (E2.out.1.step (by ((repeat (first | refine Below.drew ?_ | refine Below.alloc ?_ (by first | omega | (simp; done) | (simp; omega)) _ | refine Below.setCell ?_ (by first | omega | (simp; done) | (simp; omega)) _)); first | exact Below.refl _ _ | assumption | exact below_drewN _ (Below.refl _ _)))).1).mono ?_; rintro e w6 ⟨D6, m6, rfl, hr6, hb6⟩; have hB6 := Below.andThen (show Below w2.heap.size w2 _ by ((repeat (first | refine Below.drew ?_ | refine Below.alloc ?_ (by first | omega | (simp; done) | (simp; omega)) _ | refine Below.setCell ?_ (by first | omega | (simp; done) | (simp; omega)) _)); first | exact Below.refl _ _ | assumption | exact below_drewN _ (Below.refl _ _))) hb6; have R6 := Lib.hid hr6; clear hb6 hr6)
      | (go_at_call 31; refine (rsameE_n D6 C m6 c' (Sl.things L) L.length _ _ _ (Sl.things_length L) (R6.out.below (C := w6.heap.size) (by ((repeat (first | refine Below.drew ?_ | refine Below.alloc ?_ (by first | omega | (simp; done) | (simp; omega)) _ | refine Below.setCell ?_ (by first | omega | (simp; done) | (simp; omega)) _)); first | exact Below.refl _ _ | assumption | exact below_drewN _ (Below.refl _ _))) (Nat.le_refl _) (Nat.le_refl _)) (E2.out.1.step (by ((repeat (first | refine Below.drew ?_ | refine Below.alloc ?_ (by first | omega | (simp; done) | (simp; omega)) _ | refine Below.setCell ?_ (by first | omega | (simp; done) | (simp; omega)) _)); first | exact Below.refl _ _ | assumption | exact below_drewN _ (Below.refl _ _)))).2.1.2.2.2.2 hlen).mono ?_; rintro e w7 ⟨rfl, hb7⟩; have hB7 := Below.andThen (show Below w2.heap.size w2 _ by ((repeat (first | refine Below.drew ?_ | refine Below.alloc ?_ (by first | omega | (simp; done) | (simp; omega)) _ | refine Below.setCell ?_ (by first | omega | (simp; done) | (simp; omega)) _)); first | exact Below.refl _ _ | assumption | exact below_drewN _ (Below.refl _ _))) hb7; clear hb7)))
  clear q0 q1 q2 hB3 hB4 hB5 hB6 f1 f3 f4 f5
  have E7 := Lib.hid (And.intro (E2.out.1.step hB7) (E2.out.2.trans (hB7.mono E2.out.2.size)))
  clear hB7 R4 R6
  obtain ⟨i, hi⟩ : ∃ i, Sl.idx L a = i := ⟨_, rfl⟩
  have hle := Sl.idx_le L a
  rw [hi] at hle
  have Hi := Lib.hid hi
  obtain ⟨J, hJ⟩ : ∃ J, Sl.idx L (a + 1) = J := ⟨_, rfl⟩
  have hJle := Sl.idx_le L (a + 1)
  rw [hJ] at hJle
  have HJ := Lib.hid hJ
  have hwr : IntKind.i64.wrap ((L.length : Int) - 1) = (L.length : Int) - 1 := IntWalk.i64_in _ (by omega)
  clear hi hJ
  rcases hF : L[i]? with _ | ⟨p, v⟩
  · have hge : L.length ≤ i := List.getElem?_eq_none_iff.1 hF
    have HF := Lib.hid hF
    clear hF
    go_wp2_with fail
    refine (sFrom_n E7.out.1.1 E7.out.1.2.2.2.1 a Hl.out i Hi.out HF.out).mono ?_
    rintro e w8 ⟨rfl, hb8⟩
    have E8 := Lib.hid (And.intro (E7.out.1.step hb8) (E7.out.2.trans (hb8.mono E7.out.2.size)))
    have H8 := Lib.hid (And.intro E8.out.1.2.1.2.2.2.1 E8.out.1.2.1.2.2.2.2)
    obtain ⟨⟨z0, z1, z2⟩, -⟩ := E8.out.1.2.2.1
    clear hb8
    go_wp2_with fail
    go_loop [14] (fun x => ∃ j : Nat, j ≤ i ∧ x = .int .i64 j) (fun x => i - (intOf x).toNat)
    case atStart => exact ⟨0, Nat.zero_le _, rfl⟩
    case round =>
      obtain ⟨j, hj, rfl⟩ := hrel
      by_cases hlt : j < i
      · have hjL : j < L.length := by omega
        obtain ⟨q, hq⟩ := get_lt hjL
        have hb := Sl.idx_below L a j q (by rw [Hi.out]; exact hlt) hq
        obtain ⟨pb, po, hAA, hpb, hcell⟩ := H8.out.1.at (intV_get (Sl.keys_get hq))
        cases hAA
        have e1 : decide (j < L.length) = true := decide_eq_true hjL
        have e2 : decide ((j : Int) < (L.length : Int)) = true := decide_eq_true (by omega)
        have e3 : decide ((q.1 : Int) < a) = true := decide_eq_true hb
        have k1 : (0 : Int) ≤ (j : Int) := by omega
        have k2 : (j : Int) < (L.length : Int) := by omega
        clear hb hq
        go_wp2_with fail
        go_round
        case rel => exact ⟨j + 1, by omega, by go_num⟩
        case measure => simp [intOf]; omega
      · obtain rfl : j = i := by omega
        have e1 : decide (j < L.length) = false := decide_eq_false (by omega)
        have e2 : decide ((j : Int) < (L.length : Int)) = false := decide_eq_false (by omega)
        go_wp2_with fail
        rcases Nat.eq_zero_or_pos J with hJ0 | hJ0
        · obtain rfl : J = 0 := hJ0
          go_wp2_with fail
          refine (sUpTo_n E8.out.1.1 a HJ.out).mono ?_
          rintro e w9 ⟨rfl, hb9⟩
          have E9 := Lib.hid (And.intro (E8.out.1.step hb9) (E8.out.2.trans (hb9.mono E8.out.2.size)))
          have H9 := Lib.hid (And.intro E9.out.1.2.1.2.2.2.1 E9.out.1.2.1.2.2.2.2)
          obtain ⟨⟨y0, y1, y2⟩, -⟩ := E9.out.1.2.2.1
          clear hb9 z0 z1 z2
          go_wp2_with fail
          go_loop [18] (fun x => ∃ j : Nat, 0 ≤ j ∧ j ≤ L.length ∧ x = .int .i64 ((j : Int) - 1)) (fun x => (intOf x + 1).toNat - (0))
          case atStart => exact ⟨L.length, hJle, Nat.le_refl _, rfl⟩
          case round =>
            obtain ⟨j, hj1, hj2, rfl⟩ := hrel
            by_cases hlt : 0 < j
            · obtain ⟨j', hj'⟩ : ∃ j', j = j' + 1 := ⟨j - 1, by omega⟩
              subst hj'
              have e0 : ((j' + 1 : Nat) : Int) - 1 = (j' : Int) := by omega
              simp only [e0]
              obtain ⟨q, hq⟩ := get_lt (show j' < L.length by omega)
              have hab := Sl.idx_above Hw.out.srt (a + 1) (j := j') (by rw [HJ.out]; omega) hq
              obtain ⟨pb, po, hAA, hpb, hcell⟩ := H9.out.1.at (intV_get (Sl.keys_get hq))
              cases hAA
              have x1 : decide ((0 : Int) ≤ (j' : Int)) = true := decide_eq_true (by omega)
              have x2 : decide (a < (q.1 : Int)) = true := decide_eq_true (by omega)
              have k1 : (0 : Int) ≤ (j' : Int) := by omega
              have k2 : (j' : Int) < (L.length : Int) := by omega
              clear hab hq e0
              go_wp2_with fail
              go_round
              case rel => exact ⟨j', by omega, by omega, by go_num⟩
              case measure => simp [intOf] <;> omega
            · obtain rfl : j = 0 := by omega
              have x1 : decide ((0 : Int) ≤ ((0 : Nat) : Int) - 1) = false := by decide
              go_wp2_with fail
              go_ret
              exact ⟨rfl, E9.out.2⟩
        · obtain ⟨J', hJ1⟩ : ∃ J', J = J' + 1 := ⟨J - 1, by omega⟩
          subst hJ1
          obtain ⟨⟨p2, u2⟩, hp2⟩ := get_lt (show J' < L.length by omega)
          have hlow := Sl.idx_below L (a + 1) J' _ (by rw [HJ.out]; omega) hp2
          have x3 : decide (a < (p2 : Int)) = false := decide_eq_false (by simp only at hlow; omega)
          have Hp2 := Lib.hid hp2
          clear hp2 hlow
          go_wp2_with fail
          refine (sUpTo_y E8.out.1.1 a J' HJ.out p2 u2 Hp2.out).mono ?_
          rintro e w9 ⟨rfl, hb9⟩
          have E9 := Lib.hid (And.intro (E8.out.1.step hb9) (E8.out.2.trans (hb9.mono E8.out.2.size)))
          have H9 := Lib.hid (And.intro E9.out.1.2.1.2.2.2.1 E9.out.1.2.1.2.2.2.2)
          obtain ⟨⟨y0, y1, y2⟩, -⟩ := E9.out.1.2.2.1
          clear hb9 z0 z1 z2
          go_wp2_with fail
          go_loop [18] (fun x => ∃ j : Nat, J' + 1 ≤ j ∧ j ≤ L.length ∧ x = .int .i64 ((j : Int) - 1)) (fun x => (intOf x + 1).toNat - (J' + 1))
          case atStart => exact ⟨L.length, hJle, Nat.le_refl _, rfl⟩
          case round =>
            obtain ⟨j, hj1, hj2, rfl⟩ := hrel
            by_cases hlt : J' + 1 < j
            · obtain ⟨j', hj'⟩ : ∃ j', j = j' + 1 := ⟨j - 1, by omega⟩
              subst hj'
              have e0 : ((j' + 1 : Nat) : Int) - 1 = (j' : Int) := by omega
              simp only [e0]
              obtain ⟨q, hq⟩ := get_lt (show j' < L.length by omega)
              have hab := Sl.idx_above Hw.out.srt (a + 1) (j := j') (by rw [HJ.out]; omega) hq
              obtain ⟨pb, po, hAA, hpb, hcell⟩ := H9.out.1.at (intV_get (Sl.keys_get hq))
              cases hAA
              have x1 : decide ((0 : Int) ≤ (j' : Int)) = true := decide_eq_true (by omega)
              have x2 : decide (a < (q.1 : Int)) = true := decide_eq_true (by omega)
              have k1 : (0 : Int) ≤ (j' : Int) := by omega
              have k2 : (j' : Int) < (L.length : Int) := by omega
              clear hab hq e0
              go_wp2_with fail
              go_round
              case rel => exact ⟨j', by omega, by omega, by go_num⟩
              case measure => simp [intOf] <;> omega
            · obtain rfl : j = J' + 1 := by omega
              have e0 : ((J' + 1 : Nat) : Int) - 1 = (J' : Int) := by omega
              simp only [e0]
              obtain ⟨pb, po, hAA, hpb, hcell⟩ := H9.out.1.at (intV_get (Sl.keys_get Hp2.out))
              obtain ⟨qb, qo, hCC, hqb, hcell'⟩ := H9.out.2.at (elV_get (Sl.things_get Hp2.out))
              cases hAA; cases hCC
              have x1 : decide ((0 : Int) ≤ (J' : Int)) = true := decide_eq_true (by omega)
              have x4 : ((p2 : Int) == (p2 : Int)) = true := by simp
              have x5 : ((u2 : Int) == (u2 : Int)) = true := by simp
              have k1 : (0 : Int) ≤ (J' : Int) := by omega
              have k2 : (J' : Int) < (L.length : Int) := by omega
              go_wp2_with fail
              go_ret
              exact ⟨rfl, E9.out.2⟩
  · have hlt0 : i < L.length := lt_get hF
    have hat := Sl.idx_at L a _ (by rw [Hi.out]; exact hF)
    have x0 : decide ((p : Int) < a) = false := decide_eq_false (by simp only at hat; omega)
    have HF := Lib.hid hF
    clear hF hat
    go_wp2_with fail
    refine (sFrom_y E7.out.1.1 E7.out.1.2.2.2.1 a Hl.out i Hi.out p v HF.out).mono ?_
    rintro e w8 ⟨rfl, hb8⟩
    have E8 := Lib.hid (And.intro (E7.out.1.step hb8) (E7.out.2.trans (hb8.mono E7.out.2.size)))
    have H8 := Lib.hid (And.intro E8.out.1.2.1.2.2.2.1 E8.out.1.2.1.2.2.2.2)
    obtain ⟨⟨z0, z1, z2⟩, -⟩ := E8.out.1.2.2.1
    clear hb8
    go_wp2_with fail
    go_loop [14] (fun x => ∃ j : Nat, j ≤ i ∧ x = .int .i64 j) (fun x => i - (intOf x).toNat)
    case atStart => exact ⟨0, Nat.zero_le _, rfl⟩
    case round =>
      obtain ⟨j, hj, rfl⟩ := hrel
      by_cases hlt : j < i
      · have hjL : j < L.length := by omega
        obtain ⟨q, hq⟩ := get_lt hjL
        have hb := Sl.idx_below L a j q (by rw [Hi.out]; exact hlt) hq
        obtain ⟨pb, po, hAA, hpb, hcell⟩ := H8.out.1.at (intV_get (Sl.keys_get hq))
        cases hAA
        have e1 : decide (j < L.length) = true := decide_eq_true hjL
        have e2 : decide ((j : Int) < (L.length : Int)) = true := decide_eq_true (by omega)
        have e3 : decide ((q.1 : Int) < a) = true := decide_eq_true hb
        have k1 : (0 : Int) ≤ (j : Int) := by omega
        have k2 : (j : Int) < (L.length : Int) := by omega
        clear hb hq
        go_wp2_with fail
        go_round
        case rel => exact ⟨j + 1, by omega, by go_num⟩
        case measure => simp [intOf]; omega
      · obtain rfl : j = i := by omega
        obtain ⟨pb, po, hAA, hpb, hcell⟩ := H8.out.1.at (intV_get (Sl.keys_get HF.out))
        obtain ⟨qb, qo, hCC, hqb, hcell'⟩ := H8.out.2.at (elV_get (Sl.things_get HF.out))
        cases hAA; cases hCC
        have e1 : decide (j < L.length) = true := decide_eq_true (by omega)
        have e2 : decide ((j : Int) < (L.length : Int)) = true := decide_eq_true (by omega)
        have e4 : ((p : Int) != (p : Int)) = false := by simp
        have e5 : ((v : Int) != (v : Int)) = false := by simp
        have k1 : (0 : Int) ≤ (j : Int) := by omega
        have k2 : (j : Int) < (L.length : Int) := by omega
        go_wp2_with fail
        rcases Nat.eq_zero_or_pos J with hJ0 | hJ0
        · obtain rfl : J = 0 := hJ0
          go_wp2_with fail
          refine (sUpTo_n E8.out.1.1 a HJ.out).mono ?_
          rintro e w9 ⟨rfl, hb9⟩
          have E9 := Lib.hid (And.intro (E8.out.1.step hb9) (E8.out.2.trans (hb9.mono E8.out.2.size)))
          have H9 := Lib.hid (And.intro E9.out.1.2.1.2.2.2.1 E9.out.1.2.1.2.2.2.2)
          obtain ⟨⟨y0, y1, y2⟩, -⟩ := E9.out.1.2.2.1
          clear hb9 z0 z1 z2
          go_wp2_with fail
          go_loop [18] (fun x => ∃ j : Nat, 0 ≤ j ∧ j ≤ L.length ∧ x = .int .i64 ((j : Int) - 1)) (fun x => (intOf x + 1).toNat - (0))
          case atStart => exact ⟨L.length, hJle, Nat.le_refl _, rfl⟩
          case round =>
            obtain ⟨j, hj1, hj2, rfl⟩ := hrel
            by_cases hlt : 0 < j
            · obtain ⟨j', hj'⟩ : ∃ j', j = j' + 1 := ⟨j - 1, by omega⟩
              subst hj'
              have e0 : ((j' + 1 : Nat) : Int) - 1 = (j' : Int) := by omega
              simp only [e0]
              obtain ⟨q, hq⟩ := get_lt (show j' < L.length by omega)
              have hab := Sl.idx_above Hw.out.srt (a + 1) (j := j') (by rw [HJ.out]; omega) hq
              obtain ⟨pb, po, hAA, hpb, hcell⟩ := H9.out.1.at (intV_get (Sl.keys_get hq))
              cases hAA
              have x1 : decide ((0 : Int) ≤ (j' : Int)) = true := decide_eq_true (by omega)
              have x2 : decide (a < (q.1 : Int)) = true := decide_eq_true (by omega)
              have k1 : (0 : Int) ≤ (j' : Int) := by omega
              have k2 : (j' : Int) < (L.length : Int) := by omega
              clear hab hq e0
              go_wp2_with fail
              go_round
              case rel => exact ⟨j', by omega, by omega, by go_num⟩
              case measure => simp [intOf] <;> omega
            · obtain rfl : j = 0 := by omega
              have x1 : decide ((0 : Int) ≤ ((0 : Nat) : Int) - 1) = false := by decide
              go_wp2_with fail
              go_ret
              exact ⟨rfl, E9.out.2⟩
        · obtain ⟨J', hJ1⟩ : ∃ J', J = J' + 1 := ⟨J - 1, by omega⟩
          subst hJ1
          obtain ⟨⟨p2, u2⟩, hp2⟩ := get_lt (show J' < L.length by omega)
          have hlow := Sl.idx_below L (a + 1) J' _ (by rw [HJ.out]; omega) hp2
          have x3 : decide (a < (p2 : Int)) = false := decide_eq_false (by simp only at hlow; omega)
          have Hp2 := Lib.hid hp2
          clear hp2 hlow
          go_wp2_with fail
          refine (sUpTo_y E8.out.1.1 a J' HJ.out p2 u2 Hp2.out).mono ?_
          rintro e w9 ⟨rfl, hb9⟩
          have E9 := Lib.hid (And.intro (E8.out.1.step hb9) (E8.out.2.trans (hb9.mono E8.out.2.size)))
          have H9 := Lib.hid (And.intro E9.out.1.2.1.2.2.2.1 E9.out.1.2.1.2.2.2.2)
          obtain ⟨⟨y0, y1, y2⟩, -⟩ := E9.out.1.2.2.1
          clear hb9 z0 z1 z2
          go_wp2_with fail
          go_loop [18] (fun x => ∃ j : Nat, J' + 1 ≤ j ∧ j ≤ L.length ∧ x = .int .i64 ((j : Int) - 1)) (fun x => (intOf x + 1).toNat - (J' + 1))
          case atStart => exact ⟨L.length, hJle, Nat.le_refl _, rfl⟩
          case round =>
            obtain ⟨j, hj1, hj2, rfl⟩ := hrel
            by_cases hlt : J' + 1 < j
            · obtain ⟨j', hj'⟩ : ∃ j', j = j' + 1 := ⟨j - 1, by omega⟩
              subst hj'
              have e0 : ((j' + 1 : Nat) : Int) - 1 = (j' : Int) := by omega
              simp only [e0]
              obtain ⟨q, hq⟩ := get_lt (show j' < L.length by omega)
              have hab := Sl.idx_above Hw.out.srt (a + 1) (j := j') (by rw [HJ.out]; omega) hq
              obtain ⟨pb, po, hAA, hpb, hcell⟩ := H9.out.1.at (intV_get (Sl.keys_get hq))
              cases hAA
              have x1 : decide ((0 : Int) ≤ (j' : Int)) = true := decide_eq_true (by omega)
              have x2 : decide (a < (q.1 : Int)) = true := decide_eq_true (by omega)
              have k1 : (0 : Int) ≤ (j' : Int) := by omega
              have k2 : (j' : Int) < (L.length : Int) := by omega
              clear hab hq e0
              go_wp2_with fail
              go_round
              case rel => exact ⟨j', by omega, by omega, by go_num⟩
              case measure => simp [intOf] <;> omega
            · obtain rfl : j = J' + 1 := by omega
              have e0 : ((J' + 1 : Nat) : Int) - 1 = (J' : Int) := by omega
              simp only [e0]
              obtain ⟨pb, po, hAA, hpb, hcell⟩ := H9.out.1.at (intV_get (Sl.keys_get Hp2.out))
              obtain ⟨qb, qo, hCC, hqb, hcell'⟩ := H9.out.2.at (elV_get (Sl.things_get Hp2.out))
              cases hAA; cases hCC
              have x1 : decide ((0 : Int) ≤ (J' : Int)) = true := decide_eq_true (by omega)
              have x4 : ((p2 : Int) == (p2 : Int)) = true := by simp
              have x5 : ((u2 : Int) == (u2 : Int)) = true := by simp
              have k1 : (0 : Int) ≤ (J' : Int) := by omega
              have k2 : (J' : Int) < (L.length : Int) := by omega
              go_wp2_with fail
              go_ret
              exact ⟨rfl, E9.out.2⟩
end Go.Proofs.YtdejnkihofhjoaaDoor
