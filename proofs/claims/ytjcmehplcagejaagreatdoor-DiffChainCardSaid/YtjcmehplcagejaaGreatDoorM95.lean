import Derived.Test.YtjcmehplcagejaaGreatDoorM94
import Derived.Test.YtjcmehplcagejaaGreatDoorM16
import Derived.Test.YtjcmehplcagejaaGreatDoorM27
/-
  DIFF: lists of changes that can be read (Chs); pantileref12.Same.
-/
namespace Go.Proofs.YtjcmehplcagejaaGreatDoor
open Go.ChangeShapes Go.WideShapes Go.ChangeAt Go.RowKit
open Tr (T S4 Ent Sd Fl Chg)

/-- a list of changes that can be read -/
def Chs (w : World) (A : Option Addr) (L : List Chg) : Prop :=
  L ≠ [] → ∃ b off, A = some ⟨b, off, none⟩ ∧ b < w.heap.size ∧ ∀ (i : Nat) (c : Chg), L[i]? = some c → ∃ P n, w.cell? ⟨b, off + i * 5, none⟩ = some (.slice P c.1.length n) ∧ w.cell? ⟨b, off + i * 5 + 1, none⟩ = some (.bool c.2.1.isSome) ∧ w.cell? ⟨b, off + i * 5 + 2, none⟩ = some (.bool c.2.2.isSome) ∧
    w.cell? ⟨b, off + i * 5 + 3, none⟩ = some (.int .u64 ((c.2.1.getD 0 : Nat) : Int)) ∧ w.cell? ⟨b, off + i * 5 + 4, none⟩ = some (.int .u64 ((c.2.2.getD 0 : Nat) : Int)) ∧ Pts w w.heap.size P c.1 ∧ c.1.length ≤ maxLen ∧ c.2.1.getD 0 < 18446744073709551616 ∧ c.2.2.getD 0 < 18446744073709551616
theorem Chs.below {w w' : World} {A : Option Addr} {L : List Chg} (h : Chs w A L) (hb : Below w.heap.size w w') : Chs w' A L := by
  intro hn
  obtain ⟨b, off, hA, hbl, hc⟩ := h hn
  refine ⟨b, off, hA, Nat.lt_of_lt_of_le hbl hb.size, fun i c hi => ?_⟩
  obtain ⟨P, n, h0, h1, h2, h3, h4, h5, h6⟩ := hc i c hi
  exact ⟨P, n, (hb.cell (p := ⟨b, _, none⟩) hbl).trans h0, (hb.cell (p := ⟨b, _, none⟩) hbl).trans h1, (hb.cell (p := ⟨b, _, none⟩) hbl).trans h2, (hb.cell (p := ⟨b, _, none⟩) hbl).trans h3, (hb.cell (p := ⟨b, _, none⟩) hbl).trans h4,
    (h5.below' hb (Nat.le_refl _)).keep hb.size (fun _ _ => rfl), h6⟩
theorem Chs.nil (w : World) (A : Option Addr) : Chs w A [] := fun h => absurd rfl h
theorem Chs.at {w : World} {A : Option Addr} {L : List Chg} (h : Chs w A L) {i : Nat} {c : Chg} (hi : L[i]? = some c) : ∃ b off P n, A = some ⟨b, off, none⟩ ∧ b < w.heap.size ∧ w.cell? ⟨b, off + i * 5, none⟩ = some (.slice P c.1.length n) ∧ w.cell? ⟨b, off + i * 5 + 1, none⟩ = some (.bool c.2.1.isSome) ∧ w.cell? ⟨b, off + i * 5 + 2, none⟩ = some (.bool c.2.2.isSome) ∧
    w.cell? ⟨b, off + i * 5 + 3, none⟩ = some (.int .u64 ((c.2.1.getD 0 : Nat) : Int)) ∧ w.cell? ⟨b, off + i * 5 + 4, none⟩ = some (.int .u64 ((c.2.2.getD 0 : Nat) : Int)) ∧ Pts w w.heap.size P c.1 ∧ c.1.length ≤ maxLen ∧ c.2.1.getD 0 < 18446744073709551616 ∧ c.2.2.getD 0 < 18446744073709551616 := by
  obtain ⟨b, off, hA, hbl, hc⟩ := h (by rintro rfl; simp at hi)
  obtain ⟨P, n, hh⟩ := hc i c hi
  exact ⟨b, off, P, n, hA, hbl, hh⟩
theorem chG_own {w : World} {G : Nat → Prop} {base : Nat} {A : Option Addr} {c m : Nat} {L : List Chg} (h : OwnL 75 5 (ChG w G) w base (.slice A m c) L) : Chs w A L := by
  obtain ⟨A', c', hv, -, hl⟩ := OwnL.rd (chG_ok _ _) h
  simp only [Value.slice.injEq] at hv
  obtain ⟨rfl, -, -⟩ := hv
  intro hn
  obtain ⟨b, off, hA, hbl, hc⟩ := hl hn
  refine ⟨b, off, hA, hbl, fun i c hi => ?_⟩
  obtain ⟨P, n, h0, h1, h2, h3, h4, h5, h6⟩ := hc i c hi
  exact ⟨P, n, h0, h1, h2, h3, h4, h5.pts, h6⟩
theorem NewC.chs {base : Nat} {w : World} {A : Option Addr} {c : Nat} {L : List Chg} (h : NewC base w A c L) : Chs w A L := chG_own h
set_option maxRecDepth 1000000 in
set_option maxHeartbeats 8000000 in
theorem rsame12_c {w : World} {L : List Chg} {A A' : Option Addr} {c c' n : Nat} (h : Chs w A L) (h' : Chs w A' L) (hn : L.length = n) (hl : n ≤ 100000000) :
    Calls Tryz.prog 35 #[.slice A n c, .slice A' n c'] w fun e w' => e = .returned (.bool true) ∧ Below w.heap.size w w' := by
  have HX := Lib.hid (And.intro h (And.intro h' hn))
  have n1 : ((n : Int) != (n : Int)) = false := by simp
  have hn9 : (n : Int) ≤ 100000000 := by omega
  clear h h' hn hl
  go_enter Tryz.func35, Tryz.ntmps35
  go_wp2_with fail
  go_loopw [5] (fun i wr => ∃ j : Nat, j ≤ n ∧ i = .int .i64 (j : Int) ∧ Below w.heap.size w wr) (fun i _ => n - (intOf i).toNat)
  case atStart => exact ⟨0, Nat.zero_le _, rfl, Below.refl _ _⟩
  case round =>
    obtain ⟨j, hj, rfl, hbr⟩ := hrel
    have HB := Lib.hid hbr
    by_cases hlt : j < n
    · obtain ⟨y, hy⟩ := get_lt (us := L) (k := j) (by rw [HX.out.2.2]; exact hlt)
      obtain ⟨b, off, P, pc, hA, hb, e0, e1, e2, e3, e4, pp, pl, -⟩ := (HX.out.1.below hbr).at hy
      obtain ⟨b2, off2, P2, pc2, hA2, hb2, g0, g1, g2, g3, g4, pp2, -, -⟩ := (HX.out.2.1.below hbr).at hy
      subst hA hA2
      obtain ⟨s1, hs1⟩ : ∃ s, y.2.1.isSome = s := ⟨_, rfl⟩
      obtain ⟨s2, hs2⟩ : ∃ s, y.2.2.isSome = s := ⟨_, rfl⟩
      obtain ⟨v1, hv1⟩ : ∃ v, y.2.1.getD 0 = v := ⟨_, rfl⟩
      obtain ⟨v2, hv2⟩ : ∃ v, y.2.2.getD 0 = v := ⟨_, rfl⟩
      obtain ⟨m, hm⟩ : ∃ m, y.1.length = m := ⟨_, rfl⟩
      rw [hm] at e0 g0
      rw [hs1] at e1 g1
      rw [hs2] at e2 g2
      rw [hv1] at e3 g3
      rw [hv2] at e4 g4
      have q1 : (s1 != s1) = false := by simp
      have q2 : (s2 != s2) = false := by simp
      have q3 : ((v1 : Int) != (v1 : Int)) = false := by simp
      have q4 : ((v2 : Int) != (v2 : Int)) = false := by simp
      have f1 : decide ((j : Int) < (n : Int)) = true := decide_eq_true (by omega)
      have f1' : decide (j < n) = true := decide_eq_true hlt
      have m1 : (0 : Int) ≤ (j : Int) := by omega
      have m2 : (j : Int) < (n : Int) := by omega
      have m3 : (j : Int) ≤ 100000000 := by omega
      have HC : Hid (∀ w1, Below wr.heap.size wr w1 → Calls Tryz.prog 40 #[.slice P m pc, .slice P2 m pc2] w1 fun e w' => e = .returned (.bool true) ∧ Below w1.heap.size w1 w') := Lib.hid fun w1 hb1 => by
        have hh := rsame_self P P2 pc pc2 y.1 wr.heap.size w1 (pp.below' hb1 (Nat.le_refl _)) (pp2.below' hb1 (Nat.le_refl _)) hb1.size pl
        rw [hm] at hh
        exact hh
      have a0 : ∀ w', Below wr.heap.size wr w' → w'.cell? ⟨b, off + j * 5, none⟩ = some (.slice P m pc) := fun w' h => (h.cell (p := ⟨b, off + j * 5, none⟩) hb).trans e0
      have a1 : ∀ w', Below wr.heap.size wr w' → w'.cell? ⟨b, off + j * 5 + 1, none⟩ = some (.bool s1) := fun w' h => (h.cell (p := ⟨b, off + j * 5 + 1, none⟩) hb).trans e1
      have a2 : ∀ w', Below wr.heap.size wr w' → w'.cell? ⟨b, off + j * 5 + 2, none⟩ = some (.bool s2) := fun w' h => (h.cell (p := ⟨b, off + j * 5 + 2, none⟩) hb).trans e2
      have a3 : ∀ w', Below wr.heap.size wr w' → w'.cell? ⟨b, off + j * 5 + 3, none⟩ = some (.int .u64 (v1 : Int)) := fun w' h => (h.cell (p := ⟨b, off + j * 5 + 3, none⟩) hb).trans e3
      have a4 : ∀ w', Below wr.heap.size wr w' → w'.cell? ⟨b, off + j * 5 + 4, none⟩ = some (.int .u64 (v2 : Int)) := fun w' h => (h.cell (p := ⟨b, off + j * 5 + 4, none⟩) hb).trans e4
      have h0 : ∀ w', Below wr.heap.size wr w' → w'.cell? ⟨b2, off2 + j * 5, none⟩ = some (.slice P2 m pc2) := fun w' h => (h.cell (p := ⟨b2, off2 + j * 5, none⟩) hb2).trans g0
      have h1 : ∀ w', Below wr.heap.size wr w' → w'.cell? ⟨b2, off2 + j * 5 + 1, none⟩ = some (.bool s1) := fun w' h => (h.cell (p := ⟨b2, off2 + j * 5 + 1, none⟩) hb2).trans g1
      have h2 : ∀ w', Below wr.heap.size wr w' → w'.cell? ⟨b2, off2 + j * 5 + 2, none⟩ = some (.bool s2) := fun w' h => (h.cell (p := ⟨b2, off2 + j * 5 + 2, none⟩) hb2).trans g2
      have h3 : ∀ w', Below wr.heap.size wr w' → w'.cell? ⟨b2, off2 + j * 5 + 3, none⟩ = some (.int .u64 (v1 : Int)) := fun w' h => (h.cell (p := ⟨b2, off2 + j * 5 + 3, none⟩) hb2).trans g3
      have h4 : ∀ w', Below wr.heap.size wr w' → w'.cell? ⟨b2, off2 + j * 5 + 4, none⟩ = some (.int .u64 (v2 : Int)) := fun w' h => (h.cell (p := ⟨b2, off2 + j * 5 + 4, none⟩) hb2).trans g4
      have hb0 : Below wr.heap.size wr wr := Below.refl _ _
      clear hy pp pp2 pl hbr hs1 hs2 hv1 hv2 hm hlt hj e0 e1 e2 e3 e4 g0 g1 g2 g3 g4
      go_wp2_with fail
      go_region_held3 (fun w' => Below wr.heap.size wr w') (((repeat (first | refine Below.drew ?_ | (with_reducible refine below_drewN _ ?_) | refine Below.alloc ?_ (by first | omega | (simp; done) | (simp; omega)) _ | refine Below.setCell ?_ (by first | omega | (simp; done) | (simp; omega)) _)); first | exact Below.refl _ _ | assumption | exact below_drewN _ (Below.refl _ _) | exact below_drewN _ (below_drewN _ (Below.refl _ _))))
        ((go_at_call 40; refine (HC.out _ (show Below wr.heap.size wr _ by ((repeat (first | refine Below.drew ?_ | (with_reducible refine below_drewN _ ?_) | refine Below.alloc ?_ (by first | omega | (simp; done) | (simp; omega)) _ | refine Below.setCell ?_ (by first | omega | (simp; done) | (simp; omega)) _)); first | exact Below.refl _ _ | assumption | exact below_drewN _ (Below.refl _ _) | exact below_drewN _ (below_drewN _ (Below.refl _ _))))).mono ?_; rintro e w2 ⟨rfl, hb2⟩; have hbD := Below.trans (show Below wr.heap.size wr _ by ((repeat (first | refine Below.drew ?_ | (with_reducible refine below_drewN _ ?_) | refine Below.alloc ?_ (by first | omega | (simp; done) | (simp; omega)) _ | refine Below.setCell ?_ (by first | omega | (simp; done) | (simp; omega)) _)); first | exact Below.refl _ _ | assumption | exact below_drewN _ (Below.refl _ _) | exact below_drewN _ (below_drewN _ (Below.refl _ _)))) (hb2.mono (Below.size (show Below wr.heap.size wr _ by ((repeat (first | refine Below.drew ?_ | (with_reducible refine below_drewN _ ?_) | refine Below.alloc ?_ (by first | omega | (simp; done) | (simp; omega)) _ | refine Below.setCell ?_ (by first | omega | (simp; done) | (simp; omega)) _)); first | exact Below.refl _ _ | assumption | exact below_drewN _ (Below.refl _ _) | exact below_drewN _ (below_drewN _ (Below.refl _ _)))))); clear hb2))
      clear a0 a1 a2 a3 a4 h0 h1 h2 h3 h4
      go_wp2_with fail
      go_roundw
      case rel => exact ⟨j + 1, by omega, by first | rfl | go_num, HB.out.trans (hbD.mono HB.out.size)⟩
      case measure => simp [intOf]; omega
    · go_wp2_with fail
      go_ret
      exact ⟨rfl, HB.out⟩
end Go.Proofs.YtjcmehplcagejaaGreatDoor

/-
  DIFF: awake of law 12; the law DiffNil.
-/
namespace Go.Proofs.YtjcmehplcagejaaGreatDoor
open Go.ChangeShapes Go.WideShapes Go.ChangeAt Go.RowKit
open Tr (T S4 Ent Sd Fl Chg)

def chEx : List Chg := [([4, 0], some 3, some 5), ([7, 3], none, some 1)]
theorem chEx_eq : Tr.chL (Tr.putE [4, 0] 3 []) (Tr.putE [7, 3] 1 (Tr.putE [4, 0] 5 [])) = chEx := by decide +kernel
theorem ch_row (w : World) : Chs (((w.alloc (.cells #[.int .u64 4, .int .u64 0] 46)).alloc (.cells #[.int .u64 7, .int .u64 3] 46)).alloc (.cells #[.slice (some ⟨w.heap.size, 0, none⟩) 2 2, .bool true, .bool true, .int .u64 3, .int .u64 5, .slice (some ⟨w.heap.size + 1, 0, none⟩) 2 2, .bool false, .bool true, .int .u64 0, .int .u64 1] 75)) (some ⟨w.heap.size + 1 + 1, 0, none⟩) chEx := by
  have b1 := below_alloc w (.cells #[.int .u64 4, .int .u64 0] 46)
  have b2 := below_alloc (w.alloc (.cells #[.int .u64 4, .int .u64 0] 46)) (.cells #[.int .u64 7, .int .u64 3] 46)
  have b3 := below_alloc ((w.alloc (.cells #[.int .u64 4, .int .u64 0] 46)).alloc (.cells #[.int .u64 7, .int .u64 3] 46)) (.cells #[.slice (some ⟨w.heap.size, 0, none⟩) 2 2, .bool true, .bool true, .int .u64 3, .int .u64 5, .slice (some ⟨w.heap.size + 1, 0, none⟩) 2 2, .bool false, .bool true, .int .u64 0, .int .u64 1] 75)
  have p1 := ((pts_two w 4 0 (by decide) (by decide)).below' (Below.andThen b2 b3) (Nat.le_refl _)).keep (Below.andThen b2 b3).size (fun _ _ => rfl)
  have p2 := ((pts_two (w.alloc (.cells #[.int .u64 4, .int .u64 0] 46)) 7 3 (by decide) (by decide)).below' b3 (Nat.le_refl _)).keep b3.size (fun _ _ => rfl)
  have hrow := heap_at ((w.alloc (.cells #[.int .u64 4, .int .u64 0] 46)).alloc (.cells #[.int .u64 7, .int .u64 3] 46)) (.cells #[.slice (some ⟨w.heap.size, 0, none⟩) 2 2, .bool true, .bool true, .int .u64 3, .int .u64 5, .slice (some ⟨w.heap.size + 1, 0, none⟩) 2 2, .bool false, .bool true, .int .u64 0, .int .u64 1] 75) _ rfl
  rw [World.size_alloc, World.size_alloc] at hrow
  rw [show (w.alloc (.cells #[.int .u64 4, .int .u64 0] 46)).heap.size = w.heap.size + 1 from World.size_alloc _ _] at p2
  clear b1 b2 b3
  generalize (((w.alloc (.cells #[.int .u64 4, .int .u64 0] 46)).alloc (.cells #[.int .u64 7, .int .u64 3] 46)).alloc (.cells #[.slice (some ⟨w.heap.size, 0, none⟩) 2 2, .bool true, .bool true, .int .u64 3, .int .u64 5, .slice (some ⟨w.heap.size + 1, 0, none⟩) 2 2, .bool false, .bool true, .int .u64 0, .int .u64 1] 75)) = W at *
  intro _
  refine ⟨w.heap.size + 1 + 1, 0, rfl, (Array.getElem?_eq_some_iff.1 hrow).1, fun i c hi => ?_⟩
  have hcell : ∀ (o : Nat), W.cell? ⟨w.heap.size + 1 + 1, o, none⟩ = (#[.slice (some ⟨w.heap.size, 0, none⟩) 2 2, .bool true, .bool true, .int .u64 3, .int .u64 5, .slice (some ⟨w.heap.size + 1, 0, none⟩) 2 2, .bool false, .bool true, .int .u64 0, .int .u64 1] : Array Value)[o]? := fun o => by rw [cell_of_row W _ _ _ _ (0, 0) hrow]
  match i, hi with
  | 0, hi =>
    obtain rfl : ([4, 0], some 3, some 5) = c := Option.some.inj hi
    exact ⟨some ⟨w.heap.size, 0, none⟩, 2, hcell 0, hcell 1, hcell 2, hcell 3, hcell 4, p1, by unfold maxLen; show 2 ≤ _; omega, by show 3 < _; omega, by show 5 < _; omega⟩
  | 1, hi =>
    obtain rfl : ([7, 3], none, some 1) = c := Option.some.inj hi
    exact ⟨some ⟨w.heap.size + 1, 0, none⟩, 2, hcell 5, hcell 6, hcell 7, hcell 8, hcell 9, p2, by unfold maxLen; show 2 ≤ _; omega, by show 0 < _; omega, by show 1 < _; omega⟩
  | i + 2, hi => simp [chEx] at hi
set_option maxRecDepth 100000 in
set_option maxHeartbeats 1000000 in
theorem awake12_c (w : World) (hT : Tz w) : Calls Tryz.prog 30 #[] w fun e w' => e = .returned (.bool true) ∧ Below w.heap.size w w' := by
  have HT := Lib.hid hT
  clear hT
  go_enter Tryz.func30, Tryz.ntmps30
  go_wp2_with fail
  refine (tNew_c 2 w (by decide) (by decide)).mono ?_
  rintro e w1 ⟨rfl, ht1, hb1⟩
  have T1 := Lib.hid ht1
  have B1 := Lib.hid hb1
  clear ht1 hb1
  go_wp2_with fail
  refine (tPut_new (T1.out.below (below_alloc w1 _) (Nat.le_refl _)) (pts_two w1 4 0 (by decide) (by decide)) rfl (c := 2) 3 (by decide) (by simp [Tr.entsO]) (by decide +kernel)).mono ?_
  rintro e w2 ⟨n2, t2, rfl, ht2, he2, hb2⟩
  have hb12 := Below.andThen (below_alloc w1 (.cells #[.int .u64 ((4 : Nat) : Int), .int .u64 ((0 : Nat) : Int)] 46)) hb2
  have T2 := Lib.hid ht2
  have E2 := Lib.hid he2
  have T1' := Lib.hid (T1.out.below hb12 (Nat.le_refl _))
  have B2 := Lib.hid (Below.andThen B1.out hb12)
  clear ht2 he2 hb2 T1 hb12
  go_wp2_with fail
  refine (tPut_new (T1'.out.below (below_alloc w2 _) (Nat.le_refl _)) (pts_two w2 4 0 (by decide) (by decide)) rfl (c := 2) 5 (by decide) (by simp [Tr.entsO]) (by decide +kernel)).mono ?_
  rintro e w3 ⟨n3, t3, rfl, ht3, he3, hb3⟩
  have hb23 := Below.andThen (below_alloc w2 (.cells #[.int .u64 ((4 : Nat) : Int), .int .u64 ((0 : Nat) : Int)] 46)) hb3
  have T3 := Lib.hid ht3
  have E3 := Lib.hid he3
  have T2' := Lib.hid (T2.out.below hb23 (Nat.le_refl _))
  have B3 := Lib.hid (Below.andThen B2.out hb23)
  clear ht3 he3 hb3 T2 T1' hb23
  go_wp2_with fail
  refine (tPut_new (T3.out.below (below_alloc w3 _) (Nat.le_refl _)) (pts_two w3 7 3 (by decide) (by decide)) rfl (c := 2) 1 (by decide) (by rw [show Tr.entsO (some t3) = t3.ents from rfl, E3.out]; decide +kernel) (by rw [show Tr.entsO (some t3) = t3.ents from rfl, E3.out]; decide +kernel)).mono ?_
  rintro e w4 ⟨n4, t4, rfl, ht4, he4, hb4⟩
  have hb34 := Below.andThen (below_alloc w3 (.cells #[.int .u64 ((7 : Nat) : Int), .int .u64 ((3 : Nat) : Int)] 46)) hb4
  have hC : Tr.chO (some t2) (some t4) = chEx := by
    show Tr.chL t2.ents t4.ents = chEx
    rw [E2.out, he4, show Tr.entsO (some t3) = t3.ents from rfl, E3.out]
    exact chEx_eq
  have T4 := Lib.hid ht4
  have T2 := Lib.hid (T2'.out.below hb34 (Nat.le_refl _))
  have B4 := Lib.hid (Below.andThen B3.out hb34)
  have HC := Lib.hid hC
  clear ht4 he4 hb4 T2' T3 E2 E3 hb34 hC
  go_wp2_with fail
  refine (dChanges_c T2.out T4.out (fun w' hb => (HT.out.on B4.out).on hb) HC.out (by decide) (n := 2) rfl).mono ?_
  rintro e w5 ⟨D, d, rfl, hnew, hb5⟩
  have B5 := Lib.hid (Below.andThen B4.out hb5)
  have HN := Lib.hid hnew
  clear hnew hb5 T2 T4 HC
  go_wp2_with fail
  refine (rsame12_c (Chs.below HN.out.chs (Below.andThen (Below.andThen (below_alloc w5 _) (below_alloc _ _)) (below_alloc _ _))) (ch_row w5) rfl (by decide)).mono ?_
  rintro e w6 ⟨rfl, hb6⟩
  have B6 := Lib.hid (Below.andThen B5.out (Below.andThen (Below.andThen (Below.andThen (below_alloc w5 _) (below_alloc _ _)) (below_alloc _ _)) hb6))
  clear hb6
  go_wp2_with fail
  go_ret
  exact ⟨rfl, B6.out⟩
end Go.Proofs.YtjcmehplcagejaaGreatDoor
