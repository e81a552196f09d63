import Derived.Test.YtpgkfccfabnjdaaGreatDoorM9r
import Derived.Test.YtpgkfccfabnjdaaGreatDoorM97
/-
  EDIT: pantileref12.Same, Swapped of changes as they lie. Laid by wip/gen59.py.
-/
namespace Go.Proofs.YtpgkfccfabnjdaaGreatDoor
open Go.ChangeShapes Go.WideShapes Go.ChangeAt Go.RowKit
open Tr (T S4 Ent Chg Raw)

set_option maxRecDepth 1000000 in
set_option maxHeartbeats 8000000 in
theorem rsameR_c {w : World} {L : List Raw} {A A' : Option Addr} {c c' n : Nat} (h : RwL w w.heap.size A L) (h' : RwL w w.heap.size A' L) (hn : L.length = n) (hl : n ≤ 100000000) :
    Calls Tryz.prog 27 #[.slice A n c, .slice A' n c'] w fun e w' => e = .returned (.bool true) ∧ Below w.heap.size w w' := by
  have HX := Lib.hid (And.intro h (And.intro h' hn))
  have n1 : ((n : Int) != (n : Int)) = false := by simp
  have hn9 : (n : Int) ≤ 100000000 := by omega
  clear h h' hn hl
  go_enter Tryz.func27, Tryz.ntmps27
  go_wp2_with fail
  go_loopw [5] (fun i wr => ∃ j : Nat, j ≤ n ∧ i = .int .i64 (j : Int) ∧ Below w.heap.size w wr) (fun i _ => n - (intOf i).toNat)
  case atStart => exact ⟨0, Nat.zero_le _, rfl, Below.refl _ _⟩
  case round =>
    obtain ⟨j, hj, rfl, hbr⟩ := hrel
    have HB := Lib.hid hbr
    by_cases hlt : j < n
    · obtain ⟨y, hy⟩ := get_lt (us := L) (k := j) (by rw [HX.out.2.2]; exact hlt)
      obtain ⟨b, off, P, pc, hA, hb, e0, e1, e2, e3, e4, pp, pl, -⟩ := (HX.out.1.below hbr (Nat.le_refl _) hbr.size).at hy
      obtain ⟨b2, off2, P2, pc2, hA2, hb2, g0, g1, g2, g3, g4, pp2, -, -⟩ := (HX.out.2.1.below hbr (Nat.le_refl _) hbr.size).at hy
      subst hA hA2
      obtain ⟨s1, hs1⟩ : ∃ s, y.2.1.1 = s := ⟨_, rfl⟩
      obtain ⟨s2, hs2⟩ : ∃ s, y.2.2.1 = s := ⟨_, rfl⟩
      obtain ⟨v1, hv1⟩ : ∃ v, y.2.1.2 = v := ⟨_, rfl⟩
      obtain ⟨v2, hv2⟩ : ∃ v, y.2.2.2 = v := ⟨_, rfl⟩
      obtain ⟨m, hm⟩ : ∃ m, y.1.length = m := ⟨_, rfl⟩
      rw [hm] at e0 g0
      rw [hs1] at e1 g1
      rw [hs2] at e2 g2
      rw [hv1] at e3 g3
      rw [hv2] at e4 g4
      have q1 : (s1 != s1) = false := by simp
      have q2 : (s2 != s2) = false := by simp
      have q3 : ((v1 : Int) != (v1 : Int)) = false := by simp
      have q4 : ((v2 : Int) != (v2 : Int)) = false := by simp
      have f1 : decide ((j : Int) < (n : Int)) = true := decide_eq_true (by omega)
      have f1' : decide (j < n) = true := decide_eq_true hlt
      have m1 : (0 : Int) ≤ (j : Int) := by omega
      have m2 : (j : Int) < (n : Int) := by omega
      have m3 : (j : Int) ≤ 100000000 := by omega
      have HC : Hid (∀ w1, Below wr.heap.size wr w1 → Calls Tryz.prog 73 #[.slice P m pc, .slice P2 m pc2] w1 fun e w' => e = .returned (.bool true) ∧ Below w1.heap.size w1 w') := Lib.hid fun w1 hb1 => by
        have hh := rsame_self P P2 pc pc2 y.1 wr.heap.size w1 (pp.below' hb1 (Nat.le_refl _)) (pp2.below' hb1 (Nat.le_refl _)) hb1.size pl
        rw [hm] at hh
        exact hh
      have a0 : ∀ w', Below wr.heap.size wr w' → w'.cell? ⟨b, off + j * 5, none⟩ = some (.slice P m pc) := fun w' h => (h.cell (p := ⟨b, off + j * 5, none⟩) hb).trans e0
      have a1 : ∀ w', Below wr.heap.size wr w' → w'.cell? ⟨b, off + j * 5 + 1, none⟩ = some (.bool s1) := fun w' h => (h.cell (p := ⟨b, off + j * 5 + 1, none⟩) hb).trans e1
      have a2 : ∀ w', Below wr.heap.size wr w' → w'.cell? ⟨b, off + j * 5 + 2, none⟩ = some (.bool s2) := fun w' h => (h.cell (p := ⟨b, off + j * 5 + 2, none⟩) hb).trans e2
      have a3 : ∀ w', Below wr.heap.size wr w' → w'.cell? ⟨b, off + j * 5 + 3, none⟩ = some (.int .u64 (v1 : Int)) := fun w' h => (h.cell (p := ⟨b, off + j * 5 + 3, none⟩) hb).trans e3
      have a4 : ∀ w', Below wr.heap.size wr w' → w'.cell? ⟨b, off + j * 5 + 4, none⟩ = some (.int .u64 (v2 : Int)) := fun w' h => (h.cell (p := ⟨b, off + j * 5 + 4, none⟩) hb).trans e4
      have h0 : ∀ w', Below wr.heap.size wr w' → w'.cell? ⟨b2, off2 + j * 5, none⟩ = some (.slice P2 m pc2) := fun w' h => (h.cell (p := ⟨b2, off2 + j * 5, none⟩) hb2).trans g0
      have h1 : ∀ w', Below wr.heap.size wr w' → w'.cell? ⟨b2, off2 + j * 5 + 1, none⟩ = some (.bool s1) := fun w' h => (h.cell (p := ⟨b2, off2 + j * 5 + 1, none⟩) hb2).trans g1
      have h2 : ∀ w', Below wr.heap.size wr w' → w'.cell? ⟨b2, off2 + j * 5 + 2, none⟩ = some (.bool s2) := fun w' h => (h.cell (p := ⟨b2, off2 + j * 5 + 2, none⟩) hb2).trans g2
      have h3 : ∀ w', Below wr.heap.size wr w' → w'.cell? ⟨b2, off2 + j * 5 + 3, none⟩ = some (.int .u64 (v1 : Int)) := fun w' h => (h.cell (p := ⟨b2, off2 + j * 5 + 3, none⟩) hb2).trans g3
      have h4 : ∀ w', Below wr.heap.size wr w' → w'.cell? ⟨b2, off2 + j * 5 + 4, none⟩ = some (.int .u64 (v2 : Int)) := fun w' h => (h.cell (p := ⟨b2, off2 + j * 5 + 4, none⟩) hb2).trans g4
      have hb0 : Below wr.heap.size wr wr := Below.refl _ _
      clear hy pp pp2 pl hbr hs1 hs2 hv1 hv2 hm hlt hj e0 e1 e2 e3 e4 g0 g1 g2 g3 g4
      go_wp2_with fail
      go_region_held3 (fun w' => Below wr.heap.size wr w') (((repeat (first | refine Below.drew ?_ | (with_reducible refine below_drewN _ ?_) | refine Below.alloc ?_ (by first | omega | (simp; done) | (simp; omega)) _ | refine Below.setCell ?_ (by first | omega | (simp; done) | (simp; omega)) _)); first | exact Below.refl _ _ | assumption | exact below_drewN _ (Below.refl _ _) | exact below_drewN _ (below_drewN _ (Below.refl _ _))))
        ((go_at_call 73; refine (HC.out _ (show Below wr.heap.size wr _ by ((repeat (first | refine Below.drew ?_ | (with_reducible refine below_drewN _ ?_) | refine Below.alloc ?_ (by first | omega | (simp; done) | (simp; omega)) _ | refine Below.setCell ?_ (by first | omega | (simp; done) | (simp; omega)) _)); first | exact Below.refl _ _ | assumption | exact below_drewN _ (Below.refl _ _) | exact below_drewN _ (below_drewN _ (Below.refl _ _))))).mono ?_; rintro e w2 ⟨rfl, hb2⟩; have hbD := Below.trans (show Below wr.heap.size wr _ by ((repeat (first | refine Below.drew ?_ | (with_reducible refine below_drewN _ ?_) | refine Below.alloc ?_ (by first | omega | (simp; done) | (simp; omega)) _ | refine Below.setCell ?_ (by first | omega | (simp; done) | (simp; omega)) _)); first | exact Below.refl _ _ | assumption | exact below_drewN _ (Below.refl _ _) | exact below_drewN _ (below_drewN _ (Below.refl _ _)))) (hb2.mono (Below.size (show Below wr.heap.size wr _ by ((repeat (first | refine Below.drew ?_ | (with_reducible refine below_drewN _ ?_) | refine Below.alloc ?_ (by first | omega | (simp; done) | (simp; omega)) _ | refine Below.setCell ?_ (by first | omega | (simp; done) | (simp; omega)) _)); first | exact Below.refl _ _ | assumption | exact below_drewN _ (Below.refl _ _) | exact below_drewN _ (below_drewN _ (Below.refl _ _)))))); clear hb2))
      clear a0 a1 a2 a3 a4 h0 h1 h2 h3 h4
      go_wp2_with fail
      go_roundw
      case rel => exact ⟨j + 1, by omega, by first | rfl | go_num, HB.out.trans (hbD.mono HB.out.size)⟩
      case measure => simp [intOf]; omega
    · go_wp2_with fail
      go_ret
      exact ⟨rfl, HB.out⟩
set_option maxRecDepth 1000000 in
set_option maxHeartbeats 8000000 in
theorem rswapR_c {w : World} {L : List Raw} {A : Option Addr} {c n : Nat} (h : RwL w w.heap.size A L) (hn : L.length = n) (hl : n ≤ 100000) :
    Calls Tryz.prog 29 #[.slice A n c] w fun e w' => ∃ D d, e = .returned (.slice D n d) ∧ RwL w' w'.heap.size D (L.map Tr.swapR) ∧ Below w.heap.size w w' := by
  have hal := below_alloc w (.cells #[] 111)
  have ho0 : OwnL 111 5 (RwG (w.alloc (.cells #[] 111)) fun b => b < w.heap.size) (w.alloc (.cells #[] 111)) w.heap.size (.slice (some ⟨w.heap.size, 0, none⟩) 0 0) [] := ownL_nil _ w
  have hst : RwI (w.alloc (.cells #[] 111)) 0 (fun b => b < w.heap.size) (some ⟨w.heap.size, 0, none⟩) 0 (some ⟨w.heap.size, 0, none⟩) 0 [] (w.alloc (.cells #[] 111)) := by
    refine ⟨⟨ho0.mono (Nat.zero_le _), fun b hD => ⟨Nat.zero_le _, Nat.lt_of_lt_of_le hD hal.size, fun e => ?_⟩⟩, Foot.of_below (Below.refl _ _), .inl rfl, rfl⟩
    simp only [Option.map_some, Option.some.injEq] at e
    omega
  have HX := Lib.hid (And.intro h (And.intro hn (And.intro hl hal)))
  have HS := Lib.hid hst
  have hn9 : (n : Int) ≤ 100000 := by omega
  clear h hn hl hal ho0 hst
  go_enter Tryz.func29, Tryz.ntmps29
  go_wp2_with fail
  obtain ⟨W1, hW1⟩ : ∃ W1, W1 = w.alloc (.cells #[] 111) := ⟨_, rfl⟩
  rw [← hW1] at HX HS ⊢
  clear hW1
  go_loopw [3, 4] (fun u v wr => ∃ (j : Nat) (D : Option Addr) (d : Nat), u = .slice D j d ∧ v = .int .i64 (j : Int) ∧ j ≤ n ∧ RwI W1 0 (fun b => b < w.heap.size) (some ⟨w.heap.size, 0, none⟩) j D d ((L.take j).map Tr.swapR) wr) (fun _ v _ => n - (intOf v).toNat)
  case atStart => exact ⟨0, _, 0, rfl, rfl, Nat.zero_le _, HS.out⟩
  case round =>
    clear HS
    obtain ⟨j, D, d, rfl, rfl, hj, hI⟩ := hrel
    have hbw : Below w.heap.size w wr := HX.out.2.2.2.trans (hI.foot.below HX.out.2.2.2.size (fun b hb => by simp only [Option.map_some, Option.some.injEq] at hb; omega))
    by_cases hlt : j < n
    · obtain ⟨y, hy⟩ := get_lt (us := L) (k := j) (by rw [HX.out.2.1]; exact hlt)
      obtain ⟨b, off, P, pc, hA, hb, e0, e1, e2, e3, e4, pp, pl, q1, q2⟩ := (HX.out.1.below hbw (Nat.le_refl _) hbw.size).at hy
      obtain ⟨b', off', P', pc', hA', hb', g0, -, -, -, -, pp', -, -, -⟩ := HX.out.1.at hy
      rw [hA] at hA'
      cases hA'
      have hPP := (hbw.cell (p := ⟨b, off + j * 5, none⟩) hb').trans g0
      rw [e0] at hPP
      simp only [Option.some.injEq, Value.slice.injEq, true_and] at hPP
      obtain ⟨rfl, rfl⟩ := hPP
      have hpg : PtsG wr (fun b => b < w.heap.size) P y.1 := ptsG_of (pp'.below' hbw (Nat.le_refl _)) hbw.size
      subst hA
      obtain ⟨s1, hs1⟩ : ∃ s, y.2.1.1 = s := ⟨_, rfl⟩
      obtain ⟨s2, hs2⟩ : ∃ s, y.2.2.1 = s := ⟨_, rfl⟩
      obtain ⟨v1, hv1⟩ : ∃ v, y.2.1.2 = v := ⟨_, rfl⟩
      obtain ⟨v2, hv2⟩ : ∃ v, y.2.2.2 = v := ⟨_, rfl⟩
      obtain ⟨m, hm⟩ : ∃ m, y.1.length = m := ⟨_, rfl⟩
      rw [hm] at e0
      rw [hs1] at e1
      rw [hs2] at e2
      rw [hv1] at e3
      rw [hv2] at e4
      have HE := Lib.hid (And.intro hy (And.intro hpg (And.intro hm (And.intro hs1 (And.intro hs2 (And.intro hv1 (And.intro hv2 (And.intro pl (And.intro q1 (And.intro q2 (And.intro hlt hI.len)))))))))))
      have HI := Lib.hid hI
      have f1 : decide ((j : Int) < (n : Int)) = true := decide_eq_true (by omega)
      have f1' : decide (j < n) = true := decide_eq_true hlt
      have m1 : (0 : Int) ≤ (j : Int) := by omega
      have m2 : (j : Int) < (n : Int) := by omega
      have m3 : (j : Int) ≤ 100000 := by omega
      clear hI hbw hy pp pp' g0 hpg hm hs1 hs2 hv1 hv2 pl q1 q2 hlt hj
      have a0 : ∀ w', Below wr.heap.size wr w' → w'.cell? ⟨b, off + j * 5, none⟩ = some (.slice P m pc) := fun w' h => (h.cell (p := ⟨b, off + j * 5, none⟩) hb).trans e0
      have a1 : ∀ w', Below wr.heap.size wr w' → w'.cell? ⟨b, off + j * 5 + 1, none⟩ = some (.bool s1) := fun w' h => (h.cell (p := ⟨b, off + j * 5 + 1, none⟩) hb).trans e1
      have a2 : ∀ w', Below wr.heap.size wr w' → w'.cell? ⟨b, off + j * 5 + 2, none⟩ = some (.bool s2) := fun w' h => (h.cell (p := ⟨b, off + j * 5 + 2, none⟩) hb).trans e2
      have a3 : ∀ w', Below wr.heap.size wr w' → w'.cell? ⟨b, off + j * 5 + 3, none⟩ = some (.int .u64 (v1 : Int)) := fun w' h => (h.cell (p := ⟨b, off + j * 5 + 3, none⟩) hb).trans e3
      have a4 : ∀ w', Below wr.heap.size wr w' → w'.cell? ⟨b, off + j * 5 + 4, none⟩ = some (.int .u64 (v2 : Int)) := fun w' h => (h.cell (p := ⟨b, off + j * 5 + 4, none⟩) hb).trans e4
      have HBL : Hid (b < W1.heap.size ∧ ¬ ((some ⟨w.heap.size, 0, none⟩ : Option Addr).map (·.block) = some b)) := Lib.hid ⟨Nat.lt_of_lt_of_le hb' HX.out.2.2.2.size, fun e => by simp only [Option.map_some, Option.some.injEq] at e; omega⟩
      have hb0 : Below wr.heap.size wr wr := Below.refl _ _
      clear hb hb'
      go_wp2_with fail
      go_region_held3 (fun w' => w'.cell? ⟨b, off + j * 5, none⟩ = some (.slice P m pc) ∧ w'.cell? ⟨b, off + j * 5 + 1, none⟩ = some (.bool s1) ∧ w'.cell? ⟨b, off + j * 5 + 2, none⟩ = some (.bool s2) ∧ w'.cell? ⟨b, off + j * 5 + 3, none⟩ = some (.int .u64 (v1 : Int)) ∧ w'.cell? ⟨b, off + j * 5 + 4, none⟩ = some (.int .u64 (v2 : Int))) (first | exact ⟨e0, e1, e2, e3, e4⟩ | exact ⟨k0, k1, k2, k3, k4⟩ | exact ⟨a0 _ (by ((repeat (first | refine Below.drew ?_ | (with_reducible refine below_drewN _ ?_) | refine Below.alloc ?_ (by first | omega | (simp; done) | (simp; omega)) _ | refine Below.setCell ?_ (by first | omega | (simp; done) | (simp; omega)) _)); first | exact Below.refl _ _ | assumption | exact below_drewN _ (Below.refl _ _) | exact below_drewN _ (below_drewN _ (Below.refl _ _)))), a1 _ (by ((repeat (first | refine Below.drew ?_ | (with_reducible refine below_drewN _ ?_) | refine Below.alloc ?_ (by first | omega | (simp; done) | (simp; omega)) _ | refine Below.setCell ?_ (by first | omega | (simp; done) | (simp; omega)) _)); first | exact Below.refl _ _ | assumption | exact below_drewN _ (Below.refl _ _) | exact below_drewN _ (below_drewN _ (Below.refl _ _)))), a2 _ (by ((repeat (first | refine Below.drew ?_ | (with_reducible refine below_drewN _ ?_) | refine Below.alloc ?_ (by first | omega | (simp; done) | (simp; omega)) _ | refine Below.setCell ?_ (by first | omega | (simp; done) | (simp; omega)) _)); first | exact Below.refl _ _ | assumption | exact below_drewN _ (Below.refl _ _) | exact below_drewN _ (below_drewN _ (Below.refl _ _)))), a3 _ (by ((repeat (first | refine Below.drew ?_ | (with_reducible refine below_drewN _ ?_) | refine Below.alloc ?_ (by first | omega | (simp; done) | (simp; omega)) _ | refine Below.setCell ?_ (by first | omega | (simp; done) | (simp; omega)) _)); first | exact Below.refl _ _ | assumption | exact below_drewN _ (Below.refl _ _) | exact below_drewN _ (below_drewN _ (Below.refl _ _)))), a4 _ (by ((repeat (first | refine Below.drew ?_ | (with_reducible refine below_drewN _ ?_) | refine Below.alloc ?_ (by first | omega | (simp; done) | (simp; omega)) _ | refine Below.setCell ?_ (by first | omega | (simp; done) | (simp; omega)) _)); first | exact Below.refl _ _ | assumption | exact below_drewN _ (Below.refl _ _) | exact below_drewN _ (below_drewN _ (Below.refl _ _))))⟩)
        ((refine step_append_list (Q := RwG wr fun b => b < w.heap.size) 44 111 (.agg #[.slice none 0 0, .bool false, .bool false, .int .u64 0, .int .u64 0]) 48 Tryz.underlying44 infoChg (by rfl) (by omega) (by omega) (rwG_ok _ _) (by rfl) _ _ (by rfl) 0 (.slice D j d) ((L.take j).map Tr.swapR) [Tr.swapR y] (j + 1) (by rw [HE.out.2.2.2.2.2.2.2.2.2.2.2]; rfl) (by rfl) (by exact HI.out.own (by ((repeat (first | refine Below.drew ?_ | (with_reducible refine below_drewN _ ?_) | refine Below.alloc ?_ (by first | omega | (simp; done) | (simp; omega)) _ | refine Below.setCell ?_ (by first | omega | (simp; done) | (simp; omega)) _)); first | exact Below.refl _ _ | assumption | exact below_drewN _ (Below.refl _ _) | exact below_drewN _ (below_drewN _ (Below.refl _ _))))) _ _ 1 1 (by rfl) (by rfl) (by exact lst_at (rwG_ok _ _) #[.slice P m pc, .bool s2, .bool s1, .int .u64 (v2 : Int), .int .u64 (v1 : Int)] (Tr.swapR y) (by rfl) (by exact ⟨P, pc, by rw [← HE.out.2.2.1]; rfl, by rw [← HE.out.2.2.2.2.1]; rfl, by rw [← HE.out.2.2.2.1]; rfl, by rw [← HE.out.2.2.2.2.2.2.1]; rfl, by rw [← HE.out.2.2.2.2.2.1]; rfl, HE.out.2.1, HE.out.2.2.2.2.2.2.2.1, HE.out.2.2.2.2.2.2.2.2.2.1, HE.out.2.2.2.2.2.2.2.2.1⟩)) (by omega) (by omega) ?_; intro D5 d5 w6 hown5 hgrow5 hat5; have HN := Lib.hid (HI.out.step (Nat.zero_le _) (show Below wr.heap.size wr _ by ((repeat (first | refine Below.drew ?_ | (with_reducible refine below_drewN _ ?_) | refine Below.alloc ?_ (by first | omega | (simp; done) | (simp; omega)) _ | refine Below.setCell ?_ (by first | omega | (simp; done) | (simp; omega)) _)); first | exact Below.refl _ _ | assumption | exact below_drewN _ (Below.refl _ _) | exact below_drewN _ (below_drewN _ (Below.refl _ _)))) hown5 hgrow5 hat5); clear hown5 hgrow5 hat5; have hs6 := (HN.out.foot.block b HBL.out.1 HBL.out.2).trans (HI.out.foot.block b HBL.out.1 HBL.out.2).symm; have k0 := (World.cell?_of_block (a := ⟨b, off + j * 5, none⟩) hs6).trans e0; have k1 := (World.cell?_of_block (a := ⟨b, off + j * 5 + 1, none⟩) hs6).trans e1; have k2 := (World.cell?_of_block (a := ⟨b, off + j * 5 + 2, none⟩) hs6).trans e2; have k3 := (World.cell?_of_block (a := ⟨b, off + j * 5 + 3, none⟩) hs6).trans e3; have k4 := (World.cell?_of_block (a := ⟨b, off + j * 5 + 4, none⟩) hs6).trans e4; clear hs6))
      clear e0 e1 e2 e3 e4 k0 k1 k2 k3 k4 a0 a1 a2 a3 a4
      go_wp2_with fail
      go_roundw
      case rel =>
        have htk : (L.take (j + 1)).map Tr.swapR = (L.take j).map Tr.swapR ++ [Tr.swapR y] := by
          rw [List.take_add_one, HE.out.1]
          simp
        exact ⟨j + 1, D5, d5, rfl, by first | rfl | go_num, by have := HE.out.2.2.2.2.2.2.2.2.2.2.1; omega, by rw [htk]; exact HN.out⟩
      case measure =>
        have := HE.out.2.2.2.2.2.2.2.2.2.2.1
        show n - ((j : Int) + 1).toNat < n - (j : Int).toNat
        omega
    · have hjn : n = j := by omega
      subst hjn
      have f1 : decide ((n : Int) < (n : Int)) = false := decide_eq_false (by omega)
      have f1' : decide (n < n) = false := decide_eq_false (by omega)
      rw [show L.take n = L by rw [← HX.out.2.1, List.take_length]] at hI
      have hch : RwL wr wr.heap.size D (L.map Tr.swapR) := by
        have h := hI.row.row
        exact rwG_own h
      have HR := Lib.hid (And.intro hch hbw)
      clear hI hch hbw hlt hj
      go_wp2_with fail
      go_ret
      exact ⟨D, d, rfl, HR.out.1, HR.out.2⟩
end Go.Proofs.YtpgkfccfabnjdaaGreatDoor
