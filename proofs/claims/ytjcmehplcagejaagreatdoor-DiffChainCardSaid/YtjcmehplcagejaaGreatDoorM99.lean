import Derived.Test.YtjcmehplcagejaaGreatDoorM98
import Derived.Test.YtjcmehplcagejaaGreatDoorM35
/-
  THE LAW DiffApart.
-/
namespace Go.Proofs.YtjcmehplcagejaaGreatDoor
open Go.ChangeShapes Go.WideShapes Go.ChangeAt Go.RowKit
open Tr (T S4 Ent Sd Fl Chg)

set_option maxRecDepth 100000 in
set_option maxHeartbeats 4000000 in
theorem rsameEnts_dec {w : World} {L M : List Ent} {A A' : Option Addr} {c c' n n' : Nat} (h : Ents w w.heap.size A L) (h' : Ents w w.heap.size A' M) (hn : L.length = n) (hn' : M.length = n') (hl : n ≤ 1000000) (hl' : n' ≤ 1000000) {r : Bool} (hr : decide (L = M) = r) :
    Calls Tryz.prog 27 #[.slice A n c, .slice A' n' c'] w fun e w' => e = .returned (.bool r) ∧ Below w.heap.size w w' := by
  by_cases hnn : n = n'
  · subst hnn
    have HX := Lib.hid (And.intro h (And.intro h' (And.intro hn (And.intro hn' hr))))
    have n1 : ((n : Int) != (n : Int)) = false := by simp
    have hn9 : (n : Int) ≤ 1000000 := by omega
    clear h h' hn hn' hl hl' hr
    go_enter Tryz.func27, Tryz.ntmps27
    go_wp2_with fail
    go_loopw [5] (fun i wr => ∃ j : Nat, j ≤ n ∧ i = .int .i64 (j : Int) ∧ L.take j = M.take j ∧ Below w.heap.size w wr) (fun i _ => n - (intOf i).toNat)
    case atStart => exact ⟨0, Nat.zero_le _, rfl, rfl, Below.refl _ _⟩
    case round =>
      obtain ⟨j, hj, rfl, htk, hbr⟩ := hrel
      have HB := Lib.hid (And.intro hbr htk)
      by_cases hlt : j < n
      · obtain ⟨y, hy⟩ := get_lt (us := L) (k := j) (by rw [HX.out.2.2.1]; exact hlt)
        obtain ⟨z, hz⟩ := get_lt (us := M) (k := j) (by rw [HX.out.2.2.2.1]; exact hlt)
        obtain ⟨b, off, P, pc, hA, hb, e0, e1, pp, pl, -⟩ := (HX.out.1.below hbr (Nat.le_refl _) hbr.size).at hy
        obtain ⟨b2, off2, P2, pc2, hA2, hb2, g0, g1, pp2, pl2, -⟩ := (HX.out.2.1.below hbr (Nat.le_refl _) hbr.size).at hz
        subst hA hA2
        have hne : y ≠ z → L ≠ M := fun hyz e => by rw [e, hz] at hy; exact hyz (Option.some.inj hy).symm
        have hstep : y = z → L.take (j + 1) = M.take (j + 1) := fun e => by rw [List.take_add_one, List.take_add_one, hy, hz, htk, e]
        obtain ⟨m, hm⟩ : ∃ m, y.1.length = m := ⟨_, rfl⟩
        obtain ⟨m', hm'⟩ : ∃ m', z.1.length = m' := ⟨_, rfl⟩
        obtain ⟨v, hv⟩ : ∃ v, y.2 = v := ⟨_, rfl⟩
        obtain ⟨u, hu⟩ : ∃ u, z.2 = u := ⟨_, rfl⟩
        obtain ⟨q, hq⟩ : ∃ q, decide (y.1 = z.1) = q := ⟨_, rfl⟩
        rw [hm] at e0
        rw [hm'] at g0
        rw [hv] at e1
        rw [hu] at g1
        have a0 : ∀ w', Below wr.heap.size wr w' → w'.cell? ⟨b, off + j * 2, none⟩ = some (.slice P m pc) := fun w' h => (h.cell (p := ⟨b, off + j * 2, none⟩) hb).trans e0
        have a1 : ∀ w', Below wr.heap.size wr w' → w'.cell? ⟨b, off + j * 2 + 1, none⟩ = some (.int .u64 (v : Int)) := fun w' h => (h.cell (p := ⟨b, off + j * 2 + 1, none⟩) hb).trans e1
        have a2 : ∀ w', Below wr.heap.size wr w' → w'.cell? ⟨b2, off2 + j * 2, none⟩ = some (.slice P2 m' pc2) := fun w' h => (h.cell (p := ⟨b2, off2 + j * 2, none⟩) hb2).trans g0
        have a3 : ∀ w', Below wr.heap.size wr w' → w'.cell? ⟨b2, off2 + j * 2 + 1, none⟩ = some (.int .u64 (u : Int)) := fun w' h => (h.cell (p := ⟨b2, off2 + j * 2 + 1, none⟩) hb2).trans g1
        have HC : Hid (∀ w1, Below wr.heap.size wr w1 → Calls Tryz.prog 40 #[.slice P m pc, .slice P2 m' pc2] w1 fun e w' => e = .returned (.bool q) ∧ Below w1.heap.size w1 w') := Lib.hid fun w1 hb1 => by
          have hh := rsame_c P P2 pc pc2 y.1 z.1 wr.heap.size w1 (pp.below' hb1 (Nat.le_refl _)) (pp2.below' hb1 (Nat.le_refl _)) hb1.size pl
          rw [hm, hm', hq] at hh
          exact hh
        have hb0 : Below wr.heap.size wr wr := Below.refl _ _
        have f1 : decide ((j : Int) < (n : Int)) = true := decide_eq_true (by omega)
        have f1' : decide (j < n) = true := decide_eq_true hlt
        have m1 : (0 : Int) ≤ (j : Int) := by omega
        have m2 : (j : Int) < (n : Int) := by omega
        have m3 : (j : Int) ≤ 1000000 := by omega
        have HE := Lib.hid (And.intro hne (And.intro hstep (And.intro hv (And.intro hu (And.intro hq hlt)))))
        clear hy hz e0 e1 g0 g1 pp pp2 pl pl2 hbr htk hne hstep hm hm' hv hu hq hlt hj
        by_cases hvu : v = u
        · have HVU := Lib.hid hvu
          subst hvu
          have k1 : ((v : Int) != (v : Int)) = false := by simp
          go_wp2_with fail
          go_region_held3 (fun w' => Below wr.heap.size wr w') (((repeat (first | refine Below.drew ?_ | (with_reducible refine below_drewN _ ?_) | refine Below.alloc ?_ (by first | omega | (simp; done) | (simp; omega)) _ | refine Below.setCell ?_ (by first | omega | (simp; done) | (simp; omega)) _)); first | exact Below.refl _ _ | assumption | exact below_drewN _ (Below.refl _ _) | exact below_drewN _ (below_drewN _ (Below.refl _ _))))
            ((go_at_call 40; refine (HC.out _ (show Below wr.heap.size wr _ by ((repeat (first | refine Below.drew ?_ | (with_reducible refine below_drewN _ ?_) | refine Below.alloc ?_ (by first | omega | (simp; done) | (simp; omega)) _ | refine Below.setCell ?_ (by first | omega | (simp; done) | (simp; omega)) _)); first | exact Below.refl _ _ | assumption | exact below_drewN _ (Below.refl _ _) | exact below_drewN _ (below_drewN _ (Below.refl _ _))))).mono ?_; rintro e w2 ⟨rfl, hb2⟩; have hbD := Below.trans (show Below wr.heap.size wr _ by ((repeat (first | refine Below.drew ?_ | (with_reducible refine below_drewN _ ?_) | refine Below.alloc ?_ (by first | omega | (simp; done) | (simp; omega)) _ | refine Below.setCell ?_ (by first | omega | (simp; done) | (simp; omega)) _)); first | exact Below.refl _ _ | assumption | exact below_drewN _ (Below.refl _ _) | exact below_drewN _ (below_drewN _ (Below.refl _ _)))) (hb2.mono (Below.size (show Below wr.heap.size wr _ by ((repeat (first | refine Below.drew ?_ | (with_reducible refine below_drewN _ ?_) | refine Below.alloc ?_ (by first | omega | (simp; done) | (simp; omega)) _ | refine Below.setCell ?_ (by first | omega | (simp; done) | (simp; omega)) _)); first | exact Below.refl _ _ | assumption | exact below_drewN _ (Below.refl _ _) | exact below_drewN _ (below_drewN _ (Below.refl _ _)))))); clear hb2))
          clear a0 a1 a2 a3
          have HD := Lib.hid (HB.out.1.trans (hbD.mono HB.out.1.size))
          cases q with
          | true =>
            go_wp2_with fail
            go_roundw
            case rel =>
              have hyz : y = z := Prod.ext (by have := HE.out.2.2.2.2.1; simpa using this) (HE.out.2.2.1.trans HE.out.2.2.2.1.symm)
              exact ⟨j + 1, by have := HE.out.2.2.2.2.2; omega, by first | rfl | go_num, HE.out.2.1 hyz, HD.out⟩
            case measure =>
              have := HE.out.2.2.2.2.2
              show n - ((j : Int) + 1).toNat < n - (j : Int).toNat
              omega
          | false =>
            have hyz : y ≠ z := fun e => by
              have := HE.out.2.2.2.2.1
              rw [e] at this
              simp at this
            have hr : r = false := by rw [← HX.out.2.2.2.2]; exact decide_eq_false (HE.out.1 hyz)
            clear HX hyz HE HC
            subst hr
            go_wp2_with fail
            go_ret
            exact ⟨rfl, HD.out⟩
        · have k1 : ((v : Int) != (u : Int)) = true := by rw [bne_iff_ne]; omega
          have hyz : y ≠ z := fun e => hvu (by rw [← HE.out.2.2.1, ← HE.out.2.2.2.1, e])
          have HYZ := Lib.hid hyz
          have b1 := a1 wr hb0
          have b3 := a3 wr hb0
          clear hvu hyz a0 a1 a2 a3 HC
          go_wp2_with fail
          go_quiet (fail)
          have hr : r = false := by rw [← HX.out.2.2.2.2]; exact decide_eq_false (HE.out.1 HYZ.out)
          clear HX HYZ HE
          subst hr
          go_wp2_with fail
          go_ret
          exact ⟨rfl, below_drewN _ HB.out.1⟩
      · have hjn : n = j := by omega
        subst hjn
        have f1 : decide ((n : Int) < (n : Int)) = false := decide_eq_false (by omega)
        have f1' : decide (n < n) = false := decide_eq_false (by omega)
        have hLM : L = M := by
          have h := HB.out.2
          rwa [show L.take n = L by rw [← HX.out.2.2.1, List.take_length], show M.take n = M by rw [← HX.out.2.2.2.1, List.take_length]] at h
        have hr : r = true := by rw [← HX.out.2.2.2.2]; exact decide_eq_true hLM
        clear hlt hj htk hbr HX hLM
        subst hr
        go_wp2_with fail
        go_ret
        exact ⟨rfl, HB.out.1⟩
  · have n1 : ((n : Int) != (n' : Int)) = true := by rw [bne_iff_ne]; omega
    have hLM : L ≠ M := fun e => hnn (by rw [← hn, ← hn', e])
    rw [decide_eq_false hLM] at hr
    subst hr
    clear h h' hn hn' hl hl' hnn hLM
    go_enter Tryz.func27, Tryz.ntmps27
    go_wp2_with fail
    go_ret
    exact ⟨rfl, Below.refl _ _⟩
end Go.Proofs.YtjcmehplcagejaaGreatDoor

/-
  THE LAW DiffApart.
-/
namespace Go.Proofs.YtjcmehplcagejaaGreatDoor
open Go.ChangeShapes Go.WideShapes Go.ChangeAt Go.RowKit
open Tr (T S4 Ent Sd Fl Chg)

theorem treeX_dz {w : World} {b k : Nat} {o : Option T} (h : TreeX w b k o) : Tr.Dim k (Tr.entsO o) ∧ Tr.ZS (Tr.entsO o) := by
  cases o with
  | none => exact ⟨fun e he => (by cases he), List.Pairwise.nil⟩
  | some t => exact ⟨(h.1.2.2.2.2 t rfl).1.dim, (h.1.2.2.2.2 t rfl).1.zs⟩
theorem chL_few {k : Nat} {L M : List Ent} (zL : Tr.ZS L) (dL : Tr.Dim k L) (dM : Tr.Dim k M) : (Tr.chL L M).length ≤ L.length + M.length := by
  have h := Tr.ptsU_zs (M := M) zL dL dM
  exact Nat.le_trans (List.length_filterMap_le _ _) h.2.2.1
theorem chL_empty {k : Nat} {L M : List Ent} (zL : Tr.ZS L) (zM : Tr.ZS M) (dL : Tr.Dim k L) (dM : Tr.Dim k M) : (Tr.chL L M).isEmpty = decide (L = M) := by
  have h := Tr.chL_nil zL zM dL dM
  by_cases hLM : L = M
  · rw [h.2 hLM, decide_eq_true hLM]; rfl
  · rw [decide_eq_false hLM]
    cases hc : Tr.chL L M with
    | nil => exact absurd (h.1 hc) hLM
    | cons => rfl
set_option maxRecDepth 100000 in
set_option maxHeartbeats 2000000 in
theorem diffApart_skip {w : World} {A A' : Option Addr} {c c' : Nat} {l m : List ActT} (k k2 : Int) (hT : Tz w) (hA : ActsT w w.heap.size A l) (hA' : ActsT w w.heap.size A' m) (hl : l.length ≤ maxLen) (hl' : m.length ≤ maxLen) (r1 r2 b1 b2 b3 b4 : Bool) (hh : heavyA 40 l = r1) (hh' : heavyA 40 m = r2)
    (hb1 : decide (k < 1) = b1) (hb2 : decide (16 < k) = b2) (hb3 : decide (k2 < 1) = b3) (hb4 : decide (16 < k2) = b4) (hor : (r1 || r2 || b1 || b2 || b3 || b4) = true) :
    Calls Tryz.prog 8 #[.int .i64 k, .int .i64 k2, .slice A l.length c, .slice A' m.length c'] w fun e w' => e = .returned (.bool true) ∧ Below w.heap.size w w' := by
  have HX := Lib.hid (And.intro hA (And.intro hA' (And.intro hl (And.intro hl' (And.intro hh (And.intro hh' hT))))))
  clear hA hA' hl hl' hh hh' hT
  go_enter Tryz.func8, Tryz.ntmps8
  go_wp2_with fail
  refine (awake12_c w HX.out.2.2.2.2.2.2).mono ?_
  rintro e w1 ⟨rfl, hb1'⟩
  have HH := Lib.hid (rheavy7_c (c := c) (HX.out.1.below hb1' (Nat.le_refl _) (Nat.le_refl _)) HX.out.2.2.1 40 r1 HX.out.2.2.2.2.1)
  have HH' := Lib.hid (rheavy7_c (c := c') (HX.out.2.1.below hb1' (Nat.le_refl _) (Nat.le_refl _)) HX.out.2.2.2.1 40 r2 HX.out.2.2.2.2.2.1)
  have HB := Lib.hid hb1'
  clear hb1'
  go_wp2_with fail
  refine HH.out.mono ?_
  rintro e w' ⟨rfl, rfl⟩
  clear HH
  cases r1 with
  | true => (go_wp2_with fail); go_ret; exact ⟨rfl, HB.out⟩
  | false =>
    go_wp2_with fail
    refine HH'.out.mono ?_
    rintro e w' ⟨rfl, rfl⟩
    clear HH'
    cases r2 with
    | true => (go_wp2_with fail); go_ret; exact ⟨rfl, HB.out⟩
    | false =>
      cases b1 with
      | true => (go_wp2_with fail); go_ret; exact ⟨rfl, HB.out⟩
      | false =>
        cases b2 with
        | true => (go_wp2_with fail); go_ret; exact ⟨rfl, HB.out⟩
        | false =>
          cases b3 with
          | true => (go_wp2_with fail); go_ret; exact ⟨rfl, HB.out⟩
          | false =>
            cases b4 with
            | true => (go_wp2_with fail); go_ret; exact ⟨rfl, HB.out⟩
            | false => cases hor
set_option maxRecDepth 1000000 in
set_option maxHeartbeats 4000000 in
theorem diffApart_dim {w : World} {A A' : Option Addr} {c c' : Nat} {l m : List ActT} (k k2 : Nat) (hk : k ≠ k2) (hT : Tz w) (hA : ActsT w w.heap.size A l) (hA' : ActsT w w.heap.size A' m) (hl : l.length ≤ maxLen) (hl' : m.length ≤ maxLen) (hh : heavyA 40 l = false) (hh' : heavyA 40 m = false) (h1 : 1 ≤ k) (h16 : k ≤ 16) (h1' : 1 ≤ k2) (h16' : k2 ≤ 16) :
    Calls Tryz.prog 8 #[.int .i64 (k : Int), .int .i64 (k2 : Int), .slice A l.length c, .slice A' m.length c'] w fun e w' => e = .returned (.bool true) ∧ Below w.heap.size w w' := by
  have hf := heavyA_few hh
  have hf' := heavyA_few hh'
  have HX := Lib.hid (And.intro hA (And.intro hA' (And.intro hl (And.intro hl' (And.intro hh (And.intro hh' hT))))))
  have HK := Lib.hid (And.intro hf (And.intro hf' (And.intro h1 (And.intro h16 (And.intro h1' (And.intro h16' hk))))))
  have d1 : decide ((k : Int) < 1) = false := decide_eq_false (by omega)
  have d2 : decide ((16 : Int) < (k : Int)) = false := decide_eq_false (by omega)
  have d2' : decide (16 < k) = false := decide_eq_false (by omega)
  have d3 : decide ((k2 : Int) < 1) = false := decide_eq_false (by omega)
  have d4 : decide ((16 : Int) < (k2 : Int)) = false := decide_eq_false (by omega)
  have d4' : decide (16 < k2) = false := decide_eq_false (by omega)
  have d5 : ((k : Int) != (k2 : Int)) = true := by rw [bne_iff_ne]; omega
  clear hA hA' hl hl' hh hh' hT hf hf' h1 h16 h1' h16' hk
  go_enter Tryz.func8, Tryz.ntmps8
  go_wp2_with fail
  refine (awake12_c w HX.out.2.2.2.2.2.2).mono ?_
  rintro e w0 ⟨rfl, hb0⟩
  have HH := Lib.hid (rheavy7_c (c := c) (HX.out.1.below hb0 (Nat.le_refl _) (Nat.le_refl _)) HX.out.2.2.1 40 false HX.out.2.2.2.2.1)
  have HH' := Lib.hid (rheavy7_c (c := c') (HX.out.2.1.below hb0 (Nat.le_refl _) (Nat.le_refl _)) HX.out.2.2.2.1 40 false HX.out.2.2.2.2.2.1)
  have HB0 := Lib.hid hb0
  clear hb0
  go_wp2_with fail
  refine HH.out.mono ?_
  rintro e w' ⟨rfl, rfl⟩
  clear HH
  go_wp2_with fail
  refine HH'.out.mono ?_
  rintro e w' ⟨rfl, rfl⟩
  clear HH'
  go_wp2_with fail
  refine (grown_c (c := c) HK.out.2.2.1 HK.out.2.2.2.1 (HX.out.1.below HB0.out (Nat.le_refl _) (Nat.le_refl _)) HB0.out.size (by have := HK.out.1; omega)).mono ?_
  rintro e w2 ⟨t1, o1, D1, e1, rfl, hd1, -, hb2⟩
  have HD1 := Lib.hid (And.intro hd1 (Below.andThen HB0.out hb2))
  obtain ⟨N1, hN1⟩ : ∃ N, (Tr.entsO o1).length = N := ⟨_, rfl⟩
  have HN1 := Lib.hid hN1
  rw [hN1]
  clear hd1 hb2 hN1
  go_wp2_with fail
  refine (grown_c (c := c') HK.out.2.2.2.2.1 HK.out.2.2.2.2.2.1 (HX.out.2.1.below HD1.out.2 (Nat.le_refl _) (Nat.le_refl _)) HD1.out.2.size (by have := HK.out.2.1; omega)).mono ?_
  rintro e w3 ⟨t2, o2, D2, e2, rfl, hd2, -, hb3⟩
  have HD2 := Lib.hid (And.intro (HD1.out.1.below hb3) (And.intro hd2 (Below.andThen HD1.out.2 hb3)))
  obtain ⟨N2, hN2⟩ : ∃ N, (Tr.entsO o2).length = N := ⟨_, rfl⟩
  have HN2 := Lib.hid hN2
  rw [hN2]
  clear hd2 hb3 hN2 HD1
  go_wp2_with fail
  refine (dChanges_dim HD2.out.1.tree.1.2.2.2.1 HD2.out.2.1.tree.1.2.2.2.1 HD2.out.1.tree.1.1 HD2.out.2.1.tree.1.1 HK.out.2.2.2.2.2.2).mono ?_
  rintro e w4 ⟨rfl, hb4⟩
  have H4 := Lib.hid (And.intro (HD2.out.1.below hb4) (And.intro (HD2.out.2.1.below hb4) (Below.andThen HD2.out.2.2 hb4)))
  clear hb4 HD2
  go_wp2_with fail
  refine (dCount_dim H4.out.1.tree.1.2.2.2.1 H4.out.2.1.tree.1.2.2.2.1 H4.out.1.tree.1.1 H4.out.2.1.tree.1.1 HK.out.2.2.2.2.2.2).mono ?_
  rintro e w5 ⟨rfl, hb5⟩
  have H5 := Lib.hid (And.intro (H4.out.1.below hb5) (And.intro (H4.out.2.1.below hb5) (Below.andThen H4.out.2.2 hb5)))
  clear hb5 H4
  go_wp2_with fail
  refine (dSteps_dim H5.out.1.tree.1.2.2.2.1 H5.out.2.1.tree.1.2.2.2.1 HK.out.2.2.2.2.2.2).mono ?_
  rintro e w' ⟨rfl, rfl⟩
  go_wp2_with fail
  refine (dSame_dim H5.out.1.tree.1.2.2.2.1 H5.out.2.1.tree.1.2.2.2.1 H5.out.1.tree.1.1 H5.out.2.1.tree.1.1 H5.out.1.tree.2 H5.out.2.1.tree.2 HK.out.2.2.2.2.2.2).mono ?_
  rintro e w6 ⟨rfl, hb6⟩
  have H6 := Lib.hid (Below.andThen H5.out.2.2 hb6)
  clear hb6
  go_wp2_with fail
  go_ret
  exact ⟨rfl, H6.out⟩
set_option maxRecDepth 1000000 in
set_option maxHeartbeats 4000000 in
theorem diffApart_yes {w : World} {A A' : Option Addr} {c c' : Nat} {l m : List ActT} (k : Nat) (hT : Tz w) (hA : ActsT w w.heap.size A l) (hA' : ActsT w w.heap.size A' m) (hl : l.length ≤ maxLen) (hl' : m.length ≤ maxLen) (hh : heavyA 40 l = false) (hh' : heavyA 40 m = false) (h1 : 1 ≤ k) (h16 : k ≤ 16) :
    Calls Tryz.prog 8 #[.int .i64 (k : Int), .int .i64 (k : Int), .slice A l.length c, .slice A' m.length c'] w fun e w' => e = .returned (.bool true) ∧ Below w.heap.size w w' := by
  have hf := heavyA_few hh
  have hf' := heavyA_few hh'
  have HX := Lib.hid (And.intro hA (And.intro hA' (And.intro hl (And.intro hl' (And.intro hh (And.intro hh' hT))))))
  have HK := Lib.hid (And.intro hf (And.intro hf' (And.intro h1 h16)))
  have d1 : decide ((k : Int) < 1) = false := decide_eq_false (by omega)
  have d2 : decide ((16 : Int) < (k : Int)) = false := decide_eq_false (by omega)
  have d2' : decide (16 < k) = false := decide_eq_false (by omega)
  have d5 : ((k : Int) != (k : Int)) = false := by simp
  clear hA hA' hl hl' hh hh' hT hf hf' h1 h16
  go_enter Tryz.func8, Tryz.ntmps8
  go_wp2_with fail
  refine (awake12_c w HX.out.2.2.2.2.2.2).mono ?_
  rintro e w0 ⟨rfl, hb0⟩
  have HH := Lib.hid (rheavy7_c (c := c) (HX.out.1.below hb0 (Nat.le_refl _) (Nat.le_refl _)) HX.out.2.2.1 40 false HX.out.2.2.2.2.1)
  have HH' := Lib.hid (rheavy7_c (c := c') (HX.out.2.1.below hb0 (Nat.le_refl _) (Nat.le_refl _)) HX.out.2.2.2.1 40 false HX.out.2.2.2.2.2.1)
  have HB0 := Lib.hid hb0
  clear hb0
  go_wp2_with fail
  refine HH.out.mono ?_
  rintro e w' ⟨rfl, rfl⟩
  clear HH
  go_wp2_with fail
  refine HH'.out.mono ?_
  rintro e w' ⟨rfl, rfl⟩
  clear HH'
  go_wp2_with fail
  refine (grown_c (c := c) HK.out.2.2.1 HK.out.2.2.2 (HX.out.1.below HB0.out (Nat.le_refl _) (Nat.le_refl _)) HB0.out.size (by have := HK.out.1; omega)).mono ?_
  rintro e w2 ⟨t1, o1, D1, e1, rfl, hd1, -, hb2⟩
  have HD1 := Lib.hid (And.intro hd1 (Below.andThen HB0.out hb2))
  obtain ⟨N1, hN1⟩ : ∃ N, (Tr.entsO o1).length = N := ⟨_, rfl⟩
  have HN1 := Lib.hid hN1
  rw [hN1]
  clear hd1 hb2 hN1
  go_wp2_with fail
  refine (grown_c (c := c') HK.out.2.2.1 HK.out.2.2.2 (HX.out.2.1.below HD1.out.2 (Nat.le_refl _) (Nat.le_refl _)) HD1.out.2.size (by have := HK.out.2.1; omega)).mono ?_
  rintro e w3 ⟨t2, o2, D2, e2, rfl, hd2, -, hb3⟩
  have HD2 := Lib.hid (And.intro (HD1.out.1.below hb3) (And.intro hd2 (Below.andThen HD1.out.2 hb3)))
  obtain ⟨N2, hN2⟩ : ∃ N, (Tr.entsO o2).length = N := ⟨_, rfl⟩
  have HN2 := Lib.hid hN2
  rw [hN2]
  clear hd2 hb3 hN2 HD1
  have HTz : Hid (∀ w', Below w3.heap.size w3 w' → Tz w') := Lib.hid fun w' hb => (HX.out.2.2.2.2.2.2.on HD2.out.2.2).on hb
  obtain ⟨dL, zL⟩ := treeX_dz HD2.out.1.tree
  obtain ⟨dM, zM⟩ := treeX_dz HD2.out.2.1.tree
  have hfew := chL_few zL dL dM
  rw [HN1.out, HN2.out] at hfew
  have hs1 : N1 ≤ 40 := by have h := HD2.out.1.few; rw [HN1.out] at h; have := HK.out.1; omega
  have hs2 : N2 ≤ 40 := by have h := HD2.out.2.1.few; rw [HN2.out] at h; have := HK.out.2.1; omega
  obtain ⟨C, hC⟩ : ∃ C, Tr.chL (Tr.entsO o1) (Tr.entsO o2) = C := ⟨_, rfl⟩
  obtain ⟨n, hn⟩ : ∃ n, C.length = n := ⟨_, rfl⟩
  obtain ⟨r, hr⟩ : ∃ r, C.isEmpty = r := ⟨_, rfl⟩
  have hr2 : decide (Tr.entsO o1 = Tr.entsO o2) = r := by rw [← hr, ← hC]; exact (chL_empty zL zM dL dM).symm
  rw [hC, hn] at hfew
  have HC := Lib.hid (And.intro dL (And.intro zL (And.intro dM (And.intro zM (And.intro hC (And.intro hn (And.intro hr (And.intro hr2 (And.intro hs1 (And.intro hs2 hfew))))))))))
  have hn9 : (n : Int) ≤ 80 := by omega
  clear dL zL dM zM hC hn hr hr2 hs1 hs2 hfew
  go_wp2_with fail
  refine (dChanges_c HD2.out.1.tree HD2.out.2.1.tree HTz.out (C := C) HC.out.2.2.2.2.1 (by rw [HC.out.2.2.2.2.2.1]; have := HC.out.2.2.2.2.2.2.2.2.2.2; have := HC.out.2.2.2.2.2.2.2.2; omega) HC.out.2.2.2.2.2.1).mono ?_
  rintro e w4 ⟨X, x, rfl, hnew, hb4⟩
  have H4 := Lib.hid (And.intro (HD2.out.1.below hb4) (And.intro (HD2.out.2.1.below hb4) (And.intro (Below.andThen HD2.out.2.2 hb4) (And.intro hnew.chs hb4))))
  clear hb4 hnew
  go_wp2_with fail
  refine (dCount_c H4.out.1.tree H4.out.2.1.tree (fun w' hb => HTz.out w' (H4.out.2.2.2.2.trans (hb.mono H4.out.2.2.2.2.size))) (n := n) (by rw [← HC.out.2.2.2.2.2.1, ← HC.out.2.2.2.2.1]; rfl) (by omega)).mono ?_
  rintro e w5 ⟨rfl, hb5⟩
  have H5 := Lib.hid (And.intro (H4.out.1.below hb5) (And.intro (H4.out.2.1.below hb5) (And.intro (Below.andThen H4.out.2.2.1 hb5) (And.intro (H4.out.2.2.2.1.below hb5) (Below.andThen H4.out.2.2.2.2 hb5)))))
  clear hb5 H4
  go_wp2_with fail
  refine (dSteps_any H5.out.1.tree H5.out.2.1.tree (fun w' hb => HTz.out w' (H5.out.2.2.2.2.trans (hb.mono H5.out.2.2.2.2.size))) (by show (Tr.chL (Tr.entsO o1) (Tr.entsO o2)).length ≤ _; rw [HC.out.2.2.2.2.1, HC.out.2.2.2.2.2.1]; omega)).mono ?_
  rintro e w6 ⟨z, rfl, hb6⟩
  have H6 := Lib.hid (And.intro (H5.out.1.below hb6) (And.intro (H5.out.2.1.below hb6) (And.intro (Below.andThen H5.out.2.2.1 hb6) (And.intro (H5.out.2.2.2.1.below hb6) (Below.andThen H5.out.2.2.2.2 hb6)))))
  clear hb6 H5
  go_wp2_with fail
  refine (r12changes_c (c := e1) (c' := e2) HC.out.2.1 HC.out.1 HC.out.2.2.2.1 HC.out.2.2.1 (H6.out.1.list.ents H6.out.1.old (Nat.le_refl _)) (H6.out.2.1.list.ents H6.out.2.1.old (Nat.le_refl _)) HN1.out HN2.out (by have h := H6.out.1.cap; rw [HN1.out] at h; exact h) HK.out.2.2.1 HK.out.2.2.2 (by have := HC.out.2.2.2.2.2.2.2.2; omega) HC.out.2.2.2.2.1 HC.out.2.2.2.2.2.1).mono ?_
  rintro e w7 ⟨Y, y, rfl, hch, hb7⟩
  have H7 := Lib.hid (And.intro (H6.out.1.below hb7) (And.intro (H6.out.2.1.below hb7) (And.intro (Below.andThen H6.out.2.2.1 hb7) (And.intro (H6.out.2.2.2.1.below hb7) (And.intro hch (Below.andThen H6.out.2.2.2.2 hb7))))))
  clear hb7 hch H6
  go_wp2_with fail
  refine (rsame12_c (c := x) (c' := y) H7.out.2.2.2.1 H7.out.2.2.2.2.1 HC.out.2.2.2.2.2.1 (by omega)).mono ?_
  rintro e w8 ⟨rfl, hb8⟩
  have H8 := Lib.hid (And.intro (H7.out.1.below hb8) (And.intro (H7.out.2.1.below hb8) (And.intro (Below.andThen H7.out.2.2.1 hb8) (Below.andThen H7.out.2.2.2.2.2 hb8))))
  clear hb8 H7
  have HSm : Hid (∀ w9, Below w8.heap.size w8 w9 → Calls Tryz.prog 37 #[.pointer (some ⟨t1, 0, none⟩), .pointer (some ⟨t2, 0, none⟩)] w9 fun e w' => e = .returned (.bool r) ∧ Below w9.heap.size w9 w') := Lib.hid fun w9 hb => dSame_c (H8.out.1.below hb).tree (H8.out.2.1.below hb).tree (fun w' hb' => HTz.out w' ((Below.andThen H8.out.2.2.2 hb).trans (hb'.mono (Below.andThen H8.out.2.2.2 hb).size))) (by show (Tr.chL (Tr.entsO o1) (Tr.entsO o2)).length ≤ _; rw [HC.out.2.2.2.2.1, HC.out.2.2.2.2.2.1]; omega) (by rw [← HC.out.2.2.2.2.2.2.1, ← HC.out.2.2.2.2.1]; rfl)
  have HSe : Hid (∀ w9, Below w8.heap.size w8 w9 → Calls Tryz.prog 27 #[.slice D1 N1 e1, .slice D2 N2 e2] w9 fun e w' => e = .returned (.bool r) ∧ Below w9.heap.size w9 w') := Lib.hid fun w9 hb => rsameEnts_dec ((H8.out.1.below hb).list.ents (H8.out.1.below hb).old (Nat.le_refl _)) ((H8.out.2.1.below hb).list.ents (H8.out.2.1.below hb).old (Nat.le_refl _)) HN1.out HN2.out (by have := HC.out.2.2.2.2.2.2.2.2; omega) (by have := HC.out.2.2.2.2.2.2.2.2; omega) HC.out.2.2.2.2.2.2.2.1
  go_wp2_with fail
  refine (HSm.out w8 (Below.refl _ _)).mono ?_
  rintro e w9 ⟨rfl, hb9⟩
  have H9 := Lib.hid hb9
  clear hb9 HSm
  go_wp2_with fail
  refine (HSe.out w9 H9.out).mono ?_
  rintro e w10 ⟨rfl, hb10⟩
  have H10 := Lib.hid (Below.andThen H8.out.2.2.1 (Below.andThen H9.out hb10))
  clear hb10 HSe
  clear HC
  cases r with
  | true => (go_wp2_with fail); go_ret; exact ⟨rfl, H10.out⟩
  | false => (go_wp2_with fail); go_ret; exact ⟨rfl, H10.out⟩
theorem diffApart_c {w : World} {A A' : Option Addr} {c c' : Nat} {l m : List ActT} (k k2 : Int) (hT : Tz w) (hA : ActsT w w.heap.size A l) (hl : l.length ≤ maxLen) (hA' : ActsT w w.heap.size A' m) (hl' : m.length ≤ maxLen) :
    Calls Tryz.prog 8 #[.int .i64 k, .int .i64 k2, .slice A l.length c, .slice A' m.length c'] w fun e w' => e = .returned (.bool true) ∧ Below w.heap.size w w' := by
  by_cases h : (heavyA 40 l || heavyA 40 m || decide (k < 1) || decide (16 < k) || decide (k2 < 1) || decide (16 < k2)) = true
  · exact diffApart_skip k k2 hT hA hA' hl hl' _ _ _ _ _ _ rfl rfl rfl rfl rfl rfl h
  · simp only [Bool.or_eq_true, decide_eq_true_eq, not_or, Bool.not_eq_true] at h
    obtain ⟨⟨⟨⟨⟨h1, h2⟩, h3⟩, h4⟩, h5⟩, h6⟩ := h
    obtain ⟨a, rfl⟩ : ∃ a : Nat, k = (a : Int) := ⟨k.toNat, by omega⟩
    obtain ⟨b, rfl⟩ : ∃ b : Nat, k2 = (b : Int) := ⟨k2.toNat, by omega⟩
    by_cases hk : a = b
    · subst hk
      exact diffApart_yes a hT hA hA' hl hl' h1 h2 (by omega) (by omega)
    · exact diffApart_dim a b hk hT hA hA' hl hl' h1 h2 (by omega) (by omega) (by omega) (by omega)
end Go.Proofs.YtjcmehplcagejaaGreatDoor
