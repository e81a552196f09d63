import Derived.Test.YtmdohckoegpgkaaGreatDoorM20
/-
  CONTRACTS of package pantileref06, sixth part: Shape of two entries or more.
-/
namespace Go.Proofs.YtmdohckoegpgkaaGreatDoor
open Go.ChangeShapes Go.WideShapes Go.ChangeAt Go.RowKit
open Tr (T S4 Ent)

/-- the row of the kids' lists behind an append to another row -/
theorem kids_grown {wr w1 : World} {o : Obj} {row : Option Nat} {B : Nat} {A : Option Addr} {xs : List Value} {V : Value} (h : RdV wr B A xs) (hB : B ≤ wr.heap.size) (hg : (wr.alloc o).grownBy w1 row) (hne : ∀ x, A = some x → ∀ q, row = some q → x.block ≠ q)
    (hat : V.ownBlock = row ∨ V.ownBlock = some (wr.alloc o).heap.size) (hlt : ∀ x, A = some x → x.block < B) : RdV w1 B A xs ∧ B ≤ w1.heap.size ∧ ∀ x, A = some x → ∀ q, V.ownBlock = some q → x.block ≠ q := by
  have hs : (wr.alloc o).heap.size = wr.heap.size + 1 := by simp
  have hg1 := hg.size
  refine ⟨rdV_grown (h.below (below_alloc wr o) hB (Nat.le_refl _)) hg (by omega) (fun x hx e => hne x hx _ e rfl), by omega, fun x hx q hq => ?_⟩
  rcases hat with e | e
  · exact hne x hx q (by rw [← e]; exact hq)
  · rw [e] at hq
    have := hlt x hx
    simp only [Option.some.injEq] at hq
    omega

set_option maxRecDepth 100000 in
set_option maxHeartbeats 4000000 in
theorem rshape_br_new {w : World} {B b off c k g l : Nat} {pre : List Nat} {ks : List (Nat × T)} (wf : Tr.Wf k (.br g l pre ks)) (h : Ents w B (some ⟨b, off, none⟩) (Tr.entsL ks)) (hB : B ≤ w.heap.size) (hc : (Tr.entsL ks).length ≤ c) (hl : (Tr.entsL ks).length ≤ 1000000) :
    Calls Tryz.prog 92 #[.slice (some ⟨b, off, none⟩) (Tr.entsL ks).length c] w fun e w' => ShapeNew w.heap.size w' e (l : Int) pre (Sl.keys (kidL ks)) (denseT k (.br g l pre ks)) 0 ∧ Below w.heap.size w w' := by
  obtain ⟨e0, e1, i0, i1, k0, k1, o0, o1, hpart, hcut, hlen2⟩ := Tr.ends_part wf
  have h63 : l ≤ 63 := by cases wf with | br _ _ _ _ h63 => exact h63
  obtain ⟨b', off', A0, c0, hA, hb, x0, -, p0, -, -⟩ := h.at i0
  simp only [Option.some.injEq, Addr.mk.injEq, and_true] at hA
  obtain ⟨rfl, rfl⟩ := hA
  rw [Nat.zero_mul, Nat.add_zero] at x0
  have hbw : b < w.heap.size := by omega
  have HL : Hid (∀ w1, Below w.heap.size w w1 → Calls Tryz.prog 140 #[.slice (some ⟨b, off, none⟩) (Tr.entsL ks).length c] w1 fun e w' => e = .returned (.int .i64 (l : Int)) ∧ ∃ n, w' = w1.drewN n) := Lib.hid fun w1 hb1 =>
    rlevel_c (h.below hb1 hB (Nat.le_refl _)) hl i0 i1 (by have := wf.k1; omega) (by have := wf.k16; omega) (by omega) (l : Int) hpart
  have HC : Hid (∀ w1, Below w.heap.size w w1 → Calls Tryz.prog 141 #[.slice A0 e0.1.length c0, .int .i64 (l : Int)] w1 fun e w' => ∃ v, e = .returned v ∧ Own w' w1.heap.size v pre ∧ Below w1.heap.size w1 w') := Lib.hid fun w1 hb1 => by
    rw [← hcut]
    exact rcut_lev A0 c0 e0.1 l B w1 (p0.below' hb1 hB) (Nat.le_trans hB hb1.size) (by have := wf.k1; omega) (by have := wf.k16; omega) h63
  have HX := Lib.hid (And.intro wf (And.intro h (And.intro hB (And.intro hc (And.intro hl (And.intro p0 k0))))))
  have hpl : Hid (pre.length = k) := Lib.hid wf.len
  obtain ⟨N, hN⟩ : ∃ N, (Tr.entsL ks).length = N := ⟨_, rfl⟩
  have HN := Lib.hid hN
  have n1 : ((N : Int) == 1) = false := by rw [beq_eq_false_iff_ne]; omega
  rw [hN] at hc hl hlen2 HL ⊢
  have hN0 : (0 : Int) < (N : Int) := by omega
  have hN1 : 0 < N := by omega
  have hbel := below_alloc w (.cells #[.int .i64 0, .slice none 0 0, .slice none 0 0, .bool false, .int .u64 0] 128)
  have HQ := Lib.hid (q5_at (heap_at w (.cells #[.int .i64 0, .slice none 0 0, .slice none 0 0, .bool false, .int .u64 0] 128) _ rfl))
  have hsz : (w.alloc (.cells #[.int .i64 0, .slice none 0 0, .slice none 0 0, .bool false, .int .u64 0] 128)).heap.size = w.heap.size + 1 := by simp
  have wfk : 1 ≤ k ∧ k ≤ 16 := ⟨wf.k1, wf.k16⟩
  have q0 : ∀ w', Below w.heap.size w w' → w'.cell? ⟨b, off, none⟩ = some (.slice A0 e0.1.length c0) := fun w' hb => (hb.cell (p := ⟨b, off, none⟩) hbw).trans x0
  clear wf h hB hN i0 i1 k0 k1 o0 o1 hpart hcut x0 p0
  go_enter Tryz.func92, Tryz.ntmps92
  go_upto_region 3 with fail
  generalize w.alloc _ = W at *
  go_cut [3] from 28 (fun s wx => ∃ g3, s = Value.pointer (some ⟨g3, 0, none⟩) ∧ Lay6 w wx g3 l 0 pre (.slice none 0 0) [])
  case first =>
    have hsW : w.heap.size + 1 ≤ W.heap.size := Nat.le_of_eq hsz.symm
    go_region_held3 (fun w' => Below w.heap.size w w') (((repeat (first | refine Below.drew ?_ | (with_reducible refine below_drewN _ ?_) | refine Below.alloc ?_ (by first | omega | (simp; done) | (simp; omega)) _ | refine Below.setCell ?_ (by first | omega | (simp; done) | (simp; omega)) _)); first | exact Below.refl _ _ | assumption | exact below_drewN _ (Below.refl _ _) | exact below_drewN _ (below_drewN _ (Below.refl _ _))))
      ((first
        | (go_at_call 140; refine (HL.out _ (show Below w.heap.size w _ by ((repeat (first | refine Below.drew ?_ | (with_reducible refine below_drewN _ ?_) | refine Below.alloc ?_ (by first | omega | (simp; done) | (simp; omega)) _ | refine Below.setCell ?_ (by first | omega | (simp; done) | (simp; omega)) _)); first | exact Below.refl _ _ | assumption | exact below_drewN _ (Below.refl _ _) | exact below_drewN _ (below_drewN _ (Below.refl _ _))))).mono ?_; rintro e w' ⟨rfl, n, rfl⟩)
        | (go_at_call 141; refine (HC.out _ (show Below w.heap.size w _ by ((repeat (first | refine Below.drew ?_ | (with_reducible refine below_drewN _ ?_) | refine Below.alloc ?_ (by first | omega | (simp; done) | (simp; omega)) _ | refine Below.setCell ?_ (by first | omega | (simp; done) | (simp; omega)) _)); first | exact Below.refl _ _ | assumption | exact below_drewN _ (Below.refl _ _) | exact below_drewN _ (below_drewN _ (Below.refl _ _))))).mono ?_; rintro e w2 ⟨v, rfl, ho, hb2⟩; obtain ⟨A1, c1, hv, hp⟩ := ho.pts; subst hv; have hb2' := Below.trans (show Below w.heap.size w _ by ((repeat (first | refine Below.drew ?_ | (with_reducible refine below_drewN _ ?_) | refine Below.alloc ?_ (by first | omega | (simp; done) | (simp; omega)) _ | refine Below.setCell ?_ (by first | omega | (simp; done) | (simp; omega)) _)); first | exact Below.refl _ _ | assumption | exact below_drewN _ (Below.refl _ _) | exact below_drewN _ (below_drewN _ (Below.refl _ _)))) (hb2.mono (Below.size (show Below w.heap.size w _ by ((repeat (first | refine Below.drew ?_ | (with_reducible refine below_drewN _ ?_) | refine Below.alloc ?_ (by first | omega | (simp; done) | (simp; omega)) _ | refine Below.setCell ?_ (by first | omega | (simp; done) | (simp; omega)) _)); first | exact Below.refl _ _ | assumption | exact below_drewN _ (Below.refl _ _) | exact below_drewN _ (below_drewN _ (Below.refl _ _)))))); have hz2 := hb2'.size; have hz3 : w.heap.size + 1 ≤ w2.heap.size := Nat.le_trans (by first | omega | (simp; omega)) hb2.size; have HP2 := Lib.hid (And.intro hp ho); (try (have G3 := Lib.hid (Q5.below (b := w.heap.size + 1) (q5_at (x0 := .int .i64 0) (x1 := .slice none 0 0) (x2 := .slice none 0 0) (x3 := .bool false) (x4 := .int .u64 0) (t := 128) (by first | (refine heap_at _ _ _ ?_; simp; omega) | (refine heap_at _ _ _ ?_; omega))) hb2 (by first | omega | (simp; omega))); obtain ⟨⟨k0, k1, k2, k3, k4⟩, ⟨f0, f1, f2, f3, f4⟩⟩ := G3.out; have hz4 : w.heap.size + 2 ≤ w2.heap.size := Nat.le_trans (by first | omega | (simp; omega)) hb2.size)); have Q2 := Lib.hid (Q5.below HQ.out (show Below W.heap.size W _ from (Below.trans (by ((repeat (first | refine Below.drew ?_ | (with_reducible refine below_drewN _ ?_) | refine Below.alloc ?_ (by first | omega | (simp; done) | (simp; omega)) _ | refine Below.setCell ?_ (by first | omega | (simp; done) | (simp; omega)) _)); first | exact Below.refl _ _ | assumption | exact below_drewN _ (Below.refl _ _) | exact below_drewN _ (below_drewN _ (Below.refl _ _)))) (hb2.mono (by first | exact Nat.le_refl _ | (simp; done) | (simp; omega))))) (by omega)); clear hp ho hb2)))
    all_goals go_wp2_with fail
    all_goals go_meet
    all_goals (first
      | ((with_reducible refine ⟨w.heap.size + 1, rfl, lay6_set (by omega) (by omega) G3.out HP2.out.1 HP2.out.2 ?_ Q2.out hb2'⟩); first | omega | (simp; omega))
      | ((with_reducible refine ⟨w2.heap.size, rfl, lay6_new (by omega) HP2.out.1 HP2.out.2 ?_ Q2.out hb2'⟩); first | omega | (simp; omega)))
  case rest =>
  obtain ⟨g3, rfl, hL3⟩ := hcut
  have L3 := Lib.hid hL3
  have HB3 := Lib.hid hL3.2.2.2.2.2.2.2
  have HQ0 := Lib.hid (And.intro q0 (And.intro HX.out.2.2.2.2.2.2 wfk))
  clear hL3 q0 wfk
  have HKd := rkids_c HX.out.1 (HX.out.2.1.below HB3.out HX.out.2.2.1 (Nat.le_refl _)) (Nat.le_trans HX.out.2.2.1 HB3.out.size) HX.out.2.2.2.1 HX.out.2.2.2.2.1
  rw [HN.out] at HKd
  have HKd := Lib.hid HKd
  go_wp2_with fail
  refine HKd.out.mono ?_
  rintro e w4 ⟨A4, d4, rfl, hlo4, hr4, hb4⟩
  have L4 := Lib.hid (L3.out.below hb4)
  have HR4 := Lib.hid hr4
  have hA4 : ∀ x, A4 = some x → x.block ≠ g3 := fun x hx => by have h1 := hlo4 x hx; have h2 := L3.out.2.1; omega
  have HA4 := Lib.hid hA4
  have hpne : pre ≠ [] := by intro e; have h1 := HX.out.1.len; have h2 := HX.out.1.k1; simp [T.pre, e] at h1; omega
  have Hpne := Lib.hid hpne
  have Hks : Hid (ks.length ≤ 65536) := Lib.hid (by cases HX.out.1 with | br _ _ _ _ _ hw => exact hw.len16)
  have hks := Hks.out
  clear hr4 hb4 hlo4 hA4 hpne HKd
  go_wp2_with fail
  go_loopw [5] (fun i wr => ∃ (j : Nat) (V : Value), j ≤ ks.length ∧ i = .int .i64 j ∧ Lay6 w wr g3 l j pre V (Sn.intV (Sl.keys (kidL (ks.take j)))) ∧ RdV wr w4.heap.size A4 (kidsV b off c ks ks.length) ∧ w4.heap.size ≤ wr.heap.size ∧ ∀ x, A4 = some x → ∀ q, V.ownBlock = some q → x.block ≠ q) (fun i _ => ks.length - (intOf i).toNat)
  case atStart => exact ⟨0, .slice none 0 0, Nat.zero_le _, rfl, L4.out, HR4.out, Nat.le_refl _, fun x hx q hq => by simp [Value.ownBlock] at hq⟩
  case round =>
    clear L3 L4 HR4
    obtain ⟨j, V, hj, rfl, hlay, hrd, hs4, hVA⟩ := hrel
    by_cases hlt : j < ks.length
    · obtain ⟨x, hx⟩ := get_lt hlt
      have hmem := List.mem_of_getElem? hx
      have hpos := Tr.ents_pos' (HX.out.1.kid hmem)
      obtain ⟨e, he⟩ := get_lt hpos
      have i0 := Tr.ents_at hx hpos
      rw [he, Nat.add_zero] at i0
      obtain ⟨b', off', Ax, cx, hA, -, x0, -, px, -, -⟩ := HX.out.2.1.at i0
      simp only [Option.some.injEq, Addr.mk.injEq, and_true] at hA
      obtain ⟨rfl, rfl⟩ := hA
      have hent := (HX.out.1.kid hmem).entry (List.mem_of_getElem? he)
      have ha := Tr.kid_addr HX.out.1 hmem (List.mem_of_getElem? he)
      obtain ⟨pb, po, hA4, hpb, hcell⟩ := hrd.at (kidsV_get b off c ks hlt)
      have HP : Hid (∀ x, A4 = some x → x.block < w4.heap.size) := Lib.hid (fun x hx => by rw [hA4] at hx; cases hx; exact hpb)
      have hbW := 0
      rw [kidV_at b off c hx] at hcell
      subst hA4
      have hbe := hlay.2.2.2.2.2.2.2
      have y0 : wr.cell? ⟨b, off + Tr.offK ks j * 2, none⟩ = some (.slice Ax e.1.length cx) := (hbe.cell (p := ⟨b, off + Tr.offK ks j * 2, none⟩) hbw).trans x0
      have HA : Hid (∀ w1, Below wr.heap.size wr w1 → Calls Tryz.prog 61 #[.slice Ax e.1.length cx, .int .i64 (l : Int)] w1 fun e w' => e = .returned (.int .i64 (x.1 : Int)) ∧ w1 = w') := Lib.hid fun w1 hb1 => by
        rw [← ha]; exact raddr_c Ax cx e.1 l B w1 (px.below' (hbe.trans (hb1.mono hbe.size)) HX.out.2.2.1) (by rw [hent.1]; exact HQ0.out.2.2.1) (by rw [hent.1]; exact HQ0.out.2.2.2) h63
      have hps : Hid (Sn.intV (Sl.keys (kidL (ks.take (j + 1)))) = Sn.intV (Sl.keys (kidL (ks.take j))) ++ [.int .i64 (x.1 : Int)]) := Lib.hid (by
        obtain ⟨hj', rfl⟩ := List.getElem?_eq_some_iff.1 hx
        rw [List.take_succ_eq_append_getElem hj']
        simp only [Sn.intV, Sl.keys, kidL, List.map_append, List.map_cons, List.map_nil])
      obtain ⟨o, ho⟩ : ∃ o, Tr.offK ks j = o := ⟨_, rfl⟩
      rw [ho] at y0 hcell
      obtain ⟨M, hM⟩ : ∃ M, x.2.ents.length = M := ⟨_, rfl⟩
      rw [hM] at hcell hpos
      have HY := Lib.hid (And.intro hlay (And.intro hrd (And.intro hs4 hVA)))
      obtain ⟨g1, g2, ⟨A1, c1, q3, -, -⟩, hnn, hown, -, -, -⟩ := hlay
      obtain ⟨⟨k0, k1, k2, k3, k4⟩, ⟨f0, f1, f2, f3, f4⟩⟩ := q3
      have O1 := Lib.hid (And.intro hown hnn)
      have m1 : (0 : Int) ≤ (j : Int) := by omega
      have m2 : (j : Int) < (ks.length : Int) := by omega
      have m3 : (0 : Int) < (M : Int) := by omega
      have hb0 : Below wr.heap.size wr wr := Below.refl _ _
      have hb1 : Below wr.heap.size wr wr.drew := (Below.refl _ _).drew
      have hszr := hbe.size
      have hbe0 := Lib.hid hbe
      clear hx hmem he i0 x0 px hent ha hbe ho hM hown hnn hrd hs4 hVA
      go_wp2_with fail
      go_region_law ((first
        | (go_simp; go_at_call 61; refine (HA.out _ (by ((repeat (first | refine Below.drew ?_ | (with_reducible refine below_drewN _ ?_) | refine Below.alloc ?_ (by first | omega | (simp; done) | (simp; omega)) _ | refine Below.setCell ?_ (by first | omega | (simp; done) | (simp; omega)) _)); first | exact Below.refl _ _ | assumption | exact below_drewN _ (Below.refl _ _) | exact below_drewN _ (below_drewN _ (Below.refl _ _))))).mono ?_; rintro e w' ⟨rfl, rfl⟩)
        | (refine step_append_sl 126 3 (.int .i64 0) 8 Tryz.underlying126 Sn.infoI (by rfl) (by omega) (by rfl) _ _ (by rfl) (w.heap.size + 1) V (Sn.intV (Sl.keys (kidL (ks.take j)))) [.int .i64 (x.1 : Int)] (j + 1) (by rw [List.length_append, O1.out.2]; rfl) (by rfl) (by exact ⟨O1.out.1.1, O1.out.1.2.alloc _⟩) _ _ 1 1 (by rfl) (by rfl) (by exact rdV_one _ _ _) (fun y hy => by simp at hy; subst hy; rfl) (by have := Hks.out; omega) (by (first | omega | (simp; done) | (simp; omega))) ?_; intro D d w1 hown1 hgrow1 hat1; have HLS := Lib.hid (by first | exact lay6_step (HY.out.1.below hb1) Hpne.out _ hown1 hgrow1 hat1 | exact lay6_step HY.out.1 Hpne.out _ hown1 hgrow1 hat1 | exact lay6_step HY.out.1 Hpne.out _ hown1 (Sn.grown_undrew hgrow1) hat1 : (∃ A1 c1, Q5 w1 g3 (.int .i64 (l : Int)) (.slice A1 pre.length c1) V (.bool false) (.int .u64 0)) ∧ Lay6 w (w1.setCell ⟨g3, 2, none⟩ _) g3 l (j + 1) pre _ (Sn.intV (Sl.keys (kidL (ks.take j))) ++ [.int .i64 (x.1 : Int)])); have HRK := Lib.hid (by first | exact kids_grown HY.out.2.1 HY.out.2.2.1 hgrow1 HY.out.2.2.2 hat1 HP.out | exact kids_grown HY.out.2.1 HY.out.2.2.1 (Sn.grown_undrew hgrow1) HY.out.2.2.2 hat1 HP.out | exact kids_grown (wr := wr.drew) HY.out.2.1 HY.out.2.2.1 hgrow1 HY.out.2.2.2 hat1 HP.out : RdV w1 w4.heap.size (some ⟨pb, po, none⟩) (kidsV b off c ks ks.length) ∧ w4.heap.size ≤ w1.heap.size ∧ ∀ y, some (⟨pb, po, none⟩ : Addr) = some y → ∀ q, (Value.slice D (j + 1) d).ownBlock = some q → y.block ≠ q); obtain ⟨A9, c9, ⟨⟨z0, z1, z2, z3, z4⟩, ⟨v0, v1, v2, v3, v4⟩⟩⟩ := HLS.out.1; clear hgrow1 hat1 hown1)))
      all_goals (clear k0 k1 k2 k3 k4 f0 f1 f2 f3 f4 y0 hcell hb0 hb1)
      all_goals go_wp2_with fail
      all_goals go_roundw
      all_goals (first
        | (simp [intOf]; omega; done)
        | (refine ⟨j + 1, _, hlt, rfl, by rw [hps.out]; exact HLS.out.2, rdV_set HRK.out.1 HA4.out _, ?_, HRK.out.2.2⟩; rw [World.size_setCell]; exact HRK.out.2.1))
    · have hjk : j = ks.length := by omega
      subst hjk
      rw [List.take_of_length_le (Nat.le_refl _)] at hlay
      obtain ⟨h1, h2, ⟨A1, c1, q3, p1, hA1⟩, -, hown, h8, qw, hbe⟩ := hlay
      obtain ⟨AV, cV, hV, -, -⟩ := hown.rd
      have hkl : (Sn.intV (Sl.keys (kidL ks))).length = (Sl.keys (kidL ks)).length := Sn.intV_length _
      rw [hkl] at hV
      subst hV
      have y0 := HQ0.out.1 wr hbe
      have hk0 := HQ0.out.2.1
      rw [hk0] at y0
      obtain ⟨d, hd⟩ : ∃ d, Sl.dense k (kidL ks) = d := ⟨_, rfl⟩
      have HD := Lib.hid (rdense6_c k ks.length wr HQ0.out.2.2.2 hks d (by rw [← hd, Sl.dense, show (kidL ks).length = ks.length by simp [kidL]]))
      have HE := Lib.hid (And.intro p1 (And.intro hA1 (And.intro hown (And.intro h8 (And.intro qw (And.intro hbe (And.intro q3 hd)))))))
      obtain ⟨⟨k0, k1, k2, k3, k4⟩, ⟨f0, f1, f2, f3, f4⟩⟩ := q3
      obtain ⟨⟨j0, j1, j2, j3, j4⟩, ⟨u0, u1, u2, u3', u4'⟩⟩ := qw
      have hgw : g3 ≠ w.heap.size := by omega
      have hgw' : w.heap.size ≠ g3 := by omega
      clear p1 hA1 hown h8 hbe hd hkl hk0 hrd hVA hj hlt
      go_wp2_with (go_at_call 142; refine HD.out.mono ?_; rintro e w' ⟨rfl, rfl⟩)
      have qw' := (HE.out.2.2.2.2.1.other ⟨g3, 3, none⟩ (.bool d) hgw)
      have qf := qw'.set (.int .i64 (l : Int)) (.slice A1 pre.length c1) (.slice AV (Sl.keys (kidL ks)).length cV) (.bool d) (.int .u64 0)
      obtain ⟨⟨z0, z1, z2, z3, z4⟩, -⟩ := qf
      refine bodyPost_ret (v := shapeV (l : Int) A1 pre.length c1 AV (Sl.keys (kidL ks)).length cV d 0) (by simp [results, Tryz.results92, go_sem, z0, z1, z2, z3, z4]) rfl ?_
      have hb := HE.out.2.2.2.2.2.1
      have hd := HE.out.2.2.2.2.2.2.2
      have a3 : ∀ x, A1 = some x → x.block ≠ (⟨g3, 3, none⟩ : Addr).block := fun x hx => (HE.out.2.1 x hx).1
      have aw : ∀ i, ∀ x, A1 = some x → x.block ≠ (⟨w.heap.size, i, none⟩ : Addr).block := fun i x hx => by have := (HE.out.2.1 x hx).2.1; show x.block ≠ w.heap.size; omega
      have v3 : ∀ x, AV = some x → x.block ≠ (⟨g3, 3, none⟩ : Addr).block := fun x hx => HE.out.2.2.2.1 x.block (by subst hx; rfl)
      have vw : ∀ i, ∀ x, AV = some x → x.block ≠ (⟨w.heap.size, i, none⟩ : Addr).block := fun i x hx => by have := (HE.out.2.2.1.lt x.block (by subst hx; rfl)).1; show x.block ≠ w.heap.size; omega
      have pp := pts_set (pts_set (pts_set (pts_set (pts_set (pts_set HE.out.1 a3 (.bool d)) (aw 0) (.int .i64 (l : Int))) (aw 1) (.slice A1 pre.length c1)) (aw 2) (.slice AV (Sl.keys (kidL ks)).length cV)) (aw 3) (.bool d)) (aw 4) (.int .u64 0)
      have rr := rdV_set (rdV_set (rdV_set (rdV_set (rdV_set (rdV_set HE.out.2.2.1.rd_at v3 (.bool d)) (vw 0) (.int .i64 (l : Int))) (vw 1) (.slice A1 pre.length c1)) (vw 2) (.slice AV (Sl.keys (kidL ks)).length cV)) (vw 3) (.bool d)) (vw 4) (.int .u64 0)
      refine ⟨⟨A1, c1, AV, cV, ?_, pp.keep (by simp) (fun _ _ => rfl), rr.keep (by simp) (fun _ _ => rfl), fun x hx => Nat.le_of_lt (HE.out.2.1 x hx).2.1, fun _ x hx => by have := (HE.out.2.2.1.lt x.block (by subst hx; rfl)).1; omega⟩, ?_⟩
      · rw [show denseT k (.br g l pre ks) = d from hd]
      · exact (((((hb.setCell (p := ⟨g3, 3, none⟩) (Nat.le_of_lt h1) _).setCell (p := ⟨w.heap.size, 0, none⟩) (Nat.le_refl _) _).setCell (p := ⟨w.heap.size, 1, none⟩) (Nat.le_refl _) _).setCell (p := ⟨w.heap.size, 2, none⟩) (Nat.le_refl _) _).setCell (p := ⟨w.heap.size, 3, none⟩) (Nat.le_refl _) _).setCell (p := ⟨w.heap.size, 4, none⟩) (Nat.le_refl _) _
theorem rshape_br {w : World} {B b off c k g l : Nat} {pre : List Nat} {ks : List (Nat × T)} (wf : Tr.Wf k (.br g l pre ks)) (h : Ents w B (some ⟨b, off, none⟩) (Tr.entsL ks)) (hB : B ≤ w.heap.size) (hc : (Tr.entsL ks).length ≤ c) (hl : (Tr.entsL ks).length ≤ 1000000) :
    Calls Tryz.prog 92 #[.slice (some ⟨b, off, none⟩) (Tr.entsL ks).length c] w fun e w' => ShapeAt w' e (l : Int) pre (Sl.keys (kidL ks)) (denseT k (.br g l pre ks)) 0 ∧ Below w.heap.size w w' :=
  (rshape_br_new wf h hB hc hl).mono fun _ _ h => ⟨h.1.at, h.2⟩
end Go.Proofs.YtmdohckoegpgkaaGreatDoor
