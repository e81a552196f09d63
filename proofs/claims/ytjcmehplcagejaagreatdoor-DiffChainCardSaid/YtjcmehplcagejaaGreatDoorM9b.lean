import Derived.Test.YtjcmehplcagejaaGreatDoorM9a
/-
  THE LAW DiffChain: its mathematics; rows appended; the search for a point.
-/
namespace Go.Proofs.YtjcmehplcagejaaGreatDoor
open Go.ChangeShapes Go.WideShapes Go.ChangeAt Go.RowKit
open Tr (T S4 Ent Sd Fl Chg)

theorem nodup_len {α : Type} : ∀ {A B : List α}, A.Nodup → (∀ a ∈ A, a ∈ B) → A.length ≤ B.length
  | [], _, _, _ => Nat.zero_le _
  | a :: A, B, h, hs => by
    obtain ⟨s, t, rfl⟩ := List.append_of_mem (hs a List.mem_cons_self)
    obtain ⟨h1, h2⟩ := List.nodup_cons.1 h
    have := nodup_len (A := A) (B := s ++ t) h2 (fun x hx => by
      have hm := hs x (List.mem_cons_of_mem _ hx)
      rw [List.mem_append, List.mem_cons] at hm
      rw [List.mem_append]
      rcases hm with hm | rfl | hm
      · exact .inl hm
      · exact absurd hx h1
      · exact .inr hm)
    simp only [List.length_cons, List.length_append] at this ⊢
    omega
theorem chain_pt {k : Nat} {L M N : List Ent} (zL : Tr.ZS L) (zM : Tr.ZS M) (zN : Tr.ZS N) (dL : Tr.Dim k L) (dM : Tr.Dim k M) (dN : Tr.Dim k N) {c : Chg} (h : c ∈ Tr.chL L N) : ∃ d ∈ Tr.chL L M ++ Tr.chL M N, d.1 = c.1 := by
  have hc := (Tr.mem_chL zL zN dL dN).1 h
  have hp : c.1.length = k ∧ Z.Ok c.1 := by
    rcases hc.point with ⟨v, hv⟩ | ⟨v, hv⟩
    · exact ⟨(dL _ hv).1, (dL _ hv).2.1⟩
    · exact ⟨(dN _ hv).1, (dN _ hv).2.1⟩
  obtain ⟨h1, h2, h3⟩ := hc
  by_cases hg : c.2.1 = Tr.getE M c.1
  · refine ⟨(c.1, Tr.getE M c.1, c.2.2), List.mem_append_right _ ((Tr.mem_chL zM zN dM dN).2 ⟨fun v => Tr.getE_iff zM dM hp.1 hp.2, h2, fun e => h3 (hg.trans e)⟩), rfl⟩
  · refine ⟨(c.1, c.2.1, Tr.getE M c.1), List.mem_append_left _ ((Tr.mem_chL zL zM dL dM).2 ⟨h1, fun v => Tr.getE_iff zM dM hp.1 hp.2, hg⟩), rfl⟩
theorem chain_len {k : Nat} {L M N : List Ent} (zL : Tr.ZS L) (zM : Tr.ZS M) (zN : Tr.ZS N) (dL : Tr.Dim k L) (dM : Tr.Dim k M) (dN : Tr.Dim k N) : (Tr.chL L N).length ≤ (Tr.chL L M).length + (Tr.chL M N).length := by
  have hnd : ((Tr.chL L N).map (·.1)).Nodup := by
    refine List.pairwise_map.2 ((Tr.chL_cs zL dL dN).imp fun {a b} h e => ?_)
    rw [e] at h
    exact Nat.lt_irrefl _ h
  have h := nodup_len (B := (Tr.chL L M ++ Tr.chL M N).map (·.1)) hnd fun p hp => by
    obtain ⟨c, hc, rfl⟩ := List.mem_map.1 hp
    obtain ⟨d, hd, e⟩ := chain_pt zL zM zN dL dM dN hc
    exact List.mem_map.2 ⟨d, hd, e⟩
  simpa using h
theorem lst_later2 {α : Type} {n : Nat} {Q : (Nat → Option Value) → α → Prop} {w w' : World} {R C : Nat} {A : Option Addr} {L : List α} (hQ : QOk n Q) (h : Lst n Q w R A L) (hb : Below C w w') (hC : R ≤ C) : Lst n Q w' R A L := by
  intro hn
  obtain ⟨b, off, hA, hbR, hc⟩ := h hn
  exact ⟨b, off, hA, hbR, fun i a ha => hQ.ext _ _ _ (fun j _ => (hb.cell (p := ⟨b, _, none⟩) (Nat.lt_of_lt_of_le hbR hC)).symm) (hc i a ha)⟩
/-- a new list, at a later world -/
theorem NewC.lst {base : Nat} {w w' : World} {A : Option Addr} {c : Nat} {L : List Chg} (h : NewC base w A c L) (hb : Below w.heap.size w w') : Lst 5 (ChG w' fun b => b < w'.heap.size) w' w'.heap.size A L := by
  have h2 := OwnL.imp (OwnL.below h hb (Nat.le_refl _)) (ChG.step (w' := w') (G' := fun b => b < w'.heap.size) hb.size fun b hlt _ => ⟨hb.block b hlt, Nat.lt_of_lt_of_le hlt hb.size⟩)
  obtain ⟨A', c', hv, -, hl⟩ := OwnL.rd (chG_ok _ _) h2
  simp only [Value.slice.injEq] at hv
  obtain ⟨rfl, -, -⟩ := hv
  exact hl
end Go.Proofs.YtjcmehplcagejaaGreatDoor

/-
  THE LAW DiffChain. Laid by wip/gen54.py.
-/
namespace Go.Proofs.YtjcmehplcagejaaGreatDoor
open Go.ChangeShapes Go.WideShapes Go.ChangeAt Go.RowKit
open Tr (T S4 Ent Sd Fl Chg)

set_option maxRecDepth 100000 in
set_option maxHeartbeats 2000000 in
theorem diffChain_skip {w : World} {A1 A2 A3 : Option Addr} {c1 c2 c3 : Nat} {l1 l2 l3 : List ActT} (k : Int) (hT : Tz w) (hA1 : ActsT w w.heap.size A1 l1) (hA2 : ActsT w w.heap.size A2 l2) (hA3 : ActsT w w.heap.size A3 l3) (hl1 : l1.length ≤ maxLen) (hl2 : l2.length ≤ maxLen) (hl3 : l3.length ≤ maxLen) (r1 r2 r3 b1 b2 : Bool) (hh1 : heavyA 24 l1 = r1) (hh2 : heavyA 24 l2 = r2) (hh3 : heavyA 24 l3 = r3)
    (hb1 : decide (k < 1) = b1) (hb2 : decide (16 < k) = b2) (hor : (r1 || r2 || r3 || b1 || b2) = true) :
    Calls Tryz.prog 9 #[.int .i64 k, .slice A1 l1.length c1, .slice A2 l2.length c2, .slice A3 l3.length c3] w fun e w' => e = .returned (.bool true) ∧ Below w.heap.size w w' := by
  have HA := Lib.hid (And.intro hA1 (And.intro hA2 (And.intro hA3 hT)))
  have HL := Lib.hid (And.intro hl1 (And.intro hl2 hl3))
  have HY := Lib.hid (And.intro hh1 (And.intro hh2 hh3))
  clear hA1 hA2 hA3 hl1 hl2 hl3 hh1 hh2 hh3 hT
  go_enter Tryz.func9, Tryz.ntmps9
  go_wp2_with fail
  refine (awake12_c w HA.out.2.2.2).mono ?_
  rintro e w1 ⟨rfl, hb⟩
  have G1 := Lib.hid (rheavy7_c (c := c1) (HA.out.1.below hb (Nat.le_refl _) (Nat.le_refl _)) HL.out.1 24 r1 HY.out.1)
  have G2 := Lib.hid (rheavy7_c (c := c2) (HA.out.2.1.below hb (Nat.le_refl _) (Nat.le_refl _)) HL.out.2.1 24 r2 HY.out.2.1)
  have G3 := Lib.hid (rheavy7_c (c := c3) (HA.out.2.2.1.below hb (Nat.le_refl _) (Nat.le_refl _)) HL.out.2.2 24 r3 HY.out.2.2)
  have HB := Lib.hid hb
  clear hb
  go_wp2_with fail
  refine G1.out.mono ?_
  rintro e w' ⟨rfl, rfl⟩
  clear G1
  cases r1 with
  | true => (go_wp2_with fail); go_ret; exact ⟨rfl, HB.out⟩
  | false =>
    go_wp2_with fail
    refine G2.out.mono ?_
    rintro e w' ⟨rfl, rfl⟩
    clear G2
    cases r2 with
    | true => (go_wp2_with fail); go_ret; exact ⟨rfl, HB.out⟩
    | false =>
      go_wp2_with fail
      refine G3.out.mono ?_
      rintro e w' ⟨rfl, rfl⟩
      clear G3
      cases r3 with
      | true => (go_wp2_with fail); go_ret; exact ⟨rfl, HB.out⟩
      | false =>
        cases b1 with
        | true => (go_wp2_with fail); go_ret; exact ⟨rfl, HB.out⟩
        | false =>
          cases b2 with
          | true => (go_wp2_with fail); go_ret; exact ⟨rfl, HB.out⟩
          | false => cases hor
set_option maxRecDepth 1000000 in
set_option maxHeartbeats 8000000 in
theorem diffChain_go {w : World} {A1 A2 A3 : Option Addr} {c1 c2 c3 n1 n2 n3 : Nat} {l1 l2 l3 : List ActT} (k : Nat) (hT : Tz w) (hA1 : ActsT w w.heap.size A1 l1) (hA2 : ActsT w w.heap.size A2 l2) (hA3 : ActsT w w.heap.size A3 l3) (hl1 : l1.length ≤ maxLen) (hl2 : l2.length ≤ maxLen) (hl3 : l3.length ≤ maxLen) (hh1 : heavyA 24 l1 = false) (hh2 : heavyA 24 l2 = false) (hh3 : heavyA 24 l3 = false) (h1 : 1 ≤ k) (h16 : k ≤ 16) (e1 : l1.length = n1) (e2 : l2.length = n2) (e3 : l3.length = n3) :
    Calls Tryz.prog 9 #[.int .i64 (k : Int), .slice A1 n1 c1, .slice A2 n2 c2, .slice A3 n3 c3] w fun e w' => e = .returned (.bool true) ∧ Below w.heap.size w w' := by
  have hf1 := heavyA_few hh1
  have hf2 := heavyA_few hh2
  have hf3 := heavyA_few hh3
  have HA := Lib.hid (And.intro hA1 (And.intro hA2 (And.intro hA3 hT)))
  have HLn := Lib.hid (And.intro hl1 (And.intro hl2 (And.intro hl3 (And.intro e1 (And.intro e2 e3)))))
  have HY := Lib.hid (And.intro hh1 (And.intro hh2 hh3))
  have HK := Lib.hid (And.intro h1 (And.intro h16 (And.intro hf1 (And.intro hf2 hf3))))
  have d1 : decide ((k : Int) < 1) = false := decide_eq_false (by omega)
  have d2 : decide ((16 : Int) < (k : Int)) = false := decide_eq_false (by omega)
  have d2' : decide (16 < k) = false := decide_eq_false (by omega)
  have hn3 : (n3 : Int) ≤ 24 := by omega
  clear hA1 hA2 hA3 hl1 hl2 hl3 hh1 hh2 hh3 hT h1 h16 hf1 hf2 hf3
  go_enter Tryz.func9, Tryz.ntmps9
  go_wp2_with fail
  refine (awake12_c w HA.out.2.2.2).mono ?_
  rintro e w0 ⟨rfl, hb⟩
  have G1 := rheavy7_c (c := c1) (HA.out.1.below hb (Nat.le_refl _) (Nat.le_refl _)) HLn.out.1 24 false HY.out.1
  have G2 := rheavy7_c (c := c2) (HA.out.2.1.below hb (Nat.le_refl _) (Nat.le_refl _)) HLn.out.2.1 24 false HY.out.2.1
  have G3 := rheavy7_c (c := c3) (HA.out.2.2.1.below hb (Nat.le_refl _) (Nat.le_refl _)) HLn.out.2.2.1 24 false HY.out.2.2
  rw [e1] at G1
  rw [e2] at G2
  rw [e3] at G3
  have G1 := Lib.hid G1
  have G2 := Lib.hid G2
  have G3 := Lib.hid G3
  have HB0 := Lib.hid hb
  clear hb e1 e2 e3
  go_wp2_with fail
  refine G1.out.mono ?_
  rintro e w' ⟨rfl, rfl⟩
  clear G1
  go_wp2_with fail
  refine G2.out.mono ?_
  rintro e w' ⟨rfl, rfl⟩
  clear G2
  go_wp2_with fail
  refine G3.out.mono ?_
  rintro e w' ⟨rfl, rfl⟩
  clear G3
  go_wp2_with fail
  refine (two_c (c := c1) (c' := c2) HK.out.1 HK.out.2.1 (HA.out.1.below HB0.out (Nat.le_refl _) (Nat.le_refl _)) (HA.out.2.1.below HB0.out (Nat.le_refl _) (Nat.le_refl _)) HB0.out.size (by have := HK.out.2.2.1; omega) (by have := HK.out.2.2.2.1; omega) HLn.out.2.2.2.1 HLn.out.2.2.2.2.1).mono ?_
  rintro e w3 ⟨t1, o1, D1, e1, t2, o2, D2, e2, rfl, hd1, hd2, hb3⟩
  have H3 := Lib.hid (And.intro hd1 (And.intro hd2 (Below.andThen HB0.out hb3)))
  obtain ⟨N1, hN1⟩ : ∃ N, (Tr.entsO o1).length = N := ⟨_, rfl⟩
  have HN1 := Lib.hid hN1
  obtain ⟨N2, hN2⟩ : ∃ N, (Tr.entsO o2).length = N := ⟨_, rfl⟩
  have HN2 := Lib.hid hN2
  rw [hN1, hN2]
  clear hd1 hd2 hb3 hN1 hN2
  go_wp2_with fail
  go_loopw [12, 13, 14, 15] (fun v ok t i wr => ∃ (j b' : Nat) (o' : Option T) (D' : Option Addr) (d' : Nat), v = .slice D' (Tr.entsO o').length d' ∧ ok = .bool true ∧ t = .pointer (some ⟨b', 0, none⟩) ∧ i = .int .i64 (j : Int) ∧ j ≤ n3 ∧ Hand wr w.heap.size b' k o' D' d' (n1 + n2 + j) ∧ Below w3.heap.size w3 wr) (fun _ _ _ i _ => n3 - (intOf i).toNat)
  case atStart => exact ⟨0, t2, o2, D2, e2, by rw [HN2.out], rfl, rfl, rfl, Nat.zero_le _, H3.out.2.1, Below.refl _ _⟩
  case round =>
    obtain ⟨j, t3, o3, D3, e3, rfl, rfl, rfl, rfl, hj, hh, hbr⟩ := hrel
    by_cases hlt : j < n3
    · obtain ⟨a, ha⟩ := get_lt (us := l3) (k := j) (by rw [HLn.out.2.2.2.2.2]; exact hlt)
      have hbw := Below.andThen H3.out.2.2 hbr
      obtain ⟨gb, go, A5, c5, hAA, hgb, x0, x1, x2, hp, hpm, hv⟩ := (HA.out.2.2.1.below hbw (Nat.le_refl _) (Nat.le_refl _)).at ha
      have HD := Lib.hid (done_c (d := c5) hh (by have := HK.out; have := HLn.out; omega) hp hpm hv)
      have HY2 := Lib.hid (And.intro hbr hlt)
      subst hAA
      have f1 : decide ((j : Int) < (n3 : Int)) = true := decide_eq_true (by omega)
      have f1' : decide (j < n3) = true := decide_eq_true hlt
      have m1 : (0 : Int) ≤ (j : Int) := by omega
      have m2 : (j : Int) < (n3 : Int) := by omega
      clear hh hbr ha hp hpm hv hbw hlt hj
      go_wp2_with (go_at_call 39; refine HD.out.mono ?_; rintro e w2 ⟨b2, o4, D4, d4, rfl, hh2, -, -, hb2⟩)
      go_roundw
      case rel =>
        exact ⟨j + 1, b2, o4, D4, d4, rfl, rfl, rfl, by first | rfl | go_num, by have := HY2.out.2; omega, hh2, Below.andThen HY2.out.1 hb2⟩
      case measure =>
        have := HY2.out.2
        show n3 - ((j : Int) + 1).toNat < n3 - (j : Int).toNat
        omega
    · have hjn : n3 = j := by omega
      subst hjn
      have f1 : decide ((n3 : Int) < (n3 : Int)) = false := decide_eq_false (by omega)
      have f1' : decide (n3 < n3) = false := decide_eq_false (by omega)
      obtain ⟨N3, hN3⟩ : ∃ N, (Tr.entsO o3).length = N := ⟨_, rfl⟩
      have HN3 := Lib.hid hN3
      rw [hN3]
      have H4 := Lib.hid (And.intro (H3.out.1.below hbr) (And.intro (H3.out.2.1.below hbr) (And.intro hh (Below.andThen H3.out.2.2 hbr))))
      clear hh hbr hlt hj hN3 H3
      generalize wr = w4 at *
      have HTz : Hid (∀ w', Below w4.heap.size w4 w' → Tz w') := Lib.hid fun w' hb => (HA.out.2.2.2.on H4.out.2.2.2).on hb
      obtain ⟨dL, zL⟩ := treeX_dz H4.out.1.tree
      obtain ⟨dM, zM⟩ := treeX_dz H4.out.2.1.tree
      obtain ⟨dN, zN⟩ := treeX_dz H4.out.2.2.1.tree
      have hs1 : N1 ≤ 24 := by have h := H4.out.1.few; rw [HN1.out] at h; have := HK.out; have := HLn.out; omega
      have hs2 : N2 ≤ 48 := by have h := H4.out.2.1.few; rw [HN2.out] at h; have := HK.out; have := HLn.out; omega
      have hs3 : N3 ≤ 72 := by have h := H4.out.2.2.1.few; rw [HN3.out] at h; have := HK.out; have := HLn.out; omega
      have q1 := chL_few zL dL dN
      have q2 := chL_few zL dL dM
      have q3 := chL_few zM dM dN
      rw [HN1.out, HN3.out] at q1
      rw [HN1.out, HN2.out] at q2
      rw [HN2.out, HN3.out] at q3
      have hcl := chain_len zL zM zN dL dM dN
      have hcp : ∀ c ∈ Tr.chL (Tr.entsO o1) (Tr.entsO o3), ∃ d ∈ Tr.chL (Tr.entsO o1) (Tr.entsO o2) ++ Tr.chL (Tr.entsO o2) (Tr.entsO o3), d.1 = c.1 := fun c h => chain_pt zL zM zN dL dM dN h
      obtain ⟨C1, hC1⟩ : ∃ C, Tr.chL (Tr.entsO o1) (Tr.entsO o3) = C := ⟨_, rfl⟩
      obtain ⟨C2, hC2⟩ : ∃ C, Tr.chL (Tr.entsO o1) (Tr.entsO o2) = C := ⟨_, rfl⟩
      obtain ⟨C3, hC3⟩ : ∃ C, Tr.chL (Tr.entsO o2) (Tr.entsO o3) = C := ⟨_, rfl⟩
      obtain ⟨x2, hx2⟩ : ∃ n, C1.length = n := ⟨_, rfl⟩
      obtain ⟨y2, hy2⟩ : ∃ n, C2.length = n := ⟨_, rfl⟩
      obtain ⟨z2, hz2⟩ : ∃ n, C3.length = n := ⟨_, rfl⟩
      obtain ⟨bl, hbl⟩ : ∃ n, y2 + z2 = n := ⟨_, rfl⟩
      rw [hC1, hC2, hC3, hx2, hy2, hz2] at hcl
      rw [hC1, hC2, hC3] at hcp
      rw [hC1, hx2] at q1
      rw [hC2, hy2] at q2
      rw [hC3, hz2] at q3
      have k1 : decide ((y2 : Int) + (z2 : Int) < (x2 : Int)) = false := decide_eq_false (by omega)
      have k1' : decide (y2 + z2 < x2) = false := decide_eq_false (by omega)
      have nx : (x2 : Int) ≤ 200 := by omega
      have ny : (y2 : Int) ≤ 200 := by omega
      have nz : (z2 : Int) ≤ 200 := by omega
      have nb : (bl : Int) ≤ 400 := by omega
      have HC := Lib.hid (And.intro True.intro (And.intro True.intro (And.intro True.intro (And.intro True.intro (And.intro True.intro (And.intro hcp (And.intro hC1 (And.intro hC2 (And.intro hC3 (And.intro hx2 (And.intro hy2 (And.intro hz2 (And.intro hbl True.intro)))))))))))))
      clear dL zL dM zM dN zN hs1 hs2 hs3 q1 q2 q3 hcl hcp hC1 hC2 hC3 hx2 hy2 hz2 hbl
      go_wp2_with fail
      refine (dChanges_c H4.out.1.tree H4.out.2.2.1.tree HTz.out (C := C1) HC.out.2.2.2.2.2.2.1 (by rw [HC.out.2.2.2.2.2.2.2.2.2.1]; omega) HC.out.2.2.2.2.2.2.2.2.2.1).mono ?_
      rintro e w5 ⟨X, x, rfl, hnew, hb5⟩
      have H5 := Lib.hid (And.intro (H4.out.1.below hb5) (And.intro (H4.out.2.1.below hb5) (And.intro (H4.out.2.2.1.below hb5) (And.intro (Below.andThen H4.out.2.2.2 hb5) (And.intro hnew.chs hb5)))))
      clear hb5 hnew H4
      go_wp2_with fail
      refine (dChanges_c H5.out.1.tree H5.out.2.1.tree (fun w' hb => HTz.out w' (H5.out.2.2.2.2.2.trans (hb.mono H5.out.2.2.2.2.2.size))) (C := C2) HC.out.2.2.2.2.2.2.2.1 (by rw [HC.out.2.2.2.2.2.2.2.2.2.2.1]; omega) HC.out.2.2.2.2.2.2.2.2.2.2.1).mono ?_
      rintro e w6 ⟨Y, y, rfl, hnew, hb6⟩
      have H6 := Lib.hid (And.intro (H5.out.1.below hb6) (And.intro (H5.out.2.1.below hb6) (And.intro (H5.out.2.2.1.below hb6) (And.intro (Below.andThen H5.out.2.2.2.1 hb6) (And.intro (H5.out.2.2.2.2.1.below hb6) (And.intro hnew (Below.andThen H5.out.2.2.2.2.2 hb6)))))))
      clear hb6 hnew H5
      go_wp2_with fail
      refine (dChanges_c H6.out.2.1.tree H6.out.2.2.1.tree (fun w' hb => HTz.out w' (H6.out.2.2.2.2.2.2.trans (hb.mono H6.out.2.2.2.2.2.2.size))) (C := C3) HC.out.2.2.2.2.2.2.2.2.1 (by rw [HC.out.2.2.2.2.2.2.2.2.2.2.2.1]; omega) HC.out.2.2.2.2.2.2.2.2.2.2.2.1).mono ?_
      rintro e w7 ⟨Z, z, rfl, hnew, hb7⟩
      have H7 := Lib.hid (And.intro (Below.andThen H6.out.2.2.2.1 hb7) (H6.out.2.2.2.2.1.below hb7))
      have HL := Lib.hid (And.intro (H6.out.2.2.2.2.2.1.lst hb7) (hnew.lst (Below.refl _ _)))
      clear hb7 hnew H6
      go_wp2_with (at_builtin; first
        | (refine wpList_append_list (Q := ChG w7 fun b => b < w7.heap.size) 59 75 (.agg #[.slice none 0 0, .bool false, .bool false, .int .u64 0, .int .u64 0]) 48 Tryz.underlying59 infoChg (by rfl) (by omega) (by omega) (chG_ok _ _) (by rfl) _ _ (by rfl) w7.heap.size (.slice (some ⟨w7.heap.size, 0, none⟩) 0 0) [] C2 y2 (by rw [HC.out.2.2.2.2.2.2.2.2.2.2.1]; simp) (by rfl) (by exact ownL_nil _ w7) w7.heap.size Y y2 y HC.out.2.2.2.2.2.2.2.2.2.2.1 (by rfl) (by exact lst_later2 (chG_ok _ _) HL.out.1 (below_alloc w7 _) (Nat.le_refl _)) (by omega) (by simp) ?_; intro D5 d5 w9 hown5 hgrow5 hat5; have hb9 := Below.grown (below_alloc w7 _) hgrow5 (by simp) (fun q hq => by simp [Value.ownBlock] at hq; omega); rw [List.nil_append] at hown5; have H9 := Lib.hid (And.intro hown5 hb9); clear hown5 hgrow5 hat5 hb9)
        | (refine wpList_append_list (Q := ChG w7 fun b => b < w7.heap.size) 59 75 (.agg #[.slice none 0 0, .bool false, .bool false, .int .u64 0, .int .u64 0]) 48 Tryz.underlying59 infoChg (by rfl) (by omega) (by omega) (chG_ok _ _) (by rfl) _ _ (by rfl) w7.heap.size (.slice D5 y2 d5) C2 C3 bl (by rw [HC.out.2.2.2.2.2.2.2.2.2.2.1, HC.out.2.2.2.2.2.2.2.2.2.2.2.1]; exact HC.out.2.2.2.2.2.2.2.2.2.2.2.2.1) (by rfl) (by exact H9.out.1) w7.heap.size Z z2 z HC.out.2.2.2.2.2.2.2.2.2.2.2.1 (by rfl) (by exact lst_later2 (chG_ok _ _) HL.out.2 H9.out.2 (Nat.le_refl _)) (by omega) (by exact H9.out.2.size) ?_; intro D6 d6 w10 hown6 hgrow6 hat6; have hb10 := Below.grown H9.out.2 hgrow6 H9.out.2.size (fun q hq => (H9.out.1.lt q hq).1); have H10 := Lib.hid (And.intro (chG_own (OwnL.imp hown6 (ChG.step hb10.size fun b hlt hD => ⟨hb10.block b hlt, hD⟩))) hb10); clear hown6 hgrow6 hat6 hb10))
      have HX10 : Hid (Chs w10 X C1) := Lib.hid (H7.out.2.below H10.out.2)
      clear HL H9 k1 k1'
      go_loopw [23] (fun i wr => ∃ j : Nat, i = .int .i64 (j : Int) ∧ j ≤ x2 ∧ Below w10.heap.size w10 wr) (fun i _ => x2 - (intOf i).toNat)
      case atStart => exact ⟨0, rfl, Nat.zero_le _, Below.refl _ _⟩
      case round =>
        obtain ⟨j, rfl, hj, hbr⟩ := hrel
        by_cases hlt : j < x2
        · obtain ⟨cg, hcg⟩ := get_lt (us := C1) (k := j) (by rw [HC.out.2.2.2.2.2.2.2.2.2.1]; exact hlt)
          have HR := Lib.hid (And.intro hbr (And.intro hcg hlt))
          have f2 : decide ((j : Int) < (x2 : Int)) = true := decide_eq_true (by omega)
          have f2' : decide (j < x2) = true := decide_eq_true hlt
          have m1 : (0 : Int) ≤ (j : Int) := by omega
          have m2 : (j : Int) < (x2 : Int) := by omega
          have m3 : (j : Int) ≤ 200 := by omega
          clear hbr hcg hlt hj
          generalize wr = wa at *
          go_wp2_with fail
          go_loopw [24, 25] (fun u v wr => ∃ (i : Nat) (tb : Bool), u = .bool tb ∧ v = .int .i64 (i : Int) ∧ i ≤ bl ∧ (tb = true ↔ ∃ d ∈ (C2 ++ C3).take i, d.1 = cg.1) ∧ Below wa.heap.size wa wr) (fun _ v _ => bl - (intOf v).toNat)
          case atStart => exact ⟨0, false, rfl, rfl, Nat.zero_le _, by simp, Below.refl _ _⟩
          case round =>
            obtain ⟨i, tb, rfl, rfl, hi, htb, hbi⟩ := hrel
            by_cases hit : i < bl
            · obtain ⟨dg, hdg⟩ := get_lt (us := C2 ++ C3) (k := i) (by rw [List.length_append, HC.out.2.2.2.2.2.2.2.2.2.2.1, HC.out.2.2.2.2.2.2.2.2.2.2.2.1, HC.out.2.2.2.2.2.2.2.2.2.2.2.2.1]; exact hit)
              have hstep : (C2 ++ C3).take (i + 1) = (C2 ++ C3).take i ++ [dg] := by rw [List.take_add_one, hdg]; rfl
              have hbw := Below.andThen HR.out.1 hbi
              obtain ⟨b, off, P, pc, hA, hb, v0, -, -, -, -, pp, pl, -, -⟩ := (H10.out.1.below hbw).at hdg
              obtain ⟨b2, off2, P2, pc2, hA2, hb2, u0, -, -, -, -, pp2, -, -, -⟩ := (HX10.out.below hbw).at HR.out.2.1
              obtain ⟨np, hnp⟩ : ∃ np, dg.1.length = np := ⟨_, rfl⟩
              obtain ⟨np2, hnp2⟩ : ∃ np, cg.1.length = np := ⟨_, rfl⟩
              obtain ⟨q, hq⟩ : ∃ q, decide (dg.1 = cg.1) = q := ⟨_, rfl⟩
              rw [hnp] at v0
              rw [hnp2] at u0
              have a0 : ∀ w', Below wr.heap.size wr w' → w'.cell? ⟨b, off + i * 5, none⟩ = some (.slice P np pc) := fun w' h => (h.cell (p := ⟨b, off + i * 5, none⟩) hb).trans v0
              have a1 : ∀ w', Below wr.heap.size wr w' → w'.cell? ⟨b2, off2 + j * 5, none⟩ = some (.slice P2 np2 pc2) := fun w' h => (h.cell (p := ⟨b2, off2 + j * 5, none⟩) hb2).trans u0
              have HCl : Hid (∀ w1, Below wr.heap.size wr w1 → Calls Tryz.prog 40 #[.slice P np pc, .slice P2 np2 pc2] w1 fun e w' => e = .returned (.bool q) ∧ Below w1.heap.size w1 w') := Lib.hid fun w1 hb1 => by
                have hh := rsame_c P P2 pc pc2 dg.1 cg.1 wr.heap.size w1 (pp.below' hb1 (Nat.le_refl _)) (pp2.below' hb1 (Nat.le_refl _)) hb1.size pl
                rw [hnp, hnp2, hq] at hh
                exact hh
              have HI := Lib.hid (And.intro hstep (And.intro htb (And.intro hbi (And.intro hq hit))))
              subst hA hA2
              have hb0 : Below wr.heap.size wr wr := Below.refl _ _
              have f3 : decide ((i : Int) < (bl : Int)) = true := decide_eq_true (by omega)
              have f3' : decide (i < bl) = true := decide_eq_true hit
              have m4 : (0 : Int) ≤ (i : Int) := by omega
              have m5 : (i : Int) < (bl : Int) := by omega
              have m6 : (i : Int) ≤ 400 := by omega
              clear hdg hstep htb hbi hq hit hi hbw pp pp2 pl hnp hnp2 v0 u0 hb hb2
              cases tb with
              | true =>
                clear a0 a1 HCl
                go_wp2_with fail
                go_quiet (fail)
                go_wp2_with fail
                go_roundw
                case rel =>
                  refine ⟨i + 1, true, rfl, by first | rfl | go_num, by have := HI.out.2.2.2.2; omega, ⟨fun _ => ?_, fun _ => rfl⟩, by first | exact HI.out.2.2.1 | exact below_drewN _ HI.out.2.2.1⟩
                  obtain ⟨d, hd, e⟩ := HI.out.2.1.1 (by first | rfl | trivial)
                  exact ⟨d, by rw [HI.out.1]; exact List.mem_append_left _ hd, e⟩
                case measure =>
                  have := HI.out.2.2.2.2
                  show bl - ((i : Int) + 1).toNat < bl - (i : Int).toNat
                  omega
              | false =>
                go_wp2_with fail
                go_region_held3 (fun w' => Below wr.heap.size wr w') (((repeat (first | refine Below.drew ?_ | (with_reducible refine below_drewN _ ?_) | refine Below.alloc ?_ (by first | omega | (simp; done) | (simp; omega)) _ | refine Below.setCell ?_ (by first | omega | (simp; done) | (simp; omega)) _)); first | exact Below.refl _ _ | assumption | exact below_drewN _ (Below.refl _ _) | exact below_drewN _ (below_drewN _ (Below.refl _ _))))
                  ((go_at_call 40; refine (HCl.out _ (show Below wr.heap.size wr _ by ((repeat (first | refine Below.drew ?_ | (with_reducible refine below_drewN _ ?_) | refine Below.alloc ?_ (by first | omega | (simp; done) | (simp; omega)) _ | refine Below.setCell ?_ (by first | omega | (simp; done) | (simp; omega)) _)); first | exact Below.refl _ _ | assumption | exact below_drewN _ (Below.refl _ _) | exact below_drewN _ (below_drewN _ (Below.refl _ _))))).mono ?_; rintro e w2 ⟨rfl, hb2⟩; have hbD := Below.trans (show Below wr.heap.size wr _ by ((repeat (first | refine Below.drew ?_ | (with_reducible refine below_drewN _ ?_) | refine Below.alloc ?_ (by first | omega | (simp; done) | (simp; omega)) _ | refine Below.setCell ?_ (by first | omega | (simp; done) | (simp; omega)) _)); first | exact Below.refl _ _ | assumption | exact below_drewN _ (Below.refl _ _) | exact below_drewN _ (below_drewN _ (Below.refl _ _)))) (hb2.mono (Below.size (show Below wr.heap.size wr _ by ((repeat (first | refine Below.drew ?_ | (with_reducible refine below_drewN _ ?_) | refine Below.alloc ?_ (by first | omega | (simp; done) | (simp; omega)) _ | refine Below.setCell ?_ (by first | omega | (simp; done) | (simp; omega)) _)); first | exact Below.refl _ _ | assumption | exact below_drewN _ (Below.refl _ _) | exact below_drewN _ (below_drewN _ (Below.refl _ _)))))); clear hb2))
                clear a0 a1
                have HD2 := Lib.hid (HI.out.2.2.1.trans (hbD.mono HI.out.2.2.1.size))
                go_wp2_with fail
                go_roundw
                case rel =>
                  refine ⟨i + 1, q, rfl, by first | rfl | go_num, by have := HI.out.2.2.2.2; omega, ?_, HD2.out⟩
                  rw [← HI.out.2.2.2.1, decide_eq_true_eq, HI.out.1]
                  constructor
                  · intro e
                    exact ⟨dg, List.mem_append_right _ (List.mem_singleton.2 rfl), e⟩
                  · rintro ⟨d, hd, e⟩
                    rcases List.mem_append.1 hd with hd | hd
                    · exact absurd (HI.out.2.1.2 ⟨d, hd, e⟩) (by simp)
                    · rw [List.mem_singleton.1 hd] at e; exact e
                case measure =>
                  have := HI.out.2.2.2.2
                  show bl - ((i : Int) + 1).toNat < bl - (i : Int).toNat
                  omega
            · have hin : bl = i := by omega
              subst hin
              have f3 : decide ((bl : Int) < (bl : Int)) = false := decide_eq_false (by omega)
              have f3' : decide (bl < bl) = false := decide_eq_false (by omega)
              have htrue : tb = true := htb.2 (by
                rw [show (C2 ++ C3).take bl = C2 ++ C3 by rw [← HC.out.2.2.2.2.2.2.2.2.2.2.2.2.1, ← HC.out.2.2.2.2.2.2.2.2.2.2.1, ← HC.out.2.2.2.2.2.2.2.2.2.2.2.1, ← List.length_append, List.take_length]]
                exact HC.out.2.2.2.2.2.1 cg (List.mem_of_getElem? HR.out.2.1))
              have HB3 := Lib.hid (Below.andThen HR.out.1 hbi)
              clear htb hbi hit hi
              subst htrue
              go_wp2_with fail
              go_roundw
              case rel => exact ⟨j + 1, by first | rfl | go_num, by have := HR.out.2.2; omega, HB3.out⟩
              case measure =>
                have := HR.out.2.2
                show x2 - ((j : Int) + 1).toNat < x2 - (j : Int).toNat
                omega
        · have hjn : x2 = j := by omega
          subst hjn
          have f2 : decide ((x2 : Int) < (x2 : Int)) = false := decide_eq_false (by omega)
          have f2' : decide (x2 < x2) = false := decide_eq_false (by omega)
          have HB3 := Lib.hid (Below.andThen H7.out.1 (Below.andThen H10.out.2 hbr))
          clear hbr hlt hj
          go_wp2_with fail
          go_ret
          exact ⟨rfl, HB3.out⟩
theorem diffChain_c {w : World} {A1 A2 A3 : Option Addr} {c1 c2 c3 : Nat} {l1 l2 l3 : List ActT} (k : Int) (hT : Tz w) (hA1 : ActsT w w.heap.size A1 l1) (hl1 : l1.length ≤ maxLen) (hA2 : ActsT w w.heap.size A2 l2) (hl2 : l2.length ≤ maxLen) (hA3 : ActsT w w.heap.size A3 l3) (hl3 : l3.length ≤ maxLen) :
    Calls Tryz.prog 9 #[.int .i64 k, .slice A1 l1.length c1, .slice A2 l2.length c2, .slice A3 l3.length c3] w fun e w' => e = .returned (.bool true) ∧ Below w.heap.size w w' := by
  by_cases h : (heavyA 24 l1 || heavyA 24 l2 || heavyA 24 l3 || decide (k < 1) || decide (16 < k)) = true
  · exact diffChain_skip k hT hA1 hA2 hA3 hl1 hl2 hl3 _ _ _ _ _ rfl rfl rfl rfl rfl h
  · simp only [Bool.or_eq_true, decide_eq_true_eq, not_or, Bool.not_eq_true] at h
    obtain ⟨⟨⟨⟨h1, h2⟩, h3⟩, h4⟩, h5⟩ := h
    obtain ⟨a, rfl⟩ : ∃ a : Nat, k = (a : Int) := ⟨k.toNat, by omega⟩
    exact diffChain_go a hT hA1 hA2 hA3 hl1 hl2 hl3 h1 h2 h3 (by omega) (by omega) rfl rfl rfl
end Go.Proofs.YtjcmehplcagejaaGreatDoor
