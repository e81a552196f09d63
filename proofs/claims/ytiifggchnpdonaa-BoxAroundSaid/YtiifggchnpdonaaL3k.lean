/-
  THE WALK of the law BoxAround where the level can be.
-/
import Derived.Test.YtiifggchnpdonaaL3c
import Derived.Deep.RegionHeld
namespace Go.Proofs.Ytiifggchnpdonaa
open Go.ChangeShapes Go.WideShapes Go.ChangeAt Go.RowKit

theorem rpart_v (A A' : Option Addr) (c c' : Nat) (us vs : List Nat) (B : Nat) (w : World) (pt : Int) (hpt : Z.part us vs = pt) (hp : Pts w B A us) (hq : Pts w B A' vs) (h1 : 1 ≤ us.length) (h16 : us.length ≤ 16) (hlen : us.length = vs.length) :
    Calls Try.prog 28 #[.slice A us.length c, .slice A' vs.length c'] w fun e w' => e = .returned (.int .i64 pt) ∧ w = w' := by
  subst hpt
  exact rpart_c A A' c c' us vs B w hp hq h1 h16 hlen

set_option maxRecDepth 100000 in
set_option linter.unusedSimpArgs false in
set_option maxHeartbeats 3200000 in
theorem boxAround_there (A D : Option Addr) (c e x k : Nat) (l : Int) (us vs : List Nat) (w : World) (hp : Pts w w.heap.size A us) (hq : Pts w w.heap.size D vs) (h1 : 1 ≤ us.length) (h16 : us.length ≤ 16) (h40 : vs.length ≤ 40) (hx : x < 18446744073709551616) (hk : k ≤ 64) (hl : l = (k : Int) - 1) :
    Calls Try.prog 5 #[.slice A us.length c, .slice D vs.length e, .int .u64 (x : Int), .int .i64 l] w fun e w' => e = .returned (.bool true) ∧ Below w.heap.size w w' := by
  obtain ⟨ml, hml⟩ : ∃ L, Bx.aroLo us x = L := ⟨_, rfl⟩
  obtain ⟨mh, hmh⟩ : ∃ L, Bx.aroHi us x = L := ⟨_, rfl⟩
  obtain ⟨cl, hcl⟩ : ∃ L, Z.cut us k = L := ⟨_, rfl⟩
  obtain ⟨ch, hch⟩ : ∃ L, Bx.cellHi us k = L := ⟨_, rfl⟩
  have n1 : ml.length = us.length := by rw [← hml, Bx.aroLo_length]
  have n2 : mh.length = us.length := by rw [← hmh, Bx.aroHi_length]
  have n3 : cl.length = us.length := by rw [← hcl, Z.cut_length]
  have n4 : ch.length = us.length := by rw [← hch, Bx.cellHi_length]
  have E : Hid ((Bx.aroLo us x = ml ∧ Bx.aroHi us x = mh ∧ Z.cut us k = cl ∧ Bx.cellHi us k = ch) ∧ (ml.length = us.length ∧ mh.length = us.length ∧ cl.length = us.length ∧ ch.length = us.length) ∧ l = (k : Int) - 1) := Lib.hid ⟨⟨hml, hmh, hcl, hch⟩, ⟨n1, n2, n3, n4⟩, hl⟩
  have l0 : -1 ≤ l := by omega
  have l63 : l ≤ 63 := by omega
  have g1 : 1 ≤ ml.length := by omega
  have g16 : ml.length ≤ 16 := by omega
  obtain ⟨dd, gc, hfar, hcase⟩ : ∃ dd gc, (∀ wx, Below w.heap.size w wx → FarIs A D c e us vs dd gc wx) ∧ ((us.length = vs.length ∧ dd = Bx.far us vs us.length ∧ gc = 0) ∨ (us.length ≠ vs.length ∧ dd = 0 ∧ gc = 2)) := by
    by_cases h : us.length = vs.length
    · exact ⟨_, _, farIs_yes hp hq h1 h16 h, .inl ⟨h, rfl, rfl⟩⟩
    · exact ⟨_, _, farIs_no h16 h, .inr ⟨h, rfl, rfl⟩⟩
  have Hfar := Lib.hid hfar
  have Hcase := Lib.hid hcase
  clear hml hmh hcl hch n1 n2 n3 n4 hl hfar hcase
  go_enter Try.func5, Try.ntmps5
  go_wp2_with fail
  refine (awake3_c _).mono ?_
  rintro e w1 ⟨rfl, hb1⟩
  have hp1 := hp.below' hb1 (Nat.le_refl _)
  go_wp2_with fail
  refine (baround_yes A c x us ml mh w.heap.size w1 E.out.1.1 E.out.1.2.1 hp1 hb1.size h1 h16 hx).mono ?_
  rintro e w2 ⟨A1, c1, A2, c2, rfl, p1, p2, hb2⟩
  have hbA : Below w.heap.size w w2 := Below.andThen hb1 hb2
  have hsA := hbA.size
  go_wp2_with fail
  refine (bcell_lv A c k l us cl ch w.heap.size _ E.out.2.2 E.out.1.2.2.1 E.out.1.2.2.2 ((hp.below' hbA (Nat.le_refl _)).below' (below_alloc w2 _) hsA) (by simp; omega) h1 h16 hk).mono ?_
  rintro e w3 ⟨A3, c3, A4, c4, rfl, p3, p4, hb3⟩
  have hbB : Below w2.heap.size w2 w3 := Below.andThen (below_alloc _ _) hb3
  have hs3 := hb3.size
  rw [World.size_alloc] at hs3
  have x1 := (boxAt_new w2 A1 ml.length c1 A2 mh.length c2).below hb3 (by simp)
  have hal := below_alloc w3 (.cells #[.slice A3 cl.length c3, .slice A4 ch.length c4] 24)
  have hbC : Below w.heap.size w (w3.alloc (.cells #[.slice A3 cl.length c3, .slice A4 ch.length c4] 24)) := Below.andThen (Below.andThen hbA hbB) hal
  have y1 := x1.below hal (by omega)
  have y2 := boxAt_new w3 A3 cl.length c3 A4 ch.length c4
  have q1 := (p1.below hbB hbB.size).below' hal (Nat.le_refl _)
  have q2 := (p2.below hbB hbB.size).below' hal (Nat.le_refl _)
  have q3 := p3.below' hal (Nat.le_refl _)
  have q4 := p4.below' hal (Nat.le_refl _)
  have hsz : w3.heap.size < (w3.alloc (.cells #[.slice A3 cl.length c3, .slice A4 ch.length c4] 24)).heap.size := by simp
  obtain ⟨k0, k1⟩ := y1
  obtain ⟨k2, k3⟩ := y2
  go_wp2_with fail
  refine (Hfar.out _ hbC).mono ?_
  rintro e w4 ⟨rfl, rfl⟩
  go_wp2_with fail
  refine (rright_yes A us.length c _ h1 h16).mono ?_
  rintro e w4 ⟨rfl, rfl⟩
  generalize hW : w3.alloc _ = W at *
  go_wp2_with fail
  have hpW := hp.below' hbC (Nat.le_refl _)
  have y1 : BoxAt W w2.heap.size A1 ml.length c1 A2 mh.length c2 := ⟨k0, k1⟩
  have y2 : BoxAt W w3.heap.size A3 cl.length c3 A4 ch.length c4 := ⟨k2, k3⟩
  have y1d : BoxAt W.drew w2.heap.size A1 ml.length c1 A2 mh.length c2 := ⟨k0, k1⟩
  have q1d := q1.drew
  have q2d := q2.drew
  have hpWd := hpW.drew
  go_region_held (fun w' => w'.cell? ⟨w2.heap.size, 0, none⟩ = some (.slice A1 ml.length c1) ∧ w'.cell? ⟨w2.heap.size, 1, none⟩ = some (.slice A2 mh.length c2)) (go_keep)
    (first
      | (go_at_call 26; refine (r3around_c A c x us ml mh w.heap.size W.drew E.out.1.1 E.out.1.2.1 hpWd hbC.size h1 h16 hx).mono ?_; rintro e w5 ⟨A5, c5, A6, c6, rfl, p5, p6, hb5⟩; have z1 := y1d.below hb5 (by show w2.heap.size < W.heap.size; omega); obtain ⟨m0, m1⟩ := z1)
      | (go_at_call 25; refine (r3same_c A1 A2 A5 A6 c1 c2 c5 c6 ml mh ml mh w5.heap.size w5 ((q1d.below' hb5 (by show w3.heap.size ≤ W.heap.size; omega)).keep (Nat.le_trans (Nat.le_of_lt hsz) hb5.size) (fun _ _ => rfl)) ((q2d.below' hb5 (by show w3.heap.size ≤ W.heap.size; omega)).keep (Nat.le_trans (Nat.le_of_lt hsz) hb5.size) (fun _ _ => rfl)) p5 p6 (Nat.le_refl _) g16 (by have := E.out.2.1.2.1; omega) rfl rfl).mono ?_; rintro e w6 ⟨rfl, hb6⟩; have z2 := (BoxAt.below ⟨m0, m1⟩ hb6 (Nat.lt_of_lt_of_le (show w2.heap.size < W.heap.size by omega) hb5.size) : BoxAt w6 w2.heap.size A1 ml.length c1 A2 mh.length c2); obtain ⟨r0, r1⟩ := z2))
  have hbD : Below w.heap.size w w6 := Below.andThen (Below.andThen hbC.drew hb5) hb6
  have hs5 : W.heap.size ≤ w5.heap.size := hb5.size
  have hs6 := hb6.size
  have y2d : BoxAt W.drew w3.heap.size A3 cl.length c3 A4 ch.length c4 := y2
  have t2 := (y2d.below hb5 (show w3.heap.size < W.heap.size by omega)).below hb6 (by omega)
  obtain ⟨s0, s1⟩ := t2
  have t1 : BoxAt w6 w2.heap.size A1 ml.length c1 A2 mh.length c2 := ⟨r0, r1⟩
  have t2 : BoxAt w6 w3.heap.size A3 cl.length c3 A4 ch.length c4 := ⟨s0, s1⟩
  have u1 := (q1d.below' hb5 (show w3.heap.size ≤ W.heap.size by omega)).below' hb6 (by omega)
  have u2 := (q2d.below' hb5 (show w3.heap.size ≤ W.heap.size by omega)).below' hb6 (by omega)
  have u3 := (q3.drew.below' hb5 (show w3.heap.size ≤ W.heap.size by omega)).below' hb6 (by omega)
  have u4 := (q4.drew.below' hb5 (show w3.heap.size ≤ W.heap.size by omega)).below' hb6 (by omega)
  have hs36 : w3.heap.size < w6.heap.size := by omega
  clear q1 q2 q3 q4 q1d q2d p3 p4 p5 p6 y1 y2 y1d y2d hpW hpWd hb5 hb6 hs5 hs6 x1 k0 k1 k2 k3 m0 m1 hW hsz hal hp1 hbA hbB p1 p2 hb1 hb2 hb3
  go_wp2_with fail
  have t2d : BoxAt w6.drew w3.heap.size A3 cl.length c3 A4 ch.length c4 := t2
  have u3d := u3.drew
  have u4d := u4.drew
  have hp6 := (hp.below' hbD (Nat.le_refl _)).drew
  refine wp_region_held_drew (S := fun w' => w'.cell? ⟨w3.heap.size, 0, none⟩ = some (.slice A3 cl.length c3) ∧ w'.cell? ⟨w3.heap.size, 1, none⟩ = some (.slice A4 ch.length c4)) (by kernel_rfl) t2d (fun hHeld => ?_)
  apply wpAnyH_take (i := 0)
  case hi => simp only [List.getElem?_toArray, List.getElem?_cons_succ, List.getElem?_cons_zero]; rfl
  case hs => kernel_rfl
  case hf => kernel_rfl
  case hr => kernel_rfl
  case hQ => exact fun _ _ _ h => h
  case hS => assumption
  case hy =>
    refine Or.inl ⟨by rfl, ?_⟩
    intro w hSw
    try dsimp only at hSw
    go_simp
    try with_reducible rfl
  simp only [Act.put, List.setIfInBounds_toArray, List.set_cons_zero, List.set_cons_succ]
  apply wpAnyH_take (i := 1)
  case hi => simp only [List.getElem?_toArray, List.getElem?_cons_succ, List.getElem?_cons_zero]; rfl
  case hs => kernel_rfl
  case hf => kernel_rfl
  case hr => kernel_rfl
  case hQ => exact fun _ _ _ h => h
  case hS => assumption
  case hy =>
    refine Or.inl ⟨by rfl, ?_⟩
    intro w hSw
    try dsimp only at hSw
    go_simp
    try with_reducible rfl
  simp only [Act.put, List.setIfInBounds_toArray, List.set_cons_zero, List.set_cons_succ]
  apply wpAnyH_take (i := 2)
  case hi => simp only [List.getElem?_toArray, List.getElem?_cons_succ, List.getElem?_cons_zero]; rfl
  case hs => kernel_rfl
  case hf => kernel_rfl
  case hr => kernel_rfl
  case hQ => exact fun _ _ _ h => h
  case hS => assumption
  case hy =>
    refine Or.inl ⟨by rfl, ?_⟩
    intro w hSw
    try dsimp only at hSw
    go_simp
    try with_reducible rfl
  simp only [Act.put, List.setIfInBounds_toArray, List.set_cons_zero, List.set_cons_succ]
  apply wpAnyH_take (i := 3)
  case hi => simp only [List.getElem?_toArray, List.getElem?_cons_succ, List.getElem?_cons_zero]; rfl
  case hs => kernel_rfl
  case hf => kernel_rfl
  case hr => kernel_rfl
  case hQ => exact fun _ _ _ h => h
  case hS => assumption
  case hy =>
    refine Or.inl ⟨by rfl, ?_⟩
    intro w hSw
    try dsimp only at hSw
    go_simp
    try with_reducible rfl
  simp only [Act.put, List.setIfInBounds_toArray, List.set_cons_zero, List.set_cons_succ]
  apply wpAnyH_take (i := 4)
  case hi => simp only [List.getElem?_toArray, List.getElem?_cons_succ, List.getElem?_cons_zero]; rfl
  case hs => kernel_rfl
  case hf => kernel_rfl
  case hr => kernel_rfl
  case hQ => exact fun _ _ _ h => h
  case hS => assumption
  case hy =>
    refine Or.inl ⟨by rfl, ?_⟩
    intro w hSw
    try dsimp only at hSw
    go_simp
    try with_reducible rfl
  simp only [Act.put, List.setIfInBounds_toArray, List.set_cons_zero, List.set_cons_succ]
  apply wpAnyH_take (i := 5)
  case hi => simp only [List.getElem?_toArray, List.getElem?_cons_succ, List.getElem?_cons_zero]; rfl
  case hs => kernel_rfl
  case hf => kernel_rfl
  case hr => kernel_rfl
  case hQ => exact fun _ _ _ h => h
  case hS => assumption
  case hy =>
    refine Or.inl ⟨by rfl, ?_⟩
    intro w hSw
    try dsimp only at hSw
    go_simp
    try with_reducible rfl
  simp only [Act.put, List.setIfInBounds_toArray, List.set_cons_zero, List.set_cons_succ]
  apply wpAnyH_take (i := 6)
  case hi => simp only [List.getElem?_toArray, List.getElem?_cons_succ, List.getElem?_cons_zero]; rfl
  case hs => kernel_rfl
  case hf => kernel_rfl
  case hr => kernel_rfl
  case hQ => exact fun _ _ _ h => h
  case hS => assumption
  case hy =>
    refine Or.inl ⟨by rfl, ?_⟩
    intro w hSw
    try dsimp only at hSw
    go_simp
    try with_reducible rfl
  simp only [Act.put, List.setIfInBounds_toArray, List.set_cons_zero, List.set_cons_succ]
  apply wpAnyH_take (i := 7)
  case hi => simp only [List.getElem?_toArray, List.getElem?_cons_succ, List.getElem?_cons_zero]; rfl
  case hs => kernel_rfl
  case hf => kernel_rfl
  case hr => kernel_rfl
  case hQ => exact fun _ _ _ h => h
  case hS => assumption
  case hy =>
    refine Or.inl ⟨by rfl, ?_⟩
    intro w hSw
    try dsimp only at hSw
    go_simp
    try with_reducible rfl
  simp only [Act.put, List.setIfInBounds_toArray, List.set_cons_zero, List.set_cons_succ]
  refine wpAnyH_ready (rs := [8]) (by kernel_rfl) (by simp) ?_
  apply AllReadyH.cons
  case ho => simp only [List.getElem?_toArray, List.getElem?_cons_succ, List.getElem?_cons_zero]; rfl
  case hs => exact AllReadyH.nil
  intro K hK
  go_simp
  refine (r3cell_lv A c k l us cl ch w.heap.size w6.drew E.out.2.2 E.out.1.2.2.1 E.out.1.2.2.2 hp6 hbD.size h1 h16 hk).mono ?_
  rintro e w7 ⟨A7, c7, A8, c8, rfl, p7, p8, hb7⟩
  have z1 := t2d.below hb7 (by show w3.heap.size < w6.heap.size; omega)
  obtain ⟨m0, m1⟩ := z1
  go_wp2_with fail
  refine hK.out _ _ ⟨m0, m1⟩ (fun hHeld => ?_)
  clear hK K
  refine wpAnyH_ready (rs := [9]) (by kernel_rfl) (by simp) ?_
  apply AllReadyH.cons
  case ho => simp only [List.getElem?_toArray, List.getElem?_cons_succ, List.getElem?_cons_zero]; rfl
  case hs => exact AllReadyH.nil
  intro K hK
  go_simp
  refine (r3same_c A3 A4 A7 A8 c3 c4 c7 c8 cl ch cl ch w7.heap.size w7 ((u3d.below' hb7 (by show w3.heap.size ≤ w6.heap.size; omega)).keep (Nat.le_trans (Nat.le_of_lt hs36) hb7.size) (fun _ _ => rfl)) ((u4d.below' hb7 (by show w3.heap.size ≤ w6.heap.size; omega)).keep (Nat.le_trans (Nat.le_of_lt hs36) hb7.size) (fun _ _ => rfl)) p7 p8 (Nat.le_refl _) (by have := E.out.2.1.2.2.1; omega) (by have := E.out.2.1.2.2.2; omega) rfl rfl).mono ?_
  rintro e w8 ⟨rfl, hb8⟩
  have z2 := (BoxAt.below ⟨m0, m1⟩ hb8 (Nat.lt_of_lt_of_le (show w3.heap.size < w6.heap.size by omega) hb7.size) : BoxAt w8 w3.heap.size A3 cl.length c3 A4 ch.length c4)
  obtain ⟨v0, v1⟩ := z2
  go_wp2_with fail
  refine hK.out _ _ ⟨v0, v1⟩ (fun hHeld => ?_)
  clear hK K
  apply wpAnyH_take (i := 10)
  case hi => simp only [List.getElem?_toArray, List.getElem?_cons_succ, List.getElem?_cons_zero]; rfl
  case hs => kernel_rfl
  case hf => kernel_rfl
  case hr => kernel_rfl
  case hQ => exact fun _ _ _ h => h
  case hS => assumption
  case hy =>
    refine Or.inl ⟨by rfl, ?_⟩
    intro w hSw
    try dsimp only at hSw
    go_simp
    try with_reducible rfl
  simp only [Act.put, List.setIfInBounds_toArray, List.set_cons_zero, List.set_cons_succ]
  apply wpAnyH_take (i := 11)
  case hi => simp only [List.getElem?_toArray, List.getElem?_cons_succ, List.getElem?_cons_zero]; rfl
  case hs => kernel_rfl
  case hf => kernel_rfl
  case hr => kernel_rfl
  case hQ => exact fun _ _ _ h => h
  case hS => assumption
  case hy =>
    refine Or.inl ⟨by rfl, ?_⟩
    intro w hSw
    try dsimp only at hSw
    go_simp
    try with_reducible rfl
  simp only [Act.put, List.setIfInBounds_toArray, List.set_cons_zero, List.set_cons_succ]
  apply wpAnyH_take (i := 12)
  case hi => simp only [List.getElem?_toArray, List.getElem?_cons_succ, List.getElem?_cons_zero]; rfl
  case hs => kernel_rfl
  case hf => kernel_rfl
  case hr => kernel_rfl
  case hQ => exact fun _ _ _ h => h
  case hS => assumption
  case hy =>
    refine Or.inl ⟨by rfl, ?_⟩
    intro w hSw
    try dsimp only at hSw
    go_simp
    try with_reducible rfl
  simp only [Act.put, List.setIfInBounds_toArray, List.set_cons_zero, List.set_cons_succ]
  apply wpAnyH_take (i := 13)
  case hi => simp only [List.getElem?_toArray, List.getElem?_cons_succ, List.getElem?_cons_zero]; rfl
  case hs => kernel_rfl
  case hf => kernel_rfl
  case hr => kernel_rfl
  case hQ => exact fun _ _ _ h => h
  case hS => assumption
  case hy =>
    refine Or.inl ⟨by rfl, ?_⟩
    intro w hSw
    try dsimp only at hSw
    go_simp
    try with_reducible rfl
  simp only [Act.put, List.setIfInBounds_toArray, List.set_cons_zero, List.set_cons_succ]
  apply wpAnyH_take (i := 14)
  case hi => simp only [List.getElem?_toArray, List.getElem?_cons_succ, List.getElem?_cons_zero]; rfl
  case hs => kernel_rfl
  case hf => kernel_rfl
  case hr => kernel_rfl
  case hQ => exact fun _ _ _ h => h
  case hS => assumption
  case hy =>
    refine Or.inl ⟨by rfl, ?_⟩
    intro w hSw
    try dsimp only at hSw
    go_simp
    try with_reducible rfl
  simp only [Act.put, List.setIfInBounds_toArray, List.set_cons_zero, List.set_cons_succ]
  apply wpAnyH_take (i := 15)
  case hi => simp only [List.getElem?_toArray, List.getElem?_cons_succ, List.getElem?_cons_zero]; rfl
  case hs => kernel_rfl
  case hf => kernel_rfl
  case hr => kernel_rfl
  case hQ => exact fun _ _ _ h => h
  case hS => assumption
  case hy =>
    refine Or.inl ⟨by rfl, ?_⟩
    intro w hSw
    try dsimp only at hSw
    go_simp
    try with_reducible rfl
  simp only [Act.put, List.setIfInBounds_toArray, List.set_cons_zero, List.set_cons_succ]
  apply wpAnyH_take (i := 16)
  case hi => simp only [List.getElem?_toArray, List.getElem?_cons_succ, List.getElem?_cons_zero]; rfl
  case hs => kernel_rfl
  case hf => kernel_rfl
  case hr => kernel_rfl
  case hQ => exact fun _ _ _ h => h
  case hS => assumption
  case hy =>
    refine Or.inl ⟨by rfl, ?_⟩
    intro w hSw
    try dsimp only at hSw
    go_simp
    try with_reducible rfl
  simp only [Act.put, List.setIfInBounds_toArray, List.set_cons_zero, List.set_cons_succ]
  apply wpAnyH_take (i := 17)
  case hi => simp only [List.getElem?_toArray, List.getElem?_cons_succ, List.getElem?_cons_zero]; rfl
  case hs => kernel_rfl
  case hf => kernel_rfl
  case hr => kernel_rfl
  case hQ => exact fun _ _ _ h => h
  case hS => assumption
  case hy =>
    exact Or.inr ⟨by rfl, rfl⟩
  simp only [Act.put, List.setIfInBounds_toArray, List.set_cons_zero, List.set_cons_succ]
  apply wpAnyH_take (i := 18)
  case hi => simp only [List.getElem?_toArray, List.getElem?_cons_succ, List.getElem?_cons_zero]; rfl
  case hs => kernel_rfl
  case hf => kernel_rfl
  case hr => kernel_rfl
  case hQ => exact fun _ _ _ h => h
  case hS => assumption
  case hy =>
    exact Or.inr ⟨by rfl, rfl⟩
  simp only [Act.put, List.setIfInBounds_toArray, List.set_cons_zero, List.set_cons_succ]
  apply wpAnyH_take (i := 19)
  case hi => simp only [List.getElem?_toArray, List.getElem?_cons_succ, List.getElem?_cons_zero]; rfl
  case hs => kernel_rfl
  case hf => kernel_rfl
  case hr => kernel_rfl
  case hQ => exact fun _ _ _ h => h
  case hS => assumption
  case hy =>
    exact Or.inr ⟨by rfl, rfl⟩
  simp only [Act.put, List.setIfInBounds_toArray, List.set_cons_zero, List.set_cons_succ]
  apply wpAnyH_take (i := 20)
  case hi => simp only [List.getElem?_toArray, List.getElem?_cons_succ, List.getElem?_cons_zero]; rfl
  case hs => kernel_rfl
  case hf => kernel_rfl
  case hr => kernel_rfl
  case hQ => exact fun _ _ _ h => h
  case hS => assumption
  case hy =>
    exact Or.inr ⟨by rfl, rfl⟩
  simp only [Act.put, List.setIfInBounds_toArray, List.set_cons_zero, List.set_cons_succ]
  apply wpAnyH_take (i := 21)
  case hi => simp only [List.getElem?_toArray, List.getElem?_cons_succ, List.getElem?_cons_zero]; rfl
  case hs => kernel_rfl
  case hf => kernel_rfl
  case hr => kernel_rfl
  case hQ => exact fun _ _ _ h => h
  case hS => assumption
  case hy =>
    exact Or.inr ⟨by rfl, rfl⟩
  simp only [Act.put, List.setIfInBounds_toArray, List.set_cons_zero, List.set_cons_succ]
  apply wpAnyH_take (i := 22)
  case hi => simp only [List.getElem?_toArray, List.getElem?_cons_succ, List.getElem?_cons_zero]; rfl
  case hs => kernel_rfl
  case hf => kernel_rfl
  case hr => kernel_rfl
  case hQ => exact fun _ _ _ h => h
  case hS => assumption
  case hy =>
    exact Or.inr ⟨by rfl, rfl⟩
  simp only [Act.put, List.setIfInBounds_toArray, List.set_cons_zero, List.set_cons_succ]
  apply wpAnyH_take (i := 23)
  case hi => simp only [List.getElem?_toArray, List.getElem?_cons_succ, List.getElem?_cons_zero]; rfl
  case hs => kernel_rfl
  case hf => kernel_rfl
  case hr => kernel_rfl
  case hQ => exact fun _ _ _ h => h
  case hS => assumption
  case hy =>
    exact Or.inr ⟨by rfl, rfl⟩
  simp only [Act.put, List.setIfInBounds_toArray, List.set_cons_zero, List.set_cons_succ]
  apply wpAnyH_take (i := 24)
  case hi => simp only [List.getElem?_toArray, List.getElem?_cons_succ, List.getElem?_cons_zero]; rfl
  case hs => kernel_rfl
  case hf => kernel_rfl
  case hr => kernel_rfl
  case hQ => exact fun _ _ _ h => h
  case hS => assumption
  case hy =>
    exact Or.inr ⟨by rfl, rfl⟩
  simp only [Act.put, List.setIfInBounds_toArray, List.set_cons_zero, List.set_cons_succ]
  apply wpAnyH_take (i := 25)
  case hi => simp only [List.getElem?_toArray, List.getElem?_cons_succ, List.getElem?_cons_zero]; rfl
  case hs => kernel_rfl
  case hf => kernel_rfl
  case hr => kernel_rfl
  case hQ => exact fun _ _ _ h => h
  case hS => assumption
  case hy =>
    exact Or.inr ⟨by rfl, rfl⟩
  simp only [Act.put, List.setIfInBounds_toArray, List.set_cons_zero, List.set_cons_succ]
  apply wpAnyH_take (i := 26)
  case hi => simp only [List.getElem?_toArray, List.getElem?_cons_succ, List.getElem?_cons_zero]; rfl
  case hs => kernel_rfl
  case hf => kernel_rfl
  case hr => kernel_rfl
  case hQ => exact fun _ _ _ h => h
  case hS => assumption
  case hy =>
    exact Or.inr ⟨by rfl, rfl⟩
  simp only [Act.put, List.setIfInBounds_toArray, List.set_cons_zero, List.set_cons_succ]
  apply wpAnyH_take (i := 27)
  case hi => simp only [List.getElem?_toArray, List.getElem?_cons_succ, List.getElem?_cons_zero]; rfl
  case hs => kernel_rfl
  case hf => kernel_rfl
  case hr => kernel_rfl
  case hQ => exact fun _ _ _ h => h
  case hS => assumption
  case hy =>
    exact Or.inr ⟨by rfl, rfl⟩
  simp only [Act.put, List.setIfInBounds_toArray, List.set_cons_zero, List.set_cons_succ]
  apply wpAnyH_take (i := 28)
  case hi => simp only [List.getElem?_toArray, List.getElem?_cons_succ, List.getElem?_cons_zero]; rfl
  case hs => kernel_rfl
  case hf => kernel_rfl
  case hr => kernel_rfl
  case hQ => exact fun _ _ _ h => h
  case hS => assumption
  case hy =>
    exact Or.inr ⟨by rfl, rfl⟩
  simp only [Act.put, List.setIfInBounds_toArray, List.set_cons_zero, List.set_cons_succ]
  apply wpAnyH_take (i := 29)
  case hi => simp only [List.getElem?_toArray, List.getElem?_cons_succ, List.getElem?_cons_zero]; rfl
  case hs => kernel_rfl
  case hf => kernel_rfl
  case hr => kernel_rfl
  case hQ => exact fun _ _ _ h => h
  case hS => assumption
  case hy =>
    exact Or.inr ⟨by rfl, rfl⟩
  simp only [Act.put, List.setIfInBounds_toArray, List.set_cons_zero, List.set_cons_succ]
  apply wpAnyH_take (i := 30)
  case hi => simp only [List.getElem?_toArray, List.getElem?_cons_succ, List.getElem?_cons_zero]; rfl
  case hs => kernel_rfl
  case hf => kernel_rfl
  case hr => kernel_rfl
  case hQ => exact fun _ _ _ h => h
  case hS => assumption
  case hy =>
    exact Or.inr ⟨by rfl, rfl⟩
  simp only [Act.put, List.setIfInBounds_toArray, List.set_cons_zero, List.set_cons_succ]
  apply wpAnyH_take (i := 31)
  case hi => simp only [List.getElem?_toArray, List.getElem?_cons_succ, List.getElem?_cons_zero]; rfl
  case hs => kernel_rfl
  case hf => kernel_rfl
  case hr => kernel_rfl
  case hQ => exact fun _ _ _ h => h
  case hS => assumption
  case hy =>
    refine Or.inl ⟨by rfl, ?_⟩
    intro w hSw
    try dsimp only at hSw
    go_simp
    try with_reducible rfl
  simp only [Act.put, List.setIfInBounds_toArray, List.set_cons_zero, List.set_cons_succ]
  apply wpAnyH_take (i := 32)
  case hi => simp only [List.getElem?_toArray, List.getElem?_cons_succ, List.getElem?_cons_zero]; rfl
  case hs => kernel_rfl
  case hf => kernel_rfl
  case hr => kernel_rfl
  case hQ => exact fun _ _ _ h => h
  case hS => assumption
  case hy =>
    refine Or.inl ⟨by rfl, ?_⟩
    intro w hSw
    try dsimp only at hSw
    go_simp
    try with_reducible rfl
  simp only [Act.put, List.setIfInBounds_toArray, List.set_cons_zero, List.set_cons_succ]
  refine wpAnyH_done (by kernel_rfl) ?_ _
  have hbE : Below w.heap.size w w8 := Below.andThen (Below.andThen hbD.drew hb7) hb8
  have hs7 : w6.heap.size ≤ w7.heap.size := hb7.size
  have t1d : BoxAt w6.drew w2.heap.size A1 ml.length c1 A2 mh.length c2 := t1
  obtain ⟨o0, o1⟩ := (t1d.below hb7 (by show w2.heap.size < w6.heap.size; omega)).below hb8 (by omega)
  have t2 : BoxAt w8 w3.heap.size A3 cl.length c3 A4 ch.length c4 := ⟨v0, v1⟩
  have n1 := (u1.drew.below' hb7 (show w3.heap.size ≤ w6.heap.size by omega)).below' hb8 (by omega)
  have n2 := (u2.drew.below' hb7 (show w3.heap.size ≤ w6.heap.size by omega)).below' hb8 (by omega)
  have n3 := (u3d.below' hb7 (show w3.heap.size ≤ w6.heap.size by omega)).below' hb8 (by omega)
  have n4 := (u4d.below' hb7 (show w3.heap.size ≤ w6.heap.size by omega)).below' hb8 (by omega)
  have hs8 : w3.heap.size < w8.heap.size := by have := hb8.size; omega
  have hq8 := hq.below' hbE (Nat.le_refl _)
  have hp8 := hp.below' hbE (Nat.le_refl _)
  clear u1 u2 u3 u4 u3d u4d p7 p8 t2d m0 m1 r0 r1 s0 s1 t1 t1d hp6 hb7 hb8 hs7 hbD
  rcases Hcase.out with ⟨hlen, hdd, hgc⟩ | ⟨hlen, hdd, hgc⟩
  case inr =>
    have f1 : ((us.length : Int) != (vs.length : Int)) = true := by rw [bne_iff_ne]; omega
    subst hdd hgc
    go_wp2_with fail
    go_ret
    exact ⟨rfl, hbE⟩
  have f1 : ((us.length : Int) != (vs.length : Int)) = false := by rw [bne_eq_false_iff_eq]; omega
  have Hlen := Lib.hid hlen
  have Hdd := Lib.hid hdd
  subst hgc
  clear hlen hdd
  have hin : Hid (Bx.isin ml mh vs ml.length = decide (dd ≤ x)) := Lib.hid (by
    rw [Hdd.out, ← E.out.1.1, ← E.out.1.2.1, Bx.aroLo_length]
    exact Bx.around_isin hq.ok)
  have hin2 : Hid (Bx.isin cl ch vs cl.length = decide (Z.part us vs < (k : Int))) := Lib.hid (by
    rw [← E.out.1.2.2.1, ← E.out.1.2.2.2, Z.cut_length, Bx.cell_isin k Hlen.out, decide_eq_decide]
    exact Z.cut_eq_iff Hlen.out hp.ok hq.ok k)
  have hdl : dd < 18446744073709551616 := by rw [Hdd.out]; exact Bx.far_lt hp.ok hq.ok _
  obtain ⟨pt, hpt⟩ : ∃ pt, Z.part us vs = pt := ⟨_, rfl⟩
  have Hpt := Lib.hid hpt
  rw [hpt] at hin2
  have Hl := Lib.hid E.out.2.2
  clear hpt
  have Hfd : Hid (Bx.far us vs us.length = dd) := Lib.hid Hdd.out.symm
  go_wp2_with fail
  refine (bin_yes A1 A2 D c1 c2 _ ml mh vs w3.heap.size w8 _ hin.out n1 n2 (hq8.keep (by omega) (fun _ _ => rfl)) (by omega) g1 g16 (by have := E.out.2.1.1; have := E.out.2.1.2.1; omega) (by have := E.out.2.1.1; have := Hlen.out; omega)).mono ?_
  rintro e w9 ⟨rfl, hb9⟩
  have hbF : Below w.heap.size w w9 := Below.andThen hbE hb9
  have tx := t2.below hb9 hs8
  obtain ⟨j0, j1⟩ := tx
  go_wp2_with fail
  refine (r3far_c A D c _ us vs w.heap.size w9 dd Hfd.out (hp.below' hbF (Nat.le_refl _)) (hq.below' hbF (Nat.le_refl _)) h1 h16 Hlen.out).mono ?_
  rintro e w10 ⟨rfl, hb10⟩
  have hbG := Below.andThen hbF hb10
  have hs9 := hb9.size
  have hs10 := hb10.size
  obtain ⟨i0, i1⟩ := (t2.below hb9 hs8).below hb10 (by omega)
  have m3 := (n3.below' hb9 (by omega)).below' hb10 (by omega)
  have m4 := (n4.below' hb9 (by omega)).below' hb10 (by omega)
  clear j0 j1 o0 o1 v0 v1 n1 n2 n3 n4 hp8 hq8
  by_cases hdx : dd ≤ x
  case pos =>
    rw [decide_eq_true hdx]
    go_wp2_with fail
    refine (bin_yes A3 A4 D c3 c4 _ cl ch vs w3.heap.size w10 _ hin2.out m3 m4 ((hq.below' hbG (Nat.le_refl _)).keep (by omega) (fun _ _ => rfl)) (by omega) (by have := E.out.2.1.2.2.1; omega) (by have := E.out.2.1.2.2.1; omega) (by have := E.out.2.1.2.2.1; have := E.out.2.1.2.2.2; omega) (by have := E.out.2.1.2.2.1; have := Hlen.out; omega)).mono ?_
    rintro e w11 ⟨rfl, hb11⟩
    have hbH := Below.andThen hbG hb11
    by_cases hpl : pt < (k : Int)
    · have hpl2 : pt ≤ l := by have := Hl.out; omega
      rw [decide_eq_true hpl]
      go_wp2_with fail
      refine (rpart_v A D c _ us vs w.heap.size w11 pt Hpt.out (hp.below' hbH (Nat.le_refl _)) (hq.below' hbH (Nat.le_refl _)) h1 h16 Hlen.out).mono ?_
      rintro e w12 ⟨rfl, rfl⟩
      go_wp2_with fail
      go_ret
      first | exact ⟨rfl, hbH⟩ | exact ⟨ret_bool (by simp; omega), hbH⟩ | exact ⟨ret_bool (by simp), hbH⟩
    · have hpl2 : l < pt := by have := Hl.out; omega
      rw [decide_eq_false hpl]
      go_wp2_with fail
      refine (rpart_v A D c _ us vs w.heap.size w11 pt Hpt.out (hp.below' hbH (Nat.le_refl _)) (hq.below' hbH (Nat.le_refl _)) h1 h16 Hlen.out).mono ?_
      rintro e w12 ⟨rfl, rfl⟩
      go_wp2_with fail
      go_ret
      first | exact ⟨rfl, hbH⟩ | exact ⟨ret_bool (by simp; omega), hbH⟩ | exact ⟨ret_bool (by simp), hbH⟩
  case neg =>
    rw [decide_eq_false hdx]
    go_wp2_with fail
    refine (bin_yes A3 A4 D c3 c4 _ cl ch vs w3.heap.size w10 _ hin2.out m3 m4 ((hq.below' hbG (Nat.le_refl _)).keep (by omega) (fun _ _ => rfl)) (by omega) (by have := E.out.2.1.2.2.1; omega) (by have := E.out.2.1.2.2.1; omega) (by have := E.out.2.1.2.2.1; have := E.out.2.1.2.2.2; omega) (by have := E.out.2.1.2.2.1; have := Hlen.out; omega)).mono ?_
    rintro e w11 ⟨rfl, hb11⟩
    have hbH := Below.andThen hbG hb11
    by_cases hpl : pt < (k : Int)
    · have hpl2 : pt ≤ l := by have := Hl.out; omega
      rw [decide_eq_true hpl]
      go_wp2_with fail
      refine (rpart_v A D c _ us vs w.heap.size w11 pt Hpt.out (hp.below' hbH (Nat.le_refl _)) (hq.below' hbH (Nat.le_refl _)) h1 h16 Hlen.out).mono ?_
      rintro e w12 ⟨rfl, rfl⟩
      go_wp2_with fail
      go_ret
      first | exact ⟨rfl, hbH⟩ | exact ⟨ret_bool (by simp; omega), hbH⟩ | exact ⟨ret_bool (by simp), hbH⟩
    · have hpl2 : l < pt := by have := Hl.out; omega
      rw [decide_eq_false hpl]
      go_wp2_with fail
      refine (rpart_v A D c _ us vs w.heap.size w11 pt Hpt.out (hp.below' hbH (Nat.le_refl _)) (hq.below' hbH (Nat.le_refl _)) h1 h16 Hlen.out).mono ?_
      rintro e w12 ⟨rfl, rfl⟩
      go_wp2_with fail
      go_ret
      first | exact ⟨rfl, hbH⟩ | exact ⟨ret_bool (by simp; omega), hbH⟩ | exact ⟨ret_bool (by simp), hbH⟩

end Go.Proofs.Ytiifggchnpdonaa
