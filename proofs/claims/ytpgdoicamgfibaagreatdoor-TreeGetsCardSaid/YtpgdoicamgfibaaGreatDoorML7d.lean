import Derived.Test.YtpgdoicamgfibaaGreatDoorML7a
import Derived.Test.YtpgdoicamgfibaaGreatDoorMGp
/-
  THE LAW TreeGets.
-/
namespace Go.Proofs.YtpgdoicamgfibaaGreatDoor
open Go.ChangeShapes Go.WideShapes Go.ChangeAt Go.RowKit
open Tr (T S4 Ent)

theorem get_last {k : Nat} {o : Option T} (hwf : ∀ t, o = some t → Tr.Wf k t) {p : List Nat} (hp : p.length = k) (ho : Z.Ok p) : entO (Tr.pathT o p).getLast? = ((Tr.getE (Tr.entsO o) p).getD 0, (Tr.getE (Tr.entsO o) p).isSome) := by
  rcases Tr.path_chain hp ho 65 o (fun t e => ⟨hwf t e, by have := (hwf t e).lv64; omega⟩) with ⟨g, v0, L, h1, -, h3⟩ | ⟨h1, h2, h3⟩
  · rw [Tr.get_here hp ho hwf h3, show Tr.pathT o p = L ++ [.ent g p v0] from h1, List.getLast?_append]
    rfl
  · rw [Tr.get_none hp ho hwf h1 h2]
    rcases h3 with h3 | ⟨L, u, h3, h4⟩
    · rw [show Tr.pathT o p = [] from h3]; rfl
    · rw [show Tr.pathT o p = L ++ [u] from h3, List.getLast?_append]
      cases u with
      | ent g q v => exact h4.elim
      | br g l pre ks => rfl
theorem path_first {p : List Nat} : ∀ (n : Nat) (o : Option T) (t : T), (Tr.pathF n o p)[0]? = some t → o = some t
  | 0, _, _, h => by simp [Tr.pathF] at h
  | _ + 1, none, _, h => by simp [Tr.pathF] at h
  | n + 1, some s, t, h => by
    simp only [Tr.pathF] at h
    split at h
    · simpa using h
    · simp at h
theorem path_next {p : List Nat} : ∀ (n : Nat) (o : Option T) (i : Nat) (t s : T), (Tr.pathF n o p)[i]? = some t → (Tr.pathF n o p)[i + 1]? = some s → Tr.kidAt t p = some s
  | 0, _, _, _, _, h, _ => by simp [Tr.pathF] at h
  | _ + 1, none, _, _, _, h, _ => by simp [Tr.pathF] at h
  | n + 1, some u, i, t, s, h, h' => by
    simp only [Tr.pathF] at h h'
    split at h
    · rename_i hc
      rw [if_pos hc] at h'
      rw [List.getElem?_cons_succ] at h'
      cases i with
      | zero =>
        simp only [List.getElem?_cons_zero, Option.some.injEq] at h
        subst h
        exact path_first n _ _ h'
      | succ i =>
        rw [List.getElem?_cons_succ] at h
        exact path_next n _ i t s h h'
    · simp at h
theorem path_few {k : Nat} {p : List Nat} {o : Option T} {us : List T} (h : Tr.pathT o p = us) (hwf : ∀ t, o = some t → Tr.Wf k t) {u : T} (hu : u ∈ us) : u.ents.length ≤ (Tr.entsO o).length := by
  have key : ∀ (n : Nat) (o : Option T), (∀ t, o = some t → Tr.Wf k t) → ∀ u ∈ Tr.pathF n o p, u.ents.length ≤ (Tr.entsO o).length := by
    intro n
    induction n with
    | zero => intro o _ u hu; simp [Tr.pathF] at hu
    | succ n ih =>
      intro o hw u hu
      cases o with
      | none => simp [Tr.pathF] at hu
      | some t =>
        simp only [Tr.pathF] at hu
        split at hu
        · rcases List.mem_cons.1 hu with rfl | hu
          · exact Nat.le_refl _
          · have h1 := ih (Tr.kidAt t p) (fun s hs => (Tr.kidAt_wf (hw t rfl) hs).1) u hu
            cases hk : Tr.kidAt t p with
            | none => rw [hk] at hu; cases n <;> simp [Tr.pathF] at hu
            | some s => rw [hk] at h1; exact Nat.le_trans h1 (Nat.le_of_lt (kid_fewer (hw t rfl) hk))
        · simp at hu
  subst h
  exact key 65 o hwf u hu
set_option maxRecDepth 100000 in
/-- too many acts, another K, or too many coordinates -/
theorem treeGets_skip {w : World} {A A' : Option Addr} {c c' : Nat} {l : List ActT} {p : List Nat} (k : Int) (hT : Tz w) (hA : ActsT w w.heap.size A l) (hl : l.length ≤ maxLen) (hpl : p.length ≤ maxLen) (r1 b1 b2 b3 : Bool) (hh : heavyA 40 l = r1) (hb1 : decide (k < 1) = b1) (hb2 : decide (16 < k) = b2) (hb3 : decide ((40 : Int) < (p.length : Int)) = b3) (hor : (r1 || b1 || b2 || b3) = true) :
    Calls Tryz.prog 4 #[.int .i64 k, .slice A l.length c, .slice A' p.length c'] w fun e w' => e = .returned (.bool true) ∧ Below w.heap.size w w' := by
  have HX := Lib.hid (And.intro hA (And.intro hl (And.intro hh hT)))
  have hpm : p.length ≤ 9223372036854775807 := by unfold maxLen at hpl; omega
  clear hA hl hh hT
  go_enter Tryz.func4, Tryz.ntmps4
  go_wp2_with fail
  refine (awake7_c w HX.out.2.2.2).mono ?_
  rintro e w0 ⟨rfl, hb0⟩
  have HH := Lib.hid (rheavy7_c (c := c) (HX.out.1.below hb0 (Nat.le_refl _) (Nat.le_refl _)) HX.out.2.1 40 r1 HX.out.2.2.1)
  have HB0 := Lib.hid hb0
  clear hb0
  go_wp2_with fail
  refine HH.out.mono ?_
  rintro e w' ⟨rfl, rfl⟩
  clear HH
  cases r1 with
  | true =>
    go_wp2_with fail
    go_ret
    exact ⟨rfl, HB0.out⟩
  | false =>
    cases b1 with
    | true =>
      go_wp2_with fail
      go_ret
      exact ⟨rfl, HB0.out⟩
    | false =>
      cases b2 with
      | true =>
        go_wp2_with fail
        go_ret
        exact ⟨rfl, HB0.out⟩
      | false =>
        cases b3 with
        | true =>
          go_wp2_with fail
          go_ret
          exact ⟨rfl, HB0.out⟩
        | false => cases hor
set_option maxRecDepth 100000 in
set_option maxHeartbeats 2000000 in
theorem treeGets_dim {w : World} {A A' : Option Addr} {c c' : Nat} {l : List ActT} {p : List Nat} (k : Nat) (hT : Tz w) (hA : ActsT w w.heap.size A l) (hl : l.length ≤ maxLen) (hh : heavyA 40 l = false) (h1 : 1 ≤ k) (h16 : k ≤ 16) (hp : p.length ≤ 40) (hne : p.length ≠ k) :
    Calls Tryz.prog 4 #[.int .i64 (k : Int), .slice A l.length c, .slice A' p.length c'] w fun e w' => e = .returned (.bool true) ∧ Below w.heap.size w w' := by
  have hfew := heavyA_few hh
  have HX := Lib.hid (And.intro hA (And.intro hl (And.intro hh hT)))
  have HK := Lib.hid (And.intro h1 (And.intro h16 hne))
  have d1 : decide ((k : Int) < 1) = false := decide_eq_false (by omega)
  have d2 : decide ((16 : Int) < (k : Int)) = false := decide_eq_false (by omega)
  have d3 : decide ((40 : Int) < (p.length : Int)) = false := decide_eq_false (by omega)
  have d3' : decide (40 < p.length) = false := decide_eq_false (by omega)
  have n1 : ((p.length : Int) != (k : Int)) = true := by simp; omega
  clear hA hl hh hT h1 h16 hne
  go_enter Tryz.func4, Tryz.ntmps4
  go_wp2_with fail
  refine (awake7_c w HX.out.2.2.2).mono ?_
  rintro e w0 ⟨rfl, hb0⟩
  have HH := Lib.hid (rheavy7_c (c := c) (HX.out.1.below hb0 (Nat.le_refl _) (Nat.le_refl _)) HX.out.2.1 40 false HX.out.2.2.1)
  have HB0 := Lib.hid hb0
  have HG := Lib.hid (grown_c (c := c) HK.out.1 HK.out.2.1 (HX.out.1.below hb0 (Nat.le_refl _) (Nat.le_refl _)) hb0.size (by omega))
  clear hb0
  go_wp2_with fail
  refine HH.out.mono ?_
  rintro e w' ⟨rfl, rfl⟩
  clear HH
  go_wp2_with fail
  refine HG.out.mono ?_
  rintro e w1 ⟨b, o, D, d, rfl, hd, -, hb1⟩
  have HGt := Lib.hid (tGet_dim hd.tree.1.2.2.2.1 A' p.length c' (by unfold maxLen; omega) HK.out.2.2)
  have HPt := Lib.hid (tPath_dim hd.tree.1.2.2.2.1 A' p.length c' (by unfold maxLen; omega) HK.out.2.2)
  have HB1 := Lib.hid (Below.andThen HB0.out hb1)
  clear hd hb1 HG HB0
  go_wp2_with (first
    | (go_at_call 15; refine HGt.out.mono ?_; rintro e w' ⟨rfl, rfl⟩)
    | (go_at_call 16; refine HPt.out.mono ?_; rintro e w' ⟨rfl, rfl⟩))
  go_ret
  exact ⟨rfl, HB1.out⟩
set_option maxRecDepth 100000 in
set_option maxHeartbeats 4000000 in
theorem treeGets_go {w : World} {A A' : Option Addr} {c c' : Nat} {l : List ActT} {p : List Nat} (k : Nat) (hT : Tz w) (hA : ActsT w w.heap.size A l) (hl : l.length ≤ maxLen) (hh : heavyA 40 l = false) (h1 : 1 ≤ k) (h16 : k ≤ 16) (hp : Pts w w.heap.size A' p) (hk : p.length = k) :
    Calls Tryz.prog 4 #[.int .i64 (k : Int), .slice A l.length c, .slice A' p.length c'] w fun e w' => e = .returned (.bool true) ∧ Below w.heap.size w w' := by
  have hfew := heavyA_few hh
  have HX := Lib.hid (And.intro hA (And.intro hl (And.intro hh hT)))
  have HK := Lib.hid (And.intro h1 (And.intro h16 (And.intro hk hp)))
  have d1 : decide ((k : Int) < 1) = false := decide_eq_false (by omega)
  have d2 : decide ((16 : Int) < (k : Int)) = false := decide_eq_false (by omega)
  have d3 : decide ((40 : Int) < (p.length : Int)) = false := decide_eq_false (by omega)
  have d3' : decide (40 < p.length) = false := decide_eq_false (by omega)
  have n1 : ((p.length : Int) != (k : Int)) = false := by simp; omega
  have hpm : p.length ≤ 16 := by omega
  clear hA hl hh hT h1 h16 hk hp
  go_enter Tryz.func4, Tryz.ntmps4
  go_wp2_with fail
  refine (awake7_c w HX.out.2.2.2).mono ?_
  rintro e w0 ⟨rfl, hb0⟩
  have HH := Lib.hid (rheavy7_c (c := c) (HX.out.1.below hb0 (Nat.le_refl _) (Nat.le_refl _)) HX.out.2.1 40 false HX.out.2.2.1)
  have HB0 := Lib.hid hb0
  have HG := Lib.hid (grown_c (c := c) HK.out.1 HK.out.2.1 (HX.out.1.below hb0 (Nat.le_refl _) (Nat.le_refl _)) hb0.size (by omega))
  clear hb0
  go_wp2_with fail
  refine HH.out.mono ?_
  rintro e w' ⟨rfl, rfl⟩
  clear HH
  go_wp2_with fail
  refine HG.out.mono ?_
  rintro e w1 ⟨b, o, D, d, rfl, hd, -, hb1⟩
  obtain ⟨gv, hgv⟩ : ∃ gv, Tr.getE (Tr.entsO o) p = gv := ⟨_, rfl⟩
  have HB1 := Lib.hid (Below.andThen HB0.out hb1)
  have hp1 := HK.out.2.2.2.below' HB1.out (Nat.le_refl _)
  have hgl := get_last hd.wf HK.out.2.2.1 HK.out.2.2.2.1
  rw [hgv] at hgl
  have HGt := Lib.hid (tGet_c hd.tree.1 (Nat.le_refl _) (hp1.keep HB1.out.size (fun _ _ => rfl)) HK.out.2.2.1 (c := c') (gv.getD 0) gv.isSome hgl)
  have HD := Lib.hid (And.intro hd (And.intro hgv hp1))
  clear hd hb1 HG HB0 hgl hgv hp1
  go_wp2_with fail
  refine HGt.out.mono ?_
  rintro e w2 ⟨rfl, hb2⟩
  have HD2 := Lib.hid (HD.out.1.below hb2)
  have HB2 := Lib.hid (And.intro hb2 (Below.andThen HB1.out hb2))
  clear hb2 HGt
  go_wp2_with fail
  refine (tPath_c HD2.out.tree.1 (Nat.le_refl _) ((HK.out.2.2.2.below' HB2.out.2 (Nat.le_refl _)).keep HB2.out.2.size (fun _ _ => rfl)) HK.out.2.2.1 (c := c')).mono ?_
  rintro e w3 ⟨Dp, dp, rfl, hnd3, hl3, hb3⟩
  have HD3 := Lib.hid (HD2.out.below hb3)
  have HB3 := Lib.hid (Below.andThen HB2.out.2 hb3)
  have HN3 := Lib.hid hnd3
  clear hnd3 hb3 HD2
  obtain ⟨hz, hdm⟩ := entsO_zs HD3.out.wf
  have HG6 := Lib.hid (rget6_c (c := d) (c' := c') hz hdm HD3.out.list (HK.out.2.2.2.below' HB3.out (Nat.le_refl _)) HK.out.2.2.1 HK.out.1 HK.out.2.1 (by have := HD3.out.few; have := HD3.out.most; omega) gv HD.out.2.1)
  have HP7 := Lib.hid (rpath7_c (c := d) (c' := c') HD3.out.wf (HD3.out.list.ents HD3.out.old (Nat.le_refl _)) HD3.out.cap (by have := HD3.out.few; have := HD3.out.most; omega) ((HK.out.2.2.2.below' HB3.out (Nat.le_refl _)).keep HB3.out.size (fun _ _ => rfl)) HK.out.2.2.1 HK.out.1 HK.out.2.1)
  clear hz hdm
  obtain ⟨us, hus⟩ : ∃ us, Tr.pathT o p = us := ⟨_, rfl⟩
  rw [hus] at HP7 HN3 hl3 ⊢
  have HUs := Lib.hid hus
  clear hus
  go_wp2_with fail
  refine HG6.out.mono ?_
  rintro e w' ⟨rfl, rfl⟩
  go_wp2_with fail
  refine HP7.out.mono ?_
  rintro e w4 ⟨v4, V4, rfl, hown4, hls4, hb4⟩
  obtain ⟨A4, c4, rfl, -, hrd4⟩ := hown4.rd
  rw [hls4.1]
  have HL4 := Lib.hid (And.intro hls4 hrd4)
  have hb4s := Lib.hid hb4
  have HB4 := Lib.hid (Below.andThen HB3.out hb4)
  have HD4 := Lib.hid (HD3.out.below hb4)
  obtain ⟨Ap, cp, hvp, -, hrdp⟩ := HN3.out.slice
  simp only [Value.slice.injEq] at hvp
  obtain ⟨rfl, -, rfl⟩ := hvp
  have HN4 := Lib.hid (hrdp.below hb4 (Nat.le_refl _) hb4.size)
  clear hown4 hls4 hrd4 HG6 HP7 HD3 hrdp HN3
  have n3 : (((gv.getD 0 : Nat) : Int) != ((gv.getD 0 : Nat) : Int)) = false := by simp
  have n4 : (gv.isSome != gv.isSome) = false := by simp
  have n5 : ((us.length : Int) != (us.length : Int)) = false := by simp
  have d5 : decide ((65 : Int) < (us.length : Int)) = false := decide_eq_false (by omega)
  have d5' : decide (65 < us.length) = false := decide_eq_false (by omega)
  go_wp2_with fail
  go_loopw [18] (fun i wr => ∃ j : Nat, j ≤ us.length ∧ i = .int .i64 j ∧ Below w4.heap.size w4 wr) (fun i _ => us.length - (intOf i).toNat)
  case atStart => exact ⟨0, Nat.zero_le _, rfl, Below.refl _ _⟩
  case round =>
    obtain ⟨j, hj, rfl, hbr⟩ := hrel
    by_cases hlt : j < us.length
    · obtain ⟨u, hu⟩ := get_lt hlt
      have hne : ptrV us ≠ [] := by
        intro e
        have := congrArg List.length e
        rw [ptrV_length] at this
        simp at this
        rw [this] at hlt
        simp at hlt
      obtain ⟨pb, po, hDp, hpb, hpc⟩ := HN4.out hne
      have hcell : ∀ i t, us[i]? = some t → ∀ w', Below wr.heap.size wr w' → w'.cell? ⟨pb, po + i, none⟩ = some (.pointer (some ⟨t.blk, 0, none⟩)) := fun i t ht w' hb' =>
        ((hbr.trans (hb'.mono hbr.size)).cell (p := ⟨pb, po + i, none⟩) hpb).trans (hpc i _ (by simp [ptrV, ht, ndV]))
      obtain ⟨lb, lo, lc, hV, hEnt, hlc⟩ := HL4.out.1.2 j u hu
      obtain ⟨rb, ro, hA4, hrb, hrc⟩ := HL4.out.2.at hV
      subst hDp hA4
      have hwr := Below.andThen HB4.out hbr
      have y0 := hcell j u hu
      have y1 : ∀ w', Below wr.heap.size wr w' → w'.cell? ⟨rb, ro + j, none⟩ = some (.slice (some ⟨lb, lo, none⟩) u.ents.length lc) := fun w' hb' => ((hbr.trans (hb'.mono hbr.size)).cell (p := ⟨rb, ro + j, none⟩) hrb).trans hrc
      have hnode : Node w4 w4.heap.size k u := ((path_nodes p 65 o (HD4.out.tree.1.2.2.2.2)).1 u (by rw [show Tr.pathF 65 o p = us from HUs.out]; exact List.mem_of_getElem? hu)).1
      have h43 := hb4s.out
      have HI : Hid (∀ w1, Below wr.heap.size wr w1 → Calls Tryz.prog 19 #[.pointer (some ⟨u.blk, 0, none⟩), .slice (some ⟨lb, lo, none⟩) u.ents.length lc] w1 fun e w' => e = .returned (.bool true) ∧ Below w1.heap.size w1 w') := Lib.hid fun w1 hb1 => by
        have hbb := hbr.trans (hb1.mono hbr.size)
        have hlen : u.ents.length ≤ 1000000 := by
          have h1 := path_few HUs.out HD4.out.wf (List.mem_of_getElem? hu)
          have := HD4.out.few
          have := HD4.out.most
          omega
        exact is_all k u w1 w1.heap.size lb lo lc (hnode.below hbb (Nat.le_refl _) hbb.size) (hEnt.below (Below.andThen h43 hbb) (Nat.le_refl _) (Below.andThen h43 hbb).size) (Nat.le_refl _) hlc hlen
      have HC := Lib.hid (And.intro hcell (And.intro hu (And.intro hbr (And.intro hnode hwr))))
      have m1 : (0 : Int) ≤ (j : Int) := by omega
      have m2 : (j : Int) < (us.length : Int) := by omega
      have hb0 : Below wr.heap.size wr wr := Below.refl _ _
      clear hu hne hpc hcell hV hEnt hlc hrc hwr hnode h43 hbr
      go_wp2_with fail
      go_region_held3 (fun w' => Below wr.heap.size wr w') (((repeat (first | refine Below.drew ?_ | (with_reducible refine below_drewN _ ?_) | refine Below.alloc ?_ (by first | omega | (simp; done) | (simp; omega)) _ | refine Below.setCell ?_ (by first | omega | (simp; done) | (simp; omega)) _)); first | exact Below.refl _ _ | assumption | exact below_drewN _ (Below.refl _ _) | exact below_drewN _ (below_drewN _ (Below.refl _ _))))
        ((go_at_call 19; refine (HI.out _ (show Below wr.heap.size wr _ by ((repeat (first | refine Below.drew ?_ | (with_reducible refine below_drewN _ ?_) | refine Below.alloc ?_ (by first | omega | (simp; done) | (simp; omega)) _ | refine Below.setCell ?_ (by first | omega | (simp; done) | (simp; omega)) _)); first | exact Below.refl _ _ | assumption | exact below_drewN _ (Below.refl _ _) | exact below_drewN _ (below_drewN _ (Below.refl _ _))))).mono ?_; rintro e w5 ⟨rfl, hb5⟩; have hbD := Below.trans (show Below wr.heap.size wr _ by ((repeat (first | refine Below.drew ?_ | (with_reducible refine below_drewN _ ?_) | refine Below.alloc ?_ (by first | omega | (simp; done) | (simp; omega)) _ | refine Below.setCell ?_ (by first | omega | (simp; done) | (simp; omega)) _)); first | exact Below.refl _ _ | assumption | exact below_drewN _ (Below.refl _ _) | exact below_drewN _ (below_drewN _ (Below.refl _ _)))) (hb5.mono (Below.size (show Below wr.heap.size wr _ by ((repeat (first | refine Below.drew ?_ | (with_reducible refine below_drewN _ ?_) | refine Below.alloc ?_ (by first | omega | (simp; done) | (simp; omega)) _ | refine Below.setCell ?_ (by first | omega | (simp; done) | (simp; omega)) _)); first | exact Below.refl _ _ | assumption | exact below_drewN _ (Below.refl _ _) | exact below_drewN _ (below_drewN _ (Below.refl _ _)))))); clear hb5))
      clear y0 y1 HI
      obtain ⟨hcell, hu, hbr, hnode, hwr⟩ := HC.out
      have y0 := hcell j u hu w5 hbD
      have HB5 := Lib.hid (hbr.trans (hbD.mono hbr.size))
      have hpe := ptr_ne
      cases j with
      | zero =>
        have hroot : o = some u := path_first 65 o u (by rw [show Tr.pathF 65 o p = us from HUs.out]; exact hu)
        have HRt : Hid (∀ i, Calls Tryz.prog 20 #[.pointer (some ⟨b, 0, none⟩)] (w5.drewN i) fun e w'' => e = .returned (.pointer (some ⟨u.blk, 0, none⟩)) ∧ ∃ j, w'' = (w5.drewN i).drewN j) := Lib.hid fun i => by
          have h1 := (HD4.out.tree.1.2.2.2.1).below (below_drewN i HB5.out) HD4.out.tree.1.1
          rw [hroot] at h1
          exact (tRoot_c h1).mono fun e w'' hh => ⟨hh.1, 0, hh.2.symm⟩
        rw [Nat.add_zero] at y0
        have e0 : (((0 : Nat) : Int) == 0) = true := by simp
        have d6 : decide ((0 : Int) < ((0 : Nat) : Int)) = false := by simp
        clear hcell hu hbr hnode hwr hbD hroot HC
        go_wp2_with fail
        go_quiet ((go_at_call 20; exact Calls.quiet_of (HRt.out _)))
        go_wp2_with fail
        go_roundw
        case rel => exact ⟨1, by omega, rfl, below_drewN _ HB5.out⟩
        case measure => simp [intOf]; omega
      | succ i =>
        obtain ⟨t, ht⟩ := get_lt (show i < us.length by omega)
        have yp := hcell i t ht w5 hbD
        have hkid : Tr.kidAt t p = some u := path_next 65 o i t u (by rw [show Tr.pathF 65 o p = us from HUs.out]; exact ht) (by rw [show Tr.pathF 65 o p = us from HUs.out]; exact hu)
        have hnt : Node w5 w4.heap.size k t := (((path_nodes p 65 o (HD4.out.tree.1.2.2.2.2)).1 t (by rw [show Tr.pathF 65 o p = us from HUs.out]; exact List.mem_of_getElem? ht)).1).below HB5.out (Nat.le_refl _) (Nat.le_refl _)
        obtain ⟨lv, hlv, h63⟩ : ∃ lv : Nat, levI t = (lv : Int) ∧ lv ≤ 63 := by
          cases t with
          | ent g q v => cases hkid
          | br g l pre ks => exact ⟨l, by show ((l + 1 : Nat) : Int) - 1 = l; omega, by cases hnt.1 with | br _ _ _ _ h63 => exact h63⟩
        obtain ⟨kp, hnd⟩ := hnt.2.nd
        rw [hlv] at hnd
        have hlt1 : t.lv - 1 = lv := by have : levI t = (t.lv : Int) - 1 := rfl; omega
        have HLv : Hid (∀ i, Calls Tryz.prog 23 #[.pointer (some ⟨t.blk, 0, none⟩)] (w5.drewN i) fun e w'' => e = .returned (.int .i64 (lv : Int)) ∧ ∃ j, w'' = (w5.drewN i).drewN j) := Lib.hid fun i =>
          (nLevel_c (hnd.below (below_drewN i (Below.refl w5.heap.size w5)) HB5.out.size (Nat.le_refl _))).mono fun e w'' hh => ⟨hh.1, 0, hh.2.symm⟩
        have HAd : Hid (∀ i, Calls Tryz.prog 22 #[.slice A' p.length c', .int .i64 (lv : Int)] (w5.drewN i) fun e w'' => e = .returned (.int .i64 (Z.addr p lv : Int)) ∧ ∃ j, w'' = (w5.drewN i).drewN j) := Lib.hid fun i =>
          (raddr_c A' c' p lv w.heap.size (w5.drewN i) (HK.out.2.2.2.below' (below_drewN i (Below.andThen HB4.out HB5.out)) (Nat.le_refl _)) (by rw [HK.out.2.2.1]; exact HK.out.1) (by rw [HK.out.2.2.1]; exact HK.out.2.1) h63).mono fun e w'' hh => ⟨hh.1, 0, hh.2.symm⟩
        have HKd : Hid (∀ i, Calls Tryz.prog 21 #[.pointer (some ⟨t.blk, 0, none⟩), .int .i64 (Z.addr p lv : Int)] (w5.drewN i) fun e w'' => e = .returned (.pointer (some ⟨u.blk, 0, none⟩)) ∧ ∃ j, w'' = (w5.drewN i).drewN j) := Lib.hid fun i =>
          nKid_c (hnt.below (below_drewN i (Below.refl w5.heap.size w5)) HB5.out.size (Nat.le_refl _)).2 (Z.addr p lv : Int) _ (by rw [rootP_kid, ← hlt1]; rw [show Sl.get t.ks (Z.addr p (t.lv - 1) : Int) = Tr.kidAt t p from rfl, hkid]; rfl)
        have e0 : (((i + 1 : Nat) : Int) == 0) = false := by rw [beq_eq_false_iff_ne]; omega
        have d6 : decide ((0 : Int) < ((i + 1 : Nat) : Int)) = true := decide_eq_true (by omega)
        have d6' : decide (0 < i + 1) = true := decide_eq_true (by omega)
        have f0 : ((i : Int) + 1 == 0) = false := by rw [beq_eq_false_iff_ne]; omega
        have f6 : decide ((0 : Int) < (i : Int) + 1) = true := decide_eq_true (by omega)
        have f4 : (i : Int) + 1 - 1 = (i : Int) := by omega
        have m5 : (0 : Int) ≤ (i : Int) + 1 := by omega
        have m6 : (i : Int) + 1 < (us.length : Int) := by omega
        have m3 : (0 : Int) ≤ (i : Int) := by omega
        have m4 : (i : Int) < (us.length : Int) := by omega
        clear hcell hu hbr hnode hwr hbD HC ht hkid hnt hnd hlv h63 hlt1
        go_wp2_with fail
        go_quiet ((first
          | (go_at_call 23; exact Calls.quiet_of (HLv.out _))
          | (go_at_call 22; exact Calls.quiet_of (HAd.out _))
          | (go_at_call 21; exact Calls.quiet_of (HKd.out _))))
        go_wp2_with fail
        go_roundw
        case rel => exact ⟨i + 2, by omega, by go_num, below_drewN _ HB5.out⟩
        case measure => simp [intOf]; omega
    · go_wp2_with fail
      go_ret
      exact ⟨rfl, Below.andThen HB4.out hbr⟩
/-- The law, at arguments laid open. -/
theorem treeGets_c {w : World} {A A' : Option Addr} {c c' : Nat} {l : List ActT} {p : List Nat} (k : Int) (hT : Tz w) (hA : ActsT w w.heap.size A l) (hl : l.length ≤ maxLen) (hp : Pts w w.heap.size A' p) (hpl : p.length ≤ maxLen) :
    Calls Tryz.prog 4 #[.int .i64 k, .slice A l.length c, .slice A' p.length c'] w fun e w' => e = .returned (.bool true) ∧ Below w.heap.size w w' := by
  by_cases hs : (heavyA 40 l || decide (k < 1) || decide (16 < k) || decide ((40 : Int) < (p.length : Int))) = true
  · exact treeGets_skip k hT hA hl hpl _ _ _ _ rfl rfl rfl rfl hs
  · simp only [Bool.or_eq_true, not_or, Bool.not_eq_true, decide_eq_false_iff_not] at hs
    obtain ⟨⟨⟨hh, h1⟩, h16⟩, h40⟩ := hs
    obtain ⟨n, rfl⟩ : ∃ n : Nat, k = (n : Int) := ⟨k.toNat, by omega⟩
    by_cases hk : p.length = n
    · exact treeGets_go n hT hA hl hh (by omega) (by omega) hp hk
    · exact treeGets_dim n hT hA hl hh (by omega) (by omega) (by omega) hk
end Go.Proofs.YtpgdoicamgfibaaGreatDoor
