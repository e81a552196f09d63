import Derived.Test.YtpgdoicamgfibaaDoorMSh1
import Derived.Test.YtpgdoicamgfibaaDoorML7a
/-
  THE LAW TreeShares.
-/
namespace Go.Proofs.YtpgdoicamgfibaaDoor
open Go.ChangeShapes Go.WideShapes Go.ChangeAt Go.RowKit
open Tr (T S4 Ent)

set_option maxRecDepth 100000 in
theorem treeShares_skip {w : World} {A : Option Addr} {c : Nat} {l : List ActT} {A' : Option Addr} {c' v : Nat} {p : List Nat} (k : Int) (del : Bool) (hT : Tz w) (hA : ActsT w w.heap.size A l) (hl : l.length ≤ maxLen) (hpl : p.length ≤ maxLen) (r1 b1 b2 b3 : Bool) (hh : heavyA 40 l = r1) (hb1 : decide (k < 1) = b1) (hb2 : decide (16 < k) = b2) (hb3 : ((p.length : Int) != k) = b3) (hor : (r1 || b1 || b2 || b3) = true) :
    Calls Tryd.prog 6 #[.int .i64 k, .slice A l.length c, actV del A' p.length c' v] w fun e w' => e = .returned (.bool true) ∧ Below w.heap.size w w' := by
  have HX := Lib.hid (And.intro hA (And.intro hl (And.intro hh hT)))
  have hpm : p.length ≤ 9223372036854775807 := by unfold maxLen at hpl; omega
  clear hA hl hh hT
  go_enter Tryd.func6, Tryd.ntmps6
  go_wp2_with fail
  rw [show w.alloc (.cells #[.bool del, .slice A' p.length c', .int .u64 (v : Int)] 65) = doneW w del A' p.length c' v from rfl]
  have HBW := Lib.hid (doneW_below w del A' p.length c' v)
  have HAc := Lib.hid (And.intro (doneW_act w del A' p.length c' v) (doneW_size w del A' p.length c' v))
  generalize doneW w del A' p.length c' v = W at *
  refine (awake7_c W (HX.out.2.2.2.on HBW.out)).mono ?_
  rintro e w0 ⟨rfl, hb0⟩
  have HB0 := Lib.hid (Below.andThen HBW.out hb0)
  obtain ⟨x0, x1, x2⟩ := HAc.out.1.below hb0 (by have := HAc.out.2; omega)
  have HH := Lib.hid (rheavy7_c (c := c) (HX.out.1.below HB0.out (Nat.le_refl _) (Nat.le_refl _)) HX.out.2.1 40 r1 HX.out.2.2.1)
  have HA0 := Lib.hid (HAc.out.1.below hb0 (by have := HAc.out.2; omega))
  have H0s := Lib.hid (show w.heap.size < w0.heap.size by have := HAc.out.2; have := hb0.size; omega)
  clear hb0
  go_wp2_with fail
  refine HH.out.mono ?_
  rintro e w' ⟨rfl, rfl⟩
  clear HH
  cases r1 with
  | true =>
    go_wp2_with fail
    go_ret
    exact ⟨rfl, HB0.out⟩
  | false =>
    cases b1 with
    | true =>
      go_wp2_with fail
      go_ret
      exact ⟨rfl, HB0.out⟩
    | false =>
      cases b2 with
      | true =>
        go_wp2_with fail
        go_ret
        exact ⟨rfl, HB0.out⟩
      | false =>
        cases b3 with
        | true =>
          go_wp2_with fail
          go_ret
          exact ⟨rfl, HB0.out⟩
        | false => cases hor
set_option maxRecDepth 100000 in
set_option maxHeartbeats 4000000 in
theorem treeShares_go {w : World} {A : Option Addr} {c : Nat} {l : List ActT} {A' : Option Addr} {c' v : Nat} {p : List Nat} (k : Nat) (del : Bool) (hT : Tz w) (hA : ActsT w w.heap.size A l) (hl : l.length ≤ maxLen) (hh : heavyA 40 l = false) (h1 : 1 ≤ k) (h16 : k ≤ 16) (hp : Pts w w.heap.size A' p) (hk : p.length = k) (hv : v < 18446744073709551616) :
    Calls Tryd.prog 6 #[.int .i64 (k : Int), .slice A l.length c, actV del A' p.length c' v] w fun e w' => e = .returned (.bool true) ∧ Below w.heap.size w w' := by
  have hfew := heavyA_few hh
  have HX := Lib.hid (And.intro hA (And.intro hl (And.intro hh hT)))
  have HK := Lib.hid (And.intro h1 (And.intro h16 (And.intro hk hp)))
  have HV := Lib.hid hv
  have d1 : decide ((k : Int) < 1) = false := decide_eq_false (by omega)
  have d2 : decide ((16 : Int) < (k : Int)) = false := decide_eq_false (by omega)
  have n1 : ((p.length : Int) != (k : Int)) = false := by simp; omega
  have hpm : p.length ≤ 16 := by omega
  clear hA hl hh hT h1 h16 hk hp hv
  go_enter Tryd.func6, Tryd.ntmps6
  go_wp2_with fail
  rw [show w.alloc (.cells #[.bool del, .slice A' p.length c', .int .u64 (v : Int)] 65) = doneW w del A' p.length c' v from rfl]
  have HBW := Lib.hid (doneW_below w del A' p.length c' v)
  have HAc := Lib.hid (And.intro (doneW_act w del A' p.length c' v) (doneW_size w del A' p.length c' v))
  generalize doneW w del A' p.length c' v = W at *
  refine (awake7_c W (HX.out.2.2.2.on HBW.out)).mono ?_
  rintro e w0 ⟨rfl, hb0⟩
  have HB0 := Lib.hid (Below.andThen HBW.out hb0)
  obtain ⟨x0, x1, x2⟩ := HAc.out.1.below hb0 (by have := HAc.out.2; omega)
  have HH := Lib.hid (rheavy7_c (c := c) (HX.out.1.below HB0.out (Nat.le_refl _) (Nat.le_refl _)) HX.out.2.1 40 false HX.out.2.2.1)
  have HA0 := Lib.hid (HAc.out.1.below hb0 (by have := HAc.out.2; omega))
  have H0s := Lib.hid (show w.heap.size < w0.heap.size by have := HAc.out.2; have := hb0.size; omega)
  clear hb0
  have HG := Lib.hid (grown_c (c := c) HK.out.1 HK.out.2.1 (HX.out.1.below HB0.out (Nat.le_refl _) (Nat.le_refl _)) HB0.out.size (by omega))
  go_wp2_with fail
  refine HH.out.mono ?_
  rintro e w' ⟨rfl, rfl⟩
  clear HH
  go_wp2_with fail
  refine HG.out.mono ?_
  rintro e w1 ⟨b, o, D, d, rfl, hd, -, hb1⟩
  obtain ⟨x0, x1, x2⟩ := HA0.out.below hb1 H0s.out
  have HA1 := Lib.hid (HA0.out.below hb1 H0s.out)
  have H1s := Lib.hid (Nat.lt_of_lt_of_le H0s.out hb1.size)
  have HB1 := Lib.hid (Below.andThen HB0.out hb1)
  have HDn := Lib.hid (done_c (a := ⟨del, p, v⟩) (A' := A') (d := c') hd (by omega) (HK.out.2.2.2.below' HB1.out (Nat.le_refl _)) (by show p.length ≤ maxLen; unfold maxLen; omega) HV.out)
  have HD := Lib.hid hd
  clear hd hb1 HG HB0 HA0
  go_wp2_with fail
  refine HDn.out.mono ?_
  rintro e w2 ⟨b', o', D', d', rfl, hd', -, hturn, hb2⟩
  have HTn := Lib.hid hturn
  have HD2 := Lib.hid (And.intro (HD.out.below hb2) hd')
  have HB2 := Lib.hid (Below.andThen HB1.out hb2)
  have HA2 := Lib.hid (HA1.out.below hb2 H1s.out)
  have H2s := Lib.hid (Nat.lt_of_lt_of_le H1s.out hb2.size)
  obtain ⟨x0, x1, x2⟩ := HA2.out
  clear hd' hturn hb2 HDn HD HA1 HB1
  go_wp2_with fail
  have hp2 := (HK.out.2.2.2.below' HB2.out (Nat.le_refl _)).keep HB2.out.size (fun _ _ => rfl)
  refine (tPath_c HD2.out.1.tree.1 (Nat.le_refl _) hp2 HK.out.2.2.1 (c := c')).mono ?_
  rintro e w3 ⟨Dp, dp, rfl, hnd3, hl3, hb3⟩
  have HD3 := Lib.hid (And.intro (HD2.out.1.below hb3) (HD2.out.2.below hb3))
  have HB3 := Lib.hid (Below.andThen HB2.out hb3)
  have HN3 := Lib.hid hnd3
  have HA3 := Lib.hid (HA2.out.below hb3 H2s.out)
  have H3s := Lib.hid (Nat.lt_of_lt_of_le H2s.out hb3.size)
  obtain ⟨x0, x1, x2⟩ := HA3.out
  clear hnd3 hb3 HD2 HA2 HB2 hp2
  go_wp2_with fail
  have hp3 := (HK.out.2.2.2.below' HB3.out (Nat.le_refl _)).keep HB3.out.size (fun _ _ => rfl)
  refine (tPath_c HD3.out.2.tree.1 (Nat.le_refl _) hp3 HK.out.2.2.1 (c := c')).mono ?_
  rintro e w5 ⟨Da, da, rfl, hnd5, hl5, hb5⟩
  have HD5 := Lib.hid (show Hand w5 w.heap.size b k o D d l.length ∧ TreeX w5 b' k o' ∧ True from ⟨HD3.out.1.below hb5, HD3.out.2.tree.below hb5 (Nat.le_refl _), trivial⟩)
  have HB5 := Lib.hid (show Below w.heap.size w w5 ∧ w.heap.size < w5.heap.size from ⟨Below.andThen HB3.out hb5, Nat.lt_of_lt_of_le H3s.out hb5.size⟩)
  have HA5 := Lib.hid (HA3.out.below hb5 H3s.out)
  obtain ⟨x0, x1, x2⟩ := HA5.out
  have hrd3 := HN3.out.slice
  obtain ⟨us, hus⟩ : ∃ us, Tr.pathT o p = us := ⟨_, rfl⟩
  obtain ⟨vs, hvs⟩ : ∃ vs, Tr.pathT o' p = vs := ⟨_, rfl⟩
  rw [hus] at hl3 hrd3 ⊢
  rw [hvs] at hl5 hnd5 ⊢
  have hrd5 := hnd5.slice
  obtain ⟨Dp', dp', hvp, -, hrd3⟩ := hrd3
  simp only [Value.slice.injEq] at hvp
  obtain ⟨rfl, -, rfl⟩ := hvp
  obtain ⟨Da', da', hva, -, hrd5⟩ := hrd5
  simp only [Value.slice.injEq] at hva
  obtain ⟨rfl, -, rfl⟩ := hva
  have HRd := Lib.hid (And.intro (hrd3.below hb5 (Nat.le_refl _) hb5.size) hrd5)
  have HUs := Lib.hid (And.intro hus hvs)
  have HLen := Lib.hid (And.intro hl3 hl5)
  have HNu : Hid (∀ u ∈ us, Node w5 w5.heap.size k u) := Lib.hid fun u hu => ((path_nodes p 65 o HD5.out.1.tree.1.2.2.2.2).1 u (by rw [show Tr.pathF 65 o p = us from hus]; exact hu)).1
  have HNv : Hid (∀ u ∈ vs, Node w5 w5.heap.size k u) := Lib.hid fun u hu => ((path_nodes p 65 o' HD5.out.2.1.1.2.2.2.2).1 u (by rw [show Tr.pathF 65 o' p = vs from hvs]; exact hu)).1
  clear hrd3 hrd5 hnd5 hb5 HD3 HA3 HB3 hp3 HN3 hus hvs
  rcases HTn.out with ⟨rfl, -⟩ | ⟨hbb, -, hway⟩
  · have hpe := tptr_eq
    go_wp2_with fail
    go_ret
    exact ⟨rfl, HB5.out.1⟩
  · have hpt : (binOp .eql 67 (.pointer (some ⟨b', 0, none⟩)) (.pointer (some ⟨b, 0, none⟩))).run Tryd.prog w5 = .ok (.bool false) w5 := tptr_ne HD5.out.2.1.2 HD5.out.1.tree.2 (fun e => hbb e.symm)
    have hw5 := nodeO_wf HD5.out.1.tree.1.2.2.2.2
    have hw5' := nodeO_wf HD5.out.2.1.1.2.2.2.2
    have HTw : Hid (Twin o o' p del us vs) := Lib.hid (by
      rw [← HUs.out.1, ← HUs.out.2]
      rcases hway with ⟨rfl, hway⟩ | ⟨rfl, t, rfl, hway⟩
      · exact twin_del HK.out.2.2.1 HK.out.2.2.2.1 hw5 hw5' hway
      · exact twin_put HK.out.2.2.1 HK.out.2.2.2.1 hw5 (hw5' t rfl) hway)
    clear hway hbb hw5 hw5'
    go_wp2_with fail
    clear hpt
    go_loopw [17] (fun i wr => ∃ j : Nat, j ≤ us.length ∧ i = .int .i64 j ∧ Below w5.heap.size w5 wr) (fun i _ => us.length - (intOf i).toNat)
    case atStart => exact ⟨0, Nat.zero_le _, rfl, Below.refl _ _⟩
    case round =>
      obtain ⟨j, hj, rfl, hbr⟩ := hrel
      by_cases hlt : j < us.length ∧ j < vs.length
      · obtain ⟨hlt1, hlt2⟩ := hlt
        have e1 : decide ((j : Int) < (us.length : Int)) = true := decide_eq_true (by omega)
        have e2 : decide ((j : Int) < (vs.length : Int)) = true := decide_eq_true (by omega)
        obtain ⟨x, hx⟩ := get_lt hlt1
        obtain ⟨y, hy⟩ := get_lt hlt2
        obtain ⟨pb, po, hDp, hpb, hpc⟩ := rd_ptr (HRd.out.1.below hbr (Nat.le_refl _) hbr.size) hx
        obtain ⟨qb, qo, hDa, hqb, hqc⟩ := rd_ptr (HRd.out.2.below hbr (Nat.le_refl _) hbr.size) hy
        have HDe := Lib.hid (And.intro hDp hDa)
        have hnx := (HNu.out x (List.mem_of_getElem? hx)).below hbr (Nat.le_refl _) (Nat.le_refl _)
        have hny := (HNv.out y (List.mem_of_getElem? hy)).below hbr (Nat.le_refl _) (Nat.le_refl _)
        have hsame := HTw.out.same j x y hx hy
        obtain ⟨kp, hndx⟩ := hnx.2.nd
        obtain ⟨kq, hndy⟩ := hny.2.nd
        have m1 : (0 : Int) ≤ (j : Int) := by omega
        have m2 : (j : Int) < (us.length : Int) := by omega
        have m3 : (j : Int) < (vs.length : Int) := by omega
        rw [hDp, hDa]
        have hsz := hbr.size
        by_cases hxb : Tr.isBr x
        · obtain ⟨-, hyb, hlv, hsh⟩ := hsame.resolve_left (fun h => h hxb)
          obtain ⟨lv, hlx, h63⟩ : ∃ lv : Nat, levI x = (lv : Int) ∧ lv ≤ 63 := by
            cases x with
            | ent g q v => exact hxb.elim
            | br g l pre ks => exact ⟨l, by show ((l + 1 : Nat) : Int) - 1 = l; omega, by cases hnx.1 with | br _ _ _ _ h63 => exact h63⟩
          have hly : levI y = (lv : Int) := by rw [← hlx]; unfold levI; rw [hlv]
          have hx1 : x.lv - 1 = lv := by have : levI x = (x.lv : Int) - 1 := rfl; omega
          rw [hx1] at hsh
          rw [hlx] at hndx
          rw [hly] at hndy
          have ha := HA5.out.below hbr HB5.out.2
          have y1 : ∀ w', Below wr.heap.size wr w' → w'.cell? ⟨w.heap.size, 1, none⟩ = some (.slice A' p.length c') := fun w' hb' => (ha.below hb' (Nat.lt_of_lt_of_le HB5.out.2 hsz)).2.1
          have HLx := Lib.hid (fun (W9 : World) (hb9 : Below wr.heap.size wr W9) => nLevel_c (hndx.below hb9 hsz (Nat.le_refl _)))
          have HLy := Lib.hid (fun (W9 : World) (hb9 : Below wr.heap.size wr W9) => nLevel_c (hndy.below hb9 hsz (Nat.le_refl _)))
          have HAd := Lib.hid (fun (W9 : World) (hb9 : Below wr.heap.size wr W9) => raddr_c A' c' p lv w.heap.size W9 (HK.out.2.2.2.below' (Below.andThen (Below.andThen HB5.out.1 hbr) hb9) (Nat.le_refl _)) (by rw [HK.out.2.2.1]; exact HK.out.1) (by rw [HK.out.2.2.1]; exact HK.out.2.1) h63)
          have HSh := Lib.hid (fun (W9 : World) (hb9 : Below wr.heap.size wr W9) => shared_c (hnx.below hb9 hsz (Nat.le_refl _)) (hny.below hb9 hsz (Nat.le_refl _)) (Nat.le_trans hsz hb9.size) (Z.addr p lv) hsh)
          have HBr := Lib.hid hbr
          have g0 : decide ((lv : Int) < 0) = false := decide_eq_false (by omega)
          have n5 : ((lv : Int) != (lv : Int)) = false := by simp
          have hb0 : Below wr.heap.size wr wr := Below.refl _ _
          clear hx hy hDp hDa hnx hny hsame hndx hndy hsh hlx hly hlv hx1 ha hbr
          go_wp2_with fail
          go_region
          all_goals go_wp2_with (go_at_call 23; (first | (with_reducible refine (HLx.out _ (by ((repeat (first | refine Below.drew ?_ | (with_reducible refine below_drewN _ ?_) | refine Below.alloc ?_ (by first | omega | (simp; done) | (simp; omega)) _ | refine Below.setCell ?_ (by first | omega | (simp; done) | (simp; omega)) _)); first | exact Below.refl _ _ | assumption | exact below_drewN _ (Below.refl _ _) | exact below_drewN _ (below_drewN _ (Below.refl _ _))))).mono ?_) | (with_reducible refine (HLy.out _ (by ((repeat (first | refine Below.drew ?_ | (with_reducible refine below_drewN _ ?_) | refine Below.alloc ?_ (by first | omega | (simp; done) | (simp; omega)) _ | refine Below.setCell ?_ (by first | omega | (simp; done) | (simp; omega)) _)); first | exact Below.refl _ _ | assumption | exact below_drewN _ (Below.refl _ _) | exact below_drewN _ (below_drewN _ (Below.refl _ _))))).mono ?_)); rintro e w' ⟨rfl, rfl⟩)
          all_goals (
            have hb1 : Below wr.heap.size wr wr.drew := (Below.refl _ _).drew
            go_region_held3 (fun w' => Below wr.heap.size wr w') (((repeat (first | refine Below.drew ?_ | (with_reducible refine below_drewN _ ?_) | refine Below.alloc ?_ (by first | omega | (simp; done) | (simp; omega)) _ | refine Below.setCell ?_ (by first | omega | (simp; done) | (simp; omega)) _)); first | exact Below.refl _ _ | assumption | exact below_drewN _ (Below.refl _ _) | exact below_drewN _ (below_drewN _ (Below.refl _ _))))
              ((first
                | (go_at_call 23; (first | (with_reducible refine (HLx.out _ (show Below wr.heap.size wr _ by ((repeat (first | refine Below.drew ?_ | (with_reducible refine below_drewN _ ?_) | refine Below.alloc ?_ (by first | omega | (simp; done) | (simp; omega)) _ | refine Below.setCell ?_ (by first | omega | (simp; done) | (simp; omega)) _)); first | exact Below.refl _ _ | assumption | exact below_drewN _ (Below.refl _ _) | exact below_drewN _ (below_drewN _ (Below.refl _ _))))).mono ?_) | (with_reducible refine (HLy.out _ (show Below wr.heap.size wr _ by ((repeat (first | refine Below.drew ?_ | (with_reducible refine below_drewN _ ?_) | refine Below.alloc ?_ (by first | omega | (simp; done) | (simp; omega)) _ | refine Below.setCell ?_ (by first | omega | (simp; done) | (simp; omega)) _)); first | exact Below.refl _ _ | assumption | exact below_drewN _ (Below.refl _ _) | exact below_drewN _ (below_drewN _ (Below.refl _ _))))).mono ?_)); rintro e w' ⟨rfl, rfl⟩)
                | (go_at_call 25; refine (HAd.out _ (show Below wr.heap.size wr _ by ((repeat (first | refine Below.drew ?_ | (with_reducible refine below_drewN _ ?_) | refine Below.alloc ?_ (by first | omega | (simp; done) | (simp; omega)) _ | refine Below.setCell ?_ (by first | omega | (simp; done) | (simp; omega)) _)); first | exact Below.refl _ _ | assumption | exact below_drewN _ (Below.refl _ _) | exact below_drewN _ (below_drewN _ (Below.refl _ _))))).mono ?_; rintro e w' ⟨rfl, rfl⟩)
                | (go_at_call 38; refine (HSh.out _ (show Below wr.heap.size wr _ by ((repeat (first | refine Below.drew ?_ | (with_reducible refine below_drewN _ ?_) | refine Below.alloc ?_ (by first | omega | (simp; done) | (simp; omega)) _ | refine Below.setCell ?_ (by first | omega | (simp; done) | (simp; omega)) _)); first | exact Below.refl _ _ | assumption | exact below_drewN _ (Below.refl _ _) | exact below_drewN _ (below_drewN _ (Below.refl _ _))))).mono ?_; rintro e w6 ⟨rfl, hb6⟩; have hbD := Below.trans (show Below wr.heap.size wr _ by ((repeat (first | refine Below.drew ?_ | (with_reducible refine below_drewN _ ?_) | refine Below.alloc ?_ (by first | omega | (simp; done) | (simp; omega)) _ | refine Below.setCell ?_ (by first | omega | (simp; done) | (simp; omega)) _)); first | exact Below.refl _ _ | assumption | exact below_drewN _ (Below.refl _ _) | exact below_drewN _ (below_drewN _ (Below.refl _ _)))) (hb6.mono (Below.size (show Below wr.heap.size wr _ by ((repeat (first | refine Below.drew ?_ | (with_reducible refine below_drewN _ ?_) | refine Below.alloc ?_ (by first | omega | (simp; done) | (simp; omega)) _ | refine Below.setCell ?_ (by first | omega | (simp; done) | (simp; omega)) _)); first | exact Below.refl _ _ | assumption | exact below_drewN _ (Below.refl _ _) | exact below_drewN _ (below_drewN _ (Below.refl _ _)))))); clear hb6)))
            clear y1
            go_wp2_with fail
            go_roundw
            case rel => exact ⟨j + 1, by omega, by go_num, HBr.out.trans (hbD.mono hsz)⟩
            case measure => simp [intOf]; omega)
        · have hlx : levI x = -1 := by
            cases x with
            | ent g q v => rfl
            | br g l pre ks => exact (hxb trivial).elim
          rw [hlx] at hndx
          have hq : Below wr.heap.size wr wr.drew := (Below.refl _ _).drew
          have HLx := Lib.hid (nLevel_c (hndx.below hq hsz (Nat.le_refl _)))
          have HBr := Lib.hid (hbr.trans (hq.mono hsz))
          have hpc' := hpc
          have hqc' := hqc
          have g0 : decide ((-1 : Int) < 0) = true := by decide
          clear hx hy hDp hDa hnx hny hsame hndx hndy hbr hq hsz
          go_wp2_with fail
          go_region
          all_goals (
            clear hpc hqc hpc' hqc'
            rw [← HDe.out.1, ← HDe.out.2]
            have hbr := HBr.out
            generalize wr.drew = wq at *
            clear HDe HBr
            go_wp2_with fail
            refine HLx.out.mono ?_
            rintro e w' ⟨rfl, rfl⟩
            clear HLx
            have HW := Lib.hid hbr
            have ha := HA5.out.below hbr HB5.out.2
            obtain ⟨x0, x1, x2⟩ := ha
            clear hbr
            rcases HTw.out.fin with ⟨f1, f2⟩ | ⟨f1, f2, s, more, lv, f3, f4, f5, f6, f7, flast⟩ | ⟨f1, f2, gone, other, lv, cc, f3, f4, f5, f6, f7, f8, f9, flast⟩
            · have g1 : decide ((vs.length : Int) ≤ (us.length : Int) + 1) = true := decide_eq_true (by omega)
              have g2 : decide ((us.length : Int) ≤ (vs.length : Int) + 1) = true := decide_eq_true (by omega)
              have g3 : ((vs.length : Int) == (us.length : Int) + 2) = false := by rw [beq_eq_false_iff_ne]; omega
              have g4 : ((vs.length : Int) + 2 == (us.length : Int)) = false := by rw [beq_eq_false_iff_ne]; omega
              clear f1 f2
              cases del with
              | true =>
                go_wp2_with fail
                go_ret
                exact ⟨rfl, Below.andThen HB5.out.1 HW.out⟩
              | false =>
                go_wp2_with fail
                go_ret
                exact ⟨rfl, Below.andThen HB5.out.1 HW.out⟩
            · subst f1
              have g3 : ((vs.length : Int) == (us.length : Int) + 2) = true := by rw [beq_iff_eq]; omega
              have hmem := List.mem_of_getElem? f4
              obtain ⟨rb, ro, hDa, hrb, hrc⟩ := rd_ptr (HRd.out.2.below HW.out (Nat.le_refl _) HW.out.size) f4
              subst hDa
              have hnm : Node wq w5.heap.size k more := (HNv.out more hmem).below HW.out (Nat.le_refl _) (Nat.le_refl _)
              obtain ⟨kp, hndm⟩ := hnm.2.nd
              rw [f5] at hndm
              have hns : Node wq w5.heap.size k s := ((path_nodes p 65 o HD5.out.1.tree.1.2.2.2.2).2 s f3).below HW.out (Nat.le_refl _) (Nat.le_refl _)
              obtain ⟨kq, hnds⟩ := hns.2.nd
              have hsl : s.pre.length = k := hns.1.len
              have hp5 := (HK.out.2.2.2.below' (Below.andThen HB5.out.1 HW.out) (Nat.le_refl _)).keep (Below.andThen HB5.out.1 HW.out).size (fun _ _ => rfl)
              have HHu := Lib.hid (fun i : Nat => hung_c (w := wq.drewN i) (c := dp) (c' := c') (((HD5.out.1.tree.below HW.out (Nat.le_refl _)).1).below (below_drewN i (Below.refl wq.heap.size wq)) (Nat.le_refl _) (Nat.le_refl _)) (Nat.le_refl _) HUs.out.1 ((HRd.out.1.below HW.out (Nat.le_refl _) HW.out.size).below (below_drewN i (Below.refl wq.heap.size wq)) (Nat.le_refl _) (Nat.le_refl _)) (hp5.below' (below_drewN i (Below.refl wq.heap.size wq)) (Nat.le_refl _)) HK.out.2.2.1 (fun u hu => flast u (List.mem_of_getLast? hu)) HLen.out.1)
              rw [f3] at HHu
              have m1 : (0 : Int) ≤ (us.length : Int) := by omega
              have m2 : (us.length : Int) < (vs.length : Int) := by omega
              have hw5 := HW.out.size
              have hpe := ptr_eq
              have HZ := Lib.hid (And.intro hndm (And.intro hnds (And.intro hsl (And.intro hnm (And.intro f6 f7)))))
              clear flast hndm hnds hsl hnm f6 f7 hns hmem f4 f5 f2 f3 hp5
              go_wp2_with fail
              go_quiet ((go_at_call 39; exact Calls.quiet_of (HHu.out _)))
              simp only [rootP]
              go_wp2_with fail
              have hbq : Below wq.heap.size wq (wq.drewN nq) := below_drewN nq (Below.refl _ _)
              refine (nPrefix_c (HZ.out.2.1.below hbq hw5 (Nat.le_refl _)) hw5 (by intro e; have := HZ.out.2.2.1; have := HK.out.1; rw [e] at *; simp at *; omega) (by have := HZ.out.2.2.1; have := HK.out.2.1; omega)).mono ?_
              rintro e w6 ⟨hq, dq, rfl, ho6, hb6⟩
              obtain ⟨Aq, cq, hvq, hp6⟩ := ho6.pts
              cases hvq
              have hb06 := hbq.trans hb6
              have HLv := Lib.hid (nLevel_c (HZ.out.1.below hb06 hw5 (Nat.le_refl _)))
              have HAd := Lib.hid (raddr_c _ dq s.pre lv _ w6 hp6 (by rw [HZ.out.2.2.1]; exact HK.out.1) (by rw [HZ.out.2.2.1]; exact HK.out.2.1) HZ.out.2.2.2.2.1)
              have HKd := Lib.hid (nKid_c (HZ.out.2.2.2.1.below hb06 hw5 (Nat.le_refl _)).2 (Z.addr s.pre lv : Int) (some ⟨s.blk, 0, none⟩) (by rw [rootP_kid, HZ.out.2.2.2.2.2]; rfl))
              have HB6 := Lib.hid (Below.andThen (Below.andThen HB5.out.1 HW.out) hb06)
              clear ho6 hp6 hb6 hb06 hbq
              go_wp2_with (first
                | (go_at_call 23; refine HLv.out.mono ?_; rintro e w' ⟨rfl, rfl⟩)
                | (go_at_call 25; refine HAd.out.mono ?_; rintro e w' ⟨rfl, rfl⟩)
                | (go_at_call 19; refine HKd.out.mono ?_; rintro e w' ⟨rfl, n9, rfl⟩))
              go_ret
              exact ⟨rfl, below_drewN _ HB6.out⟩
            · subst f1
              have g4 : ((vs.length : Int) + 2 == (us.length : Int)) = true := by rw [beq_iff_eq]; omega
              have e2 : (us.length : Int) - 2 = (vs.length : Int) := by omega
              have hmem := List.mem_of_getElem? f3
              obtain ⟨rb, ro, hDa, hrb, hrc⟩ := rd_ptr (HRd.out.1.below HW.out (Nat.le_refl _) HW.out.size) f3
              subst hDa
              have hng : Node wq w5.heap.size k gone := (HNu.out gone hmem).below HW.out (Nat.le_refl _) (Nat.le_refl _)
              have hpo := (HK.out.2.2.2.below' (Below.andThen HB5.out.1 HW.out) (Nat.le_refl _)).keep (Below.andThen HB5.out.1 HW.out).size (fun _ _ => rfl)
              have hTr : Tz wq := HX.out.2.2.2.on (Below.andThen HB5.out.1 HW.out)
              have hw5 := HW.out.size
              have HHu := Lib.hid (fun (W9 : World) (hb9 : Below wq.heap.size wq W9) => hung_c (w := W9) (c := da) (c' := c') ((HD5.out.2.1.below HW.out (Nat.le_refl _)).1.below hb9 (Nat.le_refl _) hb9.size) (Nat.le_refl _) HUs.out.2 ((HRd.out.2.below HW.out (Nat.le_refl _) HW.out.size).below hb9 (Nat.le_refl _) hb9.size) ((hpo.below' hb9 (Nat.le_refl _)).keep hb9.size (fun _ _ => rfl)) HK.out.2.2.1 (fun u hu => flast u (List.mem_of_getLast? hu)) HLen.out.2)
              rw [f6] at HHu
              simp only [rootP] at HHu
              have m1 : (0 : Int) ≤ (vs.length : Int) := by omega
              have m2 : (vs.length : Int) < (us.length : Int) := by omega
              have hpe := ptr_eq
              have hc16 : cc < 65536 ∧ Z.addr p lv < 65536 := by
                have hwk : Sl.Wf k gone.ks := by
                  cases hng.1 with
                  | ent => simp [T.ks, Sl.get] at f9
                  | br _ _ _ _ _ hw => exact hw
                rcases two_kids f7 f8 f9 with ⟨e5, h5, _⟩ | ⟨e5, h5, _⟩
                · exact ⟨hwk.lt16 (cc, other) (by rw [h5]; simp), hwk.lt16 (Z.addr p lv, e5) (by rw [h5]; simp)⟩
                · exact ⟨hwk.lt16 (cc, other) (by rw [h5]; simp), hwk.lt16 (Z.addr p lv, e5) (by rw [h5]; simp)⟩
              obtain ⟨kp, hnd⟩ := hng.2.nd
              rw [f4] at hnd
              have HLv := Lib.hid (fun (W9 : World) (hb9 : Below wq.heap.size wq W9) => nLevel_c (hnd.below hb9 hw5 (Nat.le_refl _)))
              have HAd := Lib.hid (fun (W9 : World) (hb9 : Below wq.heap.size wq W9) => raddr_c A' c' p lv wq.heap.size W9 (hpo.below' hb9 (Nat.le_refl _)) (by rw [HK.out.2.2.1]; exact HK.out.1) (by rw [HK.out.2.2.1]; exact HK.out.2.1) f5)
              have HFr := Lib.hid (fun (W9 : World) (hb9 : Below wq.heap.size wq W9) (a : Int) (hlo : -9223372036854775808 ≤ a) (hhi : a ≤ 9223372036854775807) => nFrom_c (hng.below hb9 hw5 (Nat.le_refl _)).2 (hTr.on hb9) a hlo hhi _ rfl)
              have HB6 := Lib.hid (Below.andThen HB5.out.1 HW.out)
              rcases two_kids f7 f8 f9 with ⟨e5, h5, hlt5⟩ | ⟨e5, h5, hlt5⟩
              · have p0 : kidP (gone.ks[Sl.idx gone.ks 0]?) = (Z.addr p lv, some ⟨e5.blk, 0, none⟩) := by rw [h5]; rfl
                have p1 : kidP (gone.ks[Sl.idx gone.ks ((Z.addr p lv : Int) + 1)]?) = (cc, some ⟨other.blk, 0, none⟩) := by
                  have hi : Sl.idx [(Z.addr p lv, e5), (cc, other)] ((Z.addr p lv : Int) + 1) = 1 := by
                    simp only [Sl.idx]
                    rw [if_pos (by omega), if_neg (by omega)]
                  rw [h5, hi]; rfl
                have n3 : ((Z.addr p lv : Int) == (Z.addr p lv : Int)) = true := by simp
                have m7 : (Z.addr p lv : Int) + 1 ≤ 65536 := by omega
                have m8 : (0 : Int) ≤ (Z.addr p lv : Int) := by omega
                have HP := Lib.hid (And.intro p0 (And.intro p1 hc16))
                clear flast p0 p1 hc16 h5 hlt5 f3 f4 f5 f6 f7 f8 f9 f2 hnd hng hmem hpo hTr
                go_wp2_with fail
                have h6 := HFr.out wq (Below.refl _ _) 0 (by omega) (by omega)
                rw [HP.out.1] at h6
                dsimp only at h6
                (with_reducible refine h6.mono ?_)
                clear h6
                rintro e w' ⟨rfl, n6, rfl⟩
                have hb6 : Below wq.heap.size wq (wq.drewN n6) := below_drewN n6 (Below.refl _ _)
                have z1 : (wq.drewN n6).cell? ⟨w.heap.size, 1, none⟩ = some (.slice A' p.length c') := x1
                obtain ⟨W6, hW6⟩ : ∃ W6, W6 = wq.drewN n6 := ⟨_, rfl⟩
                rw [← hW6] at hb6 z1 ⊢
                clear hW6 x0 x1 x2
                have HL6 : Hid (∀ i, Calls Tryd.prog 23 #[.pointer (some ⟨gone.blk, 0, none⟩)] (W6.drewN i) fun e w'' => e = .returned (.int .i64 (lv : Int)) ∧ ∃ j, w'' = (W6.drewN i).drewN j) := Lib.hid fun i => (HLv.out (W6.drewN i) (below_drewN i hb6)).mono fun e w'' hh => ⟨hh.1, 0, hh.2.symm⟩
                have HA6 : Hid (∀ i, Calls Tryd.prog 25 #[.slice A' p.length c', .int .i64 (lv : Int)] (W6.drewN i) fun e w'' => e = .returned (.int .i64 (Z.addr p lv : Int)) ∧ ∃ j, w'' = (W6.drewN i).drewN j) := Lib.hid fun i => (HAd.out (W6.drewN i) (below_drewN i hb6)).mono fun e w'' hh => ⟨hh.1, 0, hh.2.symm⟩
                go_wp2_with fail
                go_quiet ((first
                  | (go_at_call 23; exact Calls.quiet_of (HL6.out _))
                  | (go_at_call 25; exact Calls.quiet_of (HA6.out _))))
                go_wp2_with fail
                have hb7 : Below wq.heap.size wq (W6.drewN nq) := below_drewN nq hb6
                have h7 := HFr.out _ hb7 ((Z.addr p lv : Int) + 1) (by omega) (by have := HP.out.2.2.2; omega)
                rw [HP.out.2.1] at h7
                dsimp only at h7
                (with_reducible refine h7.mono ?_)
                clear h7
                rintro e w' ⟨rfl, n7, rfl⟩
                have hb8 := below_drewN n7 hb7
                have z2 : ((W6.drewN nq).drewN n7).cell? ⟨w.heap.size, 1, none⟩ = some (.slice A' p.length c') := z1
                go_wp2_with (go_at_call 39; (with_reducible refine (HHu.out _ (below_drewN _ hb6)).mono ?_); rintro e w' ⟨rfl, n8, rfl⟩)
                go_ret
                exact ⟨rfl, by first | exact below_drewN _ (HB6.out.trans (hb8.mono HB6.out.size)) | exact below_drewN _ (HB6.out.trans (hb7.mono HB6.out.size)) | exact below_drewN _ (HB6.out.trans (hb6.mono HB6.out.size))⟩
              · have p0 : kidP (gone.ks[Sl.idx gone.ks 0]?) = (cc, some ⟨other.blk, 0, none⟩) := by rw [h5]; rfl
                have n3 : ((cc : Int) == (Z.addr p lv : Int)) = false := by rw [beq_eq_false_iff_ne]; omega
                have HP := Lib.hid (And.intro p0 hc16)
                clear flast p0 hc16 h5 hlt5 f3 f4 f5 f6 f7 f8 f9 f2 hnd hng hmem hpo hTr
                go_wp2_with fail
                have h6 := HFr.out wq (Below.refl _ _) 0 (by omega) (by omega)
                rw [HP.out.1] at h6
                dsimp only at h6
                (with_reducible refine h6.mono ?_)
                clear h6
                rintro e w' ⟨rfl, n6, rfl⟩
                have hb6 : Below wq.heap.size wq (wq.drewN n6) := below_drewN n6 (Below.refl _ _)
                have z1 : (wq.drewN n6).cell? ⟨w.heap.size, 1, none⟩ = some (.slice A' p.length c') := x1
                obtain ⟨W6, hW6⟩ : ∃ W6, W6 = wq.drewN n6 := ⟨_, rfl⟩
                rw [← hW6] at hb6 z1 ⊢
                clear hW6 x0 x1 x2
                have HL6 : Hid (∀ i, Calls Tryd.prog 23 #[.pointer (some ⟨gone.blk, 0, none⟩)] (W6.drewN i) fun e w'' => e = .returned (.int .i64 (lv : Int)) ∧ ∃ j, w'' = (W6.drewN i).drewN j) := Lib.hid fun i => (HLv.out (W6.drewN i) (below_drewN i hb6)).mono fun e w'' hh => ⟨hh.1, 0, hh.2.symm⟩
                have HA6 : Hid (∀ i, Calls Tryd.prog 25 #[.slice A' p.length c', .int .i64 (lv : Int)] (W6.drewN i) fun e w'' => e = .returned (.int .i64 (Z.addr p lv : Int)) ∧ ∃ j, w'' = (W6.drewN i).drewN j) := Lib.hid fun i => (HAd.out (W6.drewN i) (below_drewN i hb6)).mono fun e w'' hh => ⟨hh.1, 0, hh.2.symm⟩
                go_wp2_with fail
                go_quiet ((first
                  | (go_at_call 23; exact Calls.quiet_of (HL6.out _))
                  | (go_at_call 25; exact Calls.quiet_of (HA6.out _))))
                have hb7 : Below wq.heap.size wq (W6.drewN nq) := below_drewN nq hb6
                have z2 : (W6.drewN nq).cell? ⟨w.heap.size, 1, none⟩ = some (.slice A' p.length c') := z1
                go_wp2_with (go_at_call 39; (with_reducible refine (HHu.out _ (below_drewN _ hb6)).mono ?_); rintro e w' ⟨rfl, n8, rfl⟩)
                go_ret
                exact ⟨rfl, by first | exact below_drewN _ (HB6.out.trans (hb7.mono HB6.out.size)) | exact below_drewN _ (HB6.out.trans (hb6.mono HB6.out.size))⟩
            )
      · have hor : (j < us.length ∧ ¬ j < vs.length) ∨ ¬ j < us.length := by omega
        rcases hor with ⟨h1, h2⟩ | h1
        · have e1 : decide ((j : Int) < (us.length : Int)) = true := decide_eq_true (by omega)
          have e2 : decide ((j : Int) < (vs.length : Int)) = false := decide_eq_false (by omega)
          have HW := Lib.hid hbr
          have ha := HA5.out.below hbr HB5.out.2
          obtain ⟨x0, x1, x2⟩ := ha
          clear hbr
          rcases HTw.out.fin with ⟨f1, f2⟩ | ⟨f1, f2, s, more, lv, f3, f4, f5, f6, f7, flast⟩ | ⟨f1, f2, gone, other, lv, cc, f3, f4, f5, f6, f7, f8, f9, flast⟩
          · have g1 : decide ((vs.length : Int) ≤ (us.length : Int) + 1) = true := decide_eq_true (by omega)
            have g2 : decide ((us.length : Int) ≤ (vs.length : Int) + 1) = true := decide_eq_true (by omega)
            have g3 : ((vs.length : Int) == (us.length : Int) + 2) = false := by rw [beq_eq_false_iff_ne]; omega
            have g4 : ((vs.length : Int) + 2 == (us.length : Int)) = false := by rw [beq_eq_false_iff_ne]; omega
            clear f1 f2
            cases del with
            | true =>
              go_wp2_with fail
              go_ret
              exact ⟨rfl, Below.andThen HB5.out.1 HW.out⟩
            | false =>
              go_wp2_with fail
              go_ret
              exact ⟨rfl, Below.andThen HB5.out.1 HW.out⟩
          · exfalso
            omega
          · subst f1
            have g4 : ((vs.length : Int) + 2 == (us.length : Int)) = true := by rw [beq_iff_eq]; omega
            have e2 : (us.length : Int) - 2 = (vs.length : Int) := by omega
            have hmem := List.mem_of_getElem? f3
            obtain ⟨rb, ro, hDa, hrb, hrc⟩ := rd_ptr (HRd.out.1.below HW.out (Nat.le_refl _) HW.out.size) f3
            subst hDa
            have hng : Node wr w5.heap.size k gone := (HNu.out gone hmem).below HW.out (Nat.le_refl _) (Nat.le_refl _)
            have hpo := (HK.out.2.2.2.below' (Below.andThen HB5.out.1 HW.out) (Nat.le_refl _)).keep (Below.andThen HB5.out.1 HW.out).size (fun _ _ => rfl)
            have hTr : Tz wr := HX.out.2.2.2.on (Below.andThen HB5.out.1 HW.out)
            have hw5 := HW.out.size
            have HHu := Lib.hid (fun (W9 : World) (hb9 : Below wr.heap.size wr W9) => hung_c (w := W9) (c := da) (c' := c') ((HD5.out.2.1.below HW.out (Nat.le_refl _)).1.below hb9 (Nat.le_refl _) hb9.size) (Nat.le_refl _) HUs.out.2 ((HRd.out.2.below HW.out (Nat.le_refl _) HW.out.size).below hb9 (Nat.le_refl _) hb9.size) ((hpo.below' hb9 (Nat.le_refl _)).keep hb9.size (fun _ _ => rfl)) HK.out.2.2.1 (fun u hu => flast u (List.mem_of_getLast? hu)) HLen.out.2)
            rw [f6] at HHu
            simp only [rootP] at HHu
            have m1 : (0 : Int) ≤ (vs.length : Int) := by omega
            have m2 : (vs.length : Int) < (us.length : Int) := by omega
            have hpe := ptr_eq
            have hc16 : cc < 65536 ∧ Z.addr p lv < 65536 := by
              have hwk : Sl.Wf k gone.ks := by
                cases hng.1 with
                | ent => simp [T.ks, Sl.get] at f9
                | br _ _ _ _ _ hw => exact hw
              rcases two_kids f7 f8 f9 with ⟨e5, h5, _⟩ | ⟨e5, h5, _⟩
              · exact ⟨hwk.lt16 (cc, other) (by rw [h5]; simp), hwk.lt16 (Z.addr p lv, e5) (by rw [h5]; simp)⟩
              · exact ⟨hwk.lt16 (cc, other) (by rw [h5]; simp), hwk.lt16 (Z.addr p lv, e5) (by rw [h5]; simp)⟩
            obtain ⟨kp, hnd⟩ := hng.2.nd
            rw [f4] at hnd
            have HLv := Lib.hid (fun (W9 : World) (hb9 : Below wr.heap.size wr W9) => nLevel_c (hnd.below hb9 hw5 (Nat.le_refl _)))
            have HAd := Lib.hid (fun (W9 : World) (hb9 : Below wr.heap.size wr W9) => raddr_c A' c' p lv wr.heap.size W9 (hpo.below' hb9 (Nat.le_refl _)) (by rw [HK.out.2.2.1]; exact HK.out.1) (by rw [HK.out.2.2.1]; exact HK.out.2.1) f5)
            have HFr := Lib.hid (fun (W9 : World) (hb9 : Below wr.heap.size wr W9) (a : Int) (hlo : -9223372036854775808 ≤ a) (hhi : a ≤ 9223372036854775807) => nFrom_c (hng.below hb9 hw5 (Nat.le_refl _)).2 (hTr.on hb9) a hlo hhi _ rfl)
            have HB6 := Lib.hid (Below.andThen HB5.out.1 HW.out)
            rcases two_kids f7 f8 f9 with ⟨e5, h5, hlt5⟩ | ⟨e5, h5, hlt5⟩
            · have p0 : kidP (gone.ks[Sl.idx gone.ks 0]?) = (Z.addr p lv, some ⟨e5.blk, 0, none⟩) := by rw [h5]; rfl
              have p1 : kidP (gone.ks[Sl.idx gone.ks ((Z.addr p lv : Int) + 1)]?) = (cc, some ⟨other.blk, 0, none⟩) := by
                have hi : Sl.idx [(Z.addr p lv, e5), (cc, other)] ((Z.addr p lv : Int) + 1) = 1 := by
                  simp only [Sl.idx]
                  rw [if_pos (by omega), if_neg (by omega)]
                rw [h5, hi]; rfl
              have n3 : ((Z.addr p lv : Int) == (Z.addr p lv : Int)) = true := by simp
              have m7 : (Z.addr p lv : Int) + 1 ≤ 65536 := by omega
              have m8 : (0 : Int) ≤ (Z.addr p lv : Int) := by omega
              have HP := Lib.hid (And.intro p0 (And.intro p1 hc16))
              clear flast p0 p1 hc16 h5 hlt5 f3 f4 f5 f6 f7 f8 f9 f2 hnd hng hmem hpo hTr
              go_wp2_with fail
              have h6 := HFr.out wr (Below.refl _ _) 0 (by omega) (by omega)
              rw [HP.out.1] at h6
              dsimp only at h6
              (with_reducible refine h6.mono ?_)
              clear h6
              rintro e w' ⟨rfl, n6, rfl⟩
              have hb6 : Below wr.heap.size wr (wr.drewN n6) := below_drewN n6 (Below.refl _ _)
              have z1 : (wr.drewN n6).cell? ⟨w.heap.size, 1, none⟩ = some (.slice A' p.length c') := x1
              obtain ⟨W6, hW6⟩ : ∃ W6, W6 = wr.drewN n6 := ⟨_, rfl⟩
              rw [← hW6] at hb6 z1 ⊢
              clear hW6 x0 x1 x2
              have HL6 : Hid (∀ i, Calls Tryd.prog 23 #[.pointer (some ⟨gone.blk, 0, none⟩)] (W6.drewN i) fun e w'' => e = .returned (.int .i64 (lv : Int)) ∧ ∃ j, w'' = (W6.drewN i).drewN j) := Lib.hid fun i => (HLv.out (W6.drewN i) (below_drewN i hb6)).mono fun e w'' hh => ⟨hh.1, 0, hh.2.symm⟩
              have HA6 : Hid (∀ i, Calls Tryd.prog 25 #[.slice A' p.length c', .int .i64 (lv : Int)] (W6.drewN i) fun e w'' => e = .returned (.int .i64 (Z.addr p lv : Int)) ∧ ∃ j, w'' = (W6.drewN i).drewN j) := Lib.hid fun i => (HAd.out (W6.drewN i) (below_drewN i hb6)).mono fun e w'' hh => ⟨hh.1, 0, hh.2.symm⟩
              go_wp2_with fail
              go_quiet ((first
                | (go_at_call 23; exact Calls.quiet_of (HL6.out _))
                | (go_at_call 25; exact Calls.quiet_of (HA6.out _))))
              go_wp2_with fail
              have hb7 : Below wr.heap.size wr (W6.drewN nq) := below_drewN nq hb6
              have h7 := HFr.out _ hb7 ((Z.addr p lv : Int) + 1) (by omega) (by have := HP.out.2.2.2; omega)
              rw [HP.out.2.1] at h7
              dsimp only at h7
              (with_reducible refine h7.mono ?_)
              clear h7
              rintro e w' ⟨rfl, n7, rfl⟩
              have hb8 := below_drewN n7 hb7
              have z2 : ((W6.drewN nq).drewN n7).cell? ⟨w.heap.size, 1, none⟩ = some (.slice A' p.length c') := z1
              go_wp2_with (go_at_call 39; (with_reducible refine (HHu.out _ (below_drewN _ hb6)).mono ?_); rintro e w' ⟨rfl, n8, rfl⟩)
              go_ret
              exact ⟨rfl, by first | exact below_drewN _ (HB6.out.trans (hb8.mono HB6.out.size)) | exact below_drewN _ (HB6.out.trans (hb7.mono HB6.out.size)) | exact below_drewN _ (HB6.out.trans (hb6.mono HB6.out.size))⟩
            · have p0 : kidP (gone.ks[Sl.idx gone.ks 0]?) = (cc, some ⟨other.blk, 0, none⟩) := by rw [h5]; rfl
              have n3 : ((cc : Int) == (Z.addr p lv : Int)) = false := by rw [beq_eq_false_iff_ne]; omega
              have HP := Lib.hid (And.intro p0 hc16)
              clear flast p0 hc16 h5 hlt5 f3 f4 f5 f6 f7 f8 f9 f2 hnd hng hmem hpo hTr
              go_wp2_with fail
              have h6 := HFr.out wr (Below.refl _ _) 0 (by omega) (by omega)
              rw [HP.out.1] at h6
              dsimp only at h6
              (with_reducible refine h6.mono ?_)
              clear h6
              rintro e w' ⟨rfl, n6, rfl⟩
              have hb6 : Below wr.heap.size wr (wr.drewN n6) := below_drewN n6 (Below.refl _ _)
              have z1 : (wr.drewN n6).cell? ⟨w.heap.size, 1, none⟩ = some (.slice A' p.length c') := x1
              obtain ⟨W6, hW6⟩ : ∃ W6, W6 = wr.drewN n6 := ⟨_, rfl⟩
              rw [← hW6] at hb6 z1 ⊢
              clear hW6 x0 x1 x2
              have HL6 : Hid (∀ i, Calls Tryd.prog 23 #[.pointer (some ⟨gone.blk, 0, none⟩)] (W6.drewN i) fun e w'' => e = .returned (.int .i64 (lv : Int)) ∧ ∃ j, w'' = (W6.drewN i).drewN j) := Lib.hid fun i => (HLv.out (W6.drewN i) (below_drewN i hb6)).mono fun e w'' hh => ⟨hh.1, 0, hh.2.symm⟩
              have HA6 : Hid (∀ i, Calls Tryd.prog 25 #[.slice A' p.length c', .int .i64 (lv : Int)] (W6.drewN i) fun e w'' => e = .returned (.int .i64 (Z.addr p lv : Int)) ∧ ∃ j, w'' = (W6.drewN i).drewN j) := Lib.hid fun i => (HAd.out (W6.drewN i) (below_drewN i hb6)).mono fun e w'' hh => ⟨hh.1, 0, hh.2.symm⟩
              go_wp2_with fail
              go_quiet ((first
                | (go_at_call 23; exact Calls.quiet_of (HL6.out _))
                | (go_at_call 25; exact Calls.quiet_of (HA6.out _))))
              have hb7 : Below wr.heap.size wr (W6.drewN nq) := below_drewN nq hb6
              have z2 : (W6.drewN nq).cell? ⟨w.heap.size, 1, none⟩ = some (.slice A' p.length c') := z1
              go_wp2_with (go_at_call 39; (with_reducible refine (HHu.out _ (below_drewN _ hb6)).mono ?_); rintro e w' ⟨rfl, n8, rfl⟩)
              go_ret
              exact ⟨rfl, by first | exact below_drewN _ (HB6.out.trans (hb7.mono HB6.out.size)) | exact below_drewN _ (HB6.out.trans (hb6.mono HB6.out.size))⟩
        · have e1 : decide ((j : Int) < (us.length : Int)) = false := decide_eq_false (by omega)
          have HW := Lib.hid hbr
          have ha := HA5.out.below hbr HB5.out.2
          obtain ⟨x0, x1, x2⟩ := ha
          clear hbr
          rcases HTw.out.fin with ⟨f1, f2⟩ | ⟨f1, f2, s, more, lv, f3, f4, f5, f6, f7, flast⟩ | ⟨f1, f2, gone, other, lv, cc, f3, f4, f5, f6, f7, f8, f9, flast⟩
          · have g1 : decide ((vs.length : Int) ≤ (us.length : Int) + 1) = true := decide_eq_true (by omega)
            have g2 : decide ((us.length : Int) ≤ (vs.length : Int) + 1) = true := decide_eq_true (by omega)
            have g3 : ((vs.length : Int) == (us.length : Int) + 2) = false := by rw [beq_eq_false_iff_ne]; omega
            have g4 : ((vs.length : Int) + 2 == (us.length : Int)) = false := by rw [beq_eq_false_iff_ne]; omega
            clear f1 f2
            cases del with
            | true =>
              go_wp2_with fail
              go_ret
              exact ⟨rfl, Below.andThen HB5.out.1 HW.out⟩
            | false =>
              go_wp2_with fail
              go_ret
              exact ⟨rfl, Below.andThen HB5.out.1 HW.out⟩
          · subst f1
            have g3 : ((vs.length : Int) == (us.length : Int) + 2) = true := by rw [beq_iff_eq]; omega
            have hmem := List.mem_of_getElem? f4
            obtain ⟨rb, ro, hDa, hrb, hrc⟩ := rd_ptr (HRd.out.2.below HW.out (Nat.le_refl _) HW.out.size) f4
            subst hDa
            have hnm : Node wr w5.heap.size k more := (HNv.out more hmem).below HW.out (Nat.le_refl _) (Nat.le_refl _)
            obtain ⟨kp, hndm⟩ := hnm.2.nd
            rw [f5] at hndm
            have hns : Node wr w5.heap.size k s := ((path_nodes p 65 o HD5.out.1.tree.1.2.2.2.2).2 s f3).below HW.out (Nat.le_refl _) (Nat.le_refl _)
            obtain ⟨kq, hnds⟩ := hns.2.nd
            have hsl : s.pre.length = k := hns.1.len
            have hp5 := (HK.out.2.2.2.below' (Below.andThen HB5.out.1 HW.out) (Nat.le_refl _)).keep (Below.andThen HB5.out.1 HW.out).size (fun _ _ => rfl)
            have HHu := Lib.hid (fun i : Nat => hung_c (w := wr.drewN i) (c := dp) (c' := c') (((HD5.out.1.tree.below HW.out (Nat.le_refl _)).1).below (below_drewN i (Below.refl wr.heap.size wr)) (Nat.le_refl _) (Nat.le_refl _)) (Nat.le_refl _) HUs.out.1 ((HRd.out.1.below HW.out (Nat.le_refl _) HW.out.size).below (below_drewN i (Below.refl wr.heap.size wr)) (Nat.le_refl _) (Nat.le_refl _)) (hp5.below' (below_drewN i (Below.refl wr.heap.size wr)) (Nat.le_refl _)) HK.out.2.2.1 (fun u hu => flast u (List.mem_of_getLast? hu)) HLen.out.1)
            rw [f3] at HHu
            have m1 : (0 : Int) ≤ (us.length : Int) := by omega
            have m2 : (us.length : Int) < (vs.length : Int) := by omega
            have hw5 := HW.out.size
            have hpe := ptr_eq
            have HZ := Lib.hid (And.intro hndm (And.intro hnds (And.intro hsl (And.intro hnm (And.intro f6 f7)))))
            clear flast hndm hnds hsl hnm f6 f7 hns hmem f4 f5 f2 f3 hp5
            go_wp2_with fail
            go_quiet ((go_at_call 39; exact Calls.quiet_of (HHu.out _)))
            simp only [rootP]
            go_wp2_with fail
            have hbq : Below wr.heap.size wr (wr.drewN nq) := below_drewN nq (Below.refl _ _)
            refine (nPrefix_c (HZ.out.2.1.below hbq hw5 (Nat.le_refl _)) hw5 (by intro e; have := HZ.out.2.2.1; have := HK.out.1; rw [e] at *; simp at *; omega) (by have := HZ.out.2.2.1; have := HK.out.2.1; omega)).mono ?_
            rintro e w6 ⟨hq, dq, rfl, ho6, hb6⟩
            obtain ⟨Aq, cq, hvq, hp6⟩ := ho6.pts
            cases hvq
            have hb06 := hbq.trans hb6
            have HLv := Lib.hid (nLevel_c (HZ.out.1.below hb06 hw5 (Nat.le_refl _)))
            have HAd := Lib.hid (raddr_c _ dq s.pre lv _ w6 hp6 (by rw [HZ.out.2.2.1]; exact HK.out.1) (by rw [HZ.out.2.2.1]; exact HK.out.2.1) HZ.out.2.2.2.2.1)
            have HKd := Lib.hid (nKid_c (HZ.out.2.2.2.1.below hb06 hw5 (Nat.le_refl _)).2 (Z.addr s.pre lv : Int) (some ⟨s.blk, 0, none⟩) (by rw [rootP_kid, HZ.out.2.2.2.2.2]; rfl))
            have HB6 := Lib.hid (Below.andThen (Below.andThen HB5.out.1 HW.out) hb06)
            clear ho6 hp6 hb6 hb06 hbq
            go_wp2_with (first
              | (go_at_call 23; refine HLv.out.mono ?_; rintro e w' ⟨rfl, rfl⟩)
              | (go_at_call 25; refine HAd.out.mono ?_; rintro e w' ⟨rfl, rfl⟩)
              | (go_at_call 19; refine HKd.out.mono ?_; rintro e w' ⟨rfl, n9, rfl⟩))
            go_ret
            exact ⟨rfl, below_drewN _ HB6.out⟩
          · subst f1
            have g4 : ((vs.length : Int) + 2 == (us.length : Int)) = true := by rw [beq_iff_eq]; omega
            have e2 : (us.length : Int) - 2 = (vs.length : Int) := by omega
            have hmem := List.mem_of_getElem? f3
            obtain ⟨rb, ro, hDa, hrb, hrc⟩ := rd_ptr (HRd.out.1.below HW.out (Nat.le_refl _) HW.out.size) f3
            subst hDa
            have hng : Node wr w5.heap.size k gone := (HNu.out gone hmem).below HW.out (Nat.le_refl _) (Nat.le_refl _)
            have hpo := (HK.out.2.2.2.below' (Below.andThen HB5.out.1 HW.out) (Nat.le_refl _)).keep (Below.andThen HB5.out.1 HW.out).size (fun _ _ => rfl)
            have hTr : Tz wr := HX.out.2.2.2.on (Below.andThen HB5.out.1 HW.out)
            have hw5 := HW.out.size
            have HHu := Lib.hid (fun (W9 : World) (hb9 : Below wr.heap.size wr W9) => hung_c (w := W9) (c := da) (c' := c') ((HD5.out.2.1.below HW.out (Nat.le_refl _)).1.below hb9 (Nat.le_refl _) hb9.size) (Nat.le_refl _) HUs.out.2 ((HRd.out.2.below HW.out (Nat.le_refl _) HW.out.size).below hb9 (Nat.le_refl _) hb9.size) ((hpo.below' hb9 (Nat.le_refl _)).keep hb9.size (fun _ _ => rfl)) HK.out.2.2.1 (fun u hu => flast u (List.mem_of_getLast? hu)) HLen.out.2)
            rw [f6] at HHu
            simp only [rootP] at HHu
            have m1 : (0 : Int) ≤ (vs.length : Int) := by omega
            have m2 : (vs.length : Int) < (us.length : Int) := by omega
            have hpe := ptr_eq
            have hc16 : cc < 65536 ∧ Z.addr p lv < 65536 := by
              have hwk : Sl.Wf k gone.ks := by
                cases hng.1 with
                | ent => simp [T.ks, Sl.get] at f9
                | br _ _ _ _ _ hw => exact hw
              rcases two_kids f7 f8 f9 with ⟨e5, h5, _⟩ | ⟨e5, h5, _⟩
              · exact ⟨hwk.lt16 (cc, other) (by rw [h5]; simp), hwk.lt16 (Z.addr p lv, e5) (by rw [h5]; simp)⟩
              · exact ⟨hwk.lt16 (cc, other) (by rw [h5]; simp), hwk.lt16 (Z.addr p lv, e5) (by rw [h5]; simp)⟩
            obtain ⟨kp, hnd⟩ := hng.2.nd
            rw [f4] at hnd
            have HLv := Lib.hid (fun (W9 : World) (hb9 : Below wr.heap.size wr W9) => nLevel_c (hnd.below hb9 hw5 (Nat.le_refl _)))
            have HAd := Lib.hid (fun (W9 : World) (hb9 : Below wr.heap.size wr W9) => raddr_c A' c' p lv wr.heap.size W9 (hpo.below' hb9 (Nat.le_refl _)) (by rw [HK.out.2.2.1]; exact HK.out.1) (by rw [HK.out.2.2.1]; exact HK.out.2.1) f5)
            have HFr := Lib.hid (fun (W9 : World) (hb9 : Below wr.heap.size wr W9) (a : Int) (hlo : -9223372036854775808 ≤ a) (hhi : a ≤ 9223372036854775807) => nFrom_c (hng.below hb9 hw5 (Nat.le_refl _)).2 (hTr.on hb9) a hlo hhi _ rfl)
            have HB6 := Lib.hid (Below.andThen HB5.out.1 HW.out)
            rcases two_kids f7 f8 f9 with ⟨e5, h5, hlt5⟩ | ⟨e5, h5, hlt5⟩
            · have p0 : kidP (gone.ks[Sl.idx gone.ks 0]?) = (Z.addr p lv, some ⟨e5.blk, 0, none⟩) := by rw [h5]; rfl
              have p1 : kidP (gone.ks[Sl.idx gone.ks ((Z.addr p lv : Int) + 1)]?) = (cc, some ⟨other.blk, 0, none⟩) := by
                have hi : Sl.idx [(Z.addr p lv, e5), (cc, other)] ((Z.addr p lv : Int) + 1) = 1 := by
                  simp only [Sl.idx]
                  rw [if_pos (by omega), if_neg (by omega)]
                rw [h5, hi]; rfl
              have n3 : ((Z.addr p lv : Int) == (Z.addr p lv : Int)) = true := by simp
              have m7 : (Z.addr p lv : Int) + 1 ≤ 65536 := by omega
              have m8 : (0 : Int) ≤ (Z.addr p lv : Int) := by omega
              have HP := Lib.hid (And.intro p0 (And.intro p1 hc16))
              clear flast p0 p1 hc16 h5 hlt5 f3 f4 f5 f6 f7 f8 f9 f2 hnd hng hmem hpo hTr
              go_wp2_with fail
              have h6 := HFr.out wr (Below.refl _ _) 0 (by omega) (by omega)
              rw [HP.out.1] at h6
              dsimp only at h6
              (with_reducible refine h6.mono ?_)
              clear h6
              rintro e w' ⟨rfl, n6, rfl⟩
              have hb6 : Below wr.heap.size wr (wr.drewN n6) := below_drewN n6 (Below.refl _ _)
              have z1 : (wr.drewN n6).cell? ⟨w.heap.size, 1, none⟩ = some (.slice A' p.length c') := x1
              obtain ⟨W6, hW6⟩ : ∃ W6, W6 = wr.drewN n6 := ⟨_, rfl⟩
              rw [← hW6] at hb6 z1 ⊢
              clear hW6 x0 x1 x2
              have HL6 : Hid (∀ i, Calls Tryd.prog 23 #[.pointer (some ⟨gone.blk, 0, none⟩)] (W6.drewN i) fun e w'' => e = .returned (.int .i64 (lv : Int)) ∧ ∃ j, w'' = (W6.drewN i).drewN j) := Lib.hid fun i => (HLv.out (W6.drewN i) (below_drewN i hb6)).mono fun e w'' hh => ⟨hh.1, 0, hh.2.symm⟩
              have HA6 : Hid (∀ i, Calls Tryd.prog 25 #[.slice A' p.length c', .int .i64 (lv : Int)] (W6.drewN i) fun e w'' => e = .returned (.int .i64 (Z.addr p lv : Int)) ∧ ∃ j, w'' = (W6.drewN i).drewN j) := Lib.hid fun i => (HAd.out (W6.drewN i) (below_drewN i hb6)).mono fun e w'' hh => ⟨hh.1, 0, hh.2.symm⟩
              go_wp2_with fail
              go_quiet ((first
                | (go_at_call 23; exact Calls.quiet_of (HL6.out _))
                | (go_at_call 25; exact Calls.quiet_of (HA6.out _))))
              go_wp2_with fail
              have hb7 : Below wr.heap.size wr (W6.drewN nq) := below_drewN nq hb6
              have h7 := HFr.out _ hb7 ((Z.addr p lv : Int) + 1) (by omega) (by have := HP.out.2.2.2; omega)
              rw [HP.out.2.1] at h7
              dsimp only at h7
              (with_reducible refine h7.mono ?_)
              clear h7
              rintro e w' ⟨rfl, n7, rfl⟩
              have hb8 := below_drewN n7 hb7
              have z2 : ((W6.drewN nq).drewN n7).cell? ⟨w.heap.size, 1, none⟩ = some (.slice A' p.length c') := z1
              go_wp2_with (go_at_call 39; (with_reducible refine (HHu.out _ (below_drewN _ hb6)).mono ?_); rintro e w' ⟨rfl, n8, rfl⟩)
              go_ret
              exact ⟨rfl, by first | exact below_drewN _ (HB6.out.trans (hb8.mono HB6.out.size)) | exact below_drewN _ (HB6.out.trans (hb7.mono HB6.out.size)) | exact below_drewN _ (HB6.out.trans (hb6.mono HB6.out.size))⟩
            · have p0 : kidP (gone.ks[Sl.idx gone.ks 0]?) = (cc, some ⟨other.blk, 0, none⟩) := by rw [h5]; rfl
              have n3 : ((cc : Int) == (Z.addr p lv : Int)) = false := by rw [beq_eq_false_iff_ne]; omega
              have HP := Lib.hid (And.intro p0 hc16)
              clear flast p0 hc16 h5 hlt5 f3 f4 f5 f6 f7 f8 f9 f2 hnd hng hmem hpo hTr
              go_wp2_with fail
              have h6 := HFr.out wr (Below.refl _ _) 0 (by omega) (by omega)
              rw [HP.out.1] at h6
              dsimp only at h6
              (with_reducible refine h6.mono ?_)
              clear h6
              rintro e w' ⟨rfl, n6, rfl⟩
              have hb6 : Below wr.heap.size wr (wr.drewN n6) := below_drewN n6 (Below.refl _ _)
              have z1 : (wr.drewN n6).cell? ⟨w.heap.size, 1, none⟩ = some (.slice A' p.length c') := x1
              obtain ⟨W6, hW6⟩ : ∃ W6, W6 = wr.drewN n6 := ⟨_, rfl⟩
              rw [← hW6] at hb6 z1 ⊢
              clear hW6 x0 x1 x2
              have HL6 : Hid (∀ i, Calls Tryd.prog 23 #[.pointer (some ⟨gone.blk, 0, none⟩)] (W6.drewN i) fun e w'' => e = .returned (.int .i64 (lv : Int)) ∧ ∃ j, w'' = (W6.drewN i).drewN j) := Lib.hid fun i => (HLv.out (W6.drewN i) (below_drewN i hb6)).mono fun e w'' hh => ⟨hh.1, 0, hh.2.symm⟩
              have HA6 : Hid (∀ i, Calls Tryd.prog 25 #[.slice A' p.length c', .int .i64 (lv : Int)] (W6.drewN i) fun e w'' => e = .returned (.int .i64 (Z.addr p lv : Int)) ∧ ∃ j, w'' = (W6.drewN i).drewN j) := Lib.hid fun i => (HAd.out (W6.drewN i) (below_drewN i hb6)).mono fun e w'' hh => ⟨hh.1, 0, hh.2.symm⟩
              go_wp2_with fail
              go_quiet ((first
                | (go_at_call 23; exact Calls.quiet_of (HL6.out _))
                | (go_at_call 25; exact Calls.quiet_of (HA6.out _))))
              have hb7 : Below wr.heap.size wr (W6.drewN nq) := below_drewN nq hb6
              have z2 : (W6.drewN nq).cell? ⟨w.heap.size, 1, none⟩ = some (.slice A' p.length c') := z1
              go_wp2_with (go_at_call 39; (with_reducible refine (HHu.out _ (below_drewN _ hb6)).mono ?_); rintro e w' ⟨rfl, n8, rfl⟩)
              go_ret
              exact ⟨rfl, by first | exact below_drewN _ (HB6.out.trans (hb7.mono HB6.out.size)) | exact below_drewN _ (HB6.out.trans (hb6.mono HB6.out.size))⟩

/-- The law, at arguments laid open. -/
theorem treeShares_c {w : World} {A : Option Addr} {c : Nat} {l : List ActT} {A' : Option Addr} {c' v : Nat} {p : List Nat} (k : Int) (del : Bool) (hT : Tz w) (hA : ActsT w w.heap.size A l) (hl : l.length ≤ maxLen) (hp : Pts w w.heap.size A' p) (hpl : p.length ≤ maxLen) (hv : v < 18446744073709551616) :
    Calls Tryd.prog 6 #[.int .i64 k, .slice A l.length c, actV del A' p.length c' v] w fun e w' => e = .returned (.bool true) ∧ Below w.heap.size w w' := by
  by_cases hs : (heavyA 40 l || decide (k < 1) || decide (16 < k) || ((p.length : Int) != k)) = true
  · exact treeShares_skip k del hT hA hl hpl _ _ _ _ rfl rfl rfl rfl hs
  · simp only [Bool.or_eq_true, not_or, Bool.not_eq_true, decide_eq_false_iff_not, bne_eq_false_iff_eq] at hs
    obtain ⟨⟨⟨hh, h1⟩, h16⟩, hk⟩ := hs
    obtain ⟨n, rfl⟩ : ∃ n : Nat, k = (n : Int) := ⟨k.toNat, by omega⟩
    exact treeShares_go n del hT hA hl hh (by omega) (by omega) hp (by omega) hv
end Go.Proofs.YtpgdoicamgfibaaDoor
