import Derived.Test.YtpgdoicamgfibaaGreatDoorM25
import Derived.Test.YtpgdoicamgfibaaGreatDoorM06
import Derived.BigQuiet
import Derived.Deep.RegionHeld3
/-
  THE CONTRACT of pantileref07.Path: the lists of the nodes that cover a point.
-/
namespace Go.Proofs.YtpgdoicamgfibaaGreatDoor
open Go.ChangeShapes Go.WideShapes Go.ChangeAt Go.RowKit
open Tr (T S4 Ent Shp)

def lenV : Value → Nat
  | .slice _ n _ => n
  | _ => 0
/-- a row of lists, each that of a node's entries -/
def ListsAt (w : World) (V : List Value) (us : List T) : Prop :=
  V.length = us.length ∧ ∀ (j : Nat) (u : T), us[j]? = some u → ∃ (b off c : Nat), V[j]? = some (Value.slice (some ⟨b, off, none⟩) u.ents.length c) ∧ Ents w w.heap.size (some ⟨b, off, none⟩) u.ents ∧ u.ents.length ≤ c
theorem ListsAt.snoc {w : World} {V : List Value} {us : List T} (h : ListsAt w V us) (u : T) {b off c : Nat} (he : Ents w w.heap.size (some ⟨b, off, none⟩) u.ents) (hc : u.ents.length ≤ c) : ListsAt w (V ++ [Value.slice (some ⟨b, off, none⟩) u.ents.length c]) (us ++ [u]) := by
  refine ⟨by rw [List.length_append, List.length_append, h.1]; rfl, fun j x hx => ?_⟩
  rcases Nat.lt_or_ge j us.length with hj | hj
  · rw [List.getElem?_append_left hj] at hx
    obtain ⟨b', off', c', h1, h2⟩ := h.2 j x hx
    exact ⟨b', off', c', by rw [List.getElem?_append_left (by rw [h.1]; exact hj)]; exact h1, h2⟩
  · rw [List.getElem?_append_right hj] at hx
    have hj0 : j - us.length = 0 := by
      rcases Nat.eq_zero_or_pos (j - us.length) with h0 | h0
      · exact h0
      · rw [List.getElem?_eq_none (by simp; omega)] at hx; cases hx
    rw [hj0] at hx
    simp only [List.getElem?_cons_zero, Option.some.injEq] at hx
    subst hx
    exact ⟨b, off, c, by rw [List.getElem?_append_right (by rw [h.1]; exact hj), h.1, hj0]; rfl, he, hc⟩
theorem get_snoc {a : Int} : ∀ {ks : List (Nat × T)} {x : Nat × T}, Sl.Srt (ks ++ [x]) → Sl.get (ks ++ [x]) a = if (x.1 : Int) = a then some x.2 else Sl.get ks a
  | [], x, _ => by simp [Sl.get]
  | y :: ks, x, h => by
    have ih := get_snoc (a := a) (ks := ks) (x := x) h.tail
    simp only [List.cons_append, Sl.get]
    by_cases hy : (y.1 : Int) = a
    · have h1 := h.head x (by simp)
      rw [if_pos hy, if_pos hy, if_neg (by omega)]
    · rw [if_neg hy, if_neg hy]
      exact ih
theorem kid_fewer {k : Nat} {t s : T} (h : Tr.Wf k t) {p : List Nat} (hs : Tr.kidAt t p = some s) : s.ents.length < t.ents.length := by
  have hm := Tr.kidAt_mem hs
  cases h with
  | ent g q v => simp [T.ks] at hm
  | br g l pre ks h63 hw h2 hl ho hk hc =>
    have wf : Tr.Wf k (.br g l pre ks) := .br g l pre ks h63 hw h2 hl ho hk hc
    have hm' : (Z.addr p ((T.br g l pre ks).lv - 1), s) ∈ ks := hm
    obtain ⟨j, hj⟩ := List.mem_iff_getElem?.1 hm'
    have h3 := Tr.offK_le hj
    rw [Tr.ents_br]
    simp only at h3
    have hpos : ∀ (i : Nat) (x : Nat × T), ks[i]? = some x → 1 ≤ x.2.ents.length := fun i x hx => Tr.ents_pos' (wf.kid (List.mem_of_getElem? hx))
    rcases Nat.eq_zero_or_pos j with rfl | hj0
    · obtain ⟨y, hy⟩ := get_lt (show 1 < ks.length by omega)
      have h4 := Tr.offK_le hy
      have h5 := Tr.offK_succ hj
      have h6 := hpos 1 y hy
      rw [Tr.offK_zero, Nat.zero_add, Nat.zero_add] at h5
      simp only at h5
      omega
    · obtain ⟨y, hy⟩ := get_lt (show j - 1 < ks.length by have h7 : j < ks.length := lt_get hj; omega)
      have h5 := Tr.offK_succ hy
      have h6 := hpos (j - 1) y hy
      rw [show j - 1 + 1 = j by omega] at h5
      omega
theorem rcut_any (A : Option Addr) (c : Nat) (p : List Nat) (t : T) (B : Nat) (w : World) (hp : Pts w B A p) (hB : B ≤ w.heap.size) (h1 : 1 ≤ p.length) (h16 : p.length ≤ 16) (hl : t.lv ≤ 64) :
    Calls Tryz.prog 56 #[.slice A p.length c, .int .i64 (levI t)] w fun e w' => ∃ A' c', e = .returned (.slice A' (Z.cut p t.lv).length c') ∧ Pts w' w'.heap.size A' (Z.cut p t.lv) ∧ Below w.heap.size w w' := by
  refine (rcut_c A c p t.lv B w hp hB h1 h16 hl).mono ?_
  rintro e w' ⟨v, rfl, ho, hb⟩
  obtain ⟨A', c', rfl, hp'⟩ := ho.pts
  exact ⟨A', c', rfl, hp'.keep (by first | exact Nat.le_refl _ | exact hb.size) (fun _ _ => rfl), hb⟩
set_option maxRecDepth 100000 in
set_option maxHeartbeats 4000000 in
theorem rpath7_c {w : World} {k : Nat} {o : Option T} (hwf : ∀ t, o = some t → Tr.Wf k t) {A A' : Option Addr} {c c' : Nat} {p : List Nat} (h : Ents w w.heap.size A (Tr.entsO o)) (hc : (Tr.entsO o).length ≤ c) (hl : (Tr.entsO o).length ≤ 1000000) (hp : Pts w w.heap.size A' p) (hpl : p.length = k) (h1 : 1 ≤ k) (h16 : k ≤ 16) :
    Calls Tryz.prog 18 #[.slice A (Tr.entsO o).length c, .slice A' p.length c'] w fun e w' => ∃ v V, e = .returned v ∧ OwnV 29 w' w.heap.size v V ∧ ListsAt w V (Tr.pathT o p) ∧ Below w.heap.size w w' := by
  have HX := Lib.hid (And.intro hwf (And.intro h (And.intro hc (And.intro hl (And.intro hp (And.intro hpl (And.intro h1 h16)))))))
  have HO := Lib.hid (ownV_nil 29 w)
  clear hwf h hc hl hp hpl h1 h16
  go_enter Tryz.func18, Tryz.ntmps18
  go_wp2_with fail
  go_loopw [0, 5] (fun l v wr => ∃ (us : List T) (o' : Option T) (C : Option Addr) (d : Nat) (V : List Value), Tr.pathT o p = us ++ Tr.pathT o' p ∧ (∀ t, o' = some t → Tr.Wf k t) ∧ l = .slice C (Tr.entsO o').length d ∧ Ents w w.heap.size C (Tr.entsO o') ∧ (Tr.entsO o').length ≤ d ∧ (Tr.entsO o').length ≤ 1000000 ∧ us.length ≤ 65 ∧
      OwnV 29 wr w.heap.size v V ∧ ListsAt w V us ∧ Below w.heap.size w wr) (fun l _ _ => lenV l)
  case atStart => exact ⟨[], o, A, c, [], rfl, HX.out.1, rfl, HX.out.2.1, HX.out.2.2.1, HX.out.2.2.2.1, Nat.zero_le _, HO.out, ⟨rfl, fun j u hu => by simp at hu⟩, below_alloc _ _⟩
  case round =>
    obtain ⟨us, o', C, d, V, hpath, hwf', rfl, hents, hd, hl', hus, hown, hlists, hbr⟩ := hrel
    cases o' with
    | none =>
      have HY := Lib.hid (And.intro hpath (And.intro hown (And.intro hlists hbr)))
      clear hpath hwf' hents hd hl' hown hlists hbr
      simp only [Tr.entsO, List.length_nil]
      go_wp2_with fail
      go_ret
      obtain ⟨hpath, hown, hlists, hbr⟩ := HY.out
      exact ⟨_, V, rfl, hown, by rw [hpath]; simpa [Tr.path_none] using hlists, hbr⟩
    | some t =>
      have wt := hwf' t rfl
      have hpos := Tr.ents_pos' wt
      obtain ⟨b, off, hC, -⟩ := hents (by intro e; have e' : t.ents = [] := e; rw [e'] at hpos; simp at hpos)
      subst hC
      obtain ⟨n, hn⟩ : ∃ n, t.ents.length = n := ⟨_, rfl⟩
      have HN := Lib.hid hn
      have HS := rshape_in wt (hents.below hbr (Nat.le_refl _) hbr.size) (Nat.le_refl _) hd hl'
      simp only [Tr.entsO]
      rw [hn] at HS ⊢
      have HS := Lib.hid HS
      have HY := Lib.hid (And.intro hpath (And.intro hown (And.intro hlists (And.intro hbr (And.intro hents (And.intro hd (And.intro hl' (And.intro wt hus))))))))
      have m1 : 0 < n := by omega
      have m2 : (0 : Int) < (n : Int) := by omega
      clear hpath hwf' hents hd hl' hown hlists hbr hn wt hpos
      go_wp2_with fail
      refine HS.out.mono ?_
      rintro e w2 ⟨⟨A1, c1, A2, c2, rfl, hp1, hr1, -, -⟩, hb2⟩
      have HB2 := Lib.hid (And.intro hp1 hb2)
      clear hp1 hr1 hb2 HS
      go_wp2_with fail
      obtain ⟨W, hW⟩ : ∃ W, W = w2.alloc (.cells #[.int .i64 (Tr.shT k t).lev, .slice A1 (Tr.shT k t).pre.length c1, .slice A2 (Tr.shT k t).ks.length c2, .bool (Tr.shT k t).dn, .int .u64 ((Tr.shT k t).val : Int)] 80) := ⟨_, rfl⟩
      have hQ := q5_at (heap_at w2 (.cells #[.int .i64 (Tr.shT k t).lev, .slice A1 (Tr.shT k t).pre.length c1, .slice A2 (Tr.shT k t).ks.length c2, .bool (Tr.shT k t).dn, .int .u64 ((Tr.shT k t).val : Int)] 80) _ rfl)
      have hWb : Below wr.heap.size wr W ∧ W.heap.size = w2.heap.size + 1 ∧ Pts W W.heap.size A1 t.pre := by
        rw [hW]
        exact ⟨HB2.out.2.trans ((below_alloc w2 _).mono HB2.out.2.size), by simp, (HB2.out.1.below' (below_alloc w2 _) (Nat.le_refl _)).keep (by simp) (fun _ _ => rfl)⟩
      rw [← hW] at hQ ⊢
      have HQ := Lib.hid hQ
      have HW := Lib.hid hWb
      have HWs := Lib.hid HB2.out.2.size
      clear hW hQ hWb HB2
      have hb0 : Below W.heap.size W W := Below.refl _ _
      have q0 : ∀ w', Below W.heap.size W w' → w'.cell? ⟨w2.heap.size, 0, none⟩ = some (.int .i64 (levI t)) := fun w' hb' => (HQ.out.below hb' (by have := HW.out.2.1; omega)).1.1
      have q1 : ∀ w', Below W.heap.size W w' → w'.cell? ⟨w2.heap.size, 1, none⟩ = some (.slice A1 t.pre.length c1) := fun w' hb' => (HQ.out.below hb' (by have := HW.out.2.1; omega)).1.2.1
      have HCt : Hid (∀ w', Below W.heap.size W w' → Calls Tryz.prog 56 #[.slice A' p.length c', .int .i64 (levI t)] w' fun e w'' => ∃ A3 c3, e = .returned (.slice A3 (Z.cut p t.lv).length c3) ∧ Pts w'' w''.heap.size A3 (Z.cut p t.lv) ∧ Below w'.heap.size w' w'') := Lib.hid fun w' hb' => by
        have hb := (HY.out.2.2.2.1.trans (HW.out.1.mono HY.out.2.2.2.1.size)).trans (hb'.mono (Nat.le_trans HY.out.2.2.2.1.size HW.out.1.size))
        exact rcut_any A' c' p t w.heap.size w' (HX.out.2.2.2.2.1.below' hb (Nat.le_refl _)) hb.size (by rw [HX.out.2.2.2.2.2.1]; exact HX.out.2.2.2.2.2.2.1) (by rw [HX.out.2.2.2.2.2.1]; exact HX.out.2.2.2.2.2.2.2) HY.out.2.2.2.2.2.2.2.1.lv64
      obtain ⟨r, hr⟩ : ∃ r, decide (Z.cut p t.lv = t.pre) = r := ⟨_, rfl⟩
      have HR := Lib.hid hr
      clear hr
      go_region_held3 (fun w' => Below W.heap.size W w') (((repeat (first | refine Below.drew ?_ | (with_reducible refine below_drewN _ ?_) | refine Below.alloc ?_ (by first | omega | (simp; done) | (simp; omega)) _ | refine Below.setCell ?_ (by first | omega | (simp; done) | (simp; omega)) _)); first | exact Below.refl _ _ | assumption | exact below_drewN _ (Below.refl _ _) | exact below_drewN _ (below_drewN _ (Below.refl _ _))))
        ((first
          | (go_at_call 56; refine (HCt.out _ (show Below W.heap.size W _ by ((repeat (first | refine Below.drew ?_ | (with_reducible refine below_drewN _ ?_) | refine Below.alloc ?_ (by first | omega | (simp; done) | (simp; omega)) _ | refine Below.setCell ?_ (by first | omega | (simp; done) | (simp; omega)) _)); first | exact Below.refl _ _ | assumption | exact below_drewN _ (Below.refl _ _) | exact below_drewN _ (below_drewN _ (Below.refl _ _))))).mono ?_; rintro e w3 ⟨A3, c3, rfl, hp3, hb3⟩; have HP3 := Lib.hid hp3; have hb3' := Below.trans (show Below W.heap.size W _ by ((repeat (first | refine Below.drew ?_ | (with_reducible refine below_drewN _ ?_) | refine Below.alloc ?_ (by first | omega | (simp; done) | (simp; omega)) _ | refine Below.setCell ?_ (by first | omega | (simp; done) | (simp; omega)) _)); first | exact Below.refl _ _ | assumption | exact below_drewN _ (Below.refl _ _) | exact below_drewN _ (below_drewN _ (Below.refl _ _)))) (hb3.mono (Below.size (show Below W.heap.size W _ by ((repeat (first | refine Below.drew ?_ | (with_reducible refine below_drewN _ ?_) | refine Below.alloc ?_ (by first | omega | (simp; done) | (simp; omega)) _ | refine Below.setCell ?_ (by first | omega | (simp; done) | (simp; omega)) _)); first | exact Below.refl _ _ | assumption | exact below_drewN _ (Below.refl _ _) | exact below_drewN _ (below_drewN _ (Below.refl _ _)))))); clear hp3 hb3)
          | (go_at_call 55; refine (rsame_c A3 A1 c3 c1 (Z.cut p t.lv) t.pre _ _ (HP3.out.below' (show Below w3.heap.size w3 _ by ((repeat (first | refine Below.drew ?_ | (with_reducible refine below_drewN _ ?_) | refine Below.alloc ?_ (by first | omega | (simp; done) | (simp; omega)) _ | refine Below.setCell ?_ (by first | omega | (simp; done) | (simp; omega)) _)); first | exact Below.refl _ _ | assumption | exact below_drewN _ (Below.refl _ _) | exact below_drewN _ (below_drewN _ (Below.refl _ _)))) (Nat.le_refl _)) ((HW.out.2.2.below' (show Below W.heap.size W _ by ((repeat (first | refine Below.drew ?_ | (with_reducible refine below_drewN _ ?_) | refine Below.alloc ?_ (by first | omega | (simp; done) | (simp; omega)) _ | refine Below.setCell ?_ (by first | omega | (simp; done) | (simp; omega)) _)); first | exact Below.refl _ _ | assumption | exact below_drewN _ (Below.refl _ _) | exact below_drewN _ (below_drewN _ (Below.refl _ _)))) (Nat.le_refl _)).keep (by have := hb3'.size; simpa using this) (fun _ _ => rfl)) (by first | exact Nat.le_refl _ | (simp; done)) (by have h1 := HX.out.2.2.2.2.2.1; have h2 := HX.out.2.2.2.2.2.2.2; rw [Z.cut_length]; unfold maxLen; omega)).mono ?_; rintro e w4 ⟨rfl, hb4⟩; rw [HR.out]; have hbD := Below.trans (show Below W.heap.size W _ by ((repeat (first | refine Below.drew ?_ | (with_reducible refine below_drewN _ ?_) | refine Below.alloc ?_ (by first | omega | (simp; done) | (simp; omega)) _ | refine Below.setCell ?_ (by first | omega | (simp; done) | (simp; omega)) _)); first | exact Below.refl _ _ | assumption | exact below_drewN _ (Below.refl _ _) | exact below_drewN _ (below_drewN _ (Below.refl _ _)))) (hb4.mono (Below.size (show Below W.heap.size W _ by ((repeat (first | refine Below.drew ?_ | (with_reducible refine below_drewN _ ?_) | refine Below.alloc ?_ (by first | omega | (simp; done) | (simp; omega)) _ | refine Below.setCell ?_ (by first | omega | (simp; done) | (simp; omega)) _)); first | exact Below.refl _ _ | assumption | exact below_drewN _ (Below.refl _ _) | exact below_drewN _ (below_drewN _ (Below.refl _ _)))))); clear hb4)))
      clear q0 q1 HCt
      have HD := Lib.hid (And.intro hbD hbD.size)
      clear hbD hb3' HP3
      have hcv : r = Tr.covers t p := by
        obtain ⟨-, -, -, -, -, -, -, wt, -⟩ := HY.out
        have := Tr.covers_iff wt HX.out.2.2.2.2.2.1 HX.out.2.2.2.2.1.1
        rw [← HR.out]
        cases hcc : Tr.covers t p with
        | true => exact decide_eq_true (this.1 hcc)
        | false => exact decide_eq_false fun e => by rw [this.2 e] at hcc; cases hcc
      have HCv := Lib.hid hcv
      clear hcv
      cases r with
      | false =>
        go_wp2_with fail
        go_ret
        obtain ⟨hpath, hown, hlists, hbr, -⟩ := HY.out
        refine ⟨_, V, rfl, hown.below (HW.out.1.trans (HD.out.1.mono HW.out.1.size)) (Nat.le_refl _), ?_, Below.andThen hbr (HW.out.1.trans (HD.out.1.mono HW.out.1.size))⟩
        rw [hpath, (Tr.path_stop t p HCv.out.symm).1, List.append_nil]
        exact hlists
      | true =>
        have hst := Tr.path_step HY.out.2.2.2.2.2.2.2.1 p HCv.out.symm
        have HST := Lib.hid hst.1
        clear hst
        obtain ⟨hpath, hown, hlists, hbr, hents, hd, hl', wt, hus⟩ := HY.out
        have hb4 := HW.out.1.trans (HD.out.1.mono HW.out.1.size)
        have hlV : V.length ≤ 65 := by rw [hlists.1]; exact hus
        have HO4 := Lib.hid (hown.below hb4 (Nat.le_refl _))
        have HB4 := Lib.hid (Below.andThen hbr hb4)
        have HL := Lib.hid (hlists.snoc t hents hd)
        clear hpath hown hlists hbr hents hd hl' wt hb4
        have h4s := HB4.out.size
        cases t with
        | ent g q v =>
          have hn1 : n = 1 := by have := HN.out; rw [Tr.ents_ent] at this; exact this.symm
          subst hn1
          go_wp2_with (at_builtin; refine wpList_append_wide 46 29 (.slice none 0 0) 24 Tryz.underlying46 infoE rfl (by omega) rfl (.tmp 24) (.tmp 26) rfl w.heap.size u5 V _ rfl (HO4.out.below (below_alloc w4 _) (Nat.le_refl _)) _ _ rfl (rdV_one _ _ _) rfl (by omega) (by simp; omega) ?_; intro v5 w5 hown5 hgrow5 _; have hb5 := Below.grown (HB4.out.trans ((below_alloc w4 _).mono h4s)) hgrow5 (by simp; omega) (fun q hq => (HO4.out.lt q hq).1))
          go_ret
          refine ⟨v5, _, rfl, hown5, ?_, hb5⟩
          have hpath := HY.out.1
          rw [HST.out, Tr.kidAt_ent, (Tr.path_none p).1] at hpath
          rw [hpath]
          have hL := HL.out
          rw [HN.out] at hL
          exact hL
        | br g l pre ks =>
          have hnL : (Tr.entsL ks).length = n := by have := HN.out; rw [Tr.ents_br] at this; exact this
          obtain ⟨-, -, -, -, -, -, -, -, -, -, hlen2⟩ := Tr.ends_part HY.out.2.2.2.2.2.2.2.1
          have n1 : ((n : Int) == 1) = false := by rw [beq_eq_false_iff_ne]; omega
          go_wp2_with (at_builtin; refine wpList_append_wide 46 29 (.slice none 0 0) 24 Tryz.underlying46 infoE rfl (by omega) rfl (.tmp 24) (.tmp 26) rfl w.heap.size u5 V _ rfl (HO4.out.below (below_alloc w4 _) (Nat.le_refl _)) _ _ rfl (rdV_one _ _ _) rfl (by omega) (by simp; omega) ?_; intro v5 w5 hown5 hgrow5 _; have hb5 := Below.grown (HB4.out.trans ((below_alloc w4 _).mono h4s)) hgrow5 (by simp; omega) (fun q hq => (HO4.out.lt q hq).1))
          obtain ⟨hpath, -, -, hbr, hents, hd, hl', wt, hus⟩ := HY.out
          have he : Tr.entsO (some (T.br g l pre ks)) = Tr.entsL ks := Tr.ents_br _ _ _ _
          rw [he] at hents hd hl'
          have HKd := rkids_c wt (hents.below hb5 (Nat.le_refl _) hb5.size) (Nat.le_refl _) hd hl'
          rw [hnL] at HKd
          refine HKd.mono ?_
          rintro e w6 ⟨A5, d5, rfl, hlo5, hr5, hb6⟩
          have hgs := hgrow5.size
          have hks : ks.length ≤ 65536 := by cases wt with | br _ _ _ _ _ hw => exact hw.len16
          have hz7 : (w6.alloc (.cells #[] 61)).heap.size = w6.heap.size + 1 := by simp
          have hb67 : Below w5.heap.size w5 (w6.alloc (.cells #[] 61)) := hb6.trans ((below_alloc w6 _).mono hb6.size)
          have hq0 : (w6.alloc (.cells #[] 61)).cell? ⟨w2.heap.size, 0, none⟩ = some (.int .i64 (l : Int)) := by
            have hlev : (Tr.shT k (T.br g l pre ks)).lev = (l : Int) := by show ((l + 1 : Nat) : Int) - 1 = l; omega
            have h0 := HQ.out
            rw [hlev] at h0
            have h2s : w2.heap.size < W.heap.size := by have := HW.out.2.1; omega
            have h4 := h0.below HD.out.1 h2s
            have h5 := (h4.below (below_alloc w4 (.cells #[.slice (some ⟨b, off, none⟩) n d] 29)) (by have := HD.out.2; omega)).grown hgrow5 (by have := HD.out.2; simp; omega) (fun e => by
              have h6 := (HY.out.2.1.lt _ e).2
              have h7 := HWs.out
              omega)
            exact (h5.below hb67 (by have := HD.out.2; have := hgrow5.size; simp at this; omega)).1.1
          have HF := Lib.hid (And.intro hents (And.intro hd (And.intro hl' (And.intro wt (And.intro (Below.andThen hb5 hb67) (And.intro (hr5.below (below_alloc w6 (.cells #[] 61)) (Nat.le_refl _) (Nat.le_refl _)) (And.intro hown5 (And.intro hb67 (And.intro hnL hq0)))))))))
          clear hpath hbr hents hd hl' wt hb5 hlo5 hr5 hb6 HKd he hb67 hown5 hgrow5 hnL hq0
          go_wp2_with fail
          generalize w6.alloc (.cells #[] 61) = w7 at *
          go_loopw [0, 8] (fun lv i wx => ∃ (j : Nat) (C : Option Addr) (e : Nat), j ≤ ks.length ∧ i = .int .i64 j ∧ lv = .slice C (Tr.entsO (Sl.get (ks.take j) (Z.addr p l : Int))).length e ∧ Ents w w.heap.size C (Tr.entsO (Sl.get (ks.take j) (Z.addr p l : Int))) ∧ (Tr.entsO (Sl.get (ks.take j) (Z.addr p l : Int))).length ≤ e ∧ Below w7.heap.size w7 wx) (fun _ i _ => ks.length - (intOf i).toNat)
          case atStart => exact ⟨0, _, _, Nat.zero_le _, rfl, rfl, Ents.nil _ _ _, Nat.le_refl _, Below.refl _ _⟩
          case round =>
            obtain ⟨j, C, e, hj, rfl, rfl, hC, hCe, hbx⟩ := hrel
            have HC := Lib.hid (And.intro hC (And.intro hCe hbx))
            clear hC hCe hbx
            by_cases hlt : j < ks.length
            · obtain ⟨hents, hd, hl', wt, hbw, hr5, hown5, hb57, hnL, hq0⟩ := HF.out
              obtain ⟨-, -, hbx⟩ := HC.out
              obtain ⟨x, hx⟩ := get_lt hlt
              have hmem := List.mem_of_getElem? hx
              have wfk := wt.kid hmem
              have hpos := Tr.ents_pos' wfk
              obtain ⟨e1, he1⟩ := get_lt hpos
              have i0 := Tr.ents_at hx hpos
              rw [he1, Nat.add_zero] at i0
              obtain ⟨b', off', Ax, cx, hA, hbb, x0, -, px, -, -⟩ := hents.at i0
              simp only [Option.some.injEq, Addr.mk.injEq, and_true] at hA
              obtain ⟨rfl, rfl⟩ := hA
              have hent := wfk.entry (List.mem_of_getElem? he1)
              have ha := Tr.kid_addr wt hmem (List.mem_of_getElem? he1)
              obtain ⟨pb, po, hA5, hpb, hcell⟩ := hr5.at (kidsV_get b off d ks hlt)
              rw [kidV_at b off d hx] at hcell
              subst hA5
              have hbwx := Below.andThen hbw hbx
              have y0 : wr.cell? ⟨b, off + Tr.offK ks j * 2, none⟩ = some (.slice Ax e1.1.length cx) := (hbwx.cell (p := ⟨b, off + Tr.offK ks j * 2, none⟩) hbb).trans x0
              have y1 : wr.cell? ⟨pb, po + j, none⟩ = some (.slice (some ⟨b, off + Tr.offK ks j * 2, none⟩) x.2.ents.length (d - Tr.offK ks j)) := (hbx.cell (p := ⟨pb, po + j, none⟩) (World.block_lt_of_cell? _ _ hcell)).trans hcell
              have q0 : wr.cell? ⟨w2.heap.size, 0, none⟩ = some (.int .i64 (l : Int)) := (hbx.cell (p := ⟨w2.heap.size, 0, none⟩) (World.block_lt_of_cell? _ _ hq0)).trans hq0
              have h63 : l ≤ 63 := by cases wt with | br _ _ _ _ h63 => exact h63
              have HA1 : Hid (∀ i, Calls Tryz.prog 22 #[.slice Ax e1.1.length cx, .int .i64 (l : Int)] (wr.drewN i) fun e w'' => e = .returned (.int .i64 (x.1 : Int)) ∧ ∃ j, w'' = (wr.drewN i).drewN j) := Lib.hid fun i => by
                rw [← ha]
                exact (raddr_c Ax cx e1.1 l w.heap.size (wr.drewN i) (px.below' (below_drewN i hbwx) (Nat.le_refl _)) (by rw [hent.1]; exact HX.out.2.2.2.2.2.2.1) (by rw [hent.1]; exact HX.out.2.2.2.2.2.2.2) h63).mono fun e w'' hh => ⟨hh.1, 0, hh.2.symm⟩
              have HA2 : Hid (∀ i, Calls Tryz.prog 22 #[.slice A' p.length c', .int .i64 (l : Int)] (wr.drewN i) fun e w'' => e = .returned (.int .i64 (Z.addr p l : Int)) ∧ ∃ j, w'' = (wr.drewN i).drewN j) := Lib.hid fun i =>
                (raddr_c A' c' p l w.heap.size (wr.drewN i) (HX.out.2.2.2.2.1.below' (below_drewN i hbwx) (Nat.le_refl _)) (by rw [HX.out.2.2.2.2.2.1]; exact HX.out.2.2.2.2.2.2.1) (by rw [HX.out.2.2.2.2.2.1]; exact HX.out.2.2.2.2.2.2.2) h63).mono fun e w'' hh => ⟨hh.1, 0, hh.2.symm⟩
              have m3 : (0 : Int) ≤ (j : Int) := by omega
              have m4 : (j : Int) < (ks.length : Int) := by omega
              have m5 : (0 : Int) < (x.2.ents.length : Int) := by omega
              have hsnoc : Sl.get (ks.take (j + 1)) (Z.addr p l : Int) = if (x.1 : Int) = (Z.addr p l : Int) then some x.2 else Sl.get (ks.take j) (Z.addr p l : Int) := by
                obtain ⟨hj', rfl⟩ := List.getElem?_eq_some_iff.1 hx
                rw [List.take_succ_eq_append_getElem hj']
                refine get_snoc ?_
                rw [← List.take_succ_eq_append_getElem hj']
                have hw : Sl.Wf k ks := by cases wt with | br _ _ _ _ _ hw => exact hw
                exact hw.srt.sublist (List.take_sublist _ _)
              have hpart := hents.part (Tr.offK ks j) x.2.ents.length (Tr.offK_le hx)
              rw [Tr.ents_part hx] at hpart
              have hle := Tr.offK_le hx
              have HZ := Lib.hid (And.intro hsnoc (And.intro hpart (And.intro (show x.2.ents.length ≤ d - Tr.offK ks j by omega) hbx)))
              clear hents hd hl' wt hbw hr5 hown5 hb57 hnL hq0 hx hmem wfk hpos he1 i0 x0 px hent ha hcell hbwx h63 hsnoc hpart hle hbx
              by_cases hxa : (x.1 : Int) = (Z.addr p l : Int)
              · have z1 : ((x.1 : Int) == (Z.addr p l : Int)) = true := by rw [beq_iff_eq]; exact hxa
                have HZ1 := Lib.hid hxa
                clear hxa
                go_wp2_with fail
                go_quiet ((go_at_call 22; (first | (with_reducible exact Calls.quiet_of (HA1.out _)) | (with_reducible exact Calls.quiet_of (HA2.out _)))))
                go_wp2_with fail
                go_roundw
                case rel =>
                  obtain ⟨hsn, hpt, hle, hbx⟩ := HZ.out
                  rw [if_pos HZ1.out] at hsn
                  refine ⟨j + 1, _, _, by omega, by go_num, by rw [hsn]; rfl, by rw [hsn]; exact hpt, by rw [hsn]; exact hle, below_drewN _ hbx⟩
                case measure => simp [intOf]; omega
              · have z1 : ((x.1 : Int) == (Z.addr p l : Int)) = false := by rw [beq_eq_false_iff_ne]; exact hxa
                have HZ1 := Lib.hid hxa
                clear hxa
                go_wp2_with fail
                go_quiet ((go_at_call 22; (first | (with_reducible exact Calls.quiet_of (HA1.out _)) | (with_reducible exact Calls.quiet_of (HA2.out _)))))
                go_wp2_with fail
                go_roundw
                case rel =>
                  obtain ⟨hsn, hpt, hle, hbx⟩ := HZ.out
                  rw [if_neg HZ1.out] at hsn
                  refine ⟨j + 1, C, e, by omega, by go_num, by rw [hsn], by rw [hsn]; exact HC.out.1, by rw [hsn]; exact HC.out.2.1, below_drewN _ hbx⟩
                case measure => simp [intOf]; omega
            · have hjk : j = ks.length := by omega
              subst hjk
              have hget : Sl.get (ks.take ks.length) (Z.addr p l : Int) = Tr.kidAt (T.br g l pre ks) p := by rw [List.take_length]; rfl
              obtain ⟨hents, hd, hl', wt, hbw, hr5, hown5, hb57, hnL, hq0⟩ := HF.out
              obtain ⟨hC, hCe, hbx⟩ := HC.out
              rw [hget] at hC hCe ⊢
              have hless : (Tr.entsO (Tr.kidAt (T.br g l pre ks) p)).length < n := by
                cases hk : Tr.kidAt (T.br g l pre ks) p with
                | none => exact m1
                | some s => have := kid_fewer wt hk; have h2 := HN.out; simp only [Tr.entsO]; omega
              have hpath := HY.out.1
              rw [HST.out] at hpath
              have hlen := Tr.pathF_length p 65 o
              have hlen2 : (us ++ [T.br g l pre ks]).length ≤ 65 := by
                have h2 := congrArg List.length hpath
                have h3 : (Tr.pathT o p).length ≤ 65 := hlen
                simp at h2 ⊢
                omega
              have hL := HL.out
              rw [HN.out] at hL
              have HR2 := Lib.hid (And.intro hpath (And.intro hC (And.intro hCe (And.intro hless (And.intro hlen2 (And.intro hL (And.intro (hown5.below (hb57.trans (hbx.mono hb57.size)) (Nat.le_refl _)) (Below.andThen hbw hbx))))))))
              have HW2 := Lib.hid (And.intro wt (And.intro hl' hnL))
              clear hents hd hl' wt hbw hr5 hown5 hb57 hnL hq0 hC hCe hbx hget hless hpath hlen hlen2 hL
              go_wp2_with fail
              go_roundw
              case rel =>
                obtain ⟨hpath, hC, hCe, hless, hlen2, hL, hown, hb⟩ := HR2.out
                refine ⟨us ++ [T.br g l pre ks], Tr.kidAt (T.br g l pre ks) p, C, e, _, by rw [hpath]; simp, fun t ht => (Tr.kidAt_wf HW2.out.1 ht).1, rfl, hC, hCe, ?_, hlen2, hown, hL, hb⟩
                show (Tr.entsO (Tr.kidAt (T.br g l pre ks) p)).length ≤ 1000000
                have := HW2.out.2.1
                have := HW2.out.2.2
                omega
              case measure => exact HR2.out.2.2.2.1
end Go.Proofs.YtpgdoicamgfibaaGreatDoor
