import Derived.Test.YtpgdoicamgfibaaDoorMShm
import Derived.Test.YtpgdoicamgfibaaDoorM23
import Derived.Test.YtpgdoicamgfibaaDoorM24
import Derived.Test.YtpgdoicamgfibaaDoorM26
import Derived.BigQuiet
/-
  CONTRACTS of package pantilelaw07: shared, hung.
-/
namespace Go.Proofs.YtpgdoicamgfibaaDoor
open Go.ChangeShapes Go.WideShapes Go.ChangeAt Go.RowKit
open Tr (T S4 Ent)

theorem keys_get {ks : List (Nat × T)} {j u : Nat} (h : (Sl.keys (kidL ks))[j]? = some u) : ∃ s, ks[j]? = some (u, s) := by
  simp only [Sl.keys, kidL, List.getElem?_map, Option.map_map, Option.map_eq_some_iff] at h
  obtain ⟨x, hx, rfl⟩ := h
  exact ⟨x.2, hx⟩
theorem keys_len (ks : List (Nat × T)) : (Sl.keys (kidL ks)).length = ks.length := by simp [Sl.keys, kidL]
theorem node_len16 {w : World} {B k : Nat} {t : T} (h : Node w B k t) : t.ks.length ≤ 65536 := by
  cases h.1 with
  | ent => simp [T.ks]
  | br _ _ _ _ _ hw => exact hw.len16
/-- Kid, as many draws behind as may be -/
theorem kid_any {w : World} {B k : Nat} {t : T} (h : Node w B k t) (hB : B ≤ w.heap.size) (a : Int) (o : Option T) (ho : Sl.get t.ks a = o) :
    ∀ i, Calls Tryd.prog 19 #[.pointer (some ⟨t.blk, 0, none⟩), .int .i64 a] (w.drewN i) fun e w'' => e = .returned (.pointer (rootP o)) ∧ ∃ j, w'' = (w.drewN i).drewN j := fun i =>
  nKid_c (h.below (below_drewN i (Below.refl w.heap.size w)) hB (Nat.le_refl _)).2 a _ (by rw [rootP_kid, ho])
set_option maxRecDepth 100000 in
set_option maxHeartbeats 2000000 in
theorem shared_c {w : World} {B k : Nat} {x y : T} (hx : Node w B k x) (hy : Node w B k y) (hB : B ≤ w.heap.size) (a : Nat) (h : ShareT x y a) :
    Calls Tryd.prog 38 #[.pointer (some ⟨x.blk, 0, none⟩), .pointer (some ⟨y.blk, 0, none⟩), .int .i64 (a : Int)] w fun e w' => e = .returned (.bool true) ∧ Below w.heap.size w w' := by
  have HX := Lib.hid (And.intro hx (And.intro hy (And.intro hB h)))
  have hn1 := node_len16 hx
  have hn2 := node_len16 hy
  clear hx hy hB h
  go_enter Tryd.func38, Tryd.ntmps38
  go_wp2_with fail
  refine (nShape_c HX.out.1 HX.out.2.2.1).mono ?_
  rintro e w2 ⟨⟨A1, c1, A1', c1', rfl, -, hr1⟩, hb2⟩
  have H1 := Lib.hid (And.intro hr1 hb2)
  clear hr1 hb2
  go_wp2_with fail
  refine (nShape_c (HX.out.2.1.below H1.out.2 HX.out.2.2.1 (Nat.le_refl _)) (Nat.le_trans HX.out.2.2.1 H1.out.2.size)).mono ?_
  rintro e w3 ⟨⟨A2, c2, A2', c2', rfl, -, hr2⟩, hb3⟩
  have H2 := Lib.hid (And.intro hr2 (And.intro (H1.out.1.below hb3 (Nat.le_refl _) hb3.size) (Below.andThen H1.out.2 hb3)))
  clear hr2 hb3 H1
  go_wp2_with fail
  obtain ⟨W, hW⟩ : ∃ W, W = (w3.alloc (.cells #[.int .i64 (levI x), .slice A1 x.pre.length c1, .slice A1' (Sl.keys (kidL x.ks)).length c1', .bool (denseT k x), .int .u64 (x.val : Int)] 60)).alloc (.cells #[.int .i64 (levI y), .slice A2 y.pre.length c2, .slice A2' (Sl.keys (kidL y.ks)).length c2', .bool (denseT k y), .int .u64 (y.val : Int)] 60) := ⟨_, rfl⟩
  have hbW : Below w3.heap.size w3 W ∧ W.heap.size = w3.heap.size + 2 := by
    rw [hW]
    exact ⟨(below_alloc w3 _).trans ((below_alloc _ _).mono (by simp)), by simp⟩
  have k1 : W.cell? ⟨w3.heap.size, 2, none⟩ = some (.slice A1' (Sl.keys (kidL x.ks)).length c1') := by
    rw [hW]
    exact (q5_at (t := 60) (heap_past _ (heap_at _ _ _ rfl))).1.2.2.1
  have k2 : W.cell? ⟨w3.heap.size + 1, 2, none⟩ = some (.slice A2' (Sl.keys (kidL y.ks)).length c2') := by
    rw [hW]
    exact (q5_at (t := 60) (heap_at _ _ _ (by simp))).1.2.2.1
  rw [← hW]
  rw [keys_len] at k1 k2
  have HW := Lib.hid (And.intro (H2.out.2.1.below hbW.1 (Nat.le_refl _) (Nat.le_refl _)) (And.intro (H2.out.1.below hbW.1 (Nat.le_refl _) (Nat.le_refl _)) (And.intro (Below.andThen H2.out.2.2 hbW.1) (And.intro k1 k2))))
  have hWs := hbW.2
  clear hW H2 hbW k1 k2
  have hpe := ptr_ne
  go_loopw [9] (fun i wr => ∃ j : Nat, j ≤ x.ks.length ∧ i = .int .i64 j ∧ Below W.heap.size W wr) (fun i _ => x.ks.length - (intOf i).toNat)
  case atStart => exact ⟨0, Nat.zero_le _, rfl, Below.refl _ _⟩
  case round =>
    obtain ⟨j, hj, rfl, hbr⟩ := hrel
    obtain ⟨r1, r2, hbw, k1, k2⟩ := HW.out
    have y1 : wr.cell? ⟨w3.heap.size, 2, none⟩ = some (.slice A1' x.ks.length c1') := (hbr.cell (p := ⟨w3.heap.size, 2, none⟩) (by show w3.heap.size < W.heap.size; omega)).trans k1
    have HB := Lib.hid hbr
    by_cases hlt : j < x.ks.length
    · obtain ⟨u, hu⟩ := get_lt (us := Sl.keys (kidL x.ks)) (show j < (Sl.keys (kidL x.ks)).length by rw [keys_len]; exact hlt)
      obtain ⟨s, hs⟩ := keys_get hu
      obtain ⟨pb, po, hA, hpb, hcell⟩ := r1.at (i := j) (v := .int .i64 (u : Int)) (by simp [Sn.intV, hu])
      subst hA
      have y2 : wr.cell? ⟨pb, po + j, none⟩ = some (.int .i64 (u : Int)) := (hbr.cell (p := ⟨pb, po + j, none⟩) (by show pb < W.heap.size; omega)).trans hcell
      have m1 : (0 : Int) ≤ (j : Int) := by omega
      have m2 : (j : Int) < (x.ks.length : Int) := by omega
      have hbb := Below.andThen hbw hbr
      by_cases hc : (u : Int) = (a : Int)
      · have n1 : ((u : Int) != (a : Int)) = false := by simp [hc]
        clear hu hs hcell hc k1 k2 r1 r2 hbw hbr hbb
        go_wp2_with fail
        go_quiet (fail)
        go_wp2_with fail
        go_roundw
        case rel => exact ⟨j + 1, by omega, by go_num, below_drewN _ HB.out⟩
        case measure => simp [intOf]; omega
      · have n1 : ((u : Int) != (a : Int)) = true := by simpa using hc
        have hgx : Sl.get x.ks (u : Int) = some s := Sl.get_of_mem HX.out.2.2.2.1 (p := (u, s)) (List.mem_of_getElem? hs)
        have hgy : Sl.get y.ks (u : Int) = some s := by rw [← HX.out.2.2.2.2.2 _ hc]; exact hgx
        have HK1 := Lib.hid (kid_any (HX.out.1.below hbb HX.out.2.2.1 (Nat.le_refl _)) (Nat.le_trans HX.out.2.2.1 hbb.size) (u : Int) _ hgx)
        have HK2 := Lib.hid (kid_any (HX.out.2.1.below hbb HX.out.2.2.1 (Nat.le_refl _)) (Nat.le_trans HX.out.2.2.1 hbb.size) (u : Int) _ hgy)
        simp only [rootP] at HK1 HK2
        clear hu hs hcell hc k1 k2 r1 r2 hbw hbr hbb hgx hgy
        go_wp2_with fail
        go_quiet ((go_at_call 19; (first | (with_reducible exact Calls.quiet_of (HK1.out _)) | (with_reducible exact Calls.quiet_of (HK2.out _)))))
        go_wp2_with fail
        go_roundw
        case rel => exact ⟨j + 1, by omega, by go_num, below_drewN _ HB.out⟩
        case measure => simp [intOf]; omega
    · clear k1 k2 r1 r2 hbw hbr
      go_wp2_with fail
      have HB1 := Lib.hid HB.out
      clear HB y1
      generalize wr = W1 at *
      go_loopw [10] (fun i wr => ∃ j : Nat, j ≤ y.ks.length ∧ i = .int .i64 j ∧ Below W.heap.size W wr) (fun i _ => y.ks.length - (intOf i).toNat)
      case atStart => exact ⟨0, Nat.zero_le _, rfl, HB1.out⟩
      case round =>
        obtain ⟨j, hj, rfl, hbr⟩ := hrel
        obtain ⟨r1, r2, hbw, k1, k2⟩ := HW.out
        have y1 : wr.cell? ⟨w3.heap.size + 1, 2, none⟩ = some (.slice A2' y.ks.length c2') := (hbr.cell (p := ⟨w3.heap.size + 1, 2, none⟩) (by show w3.heap.size + 1 < W.heap.size; omega)).trans k2
        have HB := Lib.hid hbr
        by_cases hlt : j < y.ks.length
        · obtain ⟨u, hu⟩ := get_lt (us := Sl.keys (kidL y.ks)) (show j < (Sl.keys (kidL y.ks)).length by rw [keys_len]; exact hlt)
          obtain ⟨s, hs⟩ := keys_get hu
          obtain ⟨pb, po, hA, hpb, hcell⟩ := r2.at (i := j) (v := .int .i64 (u : Int)) (by simp [Sn.intV, hu])
          subst hA
          have y2 : wr.cell? ⟨pb, po + j, none⟩ = some (.int .i64 (u : Int)) := (hbr.cell (p := ⟨pb, po + j, none⟩) (by show pb < W.heap.size; omega)).trans hcell
          have m1 : (0 : Int) ≤ (j : Int) := by omega
          have m2 : (j : Int) < (y.ks.length : Int) := by omega
          have hbb := Below.andThen hbw hbr
          by_cases hc : (u : Int) = (a : Int)
          · have n1 : ((u : Int) != (a : Int)) = false := by simp [hc]
            clear hu hs hcell hc k1 k2 r1 r2 hbw hbr hbb
            go_wp2_with fail
            go_quiet (fail)
            go_wp2_with fail
            go_roundw
            case rel => exact ⟨j + 1, by omega, by go_num, below_drewN _ HB.out⟩
            case measure => simp [intOf]; omega
          · have n1 : ((u : Int) != (a : Int)) = true := by simpa using hc
            have hgy : Sl.get y.ks (u : Int) = some s := Sl.get_of_mem HX.out.2.2.2.2.1 (p := (u, s)) (List.mem_of_getElem? hs)
            have hgx : Sl.get x.ks (u : Int) = some s := by rw [HX.out.2.2.2.2.2 _ hc]; exact hgy
            have HK1 := Lib.hid (kid_any (HX.out.1.below hbb HX.out.2.2.1 (Nat.le_refl _)) (Nat.le_trans HX.out.2.2.1 hbb.size) (u : Int) _ hgx)
            have HK2 := Lib.hid (kid_any (HX.out.2.1.below hbb HX.out.2.2.1 (Nat.le_refl _)) (Nat.le_trans HX.out.2.2.1 hbb.size) (u : Int) _ hgy)
            simp only [rootP] at HK1 HK2
            clear hu hs hcell hc k1 k2 r1 r2 hbw hbr hbb hgx hgy
            go_wp2_with fail
            go_quiet ((go_at_call 19; (first | (with_reducible exact Calls.quiet_of (HK1.out _)) | (with_reducible exact Calls.quiet_of (HK2.out _)))))
            go_wp2_with fail
            go_roundw
            case rel => exact ⟨j + 1, by omega, by go_num, below_drewN _ HB.out⟩
            case measure => simp [intOf]; omega
        · clear k1 k2 r1 r2 hbw hbr
          go_wp2_with fail
          go_ret
          exact ⟨rfl, Below.andThen HW.out.2.2.1 HB.out⟩
set_option maxRecDepth 100000 in
/-- HUNG: what stands where a path ends -/
theorem hung_c {w : World} {B b k : Nat} {o : Option T} (h : TreeAt w B b k o) (_hB : B ≤ w.heap.size) {p : List Nat} {A A' : Option Addr} {c c' : Nat} {us : List T} (hus : Tr.pathT o p = us) (hrd : RdV w w.heap.size A (ptrV us)) (hp : Pts w w.heap.size A' p) (hk : p.length = k) (hbr : ∀ u, us.getLast? = some u → Tr.isBr u) (hl : us.length ≤ 65) :
    Calls Tryd.prog 39 #[.pointer (some ⟨b, 0, none⟩), .slice A us.length c, .slice A' p.length c'] w fun e w' => e = .returned (.pointer (rootP (Tr.stopT o p))) ∧ ∃ n, w' = w.drewN n := by
  rcases List.eq_nil_or_concat us with rfl | ⟨L, u, hL⟩
  · have hst := path_none_stop 65 o hus
    rw [show Tr.stopT o p = o from hst]
    have HR := Lib.hid (tRoot_c h.2.2.2.1)
    clear h _hB hus hrd hp hbr
    go_enter Tryd.func39, Tryd.ntmps39
    go_wp2_with (go_at_call 44; refine HR.out.mono ?_; rintro e w' ⟨rfl, rfl⟩)
    go_ret
    exact ⟨rfl, 0, rfl⟩
  · rw [List.concat_eq_append] at hL
    subst hL
    have hub : Tr.isBr u := hbr u (by simp)
    have hst := path_last_stop 65 o L u hus
    rw [show Tr.stopT o p = Tr.kidAt u p from hst]
    have hnu := ((path_nodes p 65 o h.2.2.2.2).1 u (by rw [show Tr.pathF 65 o p = L ++ [u] from hus]; simp)).1
    obtain ⟨g, l, pre, ks, rfl⟩ : ∃ g l pre ks, u = .br g l pre ks := by
      cases u with
      | ent => exact hub.elim
      | br g l pre ks => exact ⟨g, l, pre, ks, rfl⟩
    have h63 : l ≤ 63 := by cases hnu.1 with | br _ _ _ _ h63 => exact h63
    obtain ⟨pb, po, hA, hpb, hcell⟩ := rd_ptr hrd (i := L.length) (t := .br g l pre ks) (by simp)
    subst hA
    obtain ⟨kp, hnd⟩ := hnu.2.nd
    rw [show levI (T.br g l pre ks) = (l : Int) by show ((l + 1 : Nat) : Int) - 1 = l; omega] at hnd
    have HL := Lib.hid (nLevel_c hnd)
    have HA := Lib.hid (raddr_c A' c' p l w.heap.size w hp (by rw [hk]; exact h.2.1) (by rw [hk]; exact h.2.2.1) h63)
    have HK := Lib.hid (nKid_c hnu.2 (Z.addr p l : Int) (rootP (Tr.kidAt (.br g l pre ks) p)) (rootP_kid _))
    have hlen : (L ++ [T.br g l pre ks]).length = L.length + 1 := by simp
    rw [hlen] at hl ⊢
    have n1 : (((L.length + 1 : Nat) : Int) == 0) = false := by rw [beq_eq_false_iff_ne]; omega
    have n1' : ((L.length : Int) + 1 == 0) = false := by rw [beq_eq_false_iff_ne]; omega
    have e4 : ((L.length + 1 : Nat) : Int) - 1 = (L.length : Int) := by omega
    have m1 : (0 : Int) ≤ (L.length : Int) := by omega
    have m2 : (L.length : Int) < ((L.length + 1 : Nat) : Int) := by omega
    have hcell' : w.cell? ⟨pb, po + L.length, none⟩ = some (.pointer (some ⟨g, 0, none⟩)) := hcell
    clear h _hB hus hrd hp hbr hst hnu hnd hub hlen hcell hk
    simp only [T.blk] at HK HL
    go_enter Tryd.func39, Tryd.ntmps39
    go_wp2_with fail
    (with_reducible refine HL.out.mono ?_)
    rintro e w' ⟨rfl, rfl⟩
    go_wp2_with fail
    (with_reducible refine HA.out.mono ?_)
    rintro e w' ⟨rfl, rfl⟩
    go_wp2_with fail
    (with_reducible refine HK.out.mono ?_)
    rintro e w' ⟨rfl, n, rfl⟩
    go_wp2_with fail
    go_ret
    exact ⟨rfl, n, rfl⟩
theorem two_kids {a c : Nat} {x : T} : ∀ {ks : List (Nat × T)}, Sl.Srt ks → Sl.del a ks = [(c, x)] → (Sl.get ks (a : Int)).isSome = true → (∃ e, ks = [(a, e), (c, x)] ∧ a < c) ∨ (∃ e, ks = [(c, x), (a, e)] ∧ c < a)
  | [], _, h, _ => by simp [Sl.del] at h
  | q :: L, hs, h, hg => by
    simp only [Sl.del] at h
    by_cases hq : q.1 = a
    · rw [if_pos hq] at h
      subst h
      left
      refine ⟨q.2, by rw [← hq], ?_⟩
      have := hs.head (c, x) (by simp)
      rw [← hq]; exact this
    · rw [if_neg hq] at h
      simp only [List.cons.injEq] at h
      obtain ⟨rfl, h⟩ := h
      have hq' : ¬ ((c : Int) = (a : Int)) := by intro e; exact hq (by show c = a; omega)
      simp only [Sl.get, hq', if_false] at hg
      cases L with
      | nil => simp [Sl.get] at hg
      | cons r L =>
        simp only [Sl.del] at h
        by_cases hr : r.1 = a
        · rw [if_pos hr] at h
          subst h
          right
          refine ⟨r.2, by rw [← hr], ?_⟩
          have := hs.head r (by simp)
          rw [← hr]; exact this
        · rw [if_neg hr] at h
          cases h
end Go.Proofs.YtpgdoicamgfibaaDoor
