import Derived.Test.YtccefboifhfkdaaDoorM26
import Derived.Test.YtccefboifhfkdaaDoorM23
import Derived.Test.YtccefboifhfkdaaDoorM24
import Derived.Test.YtccefboifhfkdaaDoorM41
import Derived.Deep.RegionHeld3
/-
  THE CONTRACT of pantilelaw06.Flat: a node whose kids are entries has just these entries.
-/
namespace Go.Proofs.YtccefboifhfkdaaDoor
open Go.ChangeShapes Go.WideShapes Go.ChangeAt Go.RowKit
open Tr (T S4 Ent)

/-- a node whose kids are all entries -/
def FlatT (ks : List (Nat × T)) : Prop := ∀ x ∈ ks, ∃ g p v, x.2 = T.ent g p v
theorem flat_ents {ks : List (Nat × T)} (h : FlatT ks) : (Tr.entsL ks).length = ks.length := by
  induction ks with
  | nil => rfl
  | cons x ks ih =>
    obtain ⟨g, p, v, hx⟩ := h x List.mem_cons_self
    rw [Tr.entsL_cons, List.length_append, hx, Tr.ents_ent, ih fun y hy => h y (List.mem_cons_of_mem _ hy)]
    simp; omega
/-- the address behind which the next kid is sought -/
def lastK (ks : List (Nat × T)) : Nat → Int
  | 0 => -1
  | j + 1 => ((ks[j]?.map (·.1)).getD 0 : Nat)
theorem last_idx {ks : List (Nat × T)} (hs : Sl.Srt ks) {j : Nat} (hj : j ≤ ks.length) : Sl.idx ks (lastK ks j + 1) = j := by
  cases j with
  | zero => exact Sl.idx_zero ks
  | succ j =>
    obtain ⟨x, hx⟩ := get_lt (show j < ks.length by omega)
    have h1 : Sl.idx ks (x.1 : Int) = j := Sl.idx_of hs hx
    have h2 := Sl.idx_succ hs (x.1 : Int)
    have h3 : Sl.has ks (x.1 : Int) = true := by
      unfold Sl.has
      rw [Sl.get_of_mem hs (p := x) (List.mem_of_getElem? hx)]
      rfl
    rw [h3, if_pos rfl, h1] at h2
    simp only [lastK, hx, Option.map_some, Option.getD_some]
    exact h2
theorem last_less {ks : List (Nat × T)} (hs : Sl.Srt ks) {j : Nat} {x : Nat × T} (hx : ks[j]? = some x) : lastK ks j < (x.1 : Int) := by
  cases j with
  | zero => simp only [lastK]; omega
  | succ j =>
    obtain ⟨y, hy⟩ := get_lt (show j < ks.length by have := lt_get hx; omega)
    have := Sl.srt_get hs hy hx (Nat.lt_succ_self j)
    simp only [lastK, hy, Option.map_some, Option.getD_some]
    omega
theorem entry_kid {ks : List (Nat × T)} (h : FlatT ks) {e : Ent} (he : e ∈ Tr.entsL ks) : ∃ x ∈ ks, ∃ g, x.2 = T.ent g e.1 e.2 := by
  obtain ⟨x, hx, hm⟩ := Tr.mem_entsL.1 he
  obtain ⟨g, p, v, hxe⟩ := h x hx
  rw [hxe, Tr.ents_ent, List.mem_singleton] at hm
  subst hm
  exact ⟨x, hx, g, hxe⟩
theorem up_at {ks : List (Nat × T)} (hs : Sl.Srt ks) {j : Nat} {x : Nat × T} (hx : ks[j]? = some x) : (Sn.upE (kidL ks) (x.1 : Int)).getD (0, none) = (x.1, some ⟨x.2.blk, 0, none⟩) := by
  have h1 : Sl.idx ks (x.1 : Int) = j := Sl.idx_of hs hx
  have h2 := Sl.idx_succ hs (x.1 : Int)
  have h3 : Sl.has ks (x.1 : Int) = true := by
    unfold Sl.has
    rw [Sl.get_of_mem hs (p := x) (List.mem_of_getElem? hx)]
    rfl
  rw [h3, if_pos rfl, h1] at h2
  unfold Sn.upE
  rw [idx_kidL, h2, if_neg (by omega), Nat.add_sub_cancel, kidL, List.getElem?_map, hx]
  rfl
theorem nUpTo_m {w : World} {B k g l : Nat} {pre : List Nat} {ks : List (Nat × T)} (h : Mem w B k (.br g l pre ks)) (a : Int) (p : Nat × Option Addr) (hp : (Sn.upE (kidL ks) a).getD (0, none) = p) :
    Calls Tryd.prog 48 #[.pointer (some ⟨g, 0, none⟩), .int .i64 a] w fun e w' => e = .returned (atKid p.1 p.2) ∧ ∃ n, w' = w.drewN n := by
  cases h with
  | br _ _ _ _ q h1 h2 => exact nUpTo_br h1 h2 a p hp
set_option maxRecDepth 100000 in
set_option maxHeartbeats 4000000 in
theorem flat_c {w : World} {B k g l : Nat} {pre : List Nat} {ks : List (Nat × T)} (hn : Node w B k (.br g l pre ks)) (hf : FlatT ks) (hT : Tz w) {b off c : Nat} {L : List Ent} (hL : Ents w B (some ⟨b, off, none⟩) L) (hp : L.Perm (Tr.entsL ks)) (hB : B ≤ w.heap.size) (hc : L.length ≤ c) :
    Calls Tryd.prog 16 #[.pointer (some ⟨g, 0, none⟩), .slice (some ⟨b, off, none⟩) L.length c, .int .i64 (l : Int)] w fun e w' => e = .returned (.bool true) ∧ Below w.heap.size w w' := by
  have hlen : L.length = ks.length := by rw [hp.length_eq, flat_ents hf]
  have hk2 : 2 ≤ ks.length := by cases hn.1 with | br _ _ _ _ _ _ h2 => exact h2
  have hk16 : ks.length ≤ 65536 := node_len16 hn
  have hsrt : Sl.Srt ks := by cases hn.1 with | br _ _ _ _ _ hw => exact hw.srt
  have hkc : ∀ x ∈ ks, x.2.lv ≤ l ∧ Z.cut x.2.pre (l + 1) = pre ∧ Z.addr x.2.pre l = x.1 := by cases hn.1 with | br _ _ _ _ _ _ _ _ _ _ hc => exact hc
  have h63 : l ≤ 63 := by cases hn.1 with | br _ _ _ _ h63 => exact h63
  have hpl : pre.length = k := hn.1.len
  have hne : pre ≠ [] := by intro e; have := hn.1.k1; rw [e] at hpl; simp at hpl; omega
  obtain ⟨bq, hnd, hat⟩ : ∃ bq, NdAt w B g (l : Int) pre 0 (some ⟨bq, 0, none⟩) (Tr.sums (Tr.entsL ks)) ∧ Sn.At w B bq k (kidL ks) := by cases hn.2 with | br _ _ _ _ q h1 h2 => exact ⟨q, h1, h2⟩
  have hkid : ∀ e ∈ L, ∃ x ∈ ks, ∃ g, x.2 = T.ent g e.1 e.2 := fun e he => entry_kid hf (hp.mem_iff.1 he)
  have hek : ∀ e ∈ L, e.1.length = k := fun e he => by
    obtain ⟨x, hx, q, hxe⟩ := hkid e he
    have := (hn.1.kid hx).len
    rw [hxe] at this
    exact this
  have hsum : Tr.sums L = Tr.sums (Tr.entsL ks) := Tr.sums_perm hp
  obtain ⟨e0, he0⟩ := get_lt (show 0 < L.length by omega)
  obtain ⟨b', off', A0, c0, hA, hbb, z0, -, zp, -, -⟩ := hL.at he0
  simp only [Option.some.injEq, Addr.mk.injEq, and_true] at hA
  obtain ⟨rfl, rfl⟩ := hA
  rw [Nat.zero_mul, Nat.add_zero] at z0
  have hcut0 : Z.cut e0.1 (l + 1) = pre := by
    obtain ⟨x, hx, q, hxe⟩ := hkid e0 (List.mem_of_getElem? he0)
    have := (hkc x hx).2.1
    rw [hxe] at this
    exact this
  have hkl0 := hek e0 (List.mem_of_getElem? he0)
  have HS := Lib.hid (nShape_br hnd hat hB hne (by have := hn.1.k16; omega) (denseT k (.br g l pre ks)) rfl)
  have HX := Lib.hid (And.intro hn (And.intro hf (And.intro hT (And.intro hL (And.intro hB (And.intro hsrt (And.intro hkc (And.intro hkid (And.intro hek (And.intro hlen (And.intro hc hat)))))))))))
  have HN := Lib.hid (And.intro hnd (And.intro hpl (And.intro hne (And.intro hn.1.k1 (And.intro hn.1.k16 (And.intro hsum (And.intro hcut0 (And.intro zp hkl0))))))))
  rw [hlen]
  clear hn hf hT hL hp hB hc hsrt hkc hnd hat hkid hek hsum hlen he0 hne hpl hcut0 zp hkl0
  go_enter Tryd.func16, Tryd.ntmps16
  go_wp2_with fail
  refine HS.out.mono ?_
  rintro e w2 ⟨⟨A1, c1, A2, c2, rfl, hp1, hr1⟩, hb2⟩
  have H2 := Lib.hid (And.intro hp1 (And.intro hr1 hb2))
  clear hp1 hr1 hb2 HS
  go_wp2_with fail
  obtain ⟨W, hW⟩ : ∃ W, W = w2.alloc (.cells #[.int .i64 (l : Int), .slice A1 pre.length c1, .slice A2 (Sl.keys (kidL ks)).length c2, .bool (denseT k (.br g l pre ks)), .int .u64 ((0 : Nat) : Int)] 66) := ⟨_, rfl⟩
  have hQ := q5_at (heap_at w2 (.cells #[.int .i64 (l : Int), .slice A1 pre.length c1, .slice A2 (Sl.keys (kidL ks)).length c2, .bool (denseT k (.br g l pre ks)), .int .u64 ((0 : Nat) : Int)] 66) _ rfl)
  have hal := below_alloc w2 (.cells #[.int .i64 (l : Int), .slice A1 pre.length c1, .slice A2 (Sl.keys (kidL ks)).length c2, .bool (denseT k (.br g l pre ks)), .int .u64 ((0 : Nat) : Int)] 66)
  have hsz : (w2.alloc (.cells #[.int .i64 (l : Int), .slice A1 pre.length c1, .slice A2 (Sl.keys (kidL ks)).length c2, .bool (denseT k (.br g l pre ks)), .int .u64 ((0 : Nat) : Int)] 66)).heap.size = w2.heap.size + 1 := by simp
  rw [← hW] at hQ hal hsz
  try rw [show (Obj.cells #[.int .i64 (l : Int), .slice A1 pre.length c1, .slice A2 (Sl.keys (kidL ks)).length c2, .bool (denseT k (.br g l pre ks)), .int .u64 0] 66) = Obj.cells #[.int .i64 (l : Int), .slice A1 pre.length c1, .slice A2 (Sl.keys (kidL ks)).length c2, .bool (denseT k (.br g l pre ks)), .int .u64 ((0 : Nat) : Int)] 66 from rfl]
  rw [← hW]
  rw [keys_len] at hQ
  have HW := Lib.hid (And.intro hQ (And.intro (Below.andThen H2.out.2.2 hal) (And.intro ((H2.out.1.below' hal (Nat.le_refl _)).keep (show w2.heap.size ≤ W.heap.size by omega) (fun _ _ => rfl)) (H2.out.2.1.below hal (Nat.le_refl _) (Nat.le_refl _)))))
  have hWs := hsz
  clear hW hQ hal hsz H2
  obtain ⟨d, hd⟩ : ∃ d, denseT k (.br g l pre ks) = d := ⟨_, rfl⟩
  rw [hd] at HW ⊢
  have HLv : Hid (∀ w1, Below W.heap.size W w1 → Calls Tryd.prog 11 #[.pointer (some ⟨g, 0, none⟩)] w1 fun e w' => e = .returned (.int .i64 (l : Int)) ∧ w1 = w') := Lib.hid fun w1 hb1 =>
    nLevel_c (HN.out.1.below (Below.andThen HW.out.2.1 hb1) HX.out.2.2.2.2.1 (Nat.le_refl _))
  have HSm : Hid (∀ w1, Below W.heap.size W w1 → Calls Tryd.prog 42 #[.pointer (some ⟨g, 0, none⟩)] w1 fun e w' => e = .returned (sumsV (Tr.sums L)) ∧ Below w1.heap.size w1 w') := Lib.hid fun w1 hb1 => by
    rw [HN.out.2.2.2.2.2.1]
    exact nSums_c (HN.out.1.below (Below.andThen HW.out.2.1 hb1) HX.out.2.2.2.2.1 (Nat.le_refl _)) (Nat.le_trans HX.out.2.2.2.2.1 (Below.andThen HW.out.2.1 hb1).size)
  have HRs : Hid (∀ w1, Below W.heap.size W w1 → Calls Tryd.prog 43 #[.slice (some ⟨b, off, none⟩) ks.length c] w1 fun e w' => e = .returned (sumsV (Tr.sums L)) ∧ Below w1.heap.size w1 w') := Lib.hid fun w1 hb1 => by
    have h1 := rsums_c (c := c) (HX.out.2.2.2.1.below (Below.andThen HW.out.2.1 hb1) HX.out.2.2.2.2.1 (Nat.le_refl _)) (Nat.le_trans HX.out.2.2.2.2.1 (Below.andThen HW.out.2.1 hb1).size) (by have := HX.out.2.2.2.2.2.2.2.2.2.1; omega)
    rw [HX.out.2.2.2.2.2.2.2.2.2.1] at h1
    exact h1
  have HKc : Hid (∀ w1, Below W.heap.size W w1 → Calls Tryd.prog 45 #[.pointer (some ⟨g, 0, none⟩)] w1 fun e w' => e = .returned (.int .i64 (k : Int)) ∧ w1 = w') := Lib.hid fun w1 hb1 => by
    have h1 := nK_c (HN.out.1.below (Below.andThen HW.out.2.1 hb1) HX.out.2.2.2.2.1 (Nat.le_refl _))
    rw [HN.out.2.1] at h1
    exact h1
  have HDe : Hid (∀ w1, Below W.heap.size W w1 → Calls Tryd.prog 44 #[.int .i64 (k : Int), .int .i64 (ks.length : Int)] w1 fun e w' => e = .returned (.bool d) ∧ w1 = w') := Lib.hid fun w1 _ =>
    rdense6_c k ks.length w1 HN.out.2.2.2.2.1 hk16 d (by rw [← hd, denseT, Sl.dense, show (kidL (T.br g l pre ks).ks).length = ks.length by simp [kidL, T.ks]])
  have HCt : Hid (∀ w1, Below W.heap.size W w1 → Calls Tryd.prog 46 #[.slice A0 k c0, .int .i64 (l : Int)] w1 fun e w' => ∃ A3 c3, e = .returned (.slice A3 pre.length c3) ∧ Pts w' w'.heap.size A3 pre ∧ Below w1.heap.size w1 w') := Lib.hid fun w1 hb1 => by
    have h1 := rcut_lev A0 c0 e0.1 l B w1 (HN.out.2.2.2.2.2.2.2.1.below' (Below.andThen HW.out.2.1 hb1) HX.out.2.2.2.2.1) (Nat.le_trans HX.out.2.2.2.2.1 (Below.andThen HW.out.2.1 hb1).size) (by rw [HN.out.2.2.2.2.2.2.2.2]; exact HN.out.2.2.2.1) (by rw [HN.out.2.2.2.2.2.2.2.2]; exact HN.out.2.2.2.2.1) h63
    rw [HN.out.2.2.2.2.2.2.2.2, HN.out.2.2.2.2.2.2.1] at h1
    refine h1.mono ?_
    rintro e w' ⟨v, rfl, ho, hb⟩
    obtain ⟨A3, c3, rfl, hp3⟩ := ho.pts
    exact ⟨A3, c3, rfl, hp3, hb⟩
  have HSa : Hid (∀ w1 A3 c3, Below W.heap.size W w1 → Pts w1 w1.heap.size A3 pre → Calls Tryd.prog 9 #[.slice A1 pre.length c1, .slice A3 pre.length c3] w1 fun e w' => e = .returned (.bool true) ∧ Below w1.heap.size w1 w') := Lib.hid fun w1 A3 c3 hb1 hp3 =>
    rsame_self A1 A3 c1 c3 pre _ w1 ((HW.out.2.2.1.below' hb1 (Nat.le_refl _)).keep hb1.size (fun _ _ => rfl)) hp3 (Nat.le_refl _) (by have := HN.out.2.1; have := HN.out.2.2.2.2.1; unfold maxLen; omega)
  have hb0 : Below W.heap.size W W := Below.refl _ _
  have hs2 : w2.heap.size < W.heap.size := by omega
  have q0 : ∀ w', Below W.heap.size W w' → w'.cell? ⟨w2.heap.size, 0, none⟩ = some (.int .i64 (l : Int)) := fun w' hb' => (HW.out.1.below hb' hs2).1.1
  have q1 : ∀ w', Below W.heap.size W w' → w'.cell? ⟨w2.heap.size, 1, none⟩ = some (.slice A1 pre.length c1) := fun w' hb' => (HW.out.1.below hb' hs2).1.2.1
  have q2 : ∀ w', Below W.heap.size W w' → w'.cell? ⟨w2.heap.size, 2, none⟩ = some (.slice A2 ks.length c2) := fun w' hb' => (HW.out.1.below hb' hs2).1.2.2.1
  have q3 : ∀ w', Below W.heap.size W w' → w'.cell? ⟨w2.heap.size, 3, none⟩ = some (.bool d) := fun w' hb' => (HW.out.1.below hb' hs2).1.2.2.2.1
  have hbw := Nat.lt_of_lt_of_le hbb HX.out.2.2.2.2.1
  rw [HN.out.2.2.2.2.2.2.2.2] at z0
  have y0 : ∀ w', Below W.heap.size W w' → w'.cell? ⟨b, off, none⟩ = some (.slice A0 k c0) := fun w' hb' => ((Below.andThen HW.out.2.1 hb').cell (p := ⟨b, off, none⟩) hbw).trans z0
  have n1 : ((l : Int) != (l : Int)) = false := by simp
  have n2 : ((ks.length : Int) != (ks.length : Int)) = false := by simp
  have n3 : (d != d) = false := by simp
  have m0 : (0 : Int) < (ks.length : Int) := by omega
  have m1 : 0 < ks.length := by omega
  clear z0 hd hWs
  go_region_held3 (fun w' => Below W.heap.size W w') (((repeat (first | refine Below.drew ?_ | (with_reducible refine below_drewN _ ?_) | refine Below.alloc ?_ (by first | omega | (simp; done) | (simp; omega)) _ | refine Below.setCell ?_ (by first | omega | (simp; done) | (simp; omega)) _)); first | exact Below.refl _ _ | assumption | exact below_drewN _ (Below.refl _ _) | exact below_drewN _ (below_drewN _ (Below.refl _ _))))
    ((first
      | (go_at_call 11; refine (HLv.out _ (show Below W.heap.size W _ by ((repeat (first | refine Below.drew ?_ | (with_reducible refine below_drewN _ ?_) | refine Below.alloc ?_ (by first | omega | (simp; done) | (simp; omega)) _ | refine Below.setCell ?_ (by first | omega | (simp; done) | (simp; omega)) _)); first | exact Below.refl _ _ | assumption | exact below_drewN _ (Below.refl _ _) | exact below_drewN _ (below_drewN _ (Below.refl _ _))))).mono ?_; rintro e w' ⟨rfl, rfl⟩)
      | (go_at_call 42; refine (HSm.out _ (show Below W.heap.size W _ by ((repeat (first | refine Below.drew ?_ | (with_reducible refine below_drewN _ ?_) | refine Below.alloc ?_ (by first | omega | (simp; done) | (simp; omega)) _ | refine Below.setCell ?_ (by first | omega | (simp; done) | (simp; omega)) _)); first | exact Below.refl _ _ | assumption | exact below_drewN _ (Below.refl _ _) | exact below_drewN _ (below_drewN _ (Below.refl _ _))))).mono ?_; rintro e w3 ⟨rfl, hb3⟩; have hbA := Below.trans (show Below W.heap.size W _ by ((repeat (first | refine Below.drew ?_ | (with_reducible refine below_drewN _ ?_) | refine Below.alloc ?_ (by first | omega | (simp; done) | (simp; omega)) _ | refine Below.setCell ?_ (by first | omega | (simp; done) | (simp; omega)) _)); first | exact Below.refl _ _ | assumption | exact below_drewN _ (Below.refl _ _) | exact below_drewN _ (below_drewN _ (Below.refl _ _)))) (hb3.mono (Below.size (show Below W.heap.size W _ by ((repeat (first | refine Below.drew ?_ | (with_reducible refine below_drewN _ ?_) | refine Below.alloc ?_ (by first | omega | (simp; done) | (simp; omega)) _ | refine Below.setCell ?_ (by first | omega | (simp; done) | (simp; omega)) _)); first | exact Below.refl _ _ | assumption | exact below_drewN _ (Below.refl _ _) | exact below_drewN _ (below_drewN _ (Below.refl _ _)))))); clear hb3)
      | (go_at_call 43; refine (HRs.out _ (show Below W.heap.size W _ by ((repeat (first | refine Below.drew ?_ | (with_reducible refine below_drewN _ ?_) | refine Below.alloc ?_ (by first | omega | (simp; done) | (simp; omega)) _ | refine Below.setCell ?_ (by first | omega | (simp; done) | (simp; omega)) _)); first | exact Below.refl _ _ | assumption | exact below_drewN _ (Below.refl _ _) | exact below_drewN _ (below_drewN _ (Below.refl _ _))))).mono ?_; rintro e w4 ⟨rfl, hb4⟩; have hbB := Below.trans (show Below W.heap.size W _ by ((repeat (first | refine Below.drew ?_ | (with_reducible refine below_drewN _ ?_) | refine Below.alloc ?_ (by first | omega | (simp; done) | (simp; omega)) _ | refine Below.setCell ?_ (by first | omega | (simp; done) | (simp; omega)) _)); first | exact Below.refl _ _ | assumption | exact below_drewN _ (Below.refl _ _) | exact below_drewN _ (below_drewN _ (Below.refl _ _)))) (hb4.mono (Below.size (show Below W.heap.size W _ by ((repeat (first | refine Below.drew ?_ | (with_reducible refine below_drewN _ ?_) | refine Below.alloc ?_ (by first | omega | (simp; done) | (simp; omega)) _ | refine Below.setCell ?_ (by first | omega | (simp; done) | (simp; omega)) _)); first | exact Below.refl _ _ | assumption | exact below_drewN _ (Below.refl _ _) | exact below_drewN _ (below_drewN _ (Below.refl _ _)))))); clear hb4)
      | (go_at_call 45; refine (HKc.out _ (show Below W.heap.size W _ by ((repeat (first | refine Below.drew ?_ | (with_reducible refine below_drewN _ ?_) | refine Below.alloc ?_ (by first | omega | (simp; done) | (simp; omega)) _ | refine Below.setCell ?_ (by first | omega | (simp; done) | (simp; omega)) _)); first | exact Below.refl _ _ | assumption | exact below_drewN _ (Below.refl _ _) | exact below_drewN _ (below_drewN _ (Below.refl _ _))))).mono ?_; rintro e w' ⟨rfl, rfl⟩)
      | (go_at_call 44; refine (HDe.out _ (show Below W.heap.size W _ by ((repeat (first | refine Below.drew ?_ | (with_reducible refine below_drewN _ ?_) | refine Below.alloc ?_ (by first | omega | (simp; done) | (simp; omega)) _ | refine Below.setCell ?_ (by first | omega | (simp; done) | (simp; omega)) _)); first | exact Below.refl _ _ | assumption | exact below_drewN _ (Below.refl _ _) | exact below_drewN _ (below_drewN _ (Below.refl _ _))))).mono ?_; rintro e w' ⟨rfl, rfl⟩)
      | (go_at_call 46; refine (HCt.out _ (show Below W.heap.size W _ by ((repeat (first | refine Below.drew ?_ | (with_reducible refine below_drewN _ ?_) | refine Below.alloc ?_ (by first | omega | (simp; done) | (simp; omega)) _ | refine Below.setCell ?_ (by first | omega | (simp; done) | (simp; omega)) _)); first | exact Below.refl _ _ | assumption | exact below_drewN _ (Below.refl _ _) | exact below_drewN _ (below_drewN _ (Below.refl _ _))))).mono ?_; rintro e w5 ⟨A3, c3, rfl, hp3, hb5⟩; have HP3 := Lib.hid hp3; have hbC := Below.trans (show Below W.heap.size W _ by ((repeat (first | refine Below.drew ?_ | (with_reducible refine below_drewN _ ?_) | refine Below.alloc ?_ (by first | omega | (simp; done) | (simp; omega)) _ | refine Below.setCell ?_ (by first | omega | (simp; done) | (simp; omega)) _)); first | exact Below.refl _ _ | assumption | exact below_drewN _ (Below.refl _ _) | exact below_drewN _ (below_drewN _ (Below.refl _ _)))) (hb5.mono (Below.size (show Below W.heap.size W _ by ((repeat (first | refine Below.drew ?_ | (with_reducible refine below_drewN _ ?_) | refine Below.alloc ?_ (by first | omega | (simp; done) | (simp; omega)) _ | refine Below.setCell ?_ (by first | omega | (simp; done) | (simp; omega)) _)); first | exact Below.refl _ _ | assumption | exact below_drewN _ (Below.refl _ _) | exact below_drewN _ (below_drewN _ (Below.refl _ _)))))); clear hb5 hp3)
      | (go_at_call 9; refine (HSa.out _ A3 c3 (show Below W.heap.size W _ by ((repeat (first | refine Below.drew ?_ | (with_reducible refine below_drewN _ ?_) | refine Below.alloc ?_ (by first | omega | (simp; done) | (simp; omega)) _ | refine Below.setCell ?_ (by first | omega | (simp; done) | (simp; omega)) _)); first | exact Below.refl _ _ | assumption | exact below_drewN _ (Below.refl _ _) | exact below_drewN _ (below_drewN _ (Below.refl _ _)))) HP3.out).mono ?_; rintro e w6 ⟨rfl, hb6⟩; have hbD := Below.trans (show Below W.heap.size W _ by ((repeat (first | refine Below.drew ?_ | (with_reducible refine below_drewN _ ?_) | refine Below.alloc ?_ (by first | omega | (simp; done) | (simp; omega)) _ | refine Below.setCell ?_ (by first | omega | (simp; done) | (simp; omega)) _)); first | exact Below.refl _ _ | assumption | exact below_drewN _ (Below.refl _ _) | exact below_drewN _ (below_drewN _ (Below.refl _ _)))) (hb6.mono (Below.size (show Below W.heap.size W _ by ((repeat (first | refine Below.drew ?_ | (with_reducible refine below_drewN _ ?_) | refine Below.alloc ?_ (by first | omega | (simp; done) | (simp; omega)) _ | refine Below.setCell ?_ (by first | omega | (simp; done) | (simp; omega)) _)); first | exact Below.refl _ _ | assumption | exact below_drewN _ (Below.refl _ _) | exact below_drewN _ (below_drewN _ (Below.refl _ _)))))); clear hb6)))
  have B6 := Lib.hid hbD
  clear hbD hbA hbB hbC hb0 HLv HSm HRs HKc HDe HCt HSa q0 q1 q3 y0 HP3 n1 n2 n3
  have hpe := ptr_ne
  go_wp2_with fail
  go_loopw [8, 9] (fun a i wr => ∃ j : Nat, j ≤ ks.length ∧ a = .int .i64 (lastK ks j) ∧ i = .int .i64 (j : Int) ∧ Below W.heap.size W wr) (fun _ i _ => ks.length - (intOf i).toNat)
  case atStart => exact ⟨0, Nat.zero_le _, rfl, rfl, B6.out⟩
  case round =>
    obtain ⟨j, hj, rfl, rfl, hbr⟩ := hrel
    have y2 := q2 wr hbr
    have HB := Lib.hid hbr
    by_cases hlt : j < ks.length
    · obtain ⟨⟨u, s⟩, hx⟩ := get_lt hlt
      have hmem : (u, s) ∈ ks := List.mem_of_getElem? hx
      have hu : (Sl.keys (kidL ks))[j]? = some u := by simp [Sl.keys, kidL, hx]
      obtain ⟨pb, po, hA, hpb, hcell⟩ := HW.out.2.2.2.at (i := j) (v := .int .i64 (u : Int)) (by simp [Sn.intV, hu])
      subst hA
      have z2 : ∀ w', Below W.heap.size W w' → w'.cell? ⟨pb, po + j, none⟩ = some (.int .i64 (u : Int)) := fun w' hb' => (hb'.cell (p := ⟨pb, po + j, none⟩) (Nat.lt_trans hpb hs2)).trans hcell
      have hu16 : u < 65536 := by
        cases HX.out.1.1 with
        | br _ _ _ _ _ hw => exact hw.lt16 _ hmem
      have hless := last_less HX.out.2.2.2.2.2.1 hx
      have hge : -1 ≤ lastK ks j := by cases j with
        | zero => exact Int.le_refl _
        | succ j => simp only [lastK]; omega
      have HFr : Hid (∀ w1, Below W.heap.size W w1 → Calls Tryd.prog 47 #[.pointer (some ⟨g, 0, none⟩), .int .i64 (lastK ks j + 1)] w1 fun e w' => e = .returned (atKid u (some ⟨s.blk, 0, none⟩)) ∧ ∃ n, w' = w1.drewN n) := Lib.hid fun w1 hb1 =>
        nFrom_c (HX.out.1.below (Below.andThen HW.out.2.1 hb1) HX.out.2.2.2.2.1 (Nat.le_refl _)).2 (HX.out.2.2.1.on (Below.andThen HW.out.2.1 hb1)) (lastK ks j + 1) (by omega) (by omega) (u, some ⟨s.blk, 0, none⟩) (by
          show kidP (ks[Sl.idx ks (lastK ks j + 1)]?) = _
          rw [last_idx HX.out.2.2.2.2.2.1 hj, hx]; rfl)
      have HUp : Hid (∀ w1, Below W.heap.size W w1 → Calls Tryd.prog 48 #[.pointer (some ⟨g, 0, none⟩), .int .i64 (u : Int)] w1 fun e w' => e = .returned (atKid u (some ⟨s.blk, 0, none⟩)) ∧ ∃ n, w' = w1.drewN n) := Lib.hid fun w1 hb1 =>
        nUpTo_m (HX.out.1.below (Below.andThen HW.out.2.1 hb1) HX.out.2.2.2.2.1 (Nat.le_refl _)).2 (u : Int) (u, some ⟨s.blk, 0, none⟩) (up_at HX.out.2.2.2.2.2.1 hx)
      have HKd : Hid (∀ w1, Below W.heap.size W w1 → Calls Tryd.prog 15 #[.pointer (some ⟨g, 0, none⟩), .int .i64 (u : Int)] w1 fun e w' => e = .returned (.pointer (some ⟨s.blk, 0, none⟩)) ∧ ∃ n, w' = w1.drewN n) := Lib.hid fun w1 hb1 =>
        nKid_c (HX.out.1.below (Below.andThen HW.out.2.1 hb1) HX.out.2.2.2.2.1 (Nat.le_refl _)).2 (u : Int) _ (by
          have h1 : Sl.get ks (u : Int) = some s := Sl.get_of_mem HX.out.2.2.2.2.2.1 (p := (u, s)) hmem
          rw [rootP_kid]; show rootP (Sl.get ks (u : Int)) = _; rw [h1]; rfl)
      have hlast : lastK ks (j + 1) = (u : Int) := by simp [lastK, hx]
      have m2 : (0 : Int) ≤ (j : Int) := by omega
      have m3 : (j : Int) < (ks.length : Int) := by omega
      have n1 : ((u : Int) != (u : Int)) = false := by simp
      have n2 : decide ((u : Int) ≤ lastK ks j) = false := decide_eq_false (by omega)
      have hhi : lastK ks j ≤ 65536 := by omega
      obtain ⟨la, hla⟩ : ∃ la, lastK ks j = la := ⟨_, rfl⟩
      rw [hla] at HFr n2 hhi hge ⊢
      have HL := Lib.hid hlast
      clear hx hmem hu hcell hless hbr hla hlast
      go_wp2_with fail
      refine (HFr.out _ HB.out).mono ?_
      rintro e w' ⟨rfl, nf, rfl⟩
      have b1 := below_drewN nf HB.out
      generalize wr.drewN nf = v1 at b1 ⊢
      have y3 := q2 v1 b1
      have y4 := z2 v1 b1
      clear y2 HB
      go_wp2_with fail
      refine (HUp.out _ b1).mono ?_
      rintro e w' ⟨rfl, nu, rfl⟩
      have b2 := below_drewN nu b1
      generalize v1.drewN nu = v2 at b2 ⊢
      have y5 := q2 v2 b2
      have y6 := z2 v2 b2
      clear y3 y4 b1
      go_wp2_with fail
      refine (HKd.out _ b2).mono ?_
      rintro e w' ⟨rfl, nk, rfl⟩
      have B3 := Lib.hid (below_drewN nk b2)
      generalize v2.drewN nk = v3 at B3 ⊢
      clear y5 y6 b2
      go_wp2_with fail
      go_roundw
      case rel => exact ⟨j + 1, by omega, by rw [HL.out], by go_num, B3.out⟩
      case measure => simp [intOf]; omega
    · clear hbr
      go_wp2_with fail
      have HB1 := Lib.hid HB.out
      clear HB y2
      generalize wr = W1 at *
      go_loopw [14] (fun i wr => ∃ j : Nat, j ≤ ks.length ∧ i = .int .i64 (j : Int) ∧ Below W.heap.size W wr) (fun i _ => ks.length - (intOf i).toNat)
      case atStart => exact ⟨0, Nat.zero_le _, rfl, HB1.out⟩
      case round =>
        obtain ⟨j, hj, rfl, hbr⟩ := hrel
        have HB := Lib.hid hbr
        by_cases hlt : j < ks.length
        · obtain ⟨⟨p, v⟩, he⟩ := get_lt (show j < L.length by have := HX.out.2.2.2.2.2.2.2.2.2.1; omega)
          obtain ⟨⟨u, s⟩, hmem, q, hsq⟩ := HX.out.2.2.2.2.2.2.2.1 _ (List.mem_of_getElem? he)
          simp only at hsq
          subst hsq
          obtain ⟨b', off', A0', c0', hA, hbb', z0, -, zp, -, -⟩ := HX.out.2.2.2.1.at he
          simp only [Option.some.injEq, Addr.mk.injEq, and_true] at hA
          obtain ⟨rfl, rfl⟩ := hA
          have hlp := HX.out.2.2.2.2.2.2.2.2.1 _ (List.mem_of_getElem? he)
          have haddr : Z.addr p l = u := (HX.out.2.2.2.2.2.2.1 _ hmem).2.2
          have hone : Ents w B (some ⟨b, off + j * 2, none⟩) [(p, v)] := by
            have h1 := HX.out.2.2.2.1.part j 1 (by have := HX.out.2.2.2.2.2.2.2.2.2.1; omega)
            obtain ⟨hlt', hge⟩ := List.getElem?_eq_some_iff.1 he
            rw [show (L.drop j).take 1 = [(p, v)] by rw [List.drop_eq_getElem_cons hlt', hge]; rfl] at h1
            exact h1
          have hkid := HX.out.1.kid hmem
          have HAd : Hid (∀ w1, Below W.heap.size W w1 → Calls Tryd.prog 14 #[.slice A0' p.length c0', .int .i64 (l : Int)] w1 fun e w' => e = .returned (.int .i64 (u : Int)) ∧ w1 = w') := Lib.hid fun w1 hb1 => by
            have h1 := raddr_c A0' c0' p l B w1 (zp.below' (Below.andThen HW.out.2.1 hb1) HX.out.2.2.2.2.1) (by rw [show p.length = k from hlp]; exact HN.out.2.2.2.1) (by rw [show p.length = k from hlp]; exact HN.out.2.2.2.2.1) h63
            rw [haddr] at h1
            exact h1
          have HKd : Hid (∀ w1, Below W.heap.size W w1 → Calls Tryd.prog 15 #[.pointer (some ⟨g, 0, none⟩), .int .i64 (u : Int)] w1 fun e w' => e = .returned (.pointer (some ⟨q, 0, none⟩)) ∧ ∃ n, w' = w1.drewN n) := Lib.hid fun w1 hb1 =>
            nKid_c (HX.out.1.below (Below.andThen HW.out.2.1 hb1) HX.out.2.2.2.2.1 (Nat.le_refl _)).2 (u : Int) _ (by
              have h1 : Sl.get ks (u : Int) = some (T.ent q p v) := Sl.get_of_mem HX.out.2.2.2.2.2.1 (p := (u, T.ent q p v)) hmem
              rw [rootP_kid]; show rootP (Sl.get ks (u : Int)) = _; rw [h1]; rfl)
          have HIs : Hid (∀ w1 cc, Below W.heap.size W w1 → Calls Tryd.prog 19 #[.pointer (some ⟨q, 0, none⟩), .slice (some ⟨b, off + j * 2, none⟩) 1 cc] w1 fun e w' => e = .returned (.bool true) ∧ Below w1.heap.size w1 w') := Lib.hid fun w1 cc hb1 =>
            is_ent (hkid.below (Below.andThen HW.out.2.1 hb1) HX.out.2.2.2.2.1 (Nat.le_refl _)) (hone.below (Below.andThen HW.out.2.1 hb1) HX.out.2.2.2.2.1 (Nat.le_refl _)) (Nat.le_trans HX.out.2.2.2.2.1 (Below.andThen HW.out.2.1 hb1).size)
          have x0 : ∀ w', Below W.heap.size W w' → w'.cell? ⟨b, off + j * 2, none⟩ = some (.slice A0' p.length c0') := fun w' hb' => ((Below.andThen HW.out.2.1 hb').cell (p := ⟨b, off + j * 2, none⟩) hbw).trans z0
          have m2 : (0 : Int) ≤ (j : Int) := by omega
          have m3 : (j : Int) < (ks.length : Int) := by omega
          have m4 : ¬ ks.length ≤ j := by omega
          have hcc : ks.length ≤ c := by have := HX.out.2.2.2.2.2.2.2.2.2.1; have := HX.out.2.2.2.2.2.2.2.2.2.2.1; omega
          have hb0 : Below W.heap.size W wr := hbr
          clear he hmem z0 zp hlp haddr hone hkid hbr
          go_wp2_with fail
          have e1 : IntKind.i64.wrap ((j : Int) + 1) = (j : Int) + 1 := IntWalk.i64_in _ (by omega)
          have hsl : ∀ w, (Instr.sliceAt 22 (.slice (some ⟨b, off, none⟩) ks.length c) (some (.int .i64 (j : Int))) (some (.int .i64 ((j : Int) + 1))) none).run Tryd.prog w = .ok (.slice (some ⟨b, off + j * 2, none⟩) 1 (c - j)) w := fun w => by
            have h1 := slice_lh w b off ks.length c j (j + 1) (by omega) (by omega) (by omega)
            rw [show j + 1 - j = 1 by omega, show ((j + 1 : Nat) : Int) = (j : Int) + 1 by omega] at h1
            exact h1
          go_region_held3 (fun w' => Below W.heap.size W w') (((repeat (first | refine Below.drew ?_ | (with_reducible refine below_drewN _ ?_) | refine Below.alloc ?_ (by first | omega | (simp; done) | (simp; omega)) _ | refine Below.setCell ?_ (by first | omega | (simp; done) | (simp; omega)) _)); first | exact Below.refl _ _ | assumption | exact below_drewN _ (Below.refl _ _) | exact below_drewN _ (below_drewN _ (Below.refl _ _))))
            ((first
              | (go_at_call 14; refine (HAd.out _ (show Below W.heap.size W _ by ((repeat (first | refine Below.drew ?_ | (with_reducible refine below_drewN _ ?_) | refine Below.alloc ?_ (by first | omega | (simp; done) | (simp; omega)) _ | refine Below.setCell ?_ (by first | omega | (simp; done) | (simp; omega)) _)); first | exact Below.refl _ _ | assumption | exact below_drewN _ (Below.refl _ _) | exact below_drewN _ (below_drewN _ (Below.refl _ _))))).mono ?_; rintro e w' ⟨rfl, rfl⟩)
              | (go_at_call 15; refine (HKd.out _ (show Below W.heap.size W _ by ((repeat (first | refine Below.drew ?_ | (with_reducible refine below_drewN _ ?_) | refine Below.alloc ?_ (by first | omega | (simp; done) | (simp; omega)) _ | refine Below.setCell ?_ (by first | omega | (simp; done) | (simp; omega)) _)); first | exact Below.refl _ _ | assumption | exact below_drewN _ (Below.refl _ _) | exact below_drewN _ (below_drewN _ (Below.refl _ _))))).mono ?_; rintro e w3 ⟨rfl, nk, rfl⟩)
              | (go_at_call 19; refine (HIs.out _ _ (show Below W.heap.size W _ by ((repeat (first | refine Below.drew ?_ | (with_reducible refine below_drewN _ ?_) | refine Below.alloc ?_ (by first | omega | (simp; done) | (simp; omega)) _ | refine Below.setCell ?_ (by first | omega | (simp; done) | (simp; omega)) _)); first | exact Below.refl _ _ | assumption | exact below_drewN _ (Below.refl _ _) | exact below_drewN _ (below_drewN _ (Below.refl _ _))))).mono ?_; rintro e w4 ⟨rfl, hb4⟩; have hbD := Below.trans (show Below W.heap.size W _ by ((repeat (first | refine Below.drew ?_ | (with_reducible refine below_drewN _ ?_) | refine Below.alloc ?_ (by first | omega | (simp; done) | (simp; omega)) _ | refine Below.setCell ?_ (by first | omega | (simp; done) | (simp; omega)) _)); first | exact Below.refl _ _ | assumption | exact below_drewN _ (Below.refl _ _) | exact below_drewN _ (below_drewN _ (Below.refl _ _)))) (hb4.mono (Below.size (show Below W.heap.size W _ by ((repeat (first | refine Below.drew ?_ | (with_reducible refine below_drewN _ ?_) | refine Below.alloc ?_ (by first | omega | (simp; done) | (simp; omega)) _ | refine Below.setCell ?_ (by first | omega | (simp; done) | (simp; omega)) _)); first | exact Below.refl _ _ | assumption | exact below_drewN _ (Below.refl _ _) | exact below_drewN _ (below_drewN _ (Below.refl _ _)))))); clear hb4)))
          have B9 := Lib.hid hbD
          clear hbD hb0 hsl e1 HAd HKd HIs x0
          go_wp2_with fail
          go_roundw
          case rel => exact ⟨j + 1, by omega, by go_num, B9.out⟩
          case measure => simp [intOf]; omega
        · clear hbr
          go_wp2_with fail
          go_ret
          exact ⟨rfl, Below.andThen HW.out.2.1 HB.out⟩
end Go.Proofs.YtccefboifhfkdaaDoor
