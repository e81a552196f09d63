import Derived.Test.YtpgkfccfabnjdaaGreatDoorM64
import Derived.Test.YtpgkfccfabnjdaaGreatDoorM30
import Derived.Test.YtpgkfccfabnjdaaGreatDoorM33
/-
  CONTRACTS of package rank, ninth part: Range. Laid by wip/gen41.py.
-/
namespace Go.Proofs.YtpgkfccfabnjdaaGreatDoor
open Go.ChangeShapes Go.WideShapes Go.ChangeAt Go.RowKit
open Tr (T S4 Ent)

theorem cut_at {L X Y : List Ent} (hz : Tr.ZS L) (he : X ++ Y = L) {F : Nat} {y : Ent} (hy : L[F]? = some y) (hX : Ahead y.1 X) (hY : Past y.1 Y) : X = L.take F ∧ Y = L.drop F := by
  have hlen : X.length = F := by
    subst he
    rcases Nat.lt_trichotomy F X.length with h | h | h
    · rw [List.getElem?_append_left h] at hy
      have := hX y (List.mem_of_getElem? hy)
      omega
    · exact h.symm
    · rw [List.getElem?_append_right (by omega)] at hy
      obtain ⟨hl, hg⟩ := List.getElem?_eq_some_iff.1 hy
      have hz2 := (List.pairwise_append.1 hz).2.1
      have h0 : 0 < Y.length := by omega
      have h1 := List.pairwise_iff_getElem.1 hz2 0 (F - X.length) h0 hl (by omega)
      rw [hg] at h1
      have h2 := hY Y[0] (List.getElem_mem h0)
      omega
  subst he
  subst hlen
  simp
end Go.Proofs.YtpgkfccfabnjdaaGreatDoor

/-
  THE CONTRACT of pantilelaw10.awake, and THE LAW RankNil.
-/
namespace Go.Proofs.YtpgkfccfabnjdaaGreatDoor
open Go.ChangeShapes Go.WideShapes Go.ChangeAt Go.RowKit
open Tr (T S4 Ent)

theorem front_len {L F1 F2 : List Ent} {p : List Nat} (he : L = F1 ++ F2) (ha : Ahead p F1) (hb : Past p F2) : F1.length = (L.filter fun e => decide (Tr.key e.1 < Tr.key p)).length := by
  subst he
  rw [List.filter_append, List.filter_eq_self.2 (fun e he => decide_eq_true (ha e he)), List.filter_eq_nil_iff.2 (fun e he => by have := hb e he; simp; omega), List.append_nil]
theorem ex10 : (exL.filter fun e => decide (Tr.key e.1 < Tr.key [7, 7])).length = 2 := by decide +kernel
set_option maxRecDepth 100000 in
set_option maxHeartbeats 1000000 in
theorem awake10_c (w : World) (hT : Tz w) : Calls Tryz.prog 17 #[] w fun e w' => e = .returned (.bool true) ∧ Below w.heap.size w w' := by
  have HT := Lib.hid hT
  clear hT
  go_enter Tryz.func17, Tryz.ntmps17
  go_wp2_with fail
  refine (tNew_c 2 w (by decide) (by decide)).mono ?_
  rintro e w1 ⟨rfl, ht1, hb1⟩
  have T1 := Lib.hid ht1
  have B1 := Lib.hid hb1
  clear ht1 hb1
  go_wp2_with fail
  refine (tPut_new (T1.out.below (below_alloc w1 _) (Nat.le_refl _)) (pts_two w1 7 3 (by decide) (by decide)) rfl (c := 2) 1 (by decide) (by simp [Tr.entsO]) (by decide +kernel)).mono ?_
  rintro e w2 ⟨n2, t2, rfl, ht2, he2, hb2⟩
  have T2 := Lib.hid ht2
  have E2 := Lib.hid he2
  have B2 := Lib.hid (Below.andThen B1.out (Below.andThen (below_alloc w1 _) hb2))
  clear ht2 he2 hb2 T1
  go_wp2_with fail
  refine (tPut_new (T2.out.below (below_alloc w2 _) (Nat.le_refl _)) (pts_two w2 0 8 (by decide) (by decide)) rfl (c := 2) 2 (by decide) (by rw [show Tr.entsO (some t2) = t2.ents from rfl, E2.out]; decide +kernel) (by rw [show Tr.entsO (some t2) = t2.ents from rfl, E2.out]; decide +kernel)).mono ?_
  rintro e w3 ⟨n3, t3, rfl, ht3, he3, hb3⟩
  have T3 := Lib.hid ht3
  have E3 := Lib.hid (he3.trans (by rw [show Tr.entsO (some t2) = t2.ents from rfl, E2.out]))
  have B3 := Lib.hid (Below.andThen B2.out (Below.andThen (below_alloc w2 _) hb3))
  clear ht3 he3 hb3 T2
  go_wp2_with fail
  refine (tPut_new (T3.out.below (below_alloc w3 _) (Nat.le_refl _)) (pts_two w3 4 0 (by decide) (by decide)) rfl (c := 2) 3 (by decide) (by rw [show Tr.entsO (some t3) = t3.ents from rfl, E3.out]; decide +kernel) (by rw [show Tr.entsO (some t3) = t3.ents from rfl, E3.out]; decide +kernel)).mono ?_
  rintro e w4 ⟨n4, t4, rfl, ht4, he4, hb4⟩
  have T4 := Lib.hid ht4
  have E4 : Hid (Tr.entsO (some t4) = exL) := Lib.hid (by rw [show Tr.entsO (some t4) = t4.ents from rfl, he4, show Tr.entsO (some t3) = t3.ents from rfl, E3.out]; exact exL_put)
  have B4 := Lib.hid (Below.andThen B3.out (Below.andThen (below_alloc w3 _) hb4))
  clear ht4 he4 hb4 T3
  go_wp2_with fail
  refine (kOf_c (c := 2) (T4.out.below (below_alloc w4 _) (Nat.le_refl _)).1 (Nat.le_refl _) (fun w' hb => ((HT.out.on B4.out).on (below_alloc w4 _)).on hb) (by rw [E4.out]; decide) (pts_two w4 7 7 (by decide) (by decide)) rfl).mono ?_
  rintro e w5 ⟨F1, F2, he, ha, hp, rfl, hb5⟩
  have hl : F1.length = 2 := (front_len he ha hp).trans (by rw [E4.out]; exact ex10)
  rw [hl]
  have B5 := Lib.hid (Below.andThen B4.out (Below.andThen (below_alloc w4 _) hb5))
  clear he ha hp hl hb5
  go_wp2_with fail
  go_ret
  exact ⟨rfl, B5.out⟩
end Go.Proofs.YtpgkfccfabnjdaaGreatDoor
