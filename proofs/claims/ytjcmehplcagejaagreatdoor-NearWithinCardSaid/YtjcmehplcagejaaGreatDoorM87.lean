import Derived.Test.YtjcmehplcagejaaGreatDoorM86
import Derived.Test.YtjcmehplcagejaaGreatDoorM27
import Derived.Test.YtjcmehplcagejaaGreatDoorM18
import Derived.Test.YtjcmehplcagejaaGreatDoorM33
import Derived.Test.YtjcmehplcagejaaGreatDoorM35
/-
  NEAR: awake of law 11; the law NearNil.
-/
namespace Go.Proofs.YtjcmehplcagejaaGreatDoor
open Go.ChangeShapes Go.WideShapes Go.ChangeAt Go.RowKit
open Tr (T S4 Ent)

def near11 : List Ent := [([7, 3], 1), ([4, 0], 3), ([0, 8], 2)]
theorem near11_eq : (Nr.nearL [5, 5] exL).take (Int.toNat 3) = near11 := by decide +kernel
set_option maxRecDepth 100000 in
set_option maxHeartbeats 1000000 in
theorem awake11_c (w : World) (hT : Tz w) : Calls Tryz.prog 23 #[] w fun e w' => e = .returned (.bool true) ∧ Below w.heap.size w w' := by
  have HT := Lib.hid hT
  clear hT
  go_enter Tryz.func23, Tryz.ntmps23
  go_wp2_with fail
  refine (tNew_c 2 w (by decide) (by decide)).mono ?_
  rintro e w1 ⟨rfl, ht1, hb1⟩
  have T1 := Lib.hid ht1
  have B1 := Lib.hid hb1
  clear ht1 hb1
  go_wp2_with fail
  refine (tPut_new (T1.out.below (below_alloc w1 _) (Nat.le_refl _)) (pts_two w1 7 3 (by decide) (by decide)) rfl (c := 2) 1 (by decide) (by simp [Tr.entsO]) (by decide +kernel)).mono ?_
  rintro e w2 ⟨n2, t2, rfl, ht2, he2, hb2⟩
  have T2 := Lib.hid ht2
  have E2 := Lib.hid he2
  have B2 := Lib.hid (Below.andThen B1.out (Below.andThen (below_alloc w1 _) hb2))
  clear ht2 he2 hb2 T1
  go_wp2_with fail
  refine (tPut_new (T2.out.below (below_alloc w2 _) (Nat.le_refl _)) (pts_two w2 0 8 (by decide) (by decide)) rfl (c := 2) 2 (by decide) (by rw [show Tr.entsO (some t2) = t2.ents from rfl, E2.out]; decide +kernel) (by rw [show Tr.entsO (some t2) = t2.ents from rfl, E2.out]; decide +kernel)).mono ?_
  rintro e w3 ⟨n3, t3, rfl, ht3, he3, hb3⟩
  have T3 := Lib.hid ht3
  have E3 := Lib.hid (he3.trans (by rw [show Tr.entsO (some t2) = t2.ents from rfl, E2.out]))
  have B3 := Lib.hid (Below.andThen B2.out (Below.andThen (below_alloc w2 _) hb3))
  clear ht3 he3 hb3 T2
  go_wp2_with fail
  refine (tPut_new (T3.out.below (below_alloc w3 _) (Nat.le_refl _)) (pts_two w3 4 0 (by decide) (by decide)) rfl (c := 2) 3 (by decide) (by rw [show Tr.entsO (some t3) = t3.ents from rfl, E3.out]; decide +kernel) (by rw [show Tr.entsO (some t3) = t3.ents from rfl, E3.out]; decide +kernel)).mono ?_
  rintro e w4 ⟨n4, t4, rfl, ht4, he4, hb4⟩
  have T4 := Lib.hid ht4
  have E4 : Hid (Tr.entsO (some t4) = exL) := Lib.hid (by rw [show Tr.entsO (some t4) = t4.ents from rfl, he4, show Tr.entsO (some t3) = t3.ents from rfl, E3.out]; exact exL_put)
  have B4 := Lib.hid (Below.andThen B3.out (Below.andThen (below_alloc w3 _) hb4))
  clear ht4 he4 hb4 T3
  go_wp2_with fail
  refine (nTo_c (c := 2) (T4.out.below (below_alloc w4 _) (Nat.le_refl _)) (fun w' hb => ((HT.out.on B4.out).on (below_alloc w4 _)).on hb) (by rw [E4.out]; decide) (pts_two w4 5 5 (by decide) (by decide)) rfl 3 (by decide) (L := near11) (by rw [E4.out]; exact near11_eq)).mono ?_
  rintro e w5 ⟨D, d, rfl, hnew, hb5⟩
  have B5 := Lib.hid (Below.andThen B4.out (Below.andThen (below_alloc w4 _) hb5))
  have hents := hnew.ents
  obtain ⟨gb, go, A0, c0, hD, -, -, v0, -, -, -⟩ := hents.at (i := 0) (e := ([7, 3], 1)) rfl
  obtain ⟨gb', go', A1, c1, hD', -, -, v1, -, -, -⟩ := hents.at (i := 1) (e := ([4, 0], 3)) rfl
  rw [hD] at hD'
  cases hD'
  obtain ⟨gb', go', A2, c2, hD', -, -, v2, -, -, -⟩ := hents.at (i := 2) (e := ([0, 8], 2)) rfl
  rw [hD] at hD'
  cases hD'
  subst hD
  simp only [Nat.zero_mul, Nat.add_zero, Nat.one_mul] at v0 v1 v2
  have hlen : near11.length = 3 := rfl
  clear hnew hents hb5
  simp only [hlen]
  go_wp2_with fail
  go_ret
  exact ⟨rfl, B5.out⟩
end Go.Proofs.YtjcmehplcagejaaGreatDoor

/-
  THE LAW NearGrows.
-/
namespace Go.Proofs.YtjcmehplcagejaaGreatDoor
open Go.ChangeShapes Go.WideShapes Go.ChangeAt Go.RowKit
open Tr (T S4 Ent)

theorem same_n {w : World} {L : List Ent} {A A' : Option Addr} {c c' n : Nat} (h : Ents w w.heap.size A L) (h' : Ents w w.heap.size A' L) (hn : L.length = n) (hl : n ≤ 1000000000) :
    Calls Tryz.prog 27 #[.slice A n c, .slice A' n c'] w fun e w' => e = .returned (.bool true) ∧ Below w.heap.size w w' := by
  subst hn
  exact rsameEnts_c h h' hl
theorem NewR.cap {base : Nat} {w : World} {A : Option Addr} {c : Nat} {L : List Ent} (h : NewR base w A c L) : L.length ≤ c := by
  obtain ⟨A', c', hv, hc⟩ := OwnL.slice h
  simp only [Value.slice.injEq] at hv
  obtain ⟨-, -, rfl⟩ := hv
  exact hc
/-- the first of a list -/
theorem ents_hi (A : Option Addr) (m c i : Nat) (hin : i ≤ m) (hnc : m ≤ c) : ∃ A', (∀ w, (Instr.sliceAt 30 (.slice A m c) none (some (.int .i64 (i : Int))) none).run Tryz.prog w = .ok (.slice A' i c) w) ∧ ∀ (w : World) (L : List Ent), L.length = m → Ents w w.heap.size A L → Ents w w.heap.size A' (L.take i) := by
  obtain ⟨A', h1, -⟩ := lst_hi (α := Ent) (Q := fun _ _ => True) 30 53 Tryz.underlying30 infoE2 A m c i hin hnc
  refine ⟨A', h1, fun w L hL hE => ?_⟩
  obtain ⟨A2, h2, h3⟩ := lst_hi (α := Ent) (Q := EntQ w w.heap.size) 30 53 Tryz.underlying30 infoE2 A m c i hin hnc
  have he := (h1 w).symm.trans (h2 w)
  simp only [Result.ok.injEq, Value.slice.injEq, and_true] at he
  rw [he]
  exact h3 w w.heap.size L hL hE
end Go.Proofs.YtjcmehplcagejaaGreatDoor
