/-
  CONTRACTS of package node, fifth part: put.
-/
import Derived.Test.YtgplbbmenmbaaaaTn3
import Derived.Test.YtgplbbmenmbaaaaS9n
import Derived.Test.YtgplbbmenmbaaaaS5n
namespace Go.Proofs.Ytgplbbmenmbaaaa
open Go.ChangeShapes Go.WideShapes Go.ChangeAt Go.RowKit
open Tr (T S4)

theorem sAll_n {w : World} {B b k : Nat} {L : Sn.Al} {d : Bool} (wf : Sl.Wf k L) (h : Sn.Rp w B b k L d) (hB : B ≤ w.heap.size) :
    Calls Try.prog 49 #[.pointer (some ⟨b, 0, none⟩)] w fun e w' => ∃ A c, e = .returned (.slice A (Sl.things L).length c) ∧ RdV w' w'.heap.size A (Sn.elV (Sl.things L)) ∧ Below w.heap.size w w' := by
  refine (Sn.sAll_c wf h hB).mono ?_
  rintro e w' ⟨v, rfl, ho, hb⟩
  obtain ⟨A, c, hv, -, hr⟩ := ho.rd
  rw [Sn.elV_length] at hv
  subst hv
  exact ⟨A, c, rfl, hr, hb⟩
set_option maxRecDepth 100000 in
set_option maxHeartbeats 2000000 in
theorem nput_new {w : World} {B g b h l k : Nat} {pre prek : List Nat} {v vk : Nat} {s sk : S4} {levk : Int} {kpk : Option Addr} {L : Sn.Al} (hn : NdAt w B g (l : Int) pre v (some ⟨b, 0, none⟩) s) (ha : Sn.At w B b k L)
    (hk : NdAt w B h levk prek vk kpk sk) (hB : B ≤ w.heap.size) (hlen : prek.length = k) (hl : l ≤ 63) (hg : Sl.get L (Z.addr prek l : Int) = none) (hs : sk.c ≠ 0) (hc : s.c + sk.c < 18446744073709551616) :
    Calls Try.prog 24 #[.pointer (some ⟨g, 0, none⟩), .pointer (some ⟨h, 0, none⟩)] w fun e w' =>
      ∃ g' b', e = .returned (.pointer (some ⟨g', 0, none⟩)) ∧ NdAt w' w'.heap.size g' (l : Int) pre 0 (some ⟨b', 0, none⟩) (Tr.tog s sk) ∧ Sn.At w' w'.heap.size b' k (Sl.put (Z.addr prek l) (some ⟨h, 0, none⟩) L) ∧ w.heap.size ≤ g' ∧ Below w.heap.size w w' := by
  have hgw : g < w.heap.size := Nat.lt_of_lt_of_le hn.1 hB
  have hhw : h < w.heap.size := Nat.lt_of_lt_of_le hk.1 hB
  obtain ⟨-, -, n0, -, n3, n4, n5, n6, n7⟩ := id hn
  obtain ⟨-, ⟨Ak, ck, hpk, k1⟩, -, -, -, k4, k5, k6, k7⟩ := id hk
  obtain ⟨a, hadr⟩ : ∃ a, Z.addr prek l = a := ⟨_, rfl⟩
  have hak : a < 2 ^ k := by rw [← hadr, ← hlen]; exact Z.addr_bound prek l
  have HA : Hid (∀ n, Calls Try.prog 43 #[.slice Ak prek.length ck, .int .i64 (l : Int)] (w.drewN n) fun e w' => e = .returned (.tuple #[.int .i64 (a : Int), .int .i64 0]) ∧ w.drewN n = w') := Lib.hid fun n => by rw [← hadr]; exact addr_yes Ak ck prek l B (w.drewN n) hpk (by have := ha.1.k1; omega) (by have := ha.1.k16; omega) hl
  rw [hadr] at hg ⊢
  have HN := Lib.hid (And.intro hn (And.intro ha (And.intro hg (And.intro hak hs))))
  have HC := Lib.hid hc
  have HL : Hid ((Sl.put a (some ⟨h, 0, none⟩) L).length = L.length + 1) := Lib.hid (by rw [Sl.length_put ha.1.srt]; simp [Sl.has, hg])
  have hLl := ha.1.len16
  clear hn ha hk hg hpk hadr hak hs hc hlen
  go_enter Try.func24, Try.ntmps24
  go_wp2_with fail
  go_quiet ((go_at_call 43; exact Calls.quiet_of_same ((HA.out _).mono fun e w' h => ⟨h.1, h.2.symm⟩)))
  go_wp2_with fail
  refine (Sn.sPut_c (HN.out.2.1.below (below_drewN _ (Below.refl w.heap.size w)) hB (Nat.le_refl _)) (show B ≤ _ from hB) a HN.out.2.2.2.1 (some ⟨h, 0, none⟩)).mono ?_
  rintro e w2 ⟨b2, rfl, hat2, hb2⟩
  have hb2' : Below w.heap.size w w2 := Below.trans (below_drewN _ (Below.refl w.heap.size w)) hb2
  have m3 : ∀ w', Below w.heap.size w w' → w'.cell? ⟨g, 3, none⟩ = some (.pointer (some ⟨b, 0, none⟩)) := fun w' hb => (hb.cell (p := ⟨g, 3, none⟩) hgw).trans n3
  have e3 := m3 w2 hb2'
  have H2 := Lib.hid hat2
  have HB2 := Lib.hid hb2'
  have hs2 := hb2'.size
  have HLn : Hid (∀ n, Calls Try.prog 45 #[.pointer (some ⟨b2, 0, none⟩)] (w2.drewN n) fun e w' => e = .returned (.int .i64 ((L.length : Int) + 1)) ∧ w2.drewN n = w') := Lib.hid fun n => by
    have h1 := Sn.sLen_c (w := w2.drewN n) hat2.1 (hat2.2.below (below_drewN n (Below.refl _ _)) (Nat.le_refl _) (Nat.le_refl _))
    rw [HL.out] at h1
    exact h1
  have HLo : Hid (∀ n, Calls Try.prog 45 #[.pointer (some ⟨b, 0, none⟩)] (w2.drewN n) fun e w' => e = .returned (.int .i64 (L.length : Int)) ∧ w2.drewN n = w') := Lib.hid fun n =>
    Sn.sLen_c (w := w2.drewN n) HN.out.2.1.1 (HN.out.2.1.2.below (below_drewN n hb2') hB (Nat.le_refl _))
  clear hat2 hb2 hb2' m3 n3 n0 k1
  go_wp2_with fail
  go_quiet ((first
    | (go_at_call 45; with_reducible (exact Calls.quiet_of_same ((HLn.out _).mono fun e w' h => ⟨h.1, h.2.symm⟩)))
    | (go_at_call 45; with_reducible (exact Calls.quiet_of_same ((HLo.out _).mono fun e w' h => ⟨h.1, h.2.symm⟩)))))
  have q4 : ∀ w', Below w2.heap.size w2 w' → w'.cell? ⟨g, 4, none⟩ = some (.int .u64 (s.c : Int)) := fun w' hb => ((HB2.out.trans (hb.mono hs2)).cell (p := ⟨g, 4, none⟩) hgw).trans n4
  have q5 : ∀ w', Below w2.heap.size w2 w' → w'.cell? ⟨g, 5, none⟩ = some (.int .u64 (s.s : Int)) := fun w' hb => ((HB2.out.trans (hb.mono hs2)).cell (p := ⟨g, 5, none⟩) hgw).trans n5
  have q6 : ∀ w', Below w2.heap.size w2 w' → w'.cell? ⟨g, 6, none⟩ = some (.int .u64 (s.lo : Int)) := fun w' hb => ((HB2.out.trans (hb.mono hs2)).cell (p := ⟨g, 6, none⟩) hgw).trans n6
  have q7 : ∀ w', Below w2.heap.size w2 w' → w'.cell? ⟨g, 7, none⟩ = some (.int .u64 (s.hi : Int)) := fun w' hb => ((HB2.out.trans (hb.mono hs2)).cell (p := ⟨g, 7, none⟩) hgw).trans n7
  have r4 : ∀ w', Below w2.heap.size w2 w' → w'.cell? ⟨h, 4, none⟩ = some (.int .u64 (sk.c : Int)) := fun w' hb => ((HB2.out.trans (hb.mono hs2)).cell (p := ⟨h, 4, none⟩) hhw).trans k4
  have r5 : ∀ w', Below w2.heap.size w2 w' → w'.cell? ⟨h, 5, none⟩ = some (.int .u64 (sk.s : Int)) := fun w' hb => ((HB2.out.trans (hb.mono hs2)).cell (p := ⟨h, 5, none⟩) hhw).trans k5
  have r6 : ∀ w', Below w2.heap.size w2 w' → w'.cell? ⟨h, 6, none⟩ = some (.int .u64 (sk.lo : Int)) := fun w' hb => ((HB2.out.trans (hb.mono hs2)).cell (p := ⟨h, 6, none⟩) hhw).trans k6
  have r7 : ∀ w', Below w2.heap.size w2 w' → w'.cell? ⟨h, 7, none⟩ = some (.int .u64 (sk.hi : Int)) := fun w' hb => ((HB2.out.trans (hb.mono hs2)).cell (p := ⟨h, 7, none⟩) hhw).trans k7
  clear n4 n5 n6 n7 k4 k5 k6 k7 e3
  have d1 : decide ((L.length : Int) < (L.length : Int) + 1) = true := decide_eq_true (by omega)
  go_wp2_with fail
  clear d1
  have hbq : Below w2.heap.size w2 (w2.drewN nq) := below_drewN nq (Below.refl _ _)
  go_region_held3 (fun w' => Below w2.heap.size w2 w') (((repeat (first | refine Below.drew ?_ | (with_reducible refine below_drewN _ ?_) | refine Below.alloc ?_ (by first | omega | (simp; done) | (simp; omega)) _ | refine Below.setCell ?_ (by first | omega | (simp; done) | (simp; omega)) _)); first | exact Below.refl _ _ | assumption | exact below_drewN _ (Below.refl _ _) | exact below_drewN _ (below_drewN _ (Below.refl _ _))))
    ((first
      | (go_at_call 47; refine (together_c s sk _ HN.out.2.2.2.2 HC.out).mono ?_; rintro e w3 ⟨rfl, hb3⟩; have hB3 := Below.trans (show Below w2.heap.size w2 _ by ((repeat (first | refine Below.drew ?_ | (with_reducible refine below_drewN _ ?_) | refine Below.alloc ?_ (by first | omega | (simp; done) | (simp; omega)) _ | refine Below.setCell ?_ (by first | omega | (simp; done) | (simp; omega)) _)); first | exact Below.refl _ _ | assumption | exact below_drewN _ (Below.refl _ _) | exact below_drewN _ (below_drewN _ (Below.refl _ _)))) (hb3.mono (Below.size (show Below w2.heap.size w2 _ by ((repeat (first | refine Below.drew ?_ | (with_reducible refine below_drewN _ ?_) | refine Below.alloc ?_ (by first | omega | (simp; done) | (simp; omega)) _ | refine Below.setCell ?_ (by first | omega | (simp; done) | (simp; omega)) _)); first | exact Below.refl _ _ | assumption | exact below_drewN _ (Below.refl _ _) | exact below_drewN _ (below_drewN _ (Below.refl _ _)))))); clear hb3)
      | (go_at_call 46; refine (having_c (HN.out.1.below (HB2.out.trans (Below.mono (show Below w2.heap.size w2 _ by ((repeat (first | refine Below.drew ?_ | (with_reducible refine below_drewN _ ?_) | refine Below.alloc ?_ (by first | omega | (simp; done) | (simp; omega)) _ | refine Below.setCell ?_ (by first | omega | (simp; done) | (simp; omega)) _)); first | exact Below.refl _ _ | assumption | exact below_drewN _ (Below.refl _ _) | exact below_drewN _ (below_drewN _ (Below.refl _ _)))) hs2)) hB (Nat.le_refl _)) (Nat.le_trans hB (Below.size (HB2.out.trans (Below.mono (show Below w2.heap.size w2 _ by ((repeat (first | refine Below.drew ?_ | (with_reducible refine below_drewN _ ?_) | refine Below.alloc ?_ (by first | omega | (simp; done) | (simp; omega)) _ | refine Below.setCell ?_ (by first | omega | (simp; done) | (simp; omega)) _)); first | exact Below.refl _ _ | assumption | exact below_drewN _ (Below.refl _ _) | exact below_drewN _ (below_drewN _ (Below.refl _ _)))) hs2)))) (some ⟨b2, 0, none⟩) (Tr.tog s sk)).mono ?_; rintro e w4 ⟨g', rfl, hnd, hg4, hb4⟩; have hg4 := Nat.le_trans (Nat.le_trans hs2 (Below.size (show Below w2.heap.size w2 _ by ((repeat (first | refine Below.drew ?_ | (with_reducible refine below_drewN _ ?_) | refine Below.alloc ?_ (by first | omega | (simp; done) | (simp; omega)) _ | refine Below.setCell ?_ (by first | omega | (simp; done) | (simp; omega)) _)); first | exact Below.refl _ _ | assumption | exact below_drewN _ (Below.refl _ _) | exact below_drewN _ (below_drewN _ (Below.refl _ _)))))) hg4; have hB4 := Below.trans (show Below w2.heap.size w2 _ by ((repeat (first | refine Below.drew ?_ | (with_reducible refine below_drewN _ ?_) | refine Below.alloc ?_ (by first | omega | (simp; done) | (simp; omega)) _ | refine Below.setCell ?_ (by first | omega | (simp; done) | (simp; omega)) _)); first | exact Below.refl _ _ | assumption | exact below_drewN _ (Below.refl _ _) | exact below_drewN _ (below_drewN _ (Below.refl _ _)))) (hb4.mono (Below.size (show Below w2.heap.size w2 _ by ((repeat (first | refine Below.drew ?_ | (with_reducible refine below_drewN _ ?_) | refine Below.alloc ?_ (by first | omega | (simp; done) | (simp; omega)) _ | refine Below.setCell ?_ (by first | omega | (simp; done) | (simp; omega)) _)); first | exact Below.refl _ _ | assumption | exact below_drewN _ (Below.refl _ _) | exact below_drewN _ (below_drewN _ (Below.refl _ _)))))); clear hb4; have HG := Lib.hid hnd; clear hnd)))
  clear q4 q5 q6 q7 r4 r5 r6 r7
  go_wp2_with fail
  go_ret
  exact ⟨g', b2, rfl, HG.out, H2.out.below hB4 (Nat.le_refl _) hB4.size, hg4, HB2.out.trans (hB4.mono hs2)⟩
theorem SumsAt.up {w : World} {B B' : Nat} {xs : List (Option Addr)} {ss : List S4} (h : SumsAt w B xs ss) (hB : B ≤ B') : SumsAt w B' xs ss :=
  ⟨h.1, fun i s hs => by obtain ⟨h0, g, h1, h2, h3⟩ := h.2 i s hs; exact ⟨h0, g, h1, by omega, h3⟩⟩
set_option maxRecDepth 100000 in
set_option maxHeartbeats 2000000 in
theorem nput_old {w : World} {B g b h l k : Nat} {pre prek : List Nat} {v vk : Nat} {s sk : S4} {ss : List S4} {u : Option Addr} {levk : Int} {kpk : Option Addr} {L : Sn.Al} (hn : NdAt w B g (l : Int) pre v (some ⟨b, 0, none⟩) s) (ha : Sn.At w B b k L)
    (hk : NdAt w B h levk prek vk kpk sk) (hB : B ≤ w.heap.size) (hlen : prek.length = k) (hl : l ≤ 63) (hg : Sl.get L (Z.addr prek l : Int) = some u) (hs : SumsAt w B (Sl.things (Sl.put (Z.addr prek l) (some ⟨h, 0, none⟩) L)) ss) (hc : (togF ss).c < 18446744073709551616) :
    Calls Try.prog 24 #[.pointer (some ⟨g, 0, none⟩), .pointer (some ⟨h, 0, none⟩)] w fun e w' =>
      ∃ g' b', e = .returned (.pointer (some ⟨g', 0, none⟩)) ∧ NdAt w' w'.heap.size g' (l : Int) pre 0 (some ⟨b', 0, none⟩) (togF ss) ∧ Sn.At w' w'.heap.size b' k (Sl.put (Z.addr prek l) (some ⟨h, 0, none⟩) L) ∧ w.heap.size ≤ g' ∧ Below w.heap.size w w' := by
  have hgw : g < w.heap.size := Nat.lt_of_lt_of_le hn.1 hB
  have hhw : h < w.heap.size := Nat.lt_of_lt_of_le hk.1 hB
  obtain ⟨-, -, n0, -, n3, n4, n5, n6, n7⟩ := id hn
  obtain ⟨-, ⟨Ak, ck, hpk, k1⟩, -, -, -, k4, k5, k6, k7⟩ := id hk
  obtain ⟨a, hadr⟩ : ∃ a, Z.addr prek l = a := ⟨_, rfl⟩
  have hak : a < 2 ^ k := by rw [← hadr, ← hlen]; exact Z.addr_bound prek l
  have HA : Hid (∀ n, Calls Try.prog 43 #[.slice Ak prek.length ck, .int .i64 (l : Int)] (w.drewN n) fun e w' => e = .returned (.tuple #[.int .i64 (a : Int), .int .i64 0]) ∧ w.drewN n = w') := Lib.hid fun n => by rw [← hadr]; exact addr_yes Ak ck prek l B (w.drewN n) hpk (by have := ha.1.k1; omega) (by have := ha.1.k16; omega) hl
  rw [hadr] at hg hs ⊢
  have HN := Lib.hid (And.intro hn (And.intro ha (And.intro hg (And.intro hak hs))))
  have HC := Lib.hid hc
  have HL : Hid ((Sl.put a (some ⟨h, 0, none⟩) L).length = L.length) := Lib.hid (by rw [Sl.length_put ha.1.srt]; simp [Sl.has, hg])
  have hLl := ha.1.len16
  clear hn ha hk hg hpk hadr hak hs hc hlen
  go_enter Try.func24, Try.ntmps24
  go_wp2_with fail
  go_quiet ((go_at_call 43; exact Calls.quiet_of_same ((HA.out _).mono fun e w' h => ⟨h.1, h.2.symm⟩)))
  go_wp2_with fail
  refine (Sn.sPut_c (HN.out.2.1.below (below_drewN _ (Below.refl w.heap.size w)) hB (Nat.le_refl _)) (show B ≤ _ from hB) a HN.out.2.2.2.1 (some ⟨h, 0, none⟩)).mono ?_
  rintro e w2 ⟨b2, rfl, hat2, hb2⟩
  have hb2' : Below w.heap.size w w2 := Below.trans (below_drewN _ (Below.refl w.heap.size w)) hb2
  have m3 : ∀ w', Below w.heap.size w w' → w'.cell? ⟨g, 3, none⟩ = some (.pointer (some ⟨b, 0, none⟩)) := fun w' hb => (hb.cell (p := ⟨g, 3, none⟩) hgw).trans n3
  have e3 := m3 w2 hb2'
  have H2 := Lib.hid hat2
  have HB2 := Lib.hid hb2'
  have hs2 := hb2'.size
  have HLn : Hid (∀ n, Calls Try.prog 45 #[.pointer (some ⟨b2, 0, none⟩)] (w2.drewN n) fun e w' => e = .returned (.int .i64 (L.length : Int)) ∧ w2.drewN n = w') := Lib.hid fun n => by
    have h1 := Sn.sLen_c (w := w2.drewN n) hat2.1 (hat2.2.below (below_drewN n (Below.refl _ _)) (Nat.le_refl _) (Nat.le_refl _))
    rw [HL.out] at h1
    exact h1
  have HLo : Hid (∀ n, Calls Try.prog 45 #[.pointer (some ⟨b, 0, none⟩)] (w2.drewN n) fun e w' => e = .returned (.int .i64 (L.length : Int)) ∧ w2.drewN n = w') := Lib.hid fun n =>
    Sn.sLen_c (w := w2.drewN n) HN.out.2.1.1 (HN.out.2.1.2.below (below_drewN n hb2') hB (Nat.le_refl _))
  clear hat2 hb2 hb2' m3 n3 n0 k1
  go_wp2_with fail
  go_quiet ((first
    | (go_at_call 45; with_reducible (exact Calls.quiet_of_same ((HLn.out _).mono fun e w' h => ⟨h.1, h.2.symm⟩)))
    | (go_at_call 45; with_reducible (exact Calls.quiet_of_same ((HLo.out _).mono fun e w' h => ⟨h.1, h.2.symm⟩)))))
  clear n4 n5 n6 n7 k4 k5 k6 k7 e3
  have d1 : decide ((L.length : Int) < (L.length : Int)) = false := decide_eq_false (by omega)
  have hbq : Below w2.heap.size w2 (w2.drewN nq) := below_drewN nq (Below.refl _ _)
  have HBq := Lib.hid hbq
  clear hbq
  go_wp2_with fail
  refine (sAll_n H2.out.1 (H2.out.2.below HBq.out (Nat.le_refl _) (Nat.le_refl _)) (show w2.heap.size ≤ _ from HBq.out.size)).mono ?_
  rintro e w3 ⟨A3, c3, rfl, hr3, hb3⟩
  have HB3 := Lib.hid (HBq.out.trans (hb3.mono HBq.out.size))
  have H3 := Lib.hid hr3
  clear hr3 hb3
  go_wp2_with fail
  refine (sumsOf_c (ss := ss) H3.out ((HN.out.2.2.2.2.below (HB2.out.trans (HB3.out.mono hs2)) hB).up (Nat.le_trans hB (HB2.out.trans (HB3.out.mono hs2)).size)) (Nat.le_refl _) HC.out (by rw [Sl.things_length, HL.out]; unfold maxLen; omega)).mono ?_
  rintro e w4 ⟨rfl, hb4⟩
  have HB4 := Lib.hid (HB3.out.trans (hb4.mono HB3.out.size))
  clear hb4
  go_wp2_with fail
  refine (having_c (HN.out.1.below (HB2.out.trans (HB4.out.mono hs2)) hB (Nat.le_refl _)) (Nat.le_trans hB (Below.size (HB2.out.trans (HB4.out.mono hs2)))) (some ⟨b2, 0, none⟩) (togF ss)).mono ?_
  rintro e w5 ⟨g', rfl, hnd, hg5, hb5⟩
  have hg5 := Nat.le_trans (HB2.out.trans (HB4.out.mono hs2)).size hg5
  have HG := Lib.hid hnd
  have HB5 := Lib.hid (HB4.out.trans (hb5.mono HB4.out.size))
  clear hnd hb5
  go_wp2_with fail
  go_ret
  exact ⟨g', b2, rfl, HG.out, H2.out.below HB5.out (Nat.le_refl _) HB5.out.size, hg5, HB2.out.trans (HB5.out.mono hs2)⟩
end Go.Proofs.Ytgplbbmenmbaaaa
