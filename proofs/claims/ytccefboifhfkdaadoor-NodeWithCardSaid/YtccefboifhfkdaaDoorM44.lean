import Derived.Test.YtccefboifhfkdaaDoorM43
import Derived.Test.YtccefboifhfkdaaDoorM16
/-
  THE LAW NodeWith, second part: from the pair of the first two to the loop. Laid by wip/gen19.py. IN WORK.
-/
namespace Go.Proofs.YtccefboifhfkdaaDoor
open Go.ChangeShapes Go.WideShapes Go.ChangeAt Go.RowKit
open Tr (T S4 Ent)

/-- two entries side by side in a new block -/
theorem ents_two {w W : World} {b : Nat} {P0 P1 : Option Addr} {p0c p1c : Nat} {e0 e1 : Ent} (hs : b < W.heap.size)
    (h : W.heap[b]? = some (.cells #[.slice P0 e0.1.length p0c, .int .u64 (e0.2 : Int), .slice P1 e1.1.length p1c, .int .u64 (e1.2 : Int)] 31 (0, 0)))
    (hb : Below w.heap.size w W) (hp0 : Pts w w.heap.size P0 e0.1) (hp1 : Pts w w.heap.size P1 e1.1) (h0 : e0.1.length ≤ maxLen ∧ e0.2 < 18446744073709551616) (h1 : e1.1.length ≤ maxLen ∧ e1.2 < 18446744073709551616) :
    Ents W W.heap.size (some ⟨b, 0, none⟩) [e0, e1] := by
  have q0 : Pts W W.heap.size P0 e0.1 := (hp0.below' hb (Nat.le_refl _)).keep hb.size (fun _ _ => rfl)
  have q1 : Pts W W.heap.size P1 e1.1 := (hp1.below' hb (Nat.le_refl _)).keep hb.size (fun _ _ => rfl)
  intro _
  refine ⟨b, 0, rfl, hs, fun i e he => ?_⟩
  match i with
  | 0 =>
    simp only [List.getElem?_cons_zero, Option.some.injEq] at he
    subst he
    refine ⟨P0, p0c, ?_, ?_, q0, h0.1, h0.2⟩
    · show W.cell? ⟨b, 0, none⟩ = _
      rw [cell_of_row W b _ _ _ (0, 0) h]; rfl
    · show W.cell? ⟨b, 1, none⟩ = _
      rw [cell_of_row W b _ _ _ (0, 0) h]; rfl
  | 1 =>
    simp only [List.getElem?_cons_succ, List.getElem?_cons_zero, Option.some.injEq] at he
    subst he
    refine ⟨P1, p1c, ?_, ?_, q1, h1.1, h1.2⟩
    · show W.cell? ⟨b, 2, none⟩ = _
      rw [cell_of_row W b _ _ _ (0, 0) h]; rfl
    · show W.cell? ⟨b, 3, none⟩ = _
      rw [cell_of_row W b _ _ _ (0, 0) h]; rfl
  | i + 2 => simp at he
/-- entries, seen from behind an allocation -/
theorem lst_past {w w' : World} {B : Nat} {A : Option Addr} {L : List Ent} (h : Ents w B A L) (hb : Below B w w') : Lst 2 (EntQ w B) w' B A L := by
  intro hn
  obtain ⟨b, off, hA, hlt, hq⟩ := h hn
  refine ⟨b, off, hA, hlt, fun i a ha => ?_⟩
  have h1 := hq i a ha
  rw [show (fun j => w'.cell? ⟨b, off + i * 2 + j, none⟩) = fun j => w.cell? ⟨b, off + i * 2 + j, none⟩ from funext fun j => hb.cell (p := ⟨b, off + i * 2 + j, none⟩) hlt]
  exact h1
theorem partW_lv {p q : List Nat} (h : p.length = q.length) (hp : Z.Ok p) (hq : Z.Ok q) (hne : p ≠ q) : ∃ l : Nat, Z.part p q = (l : Int) ∧ l ≤ 63 ∧ Z.addr p l ≠ Z.addr q l := by
  rcases Z.part_spec h hp hq with ⟨_, e⟩ | ⟨l, hl, e, hd, _⟩
  · exact absurd e hne
  · exact ⟨l, e, by omega, hd⟩
/-- the kids of a pair of two leaves -/
def ks2 (l g0 g1 : Nat) (e0 e1 : Ent) : List (Nat × T) := Sl.put (Z.addr e1.1 l) (T.ent g1 e1.1 e1.2) (Sl.put (Z.addr e0.1 l) (T.ent g0 e0.1 e0.2) [])
theorem ks2_flat (l g0 g1 : Nat) (e0 e1 : Ent) : FlatT (ks2 l g0 g1 e0 e1) := flat_put (flat_put (fun x hx => by cases hx) _ _ _ _) _ _ _ _
theorem ks2_perm {l g0 g1 : Nat} {e0 e1 : Ent} (h : Z.addr e0.1 l ≠ Z.addr e1.1 l) : [e0, e1].Perm (Tr.entsL (ks2 l g0 g1 e0 e1)) := by
  have h1 := put_perm (a := Z.addr e1.1 l) (g := g1) (p := e1.1) (v := e1.2) (ks := [(Z.addr e0.1 l, T.ent g0 e0.1 e0.2)]) (List.pairwise_singleton _ _)
  rw [Sl.del, if_neg h, Sl.del, Tr.entsL_cons, Tr.ents_ent] at h1
  exact h1.symm
/-- what holds at each round: the node, its kids, the list of them -/
structure WithI (w wr : World) (k l : Nat) (pre : List Nat) (A : Option Addr) (c g : Nat) (M : List Ent) (ks : List (Nat × T)) : Prop where
  below : Below w.heap.size w wr
  node : Node wr wr.heap.size k (.br g l pre ks)
  flat : FlatT ks
  perm : M.Perm (Tr.entsL ks)
  ents : Ents wr wr.heap.size A M
  cap : M.length ≤ c
theorem WithI.step {w wr w' : World} {k l : Nat} {pre : List Nat} {A : Option Addr} {c g : Nat} {M : List Ent} {ks : List (Nat × T)} (h : WithI w wr k l pre A c g M ks) (hb : Below wr.heap.size wr w') : WithI w w' k l pre A c g M ks :=
  ⟨Below.andThen h.below hb, h.node.below hb (Nat.le_refl _) hb.size, h.flat, h.perm, h.ents.below hb (Nat.le_refl _) hb.size, h.cap⟩
set_option maxRecDepth 100000 in
set_option maxHeartbeats 2000000 in
theorem nodeWith_go {w : World} {A : Option Addr} {c : Nat} {a : Int} {L : List Ent} (h : Ents w w.heap.size A L) (hh : heavyW 30 L = false) (hl3 : L.length ≤ 30) (hl2 : 2 ≤ L.length) (hT : Tz w) (hcap : L.length ≤ c) (hall : ∀ e ∈ L, 1 ≤ e.1.length ∧ e.1.length ≤ 16) (hk : ∀ (e0 e1 : Ent), L[0]? = some e0 → L[1]? = some e1 → e0.1.length = e1.1.length) (hne : ∀ (e0 e1 : Ent), L[0]? = some e0 → L[1]? = some e1 → e0.1 ≠ e1.1) :
    Calls Tryd.prog 3 #[.slice A L.length c, .int .i64 a] w fun e w' => e = .returned (.bool true) ∧ Below w.heap.size w w' := by
  have hlm : L.length ≤ 1000 := by have := hl3; omega
  have HX := Lib.hid (And.intro h (And.intro hh (And.intro hl3 hl2)))
  have HH : Hid (∀ w1, Below w.heap.size w w1 → Calls Tryd.prog 7 #[.slice A L.length c, .int .i64 30] w1 fun e w' => e = .returned (.bool false) ∧ w1 = w') := Lib.hid fun w1 hb1 => rheavy_c (HX.out.1.below hb1 (Nat.le_refl _) (Nat.le_refl _)) (by unfold maxLen; omega) 30 _ hh
  have HV : Hid (∀ w1, Below w.heap.size w w1 → Calls Tryd.prog 8 #[.slice A L.length c] w1 fun e w' => (((∃ e ∈ L, ¬ (1 ≤ e.1.length ∧ e.1.length ≤ 16)) ∧ e = .returned (.tuple #[.slice none 0 0, .bool false])) ∨
       ((∀ e ∈ L, 1 ≤ e.1.length ∧ e.1.length ≤ 16) ∧ ∃ D d ls, e = .returned (.tuple #[.slice D L.length d, .bool true]) ∧ OwnV 33 w' w1.heap.size (.slice D L.length d) (ptrsV ls) ∧ AllLeaves w' w'.heap.size L ls)) ∧ Below w1.heap.size w1 w') := Lib.hid fun w1 hb1 => leaves_c (HX.out.1.below hb1 (Nat.le_refl _) (Nat.le_refl _)) hb1.size hlm
  have d1 : decide ((L.length : Int) < 2) = false := decide_eq_false (by omega)
  have d1' : decide (L.length < 2) = false := decide_eq_false (by omega)
  obtain ⟨e0, he0⟩ := get_lt (us := L) (k := 0) (by omega)
  obtain ⟨e1, he1⟩ := get_lt (us := L) (k := 1) (by omega)
  obtain ⟨b, off, P0, p0c, hA, hb, x0, v0, pp0, pl0, ph0⟩ := h.at he0
  subst hA
  obtain ⟨b', off', P1, p1c, hA', -, x1, v1, pp1, pl1, ph1⟩ := h.at he1
  simp only [Option.some.injEq, Addr.mk.injEq, and_true] at hA'
  obtain ⟨rfl, rfl⟩ := hA'
  rw [Nat.zero_mul, Nat.add_zero] at x0 v0
  rw [Nat.one_mul] at x1 v1
  have HE := Lib.hid (And.intro he0 he1)
  have y0 : ∀ w', Below w.heap.size w w' → w'.cell? ⟨b, off, none⟩ = some (.slice P0 e0.1.length p0c) := fun w' hb' => (hb'.cell (p := ⟨b, off, none⟩) hb).trans x0
  have y1 : ∀ w', Below w.heap.size w w' → w'.cell? ⟨b, off + 2, none⟩ = some (.slice P1 e1.1.length p1c) := fun w' hb' => (hb'.cell (p := ⟨b, off + 2, none⟩) hb).trans x1
  have u0 : ∀ w', Below w.heap.size w w' → w'.cell? ⟨b, off + 1, none⟩ = some (.int .u64 (e0.2 : Int)) := fun w' hb' => (hb'.cell (p := ⟨b, off + 1, none⟩) hb).trans v0
  have u1 : ∀ w', Below w.heap.size w w' → w'.cell? ⟨b, off + 2 + 1, none⟩ = some (.int .u64 (e1.2 : Int)) := fun w' hb' => (hb'.cell (p := ⟨b, off + 2 + 1, none⟩) hb).trans v1
  have HPP := Lib.hid (And.intro pp0 pp1)
  have HA := Lib.hid (hall e0 (List.mem_of_getElem? he0))
  have HALL := Lib.hid hall
  have m0 : (0 : Int) < (L.length : Int) := by omega
  have m1 : (1 : Int) < (L.length : Int) := by omega
  have m0' : 0 < L.length := by omega
  have m1' : 1 < L.length := by omega
  have hk01 := hk e0 e1 he0 he1
  have hne01 := hne e0 e1 he0 he1
  obtain ⟨l, hpart, h63, hadr⟩ := partW_lv hk01 pp0.1 pp1.1 hne01
  have n1 : ((e0.1.length : Int) != (e1.1.length : Int)) = false := by rw [hk01]; simp
  have HSAME : Hid (∀ w1, Below w.heap.size w w1 → Calls Tryd.prog 9 #[.slice P0 e0.1.length p0c, .slice P1 e1.1.length p1c] w1 fun e w' => e = .returned (.bool false) ∧ Below w1.heap.size w1 w') := Lib.hid fun w1 hb1 =>
    (rsame_c P0 P1 p0c p1c e0.1 e1.1 w.heap.size w1 (HPP.out.1.below' hb1 (Nat.le_refl _)) (HPP.out.2.below' hb1 (Nat.le_refl _)) hb1.size (by have := HA.out.2; unfold maxLen; omega)).mono fun _ _ ⟨he, hw⟩ => ⟨by rw [he, decide_eq_false hne01], hw⟩
  have HPAIR : Hid (∀ (w1 wx : World), Below wx.heap.size wx w1 → ∀ g0 g1, Node w1 wx.heap.size e0.1.length (.ent g0 e0.1 e0.2) → Node w1 wx.heap.size e1.1.length (.ent g1 e1.1 e1.2) → Calls Tryd.prog 10 #[.pointer (some ⟨g0, 0, none⟩), .pointer (some ⟨g1, 0, none⟩)] w1 fun e w' => ∃ g', e = .returned (.tuple #[.pointer (some ⟨g', 0, none⟩), .int .i64 0]) ∧ Node w' w'.heap.size e0.1.length (.br g' l (Z.cut e0.1 (l + 1)) (ks2 l g0 g1 e0 e1)) ∧ Below w1.heap.size w1 w') := Lib.hid fun w1 wx hbx g0 g1 k0 k1 => by
    rw [← hk01] at k1
    refine (nPair_c (l := l) k0 k1 hbx.size hpart (Nat.zero_le _) (Nat.zero_le _) (by rw [Tr.ents_ent, Tr.ents_ent]; simp only [List.length_cons, List.length_nil]; omega)).mono ?_
    rintro e w' ⟨g', he, hn, -, hb⟩
    exact ⟨g', he, hn, hb⟩
  have HF := Lib.hid (And.intro (And.intro pl0 ph0) (And.intro pl1 ph1))
  have HL := Lib.hid (And.intro hpart (And.intro h63 (And.intro hk01 (And.intro hne01 (And.intro hadr (And.intro hh (And.intro hl3 (And.intro hl2 hcap))))))))
  have HTZ := Lib.hid hT
  clear hT h hh hall hne hk he0 he1 x0 x1 v0 v1 pp0 pp1 pl0 pl1 ph0 ph1 hne01 hk01 hpart h63 hadr hcap
  go_enter Tryd.func3, Tryd.ntmps3
  go_wp2_with fail
  refine (awake6_c w).mono ?_
  rintro e w1 ⟨rfl, hb1⟩
  have B1 := Lib.hid hb1
  clear hb1
  go_wp2_with fail
  refine (HH.out w1 B1.out).mono ?_
  rintro e w' ⟨rfl, rfl⟩
  go_wp2_with fail
  refine (HV.out w1 B1.out).mono ?_
  rintro e w2 ⟨⟨⟨e, he, hn⟩, -⟩ | ⟨-, D, d, ls, rfl, hown, hal⟩, hb2⟩
  · exact absurd (HALL.out e he) hn
  obtain ⟨t0, ht0⟩ := get_lt (us := ls) (k := 0) (by rw [hal.1]; omega)
  obtain ⟨t1, ht1⟩ := get_lt (us := ls) (k := 1) (by rw [hal.1]; omega)
  obtain ⟨g0, rfl, hn0⟩ := hal.2 0 e0 t0 HE.out.1 ht0
  obtain ⟨g1, rfl, hn1⟩ := hal.2 1 e1 t1 HE.out.2 ht1
  obtain ⟨pb, po, hD, hpb, z0⟩ := (OwnV.rd_at hown).at (i := 0) (v := .pointer (some ⟨g0, 0, none⟩)) (by simp [ptrsV, ht0, ndV, T.blk])
  obtain ⟨pb', po', hD', -, z1⟩ := (OwnV.rd_at hown).at (i := 1) (v := .pointer (some ⟨g1, 0, none⟩)) (by simp [ptrsV, ht1, ndV, T.blk])
  subst hD
  simp only [Option.some.injEq, Addr.mk.injEq, and_true] at hD'
  obtain ⟨rfl, rfl⟩ := hD'
  rw [Nat.add_zero] at z0
  have B2 := Lib.hid (Below.andThen B1.out hb2)
  have HLS := Lib.hid (And.intro hown hal)
  have HNN := Lib.hid (And.intro hn0 hn1)
  have c0 : ∀ w', Below w2.heap.size w2 w' → w'.cell? ⟨b, off, none⟩ = some (.slice P0 e0.1.length p0c) := fun w' hb' => y0 w' (Below.andThen B2.out hb')
  have c1 : ∀ w', Below w2.heap.size w2 w' → w'.cell? ⟨b, off + 2, none⟩ = some (.slice P1 e1.1.length p1c) := fun w' hb' => y1 w' (Below.andThen B2.out hb')
  have HU := Lib.hid (And.intro y0 (And.intro y1 (And.intro u0 u1)))
  have q0 : ∀ w', Below w2.heap.size w2 w' → w'.cell? ⟨pb, po, none⟩ = some (.pointer (some ⟨g0, 0, none⟩)) := fun w' hb' => (hb'.cell (p := ⟨pb, po, none⟩) hpb).trans z0
  have q1 : ∀ w', Below w2.heap.size w2 w' → w'.cell? ⟨pb, po + 1, none⟩ = some (.pointer (some ⟨g1, 0, none⟩)) := fun w' hb' => (hb'.cell (p := ⟨pb, po + 1, none⟩) hpb).trans z1
  clear hown hal hn0 hn1 z0 z1 hb2 ht0 ht1 hl3 hl2 hlm y0 y1 u0 u1
  have hbb := Below.refl w2.heap.size w2
  go_wp2_with fail
  go_region_held3 (fun w' => Below w2.heap.size w2 w') (((repeat (first | refine Below.drew ?_ | (with_reducible refine below_drewN _ ?_) | refine Below.alloc ?_ (by first | omega | (simp; done) | (simp; omega)) _ | refine Below.setCell ?_ (by first | omega | (simp; done) | (simp; omega)) _)); first | exact Below.refl _ _ | assumption | exact below_drewN _ (Below.refl _ _) | exact below_drewN _ (below_drewN _ (Below.refl _ _))))
    ((go_at_call 9; refine (HSAME.out _ (Below.andThen B2.out (show Below w2.heap.size w2 _ by ((repeat (first | refine Below.drew ?_ | (with_reducible refine below_drewN _ ?_) | refine Below.alloc ?_ (by first | omega | (simp; done) | (simp; omega)) _ | refine Below.setCell ?_ (by first | omega | (simp; done) | (simp; omega)) _)); first | exact Below.refl _ _ | assumption | exact below_drewN _ (Below.refl _ _) | exact below_drewN _ (below_drewN _ (Below.refl _ _)))))).mono ?_; rintro e' w5 ⟨rfl, hb5⟩; have hbD := Below.trans (show Below w2.heap.size w2 _ by ((repeat (first | refine Below.drew ?_ | (with_reducible refine below_drewN _ ?_) | refine Below.alloc ?_ (by first | omega | (simp; done) | (simp; omega)) _ | refine Below.setCell ?_ (by first | omega | (simp; done) | (simp; omega)) _)); first | exact Below.refl _ _ | assumption | exact below_drewN _ (Below.refl _ _) | exact below_drewN _ (below_drewN _ (Below.refl _ _)))) (hb5.mono (Below.size (show Below w2.heap.size w2 _ by ((repeat (first | refine Below.drew ?_ | (with_reducible refine below_drewN _ ?_) | refine Below.alloc ?_ (by first | omega | (simp; done) | (simp; omega)) _ | refine Below.setCell ?_ (by first | omega | (simp; done) | (simp; omega)) _)); first | exact Below.refl _ _ | assumption | exact below_drewN _ (Below.refl _ _) | exact below_drewN _ (below_drewN _ (Below.refl _ _)))))); clear hb5))
  have B5 := Lib.hid hbD
  have r0 : ∀ w', Below w5.heap.size w5 w' → w'.cell? ⟨pb, po, none⟩ = some (.pointer (some ⟨g0, 0, none⟩)) := fun w' hb' => q0 w' (Below.andThen B5.out hb')
  have r1 : ∀ w', Below w5.heap.size w5 w' → w'.cell? ⟨pb, po + 1, none⟩ = some (.pointer (some ⟨g1, 0, none⟩)) := fun w' hb' => q1 w' (Below.andThen B5.out hb')
  clear c0 c1 q0 q1 hbb hbD
  have hbb := Below.refl w5.heap.size w5
  go_wp2_with fail
  go_region_held3 (fun w' => Below w5.heap.size w5 w') (((repeat (first | refine Below.drew ?_ | (with_reducible refine below_drewN _ ?_) | refine Below.alloc ?_ (by first | omega | (simp; done) | (simp; omega)) _ | refine Below.setCell ?_ (by first | omega | (simp; done) | (simp; omega)) _)); first | exact Below.refl _ _ | assumption | exact below_drewN _ (Below.refl _ _) | exact below_drewN _ (below_drewN _ (Below.refl _ _))))
    ((go_at_call 10; refine (HPAIR.out _ w2 (Below.andThen B5.out (show Below w5.heap.size w5 _ by ((repeat (first | refine Below.drew ?_ | (with_reducible refine below_drewN _ ?_) | refine Below.alloc ?_ (by first | omega | (simp; done) | (simp; omega)) _ | refine Below.setCell ?_ (by first | omega | (simp; done) | (simp; omega)) _)); first | exact Below.refl _ _ | assumption | exact below_drewN _ (Below.refl _ _) | exact below_drewN _ (below_drewN _ (Below.refl _ _))))) g0 g1 (HNN.out.1.below (Below.andThen B5.out (show Below w5.heap.size w5 _ by ((repeat (first | refine Below.drew ?_ | (with_reducible refine below_drewN _ ?_) | refine Below.alloc ?_ (by first | omega | (simp; done) | (simp; omega)) _ | refine Below.setCell ?_ (by first | omega | (simp; done) | (simp; omega)) _)); first | exact Below.refl _ _ | assumption | exact below_drewN _ (Below.refl _ _) | exact below_drewN _ (below_drewN _ (Below.refl _ _))))) (Nat.le_refl _) (Nat.le_refl _)) (HNN.out.2.below (Below.andThen B5.out (show Below w5.heap.size w5 _ by ((repeat (first | refine Below.drew ?_ | (with_reducible refine below_drewN _ ?_) | refine Below.alloc ?_ (by first | omega | (simp; done) | (simp; omega)) _ | refine Below.setCell ?_ (by first | omega | (simp; done) | (simp; omega)) _)); first | exact Below.refl _ _ | assumption | exact below_drewN _ (Below.refl _ _) | exact below_drewN _ (below_drewN _ (Below.refl _ _))))) (Nat.le_refl _) (Nat.le_refl _))).mono ?_; rintro e' w3 ⟨g', rfl, hnp, hb3⟩; have HNP := Lib.hid hnp; clear hnp; have hbD := Below.trans (show Below w5.heap.size w5 _ by ((repeat (first | refine Below.drew ?_ | (with_reducible refine below_drewN _ ?_) | refine Below.alloc ?_ (by first | omega | (simp; done) | (simp; omega)) _ | refine Below.setCell ?_ (by first | omega | (simp; done) | (simp; omega)) _)); first | exact Below.refl _ _ | assumption | exact below_drewN _ (Below.refl _ _) | exact below_drewN _ (below_drewN _ (Below.refl _ _)))) (hb3.mono (Below.size (show Below w5.heap.size w5 _ by ((repeat (first | refine Below.drew ?_ | (with_reducible refine below_drewN _ ?_) | refine Below.alloc ?_ (by first | omega | (simp; done) | (simp; omega)) _ | refine Below.setCell ?_ (by first | omega | (simp; done) | (simp; omega)) _)); first | exact Below.refl _ _ | assumption | exact below_drewN _ (Below.refl _ _) | exact below_drewN _ (below_drewN _ (Below.refl _ _)))))); clear hb3))
  have C3 := Lib.hid (Below.andThen B5.out hbD)
  have B3 := Lib.hid (Below.andThen B2.out (Below.andThen B5.out hbD))
  clear r0 r1 hbb hbD
  go_wp2_with fail
  obtain ⟨bq, hnd, -⟩ : ∃ bq, NdAt w3 w3.heap.size g' (l : Int) (Z.cut e0.1 (l + 1)) 0 (some ⟨bq, 0, none⟩) (Tr.sums (Tr.entsL (ks2 l g0 g1 e0 e1))) ∧ True := by cases HNP.out.2 with | br _ _ _ _ q h1 h2 => exact ⟨q, h1, trivial⟩
  refine (nLevel_c hnd).mono ?_
  rintro e w' ⟨rfl, rfl⟩
  clear hnd
  have c0 : ∀ w', Below w3.heap.size w3 w' → w'.cell? ⟨b, off, none⟩ = some (.slice P0 e0.1.length p0c) := fun w' hb' => HU.out.1 w' (Below.andThen B3.out hb')
  have c1 : ∀ w', Below w3.heap.size w3 w' → w'.cell? ⟨b, off + 2, none⟩ = some (.slice P1 e1.1.length p1c) := fun w' hb' => HU.out.2.1 w' (Below.andThen B3.out hb')
  have c2 : ∀ w', Below w3.heap.size w3 w' → w'.cell? ⟨b, off + 1, none⟩ = some (.int .u64 (e0.2 : Int)) := fun w' hb' => HU.out.2.2.1 w' (Below.andThen B3.out hb')
  have c3 : ∀ w', Below w3.heap.size w3 w' → w'.cell? ⟨b, off + 2 + 1, none⟩ = some (.int .u64 (e1.2 : Int)) := fun w' hb' => HU.out.2.2.2 w' (Below.andThen B3.out hb')
  have hbb := Below.refl w3.heap.size w3
  go_wp2_with fail
  go_region_held3 (fun w' => Below w3.heap.size w3 w') (((repeat (first | refine Below.drew ?_ | (with_reducible refine below_drewN _ ?_) | refine Below.alloc ?_ (by first | omega | (simp; done) | (simp; omega)) _ | refine Below.setCell ?_ (by first | omega | (simp; done) | (simp; omega)) _)); first | exact Below.refl _ _ | assumption | exact below_drewN _ (Below.refl _ _) | exact below_drewN _ (below_drewN _ (Below.refl _ _)))) (fail)
  clear c0 c1 c2 c3
  have hbA : Below w3.heap.size w3 (w3.alloc (.cells #[.slice P0 e0.1.length p0c, .int .u64 (e0.2 : Int), .slice P1 e1.1.length p1c, .int .u64 (e1.2 : Int)] 31)).drew := (below_alloc w3 _).drew
  have hE1 : Ents (w3.alloc (.cells #[.slice P0 e0.1.length p0c, .int .u64 (e0.2 : Int), .slice P1 e1.1.length p1c, .int .u64 (e1.2 : Int)] 31)).drew (w3.alloc (.cells #[.slice P0 e0.1.length p0c, .int .u64 (e0.2 : Int), .slice P1 e1.1.length p1c, .int .u64 (e1.2 : Int)] 31)).drew.heap.size (some ⟨w3.heap.size, 0, none⟩) [e0, e1] :=
    ents_two (by simp) (heap_at w3 (.cells #[.slice P0 e0.1.length p0c, .int .u64 (e0.2 : Int), .slice P1 e1.1.length p1c, .int .u64 (e1.2 : Int)] 31) _ rfl) (Below.andThen B3.out hbA) HPP.out.1 HPP.out.2 HF.out.1 HF.out.2
  generalize (World.drew (w3.alloc _)) = W1 at hbA hE1 ⊢
  have B4 := Lib.hid hbA
  have HE1 := Lib.hid hE1
  clear hbA hE1 hbb
  have hal := below_alloc W1 (.cells #[] 31)
  have hE2 : Lst 2 (EntQ W1 W1.heap.size) (W1.alloc (.cells #[] 31)) W1.heap.size (some ⟨w3.heap.size, 0, none⟩) [e0, e1] := lst_past HE1.out hal
  go_wp2_with (at_builtin; refine wpList_append_list (Q := EntQ W1 W1.heap.size) 22 31 (.agg #[.slice none 0 0, .int .u64 0]) 32 Tryd.underlying22 infoE2 (by rfl) (by omega) (by omega) (entQ_ok _ _) (by rfl) _ _ (by rfl) W1.heap.size (.slice (some ⟨W1.heap.size, 0, none⟩) 0 0) [] [e0, e1] 2 (by rfl) (by rfl) (by exact ownL_nil _ W1) W1.heap.size (some ⟨w3.heap.size, 0, none⟩) 2 2 (by rfl) (by rfl) (by exact hE2) (by omega) (by simp) ?_; intro D1 d1 w4 hown1 hgrow1 hat1; have hg1 := Below.grown hal hgrow1 (by simp) (fun q hq => by simp [Value.ownBlock] at hq; omega); clear hgrow1 hat1 hal hE2; rw [List.nil_append] at hown1)
  obtain ⟨-, hcap1, hE3⟩ := ownE_at hown1 hg1 (Nat.le_refl _)
  have HW := Lib.hid (And.intro (hE3.ents hg1.size (Nat.le_refl _)) hcap1)
  have B5 := Lib.hid (Below.andThen B3.out (Below.andThen B4.out hg1))
  have C4 := Lib.hid hg1
  clear hown1 hE3 hcap1 hg1
  have m9 : L.length ≤ 30 := HL.out.2.2.2.2.2.2.1
  go_loopw [7, 10, 13] (fun n u i wr => ∃ (j g c' : Nat) (A : Option Addr) (M : List Ent) (ks : List (Nat × T)), n = .pointer (some ⟨g, 0, none⟩) ∧ u = .slice A M.length c' ∧ i = .int .i64 (j : Int) ∧ 2 ≤ j ∧ j ≤ L.length ∧ M.length ≤ j ∧ Below w4.heap.size w4 wr ∧ WithI w wr e0.1.length l (Z.cut e0.1 (l + 1)) A c' g M ks) (fun _ _ i _ => L.length - (intOf i).toNat)
  case atStart => exact ⟨2, g', 2, some ⟨w3.heap.size, 0, none⟩, [e0, e1], ks2 l g0 g1 e0 e1, rfl, rfl, rfl, Nat.le_refl _, HL.out.2.2.2.2.2.2.2.1, Nat.le_refl _, Below.refl _ _,
    ⟨B5.out, HNP.out.below (Below.andThen B4.out C4.out) (Nat.le_refl _) (Below.andThen B4.out C4.out).size, ks2_flat _ _ _ _ _, ks2_perm HL.out.2.2.2.2.1, HE1.out.below C4.out (Nat.le_refl _) C4.out.size, Nat.le_refl _⟩⟩
  case round =>
    obtain ⟨j, g, c', A, M, ks, rfl, rfl, rfl, hj2, hjL, hMj, hbr, hI⟩ := hrel
    by_cases hlt : j < L.length
    · obtain ⟨e, he⟩ := get_lt hlt
      obtain ⟨b', off', Pi, pic, hA', -, xi, vi, ppi, pli, phi⟩ := HX.out.1.at he
      simp only [Option.some.injEq, Addr.mk.injEq, and_true] at hA'
      obtain ⟨rfl, rfl⟩ := hA'
      obtain ⟨t, ht⟩ := get_lt (us := ls) (k := j) (by rw [HLS.out.2.1]; omega)
      obtain ⟨gi, rfl, hni⟩ := HLS.out.2.2 j e t he ht
      obtain ⟨pb', po', hD', hpb', zi⟩ := (OwnV.rd_at HLS.out.1).at (i := j) (v := .pointer (some ⟨gi, 0, none⟩)) (by simp [ptrsV, ht, ndV, T.blk])
      simp only [Option.some.injEq, Addr.mk.injEq, and_true] at hD'
      obtain ⟨rfl, rfl⟩ := hD'
      have hb2r := Below.andThen C3.out (Below.andThen B4.out (Below.andThen C4.out hbr))
      have hni' := hni.below hb2r (Nat.le_refl _) hb2r.size
      have hleaf : NdAt wr wr.heap.size gi (-1) e.1 e.2 none (Tr.s1 e.2) := by cases hni'.2 with | ent _ _ _ h => exact h
      obtain ⟨bq, hnd, hat⟩ : ∃ bq, NdAt wr wr.heap.size g (l : Int) (Z.cut e0.1 (l + 1)) 0 (some ⟨bq, 0, none⟩) (Tr.sums (Tr.entsL ks)) ∧ Sn.At wr wr.heap.size bq e0.1.length (kidL ks) := by cases hI.node.2 with | br _ _ _ _ q h1 h2 => exact ⟨q, h1, h2⟩
      have yi : wr.cell? ⟨pb, po + j, none⟩ = some (.pointer (some ⟨gi, 0, none⟩)) := (hb2r.cell (p := ⟨pb, po + j, none⟩) hpb').trans zi
      have xx : ∀ w', Below wr.heap.size wr w' → w'.cell? ⟨b, off + j * 2, none⟩ = some (.slice Pi e.1.length pic) := fun w' hb' => ((Below.andThen hI.below hb').cell (p := ⟨b, off + j * 2, none⟩) hb).trans xi
      have xv : ∀ w', Below wr.heap.size wr w' → w'.cell? ⟨b, off + j * 2 + 1, none⟩ = some (.int .u64 (e.2 : Int)) := fun w' hb' => ((Below.andThen hI.below hb').cell (p := ⟨b, off + j * 2 + 1, none⟩) hb).trans vi
      have xz : ∀ w', Below wr.heap.size wr w' → w'.cell? ⟨b, off, none⟩ = some (.slice P0 e0.1.length p0c) := fun w' hb' => HU.out.1 w' (Below.andThen hI.below hb')
      have k1 : (0 : Int) ≤ (j : Int) := by omega
      have k2 : (j : Int) < (L.length : Int) := by omega
      have hlen0 : (Z.cut e0.1 (l + 1)).length = e0.1.length := Z.cut_length _ _
      have HI := Lib.hid (And.intro hI (And.intro hbr (And.intro hnd (And.intro hat (And.intro hleaf (And.intro hni' (And.intro ppi (And.intro pli (And.intro phi (And.intro he (And.intro hlen0 (HALL.out e (List.mem_of_getElem? he)))))))))))))
      clear hI hbr hnd hat hleaf hni' hni ppi pli phi he ht zi xi vi hb2r hlen0
      by_cases hd : e.1.length = e0.1.length
      · by_cases hfar : Z.part e.1 e0.1 ≤ (l : Int)
        · have n9 : ((e.1.length : Int) != (e0.1.length : Int)) = false := by simp [hd]
          obtain ⟨pt, hpt⟩ : ∃ pt, Z.part e.1 e0.1 = pt := ⟨_, rfl⟩
          have n8 : decide ((l : Int) < pt) = false := decide_eq_false (by omega)
          have hpp : Z.part (Z.cut e0.1 (l + 1)) e.1 ≤ (l : Int) := (part_pre (us := e0.1) (p := e.1) (l := l) hd.symm HPP.out.1.1 HI.out.2.2.2.2.2.2.1.1 rfl).2 hfar
          have hML : M.length = ks.length := by rw [HI.out.1.perm.length_eq, flat_ents HI.out.1.flat]
          have hks2 : 2 ≤ ks.length := by cases HI.out.1.node.1 with | br _ _ _ _ _ _ h2 => exact h2
          have HWC : Hid (Calls Tryd.prog 12 #[.pointer (some ⟨g, 0, none⟩), .pointer (some ⟨gi, 0, none⟩)] wr fun e' w' => ∃ g', e' = .returned (.tuple #[.pointer (some ⟨g', 0, none⟩), .int .i64 0]) ∧ Node w' w'.heap.size e0.1.length (.br g' l (Z.cut e0.1 (l + 1)) (Sl.put (Z.addr e.1 l) (T.ent gi e.1 e.2) ks)) ∧ wr.heap.size ≤ g' ∧ Below wr.heap.size wr w') := Lib.hid (nWith_c (t := T.ent gi e.1 e.2) HI.out.1.node (by rw [← hd]; exact HI.out.2.2.2.2.2.1) (Nat.le_refl _) hpp (Nat.zero_le _) (by rw [← HI.out.1.perm.length_eq, Tr.ents_ent]; simp only [List.length_cons, List.length_nil]; omega))
          have HPT : Hid (∀ w1, Below wr.heap.size wr w1 → Calls Tryd.prog 13 #[.slice Pi e.1.length pic, .slice P0 e0.1.length p0c] w1 fun e w' => e = .returned (.int .i64 pt) ∧ w1 = w') := Lib.hid fun w1 hb1 => by
            rw [← hpt]
            exact rpart_c Pi P0 pic p0c e.1 e0.1 w.heap.size w1 (HI.out.2.2.2.2.2.2.1.below' (Below.andThen HI.out.1.below hb1) (Nat.le_refl _)) (HPP.out.1.below' (Below.andThen HI.out.1.below hb1) (Nat.le_refl _)) HI.out.2.2.2.2.2.2.2.2.2.2.2.1 HI.out.2.2.2.2.2.2.2.2.2.2.2.2 hd
          have HADD : Hid (∀ w1, Below wr.heap.size wr w1 → Calls Tryd.prog 14 #[.slice Pi e.1.length pic, .int .i64 (l : Int)] w1 fun e' w' => e' = .returned (.int .i64 (Z.addr e.1 l : Int)) ∧ w1 = w') := Lib.hid fun w1 hb1 =>
            raddr_c Pi pic e.1 l w.heap.size w1 (HI.out.2.2.2.2.2.2.1.below' (Below.andThen HI.out.1.below hb1) (Nat.le_refl _)) HI.out.2.2.2.2.2.2.2.2.2.2.2.1 HI.out.2.2.2.2.2.2.2.2.2.2.2.2 HL.out.2.1
          obtain ⟨ad, had⟩ : ∃ ad, Z.addr e.1 l = ad := ⟨_, rfl⟩
          rw [had] at HWC HADD
          have HM30 : Hid (M.length ≤ 30) := Lib.hid (by omega)
          have HMJ := Lib.hid hMj
          have HLT := Lib.hid hlt
          have XE := Lib.hid (And.intro xx xv)
          have YI : Hid (∀ w', Below wr.heap.size wr w' → w'.cell? ⟨pb, po + j, none⟩ = some (.pointer (some ⟨gi, 0, none⟩))) := Lib.hid fun w' hb => (hb.cell (p := ⟨pb, po + j, none⟩) (World.block_lt_of_cell? _ _ yi)).trans yi
          have HKB : Hid (∀ e' ∈ M, 1 ≤ e'.1.length ∧ e'.1.length ≤ 16) := Lib.hid fun e' he' => by
            have h1 := HI.out.1.perm.mem_iff.1 he'
            have h2 := HI.out.1.node.1.each e' (by rw [Tr.ents_br]; exact h1)
            have h3 := HI.out.1.node.1.k1
            have h4 := HI.out.1.node.1.k16
            omega
          clear hd hfar hpp hML hks2 hMj hlt
          go_wp2_with fail
          refine HWC.out.mono ?_
          rintro e9 w6 ⟨g', rfl, hn6, -, hb6⟩
          have B6 := Lib.hid hb6
          have HN6 := Lib.hid (And.intro hn6 hb6)
          have k3 := xx w6 hb6
          have k4 := xz w6 hb6
          clear hb6 hn6 yi HWC
          go_wp2_with fail
          go_quiet (fail)
          obtain ⟨w7, hw7⟩ : ∃ W, W = w6.drewN nq := ⟨_, rfl⟩
          have hb67 : Below w6.heap.size w6 w7 := by rw [hw7]; exact below_drewN _ (Below.refl _ _)
          rw [← hw7]
          have k3 := xx w7 (Below.andThen B6.out hb67)
          have k4 := xz w7 (Below.andThen B6.out hb67)
          have B67 := Lib.hid hb67
          clear hw7 hb67
          go_wp2_with fail
          go_quiet ((go_at_call 13; with_reducible exact Calls.quiet_of_same ((HPT.out _ (below_drewN _ (Below.andThen B6.out B67.out))).mono fun e w' h => ⟨h.1, h.2.symm⟩)))
          obtain ⟨w8, hw8⟩ : ∃ W, W = w7.drewN nq := ⟨_, rfl⟩
          have hb78 : Below w7.heap.size w7 w8 := by rw [hw8]; exact below_drewN _ (Below.refl _ _)
          rw [← hw8]
          have HB68 := Lib.hid (Below.andThen B67.out hb78)
          have HB8 := Lib.hid (Below.andThen B6.out HB68.out)
          have k3 := xx w8 HB8.out
          have hEM := HI.out.1.ents.below HB8.out (Nat.le_refl _) HB8.out.size
          obtain ⟨yy, hyy⟩ := get_lt (us := M) (k := 0) (by have := HI.out.1.perm.length_eq; have := flat_ents HI.out.1.flat; have : 2 ≤ ks.length := (by cases HI.out.1.node.1 with | br _ _ _ _ _ _ h2 => exact h2); omega)
          obtain ⟨ab, ao, -, -, rfl, -⟩ := hEM.at hyy
          have HEM := Lib.hid hEM
          have HEQ : Hid (EntQ w8 w8.heap.size (fun j => (#[.slice Pi e.1.length pic, .int .u64 (e.2 : Int)] : Array Value)[j]?) e) := Lib.hid ⟨Pi, pic, rfl, rfl, (HI.out.2.2.2.2.2.2.1.below' (Below.andThen HI.out.1.below HB8.out) (Nat.le_refl _)).keep (Below.andThen HI.out.1.below HB8.out).size (fun _ _ => rfl), HI.out.2.2.2.2.2.2.2.1, HI.out.2.2.2.2.2.2.2.2.1⟩
          clear hw8 hb78 hEM hyy k4 xx xv xz
          go_wp2_with (go_at_call 14; refine (HADD.out _ HB8.out).mono ?_; rintro e9 w9 ⟨rfl, rfl⟩)
          clear k3
          generalize wr = wo at *
          go_loopw [17, 18] (fun u i wq => ∃ (q : Nat) (D : Option Addr) (dd : Nat) (Lq : List Ent), q ≤ M.length ∧ i = .int .i64 q ∧ u = .slice D Lq.length dd ∧ Lq = (M.take q).filter (fun e' => decide (Z.addr e'.1 l ≠ ad)) ∧ OwnL 31 2 (EntQ w8 w8.heap.size) wq w8.heap.size (.slice D Lq.length dd) Lq ∧ Below w8.heap.size w8 wq) (fun _ i _ => M.length - (intOf i).toNat)
          case atStart => exact ⟨0, _, _, [], Nat.zero_le _, rfl, rfl, rfl, ownL_nil _ w8, below_alloc w8 _⟩
          case round =>
            obtain ⟨q, D9, d9, Lq, hq, rfl, rfl, hLq, hown, hb9⟩ := hrel
            by_cases hqlt : q < M.length
            · obtain ⟨y, hy⟩ := get_lt hqlt
              obtain ⟨ab', ao', Py, pyc, hAy, hab', cy0, cy1, py, ply, pvy⟩ := HEM.out.at hy
              simp only [Option.some.injEq, Addr.mk.injEq, and_true] at hAy
              obtain ⟨rfl, rfl⟩ := hAy
              have ey0 : wr.cell? ⟨ab, ao + q * 2, none⟩ = some (.slice Py y.1.length pyc) := (hb9.cell (p := ⟨ab, ao + q * 2, none⟩) hab').trans cy0
              have ey1 : wr.cell? ⟨ab, ao + q * 2 + 1, none⟩ = some (.int .u64 (y.2 : Int)) := (hb9.cell (p := ⟨ab, ao + q * 2 + 1, none⟩) hab').trans cy1
              have hyk := HKB.out y (List.mem_of_getElem? hy)
              have HAd := Lib.hid (raddr_c Py pyc y.1 l w8.heap.size wr (py.below' hb9 (Nat.le_refl _)) hyk.1 hyk.2 HL.out.2.1)
              have m1 : (0 : Int) ≤ (q : Int) := by omega
              have m2 : (q : Int) < (M.length : Int) := by omega
              have hLl : Lq.length ≤ q := by rw [hLq]; exact Nat.le_trans (List.length_filter_le _ _) (by rw [List.length_take]; omega)
              have hM30 : M.length ≤ 30 := HM30.out
              by_cases hne : Z.addr y.1 l = ad
              · have nn : ((Z.addr y.1 l : Int) != (ad : Int)) = false := by simp [hne]
                have hstep : Lq = (M.take (q + 1)).filter (fun e' => decide (Z.addr e'.1 l ≠ ad)) := by
                  rw [List.take_add_one, hy, List.filter_append, ← hLq]
                  simp [hne]
                have HQ := Lib.hid (And.intro hstep (And.intro hown (And.intro hb9 hqlt)))
                clear hstep hown hb9 hqlt hy cy0 cy1 py ply pvy hyk hne hLq hLl hq
                go_wp2_with (go_at_call 14; refine HAd.out.mono ?_; rintro e9 w9 ⟨rfl, rfl⟩)
                go_roundw
                case rel => exact ⟨q + 1, D9, d9, Lq, by have := HQ.out.2.2.2; omega, by go_num, rfl, HQ.out.1, HQ.out.2.1, HQ.out.2.2.1⟩
                case measure => simp [intOf]; have := HQ.out.2.2.2; omega
              · have nn : ((Z.addr y.1 l : Int) != (ad : Int)) = true := by simp; omega
                have hstep : Lq ++ [y] = (M.take (q + 1)).filter (fun e' => decide (Z.addr e'.1 l ≠ ad)) := by
                  rw [List.take_add_one, hy, List.filter_append, ← hLq]
                  simp [hne]
                have HQ := Lib.hid (And.intro hstep (And.intro hown (And.intro hb9 (And.intro hqlt (And.intro py (And.intro ply (And.intro pvy hLl)))))))
                clear hstep hown hb9 hqlt hy cy0 cy1 py ply pvy hyk hne hLq hLl hq
                go_wp2_with (first
                  | (go_at_call 14; refine HAd.out.mono ?_; rintro e9 w9 ⟨rfl, rfl⟩)
                  | (at_builtin; refine wpList_append_list (Q := EntQ w8 w8.heap.size) 22 31 (.agg #[.slice none 0 0, .int .u64 0]) 32 Tryd.underlying22 infoE2 (by rfl) (by omega) (by omega) (entQ_ok _ _) (by rfl) _ _ (by rfl) w8.heap.size (.slice D9 Lq.length d9) Lq [y] (Lq.length + 1) (by simp) (by rfl) (by exact HQ.out.2.1.below (below_alloc _ _) (Nat.le_refl _)) _ _ 1 1 (by rfl) (by rfl) (by exact lst_at (entQ_ok _ _) #[.slice Py y.1.length pyc, .int .u64 (y.2 : Int)] y (by rfl) (by exact ⟨Py, pyc, rfl, rfl, HQ.out.2.2.2.2.1, HQ.out.2.2.2.2.2.1, HQ.out.2.2.2.2.2.2.1⟩)) (by have := HQ.out.2.2.2.1; have := HQ.out.2.2.2.2.2.2.2; omega) (by have := HQ.out.2.2.1.size; simp; omega) ?_; intro D8 d8 w9 hown8 hgrow8 hat8; have hg8 := Below.grown (HQ.out.2.2.1.trans ((below_alloc wr (.cells #[.slice Py y.1.length pyc, .int .u64 (y.2 : Int)] 31)).mono HQ.out.2.2.1.size)) hgrow8 (by have := HQ.out.2.2.1.size; simp; omega) (fun z hz => (HQ.out.2.1.lt z hz).1); have H8 := Lib.hid (And.intro hown8 hg8); clear hown8 hgrow8 hat8 hg8))
                go_roundw
                case rel => exact ⟨q + 1, D8, d8, Lq ++ [y], by have := HQ.out.2.2.2.1; omega, by go_num, by simp, HQ.out.1, by simpa using H8.out.1, H8.out.2⟩
                case measure => simp [intOf]; have := HQ.out.2.2.2.1; omega
            · have hqM : q = M.length := by omega
              subst hqM
              rw [List.take_length] at hLq
              have HQ := Lib.hid (And.intro hown (And.intro hb9 hLq))
              have hLl : Lq.length ≤ M.length := by rw [hLq]; exact List.length_filter_le _ _
              have hM30 : M.length ≤ 30 := HM30.out
              clear hown hb9 hLq hq hqlt
              generalize wr = w9 at *
              have ex0 := XE.out.1 w9 (Below.andThen HB8.out HQ.out.2.1)
              have ex1 := XE.out.2 w9 (Below.andThen HB8.out HQ.out.2.1)
              go_upto_region 33 with (at_builtin; refine wpList_append_list (Q := EntQ w8 w8.heap.size) 22 31 (.agg #[.slice none 0 0, .int .u64 0]) 32 Tryd.underlying22 infoE2 (by rfl) (by omega) (by omega) (entQ_ok _ _) (by rfl) _ _ (by rfl) w8.heap.size (.slice D9 Lq.length d9) Lq [e] (Lq.length + 1) (by simp) (by rfl) (by exact HQ.out.1.below (below_alloc _ _) (Nat.le_refl _)) _ _ 1 1 (by rfl) (by rfl) (by exact lst_at (entQ_ok _ _) #[.slice Pi e.1.length pic, .int .u64 (e.2 : Int)] e (by rfl) (by exact HEQ.out)) (by omega) (by have := HQ.out.2.1.size; simp; omega) ?_; intro D8 d8 w10 hown8 hgrow8 hat8; have hg8 := Below.grown (HQ.out.2.1.trans ((below_alloc w9 (.cells #[.slice Pi e.1.length pic, .int .u64 (e.2 : Int)] 31)).mono HQ.out.2.1.size)) hgrow8 (by have := HQ.out.2.1.size; simp; omega) (fun z hz => (HQ.out.1.lt z hz).1); have H8 := Lib.hid (And.intro hown8 hg8); clear hown8 hgrow8 hat8 hg8)
              clear ex0 ex1
              obtain ⟨-, hcap8, hE8⟩ := ownE_at H8.out.1 H8.out.2 (Nat.le_refl _)
              have hE9 := hE8.ents H8.out.2.size (Nat.le_refl _)
              have hb810 : Below wo.heap.size wo w10 := Below.andThen HB8.out H8.out.2
              have hnode10 : Node w10 w10.heap.size e0.1.length (.br g' l (Z.cut e0.1 (l + 1)) (Sl.put ad (T.ent gi e.1 e.2) ks)) := HN6.out.1.below (Below.andThen HB68.out H8.out.2) (Nat.le_refl _) (Below.andThen HB68.out H8.out.2).size
              have hsrt : Sl.Srt ks := by cases HI.out.1.node.1 with | br _ _ _ _ _ hw => exact hw.srt
              have hflat := flat_put HI.out.1.flat ad gi e.1 e.2
              have hatl : AtL l ks := fun x hx => by cases HI.out.1.node.1 with | br _ _ _ _ _ _ _ _ _ _ hc => exact (hc x hx).2.2
              have hperm : (Lq ++ [e]).Perm (Tr.entsL (Sl.put ad (T.ent gi e.1 e.2) ks)) := by rw [HQ.out.2.2]; exact round_perm hsrt HI.out.1.flat hatl HI.out.1.perm
              obtain ⟨ab8, ao8, -, -, rfl, -⟩ := hE9.at (i := Lq.length) (e := e) (by rw [List.getElem?_append_right (Nat.le_refl _)]; simp)
              have HKid : Hid (∀ w1, Below w10.heap.size w10 w1 → Calls Tryd.prog 15 #[.pointer (some ⟨g', 0, none⟩), .int .i64 (ad : Int)] w1 fun e w' => e = .returned (.pointer (some ⟨gi, 0, none⟩)) ∧ ∃ i, w' = w1.drewN i) := Lib.hid fun w1 hb1 => by
                have h1 := hnode10.below hb1 (Nat.le_refl _) (Nat.le_refl _)
                obtain ⟨bk, h3, h4⟩ : ∃ bk, NdAt w1 w10.heap.size g' (l : Int) (Z.cut e0.1 (l + 1)) 0 (some ⟨bk, 0, none⟩) (Tr.sums (Tr.entsL (Sl.put ad (T.ent gi e.1 e.2) ks))) ∧ Sn.At w1 w10.heap.size bk e0.1.length (kidL (Sl.put ad (T.ent gi e.1 e.2) ks)) := by cases h1.2 with | br _ _ _ _ q h1 h2 => exact ⟨q, h1, h2⟩
                exact nKid_br h3 h4 (ad : Int) _ (by rw [kidL_get, Sl.get_put hsrt, if_pos rfl]; rfl)
              have HFlat : Hid (∀ w1, Below w10.heap.size w10 w1 → Calls Tryd.prog 16 #[.pointer (some ⟨g', 0, none⟩), .slice (some ⟨ab8, ao8, none⟩) (Lq.length + 1) d8, .int .i64 (l : Int)] w1 fun e w' => e = .returned (.bool true) ∧ Below w1.heap.size w1 w') := Lib.hid fun w1 hb1 => by
                have := flat_c (c := d8) (hnode10.below hb1 (Nat.le_refl _) hb1.size) hflat (HTZ.out.on (Below.andThen (Below.andThen HI.out.1.below hb810) hb1)) (hE9.below hb1 (Nat.le_refl _) hb1.size) hperm (Nat.le_refl _) hcap8
                rw [List.length_append] at this
                exact this
              have zi10 : ∀ w', Below w10.heap.size w10 w' → w'.cell? ⟨pb, po + j, none⟩ = some (.pointer (some ⟨gi, 0, none⟩)) := fun w' hb => YI.out w' (Below.andThen hb810 hb)
              have HFIN := Lib.hid (show WithI w w10 e0.1.length l (Z.cut e0.1 (l + 1)) (some ⟨ab8, ao8, none⟩) d8 g' (Lq ++ [e]) (Sl.put ad (T.ent gi e.1 e.2) ks) from ⟨Below.andThen HI.out.1.below hb810, hnode10, hflat, hperm, hE9, hcap8⟩)
              have HBD := Lib.hid (And.intro hb810 hLl)
              have hpe := ptr_ne
              have hbb := Below.refl w10.heap.size w10
              clear hE8 hE9 hcap8 hnode10 hsrt hflat hatl hperm hb810 hLl
              go_wp2_with fail
              go_region_held3 (fun w' => Below w10.heap.size w10 w') (((repeat (first | refine Below.drew ?_ | (with_reducible refine below_drewN _ ?_) | refine Below.alloc ?_ (by first | omega | (simp; done) | (simp; omega)) _ | refine Below.setCell ?_ (by first | omega | (simp; done) | (simp; omega)) _)); first | exact Below.refl _ _ | assumption | exact below_drewN _ (Below.refl _ _) | exact below_drewN _ (below_drewN _ (Below.refl _ _))))
                (first
                 | (go_at_call 15; refine (HKid.out _ (show Below w10.heap.size w10 _ by ((repeat (first | refine Below.drew ?_ | (with_reducible refine below_drewN _ ?_) | refine Below.alloc ?_ (by first | omega | (simp; done) | (simp; omega)) _ | refine Below.setCell ?_ (by first | omega | (simp; done) | (simp; omega)) _)); first | exact Below.refl _ _ | assumption | exact below_drewN _ (Below.refl _ _) | exact below_drewN _ (below_drewN _ (Below.refl _ _))))).mono ?_; rintro e' q1 ⟨rfl, n1, rfl⟩)
                 | (go_at_call 16; refine (HFlat.out _ (show Below w10.heap.size w10 _ by ((repeat (first | refine Below.drew ?_ | (with_reducible refine below_drewN _ ?_) | refine Below.alloc ?_ (by first | omega | (simp; done) | (simp; omega)) _ | refine Below.setCell ?_ (by first | omega | (simp; done) | (simp; omega)) _)); first | exact Below.refl _ _ | assumption | exact below_drewN _ (Below.refl _ _) | exact below_drewN _ (below_drewN _ (Below.refl _ _))))).mono ?_; rintro e' q2 ⟨rfl, hbq⟩; have hbD := Below.trans (show Below w10.heap.size w10 _ by ((repeat (first | refine Below.drew ?_ | (with_reducible refine below_drewN _ ?_) | refine Below.alloc ?_ (by first | omega | (simp; done) | (simp; omega)) _ | refine Below.setCell ?_ (by first | omega | (simp; done) | (simp; omega)) _)); first | exact Below.refl _ _ | assumption | exact below_drewN _ (Below.refl _ _) | exact below_drewN _ (below_drewN _ (Below.refl _ _)))) (hbq.mono (Below.size (show Below w10.heap.size w10 _ by ((repeat (first | refine Below.drew ?_ | (with_reducible refine below_drewN _ ?_) | refine Below.alloc ?_ (by first | omega | (simp; done) | (simp; omega)) _ | refine Below.setCell ?_ (by first | omega | (simp; done) | (simp; omega)) _)); first | exact Below.refl _ _ | assumption | exact below_drewN _ (Below.refl _ _) | exact below_drewN _ (below_drewN _ (Below.refl _ _)))))); clear hbq))
              have HBX := Lib.hid hbD
              clear zi10 hbD hbb
              go_wp2_with fail
              go_roundw
              case rel => exact ⟨j + 1, g', d8, some ⟨ab8, ao8, none⟩, Lq ++ [e], Sl.put ad (T.ent gi e.1 e.2) ks, rfl, by simp, by go_num, by omega, by have := HLT.out; omega, by have := HBD.out.2; have := HMJ.out; rw [List.length_append]; simp; omega, Below.andThen HI.out.2.1 (Below.andThen HBD.out.1 HBX.out), HFIN.out.step HBX.out⟩
              case measure => simp [intOf]; have := HLT.out; omega
        · have n9 : ((e.1.length : Int) != (e0.1.length : Int)) = false := by simp [hd]
          obtain ⟨pt, hpt⟩ : ∃ pt, Z.part e.1 e0.1 = pt := ⟨_, rfl⟩
          have n8 : decide ((l : Int) < pt) = true := decide_eq_true (by omega)
          have HWF := Lib.hid (nWith_far HI.out.2.2.1 HI.out.2.2.2.2.1 (by rw [HI.out.2.2.2.2.2.2.2.2.2.2.1]; exact HA.out.1) (by rw [HI.out.2.2.2.2.2.2.2.2.2.2.1]; exact HA.out.2) (by rw [HI.out.2.2.2.2.2.2.2.2.2.2.1]; exact hd.symm) (by
            have := part_pre (us := e0.1) (p := e.1) (l := l) hd.symm HPP.out.1.1 HI.out.2.2.2.2.2.2.1.1 rfl
            omega))
          have HPT : Hid (∀ w1, Below wr.heap.size wr w1 → Calls Tryd.prog 13 #[.slice Pi e.1.length pic, .slice P0 e0.1.length p0c] w1 fun e w' => e = .returned (.int .i64 pt) ∧ w1 = w') := Lib.hid fun w1 hb1 => by
            rw [← hpt]
            exact rpart_c Pi P0 pic p0c e.1 e0.1 w.heap.size w1 (HI.out.2.2.2.2.2.2.1.below' (Below.andThen HI.out.1.below hb1) (Nat.le_refl _)) (HPP.out.1.below' (Below.andThen HI.out.1.below hb1) (Nat.le_refl _)) HI.out.2.2.2.2.2.2.2.2.2.2.2.1 HI.out.2.2.2.2.2.2.2.2.2.2.2.2 hd
          clear hd hfar
          go_wp2_with fail
          refine HWF.out.mono ?_
          rintro e9 w6 ⟨rfl, hb6⟩
          have B6 := Lib.hid hb6
          have k3 := xx w6 hb6
          have k4 := xz w6 hb6
          clear hb6 yi HWF
          go_wp2_with fail
          go_quiet (fail)
          obtain ⟨w7, hw7⟩ : ∃ W, W = w6.drewN nq := ⟨_, rfl⟩
          have hb67 : Below w6.heap.size w6 w7 := by rw [hw7]; exact below_drewN _ (Below.refl _ _)
          rw [← hw7]
          have k3 := xx w7 (Below.andThen B6.out hb67)
          have k4 := xz w7 (Below.andThen B6.out hb67)
          have B67 := Lib.hid (Below.andThen B6.out hb67)
          clear hw7 hb67 xx xv xz
          go_wp2_with fail
          go_quiet ((go_at_call 13; with_reducible exact Calls.quiet_of_same ((HPT.out _ (below_drewN _ B67.out)).mono fun e w' h => ⟨h.1, h.2.symm⟩)))
          have B68 : Below wr.heap.size wr (w7.drewN nq) := below_drewN _ B67.out
          go_wp2_with fail
          go_roundw
          case rel => exact ⟨j + 1, g, c', A, M, ks, rfl, rfl, by go_num, by omega, by omega, by omega, Below.andThen HI.out.2.1 B68, HI.out.1.step B68⟩
          case measure => simp [intOf]; omega
      · have n9 : ((e.1.length : Int) != (e0.1.length : Int)) = true := by simp; omega
        have HWD := Lib.hid (nWith_dim HI.out.2.2.1 HI.out.2.2.2.2.1 (by rw [HI.out.2.2.2.2.2.2.2.2.2.2.1]; exact HA.out.2) HI.out.2.2.2.2.2.2.2.2.2.2.2.2 (by rw [HI.out.2.2.2.2.2.2.2.2.2.2.1]; exact fun h => hd h.symm))
        clear hd
        go_wp2_with fail
        refine HWD.out.mono ?_
        rintro e9 w6 ⟨rfl, hb6⟩
        have B6 := Lib.hid hb6
        have k3 := xx w6 hb6
        have k4 := xz w6 hb6
        clear xx xz hb6 yi HWD
        go_wp2_with fail
        go_quiet (fail)
        go_wp2_with fail
        go_roundw
        case rel => exact ⟨j + 1, g, c', A, M, ks, rfl, rfl, by go_num, by omega, by omega, by omega, below_drewN _ (Below.andThen HI.out.2.1 B6.out),
          ⟨below_drewN _ (Below.andThen HI.out.1.below B6.out), HI.out.1.node.below (below_drewN _ B6.out) (Nat.le_refl _) (below_drewN _ B6.out).size, HI.out.1.flat, HI.out.1.perm, HI.out.1.ents.below (below_drewN _ B6.out) (Nat.le_refl _) (below_drewN _ B6.out).size, HI.out.1.cap⟩⟩
        case measure => simp [intOf]; omega
    · have hw4r := hbr
      have hb3r : Below w3.heap.size w3 wr := Below.andThen B4.out (Below.andThen C4.out hbr)
      obtain ⟨b1, o1, -, -, rfl, -⟩ := HW.out.1.at (i := 0) (e := e0) rfl
      have HFF : Hid (∀ w', Below wr.heap.size wr w' → Calls Tryd.prog 16 #[.pointer (some ⟨g', 0, none⟩), .slice (some ⟨b1, o1, none⟩) 2 d1, .int .i64 (l : Int)] w' fun e w'' => e = .returned (.bool true) ∧ Below w'.heap.size w' w'') := Lib.hid fun w' hb => by
        have h4 := Below.andThen hw4r hb
        have h3 := Below.andThen hb3r hb
        exact flat_c (L := [e0, e1]) (c := d1) (HNP.out.below h3 (Nat.le_refl _) h3.size) (ks2_flat _ _ _ _ _) (HTZ.out.on (Below.andThen hI.below hb)) (HW.out.1.below h4 (Nat.le_refl _) h4.size) (ks2_perm HL.out.2.2.2.2.1) (Nat.le_refl _) HW.out.2
      obtain ⟨bq, hnd, hat⟩ : ∃ bq, NdAt wr wr.heap.size g (l : Int) (Z.cut e0.1 (l + 1)) 0 (some ⟨bq, 0, none⟩) (Tr.sums (Tr.entsL ks)) ∧ Sn.At wr wr.heap.size bq e0.1.length (kidL ks) := by cases hI.node.2 with | br _ _ _ _ q h1 h2 => exact ⟨q, h1, h2⟩
      have hML : M.length = ks.length := by rw [hI.perm.length_eq, flat_ents hI.flat]
      have hks2 : 2 ≤ ks.length := by cases hI.node.1 with | br _ _ _ _ _ _ h2 => exact h2
      have hsrt : Sl.Srt ks := by cases hI.node.1 with | br _ _ _ _ _ hw => exact hw.srt
      have hatl : AtL l ks := fun x hx => by cases hI.node.1 with | br _ _ _ _ _ _ _ _ _ _ hc => exact (hc x hx).2.2
      have hkb : ∀ e' ∈ M, 1 ≤ e'.1.length ∧ e'.1.length ≤ 16 := fun e' he' => by
        have h2 := hI.node.1.each e' (by rw [Tr.ents_br]; exact hI.perm.mem_iff.1 he')
        have h3 := hI.node.1.k1
        have h4 := hI.node.1.k16
        omega
      have HKB := Lib.hid hkb
      obtain ⟨yy, hyy⟩ := get_lt (us := M) (k := 0) (by omega)
      obtain ⟨ab, ao, -, -, rfl, -⟩ := hI.ents.at hyy
      have hM30 : Hid (M.length ≤ 30) := Lib.hid (by omega)
      have HM30 := hM30
      obtain ⟨pw, hpw⟩ : ∃ pw, 2 ^ e0.1.length = pw := ⟨_, rfl⟩
      have hpw16 : pw ≤ 65536 := by rw [← hpw]; exact Nat.pow_le_pow_right (n := 2) (by omega) HA.out.2
      have hpI : (pw : Int) ≤ 65536 := by omega
      have hp0 : (0 : Int) ≤ (pw : Int) := by omega
      have HPW : Hid (∀ w', Calls Tryd.prog 18 #[.int .i64 (e0.1.length : Int)] w' fun e w'' => e = .returned (.int .u64 (pw : Int)) ∧ w' = w'') := Lib.hid fun w' => by
        rw [← hpw]; exact rpower_c e0.1.length w' (by have := HA.out.2; omega)
      have hz0 : ∀ w', Below wr.heap.size wr w' → w'.cell? ⟨b, off, none⟩ = some (.slice P0 e0.1.length p0c) := fun w' hb' => HU.out.1 w' (Below.andThen hI.below hb')
      have HI := Lib.hid (And.intro hI (And.intro hnd (And.intro hat (And.intro hML (And.intro hks2 (And.intro hsrt (And.intro hatl hpw)))))))
      have dj : decide ((j : Int) < (L.length : Int)) = false := decide_eq_false (by omega)
      have dj' : decide (j < L.length) = false := decide_eq_false hlt
      clear hI hnd hat hks2 hsrt hatl hyy hbr hw4r hb3r hlt hj2 hjL hMj hkb hM30
      by_cases ha : 0 ≤ a ∧ a < (pw : Int)
      · obtain ⟨m, rfl⟩ : ∃ m : Nat, a = (m : Int) := ⟨a.toNat, by omega⟩
        have hmw : m < pw := by omega
        have da : decide ((m : Int) < 0) = false := decide_eq_false (by omega)
        have dg : decide ((pw : Int) ≤ (m : Int)) = false := decide_eq_false (by omega)
        have dg' : decide (pw ≤ m) = false := decide_eq_false (by omega)
        clear ha
        rcases hh : Sl.has ks (m : Int) with _ | _
        · have HWo := Lib.hid (nWithout_no HI.out.2.1 HI.out.2.2.1 (m : Int) 6 (.inr ⟨rfl, m, rfl, by rw [HI.out.2.2.2.2.2.2.2]; exact hmw, by unfold Sl.has at hh ⊢; rw [kidL_get]; cases hg : Sl.get ks (m : Int) with | none => rfl | some t => rw [hg] at hh; cases hh⟩))
          have HH := Lib.hid hh
          clear hh
          go_wp2_with (first
            | (go_at_call 17; refine HWo.out.mono ?_; rintro e5 w5 ⟨rfl, hb5⟩; have z5 := hz0 w5 hb5; have H5 := Lib.hid hb5; clear hb5)
            | (go_at_call 18; refine (HPW.out _).mono ?_; rintro e6 w6 ⟨rfl, rfl⟩))
          have hEM := HI.out.1.ents.below H5.out (Nat.le_refl _) H5.out.size
          have HEM := Lib.hid hEM
          clear hEM z5 hz0
          generalize wr = wo at *
          go_loopw [21, 22] (fun u i wq => ∃ (q : Nat) (D : Option Addr) (dd : Nat) (Lq : List Ent), q ≤ M.length ∧ i = .int .i64 q ∧ u = .slice D Lq.length dd ∧ Lq = (M.take q).filter (fun e' => decide (Z.addr e'.1 l ≠ m)) ∧ OwnL 31 2 (EntQ w5 w5.heap.size) wq w5.heap.size (.slice D Lq.length dd) Lq ∧ Below w5.heap.size w5 wq) (fun _ i _ => M.length - (intOf i).toNat)
          case atStart => exact ⟨0, _, _, [], Nat.zero_le _, rfl, rfl, rfl, ownL_nil _ w5, below_alloc w5 _⟩
          case round =>
            obtain ⟨q, D9, d9, Lq, hq, rfl, rfl, hLq, hown, hb9⟩ := hrel
            by_cases hqlt : q < M.length
            · obtain ⟨y, hy⟩ := get_lt hqlt
              obtain ⟨ab', ao', Py, pyc, hAy, hab', cy0, cy1, py, ply, pvy⟩ := HEM.out.at hy
              simp only [Option.some.injEq, Addr.mk.injEq, and_true] at hAy
              obtain ⟨rfl, rfl⟩ := hAy
              have ey0 : wr.cell? ⟨ab, ao + q * 2, none⟩ = some (.slice Py y.1.length pyc) := (hb9.cell (p := ⟨ab, ao + q * 2, none⟩) hab').trans cy0
              have ey1 : wr.cell? ⟨ab, ao + q * 2 + 1, none⟩ = some (.int .u64 (y.2 : Int)) := (hb9.cell (p := ⟨ab, ao + q * 2 + 1, none⟩) hab').trans cy1
              have hyk := HKB.out y (List.mem_of_getElem? hy)
              have HAd := Lib.hid (raddr_c Py pyc y.1 l w5.heap.size wr (py.below' hb9 (Nat.le_refl _)) hyk.1 hyk.2 HL.out.2.1)
              have m1 : (0 : Int) ≤ (q : Int) := by omega
              have m2 : (q : Int) < (M.length : Int) := by omega
              have hLl : Lq.length ≤ q := by rw [hLq]; exact Nat.le_trans (List.length_filter_le _ _) (by rw [List.length_take]; omega)
              have hM30 : M.length ≤ 30 := HM30.out
              by_cases hne : Z.addr y.1 l = m
              · have nn : ((Z.addr y.1 l : Int) != (m : Int)) = false := by simp [hne]
                have hstep : Lq = (M.take (q + 1)).filter (fun e' => decide (Z.addr e'.1 l ≠ m)) := by
                  rw [List.take_add_one, hy, List.filter_append, ← hLq]
                  simp [hne]
                have HQ := Lib.hid (And.intro hstep (And.intro hown (And.intro hb9 hqlt)))
                clear hstep hown hb9 hqlt hy cy0 cy1 py ply pvy hyk hne hLq hLl hq
                go_wp2_with (go_at_call 14; refine HAd.out.mono ?_; rintro e9 w9 ⟨rfl, rfl⟩)
                go_roundw
                case rel => exact ⟨q + 1, D9, d9, Lq, by have := HQ.out.2.2.2; omega, by go_num, rfl, HQ.out.1, HQ.out.2.1, HQ.out.2.2.1⟩
                case measure => simp [intOf]; have := HQ.out.2.2.2; omega
              · have nn : ((Z.addr y.1 l : Int) != (m : Int)) = true := by simp; omega
                have hstep : Lq ++ [y] = (M.take (q + 1)).filter (fun e' => decide (Z.addr e'.1 l ≠ m)) := by
                  rw [List.take_add_one, hy, List.filter_append, ← hLq]
                  simp [hne]
                have HQ := Lib.hid (And.intro hstep (And.intro hown (And.intro hb9 (And.intro hqlt (And.intro py (And.intro ply (And.intro pvy hLl)))))))
                clear hstep hown hb9 hqlt hy cy0 cy1 py ply pvy hyk hne hLq hLl hq
                go_wp2_with (first
                  | (go_at_call 14; refine HAd.out.mono ?_; rintro e9 w9 ⟨rfl, rfl⟩)
                  | (at_builtin; refine wpList_append_list (Q := EntQ w5 w5.heap.size) 22 31 (.agg #[.slice none 0 0, .int .u64 0]) 32 Tryd.underlying22 infoE2 (by rfl) (by omega) (by omega) (entQ_ok _ _) (by rfl) _ _ (by rfl) w5.heap.size (.slice D9 Lq.length d9) Lq [y] (Lq.length + 1) (by simp) (by rfl) (by exact HQ.out.2.1.below (below_alloc _ _) (Nat.le_refl _)) _ _ 1 1 (by rfl) (by rfl) (by exact lst_at (entQ_ok _ _) #[.slice Py y.1.length pyc, .int .u64 (y.2 : Int)] y (by rfl) (by exact ⟨Py, pyc, rfl, rfl, HQ.out.2.2.2.2.1, HQ.out.2.2.2.2.2.1, HQ.out.2.2.2.2.2.2.1⟩)) (by have := HQ.out.2.2.2.1; have := HQ.out.2.2.2.2.2.2.2; omega) (by have := HQ.out.2.2.1.size; simp; omega) ?_; intro D8 d8 w9 hown8 hgrow8 hat8; have hg8 := Below.grown (HQ.out.2.2.1.trans ((below_alloc wr (.cells #[.slice Py y.1.length pyc, .int .u64 (y.2 : Int)] 31)).mono HQ.out.2.2.1.size)) hgrow8 (by have := HQ.out.2.2.1.size; simp; omega) (fun z hz => (HQ.out.2.1.lt z hz).1); have H8 := Lib.hid (And.intro hown8 hg8); clear hown8 hgrow8 hat8 hg8))
                go_roundw
                case rel => exact ⟨q + 1, D8, d8, Lq ++ [y], by have := HQ.out.2.2.2.1; omega, by go_num, by simp, HQ.out.1, by simpa using H8.out.1, H8.out.2⟩
                case measure => simp [intOf]; have := HQ.out.2.2.2.1; omega
            · have hqM : q = M.length := by omega
              subst hqM
              rw [List.take_length] at hLq
              have hlp := left_len (a := m) HI.out.2.2.2.2.2.1 HI.out.1.flat HI.out.2.2.2.2.2.2.1 HI.out.1.perm
              rw [← hLq] at hlp
              have HQ := Lib.hid (And.intro hown (And.intro hb9 hLq))
              clear hown hb9 hq hqlt
              generalize wr = w9 at *
              have hb59 : Below wo.heap.size wo w9 := Below.andThen H5.out HQ.out.2.1
              have hdn : Sl.del m ks = ks := Sl.del_none (by have := HH.out; unfold Sl.has at this; cases hg : Sl.get ks (m : Int) with | none => rfl | some t => rw [hg] at this; cases this)
              rw [hdn] at hlp
              have ee : ((Lq.length : Int) == (M.length : Int)) = true := by simp; omega
              have HBB := Lib.hid hb59
              clear hlp hdn hLq hb59
              go_wp2_with (go_at_call 16; refine (HFF.out _ HBB.out).mono ?_; rintro e6 w6 ⟨rfl, hb6⟩)
              go_ret
              exact ⟨rfl, Below.andThen HI.out.1.below (Below.andThen HBB.out hb6)⟩
        · have hdl : (Sl.del m ks).length + 1 = ks.length := by
            unfold Sl.has at hh
            obtain ⟨v, hv⟩ := Option.isSome_iff_exists.1 hh
            exact Sl.length_del HI.out.2.2.2.2.2.1 hv
          by_cases h1 : (Sl.del m ks).length = 1
          · obtain ⟨x, hx⟩ : ∃ x, Sl.del m ks = [x] := by
              cases hd : Sl.del m ks with
              | nil => rw [hd] at h1; simp at h1
              | cons x t => rw [hd] at h1; simp at h1; rw [h1]; exact ⟨x, rfl⟩
            obtain ⟨gx, px, vx, hxe, hxm, hxa, hxl⟩ := left_one (a := m) HI.out.2.2.2.2.2.1 HI.out.1.flat HI.out.2.2.2.2.2.2.1 HI.out.1.perm hx
            have hxn : Node wr wr.heap.size e0.1.length (T.ent gx px vx) := by have := HI.out.1.node.kid hxm; rw [hxe] at this; exact this
            have hxg : Sl.get ks (x.1 : Int) = some (T.ent gx px vx) := by rw [Sl.get_of_mem HI.out.2.2.2.2.2.1 hxm, hxe]
            have HXX := Lib.hid (And.intro hxn (And.intro hxg (And.intro hxa hxl)))
            have HWo := Lib.hid (show Calls Tryd.prog 17 #[.pointer (some ⟨g, 0, none⟩), .int .i64 (m : Int)] wr fun e w' => e = .returned (.tuple #[.pointer (some ⟨gx, 0, none⟩), .int .i64 0]) ∧ Below wr.heap.size wr w' from nWithout_one (x := (x.1, some ⟨gx, 0, none⟩)) HI.out.2.1 HI.out.2.2.1 (Nat.le_refl _) m (by rw [HI.out.2.2.2.2.2.2.2]; exact hmw) (by unfold Sl.has at hh ⊢; rw [kidL_get]; cases hg : Sl.get ks (m : Int) with | none => rw [hg] at hh; cases hh | some t => rfl) (by rw [← kidL_del, hx, kidL_eq]; simp [at0, hxe, T.blk]))
            clear hh hx hxe hxm hxa hxl hxn hxg h1 hdl
            go_wp2_with (first
              | (go_at_call 17; refine HWo.out.mono ?_; rintro e5 w5 ⟨rfl, hb5⟩; have z5 := hz0 w5 hb5; have H5 := Lib.hid hb5; clear hb5)
              | (go_at_call 18; refine (HPW.out _).mono ?_; rintro e6 w6 ⟨rfl, rfl⟩))
            have hEM := HI.out.1.ents.below H5.out (Nat.le_refl _) H5.out.size
            have HEM := Lib.hid hEM
            clear hEM z5 hz0
            generalize wr = wo at *
            go_loopw [21, 22] (fun u i wq => ∃ (q : Nat) (D : Option Addr) (dd : Nat) (Lq : List Ent), q ≤ M.length ∧ i = .int .i64 q ∧ u = .slice D Lq.length dd ∧ Lq = (M.take q).filter (fun e' => decide (Z.addr e'.1 l ≠ m)) ∧ OwnL 31 2 (EntQ w5 w5.heap.size) wq w5.heap.size (.slice D Lq.length dd) Lq ∧ Below w5.heap.size w5 wq) (fun _ i _ => M.length - (intOf i).toNat)
            case atStart => exact ⟨0, _, _, [], Nat.zero_le _, rfl, rfl, rfl, ownL_nil _ w5, below_alloc w5 _⟩
            case round =>
              obtain ⟨q, D9, d9, Lq, hq, rfl, rfl, hLq, hown, hb9⟩ := hrel
              by_cases hqlt : q < M.length
              · obtain ⟨y, hy⟩ := get_lt hqlt
                obtain ⟨ab', ao', Py, pyc, hAy, hab', cy0, cy1, py, ply, pvy⟩ := HEM.out.at hy
                simp only [Option.some.injEq, Addr.mk.injEq, and_true] at hAy
                obtain ⟨rfl, rfl⟩ := hAy
                have ey0 : wr.cell? ⟨ab, ao + q * 2, none⟩ = some (.slice Py y.1.length pyc) := (hb9.cell (p := ⟨ab, ao + q * 2, none⟩) hab').trans cy0
                have ey1 : wr.cell? ⟨ab, ao + q * 2 + 1, none⟩ = some (.int .u64 (y.2 : Int)) := (hb9.cell (p := ⟨ab, ao + q * 2 + 1, none⟩) hab').trans cy1
                have hyk := HKB.out y (List.mem_of_getElem? hy)
                have HAd := Lib.hid (raddr_c Py pyc y.1 l w5.heap.size wr (py.below' hb9 (Nat.le_refl _)) hyk.1 hyk.2 HL.out.2.1)
                have m1 : (0 : Int) ≤ (q : Int) := by omega
                have m2 : (q : Int) < (M.length : Int) := by omega
                have hLl : Lq.length ≤ q := by rw [hLq]; exact Nat.le_trans (List.length_filter_le _ _) (by rw [List.length_take]; omega)
                have hM30 : M.length ≤ 30 := HM30.out
                by_cases hne : Z.addr y.1 l = m
                · have nn : ((Z.addr y.1 l : Int) != (m : Int)) = false := by simp [hne]
                  have hstep : Lq = (M.take (q + 1)).filter (fun e' => decide (Z.addr e'.1 l ≠ m)) := by
                    rw [List.take_add_one, hy, List.filter_append, ← hLq]
                    simp [hne]
                  have HQ := Lib.hid (And.intro hstep (And.intro hown (And.intro hb9 hqlt)))
                  clear hstep hown hb9 hqlt hy cy0 cy1 py ply pvy hyk hne hLq hLl hq
                  go_wp2_with (go_at_call 14; refine HAd.out.mono ?_; rintro e9 w9 ⟨rfl, rfl⟩)
                  go_roundw
                  case rel => exact ⟨q + 1, D9, d9, Lq, by have := HQ.out.2.2.2; omega, by go_num, rfl, HQ.out.1, HQ.out.2.1, HQ.out.2.2.1⟩
                  case measure => simp [intOf]; have := HQ.out.2.2.2; omega
                · have nn : ((Z.addr y.1 l : Int) != (m : Int)) = true := by simp; omega
                  have hstep : Lq ++ [y] = (M.take (q + 1)).filter (fun e' => decide (Z.addr e'.1 l ≠ m)) := by
                    rw [List.take_add_one, hy, List.filter_append, ← hLq]
                    simp [hne]
                  have HQ := Lib.hid (And.intro hstep (And.intro hown (And.intro hb9 (And.intro hqlt (And.intro py (And.intro ply (And.intro pvy hLl)))))))
                  clear hstep hown hb9 hqlt hy cy0 cy1 py ply pvy hyk hne hLq hLl hq
                  go_wp2_with (first
                    | (go_at_call 14; refine HAd.out.mono ?_; rintro e9 w9 ⟨rfl, rfl⟩)
                    | (at_builtin; refine wpList_append_list (Q := EntQ w5 w5.heap.size) 22 31 (.agg #[.slice none 0 0, .int .u64 0]) 32 Tryd.underlying22 infoE2 (by rfl) (by omega) (by omega) (entQ_ok _ _) (by rfl) _ _ (by rfl) w5.heap.size (.slice D9 Lq.length d9) Lq [y] (Lq.length + 1) (by simp) (by rfl) (by exact HQ.out.2.1.below (below_alloc _ _) (Nat.le_refl _)) _ _ 1 1 (by rfl) (by rfl) (by exact lst_at (entQ_ok _ _) #[.slice Py y.1.length pyc, .int .u64 (y.2 : Int)] y (by rfl) (by exact ⟨Py, pyc, rfl, rfl, HQ.out.2.2.2.2.1, HQ.out.2.2.2.2.2.1, HQ.out.2.2.2.2.2.2.1⟩)) (by have := HQ.out.2.2.2.1; have := HQ.out.2.2.2.2.2.2.2; omega) (by have := HQ.out.2.2.1.size; simp; omega) ?_; intro D8 d8 w9 hown8 hgrow8 hat8; have hg8 := Below.grown (HQ.out.2.2.1.trans ((below_alloc wr (.cells #[.slice Py y.1.length pyc, .int .u64 (y.2 : Int)] 31)).mono HQ.out.2.2.1.size)) hgrow8 (by have := HQ.out.2.2.1.size; simp; omega) (fun z hz => (HQ.out.2.1.lt z hz).1); have H8 := Lib.hid (And.intro hown8 hg8); clear hown8 hgrow8 hat8 hg8))
                  go_roundw
                  case rel => exact ⟨q + 1, D8, d8, Lq ++ [y], by have := HQ.out.2.2.2.1; omega, by go_num, by simp, HQ.out.1, by simpa using H8.out.1, H8.out.2⟩
                  case measure => simp [intOf]; have := HQ.out.2.2.2.1; omega
              · have hqM : q = M.length := by omega
                subst hqM
                rw [List.take_length] at hLq
                rw [HXX.out.2.2.2] at hLq
                subst hLq
                have HQ := Lib.hid (And.intro hown (And.intro hb9 trivial))
                clear hown hb9 hq hqlt
                generalize wr = w9 at *
                have hb59 : Below wo.heap.size wo w9 := Below.andThen H5.out HQ.out.2.1
                have ee : (((1 : Nat) : Int) == (M.length : Int)) = false := by have := HI.out.2.2.2.1; have := HI.out.2.2.2.2.1; simp; omega
                have ee' : ((1 : Int) == (M.length : Int)) = false := by have := HI.out.2.2.2.1; have := HI.out.2.2.2.2.1; simp; omega
                obtain ⟨-, hcap9, hE9⟩ := ownE_at HQ.out.1 HQ.out.2.1 (Nat.le_refl _)
                have hE := hE9.ents HQ.out.2.1.size (Nat.le_refl _)
                obtain ⟨b9, o9, P9, c9, rfl, hb9', x9, -, p9, -, -⟩ := hE.at (i := 0) (e := (px, vx)) rfl
                have x9' : ∀ w', Below w9.heap.size w9 w' → w'.cell? ⟨b9, o9, none⟩ = some (.slice P9 px.length c9) := fun w' hb => (hb.cell (p := ⟨b9, o9, none⟩) hb9').trans (by simpa using x9)
                have HIs := Lib.hid (is_ent (c := d9) (HXX.out.1.below hb59 (Nat.le_refl _) hb59.size) hE (Nat.le_refl _))
                have hpl : 1 ≤ px.length ∧ px.length ≤ 16 := by cases HXX.out.1.1 with | ent _ _ _ k1 k16 hl => omega
                have HAdd : Hid (∀ w', Below w9.heap.size w9 w' → Calls Tryd.prog 14 #[.slice P9 px.length c9, .int .i64 (l : Int)] w' fun e w'' => e = .returned (.int .i64 (x.1 : Int)) ∧ w' = w'') := Lib.hid fun w' hb => by
                  rw [← HXX.out.2.2.1]
                  exact raddr_c P9 c9 px l w9.heap.size w' (p9.below' hb (Nat.le_refl _)) hpl.1 hpl.2 HL.out.2.1
                have HKid : Hid (∀ w', Below wo.heap.size wo w' → Calls Tryd.prog 15 #[.pointer (some ⟨g, 0, none⟩), .int .i64 (x.1 : Int)] w' fun e w'' => e = .returned (.pointer (some ⟨gx, 0, none⟩)) ∧ ∃ i, w'' = w'.drewN i) := Lib.hid fun w' hb => by
                  have h1 := HI.out.1.node.below hb (Nat.le_refl _) (Nat.le_refl _)
                  obtain ⟨bk, h3, h4⟩ : ∃ bk, NdAt w' wo.heap.size g (l : Int) (Z.cut e0.1 (l + 1)) 0 (some ⟨bk, 0, none⟩) (Tr.sums (Tr.entsL ks)) ∧ Sn.At w' wo.heap.size bk e0.1.length (kidL ks) := by cases h1.2 with | br _ _ _ _ q h1 h2 => exact ⟨q, h1, h2⟩
                  exact nKid_br h3 h4 (x.1 : Int) _ (by rw [kidL_get, HXX.out.2.1]; rfl)
                have hpe := ptr_eq
                have HBB := Lib.hid hb59
                clear hE9 hE hcap9 x9 p9 hpl hb59 hb9'
                go_wp2_with (first
                  | (go_at_call 19; refine HIs.out.mono ?_; rintro e6 w6 ⟨rfl, hb6⟩; have x6 := x9' w6 hb6; have H6 := Lib.hid hb6; clear hb6)
                  | (go_at_call 14; refine (HAdd.out _ H6.out).mono ?_; rintro e7 w7 ⟨rfl, rfl⟩)
                  | (go_at_call 15; refine (HKid.out _ (Below.andThen HBB.out H6.out)).mono ?_; rintro e8 w8 ⟨rfl, i8, rfl⟩)
                  | (go_at_call 16; refine (HFF.out _ (below_drewN i8 (Below.andThen HBB.out H6.out))).mono ?_; rintro e6 w10 ⟨rfl, hb10⟩; have H10 := Lib.hid hb10; clear hb10))
                go_ret
                exact ⟨rfl, Below.andThen HI.out.1.below (Below.andThen (below_drewN i8 (Below.andThen HBB.out H6.out)) H10.out)⟩
          · have hfl := flat_del HI.out.1.flat m
            have HWo := Lib.hid (nWithout_two HI.out.1.node (Nat.le_refl _) m (by rw [HI.out.2.2.2.2.2.2.2]; exact hmw) hh (by have := HI.out.2.2.2.2.1; omega) (by rw [← HI.out.1.perm.length_eq]; have := HM30.out; omega))
            have HDL := Lib.hid (And.intro hdl h1)
            clear hh hdl h1
            go_wp2_with (first
              | (go_at_call 17; refine HWo.out.mono ?_; rintro e5 w5 ⟨gn, rfl, hnn, -, hb5⟩; have HNN5 := Lib.hid hnn; clear hnn; have z5 := hz0 w5 hb5; have H5 := Lib.hid hb5; clear hb5)
              | (go_at_call 18; refine (HPW.out _).mono ?_; rintro e6 w6 ⟨rfl, rfl⟩))
            have hEM := HI.out.1.ents.below H5.out (Nat.le_refl _) H5.out.size
            have HEM := Lib.hid hEM
            clear hEM z5 hz0
            generalize wr = wo at *
            go_loopw [21, 22] (fun u i wq => ∃ (q : Nat) (D : Option Addr) (dd : Nat) (Lq : List Ent), q ≤ M.length ∧ i = .int .i64 q ∧ u = .slice D Lq.length dd ∧ Lq = (M.take q).filter (fun e' => decide (Z.addr e'.1 l ≠ m)) ∧ OwnL 31 2 (EntQ w5 w5.heap.size) wq w5.heap.size (.slice D Lq.length dd) Lq ∧ Below w5.heap.size w5 wq) (fun _ i _ => M.length - (intOf i).toNat)
            case atStart => exact ⟨0, _, _, [], Nat.zero_le _, rfl, rfl, rfl, ownL_nil _ w5, below_alloc w5 _⟩
            case round =>
              obtain ⟨q, D9, d9, Lq, hq, rfl, rfl, hLq, hown, hb9⟩ := hrel
              by_cases hqlt : q < M.length
              · obtain ⟨y, hy⟩ := get_lt hqlt
                obtain ⟨ab', ao', Py, pyc, hAy, hab', cy0, cy1, py, ply, pvy⟩ := HEM.out.at hy
                simp only [Option.some.injEq, Addr.mk.injEq, and_true] at hAy
                obtain ⟨rfl, rfl⟩ := hAy
                have ey0 : wr.cell? ⟨ab, ao + q * 2, none⟩ = some (.slice Py y.1.length pyc) := (hb9.cell (p := ⟨ab, ao + q * 2, none⟩) hab').trans cy0
                have ey1 : wr.cell? ⟨ab, ao + q * 2 + 1, none⟩ = some (.int .u64 (y.2 : Int)) := (hb9.cell (p := ⟨ab, ao + q * 2 + 1, none⟩) hab').trans cy1
                have hyk := HKB.out y (List.mem_of_getElem? hy)
                have HAd := Lib.hid (raddr_c Py pyc y.1 l w5.heap.size wr (py.below' hb9 (Nat.le_refl _)) hyk.1 hyk.2 HL.out.2.1)
                have m1 : (0 : Int) ≤ (q : Int) := by omega
                have m2 : (q : Int) < (M.length : Int) := by omega
                have hLl : Lq.length ≤ q := by rw [hLq]; exact Nat.le_trans (List.length_filter_le _ _) (by rw [List.length_take]; omega)
                have hM30 : M.length ≤ 30 := HM30.out
                by_cases hne : Z.addr y.1 l = m
                · have nn : ((Z.addr y.1 l : Int) != (m : Int)) = false := by simp [hne]
                  have hstep : Lq = (M.take (q + 1)).filter (fun e' => decide (Z.addr e'.1 l ≠ m)) := by
                    rw [List.take_add_one, hy, List.filter_append, ← hLq]
                    simp [hne]
                  have HQ := Lib.hid (And.intro hstep (And.intro hown (And.intro hb9 hqlt)))
                  clear hstep hown hb9 hqlt hy cy0 cy1 py ply pvy hyk hne hLq hLl hq
                  go_wp2_with (go_at_call 14; refine HAd.out.mono ?_; rintro e9 w9 ⟨rfl, rfl⟩)
                  go_roundw
                  case rel => exact ⟨q + 1, D9, d9, Lq, by have := HQ.out.2.2.2; omega, by go_num, rfl, HQ.out.1, HQ.out.2.1, HQ.out.2.2.1⟩
                  case measure => simp [intOf]; have := HQ.out.2.2.2; omega
                · have nn : ((Z.addr y.1 l : Int) != (m : Int)) = true := by simp; omega
                  have hstep : Lq ++ [y] = (M.take (q + 1)).filter (fun e' => decide (Z.addr e'.1 l ≠ m)) := by
                    rw [List.take_add_one, hy, List.filter_append, ← hLq]
                    simp [hne]
                  have HQ := Lib.hid (And.intro hstep (And.intro hown (And.intro hb9 (And.intro hqlt (And.intro py (And.intro ply (And.intro pvy hLl)))))))
                  clear hstep hown hb9 hqlt hy cy0 cy1 py ply pvy hyk hne hLq hLl hq
                  go_wp2_with (first
                    | (go_at_call 14; refine HAd.out.mono ?_; rintro e9 w9 ⟨rfl, rfl⟩)
                    | (at_builtin; refine wpList_append_list (Q := EntQ w5 w5.heap.size) 22 31 (.agg #[.slice none 0 0, .int .u64 0]) 32 Tryd.underlying22 infoE2 (by rfl) (by omega) (by omega) (entQ_ok _ _) (by rfl) _ _ (by rfl) w5.heap.size (.slice D9 Lq.length d9) Lq [y] (Lq.length + 1) (by simp) (by rfl) (by exact HQ.out.2.1.below (below_alloc _ _) (Nat.le_refl _)) _ _ 1 1 (by rfl) (by rfl) (by exact lst_at (entQ_ok _ _) #[.slice Py y.1.length pyc, .int .u64 (y.2 : Int)] y (by rfl) (by exact ⟨Py, pyc, rfl, rfl, HQ.out.2.2.2.2.1, HQ.out.2.2.2.2.2.1, HQ.out.2.2.2.2.2.2.1⟩)) (by have := HQ.out.2.2.2.1; have := HQ.out.2.2.2.2.2.2.2; omega) (by have := HQ.out.2.2.1.size; simp; omega) ?_; intro D8 d8 w9 hown8 hgrow8 hat8; have hg8 := Below.grown (HQ.out.2.2.1.trans ((below_alloc wr (.cells #[.slice Py y.1.length pyc, .int .u64 (y.2 : Int)] 31)).mono HQ.out.2.2.1.size)) hgrow8 (by have := HQ.out.2.2.1.size; simp; omega) (fun z hz => (HQ.out.2.1.lt z hz).1); have H8 := Lib.hid (And.intro hown8 hg8); clear hown8 hgrow8 hat8 hg8))
                  go_roundw
                  case rel => exact ⟨q + 1, D8, d8, Lq ++ [y], by have := HQ.out.2.2.2.1; omega, by go_num, by simp, HQ.out.1, by simpa using H8.out.1, H8.out.2⟩
                  case measure => simp [intOf]; have := HQ.out.2.2.2.1; omega
              · have hqM : q = M.length := by omega
                subst hqM
                rw [List.take_length] at hLq
                have hlp := left_len (a := m) HI.out.2.2.2.2.2.1 HI.out.1.flat HI.out.2.2.2.2.2.2.1 HI.out.1.perm
                rw [← hLq] at hlp
                have HQ := Lib.hid (And.intro hown (And.intro hb9 hLq))
                clear hown hb9 hq hqlt
                generalize wr = w9 at *
                have hb59 : Below wo.heap.size wo w9 := Below.andThen H5.out HQ.out.2.1
                have ee : ((Lq.length : Int) == (M.length : Int)) = false := by have := HDL.out.1; have := HI.out.2.2.2.1; simp; omega
                have e1 : ((Lq.length : Int) == 1) = false := by have := HDL.out.2; simp; omega
                obtain ⟨-, hcap9, hE9⟩ := ownE_at HQ.out.1 HQ.out.2.1 (Nat.le_refl _)
                have hE := hE9.ents HQ.out.2.1.size (Nat.le_refl _)
                obtain ⟨y9, hy9⟩ := get_lt (us := Lq) (k := 0) (by have := HDL.out.1; have := HI.out.2.2.2.2.1; omega)
                obtain ⟨b9, o9, -, -, rfl, -⟩ := hE.at hy9
                have hperm : Lq.Perm (Tr.entsL (Sl.del m ks)) := by rw [hLq]; exact left_perm HI.out.2.2.2.2.2.1 HI.out.1.flat HI.out.2.2.2.2.2.2.1 HI.out.1.perm
                have HF1 := Lib.hid (flat_c (c := d9) (HNN5.out.below HQ.out.2.1 (Nat.le_refl _) HQ.out.2.1.size) hfl (HTZ.out.on (Below.andThen HI.out.1.below hb59)) hE hperm (Nat.le_refl _) hcap9)
                have HBB := Lib.hid hb59
                clear hlp hLq hb59 hcap9 hE9 hE hy9 hperm hfl
                go_wp2_with (first
                  | (go_at_call 16; with_reducible refine HF1.out.mono ?_; rintro e6 w6 ⟨rfl, hb6⟩; have H6 := Lib.hid hb6; clear hb6)
                  | (go_at_call 16; with_reducible refine (HFF.out _ (Below.andThen HBB.out H6.out)).mono ?_; rintro e6 w10 ⟨rfl, hb10⟩; have H10 := Lib.hid hb10; clear hb10))
                go_ret
                exact ⟨rfl, Below.andThen HI.out.1.below (Below.andThen (Below.andThen HBB.out H6.out) H10.out)⟩
      · have hisa : Sn.isA e0.1.length a = false := by
          unfold Sn.isA
          rw [HI.out.2.2.2.2.2.2.2]
          by_cases h0 : 0 ≤ a
          · have : ¬ a < (pw : Int) := fun h => ha ⟨h0, h⟩
            simp [this]
          · simp [h0]
        have HWo := Lib.hid (nWithout_no HI.out.2.1 HI.out.2.2.1 a 3 (.inl ⟨rfl, hisa⟩))
        clear hisa
        by_cases h0 : a < 0
        · have da : decide (a < 0) = true := decide_eq_true h0
          clear ha h0
          go_wp2_with (first
            | (go_at_call 17; refine HWo.out.mono ?_; rintro e5 w5 ⟨rfl, hb5⟩; have H5 := Lib.hid hb5; clear hb5)
            | (go_at_call 16; refine (HFF.out _ H5.out).mono ?_; rintro e6 w6 ⟨rfl, hb6⟩; have H6 := Lib.hid hb6; clear hb6))
          go_ret
          exact ⟨rfl, Below.andThen HI.out.1.below (Below.andThen H5.out H6.out)⟩
        · have da : decide (a < 0) = false := decide_eq_false h0
          have dg : decide ((pw : Int) ≤ a) = true := decide_eq_true (by omega)
          clear ha h0
          go_wp2_with (first
            | (go_at_call 17; refine HWo.out.mono ?_; rintro e5 w5 ⟨rfl, hb5⟩; have z5 := hz0 w5 hb5; have H5 := Lib.hid hb5; clear hb5)
            | (go_at_call 18; refine (HPW.out _).mono ?_; rintro e6 w6 ⟨rfl, rfl⟩)
            | (go_at_call 16; refine (HFF.out _ H5.out).mono ?_; rintro e6 w6 ⟨rfl, hb6⟩; have H6 := Lib.hid hb6; clear hb6))
          go_ret
          exact ⟨rfl, Below.andThen HI.out.1.below (Below.andThen H5.out H6.out)⟩
end Go.Proofs.YtccefboifhfkdaaDoor
