import Derived.Test.YtpgkfccfabnjdaaGreatDoorM72
import Derived.Test.YtpgkfccfabnjdaaGreatDoorM30
import Derived.Test.YtpgkfccfabnjdaaGreatDoorM13
/-
  CONTRACTS of package rank: over, the five ways that it goes.
-/
namespace Go.Proofs.YtpgkfccfabnjdaaGreatDoor
open Go.RowKit Go.Shelf
open Tr (T S4 Ent)
attribute [local go_sem] Oper.semAt_some

theorem prefix_at {w w2 : World} {B k : Nat} {t : T} (h : Node w B k t) (hB : B ≤ w.heap.size) (h2 : Below w.heap.size w w2) :
    Calls Tryz.prog 112 #[.pointer (some ⟨t.blk, 0, none⟩)] w2 fun e w' => ∃ h d, e = .returned (.slice (some ⟨h, 0, none⟩) t.pre.length d) ∧ Pts w' w'.heap.size (some ⟨h, 0, none⟩) t.pre ∧ Below w2.heap.size w2 w' := by
  have hn := h.below h2 hB (Nat.le_refl _)
  obtain ⟨kp, hnd⟩ := hn.2.nd
  have hlen := h.1.len
  have k1 := h.1.k1
  have k16 := h.1.k16
  refine (nPrefix_c hnd (Nat.le_trans hB h2.size) (by intro e; rw [e] at hlen; simp at hlen; omega) (by omega)).mono ?_
  rintro e w' ⟨g, d, rfl, ho, hb⟩
  obtain ⟨A', c', hv, hp'⟩ := ho.pts
  simp only [Value.slice.injEq] at hv
  obtain ⟨rfl, -, rfl⟩ := hv
  exact ⟨g, d, rfl, hp', hb⟩
theorem level_at {w w2 : World} {B k : Nat} {t : T} (h : Node w B k t) (hB : B ≤ w.heap.size) (h2 : Below w.heap.size w w2) {lev : Int} (hl : levI t = lev) :
    Calls Tryz.prog 111 #[.pointer (some ⟨t.blk, 0, none⟩)] w2 fun e w' => e = .returned (.int .i64 lev) ∧ w2 = w' := by
  have hn := h.below h2 hB (Nat.le_refl _)
  obtain ⟨kp, hnd⟩ := hn.2.nd
  subst hl
  exact nLevel_c hnd
theorem part_at {w2 : World} {k : Nat} {us vs : List Nat} {A A' : Option Addr} {c c' B B' : Nat} (hp : Pts w2 B A us) (hB : B ≤ w2.heap.size) (hq : Pts w2 B' A' vs) (hB' : B' ≤ w2.heap.size) (hu : us.length = k) (hv : vs.length = k) (k1 : 1 ≤ k) (k16 : k ≤ 16) {m : Int} (hm : Z.part us vs = m) :
    Calls Tryz.prog 142 #[.slice A us.length c, .slice A' vs.length c'] w2 fun e w' => e = .returned (.tuple #[.int .i64 m, .int .i64 0]) ∧ w2 = w' := by
  subst hm
  exact part_yes A A' c c' us vs w2.heap.size w2 (hp.keep hB (fun _ _ => rfl)) (hq.keep hB' (fun _ _ => rfl)) (by omega) (by omega) (by omega)

theorem addr_at {w2 : World} {k l : Nat} {us : List Nat} {A : Option Addr} {c B : Nat} (hp : Pts w2 B A us) (hB : B ≤ w2.heap.size) (hu : us.length = k) (k1 : 1 ≤ k) (k16 : k ≤ 16) (hl : l ≤ 63) {a : Nat} (ha : Z.addr us l = a) :
    Calls Tryz.prog 119 #[.slice A us.length c, .int .i64 (l : Int)] w2 fun e w' => e = .returned (.tuple #[.int .i64 (a : Int), .int .i64 0]) ∧ w2 = w' := by
  subst ha
  exact addr_yes A c us l w2.heap.size w2 (hp.keep hB (fun _ _ => rfl)) (by omega) (by omega) hl
theorem kid_at {w w2 : World} {B k : Nat} {t : T} (h : Node w B k t) (hB : B ≤ w.heap.size) (h2 : Below w.heap.size w w2) (a : Int) {x : Option Addr} (hx : (Sl.get t.ks a).map (fun s => (⟨s.blk, 0, none⟩ : Addr)) = x) :
    Calls Tryz.prog 113 #[.pointer (some ⟨t.blk, 0, none⟩), .int .i64 a] w2 fun e w' => e = .returned (.pointer x) ∧ ∃ n, w' = w2.drewN n :=
  nKid_c (h.below h2 hB (Nat.le_refl _)).2 a x (by
    rw [kidL_get, ← hx]
    cases Sl.get t.ks a <;> rfl)
theorem br_l63 {k g l : Nat} {pre : List Nat} {ks : List (Nat × T)} (h : Tr.Wf k (.br g l pre ks)) : l ≤ 63 := by cases h with | br _ _ _ _ h63 => exact h63
theorem levI_br (g l : Nat) (pre : List Nat) (ks : List (Nat × T)) : levI (.br g l pre ks) = (l : Int) := by simp [levI, T.lv]

theorem prefix_br {w w2 : World} {B k g l : Nat} {pre : List Nat} {ks : List (Nat × T)} (h : Node w B k (.br g l pre ks)) (hB : B ≤ w.heap.size) (h2 : Below w.heap.size w w2) :
    Calls Tryz.prog 112 #[.pointer (some ⟨g, 0, none⟩)] w2 fun e w' => ∃ h d, e = .returned (.slice (some ⟨h, 0, none⟩) pre.length d) ∧ Pts w' w'.heap.size (some ⟨h, 0, none⟩) pre ∧ Below w2.heap.size w2 w' := prefix_at h hB h2
theorem level_br {w w2 : World} {B k g l : Nat} {pre : List Nat} {ks : List (Nat × T)} (h : Node w B k (.br g l pre ks)) (hB : B ≤ w.heap.size) (h2 : Below w.heap.size w w2) :
    Calls Tryz.prog 111 #[.pointer (some ⟨g, 0, none⟩)] w2 fun e w' => e = .returned (.int .i64 (l : Int)) ∧ w2 = w' := level_at h hB h2 (levI_br g l pre ks)
theorem kid_br {w w2 : World} {B k g l : Nat} {pre : List Nat} {ks : List (Nat × T)} (h : Node w B k (.br g l pre ks)) (hB : B ≤ w.heap.size) (h2 : Below w.heap.size w w2) (a : Int) {x : Option Addr} (hx : (Sl.get ks a).map (fun s => (⟨s.blk, 0, none⟩ : Addr)) = x) :
    Calls Tryz.prog 113 #[.pointer (some ⟨g, 0, none⟩), .int .i64 a] w2 fun e w' => e = .returned (.pointer x) ∧ ∃ n, w' = w2.drewN n := kid_at h hB h2 a hx

set_option maxRecDepth 1000000 in
set_option maxHeartbeats 4000000 in
theorem over_pair {w : World} {B k l : Nat} {a b : T} {la lb : Int} (ha : Node w B k a) (hb : Node w B k b) (hB : B ≤ w.heap.size) (hp : Z.part a.pre b.pre = (l : Int)) (hla : levI a = la) (hlb : levI b = lb) (hal : a.lv ≤ l) (hbl : b.lv ≤ l) (hc : a.ents.length + b.ents.length < 18446744073709551616) :
    Calls Tryz.prog 171 #[.pointer (some ⟨a.blk, 0, none⟩), .pointer (some ⟨b.blk, 0, none⟩)] w fun e w' => ∃ g', e = .returned (.tuple #[.pointer (some ⟨g', 0, none⟩), .pointer none, .pointer none]) ∧
      Node w' w'.heap.size k (.br g' l (Z.cut a.pre (l + 1)) (Sl.put (Z.addr b.pre l) b (Sl.put (Z.addr a.pre l) a []))) ∧ Below w.heap.size w w' := by
  have HPa := Lib.hid fun (w2 : World) (h2 : Below w.heap.size w w2) => prefix_at ha hB h2
  have HPb := Lib.hid fun (w2 : World) (h2 : Below w.heap.size w w2) => prefix_at hb hB h2
  have HLa := Lib.hid fun (w2 : World) (h2 : Below w.heap.size w w2) => level_at ha hB h2 hla
  have HLb := Lib.hid fun (w2 : World) (h2 : Below w.heap.size w w2) => level_at hb hB h2 hlb
  have HPt := Lib.hid fun (w2 : World) (A A' : Option Addr) (c c' B2 B3 : Nat) (h1 : Pts w2 B2 A a.pre) (h1' : B2 ≤ w2.heap.size) (h2 : Pts w2 B3 A' b.pre) (h2' : B3 ≤ w2.heap.size) => part_at (c := c) (c' := c') h1 h1' h2 h2' ha.1.len hb.1.len ha.1.k1 ha.1.k16 hp
  have HM := Lib.hid fun (w2 : World) (h2 : Below w.heap.size w w2) => nPair_c (ha.below h2 hB (Nat.le_refl _)) (hb.below h2 hB (Nat.le_refl _)) (Nat.le_trans hB h2.size) hp hal hbl hc
  have d1 : decide ((max la lb : Int) < (l : Int)) = true := decide_eq_true (by rw [← hla, ← hlb]; unfold levI; omega)
  clear ha hb hB hp hal hbl hc hla hlb
  generalize a.blk = ga at *
  generalize b.blk = gb at *
  generalize a.pre = pa at *
  generalize b.pre = pb at *
  have hb0 := Below.refl w.heap.size w
  refine (callsIn_wide (n := 8)).1 ?_
  refine callsIn_of_wp Tryz.func171 rfl trivial ?_ rfl
  simp only [Tryz.ntmps171, List.size_toArray, List.length_cons, List.length_nil, Nat.reduceAdd, Nat.reduceSub, Array.replicate_succ, Array.replicate_zero, List.push_toArray, List.append_toArray, List.nil_append, List.cons_append]
  gi_wp2_with (refine ⟨trivial, ?_⟩; first
    | ((with_reducible refine (callsIn_wide.2 (HPa.out _ hb0)).mono ?_); rintro e w2 ⟨h2, e2, rfl, hp2, hb2⟩)
    | ((with_reducible refine (callsIn_wide.2 (HPb.out _ hb2)).mono ?_); rintro e w3 ⟨h3, e3, rfl, hp3, hb3⟩; have hB3 := hb2.trans (hb3.mono hb2.size))
    | ((with_reducible refine (callsIn_wide.2 (HPt.out _ _ _ _ _ _ _ (hp2.below' hb3 (Nat.le_refl _)) hb3.size hp3 (Nat.le_refl _))).mono ?_); rintro e w' ⟨rfl, rfl⟩)
    | ((with_reducible refine (callsIn_wide.2 (HLa.out _ hB3)).mono ?_); rintro e w' ⟨rfl, rfl⟩)
    | ((with_reducible refine (callsIn_wide.2 (HLb.out _ hB3)).mono ?_); rintro e w' ⟨rfl, rfl⟩)
    | ((with_reducible refine (callsIn_wide.2 (HM.out _ hB3)).mono ?_); rintro e w4 ⟨g4, rfl, hn4, -, hb4⟩)
    )
  refine bodyPost_ret (v := .tuple #[.pointer (some ⟨g4, 0, none⟩), .pointer none, .pointer none]) (by simp [results, Tryz.f171, go_sem]) rfl ?_
  exact ⟨g4, rfl, hn4, hB3.trans (hb4.mono hB3.size)⟩
set_option maxRecDepth 1000000 in
set_option maxHeartbeats 4000000 in
theorem over_a_kid {w : World} {B k l ga : Nat} {pre : List Nat} {ka : List (Nat × T)} {b : T} {m l2 : Int} (ha : Node w B k (.br ga l pre ka)) (hb : Node w B k b) (hB : B ≤ w.heap.size) (hp : Z.part pre b.pre = m) (hlb : levI b = l2) (hm : m ≤ (l : Int)) (h2 : l2 < (l : Int)) {s : T} {z : Nat} (hz : Z.addr b.pre l = z) (hx : (Sl.get ka (z : Int)).map (fun s => (⟨s.blk, 0, none⟩ : Addr)) = some ⟨s.blk, 0, none⟩) :
    Calls Tryz.prog 171 #[.pointer (some ⟨ga, 0, none⟩), .pointer (some ⟨b.blk, 0, none⟩)] w fun e w' => e = .returned (.tuple #[.pointer (some ⟨ga, 0, none⟩), .pointer (some ⟨s.blk, 0, none⟩), .pointer (some ⟨b.blk, 0, none⟩)]) ∧ Below w.heap.size w w' := by
  have HPa := Lib.hid fun (w2 : World) (h2 : Below w.heap.size w w2) => prefix_br ha hB h2
  have HPb := Lib.hid fun (w2 : World) (h2 : Below w.heap.size w w2) => prefix_at hb hB h2
  have HLa := Lib.hid fun (w2 : World) (h2 : Below w.heap.size w w2) => level_br ha hB h2
  have HLb := Lib.hid fun (w2 : World) (h2 : Below w.heap.size w w2) => level_at hb hB h2 hlb
  have HPt := Lib.hid fun (w2 : World) (A A' : Option Addr) (c c' B2 B3 : Nat) (h1 : Pts w2 B2 A pre) (h1' : B2 ≤ w2.heap.size) (h2 : Pts w2 B3 A' b.pre) (h2' : B3 ≤ w2.heap.size) => part_at (c := c) (c' := c') h1 h1' h2 h2' ha.1.len hb.1.len ha.1.k1 ha.1.k16 hp
  have d1 : decide ((max (l : Int) l2 : Int) < m) = false := decide_eq_false (by omega)
  have d2 : decide ((l2 : Int) < (l : Int)) = true := decide_eq_true (by omega)
  have HAd := Lib.hid fun (w2 : World) (A : Option Addr) (c B2 : Nat) (h1 : Pts w2 B2 A b.pre) (h1' : B2 ≤ w2.heap.size) => addr_at (c := c) h1 h1' hb.1.len hb.1.k1 hb.1.k16 (br_l63 ha.1) hz
  have HKd := Lib.hid fun (w2 : World) (h2 : Below w.heap.size w w2) => kid_br ha hB h2 (z : Int) hx
  clear ha hb hB hp hlb hm h2 hz hx
  generalize b.blk = gy at *
  generalize b.pre = py at *
  have hb0 := Below.refl w.heap.size w
  refine (callsIn_wide (n := 8)).1 ?_
  refine callsIn_of_wp Tryz.func171 rfl trivial ?_ rfl
  simp only [Tryz.ntmps171, List.size_toArray, List.length_cons, List.length_nil, Nat.reduceAdd, Nat.reduceSub, Array.replicate_succ, Array.replicate_zero, List.push_toArray, List.append_toArray, List.nil_append, List.cons_append]
  gi_wp2_with (refine ⟨trivial, ?_⟩; first
    | ((with_reducible refine (callsIn_wide.2 (HPa.out _ hb0)).mono ?_); rintro e w2 ⟨h2, e2, rfl, hp2, hb2⟩)
    | ((with_reducible refine (callsIn_wide.2 (HPb.out _ hb2)).mono ?_); rintro e w3 ⟨h3, e3, rfl, hp3, hb3⟩; have hB3 := hb2.trans (hb3.mono hb2.size))
    | ((with_reducible refine (callsIn_wide.2 (HPt.out _ _ _ _ _ _ _ (hp2.below' hb3 (Nat.le_refl _)) hb3.size hp3 (Nat.le_refl _))).mono ?_); rintro e w' ⟨rfl, rfl⟩)
    | ((with_reducible refine (callsIn_wide.2 (HLa.out _ hB3)).mono ?_); rintro e w' ⟨rfl, rfl⟩)
    | ((with_reducible refine (callsIn_wide.2 (HLb.out _ hB3)).mono ?_); rintro e w' ⟨rfl, rfl⟩)
    | ((with_reducible refine (callsIn_wide.2 (HPb.out _ hB3)).mono ?_); rintro e w4 ⟨h4, e4, rfl, hp4, hb4⟩; have hB4 := hB3.trans (hb4.mono hB3.size))
    | ((with_reducible refine (callsIn_wide.2 (HLa.out _ hB4)).mono ?_); rintro e w' ⟨rfl, rfl⟩)
    | ((with_reducible refine (callsIn_wide.2 (HAd.out _ _ _ _ hp4 (Nat.le_refl _))).mono ?_); rintro e w' ⟨rfl, rfl⟩)
    | ((with_reducible refine (callsIn_wide.2 (HKd.out _ hB4)).mono ?_); rintro e w5 ⟨rfl, n5, rfl⟩; have hB5 := below_drewN n5 hB4)
    )
  refine bodyPost_ret (v := .tuple #[.pointer (some ⟨ga, 0, none⟩), .pointer (some ⟨s.blk, 0, none⟩), .pointer (some ⟨gy, 0, none⟩)]) (by simp [results, Tryz.f171, go_sem]) rfl ?_
  exact ⟨rfl, hB5⟩
set_option maxRecDepth 1000000 in
set_option maxHeartbeats 4000000 in
theorem over_a_new {w : World} {B k l ga : Nat} {pre : List Nat} {ka : List (Nat × T)} {b : T} {m l2 : Int} (ha : Node w B k (.br ga l pre ka)) (hb : Node w B k b) (hB : B ≤ w.heap.size) (hp : Z.part pre b.pre = m) (hlb : levI b = l2) (hm : m ≤ (l : Int)) (h2 : l2 < (l : Int)) {z : Nat} (hz : Z.addr b.pre l = z) (hx : (Sl.get ka (z : Int)).map (fun s => (⟨s.blk, 0, none⟩ : Addr)) = none) (hq : Z.part pre b.pre ≤ (l : Int)) (hv : b.lv ≤ l) (hc : (Tr.entsL ka).length + b.ents.length < 18446744073709551616) :
    Calls Tryz.prog 171 #[.pointer (some ⟨ga, 0, none⟩), .pointer (some ⟨b.blk, 0, none⟩)] w fun e w' => ∃ g', e = .returned (.tuple #[.pointer (some ⟨g', 0, none⟩), .pointer none, .pointer none]) ∧ Node w' w'.heap.size k (.br g' l pre (Sl.put (Z.addr b.pre l) b ka)) ∧ Below w.heap.size w w' := by
  have HPa := Lib.hid fun (w2 : World) (h2 : Below w.heap.size w w2) => prefix_br ha hB h2
  have HPb := Lib.hid fun (w2 : World) (h2 : Below w.heap.size w w2) => prefix_at hb hB h2
  have HLa := Lib.hid fun (w2 : World) (h2 : Below w.heap.size w w2) => level_br ha hB h2
  have HLb := Lib.hid fun (w2 : World) (h2 : Below w.heap.size w w2) => level_at hb hB h2 hlb
  have HPt := Lib.hid fun (w2 : World) (A A' : Option Addr) (c c' B2 B3 : Nat) (h1 : Pts w2 B2 A pre) (h1' : B2 ≤ w2.heap.size) (h2 : Pts w2 B3 A' b.pre) (h2' : B3 ≤ w2.heap.size) => part_at (c := c) (c' := c') h1 h1' h2 h2' ha.1.len hb.1.len ha.1.k1 ha.1.k16 hp
  have d1 : decide ((max (l : Int) l2 : Int) < m) = false := decide_eq_false (by omega)
  have d2 : decide ((l2 : Int) < (l : Int)) = true := decide_eq_true (by omega)
  have HAd := Lib.hid fun (w2 : World) (A : Option Addr) (c B2 : Nat) (h1 : Pts w2 B2 A b.pre) (h1' : B2 ≤ w2.heap.size) => addr_at (c := c) h1 h1' hb.1.len hb.1.k1 hb.1.k16 (br_l63 ha.1) hz
  have HKd := Lib.hid fun (w2 : World) (h2 : Below w.heap.size w w2) => kid_br ha hB h2 (z : Int) hx
  have HM := Lib.hid fun (w2 : World) (h2 : Below w.heap.size w w2) => nWith_c (ha.below h2 hB (Nat.le_refl _)) (hb.below h2 hB (Nat.le_refl _)) (Nat.le_trans hB h2.size) hq hv hc
  clear ha hb hB hp hlb hm h2 hz hx hq hv hc
  generalize b.blk = gy at *
  generalize b.pre = py at *
  have hb0 := Below.refl w.heap.size w
  refine (callsIn_wide (n := 8)).1 ?_
  refine callsIn_of_wp Tryz.func171 rfl trivial ?_ rfl
  simp only [Tryz.ntmps171, List.size_toArray, List.length_cons, List.length_nil, Nat.reduceAdd, Nat.reduceSub, Array.replicate_succ, Array.replicate_zero, List.push_toArray, List.append_toArray, List.nil_append, List.cons_append]
  gi_wp2_with (refine ⟨trivial, ?_⟩; first
    | ((with_reducible refine (callsIn_wide.2 (HPa.out _ hb0)).mono ?_); rintro e w2 ⟨h2, e2, rfl, hp2, hb2⟩)
    | ((with_reducible refine (callsIn_wide.2 (HPb.out _ hb2)).mono ?_); rintro e w3 ⟨h3, e3, rfl, hp3, hb3⟩; have hB3 := hb2.trans (hb3.mono hb2.size))
    | ((with_reducible refine (callsIn_wide.2 (HPt.out _ _ _ _ _ _ _ (hp2.below' hb3 (Nat.le_refl _)) hb3.size hp3 (Nat.le_refl _))).mono ?_); rintro e w' ⟨rfl, rfl⟩)
    | ((with_reducible refine (callsIn_wide.2 (HLa.out _ hB3)).mono ?_); rintro e w' ⟨rfl, rfl⟩)
    | ((with_reducible refine (callsIn_wide.2 (HLb.out _ hB3)).mono ?_); rintro e w' ⟨rfl, rfl⟩)
    | ((with_reducible refine (callsIn_wide.2 (HPb.out _ hB3)).mono ?_); rintro e w4 ⟨h4, e4, rfl, hp4, hb4⟩; have hB4 := hB3.trans (hb4.mono hB3.size))
    | ((with_reducible refine (callsIn_wide.2 (HLa.out _ hB4)).mono ?_); rintro e w' ⟨rfl, rfl⟩)
    | ((with_reducible refine (callsIn_wide.2 (HAd.out _ _ _ _ hp4 (Nat.le_refl _))).mono ?_); rintro e w' ⟨rfl, rfl⟩)
    | ((with_reducible refine (callsIn_wide.2 (HKd.out _ hB4)).mono ?_); rintro e w5 ⟨rfl, n5, rfl⟩; have hB5 := below_drewN n5 hB4)
    | ((with_reducible refine (callsIn_wide.2 (HM.out _ hB5)).mono ?_); rintro e w6 ⟨g6, rfl, hn6, -, hb6⟩; have hB6 := hB5.trans (hb6.mono hB5.size))
    )
  refine bodyPost_ret (v := .tuple #[.pointer (some ⟨g6, 0, none⟩), .pointer none, .pointer none]) (by simp [results, Tryz.f171, go_sem]) rfl ?_
  exact ⟨g6, rfl, hn6, hB6⟩
set_option maxRecDepth 1000000 in
set_option maxHeartbeats 4000000 in
theorem over_b_kid {w : World} {B k l ga : Nat} {pre : List Nat} {ka : List (Nat × T)} {a : T} {m l2 : Int} (ha : Node w B k a) (hb : Node w B k (.br ga l pre ka)) (hB : B ≤ w.heap.size) (hp : Z.part a.pre pre = m) (hla : levI a = l2) (hm : m ≤ (l : Int)) (h2 : l2 < (l : Int)) {s : T} {z : Nat} (hz : Z.addr a.pre l = z) (hx : (Sl.get ka (z : Int)).map (fun s => (⟨s.blk, 0, none⟩ : Addr)) = some ⟨s.blk, 0, none⟩) :
    Calls Tryz.prog 171 #[.pointer (some ⟨a.blk, 0, none⟩), .pointer (some ⟨ga, 0, none⟩)] w fun e w' => e = .returned (.tuple #[.pointer (some ⟨ga, 0, none⟩), .pointer (some ⟨a.blk, 0, none⟩), .pointer (some ⟨s.blk, 0, none⟩)]) ∧ Below w.heap.size w w' := by
  have HPa := Lib.hid fun (w2 : World) (h2 : Below w.heap.size w w2) => prefix_at ha hB h2
  have HPb := Lib.hid fun (w2 : World) (h2 : Below w.heap.size w w2) => prefix_br hb hB h2
  have HLa := Lib.hid fun (w2 : World) (h2 : Below w.heap.size w w2) => level_at ha hB h2 hla
  have HLb := Lib.hid fun (w2 : World) (h2 : Below w.heap.size w w2) => level_br hb hB h2
  have HPt := Lib.hid fun (w2 : World) (A A' : Option Addr) (c c' B2 B3 : Nat) (h1 : Pts w2 B2 A a.pre) (h1' : B2 ≤ w2.heap.size) (h2 : Pts w2 B3 A' pre) (h2' : B3 ≤ w2.heap.size) => part_at (c := c) (c' := c') h1 h1' h2 h2' ha.1.len hb.1.len ha.1.k1 ha.1.k16 hp
  have d1 : decide ((max l2 (l : Int) : Int) < m) = false := decide_eq_false (by omega)
  have d2 : decide ((l : Int) < l2) = false := decide_eq_false (by omega)
  have d3 : decide (l2 < (l : Int)) = true := decide_eq_true (by omega)
  have HAd := Lib.hid fun (w2 : World) (A : Option Addr) (c B2 : Nat) (h1 : Pts w2 B2 A a.pre) (h1' : B2 ≤ w2.heap.size) => addr_at (c := c) h1 h1' ha.1.len ha.1.k1 ha.1.k16 (br_l63 hb.1) hz
  have HKd := Lib.hid fun (w2 : World) (h2 : Below w.heap.size w w2) => kid_br hb hB h2 (z : Int) hx
  clear ha hb hB hp hla hm h2 hz hx
  generalize a.blk = gy at *
  generalize a.pre = py at *
  have hb0 := Below.refl w.heap.size w
  refine (callsIn_wide (n := 8)).1 ?_
  refine callsIn_of_wp Tryz.func171 rfl trivial ?_ rfl
  simp only [Tryz.ntmps171, List.size_toArray, List.length_cons, List.length_nil, Nat.reduceAdd, Nat.reduceSub, Array.replicate_succ, Array.replicate_zero, List.push_toArray, List.append_toArray, List.nil_append, List.cons_append]
  gi_wp2_with (refine ⟨trivial, ?_⟩; first
    | ((with_reducible refine (callsIn_wide.2 (HPa.out _ hb0)).mono ?_); rintro e w2 ⟨h2, e2, rfl, hp2, hb2⟩)
    | ((with_reducible refine (callsIn_wide.2 (HPb.out _ hb2)).mono ?_); rintro e w3 ⟨h3, e3, rfl, hp3, hb3⟩; have hB3 := hb2.trans (hb3.mono hb2.size))
    | ((with_reducible refine (callsIn_wide.2 (HPt.out _ _ _ _ _ _ _ (hp2.below' hb3 (Nat.le_refl _)) hb3.size hp3 (Nat.le_refl _))).mono ?_); rintro e w' ⟨rfl, rfl⟩)
    | ((with_reducible refine (callsIn_wide.2 (HLa.out _ hB3)).mono ?_); rintro e w' ⟨rfl, rfl⟩)
    | ((with_reducible refine (callsIn_wide.2 (HLb.out _ hB3)).mono ?_); rintro e w' ⟨rfl, rfl⟩)
    | ((with_reducible refine (callsIn_wide.2 (HPa.out _ hB3)).mono ?_); rintro e w4 ⟨h4, e4, rfl, hp4, hb4⟩; have hB4 := hB3.trans (hb4.mono hB3.size))
    | ((with_reducible refine (callsIn_wide.2 (HLb.out _ hB4)).mono ?_); rintro e w' ⟨rfl, rfl⟩)
    | ((with_reducible refine (callsIn_wide.2 (HAd.out _ _ _ _ hp4 (Nat.le_refl _))).mono ?_); rintro e w' ⟨rfl, rfl⟩)
    | ((with_reducible refine (callsIn_wide.2 (HKd.out _ hB4)).mono ?_); rintro e w5 ⟨rfl, n5, rfl⟩; have hB5 := below_drewN n5 hB4)
    )
  refine bodyPost_ret (v := .tuple #[.pointer (some ⟨ga, 0, none⟩), .pointer (some ⟨gy, 0, none⟩), .pointer (some ⟨s.blk, 0, none⟩)]) (by simp [results, Tryz.f171, go_sem]) rfl ?_
  exact ⟨rfl, hB5⟩
set_option maxRecDepth 1000000 in
set_option maxHeartbeats 4000000 in
theorem over_b_new {w : World} {B k l ga : Nat} {pre : List Nat} {ka : List (Nat × T)} {a : T} {m l2 : Int} (ha : Node w B k a) (hb : Node w B k (.br ga l pre ka)) (hB : B ≤ w.heap.size) (hp : Z.part a.pre pre = m) (hla : levI a = l2) (hm : m ≤ (l : Int)) (h2 : l2 < (l : Int)) {z : Nat} (hz : Z.addr a.pre l = z) (hx : (Sl.get ka (z : Int)).map (fun s => (⟨s.blk, 0, none⟩ : Addr)) = none) (hq : Z.part pre a.pre ≤ (l : Int)) (hv : a.lv ≤ l) (hc : (Tr.entsL ka).length + a.ents.length < 18446744073709551616) :
    Calls Tryz.prog 171 #[.pointer (some ⟨a.blk, 0, none⟩), .pointer (some ⟨ga, 0, none⟩)] w fun e w' => ∃ g', e = .returned (.tuple #[.pointer (some ⟨g', 0, none⟩), .pointer none, .pointer none]) ∧ Node w' w'.heap.size k (.br g' l pre (Sl.put (Z.addr a.pre l) a ka)) ∧ Below w.heap.size w w' := by
  have HPa := Lib.hid fun (w2 : World) (h2 : Below w.heap.size w w2) => prefix_at ha hB h2
  have HPb := Lib.hid fun (w2 : World) (h2 : Below w.heap.size w w2) => prefix_br hb hB h2
  have HLa := Lib.hid fun (w2 : World) (h2 : Below w.heap.size w w2) => level_at ha hB h2 hla
  have HLb := Lib.hid fun (w2 : World) (h2 : Below w.heap.size w w2) => level_br hb hB h2
  have HPt := Lib.hid fun (w2 : World) (A A' : Option Addr) (c c' B2 B3 : Nat) (h1 : Pts w2 B2 A a.pre) (h1' : B2 ≤ w2.heap.size) (h2 : Pts w2 B3 A' pre) (h2' : B3 ≤ w2.heap.size) => part_at (c := c) (c' := c') h1 h1' h2 h2' ha.1.len hb.1.len ha.1.k1 ha.1.k16 hp
  have d1 : decide ((max l2 (l : Int) : Int) < m) = false := decide_eq_false (by omega)
  have d2 : decide ((l : Int) < l2) = false := decide_eq_false (by omega)
  have d3 : decide (l2 < (l : Int)) = true := decide_eq_true (by omega)
  have HAd := Lib.hid fun (w2 : World) (A : Option Addr) (c B2 : Nat) (h1 : Pts w2 B2 A a.pre) (h1' : B2 ≤ w2.heap.size) => addr_at (c := c) h1 h1' ha.1.len ha.1.k1 ha.1.k16 (br_l63 hb.1) hz
  have HKd := Lib.hid fun (w2 : World) (h2 : Below w.heap.size w w2) => kid_br hb hB h2 (z : Int) hx
  have HM := Lib.hid fun (w2 : World) (h2 : Below w.heap.size w w2) => nWith_c (hb.below h2 hB (Nat.le_refl _)) (ha.below h2 hB (Nat.le_refl _)) (Nat.le_trans hB h2.size) hq hv hc
  clear ha hb hB hp hla hm h2 hz hx hq hv hc
  generalize a.blk = gy at *
  generalize a.pre = py at *
  have hb0 := Below.refl w.heap.size w
  refine (callsIn_wide (n := 8)).1 ?_
  refine callsIn_of_wp Tryz.func171 rfl trivial ?_ rfl
  simp only [Tryz.ntmps171, List.size_toArray, List.length_cons, List.length_nil, Nat.reduceAdd, Nat.reduceSub, Array.replicate_succ, Array.replicate_zero, List.push_toArray, List.append_toArray, List.nil_append, List.cons_append]
  gi_wp2_with (refine ⟨trivial, ?_⟩; first
    | ((with_reducible refine (callsIn_wide.2 (HPa.out _ hb0)).mono ?_); rintro e w2 ⟨h2, e2, rfl, hp2, hb2⟩)
    | ((with_reducible refine (callsIn_wide.2 (HPb.out _ hb2)).mono ?_); rintro e w3 ⟨h3, e3, rfl, hp3, hb3⟩; have hB3 := hb2.trans (hb3.mono hb2.size))
    | ((with_reducible refine (callsIn_wide.2 (HPt.out _ _ _ _ _ _ _ (hp2.below' hb3 (Nat.le_refl _)) hb3.size hp3 (Nat.le_refl _))).mono ?_); rintro e w' ⟨rfl, rfl⟩)
    | ((with_reducible refine (callsIn_wide.2 (HLa.out _ hB3)).mono ?_); rintro e w' ⟨rfl, rfl⟩)
    | ((with_reducible refine (callsIn_wide.2 (HLb.out _ hB3)).mono ?_); rintro e w' ⟨rfl, rfl⟩)
    | ((with_reducible refine (callsIn_wide.2 (HPa.out _ hB3)).mono ?_); rintro e w4 ⟨h4, e4, rfl, hp4, hb4⟩; have hB4 := hB3.trans (hb4.mono hB3.size))
    | ((with_reducible refine (callsIn_wide.2 (HLb.out _ hB4)).mono ?_); rintro e w' ⟨rfl, rfl⟩)
    | ((with_reducible refine (callsIn_wide.2 (HAd.out _ _ _ _ hp4 (Nat.le_refl _))).mono ?_); rintro e w' ⟨rfl, rfl⟩)
    | ((with_reducible refine (callsIn_wide.2 (HKd.out _ hB4)).mono ?_); rintro e w5 ⟨rfl, n5, rfl⟩; have hB5 := below_drewN n5 hB4)
    | ((with_reducible refine (callsIn_wide.2 (HM.out _ hB5)).mono ?_); rintro e w6 ⟨g6, rfl, hn6, -, hb6⟩; have hB6 := hB5.trans (hb6.mono hB5.size))
    )
  refine bodyPost_ret (v := .tuple #[.pointer (some ⟨g6, 0, none⟩), .pointer none, .pointer none]) (by simp [results, Tryz.f171, go_sem]) rfl ?_
  exact ⟨g6, rfl, hn6, hB6⟩
end Go.Proofs.YtpgkfccfabnjdaaGreatDoor

/-
  CONTRACTS of package rank: over, all its ways.
-/
namespace Go.Proofs.YtpgkfccfabnjdaaGreatDoor
open Go.RowKit Go.Shelf
open Tr (T S4 Ent)
attribute [local go_sem] Oper.semAt_some

theorem upK_end {k g l : Nat} {pre : List Nat} {ks : List (Nat × T)} (h : Tr.Wf k (.br g l pre ks)) {x : Nat × T} (hx : ks[ks.length - 1]? = some x) : kidP (upK ks 65536) = (x.1, some ⟨x.2.blk, 0, none⟩) := by
  have h2 : 2 ≤ ks.length := by cases h with | br _ _ _ _ _ _ h2 => exact h2
  have hi : Sl.idx ks ((65536 : Int) + 1) = ks.length := by
    refine Nat.le_antisymm (Sl.idx_le _ _) ?_
    refine Classical.byContradiction fun hn => ?_
    obtain ⟨z, hz⟩ := get_lt (us := ks) (k := Sl.idx ks ((65536 : Int) + 1)) (by omega)
    have h1 := Sl.idx_above (Tr.kids_fit h).2 ((65536 : Int) + 1) (Nat.le_refl _) hz
    have h3 := h.lt16 z (List.mem_of_getElem? hz)
    omega
  unfold upK
  rw [hi, if_neg (by omega), hx]
  rfl
theorem upto_br {w w2 : World} {B k g l : Nat} {pre : List Nat} {ks : List (Nat × T)} (h : Node w B k (.br g l pre ks)) (hB : B ≤ w.heap.size) (h2 : Below w.heap.size w w2) {a : Nat} {s : T} (hx : ks[ks.length - 1]? = some (a, s)) :
    Calls Tryz.prog 125 #[.pointer (some ⟨g, 0, none⟩), .int .i64 65536] w2 fun e w' => e = .returned (atKid a (some ⟨s.blk, 0, none⟩)) ∧ ∃ n, w' = w2.drewN n :=
  nUpTo_k (h.below h2 hB (Nat.le_refl _)).2 65536 _ (upK_end h.1 hx)
theorem from_br {w w2 : World} {B k g l : Nat} {pre : List Nat} {ks : List (Nat × T)} (h : Node w B k (.br g l pre ks)) (hB : B ≤ w.heap.size) (h2 : Below w.heap.size w w2) (hT : Tz w2) {a : Nat} {s : T} (hx : ks[0]? = some (a, s)) :
    Calls Tryz.prog 126 #[.pointer (some ⟨g, 0, none⟩), .int .i64 0] w2 fun e w' => e = .returned (atKid a (some ⟨s.blk, 0, none⟩)) ∧ ∃ n, w' = w2.drewN n :=
  nFrom_c (h.below h2 hB (Nat.le_refl _)).2 hT 0 (by omega) (by omega) (a, some ⟨s.blk, 0, none⟩) (by
    show kidP (ks[Sl.idx ks 0]?) = _
    rw [Sl.idx_zero, hx]
    rfl)
set_option maxRecDepth 1000000 in
set_option maxHeartbeats 4000000 in
theorem over_same {w : World} {B k ga gb l : Nat} {pre : List Nat} {ka kb : List (Nat × T)} {m : Int} (ha : Node w B k (.br ga l pre ka)) (hb : Node w B k (.br gb l pre kb)) (hB : B ≤ w.heap.size) (hT : ∀ w', Below w.heap.size w w' → Tz w')
    (hN : (Tr.entsL ka).length + (Tr.entsL kb).length ≤ 200000000) (hp : Z.part pre pre = m) (hm : m ≤ (l : Int)) {x y : Nat × T} (hx : ka[ka.length - 1]? = some x) (hy : kb[0]? = some y) {v2 v3 : Value}
    (hv : (x.1 = y.1 ∧ v2 = .pointer (some ⟨x.2.blk, 0, none⟩) ∧ v3 = .pointer (some ⟨y.2.blk, 0, none⟩)) ∨ (x.1 ≠ y.1 ∧ v2 = .pointer none ∧ v3 = .pointer none)) :
    Calls Tryz.prog 171 #[.pointer (some ⟨ga, 0, none⟩), .pointer (some ⟨gb, 0, none⟩)] w fun e w' => ∃ g' ks, e = .returned (.tuple #[.pointer (some ⟨g', 0, none⟩), v2, v3]) ∧
      Node w' w'.heap.size k (.br g' l pre ks) ∧ Tr.UniOf k ga gb l pre ka kb g' ks ∧ Below w.heap.size w w' := by
  have HPa := Lib.hid fun (w2 : World) (h2 : Below w.heap.size w w2) => prefix_br ha hB h2
  have HPb := Lib.hid fun (w2 : World) (h2 : Below w.heap.size w w2) => prefix_br hb hB h2
  have HLa := Lib.hid fun (w2 : World) (h2 : Below w.heap.size w w2) => level_br ha hB h2
  have HLb := Lib.hid fun (w2 : World) (h2 : Below w.heap.size w w2) => level_br hb hB h2
  have HPt := Lib.hid fun (w2 : World) (A A' : Option Addr) (c c' B2 B3 : Nat) (h1 : Pts w2 B2 A pre) (h1' : B2 ≤ w2.heap.size) (h2 : Pts w2 B3 A' pre) (h2' : B3 ≤ w2.heap.size) => part_at (c := c) (c' := c') h1 h1' h2 h2' ha.1.len hb.1.len ha.1.k1 ha.1.k16 hp
  have HTg := Lib.hid fun (w2 : World) (h2 : Below w.heap.size w w2) => kTog_c (ha.below h2 hB (Nat.le_refl _)) (hb.below h2 hB (Nat.le_refl _)) (Nat.le_trans hB h2.size) (fun w' h' => hT w' (h2.trans (h'.mono h2.size))) hN
  obtain ⟨x1, x2⟩ := x
  obtain ⟨y1, y2⟩ := y
  have HU := Lib.hid fun (w2 : World) (h2 : Below w.heap.size w w2) => upto_br ha hB h2 hx
  have HF := Lib.hid fun (w2 : World) (h2 : Below w.heap.size w w2) => from_br hb hB h2 (hT w2 h2) hy
  have d1 : decide ((max (l : Int) (l : Int)) < m) = false := decide_eq_false (by omega)
  have d2 : decide ((l : Int) < (l : Int)) = false := decide_eq_false (by omega)
  have d1' : decide ((l : Int) < m) = false := decide_eq_false (by omega)
  clear ha hb hB hT hN hp hm hx hy
  generalize x2.blk = gx at *
  generalize y2.blk = gy at *
  have hb0 := Below.refl w.heap.size w
  refine (callsIn_wide (n := 8)).1 ?_
  refine callsIn_of_wp Tryz.func171 rfl trivial ?_ rfl
  simp only [Tryz.ntmps171, List.size_toArray, List.length_cons, List.length_nil, Nat.reduceAdd, Nat.reduceSub, Array.replicate_succ, Array.replicate_zero, List.push_toArray, List.append_toArray, List.nil_append, List.cons_append]
  rcases hv with ⟨hxy, rfl, rfl⟩ | ⟨hxy, rfl, rfl⟩
  · have hxy : x1 = y1 := hxy
    have d4 : decide ((y1 : Int) = (x1 : Int)) = true := decide_eq_true (by omega)
    have d4' : decide (y1 = x1) = true := decide_eq_true (by omega)
    gi_wp2_with (refine ⟨trivial, ?_⟩; first
      | ((with_reducible refine (callsIn_wide.2 (HPa.out _ hb0)).mono ?_); rintro e w2 ⟨h2, e2, rfl, hp2, hb2⟩)
      | ((with_reducible refine (callsIn_wide.2 (HPb.out _ hb2)).mono ?_); rintro e w3 ⟨h3, e3, rfl, hp3, hb3⟩; have hB3 := hb2.trans (hb3.mono hb2.size))
      | ((with_reducible refine (callsIn_wide.2 (HPt.out _ _ _ _ _ _ _ (hp2.below' hb3 (Nat.le_refl _)) hb3.size hp3 (Nat.le_refl _))).mono ?_); rintro e w' ⟨rfl, rfl⟩)
      | ((with_reducible refine (callsIn_wide.2 (HLa.out _ hB3)).mono ?_); rintro e w' ⟨rfl, rfl⟩)
      | ((with_reducible refine (callsIn_wide.2 (HLb.out _ hB3)).mono ?_); rintro e w' ⟨rfl, rfl⟩)
      | ((with_reducible refine (callsIn_wide.2 (HTg.out _ hB3)).mono ?_); rintro e w4 ⟨g4, ks4, rfl, hn4, hu4, hb4⟩; have hB4 := hB3.trans (hb4.mono hB3.size))
      | ((with_reducible refine (callsIn_wide.2 (HU.out _ hB4)).mono ?_); rintro e w5 ⟨rfl, n5, rfl⟩; have hB5 := below_drewN n5 hB4)
      | ((with_reducible refine (callsIn_wide.2 (HF.out _ hB5)).mono ?_); rintro e w6 ⟨rfl, n6, rfl⟩; have hB6 := below_drewN n6 hB5))
    refine bodyPost_ret (v := .tuple #[.pointer (some ⟨g4, 0, none⟩), .pointer (some ⟨gx, 0, none⟩), .pointer (some ⟨gy, 0, none⟩)]) (by simp [results, Tryz.f171, go_sem]) rfl ?_
    exact ⟨g4, ks4, rfl, hn4.below (below_drewN (n5 + n6) (Below.refl w4.heap.size w4)) (Nat.le_refl _) (Nat.le_refl _), hu4, below_drewN (n5 + n6) hB4⟩
  · have hxy : x1 ≠ y1 := hxy
    have d4 : decide ((y1 : Int) = (x1 : Int)) = false := decide_eq_false (by omega)
    have d4' : decide (y1 = x1) = false := decide_eq_false (by omega)
    gi_wp2_with (refine ⟨trivial, ?_⟩; first
      | ((with_reducible refine (callsIn_wide.2 (HPa.out _ hb0)).mono ?_); rintro e w2 ⟨h2, e2, rfl, hp2, hb2⟩)
      | ((with_reducible refine (callsIn_wide.2 (HPb.out _ hb2)).mono ?_); rintro e w3 ⟨h3, e3, rfl, hp3, hb3⟩; have hB3 := hb2.trans (hb3.mono hb2.size))
      | ((with_reducible refine (callsIn_wide.2 (HPt.out _ _ _ _ _ _ _ (hp2.below' hb3 (Nat.le_refl _)) hb3.size hp3 (Nat.le_refl _))).mono ?_); rintro e w' ⟨rfl, rfl⟩)
      | ((with_reducible refine (callsIn_wide.2 (HLa.out _ hB3)).mono ?_); rintro e w' ⟨rfl, rfl⟩)
      | ((with_reducible refine (callsIn_wide.2 (HLb.out _ hB3)).mono ?_); rintro e w' ⟨rfl, rfl⟩)
      | ((with_reducible refine (callsIn_wide.2 (HTg.out _ hB3)).mono ?_); rintro e w4 ⟨g4, ks4, rfl, hn4, hu4, hb4⟩; have hB4 := hB3.trans (hb4.mono hB3.size))
      | ((with_reducible refine (callsIn_wide.2 (HU.out _ hB4)).mono ?_); rintro e w5 ⟨rfl, n5, rfl⟩; have hB5 := below_drewN n5 hB4)
      | ((with_reducible refine (callsIn_wide.2 (HF.out _ hB5)).mono ?_); rintro e w6 ⟨rfl, n6, rfl⟩; have hB6 := below_drewN n6 hB5))
    refine bodyPost_ret (v := .tuple #[.pointer (some ⟨g4, 0, none⟩), .pointer none, .pointer none]) (by simp [results, Tryz.f171, go_sem]) rfl ?_
    exact ⟨g4, ks4, rfl, hn4.below (below_drewN (n5 + n6) (Below.refl w4.heap.size w4)) (Nat.le_refl _) (Nat.le_refl _), hu4, below_drewN (n5 + n6) hB4⟩

def OverTold (w : World) (B k : Nat) (a b : T) (e : Ending) (w' : World) : Prop :=
  (∃ n, e = .returned (.tuple #[.pointer (some ⟨n.blk, 0, none⟩), .pointer none, .pointer none]) ∧ Node w' w'.heap.size k n ∧ n.ents = a.ents ++ b.ents ∧ Below w.heap.size w w') ∨
  (∃ up s f, e = .returned (.tuple #[.pointer (some ⟨up.blk, 0, none⟩), .pointer (some ⟨s.blk, 0, none⟩), .pointer (some ⟨f.blk, 0, none⟩)]) ∧ Node w' w'.heap.size k up ∧ Node w' B k s ∧ Node w' B k f ∧ Tr.Meets k a b up s f ∧ Below w.heap.size w w')
theorem zs_ents {k : Nat} {t : T} {A B : List Ent} (h : Tr.Wf k t) (zA : Tr.ZS A) (zB : Tr.ZS B) (hz : Tr.Bef A B) (hm : ∀ e, e ∈ t.ents ↔ e ∈ A ∨ e ∈ B) : t.ents = A ++ B :=
  Tr.ZS.ext h.zs (hz.zs zA zB) fun e => by rw [hm e, List.mem_append]
theorem kOver_c {w : World} {B k : Nat} {a b : T} (ha : Node w B k a) (hb : Node w B k b) (hB : B ≤ w.heap.size) (hT : ∀ w', Below w.heap.size w w' → Tz w') (hz : Tr.Bef a.ents b.ents) (hN : a.ents.length + b.ents.length ≤ 200000000) :
    Calls Tryz.prog 171 #[.pointer (some ⟨a.blk, 0, none⟩), .pointer (some ⟨b.blk, 0, none⟩)] w (OverTold w B k a b) := by
  obtain ⟨m, hm⟩ : ∃ m, Z.part a.pre b.pre = m := ⟨_, rfl⟩
  have hlen : a.pre.length = b.pre.length := by rw [ha.1.len, hb.1.len]
  by_cases hP : max (levI a) (levI b) < m
  · obtain ⟨l, rfl⟩ : ∃ l : Nat, m = (l : Int) := ⟨m.toNat, by unfold levI at hP; omega⟩
    have hla : a.lv ≤ l := by unfold levI at hP; omega
    have hlb : b.lv ≤ l := by unfold levI at hP; omega
    refine (over_pair ha hb hB hm rfl rfl hla hlb (by omega)).mono ?_
    rintro e w' ⟨g', rfl, hn, hbl⟩
    exact .inl ⟨_, rfl, hn, Tr.pair_ents ha.1 hb.1 hm hla hlb hz g', hbl⟩
  · rcases Nat.lt_trichotomy b.lv a.lv with hlt | heq | hlt
    · cases a with
      | ent g p v => simp [T.lv] at hlt
      | br ga l pre ka =>
        have hlI := levI_br ga l pre ka
        have hbl : b.lv ≤ l := Nat.lt_succ_iff.1 hlt
        have hml : m ≤ (l : Int) := by rw [hlI] at hP; unfold levI at hP; omega
        have hu := Tr.part_below ha.1 hb.1 (by rw [show Z.part pre b.pre = m from hm]; exact hml) hbl
        rcases hs : Sl.get ka (Z.addr b.pre l : Int) with _ | s
        · refine (over_a_new ha hb hB hm rfl hml (by unfold levI; omega) rfl (by rw [hs]; rfl) (by rw [show Z.part pre b.pre = m from hm]; exact hml) hbl (by rw [Tr.ents_br] at hN; omega)).mono ?_
          rintro e w' ⟨g', rfl, hn, hbw⟩
          exact .inl ⟨_, rfl, hn, zs_ents hn.1 ha.1.zs hb.1.zs hz (Tr.put_new ha.1 hb.1 hu hs g').2, hbw⟩
        · refine (over_a_kid (s := s) ha hb hB hm rfl hml (by unfold levI; omega) rfl (by rw [hs]; rfl)).mono ?_
          rintro e w' ⟨rfl, hbw⟩
          have hmt := Tr.meets_a ha.1 hb.1 hu hz hs
          have hsz := hbw.size
          exact .inr ⟨_, s, b, rfl, ha.below hbw hB (by omega), (ha.kid (get_kid (t := .br ga l pre ka) hs)).below hbw hB (Nat.le_refl _), hb.below hbw hB (Nat.le_refl _), hmt, hbw⟩
    · cases a with
      | ent g p v =>
        cases b with
        | br gb l pre kb => simp [T.lv] at heq
        | ent g' q v' =>
          exfalso
          have h0 : m < 0 := by simp only [levI, T.lv] at hP; omega
          have h1 : p = q := by
            have := (Z.part_neg hlen ha.1.ok hb.1.ok).1 (by rw [hm]; exact h0)
            exact this
          have := hz (p, v) (by rw [Tr.ents_ent]; exact List.mem_singleton.2 rfl) (q, v') (by rw [Tr.ents_ent]; exact List.mem_singleton.2 rfl)
          simp only [h1] at this
          omega
      | br ga l pre ka =>
        cases b with
        | ent g' q v' => simp [T.lv] at heq
        | br gb l' pre' kb =>
          have hll : l = l' := by simp only [T.lv] at heq; omega
          subst hll
          have hml : m ≤ (l : Int) := by rw [levI_br, levI_br] at hP; omega
          have hpp : pre = pre' := by
            have h1 := (Tr.Wf.part_cut ha.1 hb.1 (m := l + 1)).1 (by rw [hm]; omega)
            exact (ha.1.cut_pre.symm.trans h1).trans hb.1.cut_pre
          subst hpp
          have h2a : 2 ≤ ka.length := by cases ha.1 with | br _ _ _ _ _ _ h2 => exact h2
          have h2b : 2 ≤ kb.length := by cases hb.1 with | br _ _ _ _ _ _ h2 => exact h2
          obtain ⟨x, hx⟩ := get_lt (us := ka) (k := ka.length - 1) (by omega)
          obtain ⟨y, hy⟩ := get_lt (us := kb) (k := 0) (by omega)
          have hN' : (Tr.entsL ka).length + (Tr.entsL kb).length ≤ 200000000 := by rw [Tr.ents_br, Tr.ents_br] at hN; exact hN
          by_cases hxy : x.1 = y.1
          · refine (over_same ha hb hB hT hN' hm hml hx hy (.inl ⟨hxy, rfl, rfl⟩)).mono ?_
            rintro e w' ⟨g', ks, rfl, hn, hu, hbw⟩
            have hmt := Tr.uni_meets hu ha.1 hb.1 hz hx hy hxy
            exact .inr ⟨_, x.2, y.2, rfl, hn, (ha.kid (List.mem_of_getElem? hx)).below hbw hB (Nat.le_refl _), (hb.kid (List.mem_of_getElem? hy)).below hbw hB (Nat.le_refl _), hmt, hbw⟩
          · refine (over_same ha hb hB hT hN' hm hml hx hy (.inr ⟨hxy, rfl, rfl⟩)).mono ?_
            rintro e w' ⟨g', ks, rfl, hn, hu, hbw⟩
            exact .inl ⟨_, rfl, hn, Tr.uni_far hu ha.1 hb.1 hz hx hy hxy, hbw⟩
    · cases b with
      | ent g p v => simp [T.lv] at hlt
      | br gb l pre kb =>
        have hlI := levI_br gb l pre kb
        have hal : a.lv ≤ l := Nat.lt_succ_iff.1 hlt
        have hml : m ≤ (l : Int) := by rw [hlI] at hP; unfold levI at hP; omega
        have hmc : Z.part pre a.pre ≤ (l : Int) := by
          have h1 := (Tr.Wf.part_cut ha.1 hb.1 (m := l + 1)).1 (by rw [hm]; omega)
          have h2 := (Tr.Wf.part_cut hb.1 ha.1 (m := l + 1)).2 h1.symm
          have e : (T.br gb l pre kb).pre = pre := rfl
          rw [e] at h2
          omega
        have hu := Tr.part_below hb.1 ha.1 hmc hal
        rcases hs : Sl.get kb (Z.addr a.pre l : Int) with _ | s
        · refine (over_b_new ha hb hB hm rfl hml (by unfold levI; omega) rfl (by rw [hs]; rfl) hmc hal (by rw [Tr.ents_br gb] at hN; omega)).mono ?_
          rintro e w' ⟨g', rfl, hn, hbw⟩
          exact .inl ⟨_, rfl, hn, zs_ents hn.1 ha.1.zs hb.1.zs hz (fun e => ((Tr.put_new hb.1 ha.1 hu hs g').2 e).trans or_comm), hbw⟩
        · refine (over_b_kid (s := s) ha hb hB hm rfl hml (by unfold levI; omega) rfl (by rw [hs]; rfl)).mono ?_
          rintro e w' ⟨rfl, hbw⟩
          have hmt := Tr.meets_b hb.1 ha.1 hu hz hs
          have hsz := hbw.size
          exact .inr ⟨_, a, s, rfl, hb.below hbw hB (by omega), ha.below hbw hB (Nat.le_refl _), (hb.kid (get_kid (t := .br gb l pre kb) hs)).below hbw hB (Nat.le_refl _), hmt, hbw⟩
end Go.Proofs.YtpgkfccfabnjdaaGreatDoor
