import Derived.Test.YtpgkfccfabnjdaaGreatDoorM74
import Derived.Test.YtpgkfccfabnjdaaGreatDoorM70
/-
  CONTRACTS of package rank: Join.
-/
namespace Go.Proofs.YtpgkfccfabnjdaaGreatDoor
open Go.RowKit Go.Shelf
open Tr (T S4 Ent)
attribute [local go_sem] Oper.semAt_some

theorem bef_of {L M : List Ent} (zL : Tr.ZS L) (zM : Tr.ZS M) {x y : Ent} (hx : L.getLast? = some x) (hy : M.head? = some y) (h : Tr.key x.1 < Tr.key y.1) : Tr.Bef L M := by
  intro e he f hf
  have h1 : Tr.key e.1 ≤ Tr.key x.1 := by
    obtain ⟨L', rfl⟩ := List.getLast?_eq_some_iff.1 hx
    rcases List.mem_append.1 he with c | c
    · exact Nat.le_of_lt ((List.pairwise_append.1 zL).2.2 e c x (by simp))
    · rw [List.mem_singleton.1 c]; exact Nat.le_refl _
  have h2 : Tr.key y.1 ≤ Tr.key f.1 := by
    cases M with
    | nil => simp at hy
    | cons z M =>
      simp only [List.head?_cons, Option.some.injEq] at hy
      subst hy
      rcases List.mem_cons.1 hf with c | c
      · rw [c]; exact Nat.le_refl _
      · exact Nat.le_of_lt ((List.pairwise_cons.1 zM).1 f c)
  omega
theorem own_pts {w : World} {base h d : Nat} {p : List Nat} (ho : Own w base (.slice (some ⟨h, 0, none⟩) p.length d) p) : Pts w w.heap.size (some ⟨h, 0, none⟩) p := by
  obtain ⟨A', c', hv, hp'⟩ := ho.pts
  simp only [Value.slice.injEq] at hv
  obtain ⟨rfl, -, rfl⟩ := hv
  exact hp'
theorem last_at {w w2 : World} {B k : Nat} {t : T} (h : Node w B k t) (hB : B ≤ w.heap.size) (h2 : Below w.heap.size w w2) {x : Ent} (hx : t.ents.getLast? = some x) :
    Calls Tryz.prog 63 #[.pointer (some ⟨t.blk, 0, none⟩)] w2 fun e w' => ∃ h d, e = .returned (.tuple #[.agg #[.slice (some ⟨h, 0, none⟩) x.1.length d, .int .u64 (x.2 : Int)], .bool true]) ∧ Pts w' w'.heap.size (some ⟨h, 0, none⟩) x.1 ∧ Below w2.heap.size w2 w' := by
  refine (lastE_c (h.below h2 hB (Nat.le_refl _)) (Nat.le_trans hB h2.size)).mono ?_
  rintro e w' ⟨ht, hb⟩
  rw [hx] at ht
  obtain ⟨g, d, rfl, ho⟩ := ht
  exact ⟨g, d, rfl, own_pts ho, hb⟩
theorem first_at {w w2 : World} {B k : Nat} {t : T} (h : Node w B k t) (hB : B ≤ w.heap.size) (hT : ∀ w', Below B w w' → Tz w') (h2 : Below w.heap.size w w2) {x : Ent} (hx : t.ents.head? = some x) :
    Calls Tryz.prog 64 #[.pointer (some ⟨t.blk, 0, none⟩)] w2 fun e w' => ∃ h d, e = .returned (.tuple #[.agg #[.slice (some ⟨h, 0, none⟩) x.1.length d, .int .u64 (x.2 : Int)], .bool true]) ∧ Pts w' w'.heap.size (some ⟨h, 0, none⟩) x.1 ∧ Below w2.heap.size w2 w' := by
  refine (first_c (h.below h2 hB (Nat.le_refl _)) (Nat.le_trans hB h2.size) (fun w' h' => hT w' ((h2.mono hB).trans h'))).mono ?_
  rintro e w' ⟨ht, hb⟩
  rw [hx] at ht
  obtain ⟨g, d, rfl, ho⟩ := ht
  exact ⟨g, d, rfl, own_pts ho, hb⟩
theorem cmp_at2 {w2 : World} {k : Nat} {us vs : List Nat} {A A' : Option Addr} {c c' B B' : Nat} (hp : Pts w2 B A us) (hB : B ≤ w2.heap.size) (hq : Pts w2 B' A' vs) (hB' : B' ≤ w2.heap.size) (hu : us.length = k) (hv : vs.length = k) (k1 : 1 ≤ k) (k16 : k ≤ 16) {m : Int} (hm : Z.cmp us vs = m) :
    Calls Tryz.prog 65 #[.slice A us.length c, .slice A' vs.length c'] w2 fun e w' => e = .returned (.tuple #[.int .i64 m, .int .i64 0]) ∧ w2 = w' := by
  subst hm
  exact cmp_yes A A' c c' us vs w2.heap.size w2 (hp.keep hB (fun _ _ => rfl)) (hq.keep hB' (fun _ _ => rfl)) (by omega) (by omega) (by omega)
theorem tOf_some {w2 : World} {k : Nat} {n : T} (hn : Node w2 w2.heap.size k n) (k1 : 1 ≤ k) (k16 : k ≤ 16) :
    Calls Tryz.prog 66 #[.int .i64 (k : Int), .pointer (some ⟨n.blk, 0, none⟩)] w2 fun e w' => e = .returned (.tuple #[.pointer (some ⟨w2.heap.size, 0, none⟩), .int .i64 0]) ∧ TreeX w' w2.heap.size k (some n) ∧ Below w2.heap.size w2 w' := tOf_c (NodeO.some hn) (Nat.le_refl _) k1 k16
theorem kJoin_a0 {w : World} {ga gb k : Nat} {rb : Option Addr} (ha : TreC w ga k none) (hb : TreC w gb k rb) :
    Calls Tryz.prog 20 #[.pointer (some ⟨ga, 0, none⟩), .pointer (some ⟨gb, 0, none⟩)] w fun e w' => e = .returned (.tuple #[.pointer (some ⟨gb, 0, none⟩), .int .i64 0]) ∧ Below w.heap.size w w' := by
  refine (callsIn_wide (n := 8)).1 ?_
  refine callsIn_of_wp Tryz.func20 rfl trivial ?_ rfl
  simp only [Tryz.ntmps20, List.size_toArray, List.length_cons, List.length_nil, Nat.reduceAdd, Nat.reduceSub, Array.replicate_succ, Array.replicate_zero, List.push_toArray, List.append_toArray, List.nil_append, List.cons_append]
  have HKa := Lib.hid (tK_c ha)
  have HKb := Lib.hid (tK_c hb)
  have HRa := Lib.hid (tRoot_c ha)
  have HLa := Lib.hid (lastE_nil w)
  have d2 : decide ((k : Int) = (k : Int)) = true := decide_eq_true rfl
  clear ha hb
  gi_wp2_with (refine ⟨trivial, ?_⟩; first
    | ((with_reducible refine (callsIn_wide.2 HKa.out).mono ?_); rintro e w' ⟨rfl, rfl⟩)
    | ((with_reducible refine (callsIn_wide.2 HKb.out).mono ?_); rintro e w' ⟨rfl, rfl⟩)
    | ((with_reducible refine (callsIn_wide.2 HRa.out).mono ?_); rintro e w' ⟨rfl, rfl⟩)
    | ((with_reducible refine (callsIn_wide.2 HLa.out).mono ?_); rintro e w2 ⟨rfl, hb2⟩))
  exact bodyPost_ret (v := .tuple #[.pointer (some ⟨gb, 0, none⟩), .int .i64 0]) (by simp [results, Tryz.f20, go_sem]) rfl ⟨rfl, by first | exact hb2 | exact hb2.trans ((below_alloc w2 _).mono hb2.size)⟩
set_option maxRecDepth 1000000 in
set_option maxHeartbeats 4000000 in
theorem kJoin_b0 {w : World} {B ga gb k : Nat} {ta : T} (ha : TreeAt w B ga k (some ta)) (hb : TreeAt w B gb k none) (hB : B ≤ w.heap.size) :
    Calls Tryz.prog 20 #[.pointer (some ⟨ga, 0, none⟩), .pointer (some ⟨gb, 0, none⟩)] w fun e w' => e = .returned (.tuple #[.pointer (some ⟨ga, 0, none⟩), .int .i64 0]) ∧ Below w.heap.size w w' := by
  refine (callsIn_wide (n := 8)).1 ?_
  refine callsIn_of_wp Tryz.func20 rfl trivial ?_ rfl
  simp only [Tryz.ntmps20, List.size_toArray, List.length_cons, List.length_nil, Nat.reduceAdd, Nat.reduceSub, Array.replicate_succ, Array.replicate_zero, List.push_toArray, List.append_toArray, List.nil_append, List.cons_append]
  obtain ⟨hga0, k1, k16, tca, hra⟩ := ha
  obtain ⟨hgb0, -, -, tcb, -⟩ := hb
  have tca : TreC w ga k (some ⟨ta.blk, 0, none⟩) := tca
  have tcb : TreC w gb k none := tcb
  have na := hra ta rfl
  have hgb : gb < w.heap.size := Nat.lt_of_lt_of_le hgb0 hB
  obtain ⟨x, hx⟩ : ∃ x, ta.ents.getLast? = some x := by
    cases h : ta.ents.getLast? with
    | none => exact (na.1.ne (List.getLast?_eq_none_iff.1 h)).elim
    | some x => exact ⟨x, rfl⟩
  have HKa := Lib.hid (tK_c tca)
  have HKb := Lib.hid (tK_c tcb)
  have HRa := Lib.hid (tRoot_c tca)
  have HLa := Lib.hid (last_at na hB (Below.refl _ w) hx)
  have HRb := Lib.hid fun (w2 : World) (h2 : Below w.heap.size w w2) => tRoot_c (tcb.below h2 hgb)
  have HFb := Lib.hid fun (w2 : World) => first_nil w2
  have d2 : decide ((k : Int) = (k : Int)) = true := decide_eq_true rfl
  clear na hra tca tcb hB hx hga0 hgb0 hgb
  obtain ⟨x1, x2⟩ := x
  gi_wp2_with (refine ⟨trivial, ?_⟩; first
    | ((with_reducible refine (callsIn_wide.2 HKa.out).mono ?_); rintro e w' ⟨rfl, rfl⟩)
    | ((with_reducible refine (callsIn_wide.2 HKb.out).mono ?_); rintro e w' ⟨rfl, rfl⟩)
    | ((with_reducible refine (callsIn_wide.2 HRa.out).mono ?_); rintro e w' ⟨rfl, rfl⟩)
    | ((with_reducible refine (callsIn_wide.2 HLa.out).mono ?_); rintro e w2 ⟨h2, e2, rfl, hp2, hb2⟩; have hB2 : ∀ o, Below w.heap.size w (w2.alloc o) := fun o => hb2.trans ((below_alloc w2 o).mono hb2.size))
    | ((with_reducible refine (callsIn_wide.2 (HRb.out _ (hB2 _))).mono ?_); rintro e w' ⟨rfl, rfl⟩)
    | ((with_reducible refine (callsIn_wide.2 (HFb.out _)).mono ?_); rintro e w3 ⟨rfl, hb3⟩))
  have hB3 : Below w.heap.size w w3 := (hB2 _).trans (hb3.mono (hB2 _).size)
  exact bodyPost_ret (v := .tuple #[.pointer (some ⟨ga, 0, none⟩), .int .i64 0]) (by simp [results, Tryz.f20, go_sem]) rfl ⟨rfl, by first | exact hB3 | exact hB3.trans ((below_alloc w3 _).mono hB3.size)⟩
set_option maxRecDepth 1000000 in
set_option maxHeartbeats 4000000 in
theorem kJoin_ok {w : World} {B ga gb k : Nat} {ta tb : T} (ha : TreeAt w B ga k (some ta)) (hb : TreeAt w B gb k (some tb)) (hB : B ≤ w.heap.size) (hT : ∀ w', Below B w w' → Tz w') {x y : Ent} (hx : ta.ents.getLast? = some x) (hy : tb.ents.head? = some y) (hlt : Z.cmp x.1 y.1 < 0) (hN : ta.ents.length + tb.ents.length ≤ 200000000) :
    Calls Tryz.prog 20 #[.pointer (some ⟨ga, 0, none⟩), .pointer (some ⟨gb, 0, none⟩)] w fun e w' => ∃ b' n, e = .returned (.tuple #[.pointer (some ⟨b', 0, none⟩), .int .i64 0]) ∧ TreeX w' b' k (some n) ∧ n.ents = ta.ents ++ tb.ents ∧ Below w.heap.size w w' := by
  refine (callsIn_wide (n := 8)).1 ?_
  refine callsIn_of_wp Tryz.func20 rfl trivial ?_ rfl
  simp only [Tryz.ntmps20, List.size_toArray, List.length_cons, List.length_nil, Nat.reduceAdd, Nat.reduceSub, Array.replicate_succ, Array.replicate_zero, List.push_toArray, List.append_toArray, List.nil_append, List.cons_append]
  have HA := Lib.hid (And.intro ha.1 hb.1)
  obtain ⟨-, k1, k16, tca, hra⟩ := ha
  obtain ⟨-, -, -, tcb, hrb⟩ := hb
  have tca : TreC w ga k (some ⟨ta.blk, 0, none⟩) := tca
  have tcb : TreC w gb k (some ⟨tb.blk, 0, none⟩) := tcb
  have na := hra ta rfl
  have nb := hrb tb rfl
  obtain ⟨s, hs⟩ : ∃ s, Z.cmp x.1 y.1 = s := ⟨_, rfl⟩
  have hxm := List.mem_of_getLast? hx
  have hym := List.mem_of_mem_head? (by rw [hy]; rfl : y ∈ tb.ents.head?)
  have dx := na.1.dim x hxm
  have dy := nb.1.dim y hym
  have hga : ga < w.heap.size := (Nat.lt_of_lt_of_le HA.out.1 hB)
  have hgb : gb < w.heap.size := (Nat.lt_of_lt_of_le HA.out.2 hB)
  have hbef := bef_of na.1.zs nb.1.zs hx hy ((Tr.key_lt (by rw [dx.1, dy.1]) dx.2.1 dy.2.1).2 hlt)
  have HKa := Lib.hid (tK_c tca)
  have HKb := Lib.hid (tK_c tcb)
  have HRa := Lib.hid (tRoot_c tca)
  have HLa := Lib.hid (last_at na hB (Below.refl _ w) hx)
  have HRb := Lib.hid fun (w2 : World) (h2 : Below w.heap.size w w2) => tRoot_c (tcb.below h2 hgb)
  have HFb := Lib.hid fun (w2 : World) (h2 : Below w.heap.size w w2) => first_at nb hB hT h2 hy
  have HCm := Lib.hid fun (w2 : World) (A A' : Option Addr) (c c' B2 B3 : Nat) (h1 : Pts w2 B2 A x.1) (h1' : B2 ≤ w2.heap.size) (h2 : Pts w2 B3 A' y.1) (h2' : B3 ≤ w2.heap.size) => cmp_at2 (c := c) (c' := c') h1 h1' h2 h2' dx.1 dy.1 k1 k16 hs
  have HKc := Lib.hid fun (w2 : World) (h2 : Below w.heap.size w w2) => tK_c (tca.below h2 hga)
  have HRc := Lib.hid fun (w2 : World) (h2 : Below w.heap.size w w2) => tRoot_c (tca.below h2 hga)
  have HJn := Lib.hid fun (w2 : World) (h2 : Below w.heap.size w w2) => join_c (na.below h2 hB (Nat.le_refl _)) (nb.below h2 hB (Nat.le_refl _)) (Nat.le_trans hB h2.size) (fun w' h' => hT w' ((h2.mono hB).trans (h'.mono (Nat.le_trans hB h2.size)))) hbef hN
  have HOf := Lib.hid fun (w2 : World) (n : T) (hn : Node w2 w2.heap.size k n) => tOf_some hn k1 k16
  have d1 : decide ((0 : Int) ≤ s) = false := decide_eq_false (by omega)
  have d2 : decide ((k : Int) = (k : Int)) = true := decide_eq_true rfl
  clear na nb hra hrb tca tcb hbef hB hT hx hy hlt hN dx dy hxm hym hs hga hgb
  obtain ⟨x1, x2⟩ := x
  obtain ⟨y1, y2⟩ := y
  gi_wp2_with (refine ⟨trivial, ?_⟩; first
    | ((with_reducible refine (callsIn_wide.2 HKa.out).mono ?_); rintro e w' ⟨rfl, rfl⟩)
    | ((with_reducible refine (callsIn_wide.2 HKb.out).mono ?_); rintro e w' ⟨rfl, rfl⟩)
    | ((with_reducible refine (callsIn_wide.2 HRa.out).mono ?_); rintro e w' ⟨rfl, rfl⟩)
    | ((with_reducible refine (callsIn_wide.2 HLa.out).mono ?_); rintro e w2 ⟨h2, e2, rfl, hp2, hb2⟩; have hB2 : ∀ o, Below w.heap.size w (w2.alloc o) := fun o => hb2.trans ((below_alloc w2 o).mono hb2.size))
    | ((with_reducible refine (callsIn_wide.2 (HRb.out _ (hB2 _))).mono ?_); rintro e w' ⟨rfl, rfl⟩)
    | ((with_reducible refine (callsIn_wide.2 (HFb.out _ (hB2 _))).mono ?_); rintro e w3 ⟨h3, e3, rfl, hp3, hb3⟩; have hB3 : Below w.heap.size w w3 := (hB2 _).trans (hb3.mono (hB2 _).size); have hB3o : ∀ o, Below w.heap.size w (w3.alloc o) := (fun o => hB3.trans ((below_alloc w3 o).mono hB3.size)); have hg3 := (hb3.block w2.heap.size (by simp)).trans (heap_at w2 _ _ rfl); have c2 : ∀ o, (w3.alloc o).cell? ⟨w2.heap.size, 0, none⟩ = some (.slice (some ⟨h2, 0, none⟩) x1.length e2) := fun o => (by rw [cell_of_row _ _ _ _ _ (0, 0) (hav_old (o := o) hg3)]; rfl); have hbx : ∀ o, Below w2.heap.size w2 (w3.alloc o) := fun o => ((below_alloc w2 _).trans (hb3.mono (by simp))).trans ((below_alloc w3 o).mono (by have := hb3.size; simp at this; omega)))
    | ((with_reducible refine (callsIn_wide.2 (HCm.out _ _ _ _ _ _ _ (hp2.below' (hbx _) (Nat.le_refl _)) (hbx _).size (hp3.below' (below_alloc w3 _) (Nat.le_refl _)) (by simp))).mono ?_); rintro e w' ⟨rfl, rfl⟩))
  refine ⟨trivial, ?_⟩
  refine (callsIn_wide.2 (HKc.out _ (hB3o _))).mono ?_
  rintro e w' ⟨rfl, rfl⟩
  clear HKa HKb HLa HFb HCm hg3 c2 hbx hp2 hp3 HKc HRa
  gi_wp2_with (refine ⟨trivial, ?_⟩; first
    | ((with_reducible refine (callsIn_wide.2 (HRc.out _ (hB3o _))).mono ?_); rintro e w' ⟨rfl, rfl⟩)
    | ((with_reducible refine (callsIn_wide.2 (HRb.out _ (hB3o _))).mono ?_); rintro e w' ⟨rfl, rfl⟩)
    | ((with_reducible refine (callsIn_wide.2 (HJn.out _ (hB3o _))).mono ?_); rintro e w4 ⟨n4, rfl, hn4, he4, hb4⟩)
    | ((with_reducible refine (callsIn_wide.2 (HOf.out _ n4 hn4)).mono ?_); rintro e w5 ⟨rfl, ht5, hb5⟩))
  have hB4 : Below w.heap.size w w4 := (hB3o _).trans (hb4.mono (hB3o _).size)
  refine bodyPost_ret (v := .tuple #[.pointer (some ⟨w4.heap.size, 0, none⟩), .int .i64 0]) (by simp [results, Tryz.f20, go_sem]) rfl ?_
  exact ⟨w4.heap.size, n4, rfl, ht5, he4, hB4.trans (hb5.mono hB4.size)⟩
set_option maxRecDepth 1000000 in
set_option maxHeartbeats 4000000 in
theorem kJoin_clash {w : World} {B ga gb k : Nat} {ta tb : T} (ha : TreeAt w B ga k (some ta)) (hb : TreeAt w B gb k (some tb)) (hB : B ≤ w.heap.size) (hT : ∀ w', Below B w w' → Tz w') {x y : Ent} (hx : ta.ents.getLast? = some x) (hy : tb.ents.head? = some y) (hle : 0 ≤ Z.cmp x.1 y.1) :
    Calls Tryz.prog 20 #[.pointer (some ⟨ga, 0, none⟩), .pointer (some ⟨gb, 0, none⟩)] w fun e w' => e = .returned (.tuple #[.pointer none, .int .i64 7]) ∧ Below w.heap.size w w' := by
  refine (callsIn_wide (n := 8)).1 ?_
  refine callsIn_of_wp Tryz.func20 rfl trivial ?_ rfl
  simp only [Tryz.ntmps20, List.size_toArray, List.length_cons, List.length_nil, Nat.reduceAdd, Nat.reduceSub, Array.replicate_succ, Array.replicate_zero, List.push_toArray, List.append_toArray, List.nil_append, List.cons_append]
  have HA := Lib.hid (And.intro ha.1 hb.1)
  obtain ⟨-, k1, k16, tca, hra⟩ := ha
  obtain ⟨-, -, -, tcb, hrb⟩ := hb
  have tca : TreC w ga k (some ⟨ta.blk, 0, none⟩) := tca
  have tcb : TreC w gb k (some ⟨tb.blk, 0, none⟩) := tcb
  have na := hra ta rfl
  have nb := hrb tb rfl
  obtain ⟨s, hs⟩ : ∃ s, Z.cmp x.1 y.1 = s := ⟨_, rfl⟩
  have hxm := List.mem_of_getLast? hx
  have hym := List.mem_of_mem_head? (by rw [hy]; rfl : y ∈ tb.ents.head?)
  have dx := na.1.dim x hxm
  have dy := nb.1.dim y hym
  have hga : ga < w.heap.size := (Nat.lt_of_lt_of_le HA.out.1 hB)
  have hgb : gb < w.heap.size := (Nat.lt_of_lt_of_le HA.out.2 hB)
  have HKa := Lib.hid (tK_c tca)
  have HKb := Lib.hid (tK_c tcb)
  have HRa := Lib.hid (tRoot_c tca)
  have HLa := Lib.hid (last_at na hB (Below.refl _ w) hx)
  have HRb := Lib.hid fun (w2 : World) (h2 : Below w.heap.size w w2) => tRoot_c (tcb.below h2 hgb)
  have HFb := Lib.hid fun (w2 : World) (h2 : Below w.heap.size w w2) => first_at nb hB hT h2 hy
  have HCm := Lib.hid fun (w2 : World) (A A' : Option Addr) (c c' B2 B3 : Nat) (h1 : Pts w2 B2 A x.1) (h1' : B2 ≤ w2.heap.size) (h2 : Pts w2 B3 A' y.1) (h2' : B3 ≤ w2.heap.size) => cmp_at2 (c := c) (c' := c') h1 h1' h2 h2' dx.1 dy.1 k1 k16 hs
  have d1 : decide ((0 : Int) ≤ s) = true := decide_eq_true (by omega)
  have d2 : decide ((k : Int) = (k : Int)) = true := decide_eq_true rfl
  clear na nb hra hrb tca tcb hB hT hx hy hle dx dy hxm hym hs hga hgb
  obtain ⟨x1, x2⟩ := x
  obtain ⟨y1, y2⟩ := y
  gi_wp2_with (refine ⟨trivial, ?_⟩; first
    | ((with_reducible refine (callsIn_wide.2 HKa.out).mono ?_); rintro e w' ⟨rfl, rfl⟩)
    | ((with_reducible refine (callsIn_wide.2 HKb.out).mono ?_); rintro e w' ⟨rfl, rfl⟩)
    | ((with_reducible refine (callsIn_wide.2 HRa.out).mono ?_); rintro e w' ⟨rfl, rfl⟩)
    | ((with_reducible refine (callsIn_wide.2 HLa.out).mono ?_); rintro e w2 ⟨h2, e2, rfl, hp2, hb2⟩; have hB2 : ∀ o, Below w.heap.size w (w2.alloc o) := fun o => hb2.trans ((below_alloc w2 o).mono hb2.size))
    | ((with_reducible refine (callsIn_wide.2 (HRb.out _ (hB2 _))).mono ?_); rintro e w' ⟨rfl, rfl⟩)
    | ((with_reducible refine (callsIn_wide.2 (HFb.out _ (hB2 _))).mono ?_); rintro e w3 ⟨h3, e3, rfl, hp3, hb3⟩; have hB3 : Below w.heap.size w w3 := (hB2 _).trans (hb3.mono (hB2 _).size); have hB3o : ∀ o, Below w.heap.size w (w3.alloc o) := (fun o => hB3.trans ((below_alloc w3 o).mono hB3.size)); have hg3 := (hb3.block w2.heap.size (by simp)).trans (heap_at w2 _ _ rfl); have c2 : ∀ o, (w3.alloc o).cell? ⟨w2.heap.size, 0, none⟩ = some (.slice (some ⟨h2, 0, none⟩) x1.length e2) := fun o => (by rw [cell_of_row _ _ _ _ _ (0, 0) (hav_old (o := o) hg3)]; rfl); have hbx : ∀ o, Below w2.heap.size w2 (w3.alloc o) := fun o => ((below_alloc w2 _).trans (hb3.mono (by simp))).trans ((below_alloc w3 o).mono (by have := hb3.size; simp at this; omega)))
    | ((with_reducible refine (callsIn_wide.2 (HCm.out _ _ _ _ _ _ _ (hp2.below' (hbx _) (Nat.le_refl _)) (hbx _).size (hp3.below' (below_alloc w3 _) (Nat.le_refl _)) (by simp))).mono ?_); rintro e w' ⟨rfl, rfl⟩))
  exact bodyPost_ret (v := .tuple #[.pointer none, .int .i64 7]) (by simp [results, Tryz.f20, go_sem]) rfl ⟨rfl, hB3o _⟩
end Go.Proofs.YtpgkfccfabnjdaaGreatDoor

/-
  THE LAW RankJoins. Laid by wip/gen45.py.
-/
namespace Go.Proofs.YtpgkfccfabnjdaaGreatDoor
open Go.ChangeShapes Go.WideShapes Go.ChangeAt Go.RowKit
open Tr (T S4 Ent)

def Ahd (L M : List Ent) : Prop := ∀ x y, L.getLast? = some x → M.head? = some y → Z.cmp x.1 y.1 < 0
theorem last_some {k : Nat} {t : T} (h : Tr.Wf k t) : ∃ x, t.ents.getLast? = some x := by
  cases e : t.ents.getLast? with
  | none => exact (h.ne (List.getLast?_eq_none_iff.1 e)).elim
  | some x => exact ⟨x, rfl⟩
theorem head_some {k : Nat} {t : T} (h : Tr.Wf k t) : ∃ x, t.ents.head? = some x := by
  cases e : t.ents.head? with
  | none => exact (h.ne (List.head?_eq_none_iff.1 e)).elim
  | some x => exact ⟨x, rfl⟩
theorem kJoin_fine {w : World} {ga gb k : Nat} {oa ob : Option T} (ha : TreeX w ga k oa) (hb : TreeX w gb k ob) (hT : ∀ w', Below w.heap.size w w' → Tz w') (h : Ahd (Tr.entsO oa) (Tr.entsO ob)) (hN : (Tr.entsO oa).length + (Tr.entsO ob).length ≤ 200000000) :
    Calls Tryz.prog 20 #[.pointer (some ⟨ga, 0, none⟩), .pointer (some ⟨gb, 0, none⟩)] w fun e w' => ∃ b' o, e = .returned (.tuple #[.pointer (some ⟨b', 0, none⟩), .int .i64 0]) ∧ TreeX w' b' k o ∧ Tr.entsO o = Tr.entsO oa ++ Tr.entsO ob ∧ Below w.heap.size w w' := by
  cases oa with
  | none =>
    refine (kJoin_a0 ha.1.2.2.2.1 hb.1.2.2.2.1).mono ?_
    rintro e w' ⟨rfl, hbl⟩
    exact ⟨gb, ob, rfl, hb.below hbl (Nat.le_refl _), by simp [Tr.entsO], hbl⟩
  | some ta =>
    cases ob with
    | none =>
      refine (kJoin_b0 ha.1 hb.1 (Nat.le_refl _)).mono ?_
      rintro e w' ⟨rfl, hbl⟩
      exact ⟨ga, some ta, rfl, ha.below hbl (Nat.le_refl _), by simp [Tr.entsO], hbl⟩
    | some tb =>
      obtain ⟨x, hx⟩ := last_some (ha.1.2.2.2.2 ta rfl).1
      obtain ⟨y, hy⟩ := head_some (hb.1.2.2.2.2 tb rfl).1
      refine (kJoin_ok ha.1 hb.1 (Nat.le_refl _) hT hx hy (h x y hx hy) hN).mono ?_
      rintro e w' ⟨b', n, rfl, ht, he, hbl⟩
      exact ⟨b', some n, rfl, ht, he, hbl⟩
theorem kJoin_no {w : World} {ga gb k : Nat} {oa ob : Option T} (ha : TreeX w ga k oa) (hb : TreeX w gb k ob) (hT : ∀ w', Below w.heap.size w w' → Tz w') {x y : Ent} (hx : (Tr.entsO oa).getLast? = some x) (hy : (Tr.entsO ob).head? = some y) (h : 0 ≤ Z.cmp x.1 y.1) :
    Calls Tryz.prog 20 #[.pointer (some ⟨ga, 0, none⟩), .pointer (some ⟨gb, 0, none⟩)] w fun e w' => e = .returned (.tuple #[.pointer none, .int .i64 7]) ∧ Below w.heap.size w w' := by
  cases oa with
  | none => cases hx
  | some ta =>
    cases ob with
    | none => cases hy
    | some tb => exact kJoin_clash ha.1 hb.1 (Nat.le_refl _) hT hx hy h
theorem dim_o {w : World} {k b : Nat} {o : Option T} (h : TreeX w b k o) : Tr.Dim k (Tr.entsO o) ∧ Tr.ZS (Tr.entsO o) := by
  cases o with
  | none => exact ⟨fun e he => (by cases he), List.Pairwise.nil⟩
  | some t => exact ⟨(h.1.2.2.2.2 t rfl).1.dim, (h.1.2.2.2.2 t rfl).1.zs⟩
theorem is7_n {w : World} {b k n c : Nat} {o : Option T} {A : Option Addr} {L : List Ent} (h : TreeX w b k o) (hT : ∀ w', Below w.heap.size w w' → Tz w') (hL : Ents w w.heap.size A L) (he : Tr.entsO o = L) (hn : L.length = n) (hc : n ≤ c) (hl : n ≤ 1000000) :
    Calls Tryz.prog 16 #[.pointer (some ⟨b, 0, none⟩), .int .i64 (k : Int), .slice A n c] w fun e w' => e = .returned (.bool true) ∧ Below w.heap.size w w' := by
  subst he
  subst hn
  exact is7_c h.1 hT hL hc hl
end Go.Proofs.YtpgkfccfabnjdaaGreatDoor
