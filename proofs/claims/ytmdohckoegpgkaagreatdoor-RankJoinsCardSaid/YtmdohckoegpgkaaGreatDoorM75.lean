import Derived.Test.YtmdohckoegpgkaaGreatDoorM74
import Derived.Test.YtmdohckoegpgkaaGreatDoorM70
/-
  CONTRACTS of package rank: Join.
-/
namespace Go.Proofs.YtmdohckoegpgkaaGreatDoor
open Go.RowKit Go.Shelf
open Tr (T S4 Ent)
attribute [local go_sem] Oper.semAt_some

/-- the last of the one ahead of the first of the other one: all ahead of all -/
theorem bef_of {L M : List Ent} (zL : Tr.ZS L) (zM : Tr.ZS M) {x y : Ent} (hx : L.getLast? = some x) (hy : M.head? = some y) (h : Tr.key x.1 < Tr.key y.1) : Tr.Bef L M := by
  intro e he f hf
  have h1 : Tr.key e.1 ≤ Tr.key x.1 := by
    obtain ⟨L', rfl⟩ := List.getLast?_eq_some_iff.1 hx
    rcases List.mem_append.1 he with c | c
    · exact Nat.le_of_lt ((List.pairwise_append.1 zL).2.2 e c x (by simp))
    · rw [List.mem_singleton.1 c]; exact Nat.le_refl _
  have h2 : Tr.key y.1 ≤ Tr.key f.1 := by
    cases M with
    | nil => simp at hy
    | cons z M =>
      simp only [List.head?_cons, Option.some.injEq] at hy
      subst hy
      rcases List.mem_cons.1 hf with c | c
      · rw [c]; exact Nat.le_refl _
      · exact Nat.le_of_lt ((List.pairwise_cons.1 zM).1 f c)
  omega
/-- a point that a call made -/
theorem own_pts {w : World} {base h d : Nat} {p : List Nat} (ho : Own w base (.slice (some ⟨h, 0, none⟩) p.length d) p) : Pts w w.heap.size (some ⟨h, 0, none⟩) p := by
  obtain ⟨A', c', hv, hp'⟩ := ho.pts
  simp only [Value.slice.injEq] at hv
  obtain ⟨rfl, -, rfl⟩ := hv
  exact hp'
theorem last_at {w w2 : World} {B k : Nat} {t : T} (h : Node w B k t) (hB : B ≤ w.heap.size) (h2 : Below w.heap.size w w2) {x : Ent} (hx : t.ents.getLast? = some x) :
    Calls Tryz.prog 55 #[.pointer (some ⟨t.blk, 0, none⟩)] w2 fun e w' => ∃ h d, e = .returned (.tuple #[.agg #[.slice (some ⟨h, 0, none⟩) x.1.length d, .int .u64 (x.2 : Int)], .bool true]) ∧ Pts w' w'.heap.size (some ⟨h, 0, none⟩) x.1 ∧ Below w2.heap.size w2 w' := by
  refine (lastE_c (h.below h2 hB (Nat.le_refl _)) (Nat.le_trans hB h2.size)).mono ?_
  rintro e w' ⟨ht, hb⟩
  rw [hx] at ht
  obtain ⟨g, d, rfl, ho⟩ := ht
  exact ⟨g, d, rfl, own_pts ho, hb⟩
theorem first_at {w w2 : World} {B k : Nat} {t : T} (h : Node w B k t) (hB : B ≤ w.heap.size) (hT : ∀ w', Below B w w' → Tz w') (h2 : Below w.heap.size w w2) {x : Ent} (hx : t.ents.head? = some x) :
    Calls Tryz.prog 56 #[.pointer (some ⟨t.blk, 0, none⟩)] w2 fun e w' => ∃ h d, e = .returned (.tuple #[.agg #[.slice (some ⟨h, 0, none⟩) x.1.length d, .int .u64 (x.2 : Int)], .bool true]) ∧ Pts w' w'.heap.size (some ⟨h, 0, none⟩) x.1 ∧ Below w2.heap.size w2 w' := by
  refine (first_c (h.below h2 hB (Nat.le_refl _)) (Nat.le_trans hB h2.size) (fun w' h' => hT w' ((h2.mono hB).trans h'))).mono ?_
  rintro e w' ⟨ht, hb⟩
  rw [hx] at ht
  obtain ⟨g, d, rfl, ho⟩ := ht
  exact ⟨g, d, rfl, own_pts ho, hb⟩
theorem cmp_at2 {w2 : World} {k : Nat} {us vs : List Nat} {A A' : Option Addr} {c c' B B' : Nat} (hp : Pts w2 B A us) (hB : B ≤ w2.heap.size) (hq : Pts w2 B' A' vs) (hB' : B' ≤ w2.heap.size) (hu : us.length = k) (hv : vs.length = k) (k1 : 1 ≤ k) (k16 : k ≤ 16) {m : Int} (hm : Z.cmp us vs = m) :
    Calls Tryz.prog 57 #[.slice A us.length c, .slice A' vs.length c'] w2 fun e w' => e = .returned (.tuple #[.int .i64 m, .int .i64 0]) ∧ w2 = w' := by
  subst hm
  exact cmp_yes A A' c c' us vs w2.heap.size w2 (hp.keep hB (fun _ _ => rfl)) (hq.keep hB' (fun _ _ => rfl)) (by omega) (by omega) (by omega)
theorem tOf_some {w2 : World} {k : Nat} {n : T} (hn : Node w2 w2.heap.size k n) (k1 : 1 ≤ k) (k16 : k ≤ 16) :
    Calls Tryz.prog 58 #[.int .i64 (k : Int), .pointer (some ⟨n.blk, 0, none⟩)] w2 fun e w' => e = .returned (.tuple #[.pointer (some ⟨w2.heap.size, 0, none⟩), .int .i64 0]) ∧ TreeX w' w2.heap.size k (some n) ∧ Below w2.heap.size w2 w' := tOf_c (NodeO.some hn) (Nat.le_refl _) k1 k16
theorem kJoin_nila (p : Option Addr) (w : World) : Calls Tryz.prog 21 #[.pointer none, .pointer p] w fun e w' => e = .returned (.tuple #[.pointer none, .int .i64 1]) ∧ w = w' := by
  refine (callsIn_wide (n := 8)).1 ?_
  refine callsIn_of_wp Tryz.func21 rfl trivial ?_ rfl
  simp only [Tryz.ntmps21, List.size_toArray, List.length_cons, List.length_nil, Nat.reduceAdd, Nat.reduceSub, Array.replicate_succ, Array.replicate_zero, List.push_toArray, List.append_toArray, List.nil_append, List.cons_append]
  gi_wp2
  exact bodyPost_ret (v := .tuple #[.pointer none, .int .i64 1]) (by simp [results, Tryz.f21, go_sem]) rfl ⟨rfl, rfl⟩
theorem kJoin_nilb (p : Addr) (w : World) : Calls Tryz.prog 21 #[.pointer (some p), .pointer none] w fun e w' => e = .returned (.tuple #[.pointer none, .int .i64 1]) ∧ w = w' := by
  refine (callsIn_wide (n := 8)).1 ?_
  refine callsIn_of_wp Tryz.func21 rfl trivial ?_ rfl
  simp only [Tryz.ntmps21, List.size_toArray, List.length_cons, List.length_nil, Nat.reduceAdd, Nat.reduceSub, Array.replicate_succ, Array.replicate_zero, List.push_toArray, List.append_toArray, List.nil_append, List.cons_append]
  gi_wp2
  exact bodyPost_ret (v := .tuple #[.pointer none, .int .i64 1]) (by simp [results, Tryz.f21, go_sem]) rfl ⟨rfl, rfl⟩
theorem kJoin_dim {w : World} {ga gb k k' : Nat} {ra rb : Option Addr} (ha : TreC w ga k ra) (hb : TreC w gb k' rb) (hne : k ≠ k') :
    Calls Tryz.prog 21 #[.pointer (some ⟨ga, 0, none⟩), .pointer (some ⟨gb, 0, none⟩)] w fun e w' => e = .returned (.tuple #[.pointer none, .int .i64 2]) ∧ w = w' := by
  refine (callsIn_wide (n := 8)).1 ?_
  refine callsIn_of_wp Tryz.func21 rfl trivial ?_ rfl
  simp only [Tryz.ntmps21, List.size_toArray, List.length_cons, List.length_nil, Nat.reduceAdd, Nat.reduceSub, Array.replicate_succ, Array.replicate_zero, List.push_toArray, List.append_toArray, List.nil_append, List.cons_append]
  have HKa := Lib.hid (tK_c ha)
  have HKb := Lib.hid (tK_c hb)
  have d1 : decide ((k : Int) = (k' : Int)) = false := decide_eq_false (by omega)
  have d2 : ((k : Int) == (k' : Int)) = false := by rw [beq_eq_false_iff_ne]; omega
  clear ha hb hne
  gi_wp2_with (refine ⟨trivial, ?_⟩; first
    | ((with_reducible refine (callsIn_wide.2 HKa.out).mono ?_); rintro e w' ⟨rfl, rfl⟩)
    | ((with_reducible refine (callsIn_wide.2 HKb.out).mono ?_); rintro e w' ⟨rfl, rfl⟩))
  exact bodyPost_ret (v := .tuple #[.pointer none, .int .i64 2]) (by simp [results, Tryz.f21, go_sem]) rfl ⟨rfl, rfl⟩
theorem kJoin_a0 {w : World} {ga gb k : Nat} {rb : Option Addr} (ha : TreC w ga k none) (hb : TreC w gb k rb) :
    Calls Tryz.prog 21 #[.pointer (some ⟨ga, 0, none⟩), .pointer (some ⟨gb, 0, none⟩)] w fun e w' => e = .returned (.tuple #[.pointer (some ⟨gb, 0, none⟩), .int .i64 0]) ∧ Below w.heap.size w w' := by
  refine (callsIn_wide (n := 8)).1 ?_
  refine callsIn_of_wp Tryz.func21 rfl trivial ?_ rfl
  simp only [Tryz.ntmps21, List.size_toArray, List.length_cons, List.length_nil, Nat.reduceAdd, Nat.reduceSub, Array.replicate_succ, Array.replicate_zero, List.push_toArray, List.append_toArray, List.nil_append, List.cons_append]
  have HKa := Lib.hid (tK_c ha)
  have HKb := Lib.hid (tK_c hb)
  have HRa := Lib.hid (tRoot_c ha)
  have HLa := Lib.hid (lastE_nil w)
  have d2 : decide ((k : Int) = (k : Int)) = true := decide_eq_true rfl
  clear ha hb
  gi_wp2_with (refine ⟨trivial, ?_⟩; first
    | ((with_reducible refine (callsIn_wide.2 HKa.out).mono ?_); rintro e w' ⟨rfl, rfl⟩)
    | ((with_reducible refine (callsIn_wide.2 HKb.out).mono ?_); rintro e w' ⟨rfl, rfl⟩)
    | ((with_reducible refine (callsIn_wide.2 HRa.out).mono ?_); rintro e w' ⟨rfl, rfl⟩)
    | ((with_reducible refine (callsIn_wide.2 HLa.out).mono ?_); rintro e w2 ⟨rfl, hb2⟩))
  exact bodyPost_ret (v := .tuple #[.pointer (some ⟨gb, 0, none⟩), .int .i64 0]) (by simp [results, Tryz.f21, go_sem]) rfl ⟨rfl, by first | exact hb2 | exact hb2.trans ((below_alloc w2 _).mono hb2.size)⟩
set_option maxRecDepth 1000000 in
set_option maxHeartbeats 4000000 in
theorem kJoin_b0 {w : World} {B ga gb k : Nat} {ta : T} (ha : TreeAt w B ga k (some ta)) (hb : TreeAt w B gb k none) (hB : B ≤ w.heap.size) :
    Calls Tryz.prog 21 #[.pointer (some ⟨ga, 0, none⟩), .pointer (some ⟨gb, 0, none⟩)] w fun e w' => e = .returned (.tuple #[.pointer (some ⟨ga, 0, none⟩), .int .i64 0]) ∧ Below w.heap.size w w' := by
  refine (callsIn_wide (n := 8)).1 ?_
  refine callsIn_of_wp Tryz.func21 rfl trivial ?_ rfl
  simp only [Tryz.ntmps21, List.size_toArray, List.length_cons, List.length_nil, Nat.reduceAdd, Nat.reduceSub, Array.replicate_succ, Array.replicate_zero, List.push_toArray, List.append_toArray, List.nil_append, List.cons_append]
  obtain ⟨hga0, k1, k16, tca, hra⟩ := ha
  obtain ⟨hgb0, -, -, tcb, -⟩ := hb
  have tca : TreC w ga k (some ⟨ta.blk, 0, none⟩) := tca
  have tcb : TreC w gb k none := tcb
  have na := hra ta rfl
  have hgb : gb < w.heap.size := Nat.lt_of_lt_of_le hgb0 hB
  obtain ⟨x, hx⟩ : ∃ x, ta.ents.getLast? = some x := by
    cases h : ta.ents.getLast? with
    | none => exact (na.1.ne (List.getLast?_eq_none_iff.1 h)).elim
    | some x => exact ⟨x, rfl⟩
  have HKa := Lib.hid (tK_c tca)
  have HKb := Lib.hid (tK_c tcb)
  have HRa := Lib.hid (tRoot_c tca)
  have HLa := Lib.hid (last_at na hB (Below.refl _ w) hx)
  have HRb := Lib.hid fun (w2 : World) (h2 : Below w.heap.size w w2) => tRoot_c (tcb.below h2 hgb)
  have HFb := Lib.hid fun (w2 : World) => first_nil w2
  have d2 : decide ((k : Int) = (k : Int)) = true := decide_eq_true rfl
  clear na hra tca tcb hB hx hga0 hgb0 hgb
  obtain ⟨x1, x2⟩ := x
  gi_wp2_with (refine ⟨trivial, ?_⟩; first
    | ((with_reducible refine (callsIn_wide.2 HKa.out).mono ?_); rintro e w' ⟨rfl, rfl⟩)
    | ((with_reducible refine (callsIn_wide.2 HKb.out).mono ?_); rintro e w' ⟨rfl, rfl⟩)
    | ((with_reducible refine (callsIn_wide.2 HRa.out).mono ?_); rintro e w' ⟨rfl, rfl⟩)
    | ((with_reducible refine (callsIn_wide.2 HLa.out).mono ?_); rintro e w2 ⟨h2, e2, rfl, hp2, hb2⟩; have hB2 : ∀ o, Below w.heap.size w (w2.alloc o) := fun o => hb2.trans ((below_alloc w2 o).mono hb2.size))
    | ((with_reducible refine (callsIn_wide.2 (HRb.out _ (hB2 _))).mono ?_); rintro e w' ⟨rfl, rfl⟩)
    | ((with_reducible refine (callsIn_wide.2 (HFb.out _)).mono ?_); rintro e w3 ⟨rfl, hb3⟩))
  have hB3 : Below w.heap.size w w3 := (hB2 _).trans (hb3.mono (hB2 _).size)
  exact bodyPost_ret (v := .tuple #[.pointer (some ⟨ga, 0, none⟩), .int .i64 0]) (by simp [results, Tryz.f21, go_sem]) rfl ⟨rfl, by first | exact hB3 | exact hB3.trans ((below_alloc w3 _).mono hB3.size)⟩
set_option maxRecDepth 1000000 in
set_option maxHeartbeats 4000000 in
theorem kJoin_ok {w : World} {B ga gb k : Nat} {ta tb : T} (ha : TreeAt w B ga k (some ta)) (hb : TreeAt w B gb k (some tb)) (hB : B ≤ w.heap.size) (hT : ∀ w', Below B w w' → Tz w') {x y : Ent} (hx : ta.ents.getLast? = some x) (hy : tb.ents.head? = some y) (hlt : Z.cmp x.1 y.1 < 0) (hN : ta.ents.length + tb.ents.length ≤ 200000000) :
    Calls Tryz.prog 21 #[.pointer (some ⟨ga, 0, none⟩), .pointer (some ⟨gb, 0, none⟩)] w fun e w' => ∃ b' n, e = .returned (.tuple #[.pointer (some ⟨b', 0, none⟩), .int .i64 0]) ∧ TreeX w' b' k (some n) ∧ n.ents = ta.ents ++ tb.ents ∧ Below w.heap.size w w' := by
  refine (callsIn_wide (n := 8)).1 ?_
  refine callsIn_of_wp Tryz.func21 rfl trivial ?_ rfl
  simp only [Tryz.ntmps21, List.size_toArray, List.length_cons, List.length_nil, Nat.reduceAdd, Nat.reduceSub, Array.replicate_succ, Array.replicate_zero, List.push_toArray, List.append_toArray, List.nil_append, List.cons_append]
  have HA := Lib.hid (And.intro ha.1 hb.1)
  obtain ⟨-, k1, k16, tca, hra⟩ := ha
  obtain ⟨-, -, -, tcb, hrb⟩ := hb
  have tca : TreC w ga k (some ⟨ta.blk, 0, none⟩) := tca
  have tcb : TreC w gb k (some ⟨tb.blk, 0, none⟩) := tcb
  have na := hra ta rfl
  have nb := hrb tb rfl
  obtain ⟨s, hs⟩ : ∃ s, Z.cmp x.1 y.1 = s := ⟨_, rfl⟩
  have hxm := List.mem_of_getLast? hx
  have hym := List.mem_of_mem_head? (by rw [hy]; rfl : y ∈ tb.ents.head?)
  have dx := na.1.dim x hxm
  have dy := nb.1.dim y hym
  have hga : ga < w.heap.size := (Nat.lt_of_lt_of_le HA.out.1 hB)
  have hgb : gb < w.heap.size := (Nat.lt_of_lt_of_le HA.out.2 hB)
  have hbef := bef_of na.1.zs nb.1.zs hx hy ((Tr.key_lt (by rw [dx.1, dy.1]) dx.2.1 dy.2.1).2 hlt)
  have HKa := Lib.hid (tK_c tca)
  have HKb := Lib.hid (tK_c tcb)
  have HRa := Lib.hid (tRoot_c tca)
  have HLa := Lib.hid (last_at na hB (Below.refl _ w) hx)
  have HRb := Lib.hid fun (w2 : World) (h2 : Below w.heap.size w w2) => tRoot_c (tcb.below h2 hgb)
  have HFb := Lib.hid fun (w2 : World) (h2 : Below w.heap.size w w2) => first_at nb hB hT h2 hy
  have HCm := Lib.hid fun (w2 : World) (A A' : Option Addr) (c c' B2 B3 : Nat) (h1 : Pts w2 B2 A x.1) (h1' : B2 ≤ w2.heap.size) (h2 : Pts w2 B3 A' y.1) (h2' : B3 ≤ w2.heap.size) => cmp_at2 (c := c) (c' := c') h1 h1' h2 h2' dx.1 dy.1 k1 k16 hs
  have HKc := Lib.hid fun (w2 : World) (h2 : Below w.heap.size w w2) => tK_c (tca.below h2 hga)
  have HRc := Lib.hid fun (w2 : World) (h2 : Below w.heap.size w w2) => tRoot_c (tca.below h2 hga)
  have HJn := Lib.hid fun (w2 : World) (h2 : Below w.heap.size w w2) => join_c (na.below h2 hB (Nat.le_refl _)) (nb.below h2 hB (Nat.le_refl _)) (Nat.le_trans hB h2.size) (fun w' h' => hT w' ((h2.mono hB).trans (h'.mono (Nat.le_trans hB h2.size)))) hbef hN
  have HOf := Lib.hid fun (w2 : World) (n : T) (hn : Node w2 w2.heap.size k n) => tOf_some hn k1 k16
  have d1 : decide ((0 : Int) ≤ s) = false := decide_eq_false (by omega)
  have d2 : decide ((k : Int) = (k : Int)) = true := decide_eq_true rfl
  clear na nb hra hrb tca tcb hbef hB hT hx hy hlt hN dx dy hxm hym hs hga hgb
  obtain ⟨x1, x2⟩ := x
  obtain ⟨y1, y2⟩ := y
  gi_wp2_with (refine ⟨trivial, ?_⟩; first
    | ((with_reducible refine (callsIn_wide.2 HKa.out).mono ?_); rintro e w' ⟨rfl, rfl⟩)
    | ((with_reducible refine (callsIn_wide.2 HKb.out).mono ?_); rintro e w' ⟨rfl, rfl⟩)
    | ((with_reducible refine (callsIn_wide.2 HRa.out).mono ?_); rintro e w' ⟨rfl, rfl⟩)
    | ((with_reducible refine (callsIn_wide.2 HLa.out).mono ?_); rintro e w2 ⟨h2, e2, rfl, hp2, hb2⟩; have hB2 : ∀ o, Below w.heap.size w (w2.alloc o) := fun o => hb2.trans ((below_alloc w2 o).mono hb2.size))
    | ((with_reducible refine (callsIn_wide.2 (HRb.out _ (hB2 _))).mono ?_); rintro e w' ⟨rfl, rfl⟩)
    | ((with_reducible refine (callsIn_wide.2 (HFb.out _ (hB2 _))).mono ?_); rintro e w3 ⟨h3, e3, rfl, hp3, hb3⟩; have hB3 : Below w.heap.size w w3 := (hB2 _).trans (hb3.mono (hB2 _).size); have hB3o : ∀ o, Below w.heap.size w (w3.alloc o) := (fun o => hB3.trans ((below_alloc w3 o).mono hB3.size)); have hg3 := (hb3.block w2.heap.size (by simp)).trans (heap_at w2 _ _ rfl); have c2 : ∀ o, (w3.alloc o).cell? ⟨w2.heap.size, 0, none⟩ = some (.slice (some ⟨h2, 0, none⟩) x1.length e2) := fun o => (by rw [cell_of_row _ _ _ _ _ (0, 0) (hav_old (o := o) hg3)]; rfl); have hbx : ∀ o, Below w2.heap.size w2 (w3.alloc o) := fun o => ((below_alloc w2 _).trans (hb3.mono (by simp))).trans ((below_alloc w3 o).mono (by have := hb3.size; simp at this; omega)))
    | ((with_reducible refine (callsIn_wide.2 (HCm.out _ _ _ _ _ _ _ (hp2.below' (hbx _) (Nat.le_refl _)) (hbx _).size (hp3.below' (below_alloc w3 _) (Nat.le_refl _)) (by simp))).mono ?_); rintro e w' ⟨rfl, rfl⟩))
  refine ⟨trivial, ?_⟩
  refine (callsIn_wide.2 (HKc.out _ (hB3o _))).mono ?_
  rintro e w' ⟨rfl, rfl⟩
  clear HKa HKb HLa HFb HCm hg3 c2 hbx hp2 hp3 HKc HRa
  gi_wp2_with (refine ⟨trivial, ?_⟩; first
    | ((with_reducible refine (callsIn_wide.2 (HRc.out _ (hB3o _))).mono ?_); rintro e w' ⟨rfl, rfl⟩)
    | ((with_reducible refine (callsIn_wide.2 (HRb.out _ (hB3o _))).mono ?_); rintro e w' ⟨rfl, rfl⟩)
    | ((with_reducible refine (callsIn_wide.2 (HJn.out _ (hB3o _))).mono ?_); rintro e w4 ⟨n4, rfl, hn4, he4, hb4⟩)
    | ((with_reducible refine (callsIn_wide.2 (HOf.out _ n4 hn4)).mono ?_); rintro e w5 ⟨rfl, ht5, hb5⟩))
  have hB4 : Below w.heap.size w w4 := (hB3o _).trans (hb4.mono (hB3o _).size)
  refine bodyPost_ret (v := .tuple #[.pointer (some ⟨w4.heap.size, 0, none⟩), .int .i64 0]) (by simp [results, Tryz.f21, go_sem]) rfl ?_
  exact ⟨w4.heap.size, n4, rfl, ht5, he4, hB4.trans (hb5.mono hB4.size)⟩
set_option maxRecDepth 1000000 in
set_option maxHeartbeats 4000000 in
theorem kJoin_clash {w : World} {B ga gb k : Nat} {ta tb : T} (ha : TreeAt w B ga k (some ta)) (hb : TreeAt w B gb k (some tb)) (hB : B ≤ w.heap.size) (hT : ∀ w', Below B w w' → Tz w') {x y : Ent} (hx : ta.ents.getLast? = some x) (hy : tb.ents.head? = some y) (hle : 0 ≤ Z.cmp x.1 y.1) :
    Calls Tryz.prog 21 #[.pointer (some ⟨ga, 0, none⟩), .pointer (some ⟨gb, 0, none⟩)] w fun e w' => e = .returned (.tuple #[.pointer none, .int .i64 7]) ∧ Below w.heap.size w w' := by
  refine (callsIn_wide (n := 8)).1 ?_
  refine callsIn_of_wp Tryz.func21 rfl trivial ?_ rfl
  simp only [Tryz.ntmps21, List.size_toArray, List.length_cons, List.length_nil, Nat.reduceAdd, Nat.reduceSub, Array.replicate_succ, Array.replicate_zero, List.push_toArray, List.append_toArray, List.nil_append, List.cons_append]
  have HA := Lib.hid (And.intro ha.1 hb.1)
  obtain ⟨-, k1, k16, tca, hra⟩ := ha
  obtain ⟨-, -, -, tcb, hrb⟩ := hb
  have tca : TreC w ga k (some ⟨ta.blk, 0, none⟩) := tca
  have tcb : TreC w gb k (some ⟨tb.blk, 0, none⟩) := tcb
  have na := hra ta rfl
  have nb := hrb tb rfl
  obtain ⟨s, hs⟩ : ∃ s, Z.cmp x.1 y.1 = s := ⟨_, rfl⟩
  have hxm := List.mem_of_getLast? hx
  have hym := List.mem_of_mem_head? (by rw [hy]; rfl : y ∈ tb.ents.head?)
  have dx := na.1.dim x hxm
  have dy := nb.1.dim y hym
  have hga : ga < w.heap.size := (Nat.lt_of_lt_of_le HA.out.1 hB)
  have hgb : gb < w.heap.size := (Nat.lt_of_lt_of_le HA.out.2 hB)
  have HKa := Lib.hid (tK_c tca)
  have HKb := Lib.hid (tK_c tcb)
  have HRa := Lib.hid (tRoot_c tca)
  have HLa := Lib.hid (last_at na hB (Below.refl _ w) hx)
  have HRb := Lib.hid fun (w2 : World) (h2 : Below w.heap.size w w2) => tRoot_c (tcb.below h2 hgb)
  have HFb := Lib.hid fun (w2 : World) (h2 : Below w.heap.size w w2) => first_at nb hB hT h2 hy
  have HCm := Lib.hid fun (w2 : World) (A A' : Option Addr) (c c' B2 B3 : Nat) (h1 : Pts w2 B2 A x.1) (h1' : B2 ≤ w2.heap.size) (h2 : Pts w2 B3 A' y.1) (h2' : B3 ≤ w2.heap.size) => cmp_at2 (c := c) (c' := c') h1 h1' h2 h2' dx.1 dy.1 k1 k16 hs
  have d1 : decide ((0 : Int) ≤ s) = true := decide_eq_true (by omega)
  have d2 : decide ((k : Int) = (k : Int)) = true := decide_eq_true rfl
  clear na nb hra hrb tca tcb hB hT hx hy hle dx dy hxm hym hs hga hgb
  obtain ⟨x1, x2⟩ := x
  obtain ⟨y1, y2⟩ := y
  gi_wp2_with (refine ⟨trivial, ?_⟩; first
    | ((with_reducible refine (callsIn_wide.2 HKa.out).mono ?_); rintro e w' ⟨rfl, rfl⟩)
    | ((with_reducible refine (callsIn_wide.2 HKb.out).mono ?_); rintro e w' ⟨rfl, rfl⟩)
    | ((with_reducible refine (callsIn_wide.2 HRa.out).mono ?_); rintro e w' ⟨rfl, rfl⟩)
    | ((with_reducible refine (callsIn_wide.2 HLa.out).mono ?_); rintro e w2 ⟨h2, e2, rfl, hp2, hb2⟩; have hB2 : ∀ o, Below w.heap.size w (w2.alloc o) := fun o => hb2.trans ((below_alloc w2 o).mono hb2.size))
    | ((with_reducible refine (callsIn_wide.2 (HRb.out _ (hB2 _))).mono ?_); rintro e w' ⟨rfl, rfl⟩)
    | ((with_reducible refine (callsIn_wide.2 (HFb.out _ (hB2 _))).mono ?_); rintro e w3 ⟨h3, e3, rfl, hp3, hb3⟩; have hB3 : Below w.heap.size w w3 := (hB2 _).trans (hb3.mono (hB2 _).size); have hB3o : ∀ o, Below w.heap.size w (w3.alloc o) := (fun o => hB3.trans ((below_alloc w3 o).mono hB3.size)); have hg3 := (hb3.block w2.heap.size (by simp)).trans (heap_at w2 _ _ rfl); have c2 : ∀ o, (w3.alloc o).cell? ⟨w2.heap.size, 0, none⟩ = some (.slice (some ⟨h2, 0, none⟩) x1.length e2) := fun o => (by rw [cell_of_row _ _ _ _ _ (0, 0) (hav_old (o := o) hg3)]; rfl); have hbx : ∀ o, Below w2.heap.size w2 (w3.alloc o) := fun o => ((below_alloc w2 _).trans (hb3.mono (by simp))).trans ((below_alloc w3 o).mono (by have := hb3.size; simp at this; omega)))
    | ((with_reducible refine (callsIn_wide.2 (HCm.out _ _ _ _ _ _ _ (hp2.below' (hbx _) (Nat.le_refl _)) (hbx _).size (hp3.below' (below_alloc w3 _) (Nat.le_refl _)) (by simp))).mono ?_); rintro e w' ⟨rfl, rfl⟩))
  exact bodyPost_ret (v := .tuple #[.pointer none, .int .i64 7]) (by simp [results, Tryz.f21, go_sem]) rfl ⟨rfl, hB3o _⟩
end Go.Proofs.YtmdohckoegpgkaaGreatDoor

/-
  THE LAW RankJoins. Laid by wip/gen45.py.
-/
namespace Go.Proofs.YtmdohckoegpgkaaGreatDoor
open Go.ChangeShapes Go.WideShapes Go.ChangeAt Go.RowKit
open Tr (T S4 Ent)

/-- all of the one ahead of all of the other one, by the last and the first -/
def Ahd (L M : List Ent) : Prop := ∀ x y, L.getLast? = some x → M.head? = some y → Z.cmp x.1 y.1 < 0
theorem last_some {k : Nat} {t : T} (h : Tr.Wf k t) : ∃ x, t.ents.getLast? = some x := by
  cases e : t.ents.getLast? with
  | none => exact (h.ne (List.getLast?_eq_none_iff.1 e)).elim
  | some x => exact ⟨x, rfl⟩
theorem head_some {k : Nat} {t : T} (h : Tr.Wf k t) : ∃ x, t.ents.head? = some x := by
  cases e : t.ents.head? with
  | none => exact (h.ne (List.head?_eq_none_iff.1 e)).elim
  | some x => exact ⟨x, rfl⟩
theorem kJoin_fine {w : World} {ga gb k : Nat} {oa ob : Option T} (ha : TreeX w ga k oa) (hb : TreeX w gb k ob) (hT : ∀ w', Below w.heap.size w w' → Tz w') (h : Ahd (Tr.entsO oa) (Tr.entsO ob)) (hN : (Tr.entsO oa).length + (Tr.entsO ob).length ≤ 200000000) :
    Calls Tryz.prog 21 #[.pointer (some ⟨ga, 0, none⟩), .pointer (some ⟨gb, 0, none⟩)] w fun e w' => ∃ b' o, e = .returned (.tuple #[.pointer (some ⟨b', 0, none⟩), .int .i64 0]) ∧ TreeX w' b' k o ∧ Tr.entsO o = Tr.entsO oa ++ Tr.entsO ob ∧ Below w.heap.size w w' := by
  cases oa with
  | none =>
    refine (kJoin_a0 ha.1.2.2.2.1 hb.1.2.2.2.1).mono ?_
    rintro e w' ⟨rfl, hbl⟩
    exact ⟨gb, ob, rfl, hb.below hbl (Nat.le_refl _), by simp [Tr.entsO], hbl⟩
  | some ta =>
    cases ob with
    | none =>
      refine (kJoin_b0 ha.1 hb.1 (Nat.le_refl _)).mono ?_
      rintro e w' ⟨rfl, hbl⟩
      exact ⟨ga, some ta, rfl, ha.below hbl (Nat.le_refl _), by simp [Tr.entsO], hbl⟩
    | some tb =>
      obtain ⟨x, hx⟩ := last_some (ha.1.2.2.2.2 ta rfl).1
      obtain ⟨y, hy⟩ := head_some (hb.1.2.2.2.2 tb rfl).1
      refine (kJoin_ok ha.1 hb.1 (Nat.le_refl _) hT hx hy (h x y hx hy) hN).mono ?_
      rintro e w' ⟨b', n, rfl, ht, he, hbl⟩
      exact ⟨b', some n, rfl, ht, he, hbl⟩
theorem kJoin_no {w : World} {ga gb k : Nat} {oa ob : Option T} (ha : TreeX w ga k oa) (hb : TreeX w gb k ob) (hT : ∀ w', Below w.heap.size w w' → Tz w') {x y : Ent} (hx : (Tr.entsO oa).getLast? = some x) (hy : (Tr.entsO ob).head? = some y) (h : 0 ≤ Z.cmp x.1 y.1) :
    Calls Tryz.prog 21 #[.pointer (some ⟨ga, 0, none⟩), .pointer (some ⟨gb, 0, none⟩)] w fun e w' => e = .returned (.tuple #[.pointer none, .int .i64 7]) ∧ Below w.heap.size w w' := by
  cases oa with
  | none => cases hx
  | some ta =>
    cases ob with
    | none => cases hy
    | some tb => exact kJoin_clash ha.1 hb.1 (Nat.le_refl _) hT hx hy h
theorem dim_o {w : World} {k b : Nat} {o : Option T} (h : TreeX w b k o) : Tr.Dim k (Tr.entsO o) ∧ Tr.ZS (Tr.entsO o) := by
  cases o with
  | none => exact ⟨fun e he => (by cases he), List.Pairwise.nil⟩
  | some t => exact ⟨(h.1.2.2.2.2 t rfl).1.dim, (h.1.2.2.2.2 t rfl).1.zs⟩
theorem wpList_append_want {α : Type} {n : Nat} {Q : (Nat → Option Value) → α → Prop} {w : World} {ops : Array Oper} {rest : List Oper} {o : Oper} {a : Act} {K : Exit → Act → World → Prop} (t e : TypeId) (z : Value) (sz : Nat) (hu : Tryz.prog.underlying t = some (.slice e)) (hinfo : (Tryz.prog.info? e).map (fun i => (i.zero, i.size, i.bytes)) = some (some z, n, sz)) (hzc : z.cells.size = n) (hn0 : 0 < n) (hsz : sz ≤ 1000) (hQ : QOk n Q)
    (hgd : Region.wanted o (yielded ops a.tmps) = true) (s x : Operand) (ho : o.op = .call { callee := .builtin .append, args := #[s, x], argTypes := #[t, t] }) (base : Nat) (v : Value) (L M : List α) (m : Nat) (hm : L.length + M.length = m) (hs : a.eval s = v) (hown : OwnL e n Q w base v L)
    (R : Nat) (A : Option Addr) (k c : Nat) (hk : M.length = k) (hx : a.eval x = .slice A k c) (hp : Lst n Q w R A M) (hlen : m ≤ 8000000000) (hbase : base ≤ w.heap.size)
    (h : ∀ D d w', OwnL e n Q w' base (.slice D m d) (L ++ M) → w.grownBy w' v.ownBlock → ((Value.slice D m d).ownBlock = v.ownBlock ∨ (Value.slice D m d).ownBlock = some w.heap.size) → wpList Tryz.prog ops K rest (a.put o.dst (.slice D m d)) w') : wpList Tryz.prog ops K (o :: rest) a w := by
  subst hm hk
  refine wpList_step fun K hK => ?_
  rw [if_pos hgd]
  obtain ⟨D, d, w', hr, h2, h3, h5⟩ := run_append_list (w := w) t o.type e z sz hu hinfo hzc hn0 hsz hQ base v L M hown R A c hp hlen hbase
  unfold Oper.wp execOp
  simp only [ho, resolve, invoke, builtin, Sem.run_bind, Sem.run_pure, Result.andThen_ok, List.map_toArray, List.map_cons, List.map_nil, hs, hx, hr]
  exact hK _ _ (h D d w' h2 h3 h5)
theorem is7_n {w : World} {b k n c : Nat} {o : Option T} {A : Option Addr} {L : List Ent} (h : TreeX w b k o) (hT : ∀ w', Below w.heap.size w w' → Tz w') (hL : Ents w w.heap.size A L) (he : Tr.entsO o = L) (hn : L.length = n) (hc : n ≤ c) (hl : n ≤ 1000000) :
    Calls Tryz.prog 17 #[.pointer (some ⟨b, 0, none⟩), .int .i64 (k : Int), .slice A n c] w fun e w' => e = .returned (.bool true) ∧ Below w.heap.size w w' := by
  subst he
  subst hn
  exact is7_c h.1 hT hL hc hl
theorem Hand.ents2 {w W : World} {C b k : Nat} {o : Option T} {A : Option Addr} {c M : Nat} (h : Hand w C b k o A c M) (hb : Below w.heap.size w W) : Ents W W.heap.size A (Tr.entsO o) := by
  have h2 := h.below hb
  exact h2.list.ents h2.old (Nat.le_refl _)

set_option maxRecDepth 100000 in
theorem rankJoins_skip {w : World} {A A2 : Option Addr} {c c2 : Nat} {l m : List ActT} (k other : Int) (hT : Tz w) (hA : ActsT w w.heap.size A l) (hl : l.length ≤ maxLen) (hA2 : ActsT w w.heap.size A2 m) (hl2 : m.length ≤ maxLen) (r1 r2 b1 b2 b3 b4 : Bool) (hh : heavyA 30 l = r1) (hh2 : heavyA 30 m = r2)
    (hb1 : decide (k < 1) = b1) (hb2 : decide (16 < k) = b2) (hb3 : decide (other < 1) = b3) (hb4 : decide (16 < other) = b4) (hor : (r1 || r2 || b1 || b2 || b3 || b4) = true) :
    Calls Tryz.prog 5 #[.int .i64 k, .int .i64 other, .slice A l.length c, .slice A2 m.length c2] w fun e w' => e = .returned (.bool true) ∧ Below w.heap.size w w' := by
  have HX := Lib.hid (And.intro hA (And.intro hl (And.intro hh (And.intro hT (And.intro hA2 (And.intro hl2 hh2))))))
  clear hA hl hh hT hA2 hl2 hh2
  go_enter Tryz.func5, Tryz.ntmps5
  go_wp2_with fail
  refine (awake10_c w HX.out.2.2.2.1).mono ?_
  rintro e w1 ⟨rfl, hb1'⟩
  have HH := Lib.hid (rheavy7_c (c := c) (HX.out.1.below hb1' (Nat.le_refl _) (Nat.le_refl _)) HX.out.2.1 30 r1 HX.out.2.2.1)
  have HH2 := Lib.hid (rheavy7_c (c := c2) (HX.out.2.2.2.2.1.below hb1' (Nat.le_refl _) (Nat.le_refl _)) HX.out.2.2.2.2.2.1 30 r2 HX.out.2.2.2.2.2.2)
  have HB := Lib.hid hb1'
  clear hb1'
  go_wp2_with fail
  refine HH.out.mono ?_
  rintro e w' ⟨rfl, rfl⟩
  clear HH
  cases r1 with
  | true =>
    go_wp2_with fail
    go_ret
    exact ⟨rfl, HB.out⟩
  | false =>
    go_wp2_with fail
    refine HH2.out.mono ?_
    rintro e w' ⟨rfl, rfl⟩
    clear HH2
    cases r2 with
    | true =>
      go_wp2_with fail
      go_ret
      exact ⟨rfl, HB.out⟩
    | false =>
      cases b1 with
      | true =>
        go_wp2_with fail
        go_ret
        exact ⟨rfl, HB.out⟩
      | false =>
        cases b2 with
        | true =>
          go_wp2_with fail
          go_ret
          exact ⟨rfl, HB.out⟩
        | false =>
          cases b3 with
          | true =>
            go_wp2_with fail
            go_ret
            exact ⟨rfl, HB.out⟩
          | false =>
            cases b4 with
            | true =>
              go_wp2_with fail
              go_ret
              exact ⟨rfl, HB.out⟩
            | false => cases hor
set_option maxRecDepth 1000000 in
set_option maxHeartbeats 4000000 in
theorem rankJoins_dim {w : World} {A A2 : Option Addr} {c c2 : Nat} {l m : List ActT} (k other : Nat) (hT : Tz w) (hA : ActsT w w.heap.size A l) (hl : l.length ≤ maxLen) (hA2 : ActsT w w.heap.size A2 m) (hl2 : m.length ≤ maxLen) (hh : heavyA 30 l = false) (hh2 : heavyA 30 m = false) (h1 : 1 ≤ k) (h16 : k ≤ 16) (o1 : 1 ≤ other) (o16 : other ≤ 16) (hne : k ≠ other) :
    Calls Tryz.prog 5 #[.int .i64 (k : Int), .int .i64 (other : Int), .slice A l.length c, .slice A2 m.length c2] w fun e w' => e = .returned (.bool true) ∧ Below w.heap.size w w' := by
  have hfew := heavyA_few hh
  have hfew2 := heavyA_few hh2
  have HX := Lib.hid (And.intro hA (And.intro hl (And.intro hh (And.intro hT (And.intro hA2 (And.intro hl2 hh2))))))
  have HK := Lib.hid (And.intro h1 (And.intro h16 (And.intro hfew hfew2)))
  have d1 : decide ((k : Int) < 1) = false := decide_eq_false (by omega)
  have d2 : decide ((16 : Int) < (k : Int)) = false := decide_eq_false (by omega)
  have d2' : decide (16 < k) = false := decide_eq_false (by omega)
  have d3 : decide ((other : Int) < 1) = false := decide_eq_false (by omega)
  have d4 : decide ((16 : Int) < (other : Int)) = false := decide_eq_false (by omega)
  have d4' : decide (16 < other) = false := decide_eq_false (by omega)
  have HO := Lib.hid (And.intro o1 (And.intro o16 hne))
  clear o1 o16 hne
  clear hA hl hh hT hA2 hl2 hh2 h1 h16 hfew hfew2
  go_enter Tryz.func5, Tryz.ntmps5
  go_wp2_with fail
  refine (awake10_c w HX.out.2.2.2.1).mono ?_
  rintro e w0 ⟨rfl, hb0⟩
  have HH := Lib.hid (rheavy7_c (c := c) (HX.out.1.below hb0 (Nat.le_refl _) (Nat.le_refl _)) HX.out.2.1 30 false HX.out.2.2.1)
  have HH2 := Lib.hid (rheavy7_c (c := c2) (HX.out.2.2.2.2.1.below hb0 (Nat.le_refl _) (Nat.le_refl _)) HX.out.2.2.2.2.2.1 30 false HX.out.2.2.2.2.2.2)
  have HG := Lib.hid (grown_c (c := c) HK.out.1 HK.out.2.1 (HX.out.1.below hb0 (Nat.le_refl _) (Nat.le_refl _)) hb0.size (by have := HK.out.2.2.1; omega))
  have HB0 := Lib.hid hb0
  clear hb0
  go_wp2_with fail
  refine HH.out.mono ?_
  rintro e w' ⟨rfl, rfl⟩
  go_wp2_with fail
  refine HH2.out.mono ?_
  rintro e w' ⟨rfl, rfl⟩
  clear HH HH2
  go_wp2_with fail
  refine HG.out.mono ?_
  rintro e w1 ⟨ta, oa, D1, e1, rfl, hd1, -, hb1⟩
  have HB1 := Lib.hid (Below.andThen HB0.out hb1)
  have HD1 := Lib.hid hd1
  have HG2 := Lib.hid (grown_c (c := c2) HO.out.1 HO.out.2.1 (HX.out.2.2.2.2.1.below HB1.out (Nat.le_refl _) (Nat.le_refl _)) HB1.out.size (by have := HK.out.2.2.2; omega))
  clear hd1 hb1 HG HB0
  go_wp2_with fail
  refine HG2.out.mono ?_
  rintro e w2 ⟨tb, ob, D2, e2, rfl, hd2, -, hb2⟩
  have HB2 := Lib.hid (Below.andThen HB1.out hb2)
  have HD := Lib.hid (And.intro (HD1.out.below hb2) hd2)
  have hlA : (Tr.entsO oa).length ≤ 30 := by have := HD1.out.few; have := HK.out.2.2.1; omega
  have hlB : (Tr.entsO ob).length ≤ 30 := by have := hd2.few; have := HK.out.2.2.2; omega
  have HL := Lib.hid (And.intro hlA hlB)
  have HT2 : Hid (∀ w', Below w2.heap.size w2 w' → Tz w') := Lib.hid fun w' hb => (HX.out.2.2.2.1.on HB2.out).on hb
  clear hd2 hb2 HG2 HB1 HD1
  have n1 : ((k : Int) != (other : Int)) = true := by rw [bne_iff_ne]; have := HO.out.2.2; omega
  go_wp2_with fail
  refine (kJoin_dim HD.out.1.tree.1.2.2.2.1 HD.out.2.tree.1.2.2.2.1 HO.out.2.2).mono ?_
  rintro e w' ⟨rfl, rfl⟩
  clear hlA hlB
  go_wp2_with fail
  refine (kJoin_nila _ _).mono ?_
  rintro e w' ⟨rfl, rfl⟩
  go_wp2_with fail
  refine (kJoin_nilb _ _).mono ?_
  rintro e w' ⟨rfl, rfl⟩
  go_wp2_with fail
  go_ret
  exact ⟨rfl, HB2.out⟩
set_option maxRecDepth 1000000 in
set_option maxHeartbeats 4000000 in
theorem rankJoins_same {w : World} {A A2 : Option Addr} {c c2 : Nat} {l m : List ActT} (k : Nat) (hT : Tz w) (hA : ActsT w w.heap.size A l) (hl : l.length ≤ maxLen) (hA2 : ActsT w w.heap.size A2 m) (hl2 : m.length ≤ maxLen) (hh : heavyA 30 l = false) (hh2 : heavyA 30 m = false) (h1 : 1 ≤ k) (h16 : k ≤ 16) :
    Calls Tryz.prog 5 #[.int .i64 (k : Int), .int .i64 (k : Int), .slice A l.length c, .slice A2 m.length c2] w fun e w' => e = .returned (.bool true) ∧ Below w.heap.size w w' := by
  have hfew := heavyA_few hh
  have hfew2 := heavyA_few hh2
  have HX := Lib.hid (And.intro hA (And.intro hl (And.intro hh (And.intro hT (And.intro hA2 (And.intro hl2 hh2))))))
  have HK := Lib.hid (And.intro h1 (And.intro h16 (And.intro hfew hfew2)))
  have d1 : decide ((k : Int) < 1) = false := decide_eq_false (by omega)
  have d2 : decide ((16 : Int) < (k : Int)) = false := decide_eq_false (by omega)
  have d2' : decide (16 < k) = false := decide_eq_false (by omega)
  clear hA hl hh hT hA2 hl2 hh2 h1 h16 hfew hfew2
  go_enter Tryz.func5, Tryz.ntmps5
  go_wp2_with fail
  refine (awake10_c w HX.out.2.2.2.1).mono ?_
  rintro e w0 ⟨rfl, hb0⟩
  have HH := Lib.hid (rheavy7_c (c := c) (HX.out.1.below hb0 (Nat.le_refl _) (Nat.le_refl _)) HX.out.2.1 30 false HX.out.2.2.1)
  have HH2 := Lib.hid (rheavy7_c (c := c2) (HX.out.2.2.2.2.1.below hb0 (Nat.le_refl _) (Nat.le_refl _)) HX.out.2.2.2.2.2.1 30 false HX.out.2.2.2.2.2.2)
  have HG := Lib.hid (grown_c (c := c) HK.out.1 HK.out.2.1 (HX.out.1.below hb0 (Nat.le_refl _) (Nat.le_refl _)) hb0.size (by have := HK.out.2.2.1; omega))
  have HB0 := Lib.hid hb0
  clear hb0
  go_wp2_with fail
  refine HH.out.mono ?_
  rintro e w' ⟨rfl, rfl⟩
  go_wp2_with fail
  refine HH2.out.mono ?_
  rintro e w' ⟨rfl, rfl⟩
  clear HH HH2
  go_wp2_with fail
  refine HG.out.mono ?_
  rintro e w1 ⟨ta, oa, D1, e1, rfl, hd1, -, hb1⟩
  have HB1 := Lib.hid (Below.andThen HB0.out hb1)
  have HD1 := Lib.hid hd1
  have HG2 := Lib.hid (grown_c (c := c2) HK.out.1 HK.out.2.1 (HX.out.2.2.2.2.1.below HB1.out (Nat.le_refl _) (Nat.le_refl _)) HB1.out.size (by have := HK.out.2.2.2; omega))
  clear hd1 hb1 HG HB0
  go_wp2_with fail
  refine HG2.out.mono ?_
  rintro e w2 ⟨tb, ob, D2, e2x, rfl, hd2, -, hb2⟩
  have HB2 := Lib.hid (Below.andThen HB1.out hb2)
  have HD := Lib.hid (And.intro (HD1.out.below hb2) hd2)
  have hlA : (Tr.entsO oa).length ≤ 30 := by have := HD1.out.few; have := HK.out.2.2.1; omega
  have hlB : (Tr.entsO ob).length ≤ 30 := by have := hd2.few; have := HK.out.2.2.2; omega
  have HL := Lib.hid (And.intro hlA hlB)
  have HT2 : Hid (∀ w', Below w2.heap.size w2 w' → Tz w') := Lib.hid fun w' hb => (HX.out.2.2.2.1.on HB2.out).on hb
  clear hd2 hb2 HG2 HB1 HD1
  have n1 : ((k : Int) != (k : Int)) = false := by simp
  obtain ⟨NA, hNA⟩ : ∃ NA, (Tr.entsO oa).length = NA := ⟨_, rfl⟩
  obtain ⟨NB, hNB⟩ : ∃ NB, (Tr.entsO ob).length = NB := ⟨_, rfl⟩
  have HN := Lib.hid (And.intro hNA hNB)
  rw [hNA] at hlA ⊢
  rw [hNB] at hlB ⊢
  clear hNA hNB
  by_cases hcl : ∃ x y, (Tr.entsO oa).getLast? = some x ∧ (Tr.entsO ob).head? = some y ∧ 0 ≤ Z.cmp x.1 y.1
  case pos =>
    obtain ⟨x, y, hx, hy, hxy⟩ := hcl
    have HCL := Lib.hid (And.intro hx (And.intro hy hxy))
    clear hx hy hxy
    go_wp2_with fail
    refine (kJoin_no HD.out.1.tree HD.out.2.tree HT2.out HCL.out.1 HCL.out.2.1 HCL.out.2.2).mono ?_
    rintro e w3 ⟨rfl, hb3⟩
    have HB3 := Lib.hid hb3
    clear hb3
    go_wp2_with fail
    refine (kJoin_nila _ _).mono ?_
    rintro e w' ⟨rfl, rfl⟩
    go_wp2_with fail
    refine (kJoin_nilb _ _).mono ?_
    rintro e w' ⟨rfl, rfl⟩
    obtain ⟨ia, hia, hga⟩ : ∃ ia, NA = ia + 1 ∧ (Tr.entsO oa)[ia]? = some x := by
      have h := HCL.out.1
      rw [List.getLast?_eq_getElem?, HN.out.1] at h
      have h2 := lt_get h
      rw [HN.out.1] at h2
      exact ⟨NA - 1, by omega, h⟩
    have hgb : (Tr.entsO ob)[0]? = some y := by rw [← List.head?_eq_getElem?]; exact HCL.out.2.1
    have hNB : 0 < NB := by have := lt_get hgb; rw [HN.out.2] at this; exact this
    have hb3 := HB3.out
    obtain ⟨ba, oa', A3, c3, hDa, -, u0, -, pu, -, -⟩ := (HD.out.1.ents2 HB3.out).at hga
    obtain ⟨bb, ob', A4, c4, hDb, -, v0, -, pv, -, -⟩ := (HD.out.2.ents2 HB3.out).at hgb
    subst hDa
    subst hDb
    obtain ⟨s, hs⟩ : ∃ s, Z.cmp x.1 y.1 = s := ⟨_, rfl⟩
    have HS := Lib.hid hs
    have dx := (dim_o HD.out.1.tree).1 x (List.mem_of_getElem? hga)
    have dy := (dim_o HD.out.2.tree).1 y (List.mem_of_getElem? hgb)
    have HCm : Hid (∀ i, Calls Tryz.prog 22 #[.slice A3 x.1.length c3, .slice A4 y.1.length c4] (w3.drewN i) fun e w' => e = .returned (.int .i64 s) ∧ ∃ j, w' = (w3.drewN i).drewN j) := Lib.hid fun i => by
      have h := rcmp_c A3 A4 c3 c4 x.1 y.1 w3.heap.size (w3.drewN i) pu pv (by rw [dx.1]; exact HK.out.1) (by rw [dx.1]; exact HK.out.2.1) (by rw [dx.1, dy.1])
      rw [hs] at h
      exact h.mono fun e w' hh => ⟨hh.1, 0, hh.2.symm⟩
    have e2 : (NA : Int) - 1 = (ia : Int) := by omega
    have m1 : (0 : Int) ≤ (ia : Int) := by omega
    have m2 : (ia : Int) < (NA : Int) := by omega
    have m3 : (0 : Int) < (NB : Int) := by omega
    have d5 : decide ((0 : Int) < (NA : Int)) = true := decide_eq_true (by omega)
    have d5' : decide (0 < NA) = true := decide_eq_true (by omega)
    have d6 : decide ((0 : Int) < (NB : Int)) = true := decide_eq_true (by omega)
    have d6' : decide (0 < NB) = true := decide_eq_true (by omega)
    rw [Nat.zero_mul, Nat.add_zero] at v0
    clear hga hgb hs dx dy pu pv hia hNB hb3
    have d5 : decide ((0 : Int) ≤ s) = true := decide_eq_true (by rw [← HS.out]; exact HCL.out.2.2)
    go_wp2_with fail
    go_quiet ((go_at_call 22; exact Calls.quiet_of (HCm.out _)))
    clear u0 v0
    go_wp2_with fail
    go_ret
    exact ⟨rfl, below_drewN _ (Below.andThen HB2.out HB3.out)⟩
  case neg =>
    have hahd : Ahd (Tr.entsO oa) (Tr.entsO ob) := fun x y hx hy => by
      apply Classical.byContradiction
      intro hn
      exact hcl ⟨x, y, hx, hy, by omega⟩
    have HAH := Lib.hid hahd
    clear hcl hahd
    go_wp2_with fail
    refine (kJoin_fine HD.out.1.tree HD.out.2.tree HT2.out HAH.out (by rw [HN.out.1, HN.out.2]; omega)).mono ?_
    rintro e w3 ⟨b', o, rfl, htr, heq, hb3⟩
    have HB3 := Lib.hid hb3
    have HU := Lib.hid (And.intro htr heq)
    clear hb3 htr heq
    go_wp2_with fail
    refine (kJoin_nila _ _).mono ?_
    rintro e w' ⟨rfl, rfl⟩
    go_wp2_with fail
    refine (kJoin_nilb _ _).mono ?_
    rintro e w' ⟨rfl, rfl⟩
    rcases Nat.eq_zero_or_pos NA with hz | hz
    · have d5 : decide ((0 : Int) < (NA : Int)) = false := decide_eq_false (by omega)
      have d5' : decide (0 < NA) = false := decide_eq_false (by omega)
      clear hz
      go_wp2_with fail
      go_quiet (fail)
      have hW : Below w3.heap.size w3 (w3.drewN nq) := below_drewN nq (Below.refl _ _)
      have HE := Lib.hid (And.intro (HD.out.1.ents2 (Below.andThen HB3.out hW)) (HD.out.2.ents2 (Below.andThen HB3.out hW)))
      have HUW := Lib.hid (And.intro (HU.out.1.below hW (Nat.le_refl _)) (And.intro (HD.out.1.tree.below (Below.andThen HB3.out hW) (Nat.le_refl _)) (HD.out.2.tree.below (Below.andThen HB3.out hW) (Nat.le_refl _))))
      have HBW := Lib.hid (Below.andThen HB3.out hW)
      generalize w3.drewN nq = W at *
      clear hW
      have hal := below_alloc W (.cells #[] 47)
      have HCp := Lib.hid (And.intro HD.out.1.cap HD.out.2.cap)
      go_wp2_with (first
        | (at_builtin; refine wpList_append_want (Q := EntQ W W.heap.size) 30 47 (.agg #[.slice none 0 0, .int .u64 0]) 32 Tryz.underlying30 infoE2 (by rfl) (by omega) (by omega) (entQ_ok W W.heap.size) (by first | rfl | (simp [go_sem]; done)) _ _ (by rfl) W.heap.size (.slice (some ⟨W.heap.size, 0, none⟩) 0 0) [] (Tr.entsO oa) NA (by rw [HN.out.1]; simp) (by rfl) (by exact ownL_nil _ W) W.heap.size D1 NA e1 HN.out.1 (by rfl) (by exact (HE.out.1.entL.lst hal (Nat.le_refl _))) (by have := HL.out.1; have := HN.out.1; omega) (by first | (simp; done) | (simp; omega)) ?_; intro D5 d5 w5 hown1 hgrow1 hat1; have hg1 := Below.grown hal hgrow1 (by simp) (fun q hq => by simp [Value.ownBlock] at hq; omega); clear hgrow1 hat1; rw [List.nil_append] at hown1)
        | (at_builtin; refine wpList_append_want (Q := EntQ W W.heap.size) 30 47 (.agg #[.slice none 0 0, .int .u64 0]) 32 Tryz.underlying30 infoE2 (by rfl) (by omega) (by omega) (entQ_ok W W.heap.size) (by first | rfl | (simp [go_sem]; done)) _ _ (by rfl) W.heap.size (.slice D5 NA d5) (Tr.entsO oa) (Tr.entsO ob) (NA + NB) (by rw [HN.out.1, HN.out.2]) (by rfl) (by exact hown1) W.heap.size D2 NB e2x HN.out.2 (by rfl) (by exact (HE.out.2.entL.lst hg1 (Nat.le_refl _))) (by have := HL.out.1; have := HL.out.2; have := HN.out.1; have := HN.out.2; omega) hg1.size ?_; intro D6 d6x w6 hown2 hgrow2 hat2; have hg2 := Below.grown hg1 hgrow2 hg1.size (fun q hq => (hown1.lt q hq).1); clear hgrow2 hat2; have H6 := Lib.hid (And.intro (ownE_at hown2 hg2 (Nat.le_refl _)) hg2); clear hown2 hown1 hg1)
        | ((with_reducible refine (is7_n (L := Tr.entsO oa ++ Tr.entsO ob) (n := NA + NB) (HUW.out.1.below H6.out.2 (Nat.le_refl _)) (fun w' hb => HT2.out w' ((Below.andThen HBW.out H6.out.2).trans (hb.mono (Below.andThen HBW.out H6.out.2).size))) (H6.out.1.2.2.ents H6.out.2.size (Nat.le_refl _)) HU.out.2 (by rw [List.length_append, HN.out.1, HN.out.2]) (by have := H6.out.1.2.1; rw [List.length_append, HN.out.1, HN.out.2] at this; exact this) (by have := HL.out.1; have := HL.out.2; have := HN.out.1; have := HN.out.2; omega)).mono ?_); rintro e w7 ⟨rfl, hb7⟩; have H7 := Lib.hid (Below.andThen H6.out.2 hb7); clear hb7)
        | ((with_reducible refine (is7_n (L := Tr.entsO oa) (n := NA) (HUW.out.2.1.below H7.out (Nat.le_refl _)) (fun w' hb => HT2.out w' ((Below.andThen HBW.out H7.out).trans (hb.mono (Below.andThen HBW.out H7.out).size))) (HE.out.1.below H7.out (Nat.le_refl _) H7.out.size) rfl HN.out.1 (by have := HCp.out.1; rw [HN.out.1] at this; exact this) (by have := HL.out.1; have := HN.out.1; omega)).mono ?_); rintro e w8 ⟨rfl, hb8⟩; have H8 := Lib.hid (Below.andThen H7.out hb8); clear hb8)
        | ((with_reducible refine (is7_n (L := Tr.entsO ob) (n := NB) (HUW.out.2.2.below H8.out (Nat.le_refl _)) (fun w' hb => HT2.out w' ((Below.andThen HBW.out H8.out).trans (hb.mono (Below.andThen HBW.out H8.out).size))) (HE.out.2.below H8.out (Nat.le_refl _) H8.out.size) rfl HN.out.2 (by have := HCp.out.2; rw [HN.out.2] at this; exact this) (by have := HL.out.2; have := HN.out.2; omega)).mono ?_); rintro e w9 ⟨rfl, hb9⟩; have H9 := Lib.hid (Below.andThen H8.out hb9); clear hb9))
      go_ret
      exact ⟨rfl, Below.andThen HB2.out (Below.andThen HBW.out H9.out)⟩
    · have d5 : decide ((0 : Int) < (NA : Int)) = true := decide_eq_true (by omega)
      have d5' : decide (0 < NA) = true := decide_eq_true (by omega)
      rcases Nat.eq_zero_or_pos NB with hy | hy
      · have d6 : decide ((0 : Int) < (NB : Int)) = false := decide_eq_false (by omega)
        have d6' : decide (0 < NB) = false := decide_eq_false (by omega)
        clear hz hy
        go_wp2_with fail
        go_quiet (fail)
        have hW : Below w3.heap.size w3 (w3.drewN nq) := below_drewN nq (Below.refl _ _)
        have HE := Lib.hid (And.intro (HD.out.1.ents2 (Below.andThen HB3.out hW)) (HD.out.2.ents2 (Below.andThen HB3.out hW)))
        have HUW := Lib.hid (And.intro (HU.out.1.below hW (Nat.le_refl _)) (And.intro (HD.out.1.tree.below (Below.andThen HB3.out hW) (Nat.le_refl _)) (HD.out.2.tree.below (Below.andThen HB3.out hW) (Nat.le_refl _))))
        have HBW := Lib.hid (Below.andThen HB3.out hW)
        generalize w3.drewN nq = W at *
        clear hW
        have hal := below_alloc W (.cells #[] 47)
        have HCp := Lib.hid (And.intro HD.out.1.cap HD.out.2.cap)
        go_wp2_with (first
          | (at_builtin; refine wpList_append_want (Q := EntQ W W.heap.size) 30 47 (.agg #[.slice none 0 0, .int .u64 0]) 32 Tryz.underlying30 infoE2 (by rfl) (by omega) (by omega) (entQ_ok W W.heap.size) (by first | rfl | (simp [go_sem]; done)) _ _ (by rfl) W.heap.size (.slice (some ⟨W.heap.size, 0, none⟩) 0 0) [] (Tr.entsO oa) NA (by rw [HN.out.1]; simp) (by rfl) (by exact ownL_nil _ W) W.heap.size D1 NA e1 HN.out.1 (by rfl) (by exact (HE.out.1.entL.lst hal (Nat.le_refl _))) (by have := HL.out.1; have := HN.out.1; omega) (by first | (simp; done) | (simp; omega)) ?_; intro D5 d5 w5 hown1 hgrow1 hat1; have hg1 := Below.grown hal hgrow1 (by simp) (fun q hq => by simp [Value.ownBlock] at hq; omega); clear hgrow1 hat1; rw [List.nil_append] at hown1)
          | (at_builtin; refine wpList_append_want (Q := EntQ W W.heap.size) 30 47 (.agg #[.slice none 0 0, .int .u64 0]) 32 Tryz.underlying30 infoE2 (by rfl) (by omega) (by omega) (entQ_ok W W.heap.size) (by first | rfl | (simp [go_sem]; done)) _ _ (by rfl) W.heap.size (.slice D5 NA d5) (Tr.entsO oa) (Tr.entsO ob) (NA + NB) (by rw [HN.out.1, HN.out.2]) (by rfl) (by exact hown1) W.heap.size D2 NB e2x HN.out.2 (by rfl) (by exact (HE.out.2.entL.lst hg1 (Nat.le_refl _))) (by have := HL.out.1; have := HL.out.2; have := HN.out.1; have := HN.out.2; omega) hg1.size ?_; intro D6 d6x w6 hown2 hgrow2 hat2; have hg2 := Below.grown hg1 hgrow2 hg1.size (fun q hq => (hown1.lt q hq).1); clear hgrow2 hat2; have H6 := Lib.hid (And.intro (ownE_at hown2 hg2 (Nat.le_refl _)) hg2); clear hown2 hown1 hg1)
          | ((with_reducible refine (is7_n (L := Tr.entsO oa ++ Tr.entsO ob) (n := NA + NB) (HUW.out.1.below H6.out.2 (Nat.le_refl _)) (fun w' hb => HT2.out w' ((Below.andThen HBW.out H6.out.2).trans (hb.mono (Below.andThen HBW.out H6.out.2).size))) (H6.out.1.2.2.ents H6.out.2.size (Nat.le_refl _)) HU.out.2 (by rw [List.length_append, HN.out.1, HN.out.2]) (by have := H6.out.1.2.1; rw [List.length_append, HN.out.1, HN.out.2] at this; exact this) (by have := HL.out.1; have := HL.out.2; have := HN.out.1; have := HN.out.2; omega)).mono ?_); rintro e w7 ⟨rfl, hb7⟩; have H7 := Lib.hid (Below.andThen H6.out.2 hb7); clear hb7)
          | ((with_reducible refine (is7_n (L := Tr.entsO oa) (n := NA) (HUW.out.2.1.below H7.out (Nat.le_refl _)) (fun w' hb => HT2.out w' ((Below.andThen HBW.out H7.out).trans (hb.mono (Below.andThen HBW.out H7.out).size))) (HE.out.1.below H7.out (Nat.le_refl _) H7.out.size) rfl HN.out.1 (by have := HCp.out.1; rw [HN.out.1] at this; exact this) (by have := HL.out.1; have := HN.out.1; omega)).mono ?_); rintro e w8 ⟨rfl, hb8⟩; have H8 := Lib.hid (Below.andThen H7.out hb8); clear hb8)
          | ((with_reducible refine (is7_n (L := Tr.entsO ob) (n := NB) (HUW.out.2.2.below H8.out (Nat.le_refl _)) (fun w' hb => HT2.out w' ((Below.andThen HBW.out H8.out).trans (hb.mono (Below.andThen HBW.out H8.out).size))) (HE.out.2.below H8.out (Nat.le_refl _) H8.out.size) rfl HN.out.2 (by have := HCp.out.2; rw [HN.out.2] at this; exact this) (by have := HL.out.2; have := HN.out.2; omega)).mono ?_); rintro e w9 ⟨rfl, hb9⟩; have H9 := Lib.hid (Below.andThen H8.out hb9); clear hb9))
        go_ret
        exact ⟨rfl, Below.andThen HB2.out (Below.andThen HBW.out H9.out)⟩
      · have hoa : ∃ x, (Tr.entsO oa).getLast? = some x := by
          cases e : (Tr.entsO oa).getLast? with
          | none => rw [List.getLast?_eq_none_iff] at e; have := HN.out.1; rw [e] at this; simp at this; omega
          | some x => exact ⟨x, rfl⟩
        have hob : ∃ y, (Tr.entsO ob).head? = some y := by
          cases e : (Tr.entsO ob).head? with
          | none => rw [List.head?_eq_none_iff] at e; have := HN.out.2; rw [e] at this; simp at this; omega
          | some x => exact ⟨x, rfl⟩
        obtain ⟨x, hx⟩ := hoa
        obtain ⟨y, hy'⟩ := hob
        have HCL := Lib.hid (And.intro hx (And.intro hy' (HAH.out x y hx hy')))
        clear hx hy' hz hy d5 d5'
        obtain ⟨ia, hia, hga⟩ : ∃ ia, NA = ia + 1 ∧ (Tr.entsO oa)[ia]? = some x := by
          have h := HCL.out.1
          rw [List.getLast?_eq_getElem?, HN.out.1] at h
          have h2 := lt_get h
          rw [HN.out.1] at h2
          exact ⟨NA - 1, by omega, h⟩
        have hgb : (Tr.entsO ob)[0]? = some y := by rw [← List.head?_eq_getElem?]; exact HCL.out.2.1
        have hNB : 0 < NB := by have := lt_get hgb; rw [HN.out.2] at this; exact this
        have hb3 := HB3.out
        obtain ⟨ba, oa', A3, c3, hDa, -, u0, -, pu, -, -⟩ := (HD.out.1.ents2 HB3.out).at hga
        obtain ⟨bb, ob', A4, c4, hDb, -, v0, -, pv, -, -⟩ := (HD.out.2.ents2 HB3.out).at hgb
        subst hDa
        subst hDb
        obtain ⟨s, hs⟩ : ∃ s, Z.cmp x.1 y.1 = s := ⟨_, rfl⟩
        have HS := Lib.hid hs
        have dx := (dim_o HD.out.1.tree).1 x (List.mem_of_getElem? hga)
        have dy := (dim_o HD.out.2.tree).1 y (List.mem_of_getElem? hgb)
        have HCm : Hid (∀ i, Calls Tryz.prog 22 #[.slice A3 x.1.length c3, .slice A4 y.1.length c4] (w3.drewN i) fun e w' => e = .returned (.int .i64 s) ∧ ∃ j, w' = (w3.drewN i).drewN j) := Lib.hid fun i => by
          have h := rcmp_c A3 A4 c3 c4 x.1 y.1 w3.heap.size (w3.drewN i) pu pv (by rw [dx.1]; exact HK.out.1) (by rw [dx.1]; exact HK.out.2.1) (by rw [dx.1, dy.1])
          rw [hs] at h
          exact h.mono fun e w' hh => ⟨hh.1, 0, hh.2.symm⟩
        have e2 : (NA : Int) - 1 = (ia : Int) := by omega
        have m1 : (0 : Int) ≤ (ia : Int) := by omega
        have m2 : (ia : Int) < (NA : Int) := by omega
        have m3 : (0 : Int) < (NB : Int) := by omega
        have d5 : decide ((0 : Int) < (NA : Int)) = true := decide_eq_true (by omega)
        have d5' : decide (0 < NA) = true := decide_eq_true (by omega)
        have d6 : decide ((0 : Int) < (NB : Int)) = true := decide_eq_true (by omega)
        have d6' : decide (0 < NB) = true := decide_eq_true (by omega)
        rw [Nat.zero_mul, Nat.add_zero] at v0
        clear hga hgb hs dx dy pu pv hia hNB hb3
        have d7 : decide ((0 : Int) ≤ s) = false := decide_eq_false (by rw [← HS.out]; have := HCL.out.2.2; omega)
        go_wp2_with fail
        go_quiet ((go_at_call 22; exact Calls.quiet_of (HCm.out _)))
        clear u0 v0
        have hW : Below w3.heap.size w3 (w3.drewN nq) := below_drewN nq (Below.refl _ _)
        have HE := Lib.hid (And.intro (HD.out.1.ents2 (Below.andThen HB3.out hW)) (HD.out.2.ents2 (Below.andThen HB3.out hW)))
        have HUW := Lib.hid (And.intro (HU.out.1.below hW (Nat.le_refl _)) (And.intro (HD.out.1.tree.below (Below.andThen HB3.out hW) (Nat.le_refl _)) (HD.out.2.tree.below (Below.andThen HB3.out hW) (Nat.le_refl _))))
        have HBW := Lib.hid (Below.andThen HB3.out hW)
        generalize w3.drewN nq = W at *
        clear hW
        have hal := below_alloc W (.cells #[] 47)
        have HCp := Lib.hid (And.intro HD.out.1.cap HD.out.2.cap)
        go_wp2_with (first
          | (at_builtin; refine wpList_append_want (Q := EntQ W W.heap.size) 30 47 (.agg #[.slice none 0 0, .int .u64 0]) 32 Tryz.underlying30 infoE2 (by rfl) (by omega) (by omega) (entQ_ok W W.heap.size) (by first | rfl | (simp [go_sem]; done)) _ _ (by rfl) W.heap.size (.slice (some ⟨W.heap.size, 0, none⟩) 0 0) [] (Tr.entsO oa) NA (by rw [HN.out.1]; simp) (by rfl) (by exact ownL_nil _ W) W.heap.size (some ⟨ba, oa', none⟩) NA e1 HN.out.1 (by rfl) (by exact (HE.out.1.entL.lst hal (Nat.le_refl _))) (by have := HL.out.1; have := HN.out.1; omega) (by first | (simp; done) | (simp; omega)) ?_; intro D5 d5 w5 hown1 hgrow1 hat1; have hg1 := Below.grown hal hgrow1 (by simp) (fun q hq => by simp [Value.ownBlock] at hq; omega); clear hgrow1 hat1; rw [List.nil_append] at hown1)
          | (at_builtin; refine wpList_append_want (Q := EntQ W W.heap.size) 30 47 (.agg #[.slice none 0 0, .int .u64 0]) 32 Tryz.underlying30 infoE2 (by rfl) (by omega) (by omega) (entQ_ok W W.heap.size) (by first | rfl | (simp [go_sem]; done)) _ _ (by rfl) W.heap.size (.slice D5 NA d5) (Tr.entsO oa) (Tr.entsO ob) (NA + NB) (by rw [HN.out.1, HN.out.2]) (by rfl) (by exact hown1) W.heap.size (some ⟨bb, ob', none⟩) NB e2x HN.out.2 (by rfl) (by exact (HE.out.2.entL.lst hg1 (Nat.le_refl _))) (by have := HL.out.1; have := HL.out.2; have := HN.out.1; have := HN.out.2; omega) hg1.size ?_; intro D6 d6x w6 hown2 hgrow2 hat2; have hg2 := Below.grown hg1 hgrow2 hg1.size (fun q hq => (hown1.lt q hq).1); clear hgrow2 hat2; have H6 := Lib.hid (And.intro (ownE_at hown2 hg2 (Nat.le_refl _)) hg2); clear hown2 hown1 hg1)
          | ((with_reducible refine (is7_n (L := Tr.entsO oa ++ Tr.entsO ob) (n := NA + NB) (HUW.out.1.below H6.out.2 (Nat.le_refl _)) (fun w' hb => HT2.out w' ((Below.andThen HBW.out H6.out.2).trans (hb.mono (Below.andThen HBW.out H6.out.2).size))) (H6.out.1.2.2.ents H6.out.2.size (Nat.le_refl _)) HU.out.2 (by rw [List.length_append, HN.out.1, HN.out.2]) (by have := H6.out.1.2.1; rw [List.length_append, HN.out.1, HN.out.2] at this; exact this) (by have := HL.out.1; have := HL.out.2; have := HN.out.1; have := HN.out.2; omega)).mono ?_); rintro e w7 ⟨rfl, hb7⟩; have H7 := Lib.hid (Below.andThen H6.out.2 hb7); clear hb7)
          | ((with_reducible refine (is7_n (L := Tr.entsO oa) (n := NA) (HUW.out.2.1.below H7.out (Nat.le_refl _)) (fun w' hb => HT2.out w' ((Below.andThen HBW.out H7.out).trans (hb.mono (Below.andThen HBW.out H7.out).size))) (HE.out.1.below H7.out (Nat.le_refl _) H7.out.size) rfl HN.out.1 (by have := HCp.out.1; rw [HN.out.1] at this; exact this) (by have := HL.out.1; have := HN.out.1; omega)).mono ?_); rintro e w8 ⟨rfl, hb8⟩; have H8 := Lib.hid (Below.andThen H7.out hb8); clear hb8)
          | ((with_reducible refine (is7_n (L := Tr.entsO ob) (n := NB) (HUW.out.2.2.below H8.out (Nat.le_refl _)) (fun w' hb => HT2.out w' ((Below.andThen HBW.out H8.out).trans (hb.mono (Below.andThen HBW.out H8.out).size))) (HE.out.2.below H8.out (Nat.le_refl _) H8.out.size) rfl HN.out.2 (by have := HCp.out.2; rw [HN.out.2] at this; exact this) (by have := HL.out.2; have := HN.out.2; omega)).mono ?_); rintro e w9 ⟨rfl, hb9⟩; have H9 := Lib.hid (Below.andThen H8.out hb9); clear hb9))
        go_ret
        exact ⟨rfl, Below.andThen HB2.out (Below.andThen HBW.out H9.out)⟩
theorem rankJoins_c {w : World} {A A2 : Option Addr} {c c2 : Nat} {l m : List ActT} (k other : Int) (hT : Tz w) (hA : ActsT w w.heap.size A l) (hl : l.length ≤ maxLen) (hA2 : ActsT w w.heap.size A2 m) (hl2 : m.length ≤ maxLen) :
    Calls Tryz.prog 5 #[.int .i64 k, .int .i64 other, .slice A l.length c, .slice A2 m.length c2] w fun e w' => e = .returned (.bool true) ∧ Below w.heap.size w w' := by
  by_cases h : (heavyA 30 l || heavyA 30 m || decide (k < 1) || decide (16 < k) || decide (other < 1) || decide (16 < other)) = true
  · exact rankJoins_skip k other hT hA hl hA2 hl2 _ _ _ _ _ _ rfl rfl rfl rfl rfl rfl h
  · simp only [Bool.or_eq_true, decide_eq_true_eq, not_or, Bool.not_eq_true] at h
    obtain ⟨⟨⟨⟨⟨h1, h2⟩, h3⟩, h4⟩, h5⟩, h6⟩ := h
    obtain ⟨k', rfl⟩ : ∃ k' : Nat, k = (k' : Int) := ⟨k.toNat, by omega⟩
    obtain ⟨o', rfl⟩ : ∃ o' : Nat, other = (o' : Int) := ⟨other.toNat, by omega⟩
    by_cases hne : k' = o'
    · subst hne
      exact rankJoins_same k' hT hA hl hA2 hl2 h1 h2 (by omega) (by omega)
    · exact rankJoins_dim k' o' hT hA hl hA2 hl2 h1 h2 (by omega) (by omega) (by omega) (by omega) hne
end Go.Proofs.YtmdohckoegpgkaaGreatDoor
