import Derived.Test.YtdpbcfjhljgicaaGreatDoorM66
/-
  CONTRACTS of package rank, seventh part: Nth's closure. Laid by wip/gen40.py.
-/
namespace Go.Proofs.YtdpbcfjhljgicaaGreatDoor
open Go.RowKit Go.Shelf
open Tr (T S4 Ent)
attribute [local go_sem] Oper.semAt_some

theorem Foot.wide {F G : Nat → Prop} {w w' : World} (h : Foot F w w') (hF : ∀ b, F b → G b) : Foot G w w' := ⟨h.os, h.tape, h.output, h.size, fun k hk hn => h.block k hk fun c => hn (hF k c)⟩
/-- the world in which the loop over kids begins -/
def nthWorld (w : World) (t : T) : World := ((((w.alloc (.cells #[.int .i64 0] 3)).alloc (.cells #[.bool false] 4)).alloc (.cells #[.pointer (some ⟨t.blk, 0, none⟩)] 79)).alloc (.cells #[.int .i64 0] 3)).alloc (.cells #[.int .i64 65536] 3)
theorem nthWorld_size (w : World) (t : T) : (nthWorld w t).heap.size = w.heap.size + 5 := by simp [nthWorld]
theorem nth_start (w : World) (t : T) (r0 : Loop) : Below w.heap.size w (rangeWorld (nthWorld w t) r0) ∧ (rangeWorld (nthWorld w t) r0).heap[w.heap.size]? = some (.cells #[.int .i64 0] 3) ∧ (rangeWorld (nthWorld w t) r0).heap[w.heap.size + 1]? = some (.cells #[.bool false] 4) ∧
    (rangeWorld (nthWorld w t) r0).heap[w.heap.size + 1 + 1]? = some (.cells #[.pointer (some ⟨t.blk, 0, none⟩)] 79) ∧ (rangeWorld (nthWorld w t) r0).heap[w.heap.size + 1 + 1 + 1]? = some (.cells #[.int .i64 0] 3) ∧ (rangeWorld (nthWorld w t) r0).heap[w.heap.size + 1 + 1 + 2]? = some (.cells #[.int .i64 65536] 3) ∧
    (rangeWorld (nthWorld w t) r0).heap[w.heap.size + 5]? = some (.deferred (some [])) ∧ (rangeWorld (nthWorld w t) r0).heap[w.heap.size + 6]? = some (.loop r0) ∧ (rangeWorld (nthWorld w t) r0).heap.size = w.heap.size + 7 := by
  refine ⟨(((((((Below.refl _ w).alloc (Nat.le_refl _) _).alloc (by simp) _).alloc (by simp; omega) _).alloc (by simp; omega) _).alloc (by simp; omega) _).alloc (by simp; omega) _).alloc (by simp; omega) _, hav_old (hav_old (hav_old (hav_old (hav_old (hav_old (hav_next rfl)))))), hav_old (hav_old (hav_old (hav_old (hav_old (hav_next (by simp)))))), hav_old (hav_old (hav_old (hav_old (hav_next (by simp))))), hav_old (hav_old (hav_old (hav_next (by simp)))), hav_old (hav_old (hav_next (by simp))), hav_old (hav_next (nthWorld_size ..)), hav_next (by rw [World.size_alloc, nthWorld_size]), by simp [rangeWorld, nthWorld_size]⟩
/-- between two kids -/
structure NthJ (W1 : World) (R L : Nat) (r0 : Loop) (x : Nat) (ks : List (Nat × T)) (i : Nat) (W : World) : Prop where
  foot : Foot (fun b => b = R ∨ b = L) W1 W
  le : (Tr.entsL (ks.take i)).length ≤ x
  cnt : W.heap[R]? = some (.cells #[.int .u64 ((x - (Tr.entsL (ks.take i)).length : Nat) : Int)] 38 (0, 0))
  lp : W.heap[L]? = some (.loop r0)
/-- where the kid is found -/
structure NthX (W1 : World) (R r3 r4 L : Nat) (r0 : Loop) (x : Nat) (ks : List (Nat × T)) (i : Nat) (W : World) : Prop where
  foot : Foot (fun b => b = R ∨ b = r3 ∨ b = r4 ∨ b = L) W1 W
  found : ∃ a s x', ks[i]? = some (a, s) ∧ x = (Tr.entsL (ks.take i)).length + x' ∧ x' < s.ents.length ∧ W.heap[R]? = some (.cells #[.int .u64 (x' : Int)] 38 (0, 0)) ∧ W.cell? ⟨r3, 0, none⟩ = some (.int .i64 (a : Int)) ∧ W.cell? ⟨r4, 0, none⟩ = some (.bool true)
  lp : W.heap[L]? = some (.loop { r0 with state := .done, pending := some .ret })

set_option maxRecDepth 1000000 in
set_option maxHeartbeats 4000000 in
theorem nth1_c {w : World} {B k gA x : Nat} {t : T} (hA : w.heap[gA]? = some (.cells #[.int .u64 (x : Int)] 38 (0, 0))) (hgB : B ≤ gA) (hn : Node w B k t) (hB : B ≤ w.heap.size) (hT : ∀ w', Below B w w' → Tz w') (h0 : t.lv ≠ 0) (hx : x < t.ents.length) (hN : t.ents.length ≤ 100000000) :
    Calls Tryz.prog 67 #[.pointer (some ⟨t.blk, 0, none⟩), .pointer (some ⟨gA, 0, none⟩)] w fun e w' => ∃ (i a : Nat) (s : T) (x' : Nat), e = .returned (.tuple #[.int .i64 (a : Int), .bool true]) ∧ t.ks[i]? = some (a, s) ∧ x = (Tr.entsL (t.ks.take i)).length + x' ∧ x' < s.ents.length ∧
      w'.heap[gA]? = some (.cells #[.int .u64 (x' : Int)] 38 (0, 0)) ∧ Foot (fun b => b = gA) w w' := by
  have hents : t.ents = Tr.entsL t.ks := by
    cases t with
    | ent => exact absurd rfl h0
    | br g l pre ks => rw [Tr.ents_br]; rfl
  refine (callsIn_wide (n := 8)).1 ?_
  refine callsIn_of_wp_marks Tryz.func67 rfl trivial ?_ rfl
  simp only [Tryz.ntmps67, List.size_toArray, List.length_cons, List.length_nil, Nat.reduceAdd, Nat.reduceSub, Array.replicate_succ, Array.replicate_zero, List.push_toArray, List.append_toArray, List.nil_append, List.cons_append]
  have HX := Lib.hid (And.intro hA (And.intro hgB (And.intro hn (And.intro hB (And.intro hT (And.intro hx (And.intro hN hents)))))))
  clear hA hgB hn hB hT h0 hx hN hents
  gi_wp2_with (refine ⟨trivial, ?_⟩; (with_reducible refine (callsIn_wide.2 (kids_c (some ⟨t.blk, 0, none⟩) 0 65536 _)).mono ?_); rintro e w' ⟨rfl, rfl⟩)
  have hW6 := nthWorld_size w t
  change Code.wpIn _ _ _ _ _ _ (nthWorld w t)
  generalize hW : nthWorld w t = W6 at *
  refine range_at rfl (by omega) (gf := 116) (lb := #[.pointer (some ⟨w.heap.size + 1 + 1 + 1, 0, none⟩), .pointer (some ⟨w.heap.size + 1 + 1, 0, none⟩), .pointer (some ⟨w.heap.size + 1 + 1 + 2, 0, none⟩)]) rfl trivial (enters_of Tryz.func116 (by kernel_rfl) rfl) ?_
  intro fn _
  generalize hr : recOf fn _ _ _ _ _ = r0
  obtain ⟨s1, p3, p4, s2, s3, s4, s5, s6, s7⟩ := nth_start w t r0
  rw [hW] at s1 p3 p4 s2 s3 s4 s5 s6 s7
  have hL : W6.heap.size + 1 = w.heap.size + 6 := by rw [hW6]
  rw [hL]
  obtain ⟨hA, hgB, hn, hB, hT, hx, hN, hents⟩ := HX.out
  have hgw : gA < w.heap.size := (Array.getElem?_eq_some_iff.1 hA).1
  have hbJ : ∀ i W', NthJ (rangeWorld W6 r0) gA (w.heap.size + 6) r0 x t.ks i W' → Below B (rangeWorld W6 r0) W' := fun i W' h => h.foot.below (by omega) (by rintro b (rfl | rfl) <;> omega)
  have hJ0 : NthJ (rangeWorld W6 r0) gA (w.heap.size + 6) r0 x t.ks 0 (rangeWorld W6 r0) := ⟨Foot.refl _ _, by simp [Tr.entsL_nil], by rw [List.take_zero, Tr.entsL_nil, List.length_nil, Nat.sub_zero]; exact (s1.block _ hgw).trans hA, s6⟩
  refine (kids1_in 7 (w.heap.size + 6) (w.heap.size + 1 + 1 + 1) (w.heap.size + 1 + 1) (w.heap.size + 1 + 1 + 2) B k 65536 t (fun i W' => NthJ (rangeWorld W6 r0) gA (w.heap.size + 6) r0 x t.ks i W') (fun i W' => NthX (rangeWorld W6 r0) gA w.heap.size (w.heap.size + 1) (w.heap.size + 6) r0 x t.ks i W') ?cells ?drawn ?round (rangeWorld W6 r0) hJ0).mono ?post
  case cells =>
    intro i W' h
    have hb := (s1.mono hB).trans (hbJ i W' h)
    have hk : ∀ y v ty, (rangeWorld W6 r0).heap[y]? = some (.cells #[v] ty (0, 0)) → y ≠ gA → y ≠ w.heap.size + 6 → W'.cell? ⟨y, 0, none⟩ = some v := fun y v ty hy h1 h2 => by
      have := (h.foot.block y (Array.getElem?_eq_some_iff.1 hy).1 (by rintro (e | e); exact h1 e; exact h2 e)).trans hy
      rw [cell_of_row W' y _ _ ty (0, 0) this]; rfl
    exact ⟨hk _ _ _ s3 (by omega) (by omega), hk _ _ _ s2 (by omega) (by omega), hk _ _ _ s4 (by omega) (by omega), hn.below hb (Nat.le_refl _) (Nat.le_refl _), hT _ hb⟩
  case drawn =>
    intro i W' m h
    exact ⟨h.foot.drewN m, h.le, h.cnt, h.lp⟩
  case round =>
    intro i a2 s W' hJ hi ha2
    refine one_round (r := r0) (a1 := { tmps := #[.pointer (some ⟨t.blk, 0, none⟩), .pointer (some ⟨gA, 0, none⟩), undef, .pointer (some ⟨w.heap.size, 0, none⟩), .pointer (some ⟨w.heap.size + 1, 0, none⟩), .int .i64 (a2 : Int), .pointer (some ⟨s.blk, 0, none⟩), undef, .pointer (some ⟨t.blk, 0, none⟩), .func (.func 116) #[] #[.pointer (some ⟨w.heap.size + 1 + 1 + 1, 0, none⟩), .pointer (some ⟨w.heap.size + 1 + 1, 0, none⟩), .pointer (some ⟨w.heap.size + 1 + 1 + 2, 0, none⟩)], .int .i64 (a2 : Int), .pointer (some ⟨s.blk, 0, none⟩), undef, undef, undef, undef, undef, undef, undef, undef, undef, undef], defers := [] }) trivial hJ.lp (by rw [← hr]; rfl) (by rw [← hr]; rfl) ?assign ?body
    case assign =>
      intro K hK
      rw [← hr]
      simp only [recOf]
      gi_wp2
      exact hK
    case body =>
      have hl1 : (W'.putObj (w.heap.size + 6) (.loop { r0 with state := .busy })).heap[w.heap.size + 6]? = some (.loop { r0 with state := .busy }) := World.putObj_heap_same (Array.getElem?_eq_some_iff.1 hJ.lp).1
      have hb1 := congrArg Loop.body hr
      obtain ⟨R2, hR2⟩ : ∃ R2, R2 = { r0 with state := .busy } := ⟨_, rfl⟩
      rw [← hR2] at hl1
      refine wpIn_mono (body_eq hb1 (?walk : Code.wpIn _ _ _ _ (fun e _ W3 => match e with
        | .normal => W3.heap[w.heap.size + 6]? = some (.loop R2) ∧ s.ents.length ≤ x - (Tr.entsL (t.ks.take i)).length ∧ W3.heap[gA]? = some (.cells #[.int .u64 ((x - (Tr.entsL (t.ks.take i)).length - s.ents.length : Nat) : Int)] 38 (0, 0)) ∧ Foot (fun b => b = gA ∨ b = w.heap.size + 6) (W'.putObj (w.heap.size + 6) (.loop R2)) W3
        | .ret => W3.heap[w.heap.size + 6]? = some (.loop R2) ∧ x - (Tr.entsL (t.ks.take i)).length < s.ents.length ∧ W3.heap[gA]? = some (.cells #[.int .u64 ((x - (Tr.entsL (t.ks.take i)).length : Nat) : Int)] 38 (0, 0)) ∧ W3.cell? ⟨w.heap.size, 0, none⟩ = some (.int .i64 (a2 : Int)) ∧ W3.cell? ⟨w.heap.size + 1, 0, none⟩ = some (.bool true) ∧ Foot (fun b => b = gA ∨ b = w.heap.size ∨ b = w.heap.size + 1 ∨ b = w.heap.size + 6) (W'.putObj (w.heap.size + 6) (.loop R2)) W3
        | _ => False) _ _)) ?conv
      case conv =>
        intro e a3 W3 hp
        cases e with
        | normal =>
          obtain ⟨p1, p2, p3, p4⟩ := hp
          have hrr : ({ r0 with state := .ready, pending := none } : Loop) = r0 := by rw [← hr]; rfl
          have hc := (kids_count hi).1
          have hle := hJ.le
          refine ⟨by rw [← hR2]; exact p1, .inl ⟨rfl, ?_, ?_, ?_, ?_⟩⟩
          · exact ((hJ.foot.trans (foot_put W' _ (.inr rfl)) (fun b h => .inl h)).trans p4 (fun b h => .inl h)).trans (foot_put W3 _ (.inr rfl)) (fun b h => .inl h)
          · omega
          · rw [hc, show x - ((Tr.entsL (t.ks.take i)).length + s.ents.length) = x - (Tr.entsL (t.ks.take i)).length - s.ents.length by omega]
            exact (World.putObj_heap_other (by omega)).trans p3
          · have := World.putObj_heap_same (w := W3) (o := .loop { r0 with state := .ready, pending := none }) (Array.getElem?_eq_some_iff.1 p1).1
            rw [hrr] at this ⊢
            exact this
        | ret =>
          obtain ⟨p1, p2, p3, p4, p5, p6⟩ := hp
          have hle := hJ.le
          refine ⟨by rw [← hR2]; exact p1, .inr ⟨rfl, ?_, ⟨a2, s, x - (Tr.entsL (t.ks.take i)).length, hi, by omega, p2, ?_, ?_, ?_⟩, ?_⟩⟩
          · refine ((Foot.wide hJ.foot fun b h => ?_).trans (foot_put W' _ (.inr (.inr (.inr rfl)))) (fun b h => .inl h)).trans p6 (fun b h => .inl h) |>.trans (foot_put W3 _ (.inr (.inr (.inr rfl)))) (fun b h => .inl h)
            rcases h with h | h
            · exact .inl h
            · exact .inr (.inr (.inr h))
          · exact (World.putObj_heap_other (by omega)).trans p3
          · exact (World.cell?_of_block (World.putObj_heap_other (by simp))).trans p4
          · exact (World.cell?_of_block (World.putObj_heap_other (by simp))).trans p5
          · exact World.putObj_heap_same (Array.getElem?_eq_some_iff.1 p1).1
        | exit id => exact hp.elim
        | goto t => exact hp.elim
        | panic ch => exact hp.elim
        | outgrown => exact hp.elim
      case walk =>
      rw [← hR2]
      have hlR : (W'.putObj (w.heap.size + 6) (.loop R2)).heap[gA]? = some (.cells #[.int .u64 ((x - (Tr.entsL (t.ks.take i)).length : Nat) : Int)] 38 (0, 0)) := (World.putObj_heap_other (by omega)).trans hJ.cnt
      have hkeep : ∀ y, y < w.heap.size + 6 → y ≠ gA → (W'.putObj (w.heap.size + 6) (.loop R2)).heap[y]? = (rangeWorld W6 r0).heap[y]? := fun y hy hne => (World.putObj_heap_other (by omega)).trans (hJ.foot.block y (by omega) (by rintro (e | e) <;> omega))
      have hl3 := (hkeep w.heap.size (by omega) (by omega)).trans p3
      have hl4 := (hkeep (w.heap.size + 1) (by omega) (by omega)).trans p4
      have hb := (s1.mono hB).trans (hbJ i W' hJ)
      have hnP : Node (W'.putObj (w.heap.size + 6) (.loop R2)) B k s := by
        have h1 := hn.below (hb.trans (below_putObj W' (.loop R2) (by omega : B ≤ w.heap.size + 6))) (Nat.le_refl _) (Nat.le_refl _)
        have hm := List.mem_of_getElem? hi
        obtain ⟨g', l', pre', ks', rfl⟩ := Tr.ks_br hm
        exact h1.kid hm
      have hsz1 : w.heap.size + 7 ≤ W'.heap.size := by have := hJ.foot.size; omega
      generalize hW1 : W'.putObj (w.heap.size + 6) (.loop R2) = W1 at *
      have hs1 : W1.heap.size = W'.heap.size := by rw [← hW1]; simp
      simp only [recOf]
      obtain ⟨kp, hnd⟩ := hnP.2.nd
      obtain ⟨z, hz⟩ : ∃ z, x - (Tr.entsL (t.ks.take i)).length = z := ⟨_, rfl⟩
      obtain ⟨S, hS⟩ : ∃ S, Tr.sums s.ents = S := ⟨_, rfl⟩
      obtain ⟨y, hy⟩ : ∃ y, s.ents.length = y := ⟨_, rfl⟩
      have hSc : S.c = y := by rw [← hS, Tr.sums_c, hy]
      rw [hS] at hnd
      rw [hz] at hlR ⊢
      rw [hy]
      have hz100 : z ≤ 100000000 := by omega
      have HS := Lib.hid fun (w2 : World) (hb2 : Below W1.heap.size W1 w2) => nSums_c (hnd.below hb2 (by omega) (Nat.le_refl _)) (show B ≤ w2.heap.size by have := hb2.size; omega)
      have HCl := Lib.hid fun (w2 : World) (hb2 : Below W1.heap.size W1 w2) => And.intro ((hb2.block gA (by omega)).trans hlR) (And.intro ((hb2.block (w.heap.size + 6) (by omega)).trans hl1) (And.intro ((hb2.block w.heap.size (by omega)).trans hl3) ((hb2.block (w.heap.size + 1) (by omega)).trans hl4)))
      have hfld := sums_count
      have hRne : w.heap.size + 6 ≠ gA ∧ gA ≠ w.heap.size ∧ gA ≠ w.heap.size + 1 := by omega
      have HSc := Lib.hid hSc
      clear hJ hi hb hb1 hW1 hr hR2 hnP hnd hS hSc hlR hl1 hl3 hl4 hJ0 hbJ hA hgB hn hB hT hx hN hents hgw hL hW6 hW s1 s2 s3 s4 s5 s6 s7 p3 p4 hsz1 hs1 hkeep hz hy ha2
      by_cases hlt : z < y
      · have d1 : decide (z < S.c) = true := decide_eq_true (by rw [HSc.out]; exact hlt)
        have d1' : decide ((z : Int) < (S.c : Int)) = true := decide_eq_true (by rw [HSc.out]; omega)
        gi_wp2_with (refine ⟨trivial, ?_⟩; (with_reducible refine (CallsIn.inRound (w.heap.size + 6) (callsIn_wide.2 (HS.out _ (Below.refl _ _)))).mono ?_); rintro e w2 ⟨rfl, hb2⟩; obtain ⟨k1, k2, k3, k4⟩ := HCl.out _ hb2; have q0 : w2.cell? ⟨gA, 0, none⟩ = some (.int .u64 (z : Int)) := (by rw [cell_of_row w2 _ _ _ _ (0, 0) k1]; rfl); have q3 : w2.cell? ⟨w.heap.size, 0, none⟩ = some (.int .i64 0) := (by rw [cell_of_row w2 _ _ _ _ (0, 0) k3]; rfl); have q4 : w2.cell? ⟨w.heap.size + 1, 0, none⟩ = some (.bool false) := (by rw [cell_of_row w2 _ _ _ _ (0, 0) k4]; rfl); have f3 := frozen_of_row w2 w.heap.size 0 _ _ k3; have f4 := frozen_of_row w2 (w.heap.size + 1) 0 _ _ k4; have HB := Lib.hid (And.intro hb2 (And.intro k1 k2)); clear hb2 k1 k2 k3 k4)
        obtain ⟨hb2, k1, k2⟩ := HB.out
        refine ⟨(Below.heap_setCell _ _ _ _ (by show w.heap.size + 6 ≠ w.heap.size + 1; omega)).trans ((Below.heap_setCell _ _ _ _ (by show w.heap.size + 6 ≠ w.heap.size; omega)).trans k2), (Below.heap_setCell _ _ _ _ hRne.2.2).trans ((Below.heap_setCell _ _ _ _ hRne.2.1).trans k1), ?_⟩
        exact ((Foot.of_below (F := fun b => b = gA ∨ b = w.heap.size ∨ b = w.heap.size + 1 ∨ b = w.heap.size + 6) hb2).trans (Foot.setCell w2 (F := fun b => b = gA ∨ b = w.heap.size ∨ b = w.heap.size + 1 ∨ b = w.heap.size + 6) (a := ⟨w.heap.size, 0, none⟩) (.inr (.inl rfl)) _) (fun b h => .inl h)).trans (Foot.setCell _ (F := fun b => b = gA ∨ b = w.heap.size ∨ b = w.heap.size + 1 ∨ b = w.heap.size + 6) (a := ⟨w.heap.size + 1, 0, none⟩) (.inr (.inr (.inl rfl))) _) (fun b h => .inl h)
      · have d1 : decide (z < S.c) = false := decide_eq_false (by rw [HSc.out]; exact hlt)
        have d1' : decide ((z : Int) < (S.c : Int)) = false := decide_eq_false (by rw [HSc.out]; omega)
        have hwr : IntKind.u64.wrap ((z : Int) - (S.c : Int)) = ((z - y : Nat) : Int) := by rw [HSc.out, IntWalk.u64_in _ (by omega)]; omega
        gi_wp2_with (refine ⟨trivial, ?_⟩; (with_reducible refine (CallsIn.inRound (w.heap.size + 6) (callsIn_wide.2 (HS.out _ (Below.refl _ _)))).mono ?_); rintro e w2 ⟨rfl, hb2⟩; obtain ⟨k1, k2, k3, k4⟩ := HCl.out _ hb2; have q0 : w2.cell? ⟨gA, 0, none⟩ = some (.int .u64 (z : Int)) := (by rw [cell_of_row w2 _ _ _ _ (0, 0) k1]; rfl); have f0 := frozen_of_row w2 gA 0 _ _ k1; have HB := Lib.hid (And.intro hb2 (And.intro k1 k2)); clear hb2 k1 k2 k3 k4)
        obtain ⟨hb2, k1, k2⟩ := HB.out
        refine ⟨(Below.heap_setCell _ _ _ _ hRne.1).trans k2, by omega, ?_, (Foot.of_below (F := fun b => b = gA ∨ b = w.heap.size + 6) hb2).trans (Foot.setCell w2 (F := fun b => b = gA ∨ b = w.heap.size + 6) (a := ⟨gA, 0, none⟩) (.inl rfl) _) (fun b h => .inl h)⟩
        rw [heap_setCell_same w2 _ 0 _ _ _ k1]
        rfl
  case post =>
    rintro e W2 ⟨⟨v, rfl⟩, hJ | ⟨i, a, s, hi, ha, hX⟩⟩
    · have h1 := hJ.le
      rw [Tr.idx_top hn.1, List.take_length, ← hents] at h1
      omega
    · refine ⟨some .ret, _, run_endLoop hX.lp (by simp), ?_⟩
      obtain ⟨a, s, x', e1, e2, e3, e4, e5, e6⟩ := hX.found
      have hlow : ∀ y, y < w.heap.size + 6 → y ≠ gA → y ≠ w.heap.size → y ≠ w.heap.size + 1 → (W2.putObj (w.heap.size + 6) (.loop { r0 with state := .exhausted, pending := some .ret })).heap[y]? = (rangeWorld W6 r0).heap[y]? := fun y hy h1 h2 h3 =>
        (World.putObj_heap_other (by omega)).trans (hX.foot.block y (by omega) (by rintro (e | e | e | e) <;> omega))
      have hdf := (hlow (w.heap.size + 5) (by omega) (by omega) (by omega) (by omega)).trans s5
      have hgA : (W2.putObj (w.heap.size + 6) (.loop { r0 with state := .exhausted, pending := some .ret })).heap[gA]? = some (.cells #[.int .u64 (x' : Int)] 38 (0, 0)) := (World.putObj_heap_other (by omega)).trans e4
      have c3 : (W2.putObj (w.heap.size + 6) (.loop { r0 with state := .exhausted, pending := some .ret })).cell? ⟨w.heap.size, 0, none⟩ = some (.int .i64 (a : Int)) := (World.cell?_of_block (World.putObj_heap_other (by simp))).trans e5
      have c4 : (W2.putObj (w.heap.size + 6) (.loop { r0 with state := .exhausted, pending := some .ret })).cell? ⟨w.heap.size + 1, 0, none⟩ = some (.bool true) := (World.cell?_of_block (World.putObj_heap_other (by simp))).trans e6
      have hfo : Foot (fun b => b = gA) w (W2.putObj (w.heap.size + 6) (.loop { r0 with state := .exhausted, pending := some .ret })) := by
        have f1 := ((Foot.of_below (F := fun b => b = gA ∨ b = w.heap.size ∨ b = w.heap.size + 1 ∨ b = w.heap.size + 6) s1).trans hX.foot (fun b h => .inl h)).trans (foot_put W2 (.loop { r0 with state := .exhausted, pending := some .ret }) (.inr (.inr (.inr rfl)))) (fun b h => .inl h)
        exact ⟨f1.os, f1.tape, f1.output, f1.size, fun k hk hne => f1.block k hk (by rintro (e | e | e | e); exact hne e; omega; omega; omega)⟩
      generalize W2.putObj (w.heap.size + 6) (.loop { r0 with state := .exhausted, pending := some .ret }) = W3 at *
      simp only [marked, hW6]
      have HF := Lib.hid (And.intro hdf (And.intro hgA (And.intro c3 (And.intro c4 (And.intro hfo (And.intro e1 (And.intro e2 e3)))))))
      clear hX hlow hdf hgA c3 c4 hfo e1 e2 e3 e4 e5 e6 hr hW hL hJ0 hbJ s1 s2 s3 s4 s5 s6 s7 p3 p4 hi ha
      gi_wp2
      obtain ⟨hdf, hgA, c3, c4, hfo, e1, e2, e3⟩ := HF.out
      refine ⟨by simp, .inl ⟨_, _, rfl, run_takeDeferred hdf, ?_⟩⟩
      have c3' : (W3.putObj (w.heap.size + 5) (.deferred none)).cell? ⟨w.heap.size, 0, none⟩ = some (.int .i64 (a : Int)) := (World.cell?_of_block (World.putObj_heap_other (by simp))).trans c3
      have c4' : (W3.putObj (w.heap.size + 5) (.deferred none)).cell? ⟨w.heap.size + 1, 0, none⟩ = some (.bool true) := (World.cell?_of_block (World.putObj_heap_other (by simp))).trans c4
      refine ⟨.tuple #[.int .i64 (a : Int), .bool true], by simp [results, Tryz.f67, go_sem, c3', c4'], i, a, s, x', rfl, e1, e2, e3, (World.putObj_heap_other (by omega)).trans hgA, hfo.trans (foot_put (F := fun b => b = w.heap.size + 5) W3 _ rfl) (fun b h => .inr (by omega))⟩
end Go.Proofs.YtdpbcfjhljgicaaGreatDoor

/-
  CONTRACTS of package rank, eighth part: Nth.
-/
namespace Go.Proofs.YtdpbcfjhljgicaaGreatDoor
open Go.ChangeShapes Go.WideShapes Go.ChangeAt Go.RowKit
open Tr (T S4 Ent)

def NthSt (n : Nat) : List (T × Nat) → T → Nat → Prop := fun us t a => ∃ i s x, t.ks[i]? = some (a, s) ∧ n = (Tr.foreR us).length + (Tr.entsL (t.ks.take i)).length + x ∧ x < s.ents.length
theorem get_at {ks : List (Nat × T)} (hs : Sl.Srt ks) {i a : Nat} {s : T} (h : ks[i]? = some (a, s)) : Sl.get ks (a : Int) = some s := Sl.get_of_mem hs (p := (a, s)) (List.mem_of_getElem? h)
theorem way_all {k : Nat} {St : List (T × Nat) → T → Nat → Prop} {o o' : Option T} {us : List (T × Nat)} (h : WayS St o us o') (ho : ∀ t, o = some t → Tr.Wf k t) : (∀ t, o' = some t → Tr.Wf k t) ∧ ∀ x ∈ us, Tr.Wf k x.1 := by
  induction h with
  | start => exact ⟨ho, fun x hx => by cases hx⟩
  | @step us t a h hl hc ih =>
    have ht := ih.1 t rfl
    refine ⟨fun s hs => (ht.sub (get_kid hs)).1, fun x hx => ?_⟩
    rcases List.mem_cons.1 hx with rfl | hx
    · exact ht
    · exact ih.2 x hx
theorem way_sum {k : Nat} {St : List (T × Nat) → T → Nat → Prop} {o : Option T} {us : List (T × Nat)} {t : T} (h : WayS St o us (some t)) (ho : ∀ t, o = some t → Tr.Wf k t) : Tr.foreR us ++ t.ents ++ Tr.aftR us = Tr.entsO o := by
  have hw := way_all h ho
  exact Tr.steps_all (h.steps.1 t 0 rfl) (fun x hx => by
    rcases List.mem_cons.1 hx with rfl | hx
    · exact hw.1 t rfl
    · exact hw.2 x hx)
/-- the nth entry lies below each node of the way -/
theorem nth_left {k n : Nat} {o o' : Option T} {us : List (T × Nat)} (h : WayS (NthSt n) o us o') (ho : ∀ t, o = some t → Tr.Wf k t) (hn : n < (Tr.entsO o).length) : ∃ t x, o' = some t ∧ n = (Tr.foreR us).length + x ∧ x < t.ents.length := by
  cases h with
  | start =>
    cases o with
    | none => simp [Tr.entsO] at hn
    | some t => exact ⟨t, n, rfl, by simp [Tr.foreR], hn⟩
  | @step us t a h hl hs =>
    obtain ⟨i, s, x, hi, he, hx⟩ := hs
    have hsrt := ((way_all h ho).1 t rfl).srt
    refine ⟨s, x, get_at hsrt hi, ?_, hx⟩
    rw [show Tr.foreR ((t, a) :: us) = Tr.foreR us ++ Tr.entsL (t.ks.take (Sl.idx t.ks (a : Int))) from rfl, List.length_append, Sl.idx_of hsrt hi]
    exact he
def NthI (B n gA : Nat) (us : List (T × Nat)) (w : World) (F : Nat → Prop) : Prop :=
  ∃ x, w.heap[gA]? = some (.cells #[.int .u64 (x : Int)] 38 (0, 0)) ∧ n = (Tr.foreR us).length + x ∧ (∀ b, F b ↔ b = gA) ∧ (∀ w', Below B w w' → Tz w')
theorem nth_visit {B k n gA : Nat} {o : Option T} (hB : B ≤ gA) (ho : ∀ t, o = some t → Tr.Wf k t) (hn : n < (Tr.entsO o).length) (hN : (Tr.entsO o).length ≤ 100000000) : VisitR1 67 gA B k o (NthSt n) (fun _ _ => False) (NthI B n gA) where
  ent := enters_of Tryz.func67 (by kernel_rfl) rfl
  frame := by
    rintro us w w' F ⟨x, h1, h2, h3, h4⟩ _ hk hb
    exact ⟨x, (hk gA ((h3 gA).2 rfl)).trans h1, h2, h3, fun w9 h9 => h4 w9 (hb.trans h9)⟩
  inb := by
    rintro us w F ⟨x, h1, h2, h3, h4⟩ b hb
    obtain rfl := (h3 b).1 hb
    exact ⟨(Array.getElem?_eq_some_iff.1 h1).1, hB⟩
  call := by
    rintro us w F t ⟨x, h1, h2, h3, h4⟩ hnd hBw hus h0 hway
    obtain ⟨t', x', e, e2, e3⟩ := nth_left hway ho hn
    obtain rfl : t = t' := by simpa using e
    obtain rfl : x = x' := by omega
    have hsum := congrArg List.length (way_sum hway ho)
    simp only [List.length_append] at hsum
    refine (nth1_c h1 hB hnd hBw h4 h0 e3 (by omega)).mono ?_
    rintro e w' ⟨i, a, s, y, rfl, hi, hx, hy, hA', hfo⟩
    refine .inl ⟨a, rfl, ⟨i, s, y, hi, by omega, hy⟩, F, ⟨y, hA', ?_, h3, fun w9 h9 => h4 w9 ((hfo.below hBw (by rintro b rfl; exact hB)).trans h9)⟩, fun b hb => .inl hb, hfo.wide fun b hb => (h3 b).2 hb⟩
    rw [show Tr.foreR ((t, a) :: us) = Tr.foreR us ++ Tr.entsL (t.ks.take (Sl.idx t.ks (a : Int))) from rfl, List.length_append, Sl.idx_of hnd.1.srt hi]
    omega
/-- where the way of the nth entry ends -/
theorem nth_end {k n : Nat} {o o' : Option T} {us : List (T × Nat)} (h : WayS (NthSt n) o us o') (hs : StopS (fun _ _ => False) us o') (ho : ∀ t, o = some t → Tr.Wf k t) (hn : n < (Tr.entsO o).length) : ∃ g p v, o' = some (.ent g p v) ∧ (Tr.entsO o)[n]? = some (p, v) := by
  obtain ⟨t, x, rfl, e2, e3⟩ := nth_left h ho hn
  have h0 := (hs t rfl).resolve_right fun h => h
  have hsum := way_sum h ho
  cases t with
  | br g l pre ks => exact absurd h0 (by show l + 1 ≠ 0; omega)
  | ent g p v =>
    refine ⟨g, p, v, rfl, ?_⟩
    rw [Tr.ents_ent] at e3 hsum
    have : x = 0 := by simpa using e3
    subst this
    rw [← hsum, e2, Nat.add_zero, List.getElem?_append_left (by simp), List.getElem?_append_right (Nat.le_refl _), Nat.sub_self]
    rfl

theorem nEntry_new {w : World} {B k g : Nat} {p : List Nat} {v : Nat} (h : Node w B k (.ent g p v)) (hB : B ≤ w.heap.size) :
    Calls Tryz.prog 69 #[.pointer (some ⟨g, 0, none⟩)] w fun e w' => ∃ h d, e = .returned (.tuple #[entryV (some ⟨h, 0, none⟩) p.length d v, .bool true]) ∧ Own w' w.heap.size (.slice (some ⟨h, 0, none⟩) p.length d) p ∧ Below w.heap.size w w' := by
  have hnd : NdAt w B g (-1) p v none (Tr.s1 v) := by cases h.2 with | ent _ _ _ h => exact h
  exact nEntry_ent hnd hB (by intro e; have h1 : p.length = k := h.1.len; have := h.1.k1; simp [e] at h1; omega) (by have h1 : p.length = k := h.1.len; have := h.1.k16; omega)

theorem kNth_nil (n : Int) (w : World) : Calls Tryz.prog 29 #[.pointer none, .int .i64 n] w fun e w' => e = .returned (.tuple #[entryV none 0 0 0, .bool false, .int .i64 1]) ∧ Below w.heap.size w w' := by
  have hx : (w.alloc (.cells #[.slice none 0 0, .int .u64 0] 54)).heap[w.heap.size]? = some (.cells #[.slice none 0 0, .int .u64 0] 54 (0, 0)) := heap_at w _ _ rfl
  obtain ⟨b0, b1, f0, f1⟩ := box_cells hx
  go_enter Tryz.func29, Tryz.ntmps29
  go_wp2_with fail
  refine bodyPost_ret (v := .tuple #[entryV none 0 0 0, .bool false, .int .i64 1]) (by simp [results, Tryz.results29, go_sem, b0, b1]) rfl ?_
  exact ⟨rfl, below_alloc _ _⟩
theorem kNth_out {w : World} {B b k : Nat} {o : Option T} (ht : TreeAt w B b k o) (hB : B ≤ w.heap.size) (hN : (Tr.entsO o).length ≤ 100000000) (n : Int) (hn : n < 0 ∨ (Tr.entsO o).length ≤ n) :
    Calls Tryz.prog 29 #[.pointer (some ⟨b, 0, none⟩), .int .i64 n] w fun e w' => e = .returned (.tuple #[entryV none 0 0 0, .bool false, .int .i64 0]) ∧ Below w.heap.size w w' := by
  have hal := below_alloc w (.cells #[.slice none 0 0, .int .u64 0] 54)
  have hx : (w.alloc (.cells #[.slice none 0 0, .int .u64 0] 54)).heap[w.heap.size]? = some (.cells #[.slice none 0 0, .int .u64 0] 54 (0, 0)) := heap_at w _ _ rfl
  have HL := Lib.hid (tLen_c (ht.below hal hB (Nat.le_refl _)) (Nat.le_trans hB hal.size) (by omega))
  obtain ⟨N, hNN⟩ : ∃ N, (Tr.entsO o).length = N := ⟨_, rfl⟩
  rw [hNN] at HL hn hN
  by_cases h0 : n < 0
  · have d1 : decide (n < 0) = true := decide_eq_true h0
    obtain ⟨b0, b1, f0, f1⟩ := box_cells hx
    have HA := Lib.hid hal
    clear hx hal hn h0 ht hNN HL
    go_enter Tryz.func29, Tryz.ntmps29
    go_wp2_with fail
    refine bodyPost_ret (v := .tuple #[entryV none 0 0 0, .bool false, .int .i64 0]) (by simp [results, Tryz.results29, go_sem, b0, b1]) rfl ?_
    exact ⟨rfl, HA.out⟩
  · have d1 : decide (n < 0) = false := decide_eq_false h0
    have d2 : decide ((N : Int) ≤ n) = true := decide_eq_true (by omega)
    have HX := Lib.hid (And.intro hx hal)
    clear hx hal hn h0 ht hNN
    go_enter Tryz.func29, Tryz.ntmps29
    go_wp2_with (go_at_call 55; refine HL.out.mono ?_; rintro e w1 ⟨rfl, hb1⟩; have hx1 := (hb1.block w.heap.size (by simp)).trans HX.out.1; obtain ⟨b0, b1, f0, f1⟩ := box_cells hx1; obtain ⟨r0, r1⟩ := res_cells hx1 (.slice none 0 0) (.int .u64 0); have HB := Lib.hid hb1; clear hb1 hx1)
    refine bodyPost_ret (v := .tuple #[entryV none 0 0 0, .bool false, .int .i64 0]) (by simp [results, Tryz.results29, go_sem, r0, r1]) rfl ?_
    exact ⟨rfl, res_below (Below.andThen HX.out.2 HB.out) _ _⟩
set_option maxRecDepth 1000000 in
set_option maxHeartbeats 4000000 in
theorem kNth_c {w : World} {B b k : Nat} {o : Option T} (ht : TreeAt w B b k o) (hB : B ≤ w.heap.size) (hT : ∀ w', Below B w w' → Tz w') (hN : (Tr.entsO o).length ≤ 100000000) (n : Nat) {y : Ent} (hy : (Tr.entsO o)[n]? = some y) :
    Calls Tryz.prog 29 #[.pointer (some ⟨b, 0, none⟩), .int .i64 (n : Int)] w fun e w' => ∃ h d, e = .returned (.tuple #[entryV (some ⟨h, 0, none⟩) y.1.length d y.2, .bool true, .int .i64 0]) ∧ Pts w' w'.heap.size (some ⟨h, 0, none⟩) y.1 ∧ w.heap.size ≤ h ∧ Below w.heap.size w w' := by
  have hnl := (List.getElem?_eq_some_iff.1 hy).1
  have hal := below_alloc w (.cells #[.slice none 0 0, .int .u64 0] 54)
  have hx : (w.alloc (.cells #[.slice none 0 0, .int .u64 0] 54)).heap[w.heap.size]? = some (.cells #[.slice none 0 0, .int .u64 0] 54 (0, 0)) := heap_at w _ _ rfl
  have HL := Lib.hid (tLen_c (ht.below hal hB (Nat.le_refl _)) (Nat.le_trans hB hal.size) (by omega))
  obtain ⟨N, hNN⟩ : ∃ N, (Tr.entsO o).length = N := ⟨_, rfl⟩
  have hnN : (n : Int) < (N : Int) := by omega
  have hN8 : (N : Int) ≤ 100000000 := by omega
  rw [hNN] at HL
  have HX := Lib.hid (And.intro ht (And.intro hB (And.intro hT (And.intro hN (And.intro hy (And.intro hnl (And.intro hx hal)))))))
  have d1 : decide ((n : Int) < 0) = false := decide_eq_false (by omega)
  have d2 : decide ((N : Int) ≤ (n : Int)) = false := decide_eq_false (by omega)
  have d2' : decide (N ≤ n) = false := decide_eq_false (by omega)
  have hwr : IntKind.u64.wrap (n : Int) = (n : Int) := IntWalk.u64_in _ (by omega)
  clear ht hB hT hN hy hnl hx hal hNN
  go_enter Tryz.func29, Tryz.ntmps29
  go_upto_region 6 with (go_at_call 55; refine HL.out.mono ?_; rintro e w1 ⟨rfl, hb1⟩; have H1 := Lib.hid hb1; clear hb1)
  obtain ⟨W1, hW1⟩ : ∃ W1, W1 = w1.alloc (.cells #[.int .u64 (n : Int)] 38) := ⟨_, rfl⟩
  obtain ⟨ht, hB, hT, hN, hy, hnl, hx, hal⟩ := HX.out
  have hb1 := Below.andThen hal H1.out
  have hs1 := H1.out.size
  rw [World.size_alloc] at hs1
  have hbW : Below w1.heap.size w1 W1 := by rw [hW1]; exact below_alloc _ _
  have hbw : Below w.heap.size w W1 := Below.andThen hb1 hbW
  have hcA : W1.heap[w1.heap.size]? = some (.cells #[.int .u64 (n : Int)] 38 (0, 0)) := by rw [hW1]; exact heap_at w1 _ _ rfl
  have hx1 : W1.heap[w.heap.size]? = some (.cells #[.slice none 0 0, .int .u64 0] 54 (0, 0)) := (hbW.block _ (by omega)).trans ((H1.out.block _ (by simp)).trans hx)
  have hWs : W1.heap.size = w1.heap.size + 1 := by rw [hW1]; simp
  have hwf : ∀ t, o = some t → Tr.Wf k t := fun t e => (ht.2.2.2.2 t e).1
  have HR := Lib.hid (tRoot_c (ht.2.2.2.1.below hbw (by have := ht.1; omega)))
  have HD := Lib.hid (kdownR1_c (nth_visit (B := B) (k := k) (n := n) (gA := w1.heap.size) (by omega) hwf hnl hN) (w := W1) (F := fun b => b = w1.heap.size) ⟨n, hcA, by simp [Tr.foreR], fun b => Iff.rfl, fun w9 h9 => hT w9 ((hbw.mono hB).trans h9)⟩ (ht.2.2.2.2.below hbw hB (Nat.le_refl _)) (by omega))
  have HE := Lib.hid (And.intro hbw (And.intro hx1 (And.intro hWs (And.intro hs1 hwf))))
  rw [← hW1]
  clear ht hB hT hN hy hnl hx hal hb1 hs1 hbW hbw hcA hx1 hWs hwf hW1 HL
  go_wp2_with (first
    | (go_at_call 59; refine HR.out.mono ?_; rintro e w' ⟨rfl, rfl⟩)
    | (go_at_call 68; refine HD.out.mono ?_; rintro e w2 ⟨us, o', hway, hstop, rfl, F', -, -, hfo⟩; obtain ⟨q, p, v, rfl, hp⟩ := nth_end hway hstop HE.out.2.2.2.2 HX.out.2.2.2.2.2.1; have hB2 : Below B W1 w2 := hfo.below (by have := HX.out.2.1; have := HE.out.1.size; omega) (by rintro b rfl; have := HX.out.2.1; have := HE.out.2.2.2.1; omega); have hnd2 := (hway.node (HX.out.1.2.2.2.2.below ((HE.out.1.mono HX.out.2.1).trans hB2) (Nat.le_refl _) (Nat.le_refl _))).1 _ rfl; have hx2 := (hfo.block w.heap.size (by have := HE.out.2.2.1; have := HE.out.2.2.2.1; omega) (by have := HE.out.2.2.2.1; omega)).trans HE.out.2.1; have hb2 : Below w.heap.size w w2 := HE.out.1.trans (hfo.below HE.out.1.size (by rintro b rfl; have := HE.out.2.2.2.1; omega)); have H2 := Lib.hid (And.intro hp (And.intro hx2 hb2)); have HN := Lib.hid hnd2; clear hway hstop hfo hp hB2 hnd2 hx2 hb2; simp only [rootP_yes, T.blk])
    | (go_at_call 69; refine (nEntry_new HN.out (Nat.le_trans HX.out.2.1 H2.out.2.2.size)).mono ?_; rintro e w3 ⟨hh, dd, rfl, ho, hb3⟩; have hx3 := (hb3.block w.heap.size (Array.getElem?_eq_some_iff.1 H2.out.2.1).1).trans H2.out.2.1; have hx4 := (below_alloc w3 (.cells #[.slice (some ⟨hh, 0, none⟩) p.length dd, .int .u64 (v : Int)] 54)).block w.heap.size (Array.getElem?_eq_some_iff.1 hx3).1 |>.trans hx3; obtain ⟨b0, b1, f0, f1⟩ := box_cells hx4; obtain ⟨r0, r1⟩ := res_cells hx4 (.slice (some ⟨hh, 0, none⟩) p.length dd) (.int .u64 (v : Int)); have H3 := Lib.hid (And.intro ho hb3); clear ho hb3 hx3 hx4))
  refine bodyPost_ret (v := .tuple #[entryV (some ⟨hh, 0, none⟩) p.length dd v, .bool true, .int .i64 0]) (by simp [results, Tryz.results29, go_sem, r0, r1]) rfl ?_
  obtain ⟨hp, hx2, hb2⟩ := H2.out
  obtain ⟨ho, hb3⟩ := H3.out
  have hyp : y = (p, v) := by
    have := HX.out.2.2.2.2.1
    rw [hp] at this
    exact (Option.some.inj this).symm
  subst hyp
  have hbe := res_below (w := w) (Below.andThen (Below.andThen hb2 hb3) (below_alloc w3 (.cells #[.slice (some ⟨hh, 0, none⟩) p.length dd, .int .u64 (v : Int)] 54))) (.slice (some ⟨hh, 0, none⟩) p.length dd) (.int .u64 (v : Int))
  obtain ⟨A', c', hv, hpt⟩ := ho.pts
  simp only [Value.slice.injEq] at hv
  obtain ⟨rfl, -, -⟩ := hv
  have hge := (ho.2.lt hh rfl).1
  have hgw : w.heap.size < w2.heap.size := (Array.getElem?_eq_some_iff.1 hx2).1
  refine ⟨hh, dd, rfl, ⟨hpt.1, fun hne => ?_⟩, by omega, hbe⟩
  obtain ⟨b', off, hA', hb', hc'⟩ := hpt.2 hne
  simp only [Option.some.injEq, Addr.mk.injEq] at hA'
  obtain ⟨rfl, rfl, -⟩ := hA'
  refine ⟨hh, 0, rfl, by simp; omega, fun i u hi => ?_⟩
  have h1 := hc' i u hi
  have h2 : ∀ X : World, X.heap[hh]? = w3.heap[hh]? → X.cell? ⟨hh, 0 + i, none⟩ = some (.int .u64 (u : Int)) := fun X hX => (World.cell?_of_block (w := w3) (a := ⟨hh, 0 + i, none⟩) hX).trans h1
  refine h2 _ ((Below.heap_setCell _ _ _ _ (by show hh ≠ w.heap.size; omega)).trans ((Below.heap_setCell _ _ _ _ (by show hh ≠ w.heap.size; omega)).trans (Below.heap_alloc _ _ _ hb')))
end Go.Proofs.YtdpbcfjhljgicaaGreatDoor
