import Derived.Test.YtdpbcfjhljgicaaGreatDoorM69
/-
  THE LAW RankOf. Laid by wip/gen43.py.
-/
namespace Go.Proofs.YtdpbcfjhljgicaaGreatDoor
open Go.ChangeShapes Go.WideShapes Go.ChangeAt Go.RowKit
open Tr (T S4 Ent)

/-- what Of tells of any point -/
def OfTold (k : Nat) (L : List Ent) (p : List Nat) (r ec : Nat) : Prop := (p.length = k ∧ ec = 0 ∧ ∃ F1 F2, L = F1 ++ F2 ∧ Ahead p F1 ∧ Past p F2 ∧ r = F1.length) ∨ (p.length ≠ k ∧ r = 0 ∧ ec = 2)
theorem kOf_any {w : World} {b k : Nat} {o : Option T} (ht : TreeX w b k o) (hT : ∀ w', Below w.heap.size w w' → Tz w') (hN : (Tr.entsO o).length ≤ 100000000) {p : List Nat} {A : Option Addr} {c : Nat} (hp : Pts w w.heap.size A p) (hl : p.length ≤ maxLen) :
    Calls Tryz.prog 28 #[.pointer (some ⟨b, 0, none⟩), .slice A p.length c] w fun e w' => ∃ r ec, e = .returned (.tuple #[.int .i64 ((r : Nat) : Int), .int .i64 ((ec : Nat) : Int)]) ∧ OfTold k (Tr.entsO o) p r ec ∧ Below w.heap.size w w' := by
  by_cases hk : p.length = k
  · refine (kOf_c (c := c) ht.1 (Nat.le_refl _) hT hN hp hk).mono ?_
    rintro e w' ⟨F1, F2, h1, h2, h3, rfl, hb⟩
    exact ⟨F1.length, 0, rfl, .inl ⟨hk, rfl, F1, F2, h1, h2, h3, rfl⟩, hb⟩
  · refine (kOf_dim ht.1.2.2.2.1 A p.length c hl hk).mono ?_
    rintro e w' ⟨rfl, rfl⟩
    exact ⟨0, 2, rfl, .inr ⟨hk, rfl, rfl⟩, Below.refl _ _⟩
theorem kNth_any {w : World} {b k : Nat} {o : Option T} (ht : TreeX w b k o) (hT : ∀ w', Below w.heap.size w w' → Tz w') (hN : (Tr.entsO o).length ≤ 100000000) (i : Int) {x : Option Ent} (hx : atI (Tr.entsO o) i = x) :
    Calls Tryz.prog 29 #[.pointer (some ⟨b, 0, none⟩), .int .i64 i] w fun e w' => ∃ (P : Option Addr) (n dd v : Nat), e = .returned (.tuple #[.agg #[.slice P n dd, .int .u64 (v : Int)], .bool x.isSome, .int .i64 0]) ∧ RdX w' x P n v ∧ Below w.heap.size w w' := by
  subst hx
  cases hx : atI (Tr.entsO o) i with
  | none =>
    unfold atI at hx
    refine (kNth_out ht.1 (Nat.le_refl _) hN i ?_).mono ?_
    · split at hx
      · rw [List.getElem?_eq_none_iff] at hx; right; omega
      · left; omega
    · rintro e w' ⟨rfl, hb⟩
      exact ⟨none, 0, 0, 0, rfl, ⟨rfl, rfl⟩, hb⟩
  | some y =>
    unfold atI at hx
    split at hx
    · rename_i h0
      obtain ⟨j, rfl⟩ : ∃ j : Nat, i = (j : Int) := ⟨i.toNat, by omega⟩
      rw [Int.toNat_natCast] at hx
      refine (kNth_c ht.1 (Nat.le_refl _) hT hN j hx).mono ?_
      rintro e w' ⟨h, d, rfl, hp, -, hb⟩
      exact ⟨_, _, d, _, rfl, ⟨rfl, rfl, hp⟩, hb⟩
    · cases hx
theorem ents_single {W : World} {b c : Nat} {A : Option Addr} {e : Ent} (h : W.heap[b]? = some (.cells #[.slice A e.1.length c, .int .u64 (e.2 : Int)] 54 (0, 0))) (p : Pts W W.heap.size A e.1) (hl : e.1.length ≤ maxLen) (hv : e.2 < 18446744073709551616) : Ents W W.heap.size (some ⟨b, 0, none⟩) [e] := by
  intro _
  refine ⟨b, 0, rfl, (Array.getElem?_eq_some_iff.1 h).1, fun i x hx => ?_⟩
  match i with
  | 0 =>
    simp only [List.getElem?_cons_zero, Option.some.injEq] at hx
    subst hx
    refine ⟨A, c, ?_, ?_, p, hl, hv⟩
    · show W.cell? ⟨b, 0, none⟩ = _
      rw [cell_of_row W b _ _ _ (0, 0) h]; rfl
    · show W.cell? ⟨b, 1, none⟩ = _
      rw [cell_of_row W b _ _ _ (0, 0) h]; rfl
  | i + 1 => simp at hx
theorem ents_sub {W : World} {B b off : Nat} {L : List Ent} {j : Nat} {y : Ent} (h : Ents W B (some ⟨b, off, none⟩) L) (hy : L[j]? = some y) : Ents W B (some ⟨b, off + j * 2, none⟩) [y] := by
  obtain ⟨b', off', A', c', hA, hb, h0, h1, r⟩ := h.at hy
  simp only [Option.some.injEq, Addr.mk.injEq, and_true] at hA
  obtain ⟨rfl, rfl⟩ := hA
  intro _
  refine ⟨b, off + j * 2, rfl, hb, fun i x hx => ?_⟩
  match i with
  | 0 =>
    simp only [List.getElem?_cons_zero, Option.some.injEq] at hx
    subst hx
    exact ⟨A', c', h0, h1, r⟩
  | i + 1 => simp at hx

theorem rangeSame {w6 w7 : World} {B base M c6 c7 : Nat} {A6 A7 : Option Addr} {R : List Ent} (hM : R.length = M) (h6 : NewR base w6 A6 c6 R) (h7 : OwnE w7 B w6.heap.size (.slice A7 R.length c7) R) (hb : Below w6.heap.size w6 w7) (hl : M ≤ 1000) (hB : B ≤ w6.heap.size) :
    Calls Tryz.prog 21 #[.slice A6 M c6, .slice A7 M c7] w7 fun e w' => e = .returned (.bool true) ∧ Below w7.heap.size w7 w' := by
  subst hM
  obtain ⟨A', c', hv, -, hl7⟩ := h7.entL
  simp only [Value.slice.injEq] at hv
  obtain ⟨rfl, -, -⟩ := hv
  exact rsameEnts_c (h6.below hb).ents (hl7.ents (Nat.le_trans hB hb.size) (Nat.le_refl _)) (by omega)

theorem rankOf_skip {w : World} {A : Option Addr} {c : Nat} {l : List ActT} (k from' to : Int) (Ap : Option Addr) (np cp : Nat) (hT : Tz w) (hA : ActsT w w.heap.size A l) (hl : l.length ≤ maxLen) (hh : heavyA 50 l = true) :
    Calls Tryz.prog 7 #[.int .i64 k, .slice A l.length c, .slice Ap np cp, .int .i64 from', .int .i64 to] w fun e w' => e = .returned (.bool true) ∧ Below w.heap.size w w' := by
  have HX := Lib.hid (And.intro hA (And.intro hl (And.intro hh hT)))
  clear hA hl hh hT
  go_enter Tryz.func7, Tryz.ntmps7
  go_wp2_with fail
  refine (awake10_c w HX.out.2.2.2).mono ?_
  rintro e w1 ⟨rfl, hb1⟩
  have HH := Lib.hid (rheavy7_c (c := c) (HX.out.1.below hb1 (Nat.le_refl _) (Nat.le_refl _)) HX.out.2.1 50 true HX.out.2.2.1)
  have HB := Lib.hid hb1
  clear hb1
  go_wp2_with (go_at_call 13; refine HH.out.mono ?_; rintro e w' ⟨rfl, rfl⟩)
  go_ret
  exact ⟨rfl, HB.out⟩

theorem rankOf_low {w : World} {A : Option Addr} {c : Nat} {l : List ActT} (k from' to : Int) (Ap : Option Addr) (np cp : Nat) (hT : Tz w) (hA : ActsT w w.heap.size A l) (hl : l.length ≤ maxLen) (hh : heavyA 50 l = false) (h : k < 1) :
    Calls Tryz.prog 7 #[.int .i64 k, .slice A l.length c, .slice Ap np cp, .int .i64 from', .int .i64 to] w fun e w' => e = .returned (.bool true) ∧ Below w.heap.size w w' := by
  have HX := Lib.hid (And.intro hA (And.intro hl (And.intro hh hT)))
  have d1 : decide (k < 1) = true := decide_eq_true (by omega)
  clear h
  clear hA hl hh hT
  go_enter Tryz.func7, Tryz.ntmps7
  go_wp2_with fail
  refine (awake10_c w HX.out.2.2.2).mono ?_
  rintro e w1 ⟨rfl, hb1⟩
  have HH := Lib.hid (rheavy7_c (c := c) (HX.out.1.below hb1 (Nat.le_refl _) (Nat.le_refl _)) HX.out.2.1 50 false HX.out.2.2.1)
  have HB := Lib.hid hb1
  clear hb1
  go_wp2_with (go_at_call 13; refine HH.out.mono ?_; rintro e w' ⟨rfl, rfl⟩)
  go_ret
  exact ⟨rfl, HB.out⟩

theorem rankOf_high {w : World} {A : Option Addr} {c : Nat} {l : List ActT} (k from' to : Int) (Ap : Option Addr) (np cp : Nat) (hT : Tz w) (hA : ActsT w w.heap.size A l) (hl : l.length ≤ maxLen) (hh : heavyA 50 l = false) (h : 16 < k) :
    Calls Tryz.prog 7 #[.int .i64 k, .slice A l.length c, .slice Ap np cp, .int .i64 from', .int .i64 to] w fun e w' => e = .returned (.bool true) ∧ Below w.heap.size w w' := by
  have HX := Lib.hid (And.intro hA (And.intro hl (And.intro hh hT)))
  have d1 : decide (k < 1) = false := decide_eq_false (by omega)
  have d2 : decide (16 < k) = true := decide_eq_true (by omega)
  clear h
  clear hA hl hh hT
  go_enter Tryz.func7, Tryz.ntmps7
  go_wp2_with fail
  refine (awake10_c w HX.out.2.2.2).mono ?_
  rintro e w1 ⟨rfl, hb1⟩
  have HH := Lib.hid (rheavy7_c (c := c) (HX.out.1.below hb1 (Nat.le_refl _) (Nat.le_refl _)) HX.out.2.1 50 false HX.out.2.2.1)
  have HB := Lib.hid hb1
  clear hb1
  go_wp2_with (go_at_call 13; refine HH.out.mono ?_; rintro e w' ⟨rfl, rfl⟩)
  go_ret
  exact ⟨rfl, HB.out⟩

theorem rankOf_long {w : World} {A : Option Addr} {c : Nat} {l : List ActT} (k from' to : Int) (Ap : Option Addr) (np cp : Nat) (hT : Tz w) (hA : ActsT w w.heap.size A l) (hl : l.length ≤ maxLen) (hh : heavyA 50 l = false) (hk : 1 ≤ k ∧ k ≤ 16) (h : 40 < np) :
    Calls Tryz.prog 7 #[.int .i64 k, .slice A l.length c, .slice Ap np cp, .int .i64 from', .int .i64 to] w fun e w' => e = .returned (.bool true) ∧ Below w.heap.size w w' := by
  have HX := Lib.hid (And.intro hA (And.intro hl (And.intro hh hT)))
  have d1 : decide (k < 1) = false := decide_eq_false (by omega)
  have d2 : decide (16 < k) = false := decide_eq_false (by omega)
  have d3 : decide ((40 : Int) < (np : Int)) = true := decide_eq_true (by omega)
  have d3' : decide (40 < np) = true := decide_eq_true (by omega)
  clear h hk
  clear hA hl hh hT
  go_enter Tryz.func7, Tryz.ntmps7
  go_wp2_with fail
  refine (awake10_c w HX.out.2.2.2).mono ?_
  rintro e w1 ⟨rfl, hb1⟩
  have HH := Lib.hid (rheavy7_c (c := c) (HX.out.1.below hb1 (Nat.le_refl _) (Nat.le_refl _)) HX.out.2.1 50 false HX.out.2.2.1)
  have HB := Lib.hid hb1
  clear hb1
  go_wp2_with (go_at_call 13; refine HH.out.mono ?_; rintro e w' ⟨rfl, rfl⟩)
  go_ret
  exact ⟨rfl, HB.out⟩

set_option maxRecDepth 1000000 in
set_option maxHeartbeats 4000000 in
theorem rankOf_go {w : World} {A : Option Addr} {c : Nat} {l : List ActT} (k : Nat) (from' to : Int) {Ap : Option Addr} {p : List Nat} {cp : Nat} (hT : Tz w) (hA : ActsT w w.heap.size A l) (hl : l.length ≤ maxLen) (hh : heavyA 50 l = false) (h1 : 1 ≤ k) (h16 : k ≤ 16) (hp : Pts w w.heap.size Ap p) (hp40 : p.length ≤ 40) :
    Calls Tryz.prog 7 #[.int .i64 (k : Int), .slice A l.length c, .slice Ap p.length cp, .int .i64 from', .int .i64 to] w fun e w' => e = .returned (.bool true) ∧ Below w.heap.size w w' := by
  have hfew := heavyA_few hh
  have HX := Lib.hid (And.intro hA (And.intro hl (And.intro hh (And.intro hT hp))))
  have HK := Lib.hid (And.intro h1 (And.intro h16 hfew))
  obtain ⟨np, hnp⟩ : ∃ np, p.length = np := ⟨_, rfl⟩
  rw [hnp] at hp40 ⊢
  have HNP := Lib.hid hnp
  have d1 : decide ((k : Int) < 1) = false := decide_eq_false (by omega)
  have d2 : decide ((16 : Int) < (k : Int)) = false := decide_eq_false (by omega)
  have d2' : decide (16 < k) = false := decide_eq_false (by omega)
  have d3 : decide ((40 : Int) < (np : Int)) = false := decide_eq_false (by omega)
  have d3' : decide (40 < np) = false := decide_eq_false (by omega)
  have HP40 := Lib.hid hp40
  clear hA hl hh hT h1 h16 hfew hp hp40 hnp
  go_enter Tryz.func7, Tryz.ntmps7
  go_wp2_with fail
  refine (awake10_c w HX.out.2.2.2.1).mono ?_
  rintro e w0 ⟨rfl, hb0⟩
  have HH := Lib.hid (rheavy7_c (c := c) (HX.out.1.below hb0 (Nat.le_refl _) (Nat.le_refl _)) HX.out.2.1 50 false HX.out.2.2.1)
  have HG := Lib.hid (grown_c (c := c) HK.out.1 HK.out.2.1 (HX.out.1.below hb0 (Nat.le_refl _) (Nat.le_refl _)) hb0.size (by have := HK.out.2.2; omega))
  have HB0 := Lib.hid hb0
  clear hb0
  go_upto_region 8 with (first
    | (go_at_call 13; refine HH.out.mono ?_; rintro e w' ⟨rfl, rfl⟩)
    | (go_at_call 15; refine HG.out.mono ?_; rintro e w2 ⟨tb, o, D2, d2c, rfl, hd2, -, hb2⟩; have HD := Lib.hid hd2; have HB2 := Lib.hid (Below.andThen HB0.out hb2); clear hd2 hb2))
  have hlenE : (Tr.entsO o).length ≤ 50 := by have := HD.out.few; have := HK.out.2.2; omega
  have HE8 := Lib.hid (show (Tr.entsO o).length ≤ 100000000 by omega)
  have HT2 : Hid (∀ w', Below w2.heap.size w2 w' → Tz w') := Lib.hid fun w' hb => (HX.out.2.2.2.1.on HB2.out).on hb
  have hp2 : Pts w2 w2.heap.size Ap p := (HX.out.2.2.2.2.below' HB2.out (Nat.le_refl _)).keep HB2.out.size (fun _ _ => rfl)
  obtain ⟨x, hx⟩ : ∃ x, atI (Tr.entsO o) from' = x := ⟨_, rfl⟩
  obtain ⟨R, hR⟩ : ∃ R, rngE (Tr.entsO o) from' to = R := ⟨_, rfl⟩
  obtain ⟨N, hN⟩ : ∃ N, (Tr.entsO o).length = N := ⟨_, rfl⟩
  obtain ⟨M, hM⟩ : ∃ M, R.length = M := ⟨_, rfl⟩
  have HOf := kOf_any (c := cp) HD.out.tree HT2.out HE8.out hp2 (by have := HP40.out; have := HNP.out; unfold maxLen; omega)
  rw [HNP.out] at HOf
  have HOf := Lib.hid HOf
  have HNt := Lib.hid fun (w3 : World) (hb : Below w2.heap.size w2 w3) => kNth_any (HD.out.tree.below hb (Nat.le_refl _)) (fun w' hb' => HT2.out w' (hb.trans (hb'.mono hb.size))) HE8.out from' hx
  have HRg : Hid (∀ w3, Below w2.heap.size w2 w3 → Calls Tryz.prog 30 #[.pointer (some ⟨tb, 0, none⟩), .int .i64 from', .int .i64 to] w3 fun e w' => ∃ A c, e = .returned (.tuple #[.slice A M c, .int .i64 0]) ∧ NewR w3.heap.size w' A c R ∧ Below w3.heap.size w3 w') := Lib.hid fun w3 hb => by
    have := kRange_c (HD.out.tree.below hb (Nat.le_refl _)) (fun w' hb' => HT2.out w' (hb.trans (hb'.mono hb.size))) HE8.out from' to hR
    rw [hM] at this
    exact this
  have HR10 : Hid (∀ w3, Below w2.heap.size w2 w3 → Calls Tryz.prog 31 #[.slice D2 N d2c, .int .i64 from', .int .i64 to] w3 fun e w' => ∃ A' c', e = .returned (.slice A' M c') ∧ OwnE w' w3.heap.size w3.heap.size (.slice A' R.length c') R ∧ Below w3.heap.size w3 w') := Lib.hid fun w3 hb => by
    have := r10range_c (c := d2c) (HD.out.ents hb) (Nat.le_refl _) (by omega) from' to hR
    rw [hM, hN] at this
    rw [hM]
    exact this
  have hRN : R.length ≤ N := by rw [← hR, ← hN]; exact rng_le _ _ _
  have HN := Lib.hid (And.intro hN (And.intro hM (And.intro hx hR)))
  rw [hN] at hlenE ⊢
  obtain ⟨bx, hbx⟩ : ∃ bx, x.isSome = bx := ⟨_, rfl⟩
  rw [hbx] at HNt
  have HBX := Lib.hid hbx
  have HRN := Lib.hid hRN
  clear hN hM HH HG hp2 hx hR hbx hRN
  go_upto_region 10 with (first
    | (go_at_call 28; refine HOf.out.mono ?_; rintro e w3 ⟨r, ec, rfl, htold, hb3⟩; have H3 := Lib.hid (And.intro htold hb3); clear htold hb3)
    | (go_at_call 29; refine (HNt.out _ H3.out.2).mono ?_; rintro e w4 ⟨P, n, dd, v, rfl, hrd, hb4⟩; have H4 := Lib.hid (And.intro hrd (H3.out.2.trans (hb4.mono H3.out.2.size))); clear hrd hb4))
  have hblk : (w4.alloc (.cells #[.slice P n dd, .int .u64 (v : Int)] 54)).heap[w4.heap.size]? = some (.cells #[.slice P n dd, .int .u64 (v : Int)] 54 (0, 0)) := heap_at w4 _ _ rfl
  have hb5 : Below w2.heap.size w2 (w4.alloc (.cells #[.slice P n dd, .int .u64 (v : Int)] 54)) := Below.andThen H4.out.2 (below_alloc _ _)
  have hrd5 : RdX (w4.alloc (.cells #[.slice P n dd, .int .u64 (v : Int)] 54)) x P n v := H4.out.1.below (below_alloc _ _)
  generalize w4.alloc (.cells #[.slice P n dd, .int .u64 (v : Int)] 54) = W5 at *
  generalize w4.heap.size = X at *
  have H5 := Lib.hid (And.intro hblk (And.intro hb5 hrd5))
  clear hblk hb5 hrd5 H4 HOf HNt
  go_upto_region 13 with (first
    | (go_at_call 30; refine (HRg.out _ H5.out.2.1).mono ?_; rintro e w6 ⟨A6, c6, rfl, hE6, hb6⟩; have H6 := Lib.hid (And.intro hE6 (And.intro hb6 (H5.out.2.1.trans (hb6.mono H5.out.2.1.size)))); clear hE6 hb6)
    | (go_at_call 31; refine (HR10.out _ H6.out.2.2).mono ?_; rintro e w7 ⟨A7, c7, rfl, hE7, hb7⟩; have H7 := Lib.hid (And.intro hE7 hb7); clear hE7 hb7)
    | (go_at_call 21; refine (rangeSame HN.out.2.1 H6.out.1 H7.out.1 H7.out.2 (by have := HRN.out; have := HN.out.2.1; omega) (Nat.le_refl _)).mono ?_; rintro e w8 ⟨rfl, hb8⟩; have H8 := Lib.hid (Below.andThen H6.out.2.1 (Below.andThen H7.out.2 hb8)); clear hb8))
  have hbb := Below.refl w8.heap.size w8
  have m0 : ∀ w', Below w8.heap.size w8 w' → w'.cell? ⟨X, 0, none⟩ = some (.slice P n dd) := fun w' hb => by
    have h := ((Below.andThen H8.out hb).block X (Array.getElem?_eq_some_iff.1 H5.out.1).1).trans H5.out.1
    rw [cell_of_row w' X _ _ _ (0, 0) h]; rfl
  have m1 : ∀ w', Below w8.heap.size w8 w' → w'.cell? ⟨X, 1, none⟩ = some (.int .u64 (v : Int)) := fun w' hb => by
    have h := ((Below.andThen H8.out hb).block X (Array.getElem?_eq_some_iff.1 H5.out.1).1).trans H5.out.1
    rw [cell_of_row w' X _ _ _ (0, 0) h]; rfl
  have H28 := Lib.hid (Below.andThen H5.out.2.1 H8.out)
  have HFr : Hid (∀ w9, Below w8.heap.size w8 w9 → ∀ F1 F2, p.length = k → Tr.entsO o = F1 ++ F2 → Ahead p F1 → Past p F2 → Calls Tryz.prog 32 #[.slice D2 N d2c, .slice Ap np cp] w9 fun e w' => e = .returned (.int .i64 (F1.length : Int)) ∧ w9 = w') := Lib.hid fun w9 hb F1 F2 hk h1 h2 h3 => by
    have hbw := Below.andThen H28.out hb
    have hdim : Tr.Dim k (Tr.entsO o) := by
      cases ho : o with
      | none => intro e he; cases he
      | some t => exact (HD.out.tree.1.2.2.2.2 t ho).1.dim
    have := rfrom8_c (c := d2c) (c' := cp) hdim (HD.out.ents hbw) (((HX.out.2.2.2.2.below' (Below.andThen HB2.out hbw) (Nat.le_refl _))).keep (Below.andThen HB2.out hbw).size (fun _ _ => rfl)) hk HK.out.1 HK.out.2.1 (by rw [HN.out.1]; omega) h1 h2 h3
    rw [HN.out.1, HNP.out] at this
    exact this
  have HBe := Lib.hid (Below.andThen HB2.out H28.out)
  cases x with
  | none =>
    obtain rfl : bx = false := HBX.out.symm
    obtain ⟨rfl, rfl⟩ : n = 0 ∧ v = 0 := H5.out.2.2
    by_cases hf0 : 0 ≤ from'
    · have f1 : decide ((0 : Int) ≤ from') = true := decide_eq_true hf0
      have f2 : decide (from' < (N : Int)) = false := decide_eq_false (by
        have h := HN.out.2.2.1
        unfold atI at h
        rw [if_pos hf0, List.getElem?_eq_none_iff, HN.out.1] at h
        omega)
      clear hf0
      go_wp2_with fail
      go_quiet (fail)
      clear m0 m1
      rcases H3.out.1 with ⟨hk, rfl, F1, F2, hE, ha, hps, hr⟩ | ⟨hk, rfl, rfl⟩
      · have g1 : ((np : Int) != (k : Int)) = false := by rw [bne_eq_false_iff_eq]; have := HNP.out; omega
        have g2 : ((r : Int) == (r : Int)) = true := by simp
        have HF := Lib.hid (HFr.out _ (below_drewN nq (Below.refl w8.heap.size w8)) F1 F2 hk hE ha hps)
        rw [← hr] at HF
        clear hk hE ha hps hr
        go_wp2_with (go_at_call 32; refine HF.out.mono ?_; rintro e w' ⟨rfl, rfl⟩)
        go_ret
        exact ⟨rfl, Below.andThen HBe.out (below_drewN nq (Below.refl w8.heap.size w8))⟩
      · have g1 : ((np : Int) != (k : Int)) = true := by rw [bne_iff_ne]; have := HNP.out; omega
        clear hk
        go_wp2_with fail
        go_ret
        exact ⟨rfl, Below.andThen HBe.out (below_drewN nq (Below.refl w8.heap.size w8))⟩
    · have f1 : decide ((0 : Int) ≤ from') = false := decide_eq_false hf0
      clear hf0
      go_wp2_with fail
      go_quiet (fail)
      clear m0 m1
      rcases H3.out.1 with ⟨hk, rfl, F1, F2, hE, ha, hps, hr⟩ | ⟨hk, rfl, rfl⟩
      · have g1 : ((np : Int) != (k : Int)) = false := by rw [bne_eq_false_iff_eq]; have := HNP.out; omega
        have g2 : ((r : Int) == (r : Int)) = true := by simp
        have HF := Lib.hid (HFr.out _ (below_drewN nq (Below.refl w8.heap.size w8)) F1 F2 hk hE ha hps)
        rw [← hr] at HF
        clear hk hE ha hps hr
        go_wp2_with (go_at_call 32; refine HF.out.mono ?_; rintro e w' ⟨rfl, rfl⟩)
        go_ret
        exact ⟨rfl, Below.andThen HBe.out (below_drewN nq (Below.refl w8.heap.size w8))⟩
      · have g1 : ((np : Int) != (k : Int)) = true := by rw [bne_iff_ne]; have := HNP.out; omega
        clear hk
        go_wp2_with fail
        go_ret
        exact ⟨rfl, Below.andThen HBe.out (below_drewN nq (Below.refl w8.heap.size w8))⟩
  | some y =>
    obtain rfl : bx = true := HBX.out.symm
    obtain ⟨rfl, rfl, hpy⟩ : n = y.1.length ∧ v = y.2 ∧ Pts W5 W5.heap.size P y.1 := H5.out.2.2
    obtain ⟨j, rfl, hj⟩ : ∃ j : Nat, from' = (j : Int) ∧ (Tr.entsO o)[j]? = some y := by
      have h := HN.out.2.2.1
      unfold atI at h
      split at h
      · exact ⟨from'.toNat, by omega, h⟩
      · cases h
    have hjN : j < N := by rw [← HN.out.1]; exact (List.getElem?_eq_some_iff.1 hj).1
    obtain ⟨gb, go, Ay, cy, hD2, hgb, y0, y1, py, hly, hvy⟩ := (HD.out.ents (Below.refl _ _)).at hj
    subst hD2
    have f1 : decide ((0 : Int) ≤ (j : Int)) = true := decide_eq_true (by omega)
    have f2 : decide ((j : Int) < (N : Int)) = true := decide_eq_true (by omega)
    have f2' : decide (j < N) = true := decide_eq_true hjN
    have e1 : IntKind.i64.wrap ((j : Int) + 1) = (j : Int) + 1 := IntWalk.i64_in _ (by omega)
    have hcap : N ≤ d2c := by rw [← HN.out.1]; exact HD.out.cap
    have hsl : ∀ w, (Instr.sliceAt 30 (.slice (some ⟨gb, go, none⟩) N d2c) (some (.int .i64 (j : Int))) (some (.int .i64 ((j : Int) + 1))) none).run Tryz.prog w = .ok (.slice (some ⟨gb, go + j * 2, none⟩) 1 (d2c - j)) w := fun w => by
      have h1 := slice_lh w gb go N d2c j (j + 1) (by omega) (by omega) hcap
      rw [show j + 1 - j = 1 by omega, show ((j + 1 : Nat) : Int) = (j : Int) + 1 by omega] at h1
      exact h1
    have HY := Lib.hid (And.intro hpy (And.intro hj (And.intro hly hvy)))
    have hj50 : (j : Int) ≤ 50 := by omega
    have hbA : Below w8.heap.size w8 (w8.alloc (.cells #[.slice P y.1.length dd, .int .u64 (y.2 : Int)] 54)).drew := (below_alloc w8 _).drew
    have hbW : Below W5.heap.size W5 (w8.alloc (.cells #[.slice P y.1.length dd, .int .u64 (y.2 : Int)] 54)).drew := Below.andThen H8.out hbA
    have hE1 : Ents (w8.alloc (.cells #[.slice P y.1.length dd, .int .u64 (y.2 : Int)] 54)).drew (w8.alloc (.cells #[.slice P y.1.length dd, .int .u64 (y.2 : Int)] 54)).drew.heap.size (some ⟨w8.heap.size, 0, none⟩) [y] := ents_single (show (w8.alloc (.cells #[.slice P y.1.length dd, .int .u64 (y.2 : Int)] 54)).heap[w8.heap.size]? = some (.cells #[.slice P y.1.length dd, .int .u64 (y.2 : Int)] 54 (0, 0)) from heap_at w8 _ _ rfl) ((hpy.below' hbW (Nat.le_refl _)).keep hbW.size (fun _ _ => rfl)) hly hvy
    have hE2 := ents_sub (HD.out.ents (Below.andThen H28.out hbA)) hj
    have HSm : Hid (Calls Tryz.prog 21 #[.slice (some ⟨w8.heap.size, 0, none⟩) 1 1, .slice (some ⟨gb, go + j * 2, none⟩) 1 (d2c - j)] (w8.alloc (.cells #[.slice P y.1.length dd, .int .u64 (y.2 : Int)] 54)).drew fun e w' => e = .returned (.bool true) ∧ Below (w8.alloc (.cells #[.slice P y.1.length dd, .int .u64 (y.2 : Int)] 54)).drew.heap.size (w8.alloc (.cells #[.slice P y.1.length dd, .int .u64 (y.2 : Int)] 54)).drew w') := Lib.hid (rsameEnts_c (L := [y]) (c := 1) (c' := d2c - j) hE1 hE2 (by simp))
    clear hbA hbW hE1 hE2
    clear hpy hj y0 y1 py hly hvy hgb hcap hjN hlenE
    go_wp2_with fail
    refine wp_region_held_drew (S := fun w' => Below w8.heap.size w8 w') (by kernel_rfl) hbb.drew (fun hHeld => ?_)
    apply wpAnyH_take (i := 0)
    case hi => simp only [List.getElem?_toArray, List.getElem?_cons_zero]; rfl
    case hs => kernel_rfl
    case hf => kernel_rfl
    case hr => kernel_rfl
    case hQ => exact fun _ _ _ h => h
    case hS => assumption
    case hy =>
      refine Or.inl ⟨by rfl, ?_⟩
      intro w hSw
      try dsimp only at hSw
      have m0 := m0 w hSw
      have m1 := m1 w hSw
      go_simp
      try with_reducible rfl
    simp only [Act.put, List.setIfInBounds_toArray, List.set_cons_zero, List.set_cons_succ]
    apply wpAnyH_take (i := 1)
    case hi => simp only [List.getElem?_toArray, List.getElem?_cons_succ, List.getElem?_cons_zero]; rfl
    case hs => kernel_rfl
    case hf => kernel_rfl
    case hr => kernel_rfl
    case hQ => exact fun _ _ _ h => h
    case hS => assumption
    case hy =>
      refine Or.inl ⟨by rfl, ?_⟩
      intro w hSw
      try dsimp only at hSw
      have m0 := m0 w hSw
      have m1 := m1 w hSw
      go_simp
      try with_reducible rfl
    simp only [Act.put, List.setIfInBounds_toArray, List.set_cons_zero, List.set_cons_succ]
    apply wpAnyH_take (i := 2)
    case hi => simp only [List.getElem?_toArray, List.getElem?_cons_succ, List.getElem?_cons_zero]; rfl
    case hs => kernel_rfl
    case hf => kernel_rfl
    case hr => kernel_rfl
    case hQ => exact fun _ _ _ h => h
    case hS => assumption
    case hy =>
      refine Or.inl ⟨by rfl, ?_⟩
      intro w hSw
      try dsimp only at hSw
      have m0 := m0 w hSw
      have m1 := m1 w hSw
      go_simp
      try with_reducible rfl
    simp only [Act.put, List.setIfInBounds_toArray, List.set_cons_zero, List.set_cons_succ]
    apply wpAnyH_take (i := 3)
    case hi => simp only [List.getElem?_toArray, List.getElem?_cons_succ, List.getElem?_cons_zero]; rfl
    case hs => kernel_rfl
    case hf => kernel_rfl
    case hr => kernel_rfl
    case hQ => exact fun _ _ _ h => h
    case hS => assumption
    case hy =>
      refine Or.inl ⟨by rfl, ?_⟩
      intro w hSw
      try dsimp only at hSw
      have m0 := m0 w hSw
      have m1 := m1 w hSw
      go_simp
      try with_reducible rfl
    simp only [Act.put, List.setIfInBounds_toArray, List.set_cons_zero, List.set_cons_succ]
    apply wpAnyH_take (i := 4)
    case hi => simp only [List.getElem?_toArray, List.getElem?_cons_succ, List.getElem?_cons_zero]; rfl
    case hs => kernel_rfl
    case hf => kernel_rfl
    case hr => kernel_rfl
    case hQ => exact fun _ _ _ h => h
    case hS => assumption
    case hy =>
      refine Or.inl ⟨by rfl, ?_⟩
      intro w hSw
      try dsimp only at hSw
      have m0 := m0 w hSw
      have m1 := m1 w hSw
      go_simp
      try with_reducible rfl
    simp only [Act.put, List.setIfInBounds_toArray, List.set_cons_zero, List.set_cons_succ]
    apply wpAnyH_take (i := 5)
    case hi => simp only [List.getElem?_toArray, List.getElem?_cons_succ, List.getElem?_cons_zero]; rfl
    case hs => kernel_rfl
    case hf => kernel_rfl
    case hr => kernel_rfl
    case hQ => exact fun _ _ _ h => h
    case hS => assumption
    case hy =>
      refine Or.inl ⟨by rfl, ?_⟩
      intro w hSw
      try dsimp only at hSw
      have m0 := m0 w hSw
      have m1 := m1 w hSw
      go_simp
      try with_reducible rfl
    simp only [Act.put, List.setIfInBounds_toArray, List.set_cons_zero, List.set_cons_succ]
    apply wpAnyH_take (i := 6)
    case hi => simp only [List.getElem?_toArray, List.getElem?_cons_succ, List.getElem?_cons_zero]; rfl
    case hs => kernel_rfl
    case hf => kernel_rfl
    case hr => kernel_rfl
    case hQ => exact fun _ _ _ h => h
    case hS => assumption
    case hy =>
      refine Or.inl ⟨by rfl, ?_⟩
      intro w hSw
      try dsimp only at hSw
      have m0 := m0 w hSw
      have m1 := m1 w hSw
      go_simp
      try with_reducible rfl
    simp only [Act.put, List.setIfInBounds_toArray, List.set_cons_zero, List.set_cons_succ]
    apply wpAnyH_take (i := 7)
    case hi => simp only [List.getElem?_toArray, List.getElem?_cons_succ, List.getElem?_cons_zero]; rfl
    case hs => kernel_rfl
    case hf => kernel_rfl
    case hr => kernel_rfl
    case hQ => exact fun _ _ _ h => h
    case hS => assumption
    case hy =>
      refine Or.inl ⟨by rfl, ?_⟩
      intro w hSw
      try dsimp only at hSw
      have m0 := m0 w hSw
      have m1 := m1 w hSw
      go_simp
      try with_reducible rfl
    simp only [Act.put, List.setIfInBounds_toArray, List.set_cons_zero, List.set_cons_succ]
    apply wpAnyH_take (i := 8)
    case hi => simp only [List.getElem?_toArray, List.getElem?_cons_succ, List.getElem?_cons_zero]; rfl
    case hs => kernel_rfl
    case hf => kernel_rfl
    case hr => kernel_rfl
    case hQ => exact fun _ _ _ h => h
    case hS => assumption
    case hy =>
      refine Or.inl ⟨by rfl, ?_⟩
      intro w hSw
      try dsimp only at hSw
      have m0 := m0 w hSw
      have m1 := m1 w hSw
      go_simp
      try with_reducible rfl
    simp only [Act.put, List.setIfInBounds_toArray, List.set_cons_zero, List.set_cons_succ]
    apply wpAnyH_take (i := 9)
    case hi => simp only [List.getElem?_toArray, List.getElem?_cons_succ, List.getElem?_cons_zero]; rfl
    case hs => kernel_rfl
    case hf => kernel_rfl
    case hr => kernel_rfl
    case hQ => exact fun _ _ _ h => h
    case hS => assumption
    case hy =>
      refine Or.inl ⟨by rfl, ?_⟩
      intro w hSw
      try dsimp only at hSw
      have m0 := m0 w hSw
      have m1 := m1 w hSw
      go_simp
      try with_reducible rfl
    simp only [Act.put, List.setIfInBounds_toArray, List.set_cons_zero, List.set_cons_succ]
    apply wpAnyH_take (i := 10)
    case hi => simp only [List.getElem?_toArray, List.getElem?_cons_succ, List.getElem?_cons_zero]; rfl
    case hs => kernel_rfl
    case hf => kernel_rfl
    case hr => kernel_rfl
    case hQ => exact fun _ _ _ h => h
    case hS => assumption
    case hy =>
      refine Or.inl ⟨by rfl, ?_⟩
      intro w hSw
      try dsimp only at hSw
      have m0 := m0 w hSw
      have m1 := m1 w hSw
      go_simp
      try with_reducible rfl
    simp only [Act.put, List.setIfInBounds_toArray, List.set_cons_zero, List.set_cons_succ]
    apply wpAnyH_take (i := 11)
    case hi => simp only [List.getElem?_toArray, List.getElem?_cons_succ, List.getElem?_cons_zero]; rfl
    case hs => kernel_rfl
    case hf => kernel_rfl
    case hr => kernel_rfl
    case hQ => exact fun _ _ _ h => h
    case hS => assumption
    case hy =>
      refine Or.inl ⟨by rfl, ?_⟩
      intro w hSw
      try dsimp only at hSw
      have m0 := m0 w hSw
      have m1 := m1 w hSw
      go_simp
      try with_reducible rfl
    simp only [Act.put, List.setIfInBounds_toArray, List.set_cons_zero, List.set_cons_succ]
    apply wpAnyH_take (i := 12)
    case hi => simp only [List.getElem?_toArray, List.getElem?_cons_succ, List.getElem?_cons_zero]; rfl
    case hs => kernel_rfl
    case hf => kernel_rfl
    case hr => kernel_rfl
    case hQ => exact fun _ _ _ h => h
    case hS => assumption
    case hy =>
      refine Or.inl ⟨by rfl, ?_⟩
      intro w hSw
      try dsimp only at hSw
      have m0 := m0 w hSw
      have m1 := m1 w hSw
      go_simp
      try with_reducible rfl
    simp only [Act.put, List.setIfInBounds_toArray, List.set_cons_zero, List.set_cons_succ]
    apply wpAnyH_take (i := 13)
    case hi => simp only [List.getElem?_toArray, List.getElem?_cons_succ, List.getElem?_cons_zero]; rfl
    case hs => kernel_rfl
    case hf => kernel_rfl
    case hr => kernel_rfl
    case hQ => exact fun _ _ _ h => h
    case hS => assumption
    case hy =>
      refine Or.inl ⟨by rfl, ?_⟩
      intro w hSw
      try dsimp only at hSw
      have m0 := m0 w hSw
      have m1 := m1 w hSw
      go_simp
      try with_reducible rfl
    simp only [Act.put, List.setIfInBounds_toArray, List.set_cons_zero, List.set_cons_succ]
    apply wpAnyH_take (i := 14)
    case hi => simp only [List.getElem?_toArray, List.getElem?_cons_succ, List.getElem?_cons_zero]; rfl
    case hs => kernel_rfl
    case hf => kernel_rfl
    case hr => kernel_rfl
    case hQ => exact fun _ _ _ h => h
    case hS => assumption
    case hy => exact Or.inr ⟨by rfl, rfl⟩
    simp only [Act.put, List.setIfInBounds_toArray, List.set_cons_zero, List.set_cons_succ]
    apply wpAnyH_take (i := 15)
    case hi => simp only [List.getElem?_toArray, List.getElem?_cons_succ, List.getElem?_cons_zero]; rfl
    case hs => kernel_rfl
    case hf => kernel_rfl
    case hr => kernel_rfl
    case hQ => exact fun _ _ _ h => h
    case hS => assumption
    case hy => exact Or.inr ⟨by rfl, rfl⟩
    simp only [Act.put, List.setIfInBounds_toArray, List.set_cons_zero, List.set_cons_succ]
    apply wpAnyH_take (i := 16)
    case hi => simp only [List.getElem?_toArray, List.getElem?_cons_succ, List.getElem?_cons_zero]; rfl
    case hs => kernel_rfl
    case hf => kernel_rfl
    case hr => kernel_rfl
    case hQ => exact fun _ _ _ h => h
    case hS => assumption
    case hy => exact Or.inr ⟨by rfl, rfl⟩
    simp only [Act.put, List.setIfInBounds_toArray, List.set_cons_zero, List.set_cons_succ]
    apply wpAnyH_take (i := 17)
    case hi => simp only [List.getElem?_toArray, List.getElem?_cons_succ, List.getElem?_cons_zero]; rfl
    case hs => kernel_rfl
    case hf => kernel_rfl
    case hr => kernel_rfl
    case hQ => exact fun _ _ _ h => h
    case hS => assumption
    case hy => exact Or.inr ⟨by rfl, rfl⟩
    simp only [Act.put, List.setIfInBounds_toArray, List.set_cons_zero, List.set_cons_succ]
    apply wpAnyH_take (i := 18)
    case hi => simp only [List.getElem?_toArray, List.getElem?_cons_succ, List.getElem?_cons_zero]; rfl
    case hs => kernel_rfl
    case hf => kernel_rfl
    case hr => kernel_rfl
    case hQ => exact fun _ _ _ h => h
    case hS => assumption
    case hy => exact Or.inr ⟨by rfl, rfl⟩
    simp only [Act.put, List.setIfInBounds_toArray, List.set_cons_zero, List.set_cons_succ]
    apply wpAnyH_take (i := 19)
    case hi => simp only [List.getElem?_toArray, List.getElem?_cons_succ, List.getElem?_cons_zero]; rfl
    case hs => kernel_rfl
    case hf => kernel_rfl
    case hr => kernel_rfl
    case hQ => exact fun _ _ _ h => h
    case hS => assumption
    case hy => exact Or.inr ⟨by rfl, rfl⟩
    simp only [Act.put, List.setIfInBounds_toArray, List.set_cons_zero, List.set_cons_succ]
    apply wpAnyH_take (i := 20)
    case hi => simp only [List.getElem?_toArray, List.getElem?_cons_succ, List.getElem?_cons_zero]; rfl
    case hs => kernel_rfl
    case hf => kernel_rfl
    case hr => kernel_rfl
    case hQ => exact fun _ _ _ h => h
    case hS => assumption
    case hy => exact Or.inr ⟨by rfl, rfl⟩
    simp only [Act.put, List.setIfInBounds_toArray, List.set_cons_zero, List.set_cons_succ]
    apply wpAnyH_take (i := 21)
    case hi => simp only [List.getElem?_toArray, List.getElem?_cons_succ, List.getElem?_cons_zero]; rfl
    case hs => kernel_rfl
    case hf => kernel_rfl
    case hr => kernel_rfl
    case hQ => exact fun _ _ _ h => h
    case hS => assumption
    case hy => exact Or.inr ⟨by rfl, rfl⟩
    simp only [Act.put, List.setIfInBounds_toArray, List.set_cons_zero, List.set_cons_succ]
    apply wpAnyH_take (i := 22)
    case hi => simp only [List.getElem?_toArray, List.getElem?_cons_succ, List.getElem?_cons_zero]; rfl
    case hs => kernel_rfl
    case hf => kernel_rfl
    case hr => kernel_rfl
    case hQ => exact fun _ _ _ h => h
    case hS => assumption
    case hy => exact Or.inr ⟨by rfl, rfl⟩
    simp only [Act.put, List.setIfInBounds_toArray, List.set_cons_zero, List.set_cons_succ]
    apply wpAnyH_take (i := 23)
    case hi => simp only [List.getElem?_toArray, List.getElem?_cons_succ, List.getElem?_cons_zero]; rfl
    case hs => kernel_rfl
    case hf => kernel_rfl
    case hr => kernel_rfl
    case hQ => exact fun _ _ _ h => h
    case hS => assumption
    case hy =>
      refine Or.inl ⟨by rfl, ?_⟩
      intro w hSw
      try dsimp only at hSw
      have m0 := m0 w hSw
      have m1 := m1 w hSw
      go_simp
      try with_reducible rfl
    simp only [Act.put, List.setIfInBounds_toArray, List.set_cons_zero, List.set_cons_succ]
    apply wpAnyH_take (i := 24)
    case hi => simp only [List.getElem?_toArray, List.getElem?_cons_succ, List.getElem?_cons_zero]; rfl
    case hs => kernel_rfl
    case hf => kernel_rfl
    case hr => kernel_rfl
    case hQ => exact fun _ _ _ h => h
    case hS => assumption
    case hy =>
      refine Or.inl ⟨by rfl, ?_⟩
      intro w hSw
      try dsimp only at hSw
      have m0 := m0 w hSw
      have m1 := m1 w hSw
      go_simp
      try with_reducible rfl
    simp only [Act.put, List.setIfInBounds_toArray, List.set_cons_zero, List.set_cons_succ]
    apply wpAnyH_take (i := 25)
    case hi => simp only [List.getElem?_toArray, List.getElem?_cons_succ, List.getElem?_cons_zero]; rfl
    case hs => kernel_rfl
    case hf => kernel_rfl
    case hr => kernel_rfl
    case hQ => exact fun _ _ _ h => h
    case hS => assumption
    case hy =>
      refine Or.inl ⟨by rfl, ?_⟩
      intro w hSw
      try dsimp only at hSw
      have m0 := m0 w hSw
      have m1 := m1 w hSw
      go_simp
      try with_reducible rfl
    simp only [Act.put, List.setIfInBounds_toArray, List.set_cons_zero, List.set_cons_succ]
    apply wpAnyH_take (i := 26)
    case hi => simp only [List.getElem?_toArray, List.getElem?_cons_succ, List.getElem?_cons_zero]; rfl
    case hs => kernel_rfl
    case hf => kernel_rfl
    case hr => kernel_rfl
    case hQ => exact fun _ _ _ h => h
    case hS => assumption
    case hy =>
      refine Or.inl ⟨by rfl, ?_⟩
      intro w hSw
      try dsimp only at hSw
      have m0 := m0 w hSw
      have m1 := m1 w hSw
      go_simp
      try with_reducible rfl
    simp only [Act.put, List.setIfInBounds_toArray, List.set_cons_zero, List.set_cons_succ]
    apply wpAnyH_take (i := 27)
    case hi => simp only [List.getElem?_toArray, List.getElem?_cons_succ, List.getElem?_cons_zero]; rfl
    case hs => kernel_rfl
    case hf => kernel_rfl
    case hr => kernel_rfl
    case hQ => exact fun _ _ _ h => h
    case hS => assumption
    case hy =>
      refine Or.inl ⟨by rfl, ?_⟩
      intro w hSw
      try dsimp only at hSw
      have m0 := m0 w hSw
      have m1 := m1 w hSw
      go_simp
      try with_reducible rfl
    simp only [Act.put, List.setIfInBounds_toArray, List.set_cons_zero, List.set_cons_succ]
    apply wpAnyH_take (i := 28)
    case hi => simp only [List.getElem?_toArray, List.getElem?_cons_succ, List.getElem?_cons_zero]; rfl
    case hs => kernel_rfl
    case hf => kernel_rfl
    case hr => kernel_rfl
    case hQ => exact fun _ _ _ h => h
    case hS => assumption
    case hy =>
      refine Or.inl ⟨by rfl, ?_⟩
      intro w hSw
      try dsimp only at hSw
      have m0 := m0 w hSw
      have m1 := m1 w hSw
      go_simp
      try with_reducible rfl
    simp only [Act.put, List.setIfInBounds_toArray, List.set_cons_zero, List.set_cons_succ]
    apply wpAnyH_take (i := 30)
    case hi => simp only [List.getElem?_toArray, List.getElem?_cons_succ, List.getElem?_cons_zero]; rfl
    case hs => kernel_rfl
    case hf => kernel_rfl
    case hr => kernel_rfl
    case hQ => exact fun _ _ _ h => h
    case hS => assumption
    case hy =>
      refine Or.inl ⟨by rfl, ?_⟩
      intro w hSw
      try dsimp only at hSw
      have m0 := m0 w hSw
      have m1 := m1 w hSw
      go_simp
      try with_reducible rfl
    simp only [Act.put, List.setIfInBounds_toArray, List.set_cons_zero, List.set_cons_succ]
    apply wpAnyH_take (i := 31)
    case hi => simp only [List.getElem?_toArray, List.getElem?_cons_succ, List.getElem?_cons_zero]; rfl
    case hs => kernel_rfl
    case hf => kernel_rfl
    case hr => kernel_rfl
    case hQ => exact fun _ _ _ h => h
    case hS => assumption
    case hy =>
      refine Or.inl ⟨by rfl, ?_⟩
      intro w hSw
      try dsimp only at hSw
      have m0 := m0 w hSw
      have m1 := m1 w hSw
      go_simp
      try with_reducible rfl
    simp only [Act.put, List.setIfInBounds_toArray, List.set_cons_zero, List.set_cons_succ]
    apply wpAnyH_take (i := 32)
    case hi => simp only [List.getElem?_toArray, List.getElem?_cons_succ, List.getElem?_cons_zero]; rfl
    case hs => kernel_rfl
    case hf => kernel_rfl
    case hr => kernel_rfl
    case hQ => exact fun _ _ _ h => h
    case hS => assumption
    case hy =>
      refine Or.inl ⟨by rfl, ?_⟩
      intro w hSw
      try dsimp only at hSw
      have m0 := m0 w hSw
      have m1 := m1 w hSw
      go_simp
      try with_reducible rfl
    simp only [Act.put, List.setIfInBounds_toArray, List.set_cons_zero, List.set_cons_succ]
    apply wpAnyH_take (i := 33)
    case hi => simp only [List.getElem?_toArray, List.getElem?_cons_succ, List.getElem?_cons_zero]; rfl
    case hs => kernel_rfl
    case hf => kernel_rfl
    case hr => kernel_rfl
    case hQ => exact fun _ _ _ h => h
    case hS => assumption
    case hy =>
      refine Or.inl ⟨by rfl, ?_⟩
      intro w hSw
      try dsimp only at hSw
      have m0 := m0 w hSw
      have m1 := m1 w hSw
      go_simp
      try with_reducible rfl
    simp only [Act.put, List.setIfInBounds_toArray, List.set_cons_zero, List.set_cons_succ]
    apply wpAnyH_take (i := 34)
    case hi => simp only [List.getElem?_toArray, List.getElem?_cons_succ, List.getElem?_cons_zero]; rfl
    case hs => kernel_rfl
    case hf => kernel_rfl
    case hr => kernel_rfl
    case hQ => exact fun _ _ _ h => h
    case hS => assumption
    case hy =>
      refine Or.inl ⟨by rfl, ?_⟩
      intro w hSw
      try dsimp only at hSw
      have m0 := m0 w hSw
      have m1 := m1 w hSw
      go_simp
      try with_reducible rfl
    simp only [Act.put, List.setIfInBounds_toArray, List.set_cons_zero, List.set_cons_succ]
    refine wpAnyH_ready (rs := [29]) (by kernel_rfl) (by simp) ?_
    apply AllReadyH.cons
    case ho => simp only [List.getElem?_toArray, List.getElem?_cons_succ, List.getElem?_cons_zero]; rfl
    case hs => exact AllReadyH.nil
    intro K hK
    go_simp
    refine hK.out _ _ (show Below w8.heap.size w8 _ by ((repeat (first | refine Below.drew ?_ | (with_reducible refine below_drewN _ ?_) | refine Below.alloc ?_ (by first | omega | (simp; done) | (simp; omega)) _ | refine Below.setCell ?_ (by first | omega | (simp; done) | (simp; omega)) _)); first | exact Below.refl _ _ | assumption | exact below_drewN _ (Below.refl _ _) | exact below_drewN _ (below_drewN _ (Below.refl _ _)))) (fun hHeld => ?_)
    clear hK K
    refine wpAnyH_ready (rs := [35]) (by kernel_rfl) (by simp) ?_
    apply AllReadyH.cons
    case ho => simp only [List.getElem?_toArray, List.getElem?_cons_succ, List.getElem?_cons_zero]; rfl
    case hs => exact AllReadyH.nil
    intro K hK
    go_simp
    refine (HSm.out).mono ?_
    rintro e w9 ⟨rfl, hb9⟩
    have hBD := Below.trans (show Below w8.heap.size w8 _ by ((repeat (first | refine Below.drew ?_ | (with_reducible refine below_drewN _ ?_) | refine Below.alloc ?_ (by first | omega | (simp; done) | (simp; omega)) _ | refine Below.setCell ?_ (by first | omega | (simp; done) | (simp; omega)) _)); first | exact Below.refl _ _ | assumption | exact below_drewN _ (Below.refl _ _) | exact below_drewN _ (below_drewN _ (Below.refl _ _)))) (hb9.mono (Below.size (show Below w8.heap.size w8 _ by ((repeat (first | refine Below.drew ?_ | (with_reducible refine below_drewN _ ?_) | refine Below.alloc ?_ (by first | omega | (simp; done) | (simp; omega)) _ | refine Below.setCell ?_ (by first | omega | (simp; done) | (simp; omega)) _)); first | exact Below.refl _ _ | assumption | exact below_drewN _ (Below.refl _ _) | exact below_drewN _ (below_drewN _ (Below.refl _ _))))))
    clear hb9
    go_wp2_with fail
    refine hK.out _ _ hBD (fun hHeld => ?_)
    clear hK K
    apply wpAnyH_take (i := 36)
    case hi => simp only [List.getElem?_toArray, List.getElem?_cons_succ, List.getElem?_cons_zero]; rfl
    case hs => kernel_rfl
    case hf => kernel_rfl
    case hr => kernel_rfl
    case hQ => exact fun _ _ _ h => h
    case hS => assumption
    case hy =>
      refine Or.inl ⟨by rfl, ?_⟩
      intro w hSw
      try dsimp only at hSw
      have m0 := m0 w hSw
      have m1 := m1 w hSw
      go_simp
      try with_reducible rfl
    simp only [Act.put, List.setIfInBounds_toArray, List.set_cons_zero, List.set_cons_succ]
    apply wpAnyH_take (i := 37)
    case hi => simp only [List.getElem?_toArray, List.getElem?_cons_succ, List.getElem?_cons_zero]; rfl
    case hs => kernel_rfl
    case hf => kernel_rfl
    case hr => kernel_rfl
    case hQ => exact fun _ _ _ h => h
    case hS => assumption
    case hy =>
      refine Or.inl ⟨by rfl, ?_⟩
      intro w hSw
      try dsimp only at hSw
      have m0 := m0 w hSw
      have m1 := m1 w hSw
      go_simp
      try with_reducible rfl
    simp only [Act.put, List.setIfInBounds_toArray, List.set_cons_zero, List.set_cons_succ]
    apply wpAnyH_take (i := 38)
    case hi => simp only [List.getElem?_toArray, List.getElem?_cons_succ, List.getElem?_cons_zero]; rfl
    case hs => kernel_rfl
    case hf => kernel_rfl
    case hr => kernel_rfl
    case hQ => exact fun _ _ _ h => h
    case hS => assumption
    case hy =>
      refine Or.inl ⟨by rfl, ?_⟩
      intro w hSw
      try dsimp only at hSw
      have m0 := m0 w hSw
      have m1 := m1 w hSw
      go_simp
      try with_reducible rfl
    simp only [Act.put, List.setIfInBounds_toArray, List.set_cons_zero, List.set_cons_succ]
    refine wpAnyH_done (by kernel_rfl) ?_ _
    clear m0 m1
    rcases H3.out.1 with ⟨hk, rfl, F1, F2, hE, ha, hps, hr⟩ | ⟨hk, rfl, rfl⟩
    · have g1 : ((np : Int) != (k : Int)) = false := by rw [bne_eq_false_iff_eq]; have := HNP.out; omega
      have g2 : ((r : Int) == (r : Int)) = true := by simp
      have HF := Lib.hid (HFr.out _ hBD F1 F2 hk hE ha hps)
      rw [← hr] at HF
      clear hk hE ha hps hr
      go_wp2_with (go_at_call 32; refine HF.out.mono ?_; rintro e w' ⟨rfl, rfl⟩)
      go_ret
      exact ⟨rfl, Below.andThen HBe.out hBD⟩
    · have g1 : ((np : Int) != (k : Int)) = true := by rw [bne_iff_ne]; have := HNP.out; omega
      clear hk
      go_wp2_with fail
      go_ret
      exact ⟨rfl, Below.andThen HBe.out hBD⟩
theorem rankOf_c {w : World} {A : Option Addr} {c : Nat} {l : List ActT} (k from' to : Int) {Ap : Option Addr} {p : List Nat} {cp : Nat} (hT : Tz w) (hA : ActsT w w.heap.size A l) (hl : l.length ≤ maxLen) (hp : Pts w w.heap.size Ap p) :
    Calls Tryz.prog 7 #[.int .i64 k, .slice A l.length c, .slice Ap p.length cp, .int .i64 from', .int .i64 to] w fun e w' => e = .returned (.bool true) ∧ Below w.heap.size w w' := by
  rcases hh : heavyA 50 l with _ | _
  · by_cases h1 : k < 1
    · exact rankOf_low k from' to Ap p.length cp hT hA hl hh h1
    · by_cases h2 : 16 < k
      · exact rankOf_high k from' to Ap p.length cp hT hA hl hh h2
      · by_cases h3 : 40 < p.length
        · exact rankOf_long k from' to Ap p.length cp hT hA hl hh (by omega) h3
        · obtain ⟨k', rfl⟩ : ∃ k' : Nat, k = (k' : Int) := ⟨k.toNat, by omega⟩
          exact rankOf_go k' from' to hT hA hl hh (by omega) (by omega) hp (by omega)
  · exact rankOf_skip k from' to Ap p.length cp hT hA hl hh
end Go.Proofs.YtdpbcfjhljgicaaGreatDoor
