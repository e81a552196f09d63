import Derived.Test.YtdpbcfjhljgicaaGreatDoorM68
import Derived.Test.YtdpbcfjhljgicaaGreatDoorM35
import Derived.Test.YtdpbcfjhljgicaaGreatDoorM37
/-
  THE LAW RankRows. Laid by wip/gen42.py.
-/
namespace Go.Proofs.YtdpbcfjhljgicaaGreatDoor
open Go.ChangeShapes Go.WideShapes Go.ChangeAt Go.RowKit
open Tr (T S4 Ent)

theorem NewR.below {base : Nat} {w w' : World} {A : Option Addr} {c : Nat} {L : List Ent} (h : NewR base w A c L) (hb : Below w.heap.size w w') : NewR base w' A c L :=
  (OwnL.below h hb (Nat.le_refl _)).imp (EntG.step hb.size fun b hlt hG => ⟨hb.block b hlt, hG⟩)
/-- a list of new points, seen as a source for a row that is older than all of them -/
theorem NewR.src {base base' : Nat} {w : World} {A A' : Option Addr} {c : Nat} {L : List Ent} (h : NewR base' w A c L) (hb : base ≤ base') (hA : ∀ b, A'.map (·.block) = some b → b < base') : Lst 2 (EntG w fun b => base ≤ b ∧ A'.map (·.block) ≠ some b) w w.heap.size A L := by
  have h2 : OwnL 54 2 (EntG w fun b => base ≤ b ∧ A'.map (·.block) ≠ some b) w base' (.slice A L.length c) L := OwnL.imp h (EntG.step (Nat.le_refl _) fun b _ hG => ⟨rfl, Nat.le_trans hb hG.1, fun e => by have := hA b e; omega⟩)
  obtain ⟨A2, c2, hv, -, hl⟩ := OwnL.rd (entG_ok _ _) h2
  simp only [Value.slice.injEq] at hv
  obtain ⟨rfl, -, -⟩ := hv
  exact hl
theorem NewR.app {base m d c : Nat} {w w' : World} {A D : Option Addr} {L M : List Ent} (h : NewR base w A c L) (hm : (L ++ M).length = m)
    (hown : OwnL 54 2 (EntG w fun b => base ≤ b ∧ A.map (·.block) ≠ some b) w' base (.slice D m d) (L ++ M)) (hgr : w.grownBy w' (Value.slice A L.length c).ownBlock) (hat : (Value.slice D m d).ownBlock = (Value.slice A L.length c).ownBlock ∨ (Value.slice D m d).ownBlock = some w.heap.size) (hbase : base ≤ w.heap.size) :
    NewR base w' D d (L ++ M) ∧ Below base w w' := by
  subst hm
  have hlt := OwnL.lt h
  rw [own_block, own_block] at hat
  rw [own_block] at hgr hlt
  have hk : ∀ b, b < w.heap.size → A.map (·.block) ≠ some b → w'.heap[b]? = w.heap[b]? := fun b hb hn => hgr.block b hb (fun e => hn e.symm)
  refine ⟨hown.imp (EntG.step hgr.size fun b hb hG => ⟨hk b hb hG.2, hG.1, ?_⟩), hgr.os, hgr.tape, hgr.output, hgr.size, fun b hb => hk b (by omega) (fun e => by have := (hlt b e).1; omega)⟩
  rcases hat with e | e
  · rw [e]; exact hG.2
  · rw [e]; intro e'; simp only [Option.some.injEq] at e'; omega
/-- the rank of an entry is its number -/
theorem rank_at {L F1 F2 : List Ent} (hz : Tr.ZS L) (he : L = F1 ++ F2) {j : Nat} {y : Ent} (hy : L[j]? = some y) (ha : Ahead y.1 F1) (hp : Past y.1 F2) : F1.length = j := by
  have h1 := (cut_at hz he.symm hy ha hp).1
  have h2 := (List.getElem?_eq_some_iff.1 hy).1
  rw [h1, List.length_take]
  omega
theorem rng_row {L : List Ent} {j n : Nat} (hn : 1 ≤ n) : (rngE L (j : Int) ((j : Int) + (n : Int))).length = min (j + n) L.length - j ∧ (rngE L (j : Int) ((j : Int) + (n : Int)))[0]? = L[j]? ∧ L.take j ++ rngE L (j : Int) ((j : Int) + (n : Int)) = L.take (j + n) := by
  have e1 : rngE L (j : Int) ((j : Int) + (n : Int)) = (L.take (j + n)).drop j := by unfold rngE; rw [show ((j : Int) + (n : Int)).toNat = j + n by omega, Int.toNat_natCast]
  rw [e1]
  refine ⟨by rw [List.length_drop, List.length_take], ?_, ?_⟩
  · rw [List.getElem?_drop, List.getElem?_take_of_lt (by omega), Nat.add_zero]
  · have := List.take_append_drop j (L.take (j + n))
    rw [List.take_take, show min j (j + n) = j by omega] at this
    exact this

theorem rankRows_skip {w : World} {A : Option Addr} {c : Nat} {l : List ActT} (k n : Int) (hT : Tz w) (hA : ActsT w w.heap.size A l) (hl : l.length ≤ maxLen) (hh : heavyA 50 l = true) :
    Calls Tryz.prog 11 #[.int .i64 k, .slice A l.length c, .int .i64 n] w fun e w' => e = .returned (.bool true) ∧ Below w.heap.size w w' := by
  have HX := Lib.hid (And.intro hA (And.intro hl (And.intro hh hT)))
  clear hA hl hh hT
  go_enter Tryz.func11, Tryz.ntmps11
  go_wp2_with fail
  refine (awake10_c w HX.out.2.2.2).mono ?_
  rintro e w1 ⟨rfl, hb1⟩
  have HH := Lib.hid (rheavy7_c (c := c) (HX.out.1.below hb1 (Nat.le_refl _) (Nat.le_refl _)) HX.out.2.1 50 true HX.out.2.2.1)
  have HB := Lib.hid hb1
  clear hb1
  go_wp2_with (go_at_call 13; refine HH.out.mono ?_; rintro e w' ⟨rfl, rfl⟩)
  go_ret
  exact ⟨rfl, HB.out⟩

theorem rankRows_low {w : World} {A : Option Addr} {c : Nat} {l : List ActT} (k n : Int) (hT : Tz w) (hA : ActsT w w.heap.size A l) (hl : l.length ≤ maxLen) (hh : heavyA 50 l = false) (h : k < 1) :
    Calls Tryz.prog 11 #[.int .i64 k, .slice A l.length c, .int .i64 n] w fun e w' => e = .returned (.bool true) ∧ Below w.heap.size w w' := by
  have HX := Lib.hid (And.intro hA (And.intro hl (And.intro hh hT)))
  have d1 : decide (k < 1) = true := decide_eq_true (by omega)
  clear h
  clear hA hl hh hT
  go_enter Tryz.func11, Tryz.ntmps11
  go_wp2_with fail
  refine (awake10_c w HX.out.2.2.2).mono ?_
  rintro e w1 ⟨rfl, hb1⟩
  have HH := Lib.hid (rheavy7_c (c := c) (HX.out.1.below hb1 (Nat.le_refl _) (Nat.le_refl _)) HX.out.2.1 50 false HX.out.2.2.1)
  have HB := Lib.hid hb1
  clear hb1
  go_wp2_with (go_at_call 13; refine HH.out.mono ?_; rintro e w' ⟨rfl, rfl⟩)
  go_ret
  exact ⟨rfl, HB.out⟩

theorem rankRows_high {w : World} {A : Option Addr} {c : Nat} {l : List ActT} (k n : Int) (hT : Tz w) (hA : ActsT w w.heap.size A l) (hl : l.length ≤ maxLen) (hh : heavyA 50 l = false) (h : 16 < k) :
    Calls Tryz.prog 11 #[.int .i64 k, .slice A l.length c, .int .i64 n] w fun e w' => e = .returned (.bool true) ∧ Below w.heap.size w w' := by
  have HX := Lib.hid (And.intro hA (And.intro hl (And.intro hh hT)))
  have d1 : decide (k < 1) = false := decide_eq_false (by omega)
  have d2 : decide (16 < k) = true := decide_eq_true (by omega)
  clear h
  clear hA hl hh hT
  go_enter Tryz.func11, Tryz.ntmps11
  go_wp2_with fail
  refine (awake10_c w HX.out.2.2.2).mono ?_
  rintro e w1 ⟨rfl, hb1⟩
  have HH := Lib.hid (rheavy7_c (c := c) (HX.out.1.below hb1 (Nat.le_refl _) (Nat.le_refl _)) HX.out.2.1 50 false HX.out.2.2.1)
  have HB := Lib.hid hb1
  clear hb1
  go_wp2_with (go_at_call 13; refine HH.out.mono ?_; rintro e w' ⟨rfl, rfl⟩)
  go_ret
  exact ⟨rfl, HB.out⟩

theorem rankRows_few {w : World} {A : Option Addr} {c : Nat} {l : List ActT} (k n : Int) (hT : Tz w) (hA : ActsT w w.heap.size A l) (hl : l.length ≤ maxLen) (hh : heavyA 50 l = false) (hk : 1 ≤ k ∧ k ≤ 16) (h : n < 1) :
    Calls Tryz.prog 11 #[.int .i64 k, .slice A l.length c, .int .i64 n] w fun e w' => e = .returned (.bool true) ∧ Below w.heap.size w w' := by
  have HX := Lib.hid (And.intro hA (And.intro hl (And.intro hh hT)))
  have d1 : decide (k < 1) = false := decide_eq_false (by omega)
  have d2 : decide (16 < k) = false := decide_eq_false (by omega)
  have d3 : decide (n < 1) = true := decide_eq_true (by omega)
  clear h hk
  clear hA hl hh hT
  go_enter Tryz.func11, Tryz.ntmps11
  go_wp2_with fail
  refine (awake10_c w HX.out.2.2.2).mono ?_
  rintro e w1 ⟨rfl, hb1⟩
  have HH := Lib.hid (rheavy7_c (c := c) (HX.out.1.below hb1 (Nat.le_refl _) (Nat.le_refl _)) HX.out.2.1 50 false HX.out.2.2.1)
  have HB := Lib.hid hb1
  clear hb1
  go_wp2_with (go_at_call 13; refine HH.out.mono ?_; rintro e w' ⟨rfl, rfl⟩)
  go_ret
  exact ⟨rfl, HB.out⟩

theorem rankRows_many {w : World} {A : Option Addr} {c : Nat} {l : List ActT} (k n : Int) (hT : Tz w) (hA : ActsT w w.heap.size A l) (hl : l.length ≤ maxLen) (hh : heavyA 50 l = false) (hk : 1 ≤ k ∧ k ≤ 16) (h : 100 < n) :
    Calls Tryz.prog 11 #[.int .i64 k, .slice A l.length c, .int .i64 n] w fun e w' => e = .returned (.bool true) ∧ Below w.heap.size w w' := by
  have HX := Lib.hid (And.intro hA (And.intro hl (And.intro hh hT)))
  have d1 : decide (k < 1) = false := decide_eq_false (by omega)
  have d2 : decide (16 < k) = false := decide_eq_false (by omega)
  have d3 : decide (n < 1) = false := decide_eq_false (by omega)
  have d4 : decide (100 < n) = true := decide_eq_true (by omega)
  clear h hk
  clear hA hl hh hT
  go_enter Tryz.func11, Tryz.ntmps11
  go_wp2_with fail
  refine (awake10_c w HX.out.2.2.2).mono ?_
  rintro e w1 ⟨rfl, hb1⟩
  have HH := Lib.hid (rheavy7_c (c := c) (HX.out.1.below hb1 (Nat.le_refl _) (Nat.le_refl _)) HX.out.2.1 50 false HX.out.2.2.1)
  have HB := Lib.hid hb1
  clear hb1
  go_wp2_with (go_at_call 13; refine HH.out.mono ?_; rintro e w' ⟨rfl, rfl⟩)
  go_ret
  exact ⟨rfl, HB.out⟩

set_option maxRecDepth 1000000 in
set_option maxHeartbeats 4000000 in
theorem rankRows_go {w : World} {A : Option Addr} {c : Nat} {l : List ActT} (k n : Nat) (hT : Tz w) (hA : ActsT w w.heap.size A l) (hl : l.length ≤ maxLen) (hh : heavyA 50 l = false) (h1 : 1 ≤ k) (h16 : k ≤ 16) (hn : 1 ≤ n) (hn100 : n ≤ 100) :
    Calls Tryz.prog 11 #[.int .i64 (k : Int), .slice A l.length c, .int .i64 (n : Int)] w fun e w' => e = .returned (.bool true) ∧ Below w.heap.size w w' := by
  have hfew := heavyA_few hh
  have HX := Lib.hid (And.intro hA (And.intro hl (And.intro hh hT)))
  have HK := Lib.hid (And.intro h1 (And.intro h16 hfew))
  have HN := Lib.hid (And.intro hn hn100)
  have d1 : decide ((k : Int) < 1) = false := decide_eq_false (by omega)
  have d2 : decide ((16 : Int) < (k : Int)) = false := decide_eq_false (by omega)
  have d2' : decide (16 < k) = false := decide_eq_false (by omega)
  have d3 : decide ((n : Int) < 1) = false := decide_eq_false (by omega)
  have d4 : decide ((100 : Int) < (n : Int)) = false := decide_eq_false (by omega)
  have d4' : decide (100 < n) = false := decide_eq_false (by omega)
  clear hA hl hh hT h1 h16 hfew hn hn100
  go_enter Tryz.func11, Tryz.ntmps11
  go_wp2_with fail
  refine (awake10_c w HX.out.2.2.2).mono ?_
  rintro e w0 ⟨rfl, hb0⟩
  have HH := Lib.hid (rheavy7_c (c := c) (HX.out.1.below hb0 (Nat.le_refl _) (Nat.le_refl _)) HX.out.2.1 50 false HX.out.2.2.1)
  have HG := Lib.hid (grown_c (c := c) HK.out.1 HK.out.2.1 (HX.out.1.below hb0 (Nat.le_refl _) (Nat.le_refl _)) hb0.size (by have := HK.out.2.2; omega))
  have HB0 := Lib.hid hb0
  clear hb0
  go_upto_region 8 with (first
    | (go_at_call 13; refine HH.out.mono ?_; rintro e w' ⟨rfl, rfl⟩)
    | (go_at_call 15; refine HG.out.mono ?_; rintro e w2 ⟨tb, o, D2, d2c, rfl, hd2, -, hb2⟩; have HD := Lib.hid hd2; have HB2 := Lib.hid (Below.andThen HB0.out hb2); clear hd2 hb2))
  have hlenE : (Tr.entsO o).length ≤ 50 := by have := HD.out.few; have := HK.out.2.2; omega
  have HT2 : Hid (∀ w', Below w2.heap.size w2 w' → Tz w') := Lib.hid fun w' hb => (HX.out.2.2.2.on HB2.out).on hb
  obtain ⟨N, hN⟩ : ∃ N, (Tr.entsO o).length = N := ⟨_, rfl⟩
  have HNN := Lib.hid hN
  rw [hN] at hlenE ⊢
  clear hN HH HG
  have HO : Hid (NewR w2.heap.size (w2.alloc (.cells #[] 54)) (some ⟨w2.heap.size, 0, none⟩) 0 []) := Lib.hid (ownL_nil 54 w2)
  have hb3 := Lib.hid (below_alloc w2 (.cells #[] 54))
  go_upto_region 10 with fail
  go_loopw [10, 11] (fun l i wr => ∃ (j : Nat) (D : Option Addr) (d : Nat), l = .slice D ((Tr.entsO o).take j).length d ∧ i = .int .i64 (j : Int) ∧ j ≤ N + 100 ∧ NewR w2.heap.size wr D d ((Tr.entsO o).take j) ∧ Below w2.heap.size w2 wr) (fun _ i _ => N - (intOf i).toNat)
  case atStart => exact ⟨0, _, 0, rfl, rfl, Nat.zero_le _, HO.out, hb3.out⟩
  case round =>
    obtain ⟨j, D, d, rfl, rfl, hj, hown, hbe⟩ := hrel
    clear HO hb3
    by_cases hlt : j < N
    · have m1 : (0 : Int) ≤ (j : Int) := by omega
      have m2 : (j : Int) < (N : Int) := by omega
      obtain ⟨r1, r2, r3⟩ := rng_row (L := Tr.entsO o) (j := j) (n := n) HN.out.1
      obtain ⟨y, hy⟩ := get_lt (us := Tr.entsO o) (k := j) (by rw [HNN.out]; exact hlt)
      rw [hy] at r2
      obtain ⟨R, hR⟩ : ∃ R, rngE (Tr.entsO o) (j : Int) ((j : Int) + (n : Int)) = R := ⟨_, rfl⟩
      rw [hR] at r1 r2 r3
      obtain ⟨M, hM⟩ : ∃ M, R.length = M := ⟨_, rfl⟩
      obtain ⟨Q, hQ⟩ : ∃ Q, ((Tr.entsO o).take j).length = Q := ⟨_, rfl⟩
      have hM1 : 1 ≤ M ∧ M ≤ n := by rw [hM, HNN.out] at r1; have := HN.out.1; omega
      have hQ1 : Q ≤ 50 := by rw [← hQ, List.length_take]; omega
      have hTr := HD.out.tree.below hbe (Nat.le_refl _)
      have HRg := Lib.hid (kRange_c hTr (fun w' hb => HT2.out w' (hbe.trans (hb.mono hbe.size))) (by rw [HNN.out]; omega) (j : Int) ((j : Int) + (n : Int)) hR)
      rw [hM] at HRg
      have HS := Lib.hid (And.intro hown (And.intro hbe (And.intro hy (And.intro r2 (And.intro r3 (And.intro hM (And.intro hQ hTr)))))))
      have e1 : decide ((M : Int) < 1) = false := decide_eq_false (by omega)
      have e1' : decide (M < 1) = false := decide_eq_false (by omega)
      have e2 : decide ((n : Int) < (M : Int)) = false := decide_eq_false (by omega)
      have e2' : decide (n < M) = false := decide_eq_false (by omega)
      have hn100 : (n : Int) ≤ 100 := by have := HN.out.2; omega
      have hj50 : (j : Int) ≤ 50 := by omega
      have hM0 : (0 : Int) < (M : Int) := by omega
      have HL := Lib.hid (And.intro hlt hM1)
      rw [hQ]
      clear hown hbe hy r1 r2 r3 hR hM hQ hTr hlt hM1 hj
      go_upto_region 15 with (go_at_call 30; refine HRg.out.mono ?_; rintro e w3 ⟨A3, c3, rfl, hE3, hb3⟩; have H3 := Lib.hid (And.intro hE3 hb3); clear hE3 hb3)
      obtain ⟨hown, hbe, hy, r2, r3, hM, hQ, hTr⟩ := HS.out
      have hb23 : Below w2.heap.size w2 w3 := hbe.trans (H3.out.2.mono hbe.size)
      obtain ⟨gb, go, A0, c0, hA3, hgb, x0, x1, p0, hl0, hv0⟩ := (H3.out.1.ents).at r2
      subst hA3
      rw [Nat.zero_mul, Nat.add_zero] at x0
      have hpl : y.1.length = k := by
        have hm := List.mem_of_getElem? hy
        cases ho : o with
        | none => rw [ho] at hm; cases hm
        | some t => rw [ho] at hm; exact ((HD.out.tree.1.2.2.2.2 t ho).1.each y hm).1
      have hz : Tr.ZS (Tr.entsO o) := by
        cases ho : o with
        | none => exact Tr.ZS.nil
        | some t => exact (HD.out.tree.1.2.2.2.2 t ho).1.zs
      have HOf := Lib.hid (kOf_c (c := c0) (hTr.below H3.out.2 (Nat.le_refl _)).1 (Nat.le_refl _) (fun w' hb => HT2.out w' (hb23.trans (hb.mono hb23.size))) (by rw [HNN.out]; omega) p0 hpl)
      have HZ := Lib.hid (And.intro hz hb23)
      have hjj : ((j : Int) != (j : Int)) = false := by simp
      clear hown hbe hy r2 r3 hM hQ hTr hb23 hgb p0 hl0 hv0 hpl hz x1 HRg
      go_upto_region 18 with (go_at_call 28; refine HOf.out.mono ?_; rintro e w4 ⟨F1, F2, he4, ha4, hp4, rfl, hb4⟩; have hF1 := rank_at HZ.out.1 he4 HS.out.2.2.1 ha4 hp4; rw [hF1]; have H4 := Lib.hid hb4; clear hb4 he4 ha4 hp4 hF1)
      obtain ⟨hown, hbe, hy, r2, r3, hM, hQ, hTr⟩ := HS.out
      have h34 := Below.andThen H3.out.2 H4.out
      have hownA : NewR w2.heap.size w4 D d ((Tr.entsO o).take j) := hown.below h34
      have hsrc := (H3.out.1.below H4.out).src (A' := D) (base := w2.heap.size) hbe.size (fun b hb => (OwnL.lt hown b (by rw [own_block]; exact hb)).2)
      have hs4 : w2.heap.size ≤ w4.heap.size := Nat.le_trans hbe.size h34.size
      have HP := Lib.hid (And.intro hownA (And.intro hsrc (And.intro hs4 (hbe.trans (h34.mono hbe.size)))))
      clear hown hbe hy r2 r3 hM hQ hTr h34 hownA hsrc hs4 HOf x0
      go_wp2_with (at_builtin; refine wpList_append_list (Q := EntG w4 fun b => w2.heap.size ≤ b ∧ D.map (·.block) ≠ some b) 30 54 (.agg #[.slice none 0 0, .int .u64 0]) 32 Tryz.underlying30 infoE2 (by rfl) (by omega) (by omega) (entG_ok _ _) (by rfl) _ _ (by rfl) w2.heap.size (.slice D Q d) ((Tr.entsO o).take j) R (Q + M) (by have := HS.out.2.2.2.2.2.1; have := HS.out.2.2.2.2.2.2.1; omega) (by rfl) (by have := HP.out.1; unfold NewR at this; rw [HS.out.2.2.2.2.2.2.1] at this; exact this) w4.heap.size _ M c3 (by exact HS.out.2.2.2.2.2.1) (by rfl) (by exact HP.out.2.1) (by have := HL.out.2.2; omega) (by exact HP.out.2.2.1) ?_; intro D5 d5 w5 hown5 hgrow5 hat5; have HM := Lib.hid (NewR.app HP.out.1 (m := Q + M) (by rw [List.length_append, HS.out.2.2.2.2.2.1, HS.out.2.2.2.2.2.2.1]) hown5 (by rw [HS.out.2.2.2.2.2.2.1]; exact ⟨hgrow5.os, hgrow5.tape, hgrow5.output, hgrow5.size, hgrow5.block⟩) (by rw [HS.out.2.2.2.2.2.2.1]; exact hat5) HP.out.2.2.1); clear hown5 hgrow5 hat5)
      go_roundw
      case rel =>
        have hl5 : Q + M = ((Tr.entsO o).take (j + n)).length := by rw [← HS.out.2.2.2.2.1, List.length_append, HS.out.2.2.2.2.2.1, HS.out.2.2.2.2.2.2.1]
        refine ⟨j + n, D5, d5, by rw [hl5], by go_num, by have := HL.out.1; have := HN.out.2; omega, ?_, HP.out.2.2.2.trans HM.out.2⟩
        rw [← HS.out.2.2.2.2.1]
        exact HM.out.1
      case measure =>
        have := HL.out.1
        have := HN.out.1
        simp [intOf]
        omega
    · have dl : decide ((j : Int) < (N : Int)) = false := decide_eq_false (by omega)
      have dl' : decide (j < N) = false := decide_eq_false hlt
      have htk : (Tr.entsO o).take j = Tr.entsO o := List.take_of_length_le (by rw [HNN.out]; omega)
      rw [htk] at hown ⊢
      have HSm := rsameEnts_c (c := d) (c' := d2c) hown.ents (HD.out.ents hbe) (by rw [HNN.out]; omega)
      rw [HNN.out] at HSm ⊢
      have HSm := Lib.hid HSm
      have HY := Lib.hid hbe
      clear hown hbe hlt hj htk
      go_wp2_with (go_at_call 21; refine HSm.out.mono ?_; rintro e w5 ⟨rfl, hb5⟩)
      go_ret
      exact ⟨rfl, Below.andThen HB2.out (Below.andThen HY.out hb5)⟩
theorem rankRows_c {w : World} {A : Option Addr} {c : Nat} {l : List ActT} (k n : Int) (hT : Tz w) (hA : ActsT w w.heap.size A l) (hl : l.length ≤ maxLen) :
    Calls Tryz.prog 11 #[.int .i64 k, .slice A l.length c, .int .i64 n] w fun e w' => e = .returned (.bool true) ∧ Below w.heap.size w w' := by
  rcases hh : heavyA 50 l with _ | _
  · by_cases h1 : k < 1
    · exact rankRows_low k n hT hA hl hh h1
    · by_cases h2 : 16 < k
      · exact rankRows_high k n hT hA hl hh h2
      · by_cases h3 : n < 1
        · exact rankRows_few k n hT hA hl hh (by omega) h3
        · by_cases h4 : 100 < n
          · exact rankRows_many k n hT hA hl hh (by omega) h4
          · obtain ⟨k', rfl⟩ : ∃ k' : Nat, k = (k' : Int) := ⟨k.toNat, by omega⟩
            obtain ⟨n', rfl⟩ : ∃ n' : Nat, n = (n' : Int) := ⟨n.toNat, by omega⟩
            exact rankRows_go k' n' hT hA hl hh (by omega) (by omega) (by omega) (by omega)
  · exact rankRows_skip k n hT hA hl hh
end Go.Proofs.YtdpbcfjhljgicaaGreatDoor

/-
  THE CONTRACT of pantileref10.Range: some in a row.
-/
namespace Go.Proofs.YtdpbcfjhljgicaaGreatDoor
open Go.ChangeShapes Go.WideShapes Go.ChangeAt Go.RowKit
open Tr (T S4 Ent)

theorem rng_snoc {X : List Ent} {e : Ent} {f t : Int} : rngE (X ++ [e]) f t = rngE X f t ++ (if f ≤ (X.length : Int) ∧ (X.length : Int) < t then [e] else []) := by
  unfold rngE
  rcases Nat.lt_or_ge X.length t.toNat with h | h
  · rw [List.take_of_length_le (l := X ++ [e]) (by simp; omega), List.take_of_length_le (l := X) (by omega)]
    rcases Nat.lt_or_ge X.length f.toNat with h2 | h2
    · rw [List.drop_eq_nil_of_le (by simp; omega), List.drop_eq_nil_of_le (by omega), if_neg (by omega)]
      rfl
    · rw [List.drop_append_of_le_length h2, if_pos (by omega)]
  · rw [List.take_append_of_le_length h, if_neg (by omega), List.append_nil]
def lenR : Value → Nat
  | .int _ n => n.toNat
  | _ => 0
theorem rng_le (L : List Ent) (f t : Int) : (rngE L f t).length ≤ L.length := by
  unfold rngE
  rw [List.length_drop, List.length_take]
  omega
set_option maxRecDepth 100000 in
set_option maxHeartbeats 4000000 in
theorem r10range_c {w : World} {B c : Nat} {A : Option Addr} {L : List Ent} (h : Ents w B A L) (hB : B ≤ w.heap.size) (hl : L.length ≤ 1000000) (from' to : Int) {R : List Ent} (hR : rngE L from' to = R) :
    Calls Tryz.prog 31 #[.slice A L.length c, .int .i64 from', .int .i64 to] w fun e w' => ∃ A' c', e = .returned (.slice A' R.length c') ∧ OwnE w' B w.heap.size (.slice A' R.length c') R ∧ Below w.heap.size w w' := by
  have HX := Lib.hid (And.intro h (And.intro hB hl))
  have HRR := Lib.hid hR
  clear h hB hR
  go_enter Tryz.func31, Tryz.ntmps31
  go_upto_region 3 with fail
  have HO : Hid (OwnL 54 2 (EntQ w B) (w.alloc (.cells #[] 54)) w.heap.size (.slice (some ⟨w.heap.size, 0, none⟩) 0 0) []) := Lib.hid (ownL_nil _ _)
  have hb1 := Lib.hid (below_alloc w (.cells #[] 54))
  go_loopw [7, 8] (fun l i wr => ∃ (j : Nat) (D : Option Addr) (d : Nat) (M : List Ent), l = .slice D M.length d ∧ i = .int .i64 (j : Int) ∧ j ≤ L.length ∧ M = rngE (L.take j) from' to ∧ OwnL 54 2 (EntQ w B) wr w.heap.size (.slice D M.length d) M ∧ Below w.heap.size w wr) (fun _ i _ => L.length - lenR i)
  case atStart => exact ⟨0, _, 0, [], rfl, rfl, Nat.zero_le _, by simp [rngE], HO.out, hb1.out⟩
  case round =>
    obtain ⟨j, D, d, M, rfl, rfl, hj, hM, hown, hbe⟩ := hrel
    clear HO hb1
    by_cases hlt : j < L.length
    · have dl : decide ((j : Int) < (L.length : Int)) = true := decide_eq_true (by omega)
      obtain ⟨e, he⟩ : ∃ e, L[j]? = some e := ⟨_, List.getElem?_eq_getElem hlt⟩
      obtain ⟨b, off, P, dp, hA, hbB, p0, p1, hp, hpm, hv⟩ := HX.out.1.entL.at he
      subst hA
      have hbB' : b < w.heap.size := Nat.lt_of_lt_of_le hbB HX.out.2.1
      have m0 : wr.cell? ⟨b, off + j * 2, none⟩ = some (.slice P e.1.length dp) := (hbe.cell (p := ⟨b, _, none⟩) hbB').trans p0
      have m1 : wr.cell? ⟨b, off + j * 2 + 1, none⟩ = some (.int .u64 (e.2 : Int)) := (hbe.cell (p := ⟨b, _, none⟩) hbB').trans p1
      have hf : rngE (L.take (j + 1)) from' to = M ++ (if from' ≤ (j : Int) ∧ (j : Int) < to then [e] else []) := by
        rw [List.take_add_one, he, hM]
        have := rng_snoc (X := L.take j) (e := e) (f := from') (t := to)
        rw [List.length_take, show min j L.length = j by omega] at this
        exact this
      have i1 : (0 : Int) ≤ (j : Int) := by omega
      have i2 : (j : Int) < (L.length : Int) := by omega
      have hMl : M.length ≤ 1000000 := by rw [hM]; have := rng_le (L.take j) from' to; rw [List.length_take] at this; omega
      have HE := Lib.hid (And.intro hp (And.intro hpm (And.intro hv (And.intro hown (And.intro hbe (And.intro hMl hf))))))
      have hj1 : j + 1 ≤ 1000000 := by omega
      have hjl : j < L.length := hlt
      clear p0 p1 hp hpm hv hM hown hbe hf he hlt hj hMl
      by_cases h1 : from' ≤ (j : Int)
      · have d1 : decide (from' ≤ (j : Int)) = true := decide_eq_true h1
        by_cases h2 : (j : Int) < to
        · have d2 : decide ((j : Int) < to) = true := decide_eq_true h2
          have HF := Lib.hid (show rngE (L.take (j + 1)) from' to = M ++ [e] from by rw [HE.out.2.2.2.2.2.2, if_pos ⟨h1, h2⟩])
          clear h1 h2
          go_wp2_with (at_builtin; refine wpList_append_list (Q := EntQ w B) 30 54 (.agg #[.slice none 0 0, .int .u64 0]) 32 Tryz.underlying30 infoE2 (by rfl) (by omega) (by omega) (entQ_ok w B) (by rfl) _ _ (by rfl) w.heap.size (.slice D M.length d) M [e] (M.length + 1) (by simp) (by rfl) (by exact HE.out.2.2.2.1.below (below_alloc _ _) (Nat.le_refl _)) _ _ 1 1 (by rfl) (by rfl) (by exact lst_one HE.out.1 HE.out.2.1 HE.out.2.2.1) (by have := HE.out.2.2.2.2.2.1; omega) (by have := HE.out.2.2.2.2.1.size; simp; omega) ?_; intro D5 d5 w5 hown5 hgrow5 hat5; have hg5 : Below w.heap.size w w5 := Below.grown (HE.out.2.2.2.2.1.trans ((below_alloc wr _).mono HE.out.2.2.2.2.1.size)) hgrow5 (by have := HE.out.2.2.2.2.1.size; simp; omega) (fun q hq => (HE.out.2.2.2.1.lt q hq).1); clear hgrow5 hat5)
          go_roundw
          case rel => exact ⟨j + 1, D5, d5, M ++ [e], by simp, by push_cast; rfl, hjl, HF.out.symm, by simpa using hown5, hg5⟩
          case measure => simp [lenR]; omega
        · have d2 : decide ((j : Int) < to) = false := decide_eq_false h2
          have HF := Lib.hid (show rngE (L.take (j + 1)) from' to = M from by rw [HE.out.2.2.2.2.2.2, if_neg (fun h => h2 h.2), List.append_nil])
          clear h1 h2
          go_wp2_with fail
          go_roundw
          case rel => exact ⟨j + 1, D, d, M, rfl, by push_cast; rfl, hjl, HF.out.symm, HE.out.2.2.2.1, HE.out.2.2.2.2.1⟩
          case measure => simp [lenR]; omega
      · have d1 : decide (from' ≤ (j : Int)) = false := decide_eq_false h1
        have HF := Lib.hid (show rngE (L.take (j + 1)) from' to = M from by rw [HE.out.2.2.2.2.2.2, if_neg (fun h => h1 h.1), List.append_nil])
        clear h1
        go_wp2_with fail
        go_roundw
        case rel => exact ⟨j + 1, D, d, M, rfl, by push_cast; rfl, hjl, HF.out.symm, HE.out.2.2.2.1, HE.out.2.2.2.2.1⟩
        case measure => simp [lenR]; omega
    · have dl : decide ((j : Int) < (L.length : Int)) = false := decide_eq_false (by omega)
      have hjl : j = L.length := by omega
      subst hjl
      rw [List.take_length, HRR.out] at hM
      subst hM
      have HE := Lib.hid (And.intro hown hbe)
      clear hown hbe hlt hj
      go_wp2_with fail
      go_ret
      exact ⟨D, d, rfl, HE.out.1.imp (entQ_mono fun _ hp => HE.out.2.cell (Nat.lt_of_lt_of_le hp HX.out.2.1)), HE.out.2⟩
end Go.Proofs.YtdpbcfjhljgicaaGreatDoor
