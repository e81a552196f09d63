/-
  CONTRACTS of package slots, second part: search (a loop of goto), find, at, Get.
-/
import Derived.Test.YtgplbbmenmbaaaaS1n
import Derived.Test.YtgplbbmenmbaaaaJp
import Derived.Deep.Cut
import Derived.BigQuiet
namespace Go.Proofs.Ytgplbbmenmbaaaa.Sn
open Go.ChangeShapes Go.WideShapes Go.ChangeAt Go.RowKit

theorem sSearch_nil (a : Int) (w : World) : Calls Try.prog 68 #[.pointer none, .int .i64 a] w fun e w' => e = .returned (.tuple #[.int .i64 0, .bool false]) ∧ w = w' := by
  go_enter Try.func68, Try.ntmps68
  go_wp2
  go_step3
  go_wp2
  rw [Exit.noGoto_ret]
  go_ret2
  exact ⟨rfl, rfl⟩
/-- how many keys are below, seen from the middle -/
theorem idx_cut {k : Nat} {L : Al} (wf : Sl.Wf k L) {a : Int} {m : Nat} {p : Nat × Option Addr} (hp : L[m]? = some p) : (p.1 : Int) < a ↔ m < Sl.idx L a := by
  constructor
  · intro h
    rcases Nat.lt_or_ge m (Sl.idx L a) with c | c
    · exact c
    · have := Sl.idx_above wf.srt a c hp
      omega
  · intro h
    exact Sl.idx_below L a m p h hp
set_option maxRecDepth 100000 in
set_option maxHeartbeats 1000000 in
theorem sSearch_c {w : World} {B b k : Nat} {L : Al} (wf : Sl.Wf k L) (h : Sp w B b k L) (a : Int) :
    Calls Try.prog 68 #[.pointer (some ⟨b, 0, none⟩), .int .i64 a] w fun e w' => e = .returned (.tuple #[.int .i64 (Sl.idx L a : Int), .bool (Sl.has L a)]) ∧ ∃ n, w' = w.drewN n := by
  obtain ⟨hbB, A, c, C, c', h0, h1, h2, h3, h4, h5, hA, -⟩ := h
  have hlen := wf.len16
  have hle := Sl.idx_le L a
  go_enter Try.func68, Try.ntmps68
  go_wp2
  refine wp_scope_back1 0 (fun a' w' => ∃ (low high : Nat), (low ≤ Sl.idx L a ∧ Sl.idx L a ≤ high ∧ high ≤ L.length ∧ ∃ n, w' = w.drewN n) ∧ (∃ z8 z9 z10 z11 z12 z13 z14 z15 z16 z17 z18 z19 z20 z21 z22 z23 z24 z25 z26 z27 z28 z29 z30 z31 z32 z33 z34 z35 z36 z37 z38 z39 z40 z41 z42 z43 z44 z45 z46 z47 z48 z49 z50 z51 z52 z53 z54 z55 z56 z57 : Value, a' = { tmps := #[.pointer (some ⟨b, 0, none⟩), .int .i64 a, undef, undef, .int .i64 0, .bool false, .int .i64 (low : Int), .int .i64 (high : Int), z8, z9, z10, z11, z12, z13, z14, z15, z16, z17, z18, z19, z20, z21, z22, z23, z24, z25, z26, z27, z28, z29, z30, z31, z32, z33, z34, z35, z36, z37, z38, z39, z40, z41, z42, z43, z44, z45, z46, z47, z48, z49, z50, z51, z52, z53, z54, z55, z56, z57], defers := [] })) (fun a' _ => (intOf (a'.tmps.getD 7 undef) - intOf (a'.tmps.getD 6 undef)).toNat) rfl ?_ ?_
  · rintro a' w' ⟨low, high, ⟨i1, i2, i3, n, rfl⟩, ⟨z8, z9, z10, z11, z12, z13, z14, z15, z16, z17, z18, z19, z20, z21, z22, z23, z24, z25, z26, z27, z28, z29, z30, z31, z32, z33, z34, z35, z36, z37, z38, z39, z40, z41, z42, z43, z44, z45, z46, z47, z48, z49, z50, z51, z52, z53, z54, z55, z56, z57, rfl⟩⟩
    rcases Nat.lt_or_eq_of_le (Nat.le_trans i1 i2) with hlt | heq
    · obtain ⟨m, hm⟩ : ∃ m, low + (high - low) / 2 = m := ⟨_, rfl⟩
      have hm1 : low ≤ m := by omega
      have hm2 : m < high := by omega
      have hmI : (low : Int) + ((high : Int) - (low : Int)) / 2 = (m : Int) := by omega
      obtain ⟨p, hp⟩ := get_lt (us := L) (k := m) (by omega)
      have hic := idx_cut wf (a := a) hp
      have hp16 := wf.lt16 p (List.mem_of_getElem? hp)
      obtain ⟨pb, po, hAA, hpb, hcell⟩ := hA.at (u16V_get (Sl.keys_get hp))
      subst hAA
      have d0 : ((low : Int) == (high : Int)) = false := by rw [beq_eq_false_iff_ne]; omega
      have hmL : m < L.length := by omega
      have Hm := Lib.hid (And.intro hic (And.intro i1 (And.intro i2 (And.intro i3 (And.intro hm1 hm2)))))
      clear hm hA hle hic
      by_cases c1 : (p.1 : Int) < a
      · have d2 : decide ((p.1 : Int) < a) = true := decide_eq_true c1
        have hj := Hm.out.1.1 c1
        have Hj := Lib.hid hj
        clear c1 hj
        go_wp2
        go_step3
        refine ⟨rfl, ⟨m + 1, high, ⟨by have := Hj.out; omega, i2, i3, n, rfl⟩, ?_⟩, ?_⟩
        · (repeat apply Exists.intro); rfl
        · simp [intOf]; omega
      · have d2 : decide ((p.1 : Int) < a) = false := decide_eq_false c1
        have hj : Sl.idx L a ≤ m := by
          rcases Nat.lt_or_ge m (Sl.idx L a) with d | d
          · exact absurd (Hm.out.1.2 d) c1
          · exact d
        have Hj := Lib.hid hj
        clear c1 hj
        go_wp2
        go_step3
        refine ⟨rfl, ⟨low, m, ⟨i1, Hj.out, by omega, n, rfl⟩, ?_⟩, ?_⟩
        · (repeat apply Exists.intro); rfl
        · simp [intOf]; omega
    · subst heq
      obtain ⟨r, hr⟩ : ∃ r, Sl.has L a = r := ⟨_, rfl⟩
      have hidx : Sl.idx L a = low := by omega
      have d0 : ((low : Int) == (low : Int)) = true := by rw [beq_iff_eq]
      have HX := Lib.hid (And.intro hr hidx)
      by_cases c1 : low < L.length
      · obtain ⟨p, hp⟩ := get_lt c1
        have hp16 := wf.lt16 p (List.mem_of_getElem? hp)
        have hh := Sl.has_idx wf.srt (a := a) (p := p) (by rw [hidx]; exact hp)
        rw [hr] at hh
        obtain ⟨pb, po, hAA, hpb, hcell⟩ := hA.at (u16V_get (Sl.keys_get hp))
        subst hAA
        have e1 : decide (low < L.length) = true := decide_eq_true c1
        have e2 : decide ((low : Int) < (L.length : Int)) = true := decide_eq_true (by omega)
        have e3 : ((p.1 : Int) == a) = r := by rw [hh, Bool.eq_iff_iff, beq_iff_eq, decide_eq_true_eq]
        have E3 := Lib.hid e3
        have k1 : (0 : Int) ≤ (low : Int) := by omega
        have k2 : (low : Int) < (L.length : Int) := by omega
        clear hr hh hidx hA hle i1 i2 i3 e3
        go_wp2
        go_quiet (fail)
        go_wp2
        simp only [Exit.jump]
        go_ret2
        exact ⟨by rw [HX.out.1, HX.out.2, ← E3.out]; rfl, _, rfl⟩
      · have hh := Sl.has_end wf.srt (a := a) (by omega)
        rw [hr] at hh
        subst hh
        have e1 : decide (low < L.length) = false := decide_eq_false c1
        have e2 : decide ((low : Int) < (L.length : Int)) = false := decide_eq_false (by omega)
        clear hr hidx hA hle i1 i2 i3
        go_wp2
        go_quiet (fail)
        go_wp2
        simp only [Exit.jump]
        go_ret2
        exact ⟨by rw [HX.out.1, HX.out.2]; rfl, _, rfl⟩
  · intro H
    have HH := Lib.hid H
    clear H
    go_wp2
    go_quiet (fail)
    go_wp2
    go_step3
    rename_i hK
    refine hK _ _ (HH.out _ _ ⟨0, L.length, ⟨Nat.zero_le _, hle, Nat.le_refl _, _, rfl⟩, ?_⟩)
    (repeat apply Exists.intro); rfl

theorem sSearch_hid {w : World} {B b k : Nat} {L : Al} (wf : Sl.Wf k L) (h : Sp w B b k L) (a : Int) (i : Nat) (r : Bool) (hi : Sl.idx L a = i) (hr : Sl.has L a = r) :
    Calls Try.prog 68 #[.pointer (some ⟨b, 0, none⟩), .int .i64 a] w fun e w' => e = .returned (.tuple #[.int .i64 (i : Int), .bool r]) ∧ ∃ n, w' = w.drewN n := by
  subst hi hr; exact sSearch_c wf h a
/-! ### find -/
theorem bit_and_one (m n : Nat) (hm : m < 18446744073709551616) : (bits .and .u64 ((m / 2 ^ n : Nat) : Int) 1 == 1) = m.testBit n := by
  have hd : m / 2 ^ n < 18446744073709551616 := Nat.lt_of_le_of_lt (Nat.div_le_self _ _) hm
  have e := bits_and_u64_nat (m / 2 ^ n) 1 hd (by omega)
  rw [show ((1 : Nat) : Int) = 1 from rfl] at e
  rw [e, Nat.and_one_is_mod, Bool.eq_iff_iff, beq_iff_eq, Nat.testBit_eq_decide_div_mod_eq, decide_eq_true_eq]
  omega
theorem sFind_sp {w : World} {B b k : Nat} {L : Al} (wf : Sl.Wf k L) (h : Sp w B b k L) (a : Int) (i : Nat) (r : Bool) (hi : Sl.idx L a = i) (hr : Sl.has L a = r) :
    Calls Try.prog 54 #[.pointer (some ⟨b, 0, none⟩), .int .i64 a] w fun e w' => e = .returned (.tuple #[.int .i64 (i : Int), .bool r]) ∧ ∃ n, w' = w.drewN n := by
  have h0 := sDense_c (d := false) h
  have hs := sSearch_hid wf h a i r hi hr
  have H := Lib.hid (And.intro h0 hs)
  clear h0 hs wf h hi hr
  go_enter Try.func54, Try.ntmps54
  go_wp2_with (first
    | (go_at_call 38; refine H.out.1.mono ?_; rintro e w' ⟨rfl, rfl⟩)
    | (go_at_call 68; refine H.out.2.mono ?_; rintro e w' ⟨rfl, n, rfl⟩))
  go_ret2
  exact ⟨rfl, _, rfl⟩
theorem sFind_no {w : World} {B b k : Nat} {L : Al} (wf : Sl.Wf k L) (h : De w B b k L) (a : Int) (ha : isA k a = false) :
    Calls Try.prog 54 #[.pointer (some ⟨b, 0, none⟩), .int .i64 a] w fun e w' => e = .returned (.tuple #[.int .i64 a, .bool false]) ∧ ∃ n, w' = w.drewN n := by
  have h0 := sDense_c (d := true) h
  have hs := fun n => sIsAddr_c (w := w.drewN n) (d := true) wf.k1 wf.k16 h a false ha
  have H := Lib.hid (And.intro h0 hs)
  clear h0 hs wf ha h
  go_enter Try.func54, Try.ntmps54
  go_wp2_with (go_at_call 38; refine H.out.1.mono ?_; rintro e w' ⟨rfl, rfl⟩)
  go_quiet ((go_at_call 59; exact Calls.quiet_of_same ((H.out.2 _).mono fun e w' h => ⟨h.1, h.2.symm⟩)))
  go_wp2
  go_ret2
  exact ⟨rfl, _, rfl⟩
theorem sFind_de {w : World} {B b k : Nat} {L : Al} (wf : Sl.Wf k L) (h : De w B b k L) (a : Nat) (ha : a < 2 ^ k) (r : Bool) (hr : Sl.has L (a : Int) = r) :
    Calls Try.prog 54 #[.pointer (some ⟨b, 0, none⟩), .int .i64 (a : Int)] w fun e w' => e = .returned (.tuple #[.int .i64 (a : Int), .bool r]) ∧ ∃ n, w' = w.drewN n := by
  have h0 := sDense_c (d := true) h
  have hs := fun n => sIsAddr_c (w := w.drewN n) (d := true) wf.k1 wf.k16 h (a : Int) true (isA_nat ha)
  have H := Lib.hid (And.intro h0 hs)
  obtain ⟨_, hk, hL, P, C, c', _, h1, _⟩ := h
  have hm := Sl.mask_lt (wf.lt64 hk)
  have h64 : a < 64 := Nat.lt_of_lt_of_le ha (Nat.pow_le_pow_right (n := 2) (by omega) hk)
  have hb := bit_and_one (Sl.mask L) a (by omega)
  rw [Sl.mask_testBit, hr] at hb
  have Hb := Lib.hid hb
  clear h0 hs wf ha hr hm hk hL hb
  go_enter Try.func54, Try.ntmps54
  go_wp2_with (go_at_call 38; refine H.out.1.mono ?_; rintro e w' ⟨rfl, rfl⟩)
  go_quiet ((go_at_call 59; exact Calls.quiet_of_same ((H.out.2 _).mono fun e w' h => ⟨h.1, h.2.symm⟩)))
  go_wp2
  go_ret2
  exact ⟨by rw [← Hb.out]; simp, _, rfl⟩

/-! ### at -/
/-- nothing is told -/
abbrev none3 : Value := .tuple #[.int .i64 0, (Value.pointer none), .bool false]
/-! ### Get -/
abbrev none2 : Value := .tuple #[(Value.pointer none), .bool false]
theorem sGet_nil (a : Int) (w : World) : Calls Try.prog 35 #[.pointer none, .int .i64 a] w fun e w' => e = .returned none2 ∧ w = w' := by
  go_enter Try.func35, Try.ntmps35
  go_wp2
  go_ret2
  exact ⟨rfl, rfl⟩
theorem sGet_no {w : World} {b : Nat} (a j : Int) (h : Calls Try.prog 54 #[.pointer (some ⟨b, 0, none⟩), .int .i64 a] w fun e w' => e = .returned (.tuple #[.int .i64 j, .bool false]) ∧ ∃ n, w' = w.drewN n) :
    Calls Try.prog 35 #[.pointer (some ⟨b, 0, none⟩), .int .i64 a] w fun e w' => e = .returned none2 ∧ ∃ n, w' = w.drewN n := by
  have H := Lib.hid h
  clear h
  go_enter Try.func35, Try.ntmps35
  go_wp2_with (go_at_call 54; refine H.out.mono ?_; rintro e w' ⟨rfl, n, rfl⟩)
  go_ret2
  exact ⟨rfl, _, rfl⟩
theorem sGet_yes {w : World} {b m c : Nat} {B : Nat} {C : Option Addr} (a : Int) (j : Nat) (x : Option Addr) (xs : List (Option Addr)) (h : Calls Try.prog 54 #[.pointer (some ⟨b, 0, none⟩), .int .i64 a] w fun e w' => e = .returned (.tuple #[.int .i64 (j : Int), .bool true]) ∧ ∃ n, w' = w.drewN n)
    (h3 : w.cell? ⟨b, 3, none⟩ = some (.slice C m c)) (hC : RdV w B C (elV xs)) (hx : xs[j]? = some x) (hj : j < m) :
    Calls Try.prog 35 #[.pointer (some ⟨b, 0, none⟩), .int .i64 a] w fun e w' => e = .returned (.tuple #[(Value.pointer (x)), .bool true]) ∧ ∃ n, w' = w.drewN n := by
  have H := Lib.hid h
  obtain ⟨qb, qo, hCC, hqb, hcell'⟩ := hC.at (elV_get hx)
  subst hCC
  clear h hC hx
  go_enter Try.func35, Try.ntmps35
  go_wp2_with (go_at_call 54; refine H.out.mono ?_; rintro e w' ⟨rfl, n, rfl⟩)
  go_ret2
  exact ⟨rfl, _, rfl⟩
/-- Get, OF WHATEVER SLOTS AND NUMBER -/
theorem sGet_c {w : World} {B b k : Nat} {L : Al} {d : Bool} (wf : Sl.Wf k L) (h : Rp w B b k L d) (a : Int) (x : Option Addr) (r : Bool) (hx : (Sl.get L a).getD none = x) (hr : Sl.has L a = r) :
    Calls Try.prog 35 #[.pointer (some ⟨b, 0, none⟩), .int .i64 a] w fun e w' => e = .returned (.tuple #[(Value.pointer (x)), .bool r]) ∧ ∃ n, w' = w.drewN n := by
  cases hg : Sl.get L a with
  | none =>
    have e1 : r = false := by rw [← hr]; simp [Sl.has, hg]
    have e2 : x = none := by rw [← hx, hg]; rfl
    subst e1 e2
    cases d
    · exact sGet_no a _ (sFind_sp wf h a _ false rfl hr)
    · rcases hi : isA k a with _ | _
      · exact sGet_no a _ (sFind_no wf h a hi)
      · obtain ⟨n, rfl, hn⟩ := isA_true hi
        exact sGet_no (n : Int) _ (sFind_de wf h n hn false hr)
  | some v =>
    have e1 : r = true := by rw [← hr]; simp [Sl.has, hg]
    have e2 : x = v := by rw [← hx, hg]; rfl
    subst e1 e2
    obtain ⟨n, rfl, hn⟩ := Sl.get_at wf.srt hg
    cases d
    · obtain ⟨_, A, c, C, c', _, _, _, h3, _, _, _, hC⟩ := id h
      exact sGet_yes (n : Int) _ x (Sl.things L) (sFind_sp wf h (n : Int) _ true rfl hr) h3 hC (Sl.things_get hn) (lt_get hn)
    · obtain ⟨_, _, _, P, C, c', _, _, _, h3, _, _, hC⟩ := id h
      have hlt := wf.lt _ (List.mem_of_getElem? hn)
      exact sGet_yes (n : Int) n x (Sl.row none (2 ^ k) L) (sFind_de wf h n hlt true hr) h3 hC (Sl.row_some hlt hg) hlt
end Go.Proofs.Ytgplbbmenmbaaaa.Sn
