/-
  CONTRACTS of package slots, eleventh part: Del.
-/
import Derived.Test.YtlmlflaiaebemaaDoorS9n
namespace Go.Proofs.YtlmlflaiaebemaaDoor.Sn
open Go.ChangeShapes Go.WideShapes Go.ChangeAt Go.RowKit

theorem sDel_nil (a : Value) (w : World) : Calls Tryd.prog 35 #[.pointer none, a] w fun e w' => e = .returned (.tuple #[.pointer none, .int .i64 1]) ∧ w = w' := by
  go_enter Tryd.func35, Tryd.ntmps35
  go_wp2
  go_ret2
  exact ⟨rfl, rfl⟩
theorem sDel_arg {w : World} {B b k : Nat} {L : Al} {d : Bool} (wf : Sl.Wf k L) (h : Rp w B b k L d) (a : Int) (ha : isA k a = false) :
    Calls Tryd.prog 35 #[.pointer (some ⟨b, 0, none⟩), .int .i64 a] w fun e w' => e = .returned (.tuple #[.pointer none, .int .i64 3]) ∧ w = w' := by
  have H := Lib.hid (sIsAddr_c wf.k1 wf.k16 h a false ha)
  clear wf h ha
  go_enter Tryd.func35, Tryd.ntmps35
  go_wp2_with (go_at_call 58; refine H.out.mono ?_; rintro e w' ⟨rfl, rfl⟩)
  go_ret2
  exact ⟨rfl, rfl⟩
theorem sDel_none {w : World} {B b k : Nat} {L : Al} {d : Bool} (wf : Sl.Wf k L) (h : Rp w B b k L d) (a : Nat) (ha : a < 2 ^ k) (hg : Sl.has L (a : Int) = false) :
    Calls Tryd.prog 35 #[.pointer (some ⟨b, 0, none⟩), .int .i64 (a : Int)] w fun e w' => e = .returned (.tuple #[.pointer none, .int .i64 6]) ∧ ∃ n, w' = w.drewN n := by
  have H := Lib.hid (sIsAddr_c wf.k1 wf.k16 h (a : Int) true (isA_nat ha))
  obtain ⟨i, H2⟩ : ∃ i : Nat, Hid (Calls Tryd.prog 59 #[.pointer (some ⟨b, 0, none⟩), .int .i64 (a : Int)] w fun e w' => e = .returned (.tuple #[.int .i64 (i : Int), .bool false]) ∧ ∃ n, w' = w.drewN n) := by
    cases d
    · exact ⟨_, Lib.hid (sFind_sp wf h (a : Int) _ false rfl hg)⟩
    · exact ⟨_, Lib.hid (sFind_de wf h a ha false hg)⟩
  clear wf h ha hg
  go_enter Tryd.func35, Tryd.ntmps35
  go_wp2_with (first
    | (go_at_call 58; refine H.out.mono ?_; rintro e w' ⟨rfl, rfl⟩)
    | (go_at_call 59; refine H2.out.mono ?_; rintro e w' ⟨rfl, n, rfl⟩))
  go_ret2
  exact ⟨rfl, _, rfl⟩
set_option maxRecDepth 100000 in
theorem sDel_sp {w : World} {B b k : Nat} {L : Al} (wf : Sl.Wf k L) (hd : Sl.dense k L = false) (h : Sp w B b k L) (hB : B ≤ w.heap.size) (a : Nat) (ha : a < 2 ^ k) (u : Option Addr) (hg : Sl.get L (a : Int) = some u) :
    Calls Tryd.prog 35 #[.pointer (some ⟨b, 0, none⟩), .int .i64 (a : Int)] w fun e w' => ∃ p, e = .returned (.tuple #[.pointer (some ⟨p, 0, none⟩), .int .i64 0]) ∧ At w' w'.heap.size p k (Sl.del a L) ∧ Below w.heap.size w w' := by
  have hh : Sl.has L (a : Int) = true := by simp [Sl.has, hg]
  obtain ⟨m, hm, hat⟩ := Sl.get_at wf.srt hg
  have hlt := lt_get hat
  have Hp : Hid (Sl.del a L = L.take (Sl.idx L (a : Int)) ++ L.drop (Sl.idx L (a : Int) + 1)) := Lib.hid (Sl.del_some wf.srt hg)
  have Hwf := Lib.hid (wf.del a)
  have Hd : Hid (Sl.dense k (Sl.del a L) = false) := Lib.hid (by
    have := Sl.length_del wf.srt hg
    rcases e : Sl.dense k (Sl.del a L) with _ | _
    · rfl
    · rw [Sl.dense_more e (by omega)] at hd
      exact hd)
  obtain ⟨i, hi⟩ : ∃ i, Sl.idx L (a : Int) = i := ⟨_, rfl⟩
  rw [hi] at Hp hlt
  have H1 := Lib.hid (sIsAddr_c (d := false) wf.k1 wf.k16 h (a : Int) true (isA_nat ha))
  have H2 := Lib.hid (sFind_sp wf h (a : Int) i true hi hh)
  have H3 := Lib.hid (fun n => sDense_c (w := w.drewN n) (d := false) (L := L) (k := k) (B := B) (b := b) h)
  have H4 := Lib.hid (fun n => sWithoutCell_c (w := w.drewN n) wf h hB i hlt)
  clear wf h ha hg hh hi hlt hat hm hd
  go_enter Tryd.func35, Tryd.ntmps35
  go_wp2_with (first
    | (go_at_call 58; refine H1.out.mono ?_; rintro e w' ⟨rfl, rfl⟩)
    | (go_at_call 59; refine H2.out.mono ?_; rintro e w' ⟨rfl, n, rfl⟩)
    | (go_at_call 51; refine (H3.out n).mono ?_; rintro e w' ⟨rfl, rfl⟩)
    | (go_at_call 60; refine (H4.out n).mono ?_; rintro e w2 ⟨g, rfl, hsp, hb2⟩; have HS := Lib.hid (And.intro hsp hb2); clear hsp hb2))
  go_ret2
  refine ⟨g, rfl, ⟨Hwf.out, ?_⟩, Below.trans (below_drewN n (Below.refl _ w)) HS.out.2⟩
  rw [Hd.out, Hp.out]
  exact HS.out.1
set_option maxRecDepth 100000 in
set_option maxHeartbeats 2000000 in
theorem sDel_de {w : World} {B b k : Nat} {L : Al} (wf : Sl.Wf k L) (hd : Sl.dense k L = true) (h : De w B b k L) (hB : B ≤ w.heap.size) (a : Nat) (ha : a < 2 ^ k) (u : Option Addr) (hg : Sl.get L (a : Int) = some u) :
    Calls Tryd.prog 35 #[.pointer (some ⟨b, 0, none⟩), .int .i64 (a : Int)] w fun e w' => ∃ p, e = .returned (.tuple #[.pointer (some ⟨p, 0, none⟩), .int .i64 0]) ∧ At w' w'.heap.size p k (Sl.del a L) ∧ Below w.heap.size w w' := by
  have hh : Sl.has L (a : Int) = true := by simp [Sl.has, hg]
  have Hwf := Lib.hid (wf.del a)
  have Hsr := Lib.hid wf.srt
  have Hne : Hid (Sl.del a L ≠ []) := Lib.hid (by
    have h1 := Sl.length_del wf.srt hg
    have h2 := (Sl.dense_k hd).2
    have h3 : 2 ^ 1 ≤ 2 ^ k := Nat.pow_le_pow_right (by omega) wf.k1
    intro e
    rw [e] at h1
    simp at h1
    omega)
  have H1 := Lib.hid (sIsAddr_c (d := true) wf.k1 wf.k16 h (a : Int) true (isA_nat ha))
  have H2 := Lib.hid (sFind_de wf h a ha true hh)
  have H3 := Lib.hid (fun n => sDense_c (w := w.drewN n) (d := true) (L := L) (k := k) (B := B) (b := b) h)
  obtain ⟨hbB, hk, hL, P, C, c', c0, c1, c2, c3, k2, ⟨Ap, np, cp, hP⟩, hC⟩ := h
  have hm := Sl.mask_lt (wf.lt64 hk)
  have hp2 : 2 ^ k ≤ 2 ^ 6 := Nat.pow_le_pow_right (n := 2) (by omega) hk
  have hpa : 2 ^ a < 18446744073709551616 := Nat.lt_of_lt_of_le (Nat.pow_lt_pow_right (by omega) (show a < 64 by omega)) (by omega)
  have hw : IntKind.u64.wrap (2 ^ a) = ((2 ^ a : Nat) : Int) := by
    rw [show (2 : Int) ^ a = ((2 ^ a : Nat) : Int) by simp]
    generalize 2 ^ a = P at *
    rw [IntKind.wrap_u64]; omega
  have hor := Mk.andNot_u64 (Sl.mask L) (2 ^ a) (by omega) hpa
  have Hm : Hid (Sl.mask (Sl.del a L) = Mk.less (Sl.mask L) (2 ^ a)) := Lib.hid (Sl.mask_del wf.srt a)
  obtain ⟨m, hmm⟩ : ∃ m, 2 ^ k = m := ⟨_, rfl⟩
  have Hmm := Lib.hid hmm
  rw [hmm] at c3 hp2 hC k2 ha
  have hrl := Sl.row_length none m L
  have hrne : Sl.row none m L ≠ [] := by intro e; rw [e] at hrl; simp at hrl; omega
  have HA := Lib.hid (And.intro hC (And.intro hrl hrne))
  have q0 : ∀ w', Below w.heap.size w w' → w'.cell? ⟨b, 0, none⟩ = some (.int .i64 (k : Int)) := fun w' hb => (hb.cell (p := ⟨b, 0, none⟩) (by show b < _; omega)).trans c0
  have q1 : ∀ w', Below w.heap.size w w' → w'.cell? ⟨b, 1, none⟩ = some (.int .u64 (Sl.mask L : Int)) := fun w' hb => (hb.cell (p := ⟨b, 1, none⟩) (by show b < _; omega)).trans c1
  have q3 : ∀ w', Below w.heap.size w w' → w'.cell? ⟨b, 3, none⟩ = some (.slice C m c') := fun w' hb => (hb.cell (p := ⟨b, 3, none⟩) (by show b < _; omega)).trans c3
  have i1 : (0 : Int) ≤ (a : Int) := by omega
  have i2 : (a : Int) < (m : Int) := by omega
  have ha64 : a < 64 := by omega
  have hk7 : Hid (k ≤ 6) := Lib.hid hk
  generalize Mk.less (Sl.mask L) (2 ^ a) = q at *
  generalize 2 ^ a = Q at *
  generalize Sl.mask L = hs at *
  clear wf hd hL hC c0 c1 c2 c3 hmm hrl hrne hpa hm k2 hk hP hg hh
  go_enter Tryd.func35, Tryd.ntmps35
  go_wp2_with (first
    | (go_at_call 58; refine H1.out.mono ?_; rintro e w' ⟨rfl, rfl⟩)
    | (go_at_call 59; refine H2.out.mono ?_; rintro e w' ⟨rfl, n, rfl⟩)
    | (go_at_call 51; refine (H3.out n).mono ?_; rintro e w' ⟨rfl, rfl⟩))
  go_region_held (fun w' => Below w.heap.size w w') (((repeat (first | refine Below.drew ?_ | refine Below.alloc ?_ (by first | omega | (simp; done) | (simp; omega)) _ | refine Below.setCell ?_ (by first | omega | (simp; done) | (simp; omega)) _)); first | exact Below.refl _ _ | assumption | exact below_drewN _ (Below.refl _ _)))
    (first
      | (go_at_call 61
         refine (clone_n (Sl.row none m L) _ m _ B _ HA.out.2.1 (by first | omega | (simp; done) | (simp; omega)) (HA.out.1.below (by ((repeat (first | refine Below.drew ?_ | refine Below.alloc ?_ (by first | omega | (simp; done) | (simp; omega)) _ | refine Below.setCell ?_ (by first | omega | (simp; done) | (simp; omega)) _)); first | exact Below.refl _ _ | assumption | exact below_drewN _ (Below.refl _ _))) hB (Nat.le_refl _)) HA.out.2.2 (by rw [HA.out.2.1]; omega)).mono ?_
         rintro e w2 ⟨g, d, rfl, hown, hb1⟩
         have hB1 := Below.andThen (show Below w.heap.size w _ by ((repeat (first | refine Below.drew ?_ | refine Below.alloc ?_ (by first | omega | (simp; done) | (simp; omega)) _ | refine Below.setCell ?_ (by first | omega | (simp; done) | (simp; omega)) _)); first | exact Below.refl _ _ | assumption | exact below_drewN _ (Below.refl _ _))) hb1
         have HO := Lib.hid (hown.mono (show w.heap.size ≤ _ by first | omega | (simp; done) | (simp; omega)))
         have hs1 := hB1.size
         clear hown))
  have hO : Outm (w2.alloc (.cells #[.int .i64 (k : Int), .int .u64 (q : Int), .slice none 0 0, .slice (some ⟨g, 0, none⟩) m d] 98)) w.heap.size w2.heap.size g k q m d (.slice none 0 0) (Sl.row none m L) := outm_new hs1 HO.out HA.out.2.1
  have hBw := (hB1.alloc hs1 (.cells #[.int .i64 (k : Int), .int .u64 (q : Int), .slice none 0 0, .slice (some ⟨g, 0, none⟩) m d] 98))
  generalize (w2.alloc (.cells #[.int .i64 (k : Int), .int .u64 (q : Int), .slice none 0 0, .slice (some ⟨g, 0, none⟩) m d] 98)) = W at *
  generalize w2.heap.size = p at *
  obtain ⟨⟨y, hy⟩, hf⟩ := outm_cell (i := a) hO ha
  have hO2 : Outm (W.setCell ⟨g, a, none⟩ (Value.pointer none)) w.heap.size p g k q m d (.slice none 0 0) ((Sl.row none m L).set a none) ∧ Below w.heap.size W (W.setCell ⟨g, a, none⟩ (Value.pointer none)) := outm_put (i := a) none hO
  have hc3 := hO.2.2.2.2.1
  have HF := Lib.hid (And.intro hO2.1 (Below.trans hBw (hO2.2.mono (Nat.le_refl _))))
  clear hO2 hO hBw hB1 hb1
  have HD : Hid (Rp (W.setCell ⟨g, a, none⟩ (Value.pointer none)) (W.setCell ⟨g, a, none⟩ (Value.pointer none)).heap.size p k (Sl.del a L) true) := Lib.hid (by
    obtain ⟨⟨b1, b2, b3, b4⟩, y0, y1, y2, y3, y4, y5, y6⟩ := HF.out.1
    have hr := y5.rd_at
    have hdl : m ≤ d := by
      obtain ⟨_, _, hv, hle, _⟩ := y5.rd
      injection hv with _ e2 e3
      rw [← e2, ← e3] at hle
      exact hle
    refine ⟨b4, hk7.out, Hne.out, .slice none 0 0, some ⟨g, 0, none⟩, d, y0, by rw [Hm.out]; exact y1, y2, by rw [Hmm.out]; exact y3, by rw [Hmm.out]; exact hdl, ⟨none, 0, 0, rfl⟩, ?_⟩
    rw [Hmm.out, Sl.row_del Hsr.out]
    exact hr)
  go_wp2_with (go_at_call 62; refine (sKept_c (d := true) Hwf.out HD.out (Nat.le_refl _)).mono ?_; rintro e w3 ⟨p2, rfl, hrp, hb3⟩; have HK := Lib.hid (And.intro hrp hb3); clear hrp hb3)
  go_ret2
  exact ⟨p2, rfl, ⟨Hwf.out, HK.out.1⟩, Below.andThen HF.out.2 HK.out.2⟩
/-- Del, OF WHATEVER SLOTS WHERE A THING IS -/
theorem sDel_c {w : World} {B b k : Nat} {L : Al} (h : At w B b k L) (hB : B ≤ w.heap.size) (a : Nat) (ha : a < 2 ^ k) (hg : Sl.has L (a : Int) = true) :
    Calls Tryd.prog 35 #[.pointer (some ⟨b, 0, none⟩), .int .i64 (a : Int)] w fun e w' => ∃ p, e = .returned (.tuple #[.pointer (some ⟨p, 0, none⟩), .int .i64 0]) ∧ At w' w'.heap.size p k (Sl.del a L) ∧ Below w.heap.size w w' := by
  obtain ⟨wf, hr⟩ := h
  obtain ⟨u, hu⟩ := Option.isSome_iff_exists.1 hg
  rcases hd : Sl.dense k L with _ | _
  · rw [hd] at hr
    exact sDel_sp wf hd hr hB a ha u hu
  · rw [hd] at hr
    exact sDel_de wf hd hr hB a ha u hu
end Go.Proofs.YtlmlflaiaebemaaDoor.Sn
