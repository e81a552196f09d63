/-
  CONTRACTS of slices.Grow (of the nil slice) and slices.Concat at one element type.
-/
import Derived.Test.YtgplbbmenmbaaaaVr
import Derived.Lib.AppendZeros
import Derived.Lib.Hide
namespace Go.Proofs.Ytgplbbmenmbaaaa.Cn
open Go.ChangeShapes Go.WideShapes Go.ChangeAt Go.RowKit

theorem info : (Try.prog.info? 29).map (fun i => (i.zero, i.size, i.bytes)) = some (some (Value.pointer none), 1, 8) := by kernel_rfl
theorem und : Try.prog.underlying 26 = some (.slice 29) := Try.underlying26

theorem grow_zero (w : World) : Calls Try.prog 74 #[.slice none 0 0, .int .i64 0] w fun e w' => e = .returned (.slice none 0 0) ∧ w = w' := by
  go_enter Try.func74, Try.ntmps74
  go_wp2
  go_ret
  exact ⟨rfl, rfl⟩
theorem zeros_size (n : Nat) : (Builtin.zeroCells (Value.cells (Value.pointer none)) n).size = n := by simp [size_zeroCells, Value.cells]
set_option maxRecDepth 100000 in
theorem grow_pos (n : Nat) (w : World) (h0 : 0 < n) (hn : n ≤ 1000000) :
    Calls Try.prog 74 #[.slice none 0 0, .int .i64 (n : Int)] w fun e w' => ∃ v, e = .returned v ∧ OwnV 29 w' w.heap.size v [] ∧ Below w.heap.size w w' := by
  obtain ⟨i0, hi0, hz0, hz1, hz2⟩ := info_parts info
  have hb : n * i0.bytes ≤ 281474976710656 := by rw [hz2]; omega
  have hrun := fun (w : World) => Lib.run_append_nil_zeros (P := Try.prog) w 26 3 26 29 i0 (Value.pointer none) .i64 .i64 und Try.underlying3 hi0 hz0 n h0 (by omega) (by omega) hb
  have HR := Lib.hid hrun
  have hge := grownCap_ge w n 0 29
  have hmx := grownCap_le_maxLen w n 0 29 (by unfold maxLen; omega)
  have HZ : Hid ((Builtin.zeroCells (Value.cells (Value.pointer none)) n ++ Builtin.zeroCells (Value.cells (Value.pointer none)) (grownCap w n 0 29 - n)).size = grownCap w n 0 29) := Lib.hid (by
    rw [Array.size_append, zeros_size, zeros_size]; omega)
  have HM := Lib.hid hmx
  clear hrun hi0 hz0 hz1 hz2 hb hmx
  go_enter Try.func74, Try.ntmps74
  go_wp2_with (at_builtin; refine Lib.wpList_append_run _ rfl _ _ _ _ rfl _ _ rfl rfl _ _ (HR.out _) ?_)
  go_ret
  refine ⟨_, rfl, ⟨fun x hx => by simp at hx, World.ownsRow_made w _ _ (Nat.le_refl _) HM.out (by rw [Nat.mul_one]; exact HZ.out)⟩, (below_alloc _ _).drew⟩
theorem grow_c (n : Nat) (w : World) (hn : n ≤ 1000000) :
    Calls Try.prog 74 #[.slice none 0 0, .int .i64 (n : Int)] w fun e w' => ∃ v, e = .returned v ∧ OwnV 29 w' w.heap.size v [] ∧ Below w.heap.size w w' := by
  rcases Nat.eq_zero_or_pos n with rfl | h
  · refine (grow_zero w).mono ?_
    rintro e w' ⟨rfl, rfl⟩
    exact ⟨_, rfl, ownV_none _ _ _, Below.refl _ _⟩
  · exact grow_pos n w h hn

/-! ### Concat -/
/-- a slice among those that are put together, and what it reads as -/
def Part (w : World) (B : Nat) (p : Value × List Value) : Prop := ∃ A c, p.1 = .slice A p.2.length c ∧ RdV w B A p.2 ∧ ∀ x ∈ p.2, x.oneCell' = true
theorem Part.below {w w' : World} {B C : Nat} {p : Value × List Value} (h : Part w B p) (hb : Below C w w') (hC : B ≤ C) : Part w' B p := by
  obtain ⟨A, c, h1, h2, h3⟩ := h
  exact ⟨A, c, h1, h2.below hb hC (Nat.le_refl _), h3⟩
theorem Part.up {w : World} {B B' : Nat} {p : Value × List Value} (h : Part w B p) (hB : B ≤ B') : Part w B' p := by
  obtain ⟨A, c, h1, h2, h3⟩ := h
  exact ⟨A, c, h1, h2.below (Below.refl B w) (Nat.le_refl _) hB, h3⟩
theorem part_one {w : World} {B g : Nat} {v : Value} {ty : TypeId} (hh : w.heap[g]? = some (.cells #[v] ty (0, 0))) (hg : g < B) (h1 : v.oneCell' = true) : Part w B (.slice (some ⟨g, 0, none⟩) 1 1, [v]) := by
  refine ⟨_, 1, rfl, fun _ => ⟨g, 0, rfl, hg, fun i u hi => ?_⟩, fun x hx => by simp at hx; subst hx; exact h1⟩
  rw [cell_of_row w g _ _ ty (0, 0) hh]
  cases i with
  | zero => simpa using hi
  | succ i => simp at hi
def cat (ps : List (Value × List Value)) : List Value := (ps.map (·.2)).flatten
theorem cat_succ {ps : List (Value × List Value)} {j : Nat} {p : Value × List Value} (h : ps[j]? = some p) : cat (ps.take (j + 1)) = cat (ps.take j) ++ p.2 := by
  obtain ⟨hlt, rfl⟩ := List.getElem?_eq_some_iff.1 h
  unfold cat
  rw [List.take_succ_eq_append_getElem hlt, List.map_append, List.flatten_append]
  congr 1
  simp
theorem cat_le (ps : List (Value × List Value)) (j : Nat) : (cat (ps.take j)).length ≤ (cat ps).length := by
  have : cat ps = cat (ps.take j) ++ cat (ps.drop j) := by
    unfold cat
    rw [← List.flatten_append, ← List.map_append, List.take_append_drop]
  rw [this, List.length_append]
  omega
set_option maxRecDepth 100000 in
theorem concat_c (g cp : Nat) (ps : List (Value × List Value)) (B : Nat) (w : World) (hg : g < w.heap.size) (hB : B ≤ w.heap.size) (hcell : ∀ i p, ps[i]? = some p → w.cell? ⟨g, i, none⟩ = some p.1 ∧ Part w B p) (hl : (cat ps).length ≤ 1000000) (hn : ps.length ≤ 100) :
    Calls Try.prog 70 #[.slice (some ⟨g, 0, none⟩) ps.length cp] w fun e w' => ∃ v, e = .returned v ∧ OwnV 29 w' w.heap.size v (cat ps) ∧ Below w.heap.size w w' := by
  have HC := Lib.hid hcell
  have HL := Lib.hid hl
  clear hcell hl
  go_enter Try.func70, Try.ntmps70
  go_wp2_with fail
  go_loop [3, 5, 11] (fun s _ i => ∃ j : Nat, j ≤ ps.length ∧ i = .int .i64 j ∧ s = .int .i64 ((cat (ps.take j)).length : Nat)) (fun _ _ i => ps.length - (intOf i).toNat)
  case atStart => exact ⟨0, Nat.zero_le _, rfl, rfl⟩
  case round =>
    obtain ⟨j, hj, rfl, rfl⟩ := hrel
    have hle := cat_le ps j
    have hb : (cat (ps.take j)).length ≤ 1000000 := by have := HL.out; omega
    clear hle
    by_cases hlt : j < ps.length
    · obtain ⟨p, hp⟩ := get_lt hlt
      obtain ⟨hc, A, c, hp1, hp2, hp3⟩ := HC.out j p hp
      have hs := congrArg List.length (cat_succ hp)
      rw [List.length_append] at hs
      have hle2 := cat_le ps (j + 1)
      have hb2 : (cat (ps.take j)).length + p.2.length ≤ 1000000 := by have := HL.out; omega
      have Hs := Lib.hid hs
      rw [hp1] at hc
      clear hs hle2 hp1 hp2 hp3
      generalize (cat (ps.take j)).length = s at *
      generalize p.2.length = q at *
      go_wp2_with fail
      go_round
      case rel => exact ⟨j + 1, by omega, by go_num, by rw [Hs.out]; go_num⟩
      case measure => simp [intOf]; omega
    · have hjn : Hid (cat (ps.take j) = cat ps) := Lib.hid (by rw [List.take_of_length_le (by omega)])
      generalize (cat (ps.take j)).length = s at *
      go_wp2_with fail
      refine (grow_c s _ hb).mono ?_
      rintro e w1 ⟨v1, rfl, hown, hb1⟩
      have Ho := Lib.hid hown
      have Hb1 := Lib.hid hb1
      clear hown hb1
      have hsz1 := Hb1.out.size
      go_wp2_with fail
      go_loopw [6, 8, 27] (fun v _ i wr => ∃ j : Nat, j ≤ ps.length ∧ i = .int .i64 j ∧ OwnV 29 wr w.heap.size v (cat (ps.take j)) ∧ Below w.heap.size w wr) (fun _ _ i _ => ps.length - (intOf i).toNat)
      case atStart => exact ⟨0, Nat.zero_le _, rfl, Ho.out, Hb1.out⟩
      case round =>
        obtain ⟨i, hi, rfl, hv, hbw⟩ := hrel
        have Hv := Lib.hid hv
        have hsz := hbw.size
        clear hv
        by_cases hlt2 : i < ps.length
        · obtain ⟨p, hp⟩ := get_lt hlt2
          obtain ⟨hc, hpart⟩ := HC.out i p hp
          obtain ⟨A, c, hp1, hp2, hp3⟩ := hpart.below hbw hB
          have hs := cat_succ hp
          have hle2 := cat_le ps (i + 1)
          rw [hs, List.length_append] at hle2
          have hb2 : Hid ((cat (ps.take i)).length + p.2.length ≤ 8000000000) := Lib.hid (by have := HL.out; omega)
          have Hs := Lib.hid hs
          have Hp := Lib.hid (And.intro hp2 hp3)
          have hc2 := (hbw.cell (p := ⟨g, i, none⟩) hg).trans hc
          rw [hp1] at hc2
          have Hbw := Lib.hid hbw
          clear hs hle2 hp1 hp2 hp3 hc hpart hbw
          go_wp2_with (at_builtin; refine wpList_append_vals 26 29 (Value.pointer none) 8 und info rfl (by omega) rfl (.tmp 31) (.tmp 32) rfl w.heap.size _ (cat (ps.take i)) p.2 rfl Hv.out B A _ c rfl rfl Hp.out.1 Hp.out.2 hb2.out hsz ?_; intro v2 w2 hown2 hgrow2 _)
          go_roundw
          case rel => exact ⟨i + 1, by omega, by go_num, by rw [Hs.out]; exact hown2, Hbw.out.grown hgrow2 hsz (fun q hq => (Hv.out.lt q hq).1)⟩
          case measure => simp [intOf]; omega
        · have hin : cat (ps.take i) = cat ps := by rw [List.take_of_length_le (by omega)]
          have hfin := Hv.out
          rw [hin] at hfin
          have Hf := Lib.hid hfin
          have Hbw := Lib.hid hbw
          clear hfin hin hbw
          go_wp2_with fail
          go_ret
          exact ⟨_, rfl, Hf.out, Hbw.out⟩
theorem concat2_c (g cp : Nat) (v1 v2 : Value) (x1 x2 : List Value) (ty : TypeId) (B : Nat) (w : World) (hB : B ≤ w.heap.size) (hh : w.heap[g]? = some (.cells #[v1, v2] ty (0, 0))) (p1 : Part w B (v1, x1)) (p2 : Part w B (v2, x2)) (hl : x1.length + x2.length ≤ 1000000) :
    Calls Try.prog 70 #[.slice (some ⟨g, 0, none⟩) 2 cp] w fun e w' => ∃ v, e = .returned v ∧ OwnV 29 w' w.heap.size v (x1 ++ x2) ∧ Below w.heap.size w w' := by
  have h := concat_c g cp [(v1, x1), (v2, x2)] B w (Array.getElem?_eq_some_iff.1 hh).1 hB ?_ (by simp [cat]; omega) (by simp)
  · have e : cat [(v1, x1), (v2, x2)] = x1 ++ x2 := by simp [cat]
    rw [e] at h
    exact h
  · intro i p hp
    rw [cell_of_row w g i _ ty (0, 0) hh]
    match i, hp with
    | 0, hp => simp at hp; subst hp; exact ⟨rfl, p1⟩
    | 1, hp => simp at hp; subst hp; exact ⟨rfl, p2⟩
theorem concat3_c (g cp : Nat) (v1 v2 v3 : Value) (x1 x2 x3 : List Value) (ty : TypeId) (B : Nat) (w : World) (hB : B ≤ w.heap.size) (hh : w.heap[g]? = some (.cells #[v1, v2, v3] ty (0, 0))) (p1 : Part w B (v1, x1)) (p2 : Part w B (v2, x2)) (p3 : Part w B (v3, x3)) (hl : x1.length + x2.length + x3.length ≤ 1000000) :
    Calls Try.prog 70 #[.slice (some ⟨g, 0, none⟩) 3 cp] w fun e w' => ∃ v, e = .returned v ∧ OwnV 29 w' w.heap.size v (x1 ++ x2 ++ x3) ∧ Below w.heap.size w w' := by
  have h := concat_c g cp [(v1, x1), (v2, x2), (v3, x3)] B w (Array.getElem?_eq_some_iff.1 hh).1 hB ?_ (by simp [cat]; omega) (by simp)
  · have e : cat [(v1, x1), (v2, x2), (v3, x3)] = x1 ++ x2 ++ x3 := by simp [cat]
    rw [e] at h
    exact h
  · intro i p hp
    rw [cell_of_row w g i _ ty (0, 0) hh]
    match i, hp with
    | 0, hp => simp at hp; subst hp; exact ⟨rfl, p1⟩
    | 1, hp => simp at hp; subst hp; exact ⟨rfl, p2⟩
    | 2, hp => simp at hp; subst hp; exact ⟨rfl, p3⟩
end Go.Proofs.Ytgplbbmenmbaaaa.Cn
