/-
  THE WALK of the law NodeLeaf: the law's call returns true.
-/
import Derived.Test.YtlmlflaiaebemaaDoorIs1
import Derived.Test.YtlmlflaiaebemaaDoorTn8
namespace Go.Proofs.YtlmlflaiaebemaaDoor
open Go.ChangeShapes Go.WideShapes Go.ChangeAt Go.RowKit
open Tr (T S4 Ent)

set_option maxRecDepth 100000 in
theorem nodeLeaf_big (A C : Option Addr) (n c m d : Nat) (v a : Int) (w : World) (h : 40 < n ∨ 40 < m) (hn : n ≤ maxLen) (hm : m ≤ maxLen) :
    Calls Tryd.prog 3 #[.slice A n c, .slice C m d, .int .u64 v, .int .i64 a] w fun e w' => e = .returned (.bool true) ∧ Below w.heap.size w w' := by
  unfold maxLen at hn hm
  by_cases h1 : 40 < n
  · go_enter Tryd.func3, Tryd.ntmps3
    go_wp2_with fail
    refine (awake6_c _).mono ?_
    rintro e w1 ⟨rfl, hb1⟩
    have B1 := Lib.hid hb1
    clear hb1
    go_wp2_with fail
    go_ret
    exact ⟨rfl, B1.out⟩
  · have h2 : 40 < m := by omega
    go_enter Tryd.func3, Tryd.ntmps3
    go_wp2_with fail
    refine (awake6_c _).mono ?_
    rintro e w1 ⟨rfl, hb1⟩
    have B1 := Lib.hid hb1
    clear hb1
    go_wp2_with fail
    go_ret
    exact ⟨rfl, B1.out⟩
set_option maxRecDepth 100000 in
set_option maxHeartbeats 1000000 in
theorem nodeLeaf_dim (A C : Option Addr) (us : List Nat) (c m d v : Nat) (a : Int) (w : World) (hp : Pts w w.heap.size A us) (h1 : us.length ≤ 40) (h2 : m ≤ 40) (h : ¬ (1 ≤ us.length ∧ us.length ≤ 16)) :
    Calls Tryd.prog 3 #[.slice A us.length c, .slice C m d, .int .u64 (v : Int), .int .i64 a] w fun e w' => e = .returned (.bool true) ∧ Below w.heap.size w w' := by
  have HX := Lib.hid (And.intro hp h)
  clear hp h
  go_enter Tryd.func3, Tryd.ntmps3
  go_wp2_with fail
  refine (awake6_c _).mono ?_
  rintro e w1 ⟨rfl, hb1⟩
  have B1 := Lib.hid hb1
  clear hb1
  go_wp2_with (at_builtin; refine wpList_append_copy rfl (.tmp 34) (.tmp 35) rfl us rfl w.heap.size A c rfl (HX.out.1.below' B1.out (Nat.le_refl _)) B1.out.size (by omega) ?_; intro A2 c2 w2 hp2 ho2 hb2; have H2 := Lib.hid (And.intro hp2 ho2); have B2 := Lib.hid (Below.andThen B1.out hb2); clear hp2 ho2 hb2)
  refine (nLeaf_dim A2 us.length c2 v _ (by unfold maxLen; omega) HX.out.2).mono ?_
  rintro e w' ⟨rfl, rfl⟩
  go_wp2_with fail
  refine (rright_no A us.length c _ (by unfold maxLen; omega) HX.out.2).mono ?_
  rintro e w' ⟨rfl, rfl⟩
  go_wp2_with fail
  go_ret
  exact ⟨rfl, B2.out⟩
theorem own_n {w : World} {base n c : Nat} {A : Option Addr} {us : List Nat} (h : Own w base (.slice A n c) us) : n = us.length := by
  obtain ⟨A', c', hv, -⟩ := h.pts
  injection hv
theorem nd_ent {w : World} {B k g v : Nat} {us : List Nat} (h : Node w B k (.ent g us v)) : NdAt w B g (-1) us v none (Tr.s1 v) := by cases h.2 with | ent _ _ _ h => exact h
theorem own_put {w : World} {base g n c : Nat} {us : List Nat} (h : Own w base (.slice (some ⟨g, 0, none⟩) n c) us) (i u : Nat) (hu : u < 18446744073709551616) : Own (w.setCell ⟨g, i, none⟩ (.int .u64 (u : Int))) base (.slice (some ⟨g, 0, none⟩) n c) (us.set i u) := by
  have hn := own_n h
  subst hn
  refine ⟨fun x hx => ?_, ?_⟩
  · rcases List.mem_or_eq_of_mem_set hx with hx | rfl
    · exact h.1 x hx
    · exact hu
  · have := (h.2.stored i (.int .u64 (u : Int))).1
    rw [vals_set] at this
    rw [List.length_set]
    exact this
theorem own_cell {w : World} {base g n c : Nat} {us : List Nat} (h : Own w base (.slice (some ⟨g, 0, none⟩) n c) us) {i u : Nat} (hi : us[i]? = some u) : w.cell? ⟨g, i, none⟩ = some (.int .u64 (u : Int)) ∧ w.frozen? ⟨g, i, none⟩ = false ∧ u < 18446744073709551616 := by
  have hn := own_n h
  subst hn
  refine ⟨?_, h.2.frozenAt i, h.1 u (List.mem_of_getElem? hi)⟩
  rw [World.ownsRow.cellAt h.2 i (by have := lt_get hi; omega)]
  exact vals_get hi
theorem own_block {w w' : World} {base g n c : Nat} {us : List Nat} (h : Own w base (.slice (some ⟨g, 0, none⟩) n c) us) (hb : w'.heap[g]? = w.heap[g]?) : Own w' base (.slice (some ⟨g, 0, none⟩) n c) us := by
  refine ⟨h.1, h.2.1, ?_⟩
  rcases h.2.2 with h2 | ⟨g', cap, cur, hv, hg, hh, r⟩
  · exact .inl h2
  · simp only [Value.slice.injEq, Option.some.injEq, Addr.mk.injEq, and_true] at hv
    obtain ⟨rfl, rfl, rfl⟩ := hv
    exact .inr ⟨g, c, cur, rfl, hg, hb.trans hh, r⟩
/-- but for block g nothing has changed -/
def Mut (w wr : World) (g : Nat) : Prop := wr.heap.size = w.heap.size ∧ ∀ b, b ≠ g → wr.heap[b]? = w.heap[b]?
theorem Mut.refl (w : World) (g : Nat) : Mut w w g := ⟨rfl, fun _ _ => rfl⟩
theorem Mut.set {w wr : World} {g : Nat} (h : Mut w wr g) (i : Nat) (v : Value) : Mut w (wr.setCell ⟨g, i, none⟩ v) g :=
  ⟨by simpa using h.1, fun b hb => by rw [Below.heap_setCell _ _ _ _ hb]; exact h.2 b hb⟩
theorem Mut.drew {w wr : World} {g : Nat} (h : Mut w wr g) : Mut w wr.drew g := h
theorem leaf_node {w : World} {base g h d v t : Nat} {us : List Nat} (hh : w.heap[g]? = some (.cells #[.int .i64 (-1), .slice (some ⟨h, 0, none⟩) us.length d, .int .u64 (v : Int), .pointer none, .int .u64 1, .int .u64 (v : Int), .int .u64 (v : Int), .int .u64 (v : Int)] t (0, 0)))
    (ho : Own w base (.slice (some ⟨h, 0, none⟩) us.length d) us) (h1 : 1 ≤ us.length) (h16 : us.length ≤ 16) (hv : v < 18446744073709551616) : Node w w.heap.size us.length (.ent g us v) := by
  obtain ⟨A', c', hv', hp⟩ := ho.pts
  cases hv'
  exact ⟨.ent g us v h1 h16 rfl ho.1 hv, .ent g us v (nd_at hp hh (Nat.le_refl _) (Array.getElem?_eq_some_iff.1 hh).1)⟩
set_option maxRecDepth 100000 in
set_option maxHeartbeats 8000000 in
theorem nodeLeaf_go (A C : Option Addr) (us qs : List Nat) (c d v : Nat) (a : Int) (w : World) (hp : Pts w w.heap.size A us) (hq : Pts w w.heap.size C qs) (h2 : qs.length ≤ 40) (h1 : 1 ≤ us.length) (h16 : us.length ≤ 16) (hv : v < 18446744073709551616) :
    Calls Tryd.prog 3 #[.slice A us.length c, .slice C qs.length d, .int .u64 (v : Int), .int .i64 a] w fun e w' => e = .returned (.bool true) ∧ Below w.heap.size w w' := by
  have HX := Lib.hid (And.intro hp (And.intro hq hv))
  clear hp hq hv
  go_enter Tryd.func3, Tryd.ntmps3
  go_wp2_with fail
  refine (awake6_c _).mono ?_
  rintro e w1 ⟨rfl, hb1⟩
  have B1 := Lib.hid hb1
  clear hb1
  go_wp2_with (at_builtin; refine wpList_append_copy rfl (.tmp 34) (.tmp 35) rfl us rfl w.heap.size A c rfl (HX.out.1.below' B1.out (Nat.le_refl _)) B1.out.size (by omega) ?_; intro A2 c2 w2 hp2 ho2 hb2; have H2 := Lib.hid (And.intro hp2 ho2); have B2 := Lib.hid (Below.andThen B1.out hb2); clear hp2 ho2 hb2)
  refine (nLeaf_raw us A2 c2 _ v _ (Nat.le_refl _) H2.out.1 h1 h16).mono ?_
  rintro e w3 ⟨g, hh, dd, rfl, hgc, hgl, hghh, ho3, hb3⟩
  obtain ⟨gi, ci, hvi, hgi1, hgi2, -⟩ := H2.out.2.row (by intro e; simp [e] at h1)
  simp only [Value.slice.injEq, true_and] at hvi
  obtain ⟨rfl, rfl⟩ := hvi
  have O2 := Lib.hid (H2.out.2.below hb3 (Nat.le_refl _))
  have B3 := Lib.hid (Below.andThen B2.out hb3)
  have L3 := Lib.hid (And.intro hgc (And.intro hghh ho3))
  have hhl := (ho3.2.lt hh rfl).1
  have hne1 : g ≠ gi := by omega
  have hne2 : hh ≠ gi := by omega
  have hgiB : w.heap.size ≤ gi := Nat.le_trans B1.out.size hgi1
  clear hb3 hgc ho3 hghh
  go_wp2_with fail
  refine (rright_yes A us.length c _ h1 h16).mono ?_
  rintro e w' ⟨rfl, rfl⟩
  go_wp2_with fail
  go_loopw [12] (fun i wr => ∃ (j : Nat) (xs : List Nat), j ≤ us.length ∧ i = .int .i64 j ∧ xs.length = us.length ∧ Own wr w1.heap.size (.slice (some ⟨gi, 0, none⟩) us.length c2) xs ∧ Mut w3 wr gi ∧ Below w.heap.size w wr) (fun i _ => us.length - (intOf i).toNat)
  case atStart => exact ⟨0, us, Nat.zero_le _, rfl, rfl, O2.out, Mut.refl _ _, B3.out⟩
  case round =>
    obtain ⟨j, xs, hj, rfl, hxl, hox, hmu, hbe⟩ := hrel
    by_cases hlt : j < us.length
    · obtain ⟨u, hu⟩ := get_lt (show j < xs.length by rw [hxl]; exact hlt)
      obtain ⟨k0, k1, hu64⟩ := own_cell hox hu
      have m1 : (0 : Int) ≤ (j : Int) := by omega
      have m2 : (j : Int) < (us.length : Int) := by omega
      have hw : IntKind.u64.wrap ((u : Int) + 1) = (((u + 1) % 18446744073709551616 : Nat) : Int) := by rw [IntKind.wrap_u64]; omega
      have HR := Lib.hid (And.intro hxl (And.intro hox (And.intro hmu (And.intro hbe hw))))
      clear hxl hox hmu hbe hw hu hu64
      go_wp2_with fail
      go_roundw
      case rel =>
        rw [HR.out.2.2.2.2]
        have hb := HR.out.2.2.2.1
        exact ⟨j + 1, xs.set j ((u + 1) % 18446744073709551616), by omega, by go_num, by rw [List.length_set]; exact HR.out.1, own_put HR.out.2.1 j _ (by omega), HR.out.2.2.1.set _ _, by ((repeat (first | refine Below.drew ?_ | refine Below.alloc ?_ (by first | omega | (simp; done) | (simp; omega)) _ | refine Below.setCell ?_ (by first | omega | (simp; done) | (simp; omega)) _)); first | exact Below.refl _ _ | assumption | exact below_drewN _ (Below.refl _ _) | exact below_drewN _ (below_drewN _ (Below.refl _ _)))⟩
      case measure => simp [intOf]; omega
    · clear O2 B3
      generalize wr = W4 at *
      have HM := Lib.hid (And.intro hmu hbe)
      clear hox hxl
      have hgc4 : W4.heap[g]? = _ := (hmu.2 g hne1).trans L3.out.1
      have ho4 := own_block L3.out.2.2 (hmu.2 hh hne2)
      have HN := Lib.hid (leaf_node hgc4 ho4 h1 h16 HX.out.2.2)
      have hsz : us.length ≤ 40 := by omega
      clear hgc4 ho4 hmu hbe
      have hne0 : us ≠ [] := by intro e; simp [e] at h1
      have Hne := Lib.hid hne0
      clear hne0
      go_wp2_with fail
      refine (nEntry_ent (nd_ent HN.out) (Nat.le_refl _) Hne.out (by omega)).mono ?_
      rintro e w5 ⟨h5, d5, rfl, ho5, hb5⟩
      have B5 := Lib.hid (Below.andThen HM.out.2 hb5)
      have C5 := Lib.hid hb5
      have hs5 := hb5.size
      have O5 := Lib.hid ho5
      have hl5 := (ho5.2.lt h5 rfl)
      clear ho5 hb5
      go_wp2_with fail
      have b6 := below_alloc w5 (.cells #[.slice (some ⟨h5, 0, none⟩) us.length d5, .int .u64 (v : Int)] 31)
      have E6 := Lib.hid (cells2 w5 (.slice (some ⟨h5, 0, none⟩) us.length d5) (.int .u64 (v : Int)) 31)
      have B6 := Lib.hid (Below.andThen B5.out b6)
      have C6 := Lib.hid (C5.out.trans (b6.mono hs5))
      have O6 := Lib.hid (O5.out.below b6 (Nat.le_refl _))
      have hs6 : (w5.alloc (.cells #[.slice (some ⟨h5, 0, none⟩) us.length d5, .int .u64 (v : Int)] 31)).heap.size = w5.heap.size + 1 := by simp
      clear b6
      generalize w5.alloc _ = W6 at *
      have hx5 : h5 ≠ w5.heap.size := by omega
      clear B5 O5 C5
      go_loopw [15] (fun i wr => ∃ (j : Nat) (xs : List Nat), j ≤ us.length ∧ i = .int .i64 j ∧ xs.length = us.length ∧ Own wr W4.heap.size (.slice (some ⟨h5, 0, none⟩) us.length d5) xs ∧ Mut W6 wr h5 ∧ Below W4.heap.size W4 wr) (fun i _ => us.length - (intOf i).toNat)
      case atStart => exact ⟨0, us, Nat.zero_le _, rfl, rfl, O6.out, Mut.refl _ _, C6.out⟩
      case round =>
        obtain ⟨j, xs, hj, rfl, hxl, hox, hmu, hbe⟩ := hrel
        have x0 : wr.cell? ⟨w5.heap.size, 0, none⟩ = some (.slice (some ⟨h5, 0, none⟩) us.length d5) := (World.cell?_of_block (w := W6) (a := ⟨w5.heap.size, 0, none⟩) (hmu.2 _ (Ne.symm hx5))).trans E6.out.1
        by_cases hlt : j < us.length
        · obtain ⟨u, hu⟩ := get_lt (show j < xs.length by rw [hxl]; exact hlt)
          obtain ⟨k0, k1, hu64⟩ := own_cell hox hu
          have m1 : (0 : Int) ≤ (j : Int) := by omega
          have m2 : (j : Int) < (us.length : Int) := by omega
          have hw : IntKind.u64.wrap ((u : Int) + 2) = (((u + 2) % 18446744073709551616 : Nat) : Int) := by rw [IntKind.wrap_u64]; omega
          have HR := Lib.hid (And.intro hxl (And.intro hox (And.intro hmu (And.intro hbe hw))))
          clear hxl hox hmu hbe hw hu hu64
          go_wp2_with fail
          go_region
          all_goals go_wp2_with fail
          all_goals (
            go_roundw
            case rel =>
              rw [HR.out.2.2.2.2]
              have hb := HR.out.2.2.2.1
              exact ⟨j + 1, xs.set j ((u + 2) % 18446744073709551616), by omega, by go_num, by rw [List.length_set]; exact HR.out.1, (own_put HR.out.2.1 j _ (by omega)).drew, (HR.out.2.2.1.set _ _).drew, by ((repeat (first | refine Below.drew ?_ | refine Below.alloc ?_ (by first | omega | (simp; done) | (simp; omega)) _ | refine Below.setCell ?_ (by first | omega | (simp; done) | (simp; omega)) _)); first | exact Below.refl _ _ | assumption | exact below_drewN _ (Below.refl _ _) | exact below_drewN _ (below_drewN _ (Below.refl _ _)))⟩
            case measure => simp [intOf]; omega)
        · have HM2 := Lib.hid (And.intro hmu hbe)
          clear hox hxl hmu hbe O6 C6
          have hsx : W4.heap.size ≤ wr.heap.size := HM2.out.2.size
          have NX := Lib.hid (HN.out.below HM2.out.2 (Nat.le_refl _) (Nat.le_refl _))
          have BX := Lib.hid (HM.out.2.trans (HM2.out.2.mono HM.out.2.size))
          go_wp2_with fail
          refine (nWith_ent (nd_ent NX.out)).mono ?_
          rintro e w' ⟨rfl, rfl⟩
          go_wp2_with fail
          refine (nWithout_ent (nd_ent NX.out) a).mono ?_
          rintro e w' ⟨rfl, rfl⟩
          go_wp2_with fail
          refine (nFrom_ent (nd_ent NX.out) a).mono ?_
          rintro e w' ⟨rfl, rfl⟩
          go_wp2_with fail
          refine (nUpTo_ent (nd_ent NX.out) a).mono ?_
          rintro e w' ⟨rfl, rfl⟩
          go_wp2_with fail
          have b7 := below_alloc wr (.cells #[.slice A us.length c, .int .u64 (v : Int)] 31)
          have B7 := Lib.hid (Below.andThen BX.out b7)
          have N7 := Lib.hid (NX.out.below b7 hsx (Nat.le_refl _))
          have hEn : Ents (wr.alloc (.cells #[.slice A us.length c, .int .u64 (v : Int)] 31)) (wr.alloc (.cells #[.slice A us.length c, .int .u64 (v : Int)] 31)).heap.size (some ⟨wr.heap.size, 0, none⟩) [(us, v)] := by
            intro _
            refine ⟨wr.heap.size, 0, rfl, by simp, fun i e he => ?_⟩
            match i, he with
            | 0, he =>
              simp only [List.getElem?_cons_zero, Option.some.injEq] at he
              subst he
              exact ⟨A, c, (cells2 wr _ _ 31).1, (cells2 wr _ _ 31).2.1, ((HX.out.1.below' B7.out (Nat.le_refl _)).keep B7.out.size (fun _ _ => rfl)), by unfold maxLen; show us.length ≤ _; omega, HX.out.2.2⟩
            | i + 1, he => simp at he
          have E7 := Lib.hid hEn
          clear b7 hEn
          have hs7 : W4.heap.size ≤ (wr.alloc (.cells #[.slice A us.length c, .int .u64 (v : Int)] 31)).heap.size := by simp; omega
          generalize wr.alloc _ = W7 at *
          refine (is_ent (N7.out.below (below_drewN 0 (Below.refl _ _)) hs7 hs7) E7.out (Nat.le_refl _)).mono ?_
          rintro e w8 ⟨rfl, hb8⟩
          have B8 := Lib.hid (Below.andThen B7.out hb8)
          have N8 := Lib.hid (N7.out.below hb8 hs7 (Nat.le_refl _))
          have hs8 := Nat.le_trans hs7 hb8.size
          clear hb8
          obtain ⟨r, hr⟩ : ∃ r, decide (us = qs) = r := ⟨_, rfl⟩
          have HC : Hid (Calls Tryd.prog 15 #[.pointer (some ⟨g, 0, none⟩), .slice C qs.length d] w8 fun e w' => e = .returned (.bool r) ∧ w8 = w') := Lib.hid (by
            rcases Nat.decEq us.length qs.length with hne | heq
            · have : r = false := by rw [← hr]; exact decide_eq_false (fun e => hne (by rw [e]))
              subst this
              exact nCovers_dim (nd_ent N8.out) h16 C qs.length d (by unfold maxLen; omega) hne
            · have hqp := HX.out.2.1.below' B8.out (Nat.le_refl _)
              refine nCovers_c (nd_ent N8.out) h1 h16 C qs d (hqp.keep HM.out.2.size (fun _ _ => rfl)) heq r ?_
              rw [← hr, Bool.eq_iff_iff, decide_eq_true_eq, decide_eq_true_eq, ← Z.part_neg heq HX.out.1.1 HX.out.2.1.1]
              omega)
          have HR := Lib.hid hr
          have hrr : (r == r) = true := by simp
          clear hr
          go_wp2_with fail
          refine HC.out.mono ?_
          rintro e w' ⟨rfl, rfl⟩
          go_wp2_with fail
          refine (rsame_c A C c d us qs w.heap.size _ (HX.out.1.below' B8.out (Nat.le_refl _)) (HX.out.2.1.below' B8.out (Nat.le_refl _)) B8.out.size (by unfold maxLen; omega)).mono ?_
          rintro e w9 ⟨he, hb9⟩
          rw [HR.out] at he
          subst he
          have B9 := Lib.hid (Below.andThen B8.out hb9)
          have N9 := Lib.hid (N8.out.below hb9 hs8 (Nat.le_refl _))
          clear hb9
          go_wp2_with fail
          refine (nKid_ent (nd_ent N9.out) a).mono ?_
          rintro e w' ⟨rfl, n, rfl⟩
          go_wp2_with fail
          go_ret
          exact ⟨rfl, below_drewN _ B9.out⟩
theorem nodeLeaf_c (A C : Option Addr) (us qs : List Nat) (c d v : Nat) (a : Int) (w : World) (hp : Pts w w.heap.size A us) (hq : Pts w w.heap.size C qs) (hm : us.length ≤ maxLen) (hm' : qs.length ≤ maxLen) (hv : v < 18446744073709551616) :
    Calls Tryd.prog 3 #[.slice A us.length c, .slice C qs.length d, .int .u64 (v : Int), .int .i64 a] w fun e w' => e = .returned (.bool true) ∧ Below w.heap.size w w' := by
  by_cases h : 40 < us.length ∨ 40 < qs.length
  · exact nodeLeaf_big A C us.length c qs.length d v a w h hm hm'
  · by_cases hr : 1 ≤ us.length ∧ us.length ≤ 16
    · exact nodeLeaf_go A C us qs c d v a w hp hq (by omega) hr.1 hr.2 hv
    · exact nodeLeaf_dim A C us c qs.length d v a w hp (by omega) (by omega) hr
theorem nodeLeaf_w (A C : Option Addr) (us qs : List Nat) (c d : Nat) (v a : Int) (w : World) (hp : Pts w w.heap.size A us) (hq : Pts w w.heap.size C qs) (hm : us.length ≤ maxLen) (hm' : qs.length ≤ maxLen) (hv : (Lit.int .u64 v).wf = true) :
    Calls Tryd.prog 3 #[.slice A us.length c, .slice C qs.length d, .int .u64 v, .int .i64 a] w fun e w' => e = .returned (.bool true) ∧ Below w.heap.size w w' := by
  have hb := bounds_u64 hv
  obtain ⟨n, rfl⟩ : ∃ n : Nat, v = (n : Int) := ⟨v.toNat, by omega⟩
  exact nodeLeaf_c A C us qs c d n a w hp hq hm hm' (by omega)
end Go.Proofs.YtlmlflaiaebemaaDoor
