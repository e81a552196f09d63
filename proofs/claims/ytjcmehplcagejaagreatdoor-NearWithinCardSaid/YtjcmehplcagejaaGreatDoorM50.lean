import Derived.Test.YtjcmehplcagejaaGreatDoorM01
import Derived.Test.YtjcmehplcagejaaGreatDoorM04
import Derived.BigQuiet
import Derived.Lib.Mul64
import Derived.Laws.Bits64b
import Derived.Deep.Cut
import Derived.Deep.RegionHeld
import Derived.Shelf.Abstract
import Derived.BigRegion
/-
  CONTRACTS of package box, first part: alike, Right, isEmpty, Empty, sum, product, difference.
-/
namespace Go.Proofs.YtjcmehplcagejaaGreatDoor
open Go.ChangeShapes Go.WideShapes Go.ChangeAt Go.RowKit

/-- a box as a value -/
abbrev boxV (A : Option Addr) (n c : Nat) (A' : Option Addr) (n' c' : Nat) : Value := .agg #[.slice A n c, .slice A' n' c']
/-- block b holds the box -/
def BoxAt (w : World) (b : Nat) (A : Option Addr) (n c : Nat) (A' : Option Addr) (n' c' : Nat) : Prop :=
  w.cell? ⟨b, 0, none⟩ = some (.slice A n c) ∧ w.cell? ⟨b, 1, none⟩ = some (.slice A' n' c')
theorem boxAt_new (w : World) (A : Option Addr) (n c : Nat) (A' : Option Addr) (n' c' : Nat) : BoxAt (w.alloc (.cells #[.slice A n c, .slice A' n' c'] 25)) w.heap.size A n c A' n' c' :=
  ⟨by rw [World.cell?_alloc_new]; rfl, by rw [World.cell?_alloc_new]; rfl⟩
theorem BoxAt.below {w w' : World} {b C : Nat} {A : Option Addr} {n c : Nat} {A' : Option Addr} {n' c' : Nat} (h : BoxAt w b A n c A' n' c') (hb : Below C w w') (hC : b < C) : BoxAt w' b A n c A' n' c' :=
  ⟨(hb.cell (p := ⟨b, 0, none⟩) hC).trans h.1, (hb.cell (p := ⟨b, 1, none⟩) hC).trans h.2⟩

/-! ### alike -/
theorem balike_c (A A' : Option Addr) (n c n' c' : Nat) (w : World) (hn : n ≤ maxLen) :
    Calls Tryz.prog 187 #[.slice A n c, .slice A' n' c'] w fun e w' => e = .returned (.bool (decide ((1 ≤ n ∧ n ≤ 16) ∧ n = n'))) ∧ w = w' := by
  by_cases h : 1 ≤ n ∧ n ≤ 16
  · obtain ⟨h1, h2⟩ := h
    unfold maxLen at hn
    go_enter Tryz.func187, Tryz.ntmps187
    go_wp2_with (go_at_call 118; refine (right_yes _ _ _ _ h1 h2).mono ?_; rintro e w' ⟨rfl, rfl⟩)
    all_goals go_ret
    all_goals refine ⟨ret_bool ?_, rfl⟩
    all_goals rw [Bool.eq_iff_iff]
    all_goals simp
    all_goals omega
  · have Hn := Lib.hid hn
    have H := Lib.hid h
    clear h
    unfold maxLen at hn
    go_enter Tryz.func187, Tryz.ntmps187
    go_wp2_with (go_at_call 118; refine (right_no _ _ _ _ Hn.out H.out).mono ?_; rintro e w' ⟨rfl, rfl⟩)
    all_goals go_ret
    all_goals refine ⟨ret_bool ?_, rfl⟩
    have := H.out
    rw [Bool.eq_iff_iff]
    simp
    omega
theorem balike_yes (A A' : Option Addr) (n c n' c' : Nat) (w : World) (h1 : 1 ≤ n) (h16 : n ≤ 16) (h : n = n') :
    Calls Tryz.prog 187 #[.slice A n c, .slice A' n' c'] w fun e w' => e = .returned (.bool true) ∧ w = w' :=
  (balike_c A A' n c n' c' w (by unfold maxLen; omega)).mono fun _ _ ⟨he, hw⟩ => ⟨by rw [he, decide_eq_true ⟨⟨h1, h16⟩, h⟩], hw⟩
/-! ### Right -/
theorem bright_yes (A A' : Option Addr) (n c n' c' : Nat) (w : World) (h1 : 1 ≤ n) (h16 : n ≤ 16) (h : n = n') :
    Calls Tryz.prog 149 #[boxV A n c A' n' c'] w fun e w' => e = .returned (.bool true) ∧ w' = w.alloc (.cells #[.slice A n c, .slice A' n' c'] 25) := by
  have H := Lib.hid h
  clear h
  go_enter Tryz.func149, Tryz.ntmps149
  go_wp2_with (go_at_call 187; refine (balike_yes _ _ _ _ _ _ _ h1 h16 H.out).mono ?_; rintro e w' ⟨rfl, rfl⟩)
  go_ret
  exact ⟨rfl, rfl⟩
/-! ### sum, product, difference -/
theorem bdif_c (x y : Nat) (w : World) (hx : x < 18446744073709551616) (hy : y < 18446744073709551616) :
    Calls Tryz.prog 230 #[.int .u64 (x : Int), .int .u64 (y : Int)] w fun e w' => e = .returned (.int .u64 ((Bx.dif x y : Nat) : Int)) ∧ w = w' := by
  go_enter Tryz.func230, Tryz.ntmps230
  go_wp2
  all_goals go_ret
  all_goals refine ⟨ret_int ?_, rfl⟩
  all_goals unfold Bx.dif
  all_goals omega
end Go.Proofs.YtjcmehplcagejaaGreatDoor

/-
  CONTRACTS of package box, second part: isEmpty, Empty, Volume.
-/
namespace Go.Proofs.YtjcmehplcagejaaGreatDoor
open Go.ChangeShapes Go.WideShapes Go.ChangeAt Go.RowKit

/-- a point that can be read, not empty: its cells -/
theorem Pts.at {w : World} {B : Nat} {A : Option Addr} {us : List Nat} (h : Pts w B A us) (h1 : 1 ≤ us.length) :
    ∃ b off, A = some ⟨b, off, none⟩ ∧ b < B ∧ ∀ i, i < us.length → w.cell? ⟨b, off + i, none⟩ = some (.int .u64 (Bx.g us i : Int)) := by
  obtain ⟨b, off, hA, hb, hc⟩ := h.open_ (by rintro rfl; simp at h1)
  exact ⟨b, off, hA, hb, fun i hi => hc i _ (Bx.g_get hi)⟩

theorem bisEmpty_c (A A' : Option Addr) (c c' : Nat) (lo hi : List Nat) (B : Nat) (w : World) (hp : Pts w B A lo) (hq : Pts w B A' hi) (hB : B ≤ w.heap.size) (h1 : 1 ≤ lo.length) (h16 : lo.length ≤ 16) (hlen : lo.length = hi.length) :
    Calls Tryz.prog 229 #[boxV A lo.length c A' hi.length c'] w fun e w' => e = .returned (.bool (Bx.emp lo hi lo.length)) ∧ w' = w.alloc (.cells #[.slice A lo.length c, .slice A' hi.length c'] 25) := by
  have hp1 := hp.below' (below_alloc w (.cells #[.slice A lo.length c, .slice A' hi.length c'] 25)) hB
  have hq1 := hq.below' (below_alloc w (.cells #[.slice A lo.length c, .slice A' hi.length c'] 25)) hB
  obtain ⟨b, off, hA, hb, hc⟩ := hp1.at h1
  obtain ⟨b', off', hA', hb', hc'⟩ := hq1.at (by omega)
  have hbx := boxAt_new w A lo.length c A' hi.length c'
  have hlg := fun i => Bx.g_lt hp.ok i
  have hhg := fun i => Bx.g_lt hq.ok i
  have h2 : 1 ≤ hi.length := by omega
  have h26 : hi.length ≤ 16 := by omega
  have Hl := Lib.hid hlen
  obtain ⟨k0, k1⟩ := hbx
  subst hA hA'
  clear hp hq hp1 hq1 hlen
  go_enter Tryz.func229, Tryz.ntmps229
  go_wp2
  generalize hW : w.alloc _ = W at *
  go_loop [3, 4, 8] (fun _ _ i => ∃ k : Nat, k ≤ lo.length ∧ i = .int .i64 k ∧ Bx.emp lo hi k = false) (fun _ _ i => lo.length - (intOf i).toNat)
  case atStart => exact ⟨0, Nat.zero_le _, rfl, rfl⟩
  case round =>
    obtain ⟨k, hk, rfl, hem⟩ := hrel
    have Hem := Lib.hid hem
    clear hem
    by_cases hlt : k < lo.length
    · have hcell := hc k hlt
      have hcell' := hc' k (by have := Hl.out; omega)
      have b1 := hlg k
      have b2 := hhg k
      have hlt' : k < hi.length := by have := Hl.out; omega
      clear hc hc' hlg hhg
      by_cases hcmp : Bx.g hi k < Bx.g lo k
      · have hfin : Hid (Bx.emp lo hi lo.length = true) := Lib.hid (Bx.emp_at (j := k + 1) (by simp [Bx.emp, hcmp]) (by omega))
        generalize Bx.g lo k = x at *
        generalize Bx.g hi k = y at *
        go_wp2
        go_ret
        exact ⟨by rw [hfin.out]; rfl, rfl⟩
      · have hst : Hid (Bx.emp lo hi (k + 1) = false) := Lib.hid (by simp [Bx.emp, Hem.out]; omega)
        generalize Bx.g lo k = x at *
        generalize Bx.g hi k = y at *
        go_wp2
        go_round
        case rel => exact ⟨k + 1, by omega, by go_num, hst.out⟩
        case measure => simp [intOf]; omega
    · have hfin : Hid (Bx.emp lo hi lo.length = false) := Lib.hid (by rw [show lo.length = k by omega]; exact Hem.out)
      clear hc hc' hlg hhg
      go_wp2
      go_ret
      exact ⟨by rw [hfin.out]; rfl, rfl⟩

/-! ### the same, said of what is left of the world -/
theorem bright_y (A A' : Option Addr) (n c n' c' : Nat) (w : World) (h1 : 1 ≤ n) (h16 : n ≤ 16) (h : n = n') :
    Calls Tryz.prog 149 #[boxV A n c A' n' c'] w fun e w' => e = .returned (.bool true) ∧ Below w.heap.size w w' :=
  (bright_yes A A' n c n' c' w h1 h16 h).mono fun _ _ ⟨he, hw⟩ => ⟨he, by rw [hw]; exact below_alloc _ _⟩
theorem bisEmpty_b (A A' : Option Addr) (c c' : Nat) (lo hi : List Nat) (B : Nat) (w : World) (r : Bool) (hr : Bx.emp lo hi lo.length = r) (hp : Pts w B A lo) (hq : Pts w B A' hi) (hB : B ≤ w.heap.size) (h1 : 1 ≤ lo.length) (h16 : lo.length ≤ 16) (hlen : lo.length = hi.length) :
    Calls Tryz.prog 229 #[boxV A lo.length c A' hi.length c'] w fun e w' => e = .returned (.bool r) ∧ Below w.heap.size w w' :=
  (bisEmpty_c A A' c c' lo hi B w hp hq hB h1 h16 hlen).mono fun _ _ ⟨he, hw⟩ => ⟨by rw [he, hr], by rw [hw]; exact below_alloc _ _⟩

/-! ### Empty -/
/-! ### Volume -/
end Go.Proofs.YtjcmehplcagejaaGreatDoor

/-
  CONTRACTS of package box, third part: In, Far, FarBox.
-/
namespace Go.Proofs.YtjcmehplcagejaaGreatDoor
open Go.ChangeShapes Go.WideShapes Go.ChangeAt Go.RowKit

/-! ### In -/
/-! ### Far -/
theorem max_cast (a b : Nat) : max (a : Int) (b : Int) = ((max a b : Nat) : Int) := by omega
/-! ### FarBox -/
set_option maxRecDepth 100000 in
set_option maxHeartbeats 400000 in
theorem bfarBox_yes (A A' C : Option Addr) (c c' d : Nat) (lo hi us : List Nat) (B : Nat) (w : World) (n : Nat) (hn : Bx.far us (Bx.near lo hi us) us.length = n) (hr : Bx.emp lo hi lo.length = false) (hp : Pts w B A lo) (hq : Pts w B A' hi) (hu : Pts w B C us) (hB : B ≤ w.heap.size) (h1 : 1 ≤ lo.length) (h16 : lo.length ≤ 16) (hlen : lo.length = hi.length) (hlen2 : lo.length = us.length) :
    Calls Tryz.prog 207 #[boxV A lo.length c A' hi.length c', .slice C us.length d] w fun e w' => e = .returned (.tuple #[.int .u64 (n : Int), .int .i64 0]) ∧ Below w.heap.size w w' := by
  have Hl := Lib.hid hlen
  have Hl2 := Lib.hid hlen2
  have Hr := Lib.hid hr
  have Hn := Lib.hid hn
  have hw0 := below_alloc w (.cells #[.slice A lo.length c, .slice A' hi.length c'] 25)
  have hbx := boxAt_new w A lo.length c A' hi.length c'
  have hp0 := hp.below' hw0 hB
  have hq0 := hq.below' hw0 hB
  have hu0 := hu.below' hw0 hB
  have hB0 := Nat.le_trans hB hw0.size
  have h2 : 1 ≤ hi.length := by omega
  have h26 : hi.length ≤ 16 := by omega
  have h3 : 1 ≤ us.length := by omega
  have h36 : us.length ≤ 16 := by omega
  have hlg := fun i => Bx.g_lt hp.ok i
  have hhg := fun i => Bx.g_lt hq.ok i
  have hug := fun i => Bx.g_lt hu.ok i
  have hfg := fun i => Bx.far_lt hu.ok (Bx.near_ok (lo := lo) (p := us) hq.ok) i
  clear hlen hlen2 hr hn
  go_enter Tryz.func207, Tryz.ntmps207
  go_wp2_with (first
    | (go_at_call 149; refine (bright_y _ _ _ _ _ _ _ h1 h16 Hl.out).mono ?_; rintro e w1 ⟨rfl, hb1⟩; have hp1 := hp0.below' hb1 hB0; have hq1 := hq0.below' hb1 hB0; have hu1 := hu0.below' hb1 hB0; have hbx1 := hbx.below hb1 (by simp); obtain ⟨k0, k1⟩ := hbx1)
    | (go_at_call 187; refine (balike_yes _ _ _ _ _ _ _ h1 h16 Hl2.out).mono ?_; rintro e w' ⟨rfl, rfl⟩)
    | (go_at_call 229; refine (bisEmpty_b _ _ _ _ lo hi _ _ false Hr.out hp1 hq1 (Nat.le_trans hB0 hb1.size) h1 h16 Hl.out).mono ?_; rintro e w2 ⟨rfl, hb2⟩; have hp2 := hp1.below' hb2 (Nat.le_trans hB0 hb1.size); have hq2 := hq1.below' hb2 (Nat.le_trans hB0 hb1.size); have hu2 := hu1.below' hb2 (Nat.le_trans hB0 hb1.size); have hbx2 := BoxAt.below ⟨k0, k1⟩ hb2 (Nat.lt_of_lt_of_le (by simp) hb1.size); obtain ⟨j0, j1⟩ := hbx2))
  have hbel := Below.andThen (Below.andThen hw0 hb1) hb2
  obtain ⟨b, off, hA, hb, hc⟩ := hp2.at h1
  obtain ⟨b', off', hA', hb', hc'⟩ := hq2.at h2
  obtain ⟨b2, off2, hA2, hb2', hc2⟩ := hu2.at h3
  subst hA hA' hA2
  clear hp hq hu hp0 hq0 hu0 hp1 hq1 hu1 hp2 hq2 hu2 hb1 hb2 hbx hw0 k0 k1
  go_loopw [6, 7, 8, 9, 24] (fun v _ _ _ i wr => ∃ k : Nat, k ≤ us.length ∧ i = .int .i64 k ∧ v = .int .u64 (Bx.far us (Bx.near lo hi us) k : Int) ∧ ∃ nd, wr = w2.drewN nd) (fun _ _ _ _ i _ => us.length - (intOf i).toNat)
  case atStart => exact ⟨0, Nat.zero_le _, rfl, rfl, 0, rfl⟩
  case round =>
    obtain ⟨k, hk, rfl, rfl, nd, rfl⟩ := hrel
    have v1 := hfg k
    by_cases hlt : k < us.length
    · have hl1 : k < lo.length := by have := Hl2.out; omega
      have hl2 : k < hi.length := by have := Hl2.out; have := Hl.out; omega
      have hcell := hc k hl1
      have hcell' := hc' k hl2
      have hcell2 := hc2 k hlt
      have b1 := hlg k
      have b2 := hhg k
      have b3 := hug k
      have b4 : Hid (Bx.nearG lo hi us k < 18446744073709551616) := Lib.hid (by unfold Bx.nearG; omega)
      have b5 : Hid (Bx.dif (Bx.g us k) (Bx.nearG lo hi us k) < 18446744073709551616) := Lib.hid (Bx.dif_lt b3 b4.out)
      have hst := Lib.hid (Bx.far_near_succ lo hi us k hlt)
      have hnear : Hid (min (max (Bx.g us k : Int) (Bx.g lo k : Int)) (Bx.g hi k : Int) = (Bx.nearG lo hi us k : Int)) := Lib.hid (by unfold Bx.nearG; omega)
      clear hc hc' hc2 hlg hhg hug hfg
      generalize Bx.nearG lo hi us k = t at *
      generalize Bx.g lo k = x at *
      generalize Bx.g hi k = y at *
      generalize Bx.g us k = z at *
      generalize Bx.far us (Bx.near lo hi us) k = v at *
      go_wp2
      go_quiet (fail)
      go_wp2_with (go_at_call 230; rw [hnear.out]; refine (bdif_c z t _ b3 b4.out).mono ?_; rintro e w' ⟨rfl, rfl⟩)
      go_roundw
      case rel => exact ⟨k + 1, by omega, by go_num, by rw [hst.out, max_cast], _, rfl⟩
      case measure => simp [intOf]; omega
    · have hfin : Hid (Bx.far us (Bx.near lo hi us) k = n) := Lib.hid (by rw [← Hn.out, show us.length = k by omega])
      clear hc hc' hc2 hlg hhg hug hfg
      go_wp2
      go_ret2
      exact ⟨by rw [hfin.out]; rfl, below_drewN _ hbel⟩

end Go.Proofs.YtjcmehplcagejaaGreatDoor

/-
  CONTRACTS of package box, fourth part: boxOf, whatever function tells the ends.
-/
namespace Go.Proofs.YtjcmehplcagejaaGreatDoor
open Go.ChangeShapes Go.WideShapes Go.ChangeAt Go.RowKit

/-- block b holds x and y, and may be written -/
def Bx0 (w : World) (b : Nat) (x y : Value) : Prop := w.cell? ⟨b, 0, none⟩ = some x ∧ w.cell? ⟨b, 1, none⟩ = some y ∧ w.frozen? ⟨b, 0, none⟩ = false ∧ w.frozen? ⟨b, 1, none⟩ = false
theorem bx0_at {w : World} {b : Nat} {x y : Value} {e : TypeId} (h : w.heap[b]? = some (.cells #[x, y] e (0, 0))) : Bx0 w b x y :=
  ⟨by rw [cell_of_row w b _ _ e (0, 0) h]; rfl, by rw [cell_of_row w b _ _ e (0, 0) h]; rfl, frozen_of_row w b _ _ e h, frozen_of_row w b _ _ e h⟩
theorem bx0_block {w w' : World} {b : Nat} {x y : Value} (h : Bx0 w b x y) (hb : w'.heap[b]? = w.heap[b]?) : Bx0 w' b x y :=
  ⟨(World.cell?_of_block (w := w) (a := ⟨b, 0, none⟩) hb).trans h.1, (World.cell?_of_block (w := w) (a := ⟨b, 1, none⟩) hb).trans h.2.1, (World.frozen?_of_block (w := w) (a := ⟨b, 0, none⟩) hb).trans h.2.2.1, (World.frozen?_of_block (w := w) (a := ⟨b, 1, none⟩) hb).trans h.2.2.2⟩
theorem bx0_two {w : World} {b : Nat} {u v : Value} (h : Bx0 w b u v) (x y : Value) :
    ((w.setCell ⟨b, 0, none⟩ x).setCell ⟨b, 1, none⟩ y).cell? ⟨b, 0, none⟩ = some x ∧ ((w.setCell ⟨b, 0, none⟩ x).setCell ⟨b, 1, none⟩ y).cell? ⟨b, 1, none⟩ = some y := by
  have h1 : (w.setCell ⟨b, 0, none⟩ x).cell? ⟨b, 1, none⟩ = some v := by rw [World.cell?_setCell_other _ _ _ _ (by simp)]; exact h.2.1
  refine ⟨?_, World.cell?_setCell_same _ _ _ h1⟩
  rw [World.cell?_setCell_other _ _ _ _ (by simp)]
  exact World.cell?_setCell_same _ _ _ h.1
theorem bx0_below {w w' : World} (h : Below w.heap.size w w') (x y : Value) :
    Below w.heap.size w ((w'.setCell ⟨w.heap.size, 0, none⟩ x).setCell ⟨w.heap.size, 1, none⟩ y) :=
  (h.setCell (p := ⟨w.heap.size, 0, none⟩) (Nat.le_refl _) x).setCell (p := ⟨w.heap.size, 1, none⟩) (Nat.le_refl _) y

/-- a row of the call's own in block g: the first j numbers told by f -/
def Row (w : World) (base g k j : Nat) (f : Nat → Nat) (Zs : List Value) : Prop :=
  base ≤ g ∧ g < w.heap.size ∧ w.ownsRow base 46 1 (.slice (some ⟨g, 0, none⟩) k k) k ((vals (Bx.tab k f)).take j ++ Zs.drop j)
theorem row_new {w : World} {base g k : Nat} {f : Nat → Nat} {Zs : Array Value} (hb : base ≤ g) (hk : k ≤ maxLen) (hz : Zs.size = k) (h : w.heap[g]? = some (.cells Zs 46 (0, 0))) : Row w base g k 0 f Zs.toList := by
  refine ⟨hb, (Array.getElem?_eq_some_iff.1 h).1, ?_⟩
  rw [List.take_zero, List.nil_append, List.drop_zero]
  exact ⟨by simpa using hz, .inr ⟨g, k, Zs, rfl, hb, h, Nat.le_refl _, hk, by simpa using hz, List.take_of_length_le (by simp [hz])⟩⟩
theorem row_block {w w' : World} {base g k j : Nat} {f : Nat → Nat} {Zs : List Value} (h : Row w base g k j f Zs) (hs : w.heap.size ≤ w'.heap.size) (hb : w'.heap[g]? = w.heap[g]?) : Row w' base g k j f Zs := by
  refine ⟨h.1, Nat.lt_of_lt_of_le h.2.1 hs, h.2.2.1, ?_⟩
  rcases h.2.2.2 with h2 | ⟨g', cap, cur, hv, hg, hh, r⟩
  · exact .inl h2
  · simp only [Value.slice.injEq, Option.some.injEq, Addr.mk.injEq, and_true, true_and] at hv
    obtain ⟨rfl, rfl⟩ := hv
    exact .inr ⟨g, k, cur, rfl, hg, hb.trans hh, r⟩
theorem row_cell {w : World} {base g k j : Nat} {f : Nat → Nat} {Zs : List Value} (h : Row w base g k j f Zs) {i : Nat} (hi : i < k) : ∃ x, w.cell? ⟨g, i, none⟩ = some x := by
  rw [h.2.2.cellAt i (by omega)]
  exact get_lt (by have := h.2.2.1; omega)
theorem row_store {w : World} {base g k j : Nat} {f : Nat → Nat} {Zs : List Value} (h : Row w base g k j f Zs) (hz : Zs.length = k) (hj : j < k) : Row (w.setCell ⟨g, j, none⟩ (.int .u64 (f j : Int))) base g k (j + 1) f Zs := by
  refine ⟨h.1, by simpa using h.2.1, ?_⟩
  rw [← Z.set_front' (vals (Bx.tab k f)) Zs (by rw [vals_length, Bx.tab_length, hz]) j (.int .u64 (f j : Int)) (vals_get (Bx.tab_get f hj))]
  exact (h.2.2.stored j _).1
theorem row_done {w : World} {base g k j : Nat} {f : Nat → Nat} {Zs : List Value} (h : Row w base g k j f Zs) (hz : Zs.length = k) (hj : j = k) (hf : ∀ i, i < k → f i < 18446744073709551616) : Own w base (.slice (some ⟨g, 0, none⟩) k k) (Bx.tab k f) := by
  subst hj
  refine ⟨Bx.tab_ok hf, ?_⟩
  rw [Bx.tab_length]
  have h2 := h.2.2
  rw [List.take_of_length_le (by rw [vals_length, Bx.tab_length]; omega), List.drop_of_length_le (by omega), List.append_nil] at h2
  exact h2

theorem own_store {w : World} {base : Nat} {v : Value} {us : List Nat} (h : Own w base v us) {a : Addr} (ha : v.ownBlock ≠ some a.block) (u : Value) : Own (w.setCell a u) base v us :=
  ⟨h.1, ownsRow_setCell_other h.2 ha u⟩
/-- the memory of boxOf: the result's block, its box in block gb, its rows in gl and gh, j of them told -/
def Lay (w wr : World) (gb gl gh k j : Nat) (f h : Nat → Nat) (Zs : List Value) : Prop :=
  Below w.heap.size w wr ∧ Bx0 wr w.heap.size (.slice none 0 0) (.slice none 0 0) ∧ BoxAt wr gb (some ⟨gl, 0, none⟩) k k (some ⟨gh, 0, none⟩) k k ∧ Row wr w.heap.size gl k j f Zs ∧ Row wr w.heap.size gh k j h Zs ∧
    gl ≠ gh ∧ gb ≠ gl ∧ gb ≠ gh ∧ gl ≠ w.heap.size ∧ gh ≠ w.heap.size
theorem lay_start {w wr : World} {gb gl gh k : Nat} {f h : Nat → Nat} {Zs : Array Value} (hk : k ≤ maxLen) (hz : Zs.size = k) (hb : Below w.heap.size w wr)
    (h0 : wr.heap[w.heap.size]? = some (.cells #[.slice none 0 0, .slice none 0 0] 25 (0, 0))) (h1 : wr.heap[gb]? = some (.cells #[.slice (some ⟨gl, 0, none⟩) k k, .slice (some ⟨gh, 0, none⟩) k k] 25 (0, 0)))
    (h2 : wr.heap[gl]? = some (.cells Zs 46 (0, 0))) (h3 : wr.heap[gh]? = some (.cells Zs 46 (0, 0))) (n1 : gl ≠ gh) (n2 : gb ≠ gl) (n3 : gb ≠ gh) (n4 : w.heap.size < gl) (n5 : w.heap.size < gh) : Lay w wr gb gl gh k 0 f h Zs.toList :=
  ⟨hb, bx0_at h0, ⟨(bx0_at h1).1, (bx0_at h1).2.1⟩, row_new (by omega) hk hz h2, row_new (by omega) hk hz h3, n1, n2, n3, by omega, by omega⟩
theorem lay_first {w wr : World} {gb gl gh k : Nat} {f h : Nat → Nat} {Zs : Array Value} (hk : k ≤ maxLen) (hz : Zs.size = k) (hb : Below w.heap.size w wr)
    (h1 : wr.heap[gb]? = some (.cells #[.slice (some ⟨gl, 0, none⟩) k k, .slice (some ⟨gh, 0, none⟩) k k] 25 (0, 0))) (h0 : wr.heap[w.heap.size]? = some (.cells #[.slice none 0 0, .slice none 0 0] 25 (0, 0)))
    (h2 : wr.heap[gl]? = some (.cells Zs 46 (0, 0))) (h3 : wr.heap[gh]? = some (.cells Zs 46 (0, 0))) (n1 : gl ≠ gh) (n2 : gb ≠ gl) (n3 : gb ≠ gh) (n4 : w.heap.size < gl) (n5 : w.heap.size < gh) :
    ∃ gb' gl' gh', Value.pointer (some ⟨gb, 0, none⟩) = .pointer (some ⟨gb', 0, none⟩) ∧ Lay w wr.drew gb' gl' gh' k 0 f h Zs.toList := by
  obtain ⟨x0, x1, x2, x3, x4, x5⟩ := lay_start (f := f) (h := h) hk hz hb h0 h1 h2 h3 n1 n2 n3 n4 n5
  exact ⟨gb, gl, gh, rfl, x0.drew, x1, x2, x3, x4, x5⟩
theorem lay_drewN {w wr : World} {gb gl gh k j : Nat} {f h : Nat → Nat} {Zs : List Value} (n : Nat) (H : Lay w wr gb gl gh k j f h Zs) : Lay w (wr.drewN n) gb gl gh k j f h Zs :=
  ⟨below_drewN n H.1, H.2.1, H.2.2.1, H.2.2.2.1, H.2.2.2.2⟩
theorem lay_step {w wr : World} {gb gl gh k j : Nat} {f h : Nat → Nat} {Zs : List Value} (hz : Zs.length = k) (hj : j < k) (H : Lay w wr gb gl gh k j f h Zs) :
    Lay w ((wr.setCell ⟨gl, j, none⟩ (.int .u64 (f j : Int))).setCell ⟨gh, j, none⟩ (.int .u64 (h j : Int))) gb gl gh k (j + 1) f h Zs := by
  obtain ⟨hb, h0, h1, h2, h3, n1, n2, n3, n4, n5⟩ := H
  have e : ∀ b, b ≠ gl → b ≠ gh → ((wr.setCell ⟨gl, j, none⟩ (.int .u64 (f j : Int))).setCell ⟨gh, j, none⟩ (.int .u64 (h j : Int))).heap[b]? = wr.heap[b]? := fun b x y => by
    rw [Below.heap_setCell _ _ _ _ y, Below.heap_setCell _ _ _ _ x]
  have h1' : BoxAt ((wr.setCell ⟨gl, j, none⟩ (.int .u64 (f j : Int))).setCell ⟨gh, j, none⟩ (.int .u64 (h j : Int))) gb (some ⟨gl, 0, none⟩) k k (some ⟨gh, 0, none⟩) k k :=
    ⟨(World.cell?_of_block (w := wr) (a := ⟨gb, 0, none⟩) (e gb n2 n3)).trans h1.1, (World.cell?_of_block (w := wr) (a := ⟨gb, 1, none⟩) (e gb n2 n3)).trans h1.2⟩
  refine ⟨(hb.setCell (p := ⟨gl, j, none⟩) h2.1 _).setCell (p := ⟨gh, j, none⟩) h3.1 _, bx0_block h0 (e _ (Ne.symm n4) (Ne.symm n5)), h1', ?_, ?_, n1, n2, n3, n4, n5⟩
  · exact row_block (row_store h2 hz hj) (by simp) (Below.heap_setCell _ _ _ _ n1)
  · exact row_store (row_block h3 (by simp) (Below.heap_setCell _ _ _ _ (Ne.symm n1))) hz hj

set_option maxRecDepth 100000 in
set_option maxHeartbeats 400000 in
theorem boxOf_c (k fid b1 b2 : Nat) (f h : Nat → Nat) (w : World) (h1 : 1 ≤ k) (h16 : k ≤ 16) (hf : ∀ i, i < k → f i < 18446744073709551616) (hh : ∀ i, i < k → h i < 18446744073709551616)
    (he : ∀ args w, (callFunc fid args).run Tryz.prog w = .ok (.enter fid args) w)
    (H : ∀ (i : Nat) (wr : World), i < k → Below w.heap.size w wr → Calls Tryz.prog fid #[.int .i64 (i : Int), .pointer (some ⟨b1, 0, none⟩), .pointer (some ⟨b2, 0, none⟩)] wr fun e w' => e = .returned (.tuple #[.int .u64 (f i : Int), .int .u64 (h i : Int)]) ∧ ∃ n, w' = wr.drewN n) :
    Calls Tryz.prog 227 #[.int .i64 (k : Int), .func (.func fid) #[] #[.pointer (some ⟨b1, 0, none⟩), .pointer (some ⟨b2, 0, none⟩)]] w fun e w' =>
      ∃ gl gh, e = .returned (boxV (some ⟨gl, 0, none⟩) k k (some ⟨gh, 0, none⟩) k k) ∧ Own w' w.heap.size (.slice (some ⟨gl, 0, none⟩) k k) (Bx.tab k f) ∧ Own w' w.heap.size (.slice (some ⟨gh, 0, none⟩) k k) (Bx.tab k h) ∧ Below w.heap.size w w' := by
  obtain ⟨i0, hi0, hz0, hz1, hz2⟩ := info_parts info_u64
  have hmk : ∀ (w : World), (Instr.makeSlice 23 (.int .i64 (k : Int)) (.int .i64 (k : Int))).run Tryz.prog w = .ok (.slice (some ⟨w.heap.size, 0, none⟩) k k) (w.alloc (.cells (madeCells (Value.int .u64 0).cells (k * 1)) 46)) := by
    intro w
    have h := run_make (P := Tryz.prog) w 23 46 i0 (.int .u64 0) Tryz.underlying23 hi0 hz0 .i64 .i64 (k : Int) (k : Int) (by omega) (by omega) (by rw [hz2]; omega) (by omega)
    rw [hz1] at h
    simpa using h
  have HZ : Hid ((madeCells (Value.int IntKind.u64 0).cells (k * 1)).size = k) := Lib.hid (by rw [size_madeCells]; omega)
  generalize madeCells (Value.int IntKind.u64 0).cells (k * 1) = Zs at *
  have Hk : Hid (k ≤ maxLen) := Lib.hid (by unfold maxLen; omega)
  have HH := Lib.hid H
  have Hf := Lib.hid hf
  have Hh := Lib.hid hh
  clear H hf hh hi0 hz0 hz1 hz2
  go_enter Tryz.func227, Tryz.ntmps227
  go_upto_region 1 with fail
  go_cut [5] from 6 (fun v wx => ∃ gb gl gh, v = .pointer (some ⟨gb, 0, none⟩) ∧ Lay w wx gb gl gh k 0 f h Zs.toList)
  case first =>
    go_region
    all_goals go_wp2_with fail
    all_goals go_meet
    all_goals (
      apply lay_first Hk.out HZ.out
      case h1 => first | (refine heap_at _ _ _ ?_; simp only [World.size_alloc]; done) | (refine heap_past _ (heap_at _ _ _ ?_); simp only [World.size_alloc]; done) | (refine heap_past _ (heap_past _ (heap_at _ _ _ ?_)); simp only [World.size_alloc]; done)
      case h2 => first | (refine heap_at _ _ _ ?_; simp only [World.size_alloc]; done) | (refine heap_past _ (heap_at _ _ _ ?_); simp only [World.size_alloc]; done) | (refine heap_past _ (heap_past _ (heap_at _ _ _ ?_)); simp only [World.size_alloc]; done)
      case h3 => first | (refine heap_at _ _ _ ?_; simp only [World.size_alloc]; done) | (refine heap_past _ (heap_at _ _ _ ?_); simp only [World.size_alloc]; done) | (refine heap_past _ (heap_past _ (heap_at _ _ _ ?_)); simp only [World.size_alloc]; done)
      case h0 => exact heap_past _ (heap_past _ (heap_past _ (heap_at _ _ _ rfl)))
      case hb => exact (((below_alloc _ _).alloc (by simp) _).alloc (by simp; omega) _).alloc (by simp; omega) _
      all_goals omega)
  case rest =>
  obtain ⟨gb, gl, gh, rfl, hlay⟩ := hcut
  clear hmk
  go_wp2_with fail
  have HZl : Hid (Zs.toList.length = k) := Lib.hid (by simpa using HZ.out)
  go_loopw [6, 13] (fun _ i wr => ∃ j : Nat, j ≤ k ∧ i = .int .i64 j ∧ Lay w wr gb gl gh k j f h Zs.toList) (fun _ i _ => k - (intOf i).toNat)
  case atStart => exact ⟨0, Nat.zero_le _, rfl, hlay⟩
  case round =>
    obtain ⟨j, hj, rfl, hl⟩ := hrel
    clear hlay
    by_cases hlt : j < k
    · obtain ⟨q0, q1⟩ := hl.2.2.1
      have Hl := Lib.hid hl
      clear hl
      have hr1 : j < k := hlt
      obtain ⟨x0, hx0⟩ := row_cell Hl.out.2.2.2.1 hlt
      obtain ⟨y0, hy0⟩ := row_cell Hl.out.2.2.2.2.1 hlt
      have hfr0 := Hl.out.2.2.2.1.2.2.frozenAt j
      have hfr1 := Hl.out.2.2.2.2.1.2.2.frozenAt j
      have hne : gl ≠ gh := Hl.out.2.2.2.2.2.1
      have hne1 : gl ≠ gb := Ne.symm Hl.out.2.2.2.2.2.2.1
      have hne2 : gh ≠ gb := Ne.symm Hl.out.2.2.2.2.2.2.2.1
      go_wp2_with fail
      go_region_held (fun w' => w'.cell? ⟨gb, 0, none⟩ = some (.slice (some ⟨gl, 0, none⟩) k k) ∧ w'.cell? ⟨gb, 1, none⟩ = some (.slice (some ⟨gh, 0, none⟩) k k)) (go_keep)
        (first | (go_at_fn fid; refine (HH.out j _ hlt (by first | exact Hl.out.1.drew | exact below_drewN _ Hl.out.1)).mono ?_; rintro e w2 ⟨rfl, n2, rfl⟩))
      go_wp2_with fail
      go_roundw
      case rel => exact ⟨j + 1, by omega, by go_num, lay_step HZl.out hlt (lay_drewN _ Hl.out)⟩
      case measure => simp [intOf]; omega
    · have hjk : Hid (j = k) := Lib.hid (by omega)
      obtain ⟨q0, q1⟩ := hl.2.2.1
      obtain ⟨r0, r1, r2, r3⟩ := hl.2.1
      have Hl := Lib.hid hl
      clear hl
      go_wp2_with fail
      obtain ⟨k0, k1⟩ := bx0_two Hl.out.2.1 (.slice (some ⟨gl, 0, none⟩) k k) (.slice (some ⟨gh, 0, none⟩) k k)
      have o1 := row_done Hl.out.2.2.2.1 HZl.out hjk.out Hf.out
      have o2 := row_done Hl.out.2.2.2.2.1 HZl.out hjk.out Hh.out
      refine bodyPost_ret (v := boxV (some ⟨gl, 0, none⟩) k k (some ⟨gh, 0, none⟩) k k) (by simp [results, Tryz.results227, go_sem, k0, k1]) rfl ?_
      refine ⟨gl, gh, rfl, ?_, ?_, bx0_below Hl.out.1 _ _⟩
      · exact own_store (own_store o1 (by simpa [Value.ownBlock] using Hl.out.2.2.2.2.2.2.2.2.1) _) (by simpa [Value.ownBlock] using Hl.out.2.2.2.2.2.2.2.2.1) _
      · exact own_store (own_store o2 (by simpa [Value.ownBlock] using Hl.out.2.2.2.2.2.2.2.2.2) _) (by simpa [Value.ownBlock] using Hl.out.2.2.2.2.2.2.2.2.2) _
end Go.Proofs.YtjcmehplcagejaaGreatDoor

/-
  CONTRACTS of package pantileref03 (the document's answers for layer 3), first part: Right, Empty, In, Volume, Far.
-/
namespace Go.Proofs.YtjcmehplcagejaaGreatDoor
open Go.ChangeShapes Go.WideShapes Go.ChangeAt Go.RowKit

/-! ### Right -/
/-! ### Empty -/
/-! ### In -/
/-! ### Far -/
set_option maxRecDepth 100000 in
set_option maxHeartbeats 400000 in
theorem r3far_c (A C : Option Addr) (c d : Nat) (us vs : List Nat) (B : Nat) (w : World) (n : Nat) (hn : Bx.far us vs us.length = n) (hp : Pts w B A us) (hq : Pts w B C vs) (h1 : 1 ≤ us.length) (h16 : us.length ≤ 16) (hlen : us.length = vs.length) :
    Calls Tryz.prog 28 #[.slice A us.length c, .slice C vs.length d] w fun e w' => e = .returned (.int .u64 (n : Int)) ∧ Below w.heap.size w w' := by
  have Hl := Lib.hid hlen
  have Hn := Lib.hid hn
  have h2 : 1 ≤ vs.length := by omega
  have h26 : vs.length ≤ 16 := by omega
  have hlg := fun i => Bx.g_lt hp.ok i
  have hhg := fun i => Bx.g_lt hq.ok i
  have hfg := fun i => Bx.far_lt hp.ok hq.ok i
  obtain ⟨b, off, hA, hb, hc⟩ := hp.at h1
  obtain ⟨b', off', hA', hb', hc'⟩ := hq.at h2
  subst hA hA'
  clear hlen hn hp hq
  go_enter Tryz.func28, Tryz.ntmps28
  go_wp2
  go_loopw [5, 6, 7] (fun v i _ wr => ∃ k : Nat, k ≤ us.length ∧ i = .int .i64 k ∧ v = .int .u64 (Bx.far us vs k : Int) ∧ ∃ nd, wr = w.drewN nd) (fun _ i _ _ => us.length - (intOf i).toNat)
  case atStart => exact ⟨0, Nat.zero_le _, rfl, rfl, 0, rfl⟩
  case round =>
    obtain ⟨k, hk, rfl, rfl, nd, rfl⟩ := hrel
    have v1 := hfg k
    by_cases hlt : k < us.length
    · have hl2 : k < vs.length := by have := Hl.out; omega
      have hcell := hc k hlt
      have hcell' := hc' k hl2
      have b1 := hlg k
      have b2 := hhg k
      have hst : Hid (max (Bx.far us vs k) (Bx.dif (Bx.g us k) (Bx.g vs k)) = Bx.far us vs (k + 1)) := Lib.hid rfl
      clear hc hc' hlg hhg hfg
      generalize Bx.g us k = x at *
      generalize Bx.g vs k = y at *
      generalize Bx.far us vs k = v at *
      by_cases hxy : x < y
      · by_cases hv : v < y - x
        · have hw : Hid (((y : Int) - (x : Int)) = ((y - x : Nat) : Int)) := Lib.hid (by omega)
          have hv2 : (v : Int) < (y : Int) - (x : Int) := by omega
          go_wp2
          go_quiet (fail)
          go_wp2
          go_quiet (fail)
          go_wp2
          go_quiet (fail)
          go_wp2
          go_roundw
          case rel => exact ⟨k + 1, by omega, by go_num, by rw [← hst.out, hw.out]; congr 1; unfold Bx.dif; omega, _, rfl⟩
          case measure => simp [intOf]; omega
        · have hv2 : (y : Int) - (x : Int) ≤ (v : Int) := by omega
          go_wp2
          go_quiet (fail)
          go_wp2
          go_quiet (fail)
          go_wp2
          go_quiet (fail)
          go_wp2
          go_roundw
          case rel => exact ⟨k + 1, by omega, by go_num, by rw [← hst.out]; congr 1; unfold Bx.dif; omega, _, rfl⟩
          case measure => simp [intOf]; omega
      · by_cases hv : v < x - y
        · have hw : Hid (((x : Int) - (y : Int)) = ((x - y : Nat) : Int)) := Lib.hid (by omega)
          have hv2 : (v : Int) < (x : Int) - (y : Int) := by omega
          go_wp2
          go_quiet (fail)
          go_wp2
          go_quiet (fail)
          go_wp2
          go_roundw
          case rel => exact ⟨k + 1, by omega, by go_num, by rw [← hst.out, hw.out]; congr 1; unfold Bx.dif; omega, _, rfl⟩
          case measure => simp [intOf]; omega
        · have hv2 : (x : Int) - (y : Int) ≤ (v : Int) := by omega
          go_wp2
          go_quiet (fail)
          go_wp2
          go_quiet (fail)
          go_wp2
          go_roundw
          case rel => exact ⟨k + 1, by omega, by go_num, by rw [← hst.out]; congr 1; unfold Bx.dif; omega, _, rfl⟩
          case measure => simp [intOf]; omega
    · have hfin : Hid (Bx.far us vs k = n) := Lib.hid (by rw [← Hn.out, show us.length = k by omega])
      clear hc hc' hlg hhg hfg
      go_wp2
      go_ret
      exact ⟨by rw [hfin.out]; rfl, below_drewN _ (Below.refl _ _)⟩

end Go.Proofs.YtjcmehplcagejaaGreatDoor
