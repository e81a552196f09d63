/-
  CONTRACTS of package node, third part: Leaf, Kid, Prefix, Entry, Covers.
-/
import Derived.Test.YtgplbbmenmbaaaaTn2
namespace Go.Proofs.Ytgplbbmenmbaaaa
open Go.ChangeShapes Go.WideShapes Go.ChangeAt Go.RowKit
open Tr (T S4)

/-! ### Leaf -/
theorem nLeaf_dim (A : Option Addr) (n c : Nat) (v : Nat) (w : World) (hn : n ≤ maxLen) (h : ¬ (1 ≤ n ∧ n ≤ 16)) :
    Calls Try.prog 18 #[.slice A n c, .int .u64 (v : Int)] w fun e w' => e = .returned (.tuple #[.pointer none, .int .i64 2]) ∧ w = w' := by
  have H := Lib.hid (right_no A n c w hn h)
  clear hn h
  go_enter Try.func18, Try.ntmps18
  go_wp2_with (go_at_call 36; refine H.out.mono ?_; rintro e w' ⟨rfl, rfl⟩)
  go_ret2
  exact ⟨rfl, rfl⟩
set_option maxRecDepth 100000 in
theorem nLeaf_raw (us : List Nat) (A : Option Addr) (c B : Nat) (v : Nat) (w : World) (hB : B ≤ w.heap.size) (hA : Pts w B A us) (h1 : 1 ≤ us.length) (h16 : us.length ≤ 16) :
    Calls Try.prog 18 #[.slice A us.length c, .int .u64 (v : Int)] w fun e w' => ∃ g h d, e = .returned (.tuple #[.pointer (some ⟨g, 0, none⟩), .int .i64 0]) ∧
      w'.heap[g]? = some (.cells #[.int .i64 (-1), .slice (some ⟨h, 0, none⟩) us.length d, .int .u64 (v : Int), .pointer none, .int .u64 1, .int .u64 (v : Int), .int .u64 (v : Int), .int .u64 (v : Int)] 58 (0, 0)) ∧
      w.heap.size ≤ g ∧ g ≠ h ∧ Own w' w.heap.size (.slice (some ⟨h, 0, none⟩) us.length d) us ∧ Below w.heap.size w w' := by
  have H1 := Lib.hid (right_yes A us.length c w h1 h16)
  have H2 := Lib.hid (clone_pts us A c B w hB hA (by intro h; simp [h] at h1) (by omega))
  clear hA h1 h16
  go_enter Try.func18, Try.ntmps18
  go_wp2_with (first
    | (go_at_call 36; refine H1.out.mono ?_; rintro e w' ⟨rfl, rfl⟩)
    | (go_at_call 34; refine H2.out.mono ?_; rintro e w2 ⟨h, d, rfl, ho, hb⟩))
  go_ret2
  have hh := (ho.2.lt h rfl)
  exact ⟨w2.heap.size, h, d, rfl, by (first | (refine heap_at _ _ _ ?_; simp; done) | (refine heap_past _ (heap_at _ _ _ ?_); simp; done) | (refine heap_past _ (heap_past _ (heap_at _ _ _ ?_)); simp; done) | (refine heap_past _ (heap_past _ (heap_past _ (heap_at _ _ _ ?_))); simp; done)), hb.size, by omega, ho.below (below_alloc _ _) (Nat.le_refl _), hb.trans ((below_alloc w2 _).mono hb.size)⟩
theorem nLeaf_c (us : List Nat) (A : Option Addr) (c B : Nat) (v : Nat) (w : World) (hB : B ≤ w.heap.size) (hA : Pts w B A us) (h1 : 1 ≤ us.length) (h16 : us.length ≤ 16) (hv : v < 18446744073709551616) :
    Calls Try.prog 18 #[.slice A us.length c, .int .u64 (v : Int)] w fun e w' => ∃ g, e = .returned (.tuple #[.pointer (some ⟨g, 0, none⟩), .int .i64 0]) ∧ Node w' w'.heap.size us.length (.ent g us v) ∧ w.heap.size ≤ g ∧ Below w.heap.size w w' := by
  refine (nLeaf_raw us A c B v w hB hA h1 h16).mono ?_
  rintro e w' ⟨g, h, d, rfl, hh, hg, _, ho, hb⟩
  obtain ⟨A', c', hv', hp⟩ := ho.pts
  cases hv'
  exact ⟨g, rfl, ⟨.ent g us v h1 h16 rfl hA.1 hv, .ent g us v (nd_at hp hh (Nat.le_refl _) (Array.getElem?_eq_some_iff.1 hh).1)⟩, hg, hb⟩

/-! ### Kid -/
theorem nKid_nil (a : Int) (w : World) : Calls Try.prog 16 #[.pointer none, .int .i64 a] w fun e w' => e = .returned (.pointer none) ∧ w = w' := by
  go_enter Try.func16, Try.ntmps16
  go_wp2
  go_ret
  exact ⟨rfl, rfl⟩
theorem nKid_ent {w : World} {B g : Nat} {lev : Int} {pre : List Nat} {v : Nat} {s : S4} (h : NdAt w B g lev pre v none s) (a : Int) :
    Calls Try.prog 16 #[.pointer (some ⟨g, 0, none⟩), .int .i64 a] w fun e w' => e = .returned (.pointer none) ∧ ∃ n, w' = w.drewN n := by
  obtain ⟨-, -, -, -, h3, -⟩ := h
  go_enter Try.func16, Try.ntmps16
  go_wp2_with (go_at_call 35; refine (Sn.sGet_nil a _).mono ?_; rintro e w' ⟨rfl, rfl⟩)
  go_ret
  exact ⟨rfl, 0, rfl⟩
theorem nKid_br {w : World} {B B' g b k : Nat} {lev : Int} {pre : List Nat} {v : Nat} {s : S4} {L : Sn.Al} (h : NdAt w B g lev pre v (some ⟨b, 0, none⟩) s) (ha : Sn.At w B' b k L) (a : Int) (x : Option Addr) (hx : (Sl.get L a).getD none = x) :
    Calls Try.prog 16 #[.pointer (some ⟨g, 0, none⟩), .int .i64 a] w fun e w' => e = .returned (.pointer x) ∧ ∃ n, w' = w.drewN n := by
  obtain ⟨-, -, -, -, h3, -⟩ := h
  have H := Lib.hid (Sn.sGet_c ha.1 ha.2 a x _ hx rfl)
  clear ha hx
  go_enter Try.func16, Try.ntmps16
  go_wp2_with (go_at_call 35; refine H.out.mono ?_; rintro e w' ⟨rfl, n, rfl⟩)
  go_ret
  exact ⟨rfl, _, rfl⟩
theorem kidL_nil : kidL [] = [] := rfl
/-- Kid, OF ANY NODE -/
theorem nKid_c {w : World} {B k : Nat} {t : T} (h : Mem w B k t) (a : Int) (x : Option Addr) (hx : (Sl.get (kidL t.ks) a).getD none = x) :
    Calls Try.prog 16 #[.pointer (some ⟨t.blk, 0, none⟩), .int .i64 a] w fun e w' => e = .returned (.pointer x) ∧ ∃ n, w' = w.drewN n := by
  cases h with
  | ent g p v h =>
    have : x = none := by rw [← hx]; rfl
    subst this
    exact nKid_ent h a
  | br g l pre ks b h ha hk => exact nKid_br h ha a x hx

/-! ### Prefix, Entry -/
theorem nPrefix_nil (w : World) : Calls Try.prog 15 #[.pointer none] w fun e w' => e = .returned (.slice none 0 0) ∧ w = w' := by
  go_enter Try.func15, Try.ntmps15
  go_wp2
  go_ret
  exact ⟨rfl, rfl⟩
theorem nPrefix_c {w : World} {B g : Nat} {lev : Int} {pre : List Nat} {v : Nat} {kp : Option Addr} {s : S4} (h : NdAt w B g lev pre v kp s) (hB : B ≤ w.heap.size) (hne : pre ≠ []) (hl : pre.length ≤ 1000000) :
    Calls Try.prog 15 #[.pointer (some ⟨g, 0, none⟩)] w fun e w' => ∃ h d, e = .returned (.slice (some ⟨h, 0, none⟩) pre.length d) ∧ Own w' w.heap.size (.slice (some ⟨h, 0, none⟩) pre.length d) pre ∧ Below w.heap.size w w' := by
  obtain ⟨-, ⟨A, c, hp, h1⟩, -⟩ := h
  have H2 := Lib.hid (clone_pts pre A c B w hB hp hne hl)
  clear hp hne hl
  go_enter Try.func15, Try.ntmps15
  go_wp2_with (go_at_call 34; refine H2.out.mono ?_; rintro e w2 ⟨h, d, rfl, ho, hb⟩)
  go_ret
  exact ⟨h, d, rfl, ho, hb⟩
abbrev entryV (A : Option Addr) (n c v : Nat) : Value := .agg #[.slice A n c, .int .u64 (v : Int)]
set_option maxRecDepth 100000 in
theorem nEntry_nil (w : World) : Calls Try.prog 27 #[.pointer none] w fun e w' => e = .returned (.tuple #[entryV none 0 0 0, .bool false]) ∧ Below w.heap.size w w' := by
  go_enter Try.func27, Try.ntmps27
  go_wp2
  refine bodyPost_ret (v := .tuple #[entryV none 0 0 0, .bool false]) (by simp [results, Try.results27, go_sem]) rfl ?_
  exact ⟨rfl, by ((repeat (first | refine Below.drew ?_ | (with_reducible refine below_drewN _ ?_) | refine Below.alloc ?_ (by first | omega | (simp; done) | (simp; omega)) _ | refine Below.setCell ?_ (by first | omega | (simp; done) | (simp; omega)) _)); first | exact Below.refl _ _ | assumption | exact below_drewN _ (Below.refl _ _) | exact below_drewN _ (below_drewN _ (Below.refl _ _)))⟩
set_option maxRecDepth 100000 in
theorem nEntry_br {w : World} {B g l : Nat} {pre : List Nat} {v : Nat} {kp : Option Addr} {s : S4} (h : NdAt w B g (l : Int) pre v kp s) (hB : B ≤ w.heap.size) :
    Calls Try.prog 27 #[.pointer (some ⟨g, 0, none⟩)] w fun e w' => e = .returned (.tuple #[entryV none 0 0 0, .bool false]) ∧ Below w.heap.size w w' := by
  obtain ⟨hg, -, h0, -⟩ := h
  have hgw : g < w.heap.size := by omega
  have hne : ((l : Int) != -1) = true := by rw [bne_iff_ne]; omega
  go_enter Try.func27, Try.ntmps27
  go_wp2
  refine bodyPost_ret (v := .tuple #[entryV none 0 0 0, .bool false]) (by simp [results, Try.results27, go_sem]) rfl ?_
  exact ⟨rfl, by ((repeat (first | refine Below.drew ?_ | (with_reducible refine below_drewN _ ?_) | refine Below.alloc ?_ (by first | omega | (simp; done) | (simp; omega)) _ | refine Below.setCell ?_ (by first | omega | (simp; done) | (simp; omega)) _)); first | exact Below.refl _ _ | assumption | exact below_drewN _ (Below.refl _ _) | exact below_drewN _ (below_drewN _ (Below.refl _ _)))⟩
theorem own_set {w : World} {base : Nat} {v : Value} {us : List Nat} (h : Own w base v us) {a : Addr} (ha : v.ownBlock ≠ some a.block) (u : Value) : Own (w.setCell a u) base v us :=
  ⟨h.1, ownsRow_setCell_other h.2 ha u⟩
theorem cells2 (w : World) (x y : Value) (t : TypeId) : (w.alloc (.cells #[x, y] t)).cell? ⟨w.heap.size, 0, none⟩ = some x ∧ (w.alloc (.cells #[x, y] t)).cell? ⟨w.heap.size, 1, none⟩ = some y ∧ (w.alloc (.cells #[x, y] t)).frozen? ⟨w.heap.size, 0, none⟩ = false ∧ (w.alloc (.cells #[x, y] t)).frozen? ⟨w.heap.size, 1, none⟩ = false :=
  ⟨by rw [World.cell?_alloc_new]; rfl, by rw [World.cell?_alloc_new]; rfl, frozen_of_row _ _ _ _ t (heap_at w _ _ rfl), frozen_of_row _ _ _ _ t (heap_at w _ _ rfl)⟩
set_option maxRecDepth 100000 in
theorem nEntry_ent {w : World} {B g : Nat} {pre : List Nat} {v : Nat} {kp : Option Addr} {s : S4} (h : NdAt w B g (-1) pre v kp s) (hB : B ≤ w.heap.size) (hne : pre ≠ []) (hl : pre.length ≤ 1000000) :
    Calls Try.prog 27 #[.pointer (some ⟨g, 0, none⟩)] w fun e w' => ∃ h d, e = .returned (.tuple #[entryV (some ⟨h, 0, none⟩) pre.length d v, .bool true]) ∧ Own w' w.heap.size (.slice (some ⟨h, 0, none⟩) pre.length d) pre ∧ Below w.heap.size w w' := by
  obtain ⟨hg, ⟨A, c, hp, h1⟩, h0, h2, -⟩ := h
  have hgw : g < w.heap.size := by omega
  obtain ⟨e0, e1, f0, f1⟩ := cells2 w (.slice none 0 0) (.int .u64 0) 36
  have hbel := below_alloc w (.cells #[.slice none 0 0, .int .u64 0] 36)
  have hsz : (w.alloc (.cells #[.slice none 0 0, .int .u64 0] 36)).heap.size = w.heap.size + 1 := by simp
  have HP := Lib.hid (And.intro hp (And.intro hne hl))
  have hd : ((-1 : Int) != -1) = false := by decide
  clear hp hne hl
  go_enter Try.func27, Try.ntmps27
  go_wp2_with fail
  have q1 : ∀ w', Below w.heap.size w w' → w'.cell? ⟨g, 1, none⟩ = some (.slice A pre.length c) := fun w' hb => (hb.cell (p := ⟨g, 1, none⟩) hgw).trans h1
  have q2 : ∀ w', Below w.heap.size w w' → w'.cell? ⟨g, 2, none⟩ = some (.int .u64 (v : Int)) := fun w' hb => (hb.cell (p := ⟨g, 2, none⟩) hgw).trans h2
  have Hz := Lib.hid hsz
  have HE := Lib.hid (And.intro e0 (And.intro e1 (And.intro f0 f1)))
  clear hsz e0 e1 f0 f1 h0 h1 h2
  generalize w.alloc _ = W1 at *
  go_region_held3 (fun w' => Below w.heap.size w w') (((repeat (first | refine Below.drew ?_ | (with_reducible refine below_drewN _ ?_) | refine Below.alloc ?_ (by first | omega | (simp; done) | (simp; omega)) _ | refine Below.setCell ?_ (by first | omega | (simp; done) | (simp; omega)) _)); first | exact Below.refl _ _ | assumption | exact below_drewN _ (Below.refl _ _) | exact below_drewN _ (below_drewN _ (Below.refl _ _))))
    ((first
      | (go_at_call 34; refine (clone_pts pre A c B _ (by have := Hz.out; first | omega | (simp; omega)) (HP.out.1.below' (by ((repeat (first | refine Below.drew ?_ | (with_reducible refine below_drewN _ ?_) | refine Below.alloc ?_ (by first | omega | (simp; done) | (simp; omega)) _ | refine Below.setCell ?_ (by first | omega | (simp; done) | (simp; omega)) _)); first | exact Below.refl _ _ | assumption | exact below_drewN _ (Below.refl _ _) | exact below_drewN _ (below_drewN _ (Below.refl _ _)))) hB) HP.out.2.1 HP.out.2.2).mono ?_; rintro e w2 ⟨h, d, rfl, ho, hb⟩; have hb' := Below.trans (show Below w.heap.size w _ by ((repeat (first | refine Below.drew ?_ | (with_reducible refine below_drewN _ ?_) | refine Below.alloc ?_ (by first | omega | (simp; done) | (simp; omega)) _ | refine Below.setCell ?_ (by first | omega | (simp; done) | (simp; omega)) _)); first | exact Below.refl _ _ | assumption | exact below_drewN _ (Below.refl _ _) | exact below_drewN _ (below_drewN _ (Below.refl _ _)))) (hb.mono (by have := Hz.out; first | omega | (simp; omega))); have k0 := (hb.cell (p := ⟨w.heap.size, 0, none⟩) (by have := Hz.out; first | (show w.heap.size < _; omega) | (simp; omega))).trans HE.out.1; have k1 := (hb.cell (p := ⟨w.heap.size, 1, none⟩) (by have := Hz.out; first | (show w.heap.size < _; omega) | (simp; omega))).trans HE.out.2.1; have k2 := (hb.frozen (p := ⟨w.heap.size, 0, none⟩) (by have := Hz.out; first | (show w.heap.size < _; omega) | (simp; omega))).trans HE.out.2.2.1; have k3 := (hb.frozen (p := ⟨w.heap.size, 1, none⟩) (by have := Hz.out; first | (show w.heap.size < _; omega) | (simp; omega))).trans HE.out.2.2.2; have HO := Lib.hid (And.intro ho hb); clear ho hb)))
  have hsW : w.heap.size < w2.heap.size := by have := HO.out.2.size; have := Hz.out; simp at *; omega
  go_wp2_with fail
  have z0 : ((w2.setCell ⟨w.heap.size, 0, none⟩ (.slice (some ⟨h, 0, none⟩) pre.length d)).setCell ⟨w.heap.size, 1, none⟩ (.int .u64 (v : Int))).cell? ⟨w.heap.size, 0, none⟩ = some (.slice (some ⟨h, 0, none⟩) pre.length d) := by
    rw [World.cell?_setCell_other _ _ _ _ (by simp)]; exact World.cell?_setCell_same _ _ _ k0
  have z1 : ((w2.setCell ⟨w.heap.size, 0, none⟩ (.slice (some ⟨h, 0, none⟩) pre.length d)).setCell ⟨w.heap.size, 1, none⟩ (.int .u64 (v : Int))).cell? ⟨w.heap.size, 1, none⟩ = some (.int .u64 (v : Int)) :=
    World.cell?_setCell_same _ _ _ ((World.cell?_setCell_other _ _ _ _ (by simp)).trans k1)
  refine bodyPost_ret (v := .tuple #[entryV (some ⟨h, 0, none⟩) pre.length d v, .bool true]) (by simp [results, Try.results27, go_sem, z0, z1]) rfl ?_
  have hh := (HO.out.1.2.lt h rfl).1
  have hne : h ≠ w.heap.size := by have := Hz.out; simp at hh; omega
  refine ⟨h, d, rfl, own_set (own_set (HO.out.1.mono (by have := Hz.out; simp; omega)) ?_ _) ?_ _, by ((repeat (first | refine Below.drew ?_ | (with_reducible refine below_drewN _ ?_) | refine Below.alloc ?_ (by first | omega | (simp; done) | (simp; omega)) _ | refine Below.setCell ?_ (by first | omega | (simp; done) | (simp; omega)) _)); first | exact Below.refl _ _ | assumption | exact below_drewN _ (Below.refl _ _) | exact below_drewN _ (below_drewN _ (Below.refl _ _)))⟩
  · simpa [Value.ownBlock] using hne
  · simpa [Value.ownBlock] using hne
/-! ### Covers -/
theorem nCovers_nil (A : Option Addr) (n c : Nat) (w : World) : Calls Try.prog 12 #[.pointer none, .slice A n c] w fun e w' => e = .returned (.bool false) ∧ w = w' := by
  go_enter Try.func12, Try.ntmps12
  go_wp2
  go_ret
  exact ⟨rfl, rfl⟩
theorem nCovers_dim {w : World} {B g : Nat} {lev : Int} {pre : List Nat} {v : Nat} {kp : Option Addr} {s : S4} (h : NdAt w B g lev pre v kp s) (hpl : pre.length ≤ 16) (A : Option Addr) (n c : Nat) (hn : n ≤ maxLen) (hne : pre.length ≠ n) :
    Calls Try.prog 12 #[.pointer (some ⟨g, 0, none⟩), .slice A n c] w fun e w' => e = .returned (.bool false) ∧ w = w' := by
  obtain ⟨-, ⟨A0, c0, hp, h1⟩, -⟩ := h
  have H := Lib.hid (part_no A0 A pre.length c0 n c w (by unfold maxLen; omega) hn (by omega))
  clear hp hn hne
  go_enter Try.func12, Try.ntmps12
  go_wp2_with (go_at_call 21; refine H.out.mono ?_; rintro e w' ⟨rfl, rfl⟩)
  go_ret
  exact ⟨rfl, rfl⟩
theorem nCovers_c {w : World} {B g : Nat} {lev : Int} {pre : List Nat} {v : Nat} {kp : Option Addr} {s : S4} (h : NdAt w B g lev pre v kp s) (h1' : 1 ≤ pre.length) (hpl : pre.length ≤ 16) (A : Option Addr) (us : List Nat) (c : Nat) (hu : Pts w B A us) (hl : pre.length = us.length) (r : Bool) (hr : decide (Z.part pre us ≤ lev) = r) :
    Calls Try.prog 12 #[.pointer (some ⟨g, 0, none⟩), .slice A us.length c] w fun e w' => e = .returned (.bool r) ∧ w = w' := by
  obtain ⟨-, ⟨A0, c0, hp, h1⟩, h0, -⟩ := h
  have H := Lib.hid (part_yes A0 A c0 c pre us B w hp hu h1' hpl hl)
  generalize Z.part pre us = m at *
  clear hp hu hl
  go_enter Try.func12, Try.ntmps12
  go_wp2_with (go_at_call 21; refine H.out.mono ?_; rintro e w' ⟨rfl, rfl⟩)
  go_ret
  exact ⟨rfl, rfl⟩
end Go.Proofs.Ytgplbbmenmbaaaa
