/-
  CONTRACTS of package slots, eighth part: gathered, kept.
-/
import Derived.Test.YtgplbbmenmbaaaaS6n
import Derived.Test.YtgplbbmenmbaaaaCch
import Derived.Deep.RegionLaw
namespace Go.Proofs.Ytgplbbmenmbaaaa.Sn
open Go.ChangeShapes Go.WideShapes Go.ChangeAt Go.RowKit

/-- sparse slots that are being made: the variable in block g, the slots in p, their two rows v and u -/
def Gam (w : World) (B g p k : Nat) (v u : Value) (xs ys : List Value) : Prop :=
  (B ≤ g ∧ B ≤ p ∧ g ≠ p ∧ g < w.heap.size ∧ p < w.heap.size) ∧ w.cell? ⟨g, 0, none⟩ = some (.pointer (some ⟨p, 0, none⟩)) ∧ w.cell? ⟨p, 0, none⟩ = some (.int .i64 (k : Int)) ∧ w.cell? ⟨p, 1, none⟩ = some (.int .u64 0) ∧
    w.cell? ⟨p, 2, none⟩ = some v ∧ w.cell? ⟨p, 3, none⟩ = some u ∧ w.frozen? ⟨p, 2, none⟩ = false ∧ w.frozen? ⟨p, 3, none⟩ = false ∧ OwnV 101 w B v xs ∧ OwnV 29 w B u ys ∧
    (v.ownBlock ≠ some g ∧ v.ownBlock ≠ some p ∧ u.ownBlock ≠ some g ∧ u.ownBlock ≠ some p) ∧ (v.ownBlock = none ∨ v.ownBlock ≠ u.ownBlock)
theorem grown_undrew {w w1 : World} {r : Option Nat} (h : w.drew.grownBy w1 r) : w.grownBy w1 r := ⟨h.os, h.tape, h.output, h.size, h.block⟩
theorem Gam.drew {w : World} {B g p k : Nat} {v u : Value} {xs ys : List Value} (h : Gam w B g p k v u xs ys) : Gam w.drew B g p k v u xs ys := h
/-- behind an append to one of the two rows nothing else has changed -/
theorem gam_grow {w w1 : World} {B g p k : Nat} {v u x : Value} {xs ys : List Value} (h : Gam w B g p k v u xs ys) (o : Obj) (hg : (w.alloc o).grownBy w1 x.ownBlock) (hx : x = v ∨ x = u) :
    (g < w1.heap.size ∧ p < w1.heap.size) ∧ w1.cell? ⟨g, 0, none⟩ = some (.pointer (some ⟨p, 0, none⟩)) ∧ w1.cell? ⟨p, 0, none⟩ = some (.int .i64 (k : Int)) ∧ w1.cell? ⟨p, 1, none⟩ = some (.int .u64 0) ∧
      w1.cell? ⟨p, 2, none⟩ = some v ∧ w1.cell? ⟨p, 3, none⟩ = some u ∧ w1.frozen? ⟨p, 2, none⟩ = false ∧ w1.frozen? ⟨p, 3, none⟩ = false ∧ Below B w w1 := by
  obtain ⟨⟨b1, b2, n, l1, l2⟩, c0, c1, c2, c3, c4, f2, f3, o1, o2, ⟨m1, m2, m3, m4⟩, _⟩ := h
  have hbase : ∀ q, x.ownBlock = some q → B ≤ q ∧ q ≠ g ∧ q ≠ p := by
    rcases hx with rfl | rfl
    · exact fun q hq => ⟨(o1.lt q hq).1, fun e => m1 (by rw [hq, e]), fun e => m2 (by rw [hq, e])⟩
    · exact fun q hq => ⟨(o2.lt q hq).1, fun e => m3 (by rw [hq, e]), fun e => m4 (by rw [hq, e])⟩
  have hbl : ∀ b, b < w.heap.size → (b = g ∨ b = p) → w1.heap[b]? = w.heap[b]? := fun b hb hc => by
    rw [hg.block b (by simp; omega) (by intro e; have := hbase b e.symm; omega), Below.heap_alloc _ _ _ hb]
  have hs := hg.size
  rw [World.size_alloc] at hs
  have kg := hbl g l1 (.inl rfl)
  have kp := hbl p l2 (.inr rfl)
  exact ⟨⟨by omega, by omega⟩, (World.cell?_of_block (w := w) (a := ⟨g, 0, none⟩) kg).trans c0, (World.cell?_of_block (w := w) (a := ⟨p, 0, none⟩) kp).trans c1, (World.cell?_of_block (w := w) (a := ⟨p, 1, none⟩) kp).trans c2,
    (World.cell?_of_block (w := w) (a := ⟨p, 2, none⟩) kp).trans c3, (World.cell?_of_block (w := w) (a := ⟨p, 3, none⟩) kp).trans c4, (World.frozen?_of_block (w := w) (a := ⟨p, 2, none⟩) kp).trans f2, (World.frozen?_of_block (w := w) (a := ⟨p, 3, none⟩) kp).trans f3,
    ((Below.refl B w).alloc (by omega) o).grown hg (by simp; omega) (fun q hq => (hbase q hq).1)⟩
theorem gam_lo {w w1 : World} {B g p k : Nat} {v u v1 : Value} {xs ys zs : List Value} (h : Gam w B g p k v u xs ys) (o : Obj) (hown : OwnV 101 w1 B v1 zs) (hg : (w.alloc o).grownBy w1 v.ownBlock) (hat : v1.ownBlock = v.ownBlock ∨ v1.ownBlock = some (w.alloc o).heap.size) :
    Gam (w1.setCell ⟨p, 2, none⟩ v1) B g p k v1 u zs ys ∧ Below B w (w1.setCell ⟨p, 2, none⟩ v1) := by
  obtain ⟨⟨s1, s2⟩, e0, e1, e2, e3, e4, e5, e6, hb⟩ := gam_grow h o hg (.inl rfl)
  obtain ⟨⟨b1, b2, n, l1, l2⟩, c0, c1, c2, c3, c4, f2, f3, o1, o2, ⟨m1, m2, m3, m4⟩, m5⟩ := h
  have hu : OwnV 29 w1 B u ys := ⟨o2.1, (o2.2.alloc o).kept hg (by
    rcases hb2 : u.ownBlock with _ | b
    · exact .inl rfl
    · refine .inr ?_
      rcases m5 with m5 | m5
      · rw [m5]; simp
      · rw [← hb2]; exact Ne.symm m5)⟩
  have hv1 : v1.ownBlock ≠ some g ∧ v1.ownBlock ≠ some p := by
    rcases hat with e | e
    · rw [e]; exact ⟨m1, m2⟩
    · rw [e]; simp; omega
  have hvu : v1.ownBlock = none ∨ v1.ownBlock ≠ u.ownBlock := by
    rcases hat with e | e
    · rw [e]; exact m5
    · refine .inr ?_
      rw [e]
      intro e2
      have := (o2.lt _ e2.symm).2
      simp at this
      omega
  refine ⟨⟨⟨b1, b2, n, by simpa using s1, by simpa using s2⟩, ?_, ?_, ?_, World.cell?_setCell_same _ _ _ e3, ?_, ?_, ?_, ownV_store hown hv1.2 _, ownV_store hu m4 _, ⟨hv1.1, hv1.2, m3, m4⟩, hvu⟩, hb.setCell (p := ⟨p, 2, none⟩) b2 _⟩
  · rw [World.cell?_setCell_other _ _ _ _ (by first | (simp; done) | (simp; omega))]; exact e0
  · rw [World.cell?_setCell_other _ _ _ _ (by simp)]; exact e1
  · rw [World.cell?_setCell_other _ _ _ _ (by simp)]; exact e2
  · rw [World.cell?_setCell_other _ _ _ _ (by simp)]; exact e4
  · rw [frozen_set]; exact e5
  · rw [frozen_set]; exact e6
theorem gam_hi {w w1 : World} {B g p k : Nat} {v u u1 : Value} {xs ys zs : List Value} (h : Gam w B g p k v u xs ys) (o : Obj) (hown : OwnV 29 w1 B u1 zs) (hg : (w.alloc o).grownBy w1 u.ownBlock) (hat : u1.ownBlock = u.ownBlock ∨ u1.ownBlock = some (w.alloc o).heap.size) :
    Gam (w1.setCell ⟨p, 3, none⟩ u1) B g p k v u1 xs zs ∧ Below B w (w1.setCell ⟨p, 3, none⟩ u1) := by
  obtain ⟨⟨s1, s2⟩, e0, e1, e2, e3, e4, e5, e6, hb⟩ := gam_grow h o hg (.inr rfl)
  obtain ⟨⟨b1, b2, n, l1, l2⟩, c0, c1, c2, c3, c4, f2, f3, o1, o2, ⟨m1, m2, m3, m4⟩, m5⟩ := h
  have hv : OwnV 101 w1 B v xs := ⟨o1.1, (o1.2.alloc o).kept hg m5⟩
  have hu1 : u1.ownBlock ≠ some g ∧ u1.ownBlock ≠ some p := by
    rcases hat with e | e
    · rw [e]; exact ⟨m3, m4⟩
    · rw [e]; simp; omega
  have hvu : v.ownBlock = none ∨ v.ownBlock ≠ u1.ownBlock := by
    rcases hat with e | e
    · rw [e]; exact m5
    · rcases hb2 : v.ownBlock with _ | b
      · exact .inl rfl
      · refine .inr ?_
        rw [e]
        intro e2
        have := (o1.lt _ hb2).2
        simp at e2
        omega
  refine ⟨⟨⟨b1, b2, n, by simpa using s1, by simpa using s2⟩, ?_, ?_, ?_, ?_, World.cell?_setCell_same _ _ _ e4, ?_, ?_, ownV_store hv m2 _, ownV_store hown hu1.2 _, ⟨m1, m2, hu1.1, hu1.2⟩, hvu⟩, hb.setCell (p := ⟨p, 3, none⟩) b2 _⟩
  · rw [World.cell?_setCell_other _ _ _ _ (by first | (simp; done) | (simp; omega))]; exact e0
  · rw [World.cell?_setCell_other _ _ _ _ (by simp)]; exact e1
  · rw [World.cell?_setCell_other _ _ _ _ (by simp)]; exact e2
  · rw [World.cell?_setCell_other _ _ _ _ (by simp)]; exact e3
  · rw [frozen_set]; exact e5
  · rw [frozen_set]; exact e6
set_option maxRecDepth 100000 in
set_option maxHeartbeats 1000000 in
theorem gathered1_c {w : World} {B g p k a : Nat} {v u : Value} {xs ys : List Value} (x : Option Addr) (h : Gam w B g p k v u xs ys) (ha : a < 65536) (lx : xs.length ≤ 1000000) (ly : ys.length ≤ 1000000) :
    Calls Try.prog 76 #[.int .i64 (a : Int), (Value.pointer (x)), .pointer (some ⟨g, 0, none⟩)] w fun e w' => e = .returned (.tuple #[]) ∧ (∃ v' u', Gam w' B g p k v' u' (xs ++ [.int .u16 (a : Int)]) (ys ++ [(Value.pointer (x))])) ∧ Below B w w' := by
  have hh := h
  obtain ⟨⟨b1, b2, n, l1, l2⟩, c0, c1, c2, c3, c4, f2, f3, o1, o2, _, _⟩ := hh
  have H := Lib.hid h
  have q0 : ∀ w', Below w.heap.size w w' → w'.cell? ⟨g, 0, none⟩ = some (.pointer (some ⟨p, 0, none⟩)) := fun w' hb => (hb.cell (p := ⟨g, 0, none⟩) l1).trans c0
  have q2 : ∀ w', Below w.heap.size w w' → w'.cell? ⟨p, 2, none⟩ = some v := fun w' hb => (hb.cell (p := ⟨p, 2, none⟩) l2).trans c3
  have hb0 : Below w.heap.size w w := Below.refl _ _
  have hb1 : Below w.heap.size w w.drew := (Below.refl _ _).drew
  have hb2 : ∀ o, Below w.heap.size w (w.alloc o) := fun o => below_alloc _ _
  have hb3 : ∀ o, Below w.heap.size w (w.alloc o).drew := fun o => (below_alloc _ _).drew
  have hwr : IntKind.u16.wrap (a : Int) = (a : Int) := by simp [IntKind.wrap, IntKind.signed, IntKind.bits]; omega
  have O1 := Lib.hid o1
  have Lx := Lib.hid lx
  have Ly := Lib.hid ly
  have Hb := Lib.hid (And.intro b1 b2)
  clear o1 o2 c0 c1 c2 c3 c4 f2 f3 h lx ly
  go_enter Try.func76, Try.ntmps76
  go_upto_region 0 with fail
  go_cut [4] from 5 (fun _ wx => ∃ v', Gam wx B g p k v' u (xs ++ [.int .u16 (a : Int)]) ys ∧ Below B w wx)
  case first =>
    go_region_law ((refine step_append_vals 79 101 (.int .u16 0) 2 Ch.und Ch.info (by rfl) (by omega) (by rfl) _ _ (by rfl) B v xs [.int .u16 (a : Int)] (by rfl) (by exact ⟨O1.out.1, O1.out.2.alloc _⟩) _ _ 1 1 (by rfl) (by rfl) (by exact rdV_one _ _ _) (fun y hy => by simp at hy; subst hy; rfl) (by have := Lx.out; simp; omega) (by have := Hb.out.1; simp; omega) ?_; intro D d w1 hown1 hgrow1 hat1; obtain ⟨⟨s1, s2⟩, e0, e1, e2, e3, e4, e5, e6, hbw⟩ := gam_grow H.out _ (grown_undrew hgrow1) (.inl rfl)))
    all_goals (
      have G1 := gam_lo H.out _ hown1 (grown_undrew hgrow1) hat1
      rw [show (xs ++ [Value.int .u16 (a : Int)]).length = xs.length + 1 by simp] at G1
      have GG := Lib.hid G1
      clear hgrow1 hown1 hat1 e0 e1 e2 e3 e4 e5 e6 hbw s1 s2 q0 q2 hb0 hb1 hb2 hb3 G1
      go_wp2_with fail
      go_meet
      exact ⟨_, GG.out⟩)
  case rest =>
  obtain ⟨v', G1, B1⟩ := hcut
  clear q0 q2 hb0 hb1 hb2 hb3
  have G := Lib.hid G1
  have hB1 := Lib.hid B1
  obtain ⟨⟨_, _, _, l1, l2⟩, c0, c1, c2, c3, c4, f2, f3, o1, o2, _, _⟩ := G1
  have O2 := Lib.hid o2
  have q0 : ∀ w', Below wc.heap.size wc w' → w'.cell? ⟨g, 0, none⟩ = some (.pointer (some ⟨p, 0, none⟩)) := fun w' hb => (hb.cell (p := ⟨g, 0, none⟩) l1).trans c0
  have q3 : ∀ w', Below wc.heap.size wc w' → w'.cell? ⟨p, 3, none⟩ = some u := fun w' hb => (hb.cell (p := ⟨p, 3, none⟩) l2).trans c4
  have hb0 : Below wc.heap.size wc wc := Below.refl _ _
  have hb1 : Below wc.heap.size wc wc.drew := (Below.refl _ _).drew
  have hb2 : ∀ o, Below wc.heap.size wc (wc.alloc o) := fun o => below_alloc _ _
  have hb3 : ∀ o, Below wc.heap.size wc (wc.alloc o).drew := fun o => (below_alloc _ _).drew
  clear c0 c1 c2 c3 c4 f2 f3 o1 o2 B1
  go_wp2_with fail
  go_region_law ((refine step_append_vals 26 29 (Value.pointer none) 8 Cn.und Cn.info (by rfl) (by omega) (by rfl) _ _ (by rfl) B u ys [(Value.pointer (x))] (by rfl) (by exact ⟨O2.out.1, O2.out.2.alloc _⟩) _ _ 1 1 (by rfl) (by rfl) (by exact rdV_one _ _ _) (fun y hy => by simp at hy; subst hy; rfl) (by have := Ly.out; simp; omega) (by have := Hb.out.1; simp; omega) ?_; intro D2 d2 w2 hown2 hgrow2 hat2; obtain ⟨⟨s1, s2⟩, e0, e1, e2, e3, e4, e5, e6, hbw⟩ := gam_grow G.out _ (grown_undrew hgrow2) (.inr rfl)))
  all_goals (
    have G2 := gam_hi G.out _ hown2 (grown_undrew hgrow2) hat2
    rw [show (ys ++ [(Value.pointer (x))]).length = ys.length + 1 by simp] at G2
    have GG := Lib.hid G2
    clear hgrow2 hown2 hat2 e0 e1 e2 e3 e4 e5 e6 hbw s1 s2 q0 q3 hb0 hb1 hb2 hb3 G2
    go_wp2_with fail
    go_end0
    exact ⟨rfl, ⟨_, _, GG.out.1⟩, hB1.out.trans GG.out.2⟩)
end Go.Proofs.Ytgplbbmenmbaaaa.Sn
