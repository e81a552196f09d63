/-
  CONTRACTS of package pantileref05, second part: Del.
-/
import Derived.Test.YtdejnkihofhjoaaDoorRs1
import Derived.Test.YtdejnkihofhjoaaDoorS7u
import Derived.Deep.RegionHeld3
namespace Go.Proofs.YtdejnkihofhjoaaDoor
open Go.ChangeShapes Go.WideShapes Go.ChangeAt Go.RowKit
open Go.Proofs.YtdejnkihofhjoaaDoor.Su (Al elV intV elV_get elV_length intV_length isA elV_one intV_one infoI)

/-- block b holds x, y, z, and may be written -/
def C3 (w : World) (b : Nat) (x y z : Value) : Prop := (w.cell? ⟨b, 0, none⟩ = some x ∧ w.cell? ⟨b, 1, none⟩ = some y ∧ w.cell? ⟨b, 2, none⟩ = some z) ∧ (w.frozen? ⟨b, 0, none⟩ = false ∧ w.frozen? ⟨b, 1, none⟩ = false ∧ w.frozen? ⟨b, 2, none⟩ = false)
theorem c3_at {w : World} {b : Nat} {x y z : Value} {e : TypeId} (h : w.heap[b]? = some (.cells #[x, y, z] e (0, 0))) : C3 w b x y z :=
  ⟨⟨by rw [cell_of_row w b _ _ e (0, 0) h]; rfl, by rw [cell_of_row w b _ _ e (0, 0) h]; rfl, by rw [cell_of_row w b _ _ e (0, 0) h]; rfl⟩, frozen_of_row w b _ _ e h, frozen_of_row w b _ _ e h, frozen_of_row w b _ _ e h⟩
theorem C3.block {w w' : World} {b : Nat} {x y z : Value} (h : C3 w b x y z) (hb : w'.heap[b]? = w.heap[b]?) : C3 w' b x y z :=
  ⟨⟨(World.cell?_of_block (w := w) (a := ⟨b, 0, none⟩) hb).trans h.1.1, (World.cell?_of_block (w := w) (a := ⟨b, 1, none⟩) hb).trans h.1.2.1, (World.cell?_of_block (w := w) (a := ⟨b, 2, none⟩) hb).trans h.1.2.2⟩,
   (World.frozen?_of_block (w := w) (a := ⟨b, 0, none⟩) hb).trans h.2.1, (World.frozen?_of_block (w := w) (a := ⟨b, 1, none⟩) hb).trans h.2.2.1, (World.frozen?_of_block (w := w) (a := ⟨b, 2, none⟩) hb).trans h.2.2.2⟩
theorem C3.below {w w' : World} {b B : Nat} {x y z : Value} (h : C3 w b x y z) (hb : Below B w w') (hB : b < B) : C3 w' b x y z := h.block (hb.block b hB)
theorem C3.drew {w : World} {b : Nat} {x y z : Value} (h : C3 w b x y z) : C3 w.drew b x y z := h
theorem C3.set {w : World} {b : Nat} {x y z : Value} (h : C3 w b x y z) (x' y' z' : Value) : C3 (((w.setCell ⟨b, 0, none⟩ x').setCell ⟨b, 1, none⟩ y').setCell ⟨b, 2, none⟩ z') b x' y' z' := by
  obtain ⟨⟨h0, h1, h2⟩, f0, f1, f2⟩ := h
  have e1 : (w.setCell ⟨b, 0, none⟩ x').cell? ⟨b, 1, none⟩ = some y := by rw [World.cell?_setCell_other _ _ _ _ (by simp)]; exact h1
  have e2 : ((w.setCell ⟨b, 0, none⟩ x').setCell ⟨b, 1, none⟩ y').cell? ⟨b, 2, none⟩ = some z := by rw [World.cell?_setCell_other _ _ _ _ (by simp), World.cell?_setCell_other _ _ _ _ (by simp)]; exact h2
  refine ⟨⟨?_, ?_, World.cell?_setCell_same _ _ _ e2⟩, ?_, ?_, ?_⟩
  · rw [World.cell?_setCell_other _ _ _ _ (by simp), World.cell?_setCell_other _ _ _ _ (by simp)]; exact World.cell?_setCell_same _ _ _ h0
  · rw [World.cell?_setCell_other _ _ _ _ (by simp)]; exact World.cell?_setCell_same _ _ _ e1
  · rw [World.frozen?_setCell, World.frozen?_setCell, World.frozen?_setCell]; exact f0
  · rw [World.frozen?_setCell, World.frozen?_setCell, World.frozen?_setCell]; exact f1
  · rw [World.frozen?_setCell, World.frozen?_setCell, World.frozen?_setCell]; exact f2
theorem C3.other {w : World} {b b' : Nat} {x y z : Value} (h : C3 w b x y z) (hn : b ≠ b') (x' y' z' : Value) : C3 (((w.setCell ⟨b', 0, none⟩ x').setCell ⟨b', 1, none⟩ y').setCell ⟨b', 2, none⟩ z') b x y z :=
  h.block (by rw [Below.heap_setCell _ _ _ _ hn, Below.heap_setCell _ _ _ _ hn, Below.heap_setCell _ _ _ _ hn])
theorem below_set3 {w w' : World} {B b : Nat} (h : Below B w w') (hb : B ≤ b) (x y z : Value) : Below B w (((w'.setCell ⟨b, 0, none⟩ x).setCell ⟨b, 1, none⟩ y).setCell ⟨b, 2, none⟩ z) :=
  ((h.setCell (p := ⟨b, 0, none⟩) hb x).setCell (p := ⟨b, 1, none⟩) hb y).setCell (p := ⟨b, 2, none⟩) hb z
theorem ownV_set3 {e : TypeId} {w : World} {base b : Nat} {v : Value} {xs : List Value} (h : OwnV e w base v xs) (hb : ∀ q, v.ownBlock = some q → q ≠ b) (x y z : Value) : OwnV e (((w.setCell ⟨b, 0, none⟩ x).setCell ⟨b, 1, none⟩ y).setCell ⟨b, 2, none⟩ z) base v xs := by
  have hn : v.ownBlock ≠ some b := fun e => hb b e rfl
  exact ownV_store (ownV_store (ownV_store h (a := ⟨b, 0, none⟩) hn x) (a := ⟨b, 1, none⟩) hn y) (a := ⟨b, 2, none⟩) hn z
/-- a parameter of the document's slots, and a variable for the result -/
abbrev two3 (w : World) (x y z : Value) : World := (w.alloc (.cells #[x, y, z] 32)).alloc (.cells #[.int .i64 0, .slice none 0 0, .slice none 0 0] 32)
theorem two3_facts (w : World) (x y z : Value) : C3 (two3 w x y z) w.heap.size x y z ∧ C3 (two3 w x y z) (w.heap.size + 1) (.int .i64 0) (.slice none 0 0) (.slice none 0 0) ∧ Below w.heap.size w (two3 w x y z) ∧ (two3 w x y z).heap.size = w.heap.size + 2 := by
  refine ⟨c3_at (heap_past _ (heap_at _ _ _ rfl)), c3_at (heap_at _ _ _ (by simp)), (below_alloc _ _).alloc (by simp) _, by simp [two3]⟩
set_option maxRecDepth 100000 in
theorem rdel_no {w : World} {B k : Nat} {A : Option Addr} {c : Nat} {C : Option Addr} {c' : Nat} {L : Al} (h : RefM w B k A c C c' L) (hB : B ≤ w.heap.size) (a : Nat) (hr : Sl.has L (a : Int) = false) :
    Calls Tryd.prog 10 #[refV k A L.length c C L.length c', .int .i64 (a : Int)] w fun e w' => e = .returned (refV k A L.length c C L.length c') ∧ Below w.heap.size w w' := by
  obtain ⟨f0, f1, f2, f3⟩ := two3_facts w (.int .i64 (k : Int)) (.slice A L.length c) (.slice C L.length c')
  have HP := rplace5_c (h.below f2 hB (show B ≤ _ by rw [f3]; omega)) (Nat.le_refl _) (a : Int)
  rw [hr] at HP
  have HP := Lib.hid HP
  have HF := Lib.hid (And.intro f0 (And.intro f1 f2))
  obtain ⟨⟨q0, q1, q2⟩, _⟩ := f0
  clear h hr f1 f2
  go_enter Tryd.func10, Tryd.ntmps10
  go_wp2_with fail
  change Calls _ _ _ (two3 w (.int .i64 (k : Int)) (.slice A L.length c) (.slice C L.length c')) _
  generalize two3 w (.int .i64 (k : Int)) (.slice A L.length c) (.slice C L.length c') = W at *
  refine HP.out.mono ?_
  rintro e w2 ⟨rfl, hb2⟩
  have g0 := HF.out.1.below hb2 (by omega)
  have g1 := HF.out.2.1.below hb2 (by omega)
  have HG := Lib.hid (And.intro g1 (HF.out.2.2.trans (hb2.mono (by omega))))
  obtain ⟨⟨z0, z1, z2⟩, _⟩ := g0
  obtain ⟨⟨y0, y1, y2⟩, y3, y4, y5⟩ := g1
  clear q0 q1 q2 hb2
  go_wp2_with fail
  obtain ⟨⟨k0, k1, k2⟩, _⟩ := HG.out.1.set (.int .i64 (k : Int)) (.slice A L.length c) (.slice C L.length c')
  refine bodyPost_ret (v := refV k A L.length c C L.length c') (by simp [results, Tryd.results10, go_sem, k0, k1, k2]) rfl ?_
  exact ⟨rfl, below_set3 HG.out.2 (by omega) _ _ _⟩

theorem keysI_cut (L : Al) (i : Nat) : [] ++ (intV (Sl.keys L)).take i ++ (intV (Sl.keys L)).drop (i + 1) = intV (Sl.keys (L.take i ++ L.drop (i + 1))) := by
  simp [Su.intV, Sl.keys, List.map_append, List.map_take, List.map_drop]
theorem thingsE_cut (L : Al) (i : Nat) : [] ++ (elV (Sl.things L)).take i ++ (elV (Sl.things L)).drop (i + 1) = elV (Sl.things (L.take i ++ L.drop (i + 1))) := by
  simp [Su.elV, Sl.things, List.map_append, List.map_take, List.map_drop]
set_option maxRecDepth 100000 in
set_option maxHeartbeats 2000000 in
theorem rdel_yes {w : World} {B k : Nat} {A : Option Addr} {c : Nat} {C : Option Addr} {c' : Nat} {L : Al} (h : RefM w B k A c C c' L) (hB : B ≤ w.heap.size) (a u : Nat) (hg : Sl.get L (a : Int) = some u) :
    Calls Tryd.prog 10 #[refV k A L.length c C L.length c', .int .i64 (a : Int)] w fun e w' => ∃ A2 c2 C2 c2', e = .returned (refV k A2 (Sl.del a L).length c2 C2 (Sl.del a L).length c2') ∧ (∀ w'' : World, (∀ p : Addr, w.heap.size ≤ p.block → p.block < w'.heap.size → w''.cell? p = w'.cell? p) → RefM w'' w'.heap.size k A2 c2 C2 c2' (Sl.del a L)) ∧ Below w.heap.size w w' := by
  obtain ⟨f0, f1, f2, f3⟩ := two3_facts w (.int .i64 (k : Int)) (.slice A L.length c) (.slice C L.length c')
  have HP := rplace5_c (h.below f2 hB (show B ≤ _ by rw [f3]; omega)) (Nat.le_refl _) (a : Int)
  have hr : Sl.has L (a : Int) = true := by simp [Sl.has, hg]
  rw [hr] at HP
  obtain ⟨wf, l1, l2, hA, hC⟩ := h
  have hlen := wf.len16
  have Hdel := Lib.hid (Sl.del_some wf.srt hg)
  have Hwf := Lib.hid (wf.del a)
  have hlt : Sl.idx L (a : Int) < L.length := by
    obtain ⟨m, hm, hat⟩ := Sl.get_at wf.srt hg
    exact lt_get hat
  obtain ⟨i, hi⟩ : ∃ i, Sl.idx L (a : Int) = i := ⟨_, rfl⟩
  rw [hi] at HP Hdel hlt
  have HP := Lib.hid HP
  have HF := Lib.hid (And.intro f0 (And.intro f1 f2))
  obtain ⟨⟨q0, q1, q2⟩, _⟩ := f0
  have kA := intV_length (Sl.keys L)
  have kC := elV_length (Sl.things L)
  rw [Sl.keys_length] at kA
  rw [Sl.things_length] at kC
  obtain ⟨A1, ea1, ra1⟩ := cut_hi 29 3 Tryd.underlying29 infoI A L.length c i (by omega) l1
  obtain ⟨A2, ea2, ra2⟩ := cut_lo 29 3 Tryd.underlying29 infoI A L.length c (i + 1) (by omega) l1
  obtain ⟨C1, ec1, rc1⟩ := cut_hi 30 28 Cu.und Cu.info C L.length c' i (by omega) l2
  obtain ⟨C2, ec2, rc2⟩ := cut_lo 30 28 Cu.und Cu.info C L.length c' (i + 1) (by omega) l2
  have ea2' : ∀ w, (Instr.sliceAt 29 (.slice A L.length c) (some (.int .i64 ((i : Int) + 1))) none none).run Tryd.prog w = .ok (.slice A2 (L.length - (i + 1)) (c - (i + 1))) w := ea2
  have ec2' : ∀ w, (Instr.sliceAt 30 (.slice C L.length c') (some (.int .i64 ((i : Int) + 1))) none none).run Tryd.prog w = .ok (.slice C2 (L.length - (i + 1)) (c' - (i + 1))) w := ec2
  have HA := Lib.hid (And.intro (ra1 w B _ kA hA) (And.intro (ra2 w B _ kA hA) (And.intro (rc1 w B _ kC hC) (rc2 w B _ kC hC))))
  have HN : Hid (((intV (Sl.keys L)).take i).length = i ∧ ((intV (Sl.keys L)).drop (i + 1)).length = L.length - (i + 1) ∧ ((elV (Sl.things L)).take i).length = i ∧ ((elV (Sl.things L)).drop (i + 1)).length = L.length - (i + 1) ∧ ([] ++ (intV (Sl.keys L)).take i).length = i ∧ ([] ++ (elV (Sl.things L)).take i).length = i) := Lib.hid
    ⟨by rw [List.length_take, kA]; omega, by rw [List.length_drop, kA], by rw [List.length_take, kC]; omega, by rw [List.length_drop, kC], by rw [List.nil_append, List.length_take, kA]; omega, by rw [List.nil_append, List.length_take, kC]; omega⟩
  have HK := Lib.hid (And.intro (keysI_cut L i) (thingsE_cut L i))
  obtain ⟨n1, hn1⟩ : ∃ n, ([] ++ (intV (Sl.keys L)).take i ++ (intV (Sl.keys L)).drop (i + 1)).length = n := ⟨_, rfl⟩
  obtain ⟨n2, hn2⟩ : ∃ n, ([] ++ (elV (Sl.things L)).take i ++ (elV (Sl.things L)).drop (i + 1)).length = n := ⟨_, rfl⟩
  have Hn := Lib.hid (And.intro hn1 hn2)
  have hwr : IntKind.i64.wrap ((i : Int) + 1) = (i : Int) + 1 := IntWalk.i64_in _ (by omega)
  clear hr f1 f2 hg wf hA hC ra1 ra2 rc1 rc2 ea2 ec2 kA kC hi hn1 hn2
  go_enter Tryd.func10, Tryd.ntmps10
  go_wp2_with fail
  change Calls _ _ _ (two3 w (.int .i64 (k : Int)) (.slice A L.length c) (.slice C L.length c')) _
  generalize two3 w (.int .i64 (k : Int)) (.slice A L.length c) (.slice C L.length c') = W at *
  refine HP.out.mono ?_
  rintro e w2 ⟨rfl, hb2⟩
  have hs2 := hb2.size
  have g0 := HF.out.1.below hb2 (by omega)
  have g1 := HF.out.2.1.below hb2 (by omega)
  have HG := Lib.hid (And.intro g0 (And.intro g1 (HF.out.2.2.trans (hb2.mono (by omega)))))
  clear q0 q1 q2 hb2 g0 g1
  have q1 : ∀ w', Below w2.heap.size w2 w' → w'.cell? ⟨w.heap.size, 1, none⟩ = some (.slice A L.length c) := fun w' hb => (hb.cell (p := ⟨w.heap.size, 1, none⟩) (by show w.heap.size < _; omega)).trans HG.out.1.1.2.1
  have hbb := Below.refl w2.heap.size w2
  go_wp2_with fail
  go_region_held3 (fun w' => Below w2.heap.size w2 w') (((repeat (first | refine Below.drew ?_ | refine Below.alloc ?_ (by first | omega | (simp; done) | (simp; omega)) _ | refine Below.setCell ?_ (by first | omega | (simp; done) | (simp; omega)) _)); first | exact Below.refl _ _ | assumption | exact below_drewN _ (Below.refl _ _)))
    ((first
      | ((refine step_append_vals 29 3 (.int .i64 0) 8 Tryd.underlying29 infoI (by rfl) (by omega) (by rfl) _ _ (by rfl) w2.heap.size _ _ ((intV (Sl.keys L)).drop (i + 1)) (by rfl) O1.out w2.heap.size A2 _ (c - (i + 1)) HN.out.2.1 (by rfl) (HA.out.2.1.below (Below.trans (HG.out.2.2.mono hB) (Below.mono (show Below w2.heap.size w2 _ by ((repeat (first | refine Below.drew ?_ | refine Below.alloc ?_ (by first | omega | (simp; done) | (simp; omega)) _ | refine Below.setCell ?_ (by first | omega | (simp; done) | (simp; omega)) _)); first | exact Below.refl _ _ | assumption | exact below_drewN _ (Below.refl _ _))) (by omega))) (Nat.le_refl _) (by omega)) (fun y hy => intV_one _ y (List.mem_of_mem_drop hy)) (by rw [HN.out.2.1, HN.out.2.2.2.2.1]; omega) (by (first | omega | (simp; done) | (simp; omega))) ?_; intro D2 d2 w4 hown2 hgrow2 hat2; have hB4 := Below.grown (show Below w2.heap.size w2 _ by ((repeat (first | refine Below.drew ?_ | refine Below.alloc ?_ (by first | omega | (simp; done) | (simp; omega)) _ | refine Below.setCell ?_ (by first | omega | (simp; done) | (simp; omega)) _)); first | exact Below.refl _ _ | assumption | exact below_drewN _ (Below.refl _ _))) hgrow2 (by (first | omega | (simp; done) | (simp; omega))) (fun q hq => (O1.out.lt q hq).1); rw [Hn.out.1] at hown2 hat2 ⊢; have O2 := Lib.hid hown2; clear hown2 hat2 hgrow2))
      | ((have O0 := Lib.hid (ownV_nil 3 w2); refine step_append_vals 29 3 (.int .i64 0) 8 Tryd.underlying29 infoI (by rfl) (by omega) (by rfl) _ _ (by rfl) w2.heap.size (.slice (some ⟨w2.heap.size, 0, none⟩) 0 0) [] ((intV (Sl.keys L)).take i) (by rfl) (by first | exact O0.out | exact O0.out.drew) w2.heap.size A1 _ c HN.out.1 (by rfl) (HA.out.1.below (Below.trans (HG.out.2.2.mono hB) (Below.mono (show Below w2.heap.size w2 _ by ((repeat (first | refine Below.drew ?_ | refine Below.alloc ?_ (by first | omega | (simp; done) | (simp; omega)) _ | refine Below.setCell ?_ (by first | omega | (simp; done) | (simp; omega)) _)); first | exact Below.refl _ _ | assumption | exact below_drewN _ (Below.refl _ _))) (by omega))) (Nat.le_refl _) (by omega)) (fun y hy => intV_one _ y (List.mem_of_mem_take hy)) (by rw [HN.out.1]; simp; omega) (by (first | omega | (simp; done) | (simp; omega))) ?_; intro D1 d1 w3 hown1 hgrow1 hat1; have hB3 := Below.grown (show Below w2.heap.size w2 _ by ((repeat (first | refine Below.drew ?_ | refine Below.alloc ?_ (by first | omega | (simp; done) | (simp; omega)) _ | refine Below.setCell ?_ (by first | omega | (simp; done) | (simp; omega)) _)); first | exact Below.refl _ _ | assumption | exact below_drewN _ (Below.refl _ _))) hgrow1 (by (first | omega | (simp; done) | (simp; omega))) (fun q hq => (O0.out.lt q hq).1); rw [HN.out.2.2.2.2.1] at hown1 hat1 ⊢; have O1 := Lib.hid hown1; have hs3 := hB3.size; clear hown1 hat1 hgrow1))))
  have HH := Lib.hid (And.intro O2.out hB4)
  have hs4 := hB4.size
  clear q1 hbb hB3 O1 O2 O0
  have q1 : ∀ w', Below w4.heap.size w4 w' → w'.cell? ⟨w.heap.size, 2, none⟩ = some (.slice C L.length c') := fun w' hb => ((HH.out.2.trans (hb.mono hs4)).cell (p := ⟨w.heap.size, 2, none⟩) (by show w.heap.size < _; omega)).trans HG.out.1.1.2.2
  have hbb := Below.refl w4.heap.size w4
  go_wp2_with fail
  go_region_held3 (fun w' => Below w4.heap.size w4 w') (((repeat (first | refine Below.drew ?_ | refine Below.alloc ?_ (by first | omega | (simp; done) | (simp; omega)) _ | refine Below.setCell ?_ (by first | omega | (simp; done) | (simp; omega)) _)); first | exact Below.refl _ _ | assumption | exact below_drewN _ (Below.refl _ _)))
    ((first
      | ((refine step_append_vals 30 28 (.int .u64 0) 8 Cu.und Cu.info (by rfl) (by omega) (by rfl) _ _ (by rfl) w4.heap.size _ _ ((elV (Sl.things L)).drop (i + 1)) (by rfl) O1.out w4.heap.size C2 _ (c' - (i + 1)) HN.out.2.2.2.1 (by rfl) (HA.out.2.2.2.below (Below.trans (HG.out.2.2.mono hB) (Below.trans (HH.out.2.mono (by omega)) (Below.mono (show Below w4.heap.size w4 _ by ((repeat (first | refine Below.drew ?_ | refine Below.alloc ?_ (by first | omega | (simp; done) | (simp; omega)) _ | refine Below.setCell ?_ (by first | omega | (simp; done) | (simp; omega)) _)); first | exact Below.refl _ _ | assumption | exact below_drewN _ (Below.refl _ _))) (by omega)))) (Nat.le_refl _) (by omega)) (fun y hy => elV_one _ y (List.mem_of_mem_drop hy)) (by rw [HN.out.2.2.2.1, HN.out.2.2.2.2.2]; omega) (by (first | omega | (simp; done) | (simp; omega))) ?_; intro D4 d4 w6 hown2 hgrow2 hat2; have hB6 := Below.grown (show Below w4.heap.size w4 _ by ((repeat (first | refine Below.drew ?_ | refine Below.alloc ?_ (by first | omega | (simp; done) | (simp; omega)) _ | refine Below.setCell ?_ (by first | omega | (simp; done) | (simp; omega)) _)); first | exact Below.refl _ _ | assumption | exact below_drewN _ (Below.refl _ _))) hgrow2 (by (first | omega | (simp; done) | (simp; omega))) (fun q hq => (O1.out.lt q hq).1); rw [Hn.out.2] at hown2 hat2 ⊢; have O2 := Lib.hid hown2; clear hown2 hat2 hgrow2))
      | ((have O0 := Lib.hid (ownV_nil 28 w4); refine step_append_vals 30 28 (.int .u64 0) 8 Cu.und Cu.info (by rfl) (by omega) (by rfl) _ _ (by rfl) w4.heap.size (.slice (some ⟨w4.heap.size, 0, none⟩) 0 0) [] ((elV (Sl.things L)).take i) (by rfl) (by first | exact O0.out | exact O0.out.drew) w4.heap.size C1 _ c' HN.out.2.2.1 (by rfl) (HA.out.2.2.1.below (Below.trans (HG.out.2.2.mono hB) (Below.trans (HH.out.2.mono (by omega)) (Below.mono (show Below w4.heap.size w4 _ by ((repeat (first | refine Below.drew ?_ | refine Below.alloc ?_ (by first | omega | (simp; done) | (simp; omega)) _ | refine Below.setCell ?_ (by first | omega | (simp; done) | (simp; omega)) _)); first | exact Below.refl _ _ | assumption | exact below_drewN _ (Below.refl _ _))) (by omega)))) (Nat.le_refl _) (by omega)) (fun y hy => elV_one _ y (List.mem_of_mem_take hy)) (by rw [HN.out.2.2.1]; simp; omega) (by (first | omega | (simp; done) | (simp; omega))) ?_; intro D3 d3 w5 hown1 hgrow1 hat1; have hB5 := Below.grown (show Below w4.heap.size w4 _ by ((repeat (first | refine Below.drew ?_ | refine Below.alloc ?_ (by first | omega | (simp; done) | (simp; omega)) _ | refine Below.setCell ?_ (by first | omega | (simp; done) | (simp; omega)) _)); first | exact Below.refl _ _ | assumption | exact below_drewN _ (Below.refl _ _))) hgrow1 (by (first | omega | (simp; done) | (simp; omega))) (fun q hq => (O0.out.lt q hq).1); rw [HN.out.2.2.2.2.2] at hown1 hat1 ⊢; have O1 := Lib.hid hown1; have hs5 := hB5.size; clear hown1 hat1 hgrow1))))
  have hs6 := hB6.size
  have gr := HG.out.2.1.below (HH.out.2.trans (hB6.mono hs4)) (by omega)
  have gb := HG.out.1.below (HH.out.2.trans (hB6.mono hs4)) (by omega)
  have o1 := HH.out.1.below hB6 (Nat.le_refl _)
  have o2 := O2.out
  have HE := Lib.hid (And.intro gr (And.intro o1 (And.intro o2 (HG.out.2.2.trans (Below.mono (HH.out.2.trans (hB6.mono hs4)) (by omega))))))
  obtain ⟨⟨z0, z1, z2⟩, _⟩ := gb
  obtain ⟨⟨y0, y1, y2⟩, y3, y4, y5⟩ := gr
  clear q1 hbb hB5 hB6 O1 O2 O0 o1 o2
  go_wp2_with fail
  have gset := HE.out.1.set (.int .i64 (k : Int)) (.slice D2 n1 d2) (.slice D4 n2 d4)
  obtain ⟨⟨k0, k1, k2⟩, _⟩ := gset
  refine bodyPost_ret (v := refV k D2 n1 d2 D4 n2 d4) (by simp [results, Tryd.results10, go_sem, k0, k1, k2]) rfl ?_
  have hsz : w.heap.size + 2 ≤ w2.heap.size := by omega
  have p1 := ownV_set3 HE.out.2.1 (b := w.heap.size + 1) (fun q hq => by have := (HE.out.2.1.lt q hq).1; omega) (.int .i64 (k : Int)) (.slice D2 n1 d2) (.slice D4 n2 d4)
  have p2 := ownV_set3 HE.out.2.2.1 (b := w.heap.size + 1) (fun q hq => by have := (HE.out.2.2.1.lt q hq).1; omega) (.int .i64 (k : Int)) (.slice D2 n1 d2) (.slice D4 n2 d4)
  have e1 : (Sl.del a L).length = n1 := by rw [← Hn.out.1, HK.out.1, intV_length, Sl.keys_length, ← Hdel.out]
  have e2 : (Sl.del a L).length = n2 := by rw [← Hn.out.2, HK.out.2, elV_length, Sl.things_length, ← Hdel.out]
  refine ⟨D2, d2, D4, d4, ?_, fun w'' hw => ⟨Hwf.out, ?_, ?_, ?_, ?_⟩, below_set3 HE.out.2.2.2 (by omega) _ _ _⟩
  · show _ = Ending.returned (refV k D2 (Sl.del a L).length d2 D4 (Sl.del a L).length d4)
    rw [show refV k D2 (Sl.del a L).length d2 D4 (Sl.del a L).length d4 = refV k D2 n1 d2 D4 n2 d4 by unfold refV; rw [e1]; rw [e1] at e2; rw [e2]]
  · have := p1.cap
    rw [e1]; exact this
  · have := p2.cap
    rw [e2]; exact this
  · have := p1.rd_loc (w' := w'') (fun p hp hq => hw p (by omega) hq)
    rw [HK.out.1, ← Hdel.out] at this
    exact this
  · have := p2.rd_loc (w' := w'') (fun p hp hq => hw p (by omega) hq)
    rw [HK.out.2, ← Hdel.out] at this
    exact this
theorem rdel_c {w : World} {B k : Nat} {A : Option Addr} {c : Nat} {C : Option Addr} {c' : Nat} {L : Al} (h : RefM w B k A c C c' L) (hB : B ≤ w.heap.size) (a : Nat) :
    Calls Tryd.prog 10 #[refV k A L.length c C L.length c', .int .i64 (a : Int)] w fun e w' => ∃ A2 c2 C2 c2', e = .returned (refV k A2 (Sl.del a L).length c2 C2 (Sl.del a L).length c2') ∧ (∀ w'' : World, (∀ p : Addr, p.block < w'.heap.size → p.block < B ∨ w.heap.size ≤ p.block → w''.cell? p = w'.cell? p) → RefM w'' w'.heap.size k A2 c2 C2 c2' (Sl.del a L)) ∧ Below w.heap.size w w' := by
  cases hg : Sl.get L (a : Int) with
  | some u =>
    refine (rdel_yes h hB a u hg).mono ?_
    rintro e w' ⟨A2, c2, C2, c2', he, hr, hb⟩
    exact ⟨A2, c2, C2, c2', he, fun w'' hw => hr w'' (fun p hp hq => hw p hq (.inr hp)), hb⟩
  | none =>
    refine (rdel_no h hB a (by simp [Sl.has, hg])).mono ?_
    rintro e w' ⟨rfl, hb⟩
    rw [Sl.del_none hg]
    have hs := hb.size
    refine ⟨A, c, C, c', rfl, fun w'' hw => ⟨h.1, h.2.1, h.2.2.1, h.2.2.2.1.keep (by omega) fun p hp => ?_, h.2.2.2.2.keep (by omega) fun p hp => ?_⟩, hb⟩
    · rw [hw p (by omega) (.inl hp)]; exact hb.cell (by omega)
    · rw [hw p (by omega) (.inl hp)]; exact hb.cell (by omega)
end Go.Proofs.YtdejnkihofhjoaaDoor
