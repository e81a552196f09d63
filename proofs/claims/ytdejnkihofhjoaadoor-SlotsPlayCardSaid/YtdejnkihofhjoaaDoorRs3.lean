/-
  CONTRACTS of package pantileref05, third part: Put.
-/
import Derived.Test.YtdejnkihofhjoaaDoorRs2
namespace Go.Proofs.YtdejnkihofhjoaaDoor
open Go.ChangeShapes Go.WideShapes Go.ChangeAt Go.RowKit
open Go.Proofs.YtdejnkihofhjoaaDoor.Su (Al elV intV elV_get elV_length intV_length isA elV_one intV_one infoI)

/-- two rows of the call's own, in blocks of their own -/
def Two (w : World) (B : Nat) (v u : Value) (xs ys : List Value) : Prop := OwnV 3 w B v xs ∧ OwnV 28 w B u ys ∧ (v.ownBlock = none ∨ v.ownBlock ≠ u.ownBlock)
theorem Two.drew {w : World} {B : Nat} {v u : Value} {xs ys : List Value} (h : Two w B v u xs ys) : Two w.drew B v u xs ys := h
theorem two_lo {w w1 : World} {B : Nat} {v u v1 : Value} {xs ys zs : List Value} (h : Two w B v u xs ys) (hown : OwnV 3 w1 B v1 zs) (hg : w.grownBy w1 v.ownBlock) (hat : v1.ownBlock = v.ownBlock ∨ v1.ownBlock = some w.heap.size) : Two w1 B v1 u zs ys := by
  obtain ⟨o1, o2, m5⟩ := h
  refine ⟨hown, ⟨o2.1, o2.2.kept hg ?_⟩, ?_⟩
  · rcases hb2 : u.ownBlock with _ | b
    · exact .inl rfl
    · refine .inr ?_
      rcases m5 with m5 | m5
      · rw [m5]; simp
      · rw [← hb2]; exact Ne.symm m5
  · rcases hat with e | e
    · rw [e]; exact m5
    · refine .inr ?_
      rw [e]
      intro e2
      have := (o2.lt _ e2.symm).2
      omega
theorem two_hi {w w1 : World} {B : Nat} {v u u1 : Value} {xs ys zs : List Value} (h : Two w B v u xs ys) (hown : OwnV 28 w1 B u1 zs) (hg : w.grownBy w1 u.ownBlock) (hat : u1.ownBlock = u.ownBlock ∨ u1.ownBlock = some w.heap.size) : Two w1 B v u1 xs zs := by
  obtain ⟨o1, o2, m5⟩ := h
  refine ⟨⟨o1.1, o1.2.kept hg m5⟩, hown, ?_⟩
  rcases hat with e | e
  · rw [e]; exact m5
  · rcases hb2 : v.ownBlock with _ | b
    · exact .inl rfl
    · refine .inr ?_
      rw [e]
      intro e2
      have := (o1.lt _ hb2).2
      have := Option.some.inj e2
      omega
theorem keysI_with (M : Al) (i a x : Nat) : [] ++ (intV (Sl.keys M)).take i ++ [Value.int .i64 (a : Int)] ++ (intV (Sl.keys M)).drop i = intV (Sl.keys (M.take i ++ (a, x) :: M.drop i)) := by
  simp [Su.intV, Sl.keys, List.map_append, List.map_take, List.map_drop]
theorem thingsE_with (M : Al) (i a x : Nat) : [] ++ (elV (Sl.things M)).take i ++ [Value.int .u64 (x : Int)] ++ (elV (Sl.things M)).drop i = elV (Sl.things (M.take i ++ (a, x) :: M.drop i)) := by
  simp [Su.elV, Sl.things, List.map_append, List.map_take, List.map_drop]
set_option maxRecDepth 100000 in
set_option maxHeartbeats 2000000 in
theorem rput_c {w : World} {B k : Nat} {A : Option Addr} {c : Nat} {C : Option Addr} {c' : Nat} {L : Al} (h : RefM w B k A c C c' L) (hB : B ≤ w.heap.size) (a x : Nat) (ha : a < 2 ^ k) :
    Calls Tryd.prog 12 #[refV k A L.length c C L.length c', .int .i64 (a : Int), .int .u64 (x : Int)] w fun e w' => ∃ A2 c2 C2 c2', e = .returned (refV k A2 (Sl.put a x L).length c2 C2 (Sl.put a x L).length c2') ∧ (∀ w'' : World, (∀ p : Addr, w.heap.size ≤ p.block → p.block < w'.heap.size → w''.cell? p = w'.cell? p) → RefM w'' w'.heap.size k A2 c2 C2 c2' (Sl.put a x L)) ∧ Below w.heap.size w w' := by
  obtain ⟨f0, f1, f2, f3⟩ := two3_facts w (.int .i64 (k : Int)) (.slice A L.length c) (.slice C L.length c')
  have HP := Lib.hid (rdel_c (h.below f2 hB (show B ≤ B by omega)) (show B ≤ _ by rw [f3]; omega) a)
  have wf := h.1
  have Hput := Lib.hid (Sl.put_del wf.srt a x)
  have Hwf := Lib.hid (wf.put x ha)
  have Hidx := Lib.hid (Sl.idx_del wf.srt a)
  have hlen : (Sl.del a L).length ≤ 65536 := (wf.del a).len16
  have hle := Sl.idx_le (Sl.del a L) (a : Int)
  rw [Sl.idx_del wf.srt a] at hle
  obtain ⟨i, hi⟩ : ∃ i, Sl.idx L (a : Int) = i := ⟨_, rfl⟩
  rw [hi] at Hput Hidx hle
  have HF := Lib.hid (And.intro f0 (And.intro f1 f2))
  obtain ⟨⟨q0, q1, q2⟩, _⟩ := f0
  clear f1 f2 h wf hi
  generalize Sl.del a L = M at *
  go_enter Tryd.func12, Tryd.ntmps12
  go_wp2_with fail
  change Calls _ _ _ (two3 w (.int .i64 (k : Int)) (.slice A L.length c) (.slice C L.length c')) _
  generalize two3 w (.int .i64 (k : Int)) (.slice A L.length c) (.slice C L.length c') = W at *
  refine HP.out.mono ?_
  rintro e w2 ⟨E, n, F, n', rfl, hrm, hb2⟩
  have hs2 := hb2.size
  have g0 := HF.out.1.below hb2 (by omega)
  have g1 := HF.out.2.1.below hb2 (by omega)
  have HG := Lib.hid (And.intro (g0.set (.int .i64 (k : Int)) (.slice E M.length n) (.slice F M.length n')) (And.intro (HF.out.2.2.trans (hb2.mono (by omega))) (And.intro hrm g1)))
  obtain ⟨⟨z0, z1, z2⟩, z3, z4, z5⟩ := g0
  clear q0 q1 q2 hb2 hrm g1
  go_wp2_with fail
  have hset : ∀ p : Addr, p.block ≠ w.heap.size → (((w2.setCell ⟨w.heap.size, 0, none⟩ (.int .i64 (k : Int))).setCell ⟨w.heap.size, 1, none⟩ (.slice E M.length n)).setCell ⟨w.heap.size, 2, none⟩ (.slice F M.length n')).cell? p = w2.cell? p := fun p hp => by
    rw [World.cell?_setCell_other _ _ _ _ (fun e => hp (by rw [← e])), World.cell?_setCell_other _ _ _ _ (fun e => hp (by rw [← e])), World.cell?_setCell_other _ _ _ _ (fun e => hp (by rw [← e]))]
  have hr3 := HG.out.2.2.1 _ (fun p _ hp => hset p (by omega))
  have g1 := HG.out.2.2.2.other (b' := w.heap.size) (by omega) (.int .i64 (k : Int)) (.slice E M.length n) (.slice F M.length n')
  have g0 := HG.out.1
  have hB3 := below_set3 HG.out.2.1 (b := w.heap.size) (Nat.le_refl _) (.int .i64 (k : Int)) (.slice E M.length n) (.slice F M.length n')
  have hs3 : (((w2.setCell ⟨w.heap.size, 0, none⟩ (.int .i64 (k : Int))).setCell ⟨w.heap.size, 1, none⟩ (.slice E M.length n)).setCell ⟨w.heap.size, 2, none⟩ (.slice F M.length n')).heap.size = w2.heap.size := by simp
  clear hset
  generalize ((w2.setCell ⟨w.heap.size, 0, none⟩ (.int .i64 (k : Int))).setCell ⟨w.heap.size, 1, none⟩ (.slice E M.length n)).setCell ⟨w.heap.size, 2, none⟩ (.slice F M.length n') = w3 at *
  have HM := Lib.hid (And.intro hr3 (And.intro g0 (And.intro g1 hB3)))
  refine (rplace5_c hr3 (by omega) (a : Int)).mono ?_
  rintro e w4 ⟨rfl, hb4⟩
  rw [Hidx.out]
  have hs4 := hb4.size
  have HQ := Lib.hid (And.intro (g0.below hb4 (by omega)) (And.intro (g1.below hb4 (by omega)) (And.intro (hB3.trans (hb4.mono (by omega))) (hr3.below (B' := w4.heap.size) hb4 (by omega) (by omega)))))
  clear z0 z1 z2 z3 z4 z5 hr3 g0 g1 hB3 hb4
  obtain ⟨⟨z0, z1, z2⟩, -⟩ := HQ.out.1
  obtain ⟨mwf, l1, l2, hA, hC⟩ := HQ.out.2.2.2
  have kA := intV_length (Sl.keys M)
  have kC := elV_length (Sl.things M)
  rw [Sl.keys_length] at kA
  rw [Sl.things_length] at kC
  obtain ⟨A1, ea1, ra1⟩ := cut_hi 29 3 Tryd.underlying29 infoI E M.length n i (by omega) l1
  obtain ⟨A2, ea2, ra2⟩ := cut_lo 29 3 Tryd.underlying29 infoI E M.length n i (by omega) l1
  obtain ⟨C1, ec1, rc1⟩ := cut_hi 30 28 Cu.und Cu.info F M.length n' i (by omega) l2
  obtain ⟨C2, ec2, rc2⟩ := cut_lo 30 28 Cu.und Cu.info F M.length n' i (by omega) l2
  have HA := Lib.hid (And.intro (ra1 w4 _ _ kA hA) (And.intro (ra2 w4 _ _ kA hA) (And.intro (rc1 w4 _ _ kC hC) (rc2 w4 _ _ kC hC))))
  have HN : Hid (((intV (Sl.keys M)).take i).length = i ∧ ((intV (Sl.keys M)).drop i).length = M.length - i ∧ ((elV (Sl.things M)).take i).length = i ∧ ((elV (Sl.things M)).drop i).length = M.length - i ∧ ([] ++ (intV (Sl.keys M)).take i).length = i ∧ ([] ++ (elV (Sl.things M)).take i).length = i ∧ ([] ++ (intV (Sl.keys M)).take i ++ [Value.int .i64 (a : Int)]).length = i + 1 ∧ ([] ++ (elV (Sl.things M)).take i ++ [Value.int .u64 (x : Int)]).length = i + 1) := Lib.hid
    ⟨by rw [List.length_take, kA]; omega, by rw [List.length_drop, kA], by rw [List.length_take, kC]; omega, by rw [List.length_drop, kC], by rw [List.nil_append, List.length_take, kA]; omega, by rw [List.nil_append, List.length_take, kC]; omega, by rw [List.nil_append, List.length_append, List.length_take, kA]; simp; omega, by rw [List.nil_append, List.length_append, List.length_take, kC]; simp; omega⟩
  have HK := Lib.hid (And.intro (keysI_with M i a x) (thingsE_with M i a x))
  obtain ⟨n1, hn1⟩ : ∃ n, ([] ++ (intV (Sl.keys M)).take i ++ [Value.int .i64 (a : Int)] ++ (intV (Sl.keys M)).drop i).length = n := ⟨_, rfl⟩
  obtain ⟨n2, hn2⟩ : ∃ n, ([] ++ (elV (Sl.things M)).take i ++ [Value.int .u64 (x : Int)] ++ (elV (Sl.things M)).drop i).length = n := ⟨_, rfl⟩
  have hn1' : n1 ≤ 70000 := by rw [← hn1, List.length_append, List.length_append, List.length_append, List.length_take, List.length_drop, kA]; simp; omega
  have hn2' : n2 ≤ 70000 := by rw [← hn2, List.length_append, List.length_append, List.length_append, List.length_take, List.length_drop, kC]; simp; omega
  have Hn := Lib.hid (And.intro hn1 hn2)
  have O0 := Lib.hid (ownV_nil 3 w4)
  have q0 : ∀ w', Below w4.heap.size w4 w' → w'.cell? ⟨w.heap.size, 0, none⟩ = some (.int .i64 (k : Int)) := fun w' hb => (hb.cell (p := ⟨w.heap.size, 0, none⟩) (by show w.heap.size < _; omega)).trans z0
  have q1 : ∀ w', Below w4.heap.size w4 w' → w'.cell? ⟨w.heap.size, 1, none⟩ = some (.slice E M.length n) := fun w' hb => (hb.cell (p := ⟨w.heap.size, 1, none⟩) (by show w.heap.size < _; omega)).trans z1
  have q2 : ∀ w', Below w4.heap.size w4 w' → w'.cell? ⟨w.heap.size, 2, none⟩ = some (.slice F M.length n') := fun w' hb => (hb.cell (p := ⟨w.heap.size, 2, none⟩) (by show w.heap.size < _; omega)).trans z2
  have hb4 : ∀ o, Below w4.heap.size w4 (w4.alloc o) := fun o => below_alloc _ _
  clear mwf hA hC ra1 ra2 rc1 rc2 kA kC hn1 hn2 z0 z1 z2
  go_wp2_with (first
    | (at_builtin; refine wpList_append_sl 29 3 (.int .i64 0) 8 Tryd.underlying29 infoI rfl (by omega) rfl (.tmp 20) (.tmp 24) rfl w4.heap.size _ [] ((intV (Sl.keys M)).take i) i HN.out.2.2.2.2.1 rfl O0.out w4.heap.size A1 i n HN.out.1 rfl (HA.out.1.below (by ((repeat (first | refine Below.drew ?_ | refine Below.alloc ?_ (by first | omega | (simp; done) | (simp; omega)) _ | refine Below.setCell ?_ (by first | omega | (simp; done) | (simp; omega)) _)); first | exact Below.refl _ _ | assumption | exact below_drewN _ (Below.refl _ _))) (Nat.le_refl _) (Nat.le_refl _)) (fun y hy => intV_one _ y (List.mem_of_mem_take hy)) (by omega) (by (first | omega | (simp; done) | (simp; omega))) ?_; intro D1 d1 w5 hown1 hgrow1 hat1; have hB5 := Below.grown (show Below w4.heap.size w4 _ by ((repeat (first | refine Below.drew ?_ | refine Below.alloc ?_ (by first | omega | (simp; done) | (simp; omega)) _ | refine Below.setCell ?_ (by first | omega | (simp; done) | (simp; omega)) _)); first | exact Below.refl _ _ | assumption | exact below_drewN _ (Below.refl _ _))) hgrow1 (by (first | omega | (simp; done) | (simp; omega))) (fun q hq => (O0.out.lt q hq).1); have O1 := Lib.hid hown1; have hs5 := hB5.size; clear hown1 hat1 hgrow1)
    | (at_builtin; refine wpList_append_sl 29 3 (.int .i64 0) 8 Tryd.underlying29 infoI rfl (by omega) rfl (.tmp 25) (.tmp 27) rfl w4.heap.size _ _ [Value.int .i64 (a : Int)] (i + 1) HN.out.2.2.2.2.2.2.1 rfl ⟨O1.out.1, O1.out.2.alloc _⟩ _ _ 1 1 rfl rfl (rdV_one _ _ _) (fun u hu => by simp at hu; subst hu; rfl) (by omega) (by (first | omega | (simp; done) | (simp; omega))) ?_; intro D2 d2 w6 hown2 hgrow2 hat2; have hB6 := Below.grown (show Below w4.heap.size w4 _ by ((repeat (first | refine Below.drew ?_ | refine Below.alloc ?_ (by first | omega | (simp; done) | (simp; omega)) _ | refine Below.setCell ?_ (by first | omega | (simp; done) | (simp; omega)) _)); first | exact Below.refl _ _ | assumption | exact below_drewN _ (Below.refl _ _))) hgrow2 (by (first | omega | (simp; done) | (simp; omega))) (fun q hq => (O1.out.lt q hq).1); have O2 := Lib.hid hown2; have hs6 := hB6.size; have hb6 := fun o => hB6.alloc hs6 o; have O0' := Lib.hid (ownV_nil 28 w6); clear hown2 hat2 hgrow2)
    | (at_builtin; refine wpList_append_sl 30 28 (.int .u64 0) 8 Cu.und Cu.info rfl (by omega) rfl (.tmp 29) (.tmp 33) rfl w6.heap.size _ [] ((elV (Sl.things M)).take i) i HN.out.2.2.2.2.2.1 rfl O0'.out w4.heap.size C1 i n' HN.out.2.2.1 rfl (HA.out.2.2.1.below (by ((repeat (first | refine Below.drew ?_ | refine Below.alloc ?_ (by first | omega | (simp; done) | (simp; omega)) _ | refine Below.setCell ?_ (by first | omega | (simp; done) | (simp; omega)) _)); first | exact Below.refl _ _ | assumption | exact below_drewN _ (Below.refl _ _))) (Nat.le_refl _) (Nat.le_refl _)) (fun y hy => elV_one _ y (List.mem_of_mem_take hy)) (by omega) (by (first | omega | (simp; done) | (simp; omega))) ?_; intro D3 d3 w7 hown3 hgrow3 hat3; have hB7 := Below.grown (show Below w6.heap.size w6 _ by ((repeat (first | refine Below.drew ?_ | refine Below.alloc ?_ (by first | omega | (simp; done) | (simp; omega)) _ | refine Below.setCell ?_ (by first | omega | (simp; done) | (simp; omega)) _)); first | exact Below.refl _ _ | assumption | exact below_drewN _ (Below.refl _ _))) hgrow3 (by (first | omega | (simp; done) | (simp; omega))) (fun q hq => (O0'.out.lt q hq).1); have O3 := Lib.hid hown3; have hs7 := hB7.size; clear hown3 hat3 hgrow3)
    | (at_builtin; refine wpList_append_sl 30 28 (.int .u64 0) 8 Cu.und Cu.info rfl (by omega) rfl (.tmp 34) (.tmp 36) rfl w6.heap.size _ _ [Value.int .u64 (x : Int)] (i + 1) HN.out.2.2.2.2.2.2.2 rfl ⟨O3.out.1, O3.out.2.alloc _⟩ _ _ 1 1 rfl rfl (rdV_one _ _ _) (fun u hu => by simp at hu; subst hu; rfl) (by omega) (by (first | omega | (simp; done) | (simp; omega))) ?_; intro D4 d4 w8 hown4 hgrow4 hat4; have hB8 := Below.grown (show Below w6.heap.size w6 _ by ((repeat (first | refine Below.drew ?_ | refine Below.alloc ?_ (by first | omega | (simp; done) | (simp; omega)) _ | refine Below.setCell ?_ (by first | omega | (simp; done) | (simp; omega)) _)); first | exact Below.refl _ _ | assumption | exact below_drewN _ (Below.refl _ _))) hgrow4 (by (first | omega | (simp; done) | (simp; omega))) (fun q hq => (O3.out.lt q hq).1); have O4 := Lib.hid hown4; have hs8 := hB8.size; clear hown4 hat4 hgrow4))
  have hlo : Two w8 w4.heap.size (.slice D2 (i + 1) d2) (.slice D4 (i + 1) d4) ([] ++ (intV (Sl.keys M)).take i ++ [Value.int .i64 (a : Int)]) ([] ++ (elV (Sl.things M)).take i ++ [Value.int .u64 (x : Int)]) := by
    refine ⟨O2.out.below hB8 (Nat.le_refl _), O4.out.mono hs6, ?_⟩
    rcases hb2 : (Value.slice D2 (i + 1) d2).ownBlock with _ | b
    · exact .inl rfl
    · refine .inr ?_
      intro e2
      have r1 := (O2.out.lt _ hb2).2
      have r2 := (O4.out.lt _ e2.symm).1
      omega
  have hB48 : Below w4.heap.size w4 w8 := hB6.trans (hB8.mono hs6)
  have HT0 := Lib.hid (And.intro hlo hB48)
  have hs48 := hB48.size
  obtain ⟨⟨z0, z1, z2⟩, -⟩ := HQ.out.1.below hB48 (by omega)
  obtain ⟨⟨y0, y1, y2⟩, y3, y4, y5⟩ := HQ.out.2.1.below hB48 (by omega)
  have hne : w.heap.size ≠ w.heap.size + 1 := by omega
  clear q0 q1 q2 hb4 hb6 hB5 hB6 hB7 hB8 O0 O0' O1 O2 O3 O4 hlo hB48
  go_region_held3 (fun w' => w'.cell? ⟨w.heap.size, 0, none⟩ = some (.int .i64 (k : Int)) ∧ w'.cell? ⟨w.heap.size, 1, none⟩ = some (.slice E M.length n) ∧ w'.cell? ⟨w.heap.size, 2, none⟩ = some (.slice F M.length n')) (first | (refine ⟨?_, ?_, ?_⟩ <;> assumption) | go_keep)
    ((first
      | ((refine step_append_sl 30 28 (.int .u64 0) 8 Cu.und Cu.info (by rfl) (by omega) (by rfl) _ _ (by rfl) w4.heap.size _ _ ((elV (Sl.things M)).drop i) n2 Hn.out.2 (by rfl) (by first | exact HTA.out.1.2.1 | exact HTA.out.1.2.1.drew) w4.heap.size C2 _ (n' - i) HN.out.2.2.2.1 (by rfl) (HA.out.2.2.2.below (by first | exact HTA.out.2 | exact HTA.out.2.drew) (Nat.le_refl _) (Nat.le_refl _)) (fun y hy => elV_one _ y (List.mem_of_mem_drop hy)) (by omega) (by first | exact HTA.out.2.size) ?_; intro D6 d6 w10 hown hgrow hat; have HT2 := Lib.hid (And.intro (two_hi (by first | exact HTA.out.1 | exact HTA.out.1.drew) hown hgrow hat) (Below.grown (show Below w4.heap.size w4 _ by first | exact HTA.out.2 | exact HTA.out.2.drew) hgrow (by first | exact HTA.out.2.size) (fun q hq => (HTA.out.1.2.1.lt q hq).1))); obtain ⟨⟨z0, z1, z2⟩, -⟩ := HQ.out.1.below HT2.out.2 (by omega); obtain ⟨⟨y0, y1, y2⟩, y3, y4, y5⟩ := HQ.out.2.1.below HT2.out.2 (by omega); clear hown hgrow hat))
      | ((refine step_append_sl 29 3 (.int .i64 0) 8 Tryd.underlying29 infoI (by rfl) (by omega) (by rfl) _ _ (by rfl) w4.heap.size _ _ ((intV (Sl.keys M)).drop i) n1 Hn.out.1 (by rfl) (by first | exact HTX.out.1.1 | exact HTX.out.1.1.drew) w4.heap.size A2 _ (n - i) HN.out.2.1 (by rfl) (HA.out.2.1.below (by first | exact HTX.out.2 | exact HTX.out.2.drew) (Nat.le_refl _) (Nat.le_refl _)) (fun y hy => intV_one _ y (List.mem_of_mem_drop hy)) (by omega) (by first | exact HTX.out.2.size) ?_; intro D5 d5 w10 hown hgrow hat; have HT2 := Lib.hid (And.intro (two_lo (by first | exact HTX.out.1 | exact HTX.out.1.drew) hown hgrow hat) (Below.grown (show Below w4.heap.size w4 _ by first | exact HTX.out.2 | exact HTX.out.2.drew) hgrow (by first | exact HTX.out.2.size) (fun q hq => (HTX.out.1.1.lt q hq).1))); obtain ⟨⟨z0, z1, z2⟩, -⟩ := HQ.out.1.below HT2.out.2 (by omega); obtain ⟨⟨y0, y1, y2⟩, y3, y4, y5⟩ := HQ.out.2.1.below HT2.out.2 (by omega); clear hown hgrow hat))
      | ((refine step_append_sl 29 3 (.int .i64 0) 8 Tryd.underlying29 infoI (by rfl) (by omega) (by rfl) _ _ (by rfl) w4.heap.size _ _ ((intV (Sl.keys M)).drop i) n1 Hn.out.1 (by rfl) (by first | exact HT0.out.1.1 | exact HT0.out.1.1.drew) w4.heap.size A2 _ (n - i) HN.out.2.1 (by rfl) (HA.out.2.1.below (by first | exact HT0.out.2 | exact HT0.out.2.drew) (Nat.le_refl _) (Nat.le_refl _)) (fun y hy => intV_one _ y (List.mem_of_mem_drop hy)) (by omega) (by first | exact HT0.out.2.size) ?_; intro D5 d5 w9 hown hgrow hat; have HTA := Lib.hid (And.intro (two_lo (by first | exact HT0.out.1 | exact HT0.out.1.drew) hown hgrow hat) (Below.grown (show Below w4.heap.size w4 _ by first | exact HT0.out.2 | exact HT0.out.2.drew) hgrow (by first | exact HT0.out.2.size) (fun q hq => (HT0.out.1.1.lt q hq).1))); obtain ⟨⟨z0, z1, z2⟩, -⟩ := HQ.out.1.below HTA.out.2 (by omega); obtain ⟨⟨y0, y1, y2⟩, y3, y4, y5⟩ := HQ.out.2.1.below HTA.out.2 (by omega); clear hown hgrow hat))
      | ((refine step_append_sl 30 28 (.int .u64 0) 8 Cu.und Cu.info (by rfl) (by omega) (by rfl) _ _ (by rfl) w4.heap.size _ _ ((elV (Sl.things M)).drop i) n2 Hn.out.2 (by rfl) (by first | exact HT0.out.1.2.1 | exact HT0.out.1.2.1.drew) w4.heap.size C2 _ (n' - i) HN.out.2.2.2.1 (by rfl) (HA.out.2.2.2.below (by first | exact HT0.out.2 | exact HT0.out.2.drew) (Nat.le_refl _) (Nat.le_refl _)) (fun y hy => elV_one _ y (List.mem_of_mem_drop hy)) (by omega) (by first | exact HT0.out.2.size) ?_; intro D6 d6 w9 hown hgrow hat; have HTX := Lib.hid (And.intro (two_hi (by first | exact HT0.out.1 | exact HT0.out.1.drew) hown hgrow hat) (Below.grown (show Below w4.heap.size w4 _ by first | exact HT0.out.2 | exact HT0.out.2.drew) hgrow (by first | exact HT0.out.2.size) (fun q hq => (HT0.out.1.2.1.lt q hq).1))); obtain ⟨⟨z0, z1, z2⟩, -⟩ := HQ.out.1.below HTX.out.2 (by omega); obtain ⟨⟨y0, y1, y2⟩, y3, y4, y5⟩ := HQ.out.2.1.below HTX.out.2 (by omega); clear hown hgrow hat))))
  all_goals go_wp2_with fail
  all_goals (
    obtain ⟨⟨k0, k1, k2⟩, _⟩ := (HQ.out.2.1.below HT2.out.2 (by omega)).set (.int .i64 (k : Int)) (.slice D5 n1 d5) (.slice D6 n2 d6)
    refine bodyPost_ret (v := refV k D5 n1 d5 D6 n2 d6) (by simp [results, Tryd.results12, go_sem, k0, k1, k2]) rfl ?_
    have p1 := ownV_set3 HT2.out.1.1 (b := w.heap.size + 1) (fun q hq => by have := (HT2.out.1.1.lt q hq).1; omega) (.int .i64 (k : Int)) (.slice D5 n1 d5) (.slice D6 n2 d6)
    have p2 := ownV_set3 HT2.out.1.2.1 (b := w.heap.size + 1) (fun q hq => by have := (HT2.out.1.2.1.lt q hq).1; omega) (.int .i64 (k : Int)) (.slice D5 n1 d5) (.slice D6 n2 d6)
    have e1 : (Sl.put a x L).length = n1 := by rw [← Hn.out.1, HK.out.1, intV_length, Sl.keys_length, ← Hput.out]
    have e2 : (Sl.put a x L).length = n2 := by rw [← Hn.out.2, HK.out.2, elV_length, Sl.things_length, ← Hput.out]
    refine ⟨D5, d5, D6, d6, ?_, fun w'' hw => ⟨Hwf.out, ?_, ?_, ?_, ?_⟩, below_set3 (HQ.out.2.2.1.trans (HT2.out.2.mono (by omega))) (by omega) _ _ _⟩
    · show _ = Ending.returned (refV k D5 (Sl.put a x L).length d5 D6 (Sl.put a x L).length d6)
      rw [show refV k D5 (Sl.put a x L).length d5 D6 (Sl.put a x L).length d6 = refV k D5 n1 d5 D6 n2 d6 by unfold refV; rw [e1]; rw [e1] at e2; rw [e2]]
    · rw [e1]; exact p1.cap
    · rw [e2]; exact p2.cap
    · have := p1.rd_loc (w' := w'') (fun p hp hq => hw p (by omega) hq)
      rw [HK.out.1, ← Hput.out] at this
      exact this
    · have := p2.rd_loc (w' := w'') (fun p hp hq => hw p (by omega) hq)
      rw [HK.out.2, ← Hput.out] at this
      exact this)
end Go.Proofs.YtdejnkihofhjoaaDoor
