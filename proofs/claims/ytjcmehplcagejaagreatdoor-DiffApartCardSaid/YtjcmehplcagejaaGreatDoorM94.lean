import Derived.Test.YtjcmehplcagejaaGreatDoorM93
/-
  CONTRACTS of package diff, eighth part: through, Changes, Count, Same, Steps.
-/
namespace Go.Proofs.YtjcmehplcagejaaGreatDoor
open Go.ChangeShapes Go.WideShapes Go.ChangeAt Go.RowKit
open Tr (T S4 Ent Sd Fl Chg)

/-! ### Count -/
def CnInv (h : Nat) (us : List Chg) (w : World) (F : Nat → Prop) : Prop := w.heap[h]? = some (.cells #[.int .u64 (us.length : Int)] 46 (0, 0)) ∧ F = fun b => b = h
theorem tell_len {w : World} {B k : Nat} {x y : Option T} (hx : NodeO w B k x) (hy : NodeO w B k y) (h : TellOk x y) : max (Tr.entsO x).length (Tr.entsO y).length = (Tr.chO x y).length := by
  obtain ⟨zx, dx⟩ := entsO_zs (k := k) (o := x) fun t e => (hx t e).1
  obtain ⟨zy, dy⟩ := entsO_zs (k := k) (o := y) fun t e => (hy t e).1
  rcases h with ⟨rfl, h0⟩ | ⟨h0, rfl⟩ | ⟨g, g', p, v, u, rfl, rfl, hne⟩
  · show max 0 _ = (Tr.chL [] (Tr.entsO y)).length
    rw [Tr.chL_to zy dy, List.length_map]
    omega
  · show max _ 0 = (Tr.chL (Tr.entsO x) []).length
    rw [Tr.chL_from zx dx, List.length_map]
    omega
  · have hp := dx (p, v) (by rw [show Tr.entsO (some (T.ent g p v)) = [(p, v)] by simp [Tr.entsO, Tr.ents_ent]]; exact List.mem_singleton.2 rfl)
    have hq := dy (p, u) (by rw [show Tr.entsO (some (T.ent g' p u)) = [(p, u)] by simp [Tr.entsO, Tr.ents_ent]]; exact List.mem_singleton.2 rfl)
    have e := Tr.chL_one hp.1 hp.2.1 hp.2.2 hq.2.2 hne
    have e2 : Tr.chO (some (T.ent g p v)) (some (T.ent g' p u)) = [(p, some v, some u)] := by rw [← e]; simp [Tr.chO, Tr.entsO, Tr.ents_ent]
    rw [e2]
    simp [Tr.entsO, Tr.ents_ent]
set_option maxRecDepth 100000 in
set_option maxHeartbeats 4000000 in
theorem count1_visit {B k h M : Nat} (hB : B ≤ h) (hM : M ≤ 100000000) : VisitD 78 #[.pointer (some ⟨h, 0, none⟩)] B k M true (CnInv h) where
  ent := enters_of Tryz.func78 (by kernel_rfl) rfl
  frame := by
    rintro us w w' F ⟨h1, rfl⟩ hs hb
    exact ⟨(hb h rfl).trans h1, rfl⟩
  inb := by
    rintro us w F ⟨h1, rfl⟩ b rfl
    exact ⟨(Array.getElem?_eq_some_iff.1 h1).1, hB⟩
  call := by
    rintro us w F x y ⟨h1, rfl⟩ hx hy hBw hT ht hlen
    have hml := tell_len hx hy ht
    obtain ⟨n, hn⟩ : ∃ n, (us ++ Tr.chO x y).length = n := ⟨_, rfl⟩
    have hlt := (Array.getElem?_eq_some_iff.1 h1).1
    have HX1 : Hid (∀ w2, Below w.heap.size w w2 → Calls Tryz.prog 79 #[.pointer (rootP x)] w2 fun e w3 => ∃ a b c : Int, e = .returned (.agg #[.int .u64 ((Tr.entsO x).length : Int), .int .u64 a, .int .u64 b, .int .u64 c]) ∧ Below w2.heap.size w2 w3) := Lib.hid fun w2 hb => by
      refine (nSums_o (hx.below hb hBw (Nat.le_refl _)) (Nat.le_trans hBw hb.size)).mono ?_
      rintro e w3 ⟨rfl, hb3⟩
      exact ⟨_, _, _, by rw [sumsV, Tr.sums_c], hb3⟩
    have HY1 : Hid (∀ w2, Below w.heap.size w w2 → Calls Tryz.prog 79 #[.pointer (rootP y)] w2 fun e w3 => ∃ a b c : Int, e = .returned (.agg #[.int .u64 ((Tr.entsO y).length : Int), .int .u64 a, .int .u64 b, .int .u64 c]) ∧ Below w2.heap.size w2 w3) := Lib.hid fun w2 hb => by
      refine (nSums_o (hy.below hb hBw (Nat.le_refl _)) (Nat.le_trans hBw hb.size)).mono ?_
      rintro e w3 ⟨rfl, hb3⟩
      exact ⟨_, _, _, by rw [sumsV, Tr.sums_c], hb3⟩
    obtain ⟨nx, hnx⟩ : ∃ nx, (Tr.entsO x).length = nx := ⟨_, rfl⟩
    obtain ⟨ny, hny⟩ : ∃ ny, (Tr.entsO y).length = ny := ⟨_, rfl⟩
    obtain ⟨nl, hnl⟩ : ∃ nl, us.length = nl := ⟨_, rfl⟩
    obtain ⟨mx, hmx⟩ : ∃ mx, max nx ny = mx := ⟨_, rfl⟩
    rw [hnx, hny, hmx] at hml
    rw [hnx] at HX1
    rw [hny] at HY1
    have hsum : nl + mx = n := by rw [← hn, List.length_append, ← hml, hnl]
    have hmI : max (nx : Int) (ny : Int) = (mx : Int) := by omega
    have hsI : (nl : Int) + (mx : Int) = (n : Int) := by omega
    have hn9 : (n : Int) ≤ 100000000 := by rw [← hsI]; have := hlen; rw [← hml, hnl] at this; omega
    have c0 : ∀ w2, Below w.heap.size w w2 → w2.cell? ⟨h, 0, none⟩ = some (.int .u64 (nl : Int)) := fun w2 hb => by rw [cell_of_row w2 h _ _ _ (0, 0) ((hb.block h hlt).trans h1), ← hnl]; rfl
    have z0 : ∀ w2, Below w.heap.size w w2 → w2.frozen? ⟨h, 0, none⟩ = false := fun w2 hb => frozen_of_row w2 h 0 _ _ ((hb.block h hlt).trans h1)
    rw [show (#[.pointer (rootP x), .pointer (rootP y)] ++ #[.pointer (some ⟨h, 0, none⟩)] : Array Value) = #[.pointer (rootP x), .pointer (rootP y), .pointer (some ⟨h, 0, none⟩)] from rfl]
    have HX := Lib.hid (And.intro h1 (And.intro hn hlt))
    have HC := Lib.hid (And.intro c0 z0)
    have cc := c0 w (Below.refl _ _)
    have HM := Lib.hid (And.intro hmI (And.intro hsI hn9))
    obtain ⟨px, hpx⟩ : ∃ p, rootP x = p := ⟨_, rfl⟩
    obtain ⟨py, hpy⟩ : ∃ p, rootP y = p := ⟨_, rfl⟩
    rw [hpx] at HX1 ⊢
    rw [hpy] at HY1 ⊢
    have hbb := Below.refl w.heap.size w
    have hwr : IntKind.u64.wrap ((nl : Int) + (mx : Int)) = (n : Int) := by
      rw [hsI]
      simp only [IntKind.wrap, IntKind.signed, IntKind.bits]
      first | omega | (simp; omega)
    have HW := Lib.hid hwr
    have hmx9 : (mx : Int) ≤ 100000000 := by omega
    have hnl9 : (nl : Int) ≤ 100000000 := by omega
    clear h1 hx hy hBw hT ht hlen hml hn hlt hnx hny hnl hmx hsum hM hB hpx hpy c0 z0 hsI hn9 hwr
    have hsf := sums_count
    go_enter Tryz.func78, Tryz.ntmps78
    go_wp2_with fail
    go_region_with (first
      | (go_at_call 79; refine (HX1.out _ (by ((repeat (first | refine Below.drew ?_ | (with_reducible refine below_drewN _ ?_) | refine Below.alloc ?_ (by first | omega | (simp; done) | (simp; omega)) _ | refine Below.setCell ?_ (by first | omega | (simp; done) | (simp; omega)) _)); first | exact Below.refl _ _ | assumption | exact below_drewN _ (Below.refl _ _) | exact below_drewN _ (below_drewN _ (Below.refl _ _))))).mono ?_; rintro e w1 ⟨a1, a2, a3, rfl, hb1⟩; have hB1 := Below.trans (show Below w.heap.size w _ by ((repeat (first | refine Below.drew ?_ | (with_reducible refine below_drewN _ ?_) | refine Below.alloc ?_ (by first | omega | (simp; done) | (simp; omega)) _ | refine Below.setCell ?_ (by first | omega | (simp; done) | (simp; omega)) _)); first | exact Below.refl _ _ | assumption | exact below_drewN _ (Below.refl _ _) | exact below_drewN _ (below_drewN _ (Below.refl _ _)))) (hb1.mono (Below.size (show Below w.heap.size w _ by ((repeat (first | refine Below.drew ?_ | (with_reducible refine below_drewN _ ?_) | refine Below.alloc ?_ (by first | omega | (simp; done) | (simp; omega)) _ | refine Below.setCell ?_ (by first | omega | (simp; done) | (simp; omega)) _)); first | exact Below.refl _ _ | assumption | exact below_drewN _ (Below.refl _ _) | exact below_drewN _ (below_drewN _ (Below.refl _ _)))))); have k1 := HC.out.1 w1 hB1; clear hb1 HX1)
      | (go_at_call 79; refine (HY1.out _ (by ((repeat (first | refine Below.drew ?_ | (with_reducible refine below_drewN _ ?_) | refine Below.alloc ?_ (by first | omega | (simp; done) | (simp; omega)) _ | refine Below.setCell ?_ (by first | omega | (simp; done) | (simp; omega)) _)); first | exact Below.refl _ _ | assumption | exact below_drewN _ (Below.refl _ _) | exact below_drewN _ (below_drewN _ (Below.refl _ _))))).mono ?_; rintro e w2 ⟨b1, b2, b3, rfl, hb2⟩; have hB2 := Below.trans (show Below w.heap.size w _ by ((repeat (first | refine Below.drew ?_ | (with_reducible refine below_drewN _ ?_) | refine Below.alloc ?_ (by first | omega | (simp; done) | (simp; omega)) _ | refine Below.setCell ?_ (by first | omega | (simp; done) | (simp; omega)) _)); first | exact Below.refl _ _ | assumption | exact below_drewN _ (Below.refl _ _) | exact below_drewN _ (below_drewN _ (Below.refl _ _)))) (hb2.mono (Below.size (show Below w.heap.size w _ by ((repeat (first | refine Below.drew ?_ | (with_reducible refine below_drewN _ ?_) | refine Below.alloc ?_ (by first | omega | (simp; done) | (simp; omega)) _ | refine Below.setCell ?_ (by first | omega | (simp; done) | (simp; omega)) _)); first | exact Below.refl _ _ | assumption | exact below_drewN _ (Below.refl _ _) | exact below_drewN _ (below_drewN _ (Below.refl _ _)))))); have k2 := HC.out.1 w2 hB2; have z2 := HC.out.2 w2 hB2; clear hb2 HY1))
    all_goals (
      rw [HW.out]
      have hq := heap_setCell_same w2 h 0 _ _ (.int .u64 (n : Int)) ((hB2.block h HX.out.2.2).trans HX.out.1)
      have hft : Foot (fun b => b = h) w (w2.setCell ⟨h, 0, none⟩ (.int .u64 (n : Int))) := (Foot.of_below (F := fun b => b = h) hB2).trans (Foot.setCell w2 (F := fun b => b = h) (a := ⟨h, 0, none⟩) rfl _) (fun b hb => .inl hb)
      have HF := Lib.hid (And.intro hq hft)
      clear hq hft hbb hB2 hB1
      go_wp2_with fail
      go_ret
      exact ⟨rfl, fun b => b = h, ⟨by rw [HF.out.1, HX.out.2.1]; rfl, rfl⟩, fun b hb => .inl hb, HF.out.2⟩)

/-! ### through -/
def EndW (go : Bool) (Inv : List Chg → World → (Nat → Prop) → Prop) (C : List Chg) (w : World) (F : Nat → Prop) (w' : World) : Prop :=
  ∃ (us : List Chg) (F' : Nat → Prop), Inv us w' F' ∧ (go = true → us = C) ∧ (go = false → (us = [] ↔ C = [])) ∧ (∀ b, F' b → F b ∨ w.heap.size ≤ b) ∧ Foot F w w'
theorem dthru_dim {w : World} {b b' k k' : Nat} {r r' : Option Addr} (h : TreC w b k r) (h' : TreC w b' k' r') (hne : k ≠ k') (f : Value) : Calls Tryz.prog 75 #[.pointer (some ⟨b, 0, none⟩), .pointer (some ⟨b', 0, none⟩), f] w fun e w' => e = .returned (.tuple #[.int .i64 0, .int .i64 2]) ∧ w = w' := by
  have HK := Lib.hid (tK_c h)
  have HK' := Lib.hid (tK_c h')
  have e1 : ((k : Int) != (k' : Int)) = true := by rw [bne_iff_ne]; omega
  clear h h' hne
  go_enter Tryz.func75, Tryz.ntmps75
  go_wp2_with fail
  refine HK.out.mono ?_
  rintro e w' ⟨rfl, rfl⟩
  clear HK
  go_wp2_with fail
  refine HK'.out.mono ?_
  rintro e w' ⟨rfl, rfl⟩
  clear HK'
  go_wp2_with fail
  go_ret2
  exact ⟨rfl, rfl⟩
theorem dthru_c {fid : Nat} {lb : Array Value} {B k M : Nat} {go : Bool} {Inv : List Chg → World → (Nat → Prop) → Prop} (hv : VisitD fid lb B k M go Inv) {w : World} {F : Nat → Prop} (hI : Inv [] w F) {b b' : Nat} {x y : Option T} (hx : TreeAt w B b k x) (hy : TreeAt w B b' k y) (hB : B ≤ w.heap.size) (hT : ∀ w', Below B w w' → Tz w') (hM : (Tr.chO x y).length ≤ M) :
    Calls Tryz.prog 75 #[.pointer (some ⟨b, 0, none⟩), .pointer (some ⟨b', 0, none⟩), .func (.func fid) #[] lb] w fun e w' => ∃ z : Int, e = .returned (.tuple #[.int .i64 z, .int .i64 0]) ∧ EndW go Inv (Tr.chO x y) w F w' := by
  have HTh := Lib.hid (dthrough_c hv hI hx.2.2.2.2 hy.2.2.2.2 hB hT hM)
  have HK := Lib.hid (tK_c hx.2.2.2.1)
  have HK' := Lib.hid (tK_c hy.2.2.2.1)
  have HR := Lib.hid (tRoot_c hx.2.2.2.1)
  have HR' := Lib.hid (tRoot_c hy.2.2.2.1)
  have e1 : ((k : Int) != (k : Int)) = false := by simp
  clear hv hI hx hy hB hT hM
  go_enter Tryz.func75, Tryz.ntmps75
  go_wp2_with fail
  refine HK.out.mono ?_
  rintro e w' ⟨rfl, rfl⟩
  clear HK
  go_wp2_with fail
  refine HK'.out.mono ?_
  rintro e w' ⟨rfl, rfl⟩
  clear HK'
  go_wp2_with fail
  refine HR.out.mono ?_
  rintro e w' ⟨rfl, rfl⟩
  clear HR
  go_wp2_with fail
  refine HR'.out.mono ?_
  rintro e w' ⟨rfl, rfl⟩
  clear HR'
  go_wp2_with fail
  refine HTh.out.mono ?_
  rintro e w2 ⟨z, us, F', rfl, he⟩
  have HE := Lib.hid he
  clear he HTh
  go_wp2_with fail
  go_ret2
  exact ⟨z, rfl, us, F', HE.out⟩
end Go.Proofs.YtjcmehplcagejaaGreatDoor

/-
  CONTRACTS of package diff, ninth part: Changes, Count, Same, Steps.
-/
namespace Go.Proofs.YtjcmehplcagejaaGreatDoor
open Go.ChangeShapes Go.WideShapes Go.ChangeAt Go.RowKit
open Tr (T S4 Ent Sd Fl Chg)

/-- a new list of changes, with new points -/
def NewC (base : Nat) (w : World) (A : Option Addr) (c : Nat) (L : List Chg) : Prop := OwnL 75 5 (ChG w fun b => base ≤ b) w base (.slice A L.length c) L
theorem NewC.below {base : Nat} {w w' : World} {A : Option Addr} {c : Nat} {L : List Chg} (h : NewC base w A c L) (hb : Below w.heap.size w w') : NewC base w' A c L :=
  OwnL.imp (OwnL.below h hb (Nat.le_refl _)) (ChG.step hb.size fun b hlt hD => ⟨hb.block b hlt, hD⟩)

/-! ### Changes -/
theorem dChanges_dim {w : World} {b b' k k' : Nat} {r r' : Option Addr} (h : TreC w b k r) (h' : TreC w b' k' r') (hb : b < w.heap.size) (hb' : b' < w.heap.size) (hne : k ≠ k') :
    Calls Tryz.prog 32 #[.pointer (some ⟨b, 0, none⟩), .pointer (some ⟨b', 0, none⟩)] w fun e w' => e = .returned (.tuple #[.slice none 0 0, .int .i64 2]) ∧ Below w.heap.size w w' := by
  have h2 := below_alloc w (.cells #[.slice none 0 0] 59)
  have hg : (w.alloc (.cells #[.slice none 0 0] 59)).cell? ⟨w.heap.size, 0, none⟩ = some (.slice none 0 0) := by rw [cell_of_row _ _ _ _ _ (0, 0) (heap_at w _ _ rfl)]; rfl
  have HT := Lib.hid fun f : Value => dthru_dim (h.below h2 hb) (h'.below h2 hb') hne f
  clear h h' hb hb' hne
  go_enter Tryz.func32, Tryz.ntmps32
  go_wp2_with fail
  refine (HT.out _).mono ?_
  rintro e w' ⟨rfl, rfl⟩
  clear HT
  go_wp2_with fail
  go_ret2
  exact ⟨rfl, h2⟩
theorem dChanges_c {w : World} {b b' k : Nat} {x y : Option T} (hx : TreeX w b k x) (hy : TreeX w b' k y) (hT : ∀ w', Below w.heap.size w w' → Tz w') {C : List Chg} (hC : Tr.chO x y = C) (hM : C.length ≤ 100000000) {n : Nat} (hn : C.length = n) :
    Calls Tryz.prog 32 #[.pointer (some ⟨b, 0, none⟩), .pointer (some ⟨b', 0, none⟩)] w fun e w' => ∃ D d, e = .returned (.tuple #[.slice D n d, .int .i64 0]) ∧ NewC w.heap.size w' D d C ∧ Below w.heap.size w w' := by
  have h2 := below_alloc w (.cells #[.slice none 0 0] 59)
  have hg := heap_at w (.cells #[.slice none 0 0] 59) _ rfl
  have HTh := Lib.hid (dthru_c (chg1_visit (B := w.heap.size) (k := k) (h := w.heap.size) (base := w.heap.size + 1) (M := C.length) (Nat.le_refl _) (by omega) hM) (w := w.alloc (.cells #[.slice none 0 0] 59)) (F := fun b => b = w.heap.size ∨ (none : Option Addr).map (·.block) = some b ∨ False)
    ⟨none, 0, fun _ => False, hg, ⟨ownL_none _ _ _, fun b hb => hb.elim⟩, by simp, rfl⟩ (hx.1.below h2 (Nat.le_refl _) (Nat.le_refl _)) (hy.1.below h2 (Nat.le_refl _) (Nat.le_refl _)) h2.size (fun w' hb => hT w' (h2.trans hb)) (by rw [hC]; exact Nat.le_refl _))
  have H2 := Lib.hid (And.intro h2 (And.intro hC hn))
  clear hx hy hT hM hn hg h2 hC
  go_enter Tryz.func32, Tryz.ntmps32
  go_wp2_with fail
  refine HTh.out.mono ?_
  rintro e w3 ⟨z, rfl, us, F', ⟨V, c, D, i1, i2, i3, rfl⟩, hgo, -, hF, hfo⟩
  have hus : us = C := by rw [← H2.out.2.1]; exact hgo rfl
  subst hus
  have c0 : w3.cell? ⟨w.heap.size, 0, none⟩ = some (.slice V n c) := by rw [cell_of_row w3 _ _ _ _ (0, 0) i1, ← H2.out.2.2]; rfl
  have hbl : Below w.heap.size w w3 := H2.out.1.trans (hfo.below H2.out.1.size (fun b hb => by
    rcases hb with e | e | e
    · omega
    · cases e
    · exact e.elim))
  have hnew : NewC w.heap.size w3 V c us := (i2.row.imp (ChG.step (Nat.le_refl _) fun b _ hD => ⟨rfl, by have := (i2.dom b hD).1; omega⟩)).mono (by omega)
  have HR := Lib.hid (And.intro hnew hbl)
  clear i1 i2 i3 hgo hF hfo hbl hnew HTh H2
  go_wp2_with fail
  go_ret2
  exact ⟨V, c, rfl, HR.out.1, HR.out.2⟩

/-! ### Count -/
theorem dCount_dim {w : World} {b b' k k' : Nat} {r r' : Option Addr} (h : TreC w b k r) (h' : TreC w b' k' r') (hb : b < w.heap.size) (hb' : b' < w.heap.size) (hne : k ≠ k') :
    Calls Tryz.prog 33 #[.pointer (some ⟨b, 0, none⟩), .pointer (some ⟨b', 0, none⟩)] w fun e w' => e = .returned (.tuple #[.int .i64 0, .int .i64 2]) ∧ Below w.heap.size w w' := by
  have h2 := below_alloc w (.cells #[.int .u64 0] 46)
  have hg : (w.alloc (.cells #[.int .u64 0] 46)).cell? ⟨w.heap.size, 0, none⟩ = some (.int .u64 0) := by rw [cell_of_row _ _ _ _ _ (0, 0) (heap_at w _ _ rfl)]; rfl
  have HT := Lib.hid fun f : Value => dthru_dim (h.below h2 hb) (h'.below h2 hb') hne f
  clear h h' hb hb' hne
  go_enter Tryz.func33, Tryz.ntmps33
  go_wp2_with fail
  refine (HT.out _).mono ?_
  rintro e w' ⟨rfl, rfl⟩
  clear HT
  go_wp2_with fail
  go_ret2
  exact ⟨rfl, h2⟩
theorem dCount_c {w : World} {b b' k : Nat} {x y : Option T} (hx : TreeX w b k x) (hy : TreeX w b' k y) (hT : ∀ w', Below w.heap.size w w' → Tz w') {n : Nat} (hn : (Tr.chO x y).length = n) (hM : n ≤ 100000000) :
    Calls Tryz.prog 33 #[.pointer (some ⟨b, 0, none⟩), .pointer (some ⟨b', 0, none⟩)] w fun e w' => e = .returned (.tuple #[.int .i64 (n : Int), .int .i64 0]) ∧ Below w.heap.size w w' := by
  have h2 := below_alloc w (.cells #[.int .u64 0] 46)
  have hg := heap_at w (.cells #[.int .u64 0] 46) _ rfl
  have HTh := Lib.hid (dthru_c (count1_visit (B := w.heap.size) (k := k) (h := w.heap.size) (M := n) (Nat.le_refl _) hM) (w := w.alloc (.cells #[.int .u64 0] 46)) (F := fun b => b = w.heap.size)
    ⟨hg, rfl⟩ (hx.1.below h2 (Nat.le_refl _) (Nat.le_refl _)) (hy.1.below h2 (Nat.le_refl _) (Nat.le_refl _)) h2.size (fun w' hb => hT w' (h2.trans hb)) (by rw [hn]; exact Nat.le_refl _))
  have H2 := Lib.hid (And.intro h2 hn)
  have hn9 : (n : Int) ≤ 100000000 := by omega
  clear hx hy hT hM hn hg h2
  go_enter Tryz.func33, Tryz.ntmps33
  go_wp2_with fail
  refine HTh.out.mono ?_
  rintro e w3 ⟨z, rfl, us, F', ⟨i1, rfl⟩, hgo, -, hF, hfo⟩
  have hus : us.length = n := by rw [hgo rfl]; exact H2.out.2
  have c0 : w3.cell? ⟨w.heap.size, 0, none⟩ = some (.int .u64 (n : Int)) := by rw [cell_of_row w3 _ _ _ _ (0, 0) i1, hus]; rfl
  have hbl : Below w.heap.size w w3 := H2.out.1.trans (hfo.below H2.out.1.size (fun b hb => by omega))
  have HR := Lib.hid hbl
  clear i1 hgo hF hfo hbl HTh H2 hus
  go_wp2_with fail
  go_ret2
  exact ⟨rfl, HR.out⟩

/-! ### Same -/
theorem tptr_eq (w : World) (a : Addr) : (binOp .eql 29 (.pointer (some a)) (.pointer (some a))).run Tryz.prog w = .ok (.bool true) w := by
  have h : (Tryz.prog.info? 158).isSome = true := by kernel_rfl
  obtain ⟨j, hj⟩ := Option.isSome_iff_exists.1 h
  exact run_eql_ptr_same w a Tryz.underlying29 hj
theorem tptr_ne {w : World} {a b : Nat} (ha : TrB w a) (hb : TrB w b) (hne : a ≠ b) : (binOp .eql 29 (.pointer (some ⟨a, 0, none⟩)) (.pointer (some ⟨b, 0, none⟩))).run Tryz.prog w = .ok (.bool false) w := by
  obtain ⟨ca, ta, ha⟩ := ha
  obtain ⟨cb, tb, hb⟩ := hb
  have h : (Tryz.prog.info? 158).map (fun i => decide (i.size = 0)) = some false := by kernel_rfl
  obtain ⟨j, hj, hs⟩ := Option.map_eq_some_iff.1 h
  exact run_eql_ptr_other w Tryz.underlying29 hj (by simpa using hs) (by intro e; apply hne; exact congrArg (·.block) e) ha hb
theorem tptr_none (w : World) : (binOp .eql 29 (.pointer none) (.pointer none)).run Tryz.prog w = .ok (.bool true) w := by
  have h2 : ∀ d : Nat, (Op.equalIn (d + 1) 29 (.pointer none) (.pointer none)).run Tryz.prog w = .ok true w := fun d => by
    simp [Op.equalIn, run_underlying Tryz.underlying29]
  simp only [binOp]
  simp [Op.equal, Op.maxDepth, h2 9999]
theorem dSame_same (w : World) (x : Option Addr) : Calls Tryz.prog 37 #[.pointer x, .pointer x] w fun e w' => e = .returned (.bool true) ∧ w = w' := by
  cases x with
  | none =>
    have hp := tptr_none w
    go_enter Tryz.func37, Tryz.ntmps37
    go_wp2_with fail
    go_ret
    exact ⟨rfl, rfl⟩
  | some a =>
    have hp := tptr_eq w a
    go_enter Tryz.func37, Tryz.ntmps37
    go_wp2_with fail
    go_ret
    exact ⟨rfl, rfl⟩
theorem dSame_dim {w : World} {b b' k k' : Nat} {r r' : Option Addr} (h : TreC w b k r) (h' : TreC w b' k' r') (hb : b < w.heap.size) (hb' : b' < w.heap.size) (t : TrB w b) (t' : TrB w b') (hne : k ≠ k') :
    Calls Tryz.prog 37 #[.pointer (some ⟨b, 0, none⟩), .pointer (some ⟨b', 0, none⟩)] w fun e w' => e = .returned (.bool false) ∧ Below w.heap.size w w' := by
  have h2 := below_alloc w (.cells #[.bool true] 4)
  have hg : (w.alloc (.cells #[.bool true] 4)).cell? ⟨w.heap.size, 0, none⟩ = some (.bool true) := by rw [cell_of_row _ _ _ _ _ (0, 0) (heap_at w _ _ rfl)]; rfl
  have hp := tptr_ne t t' (fun e => by
    subst e
    have e := h.1.symm.trans h'.1
    simp only [Option.some.injEq, Value.int.injEq, true_and] at e
    omega)
  have HT := Lib.hid fun f : Value => dthru_dim (h.below h2 hb) (h'.below h2 hb') hne f
  clear h h' hb hb' hne t t'
  go_enter Tryz.func37, Tryz.ntmps37
  go_wp2_with fail
  refine (HT.out _).mono ?_
  rintro e w' ⟨rfl, rfl⟩
  clear HT
  go_wp2_with fail
  go_ret
  exact ⟨rfl, h2⟩
theorem treeX_same {w : World} {b k : Nat} {x y : Option T} (hx : TreeX w b k x) (hy : TreeX w b k y) : Tr.entsO x = Tr.entsO y := by
  have e := hx.1.2.2.2.1.2.symm.trans hy.1.2.2.2.1.2
  simp only [Option.some.injEq, Value.pointer.injEq] at e
  exact nodeO_same hx.1.2.2.2.2 hy.1.2.2.2.2 e
theorem dSame_c {w : World} {b b' k : Nat} {x y : Option T} (hx : TreeX w b k x) (hy : TreeX w b' k y) (hT : ∀ w', Below w.heap.size w w' → Tz w') (hM : (Tr.chO x y).length ≤ 100000000) {r : Bool} (hr : (Tr.chO x y).isEmpty = r) :
    Calls Tryz.prog 37 #[.pointer (some ⟨b, 0, none⟩), .pointer (some ⟨b', 0, none⟩)] w fun e w' => e = .returned (.bool r) ∧ Below w.heap.size w w' := by
  by_cases hbb : b = b'
  · subst hbb
    have he : Tr.chO x y = [] := by
      show Tr.chL (Tr.entsO x) (Tr.entsO y) = []
      rw [treeX_same hx hy]
      exact Tr.chL_same _
    rw [he] at hr
    subst hr
    refine (dSame_same w _).mono ?_
    rintro e w' ⟨rfl, rfl⟩
    exact ⟨rfl, Below.refl _ _⟩
  · have h2 := below_alloc w (.cells #[.bool true] 4)
    have hg := heap_at w (.cells #[.bool true] 4) _ rfl
    have hp := tptr_ne hx.2 hy.2 hbb
    have HTh := Lib.hid (dthru_c (same1_visit (B := w.heap.size) (k := k) (h := w.heap.size) (M := 100000000) (Nat.le_refl _)) (w := w.alloc (.cells #[.bool true] 4)) (F := fun b => b = w.heap.size)
      ⟨hg, rfl⟩ (hx.1.below h2 (Nat.le_refl _) (Nat.le_refl _)) (hy.1.below h2 (Nat.le_refl _) (Nat.le_refl _)) h2.size (fun w' hb => hT w' (h2.trans hb)) hM)
    have H2 := Lib.hid (And.intro h2 hr)
    clear hx hy hT hM hg h2 hbb hr
    go_enter Tryz.func37, Tryz.ntmps37
    go_wp2_with fail
    refine HTh.out.mono ?_
    rintro e w3 ⟨z, rfl, us, F', ⟨i1, rfl⟩, -, hgo, hF, hfo⟩
    have hus : us.isEmpty = r := by
      rw [← H2.out.2]
      have hh := hgo rfl
      cases hc : Tr.chO x y with
      | nil => rw [hh.2 hc]
      | cons a l =>
        cases us with
        | nil => have := hh.1 rfl; rw [hc] at this; cases this
        | cons => rfl
    have c0 : w3.cell? ⟨w.heap.size, 0, none⟩ = some (.bool r) := by rw [cell_of_row w3 _ _ _ _ (0, 0) i1, hus]; rfl
    have hbl : Below w.heap.size w w3 := H2.out.1.trans (hfo.below H2.out.1.size (fun b hb => by omega))
    have HR := Lib.hid hbl
    clear i1 hgo hF hfo hbl HTh H2 hus hp
    cases r with
    | true => (go_wp2_with fail); go_ret; exact ⟨rfl, HR.out⟩
    | false => (go_wp2_with fail); go_ret; exact ⟨rfl, HR.out⟩

/-! ### Steps -/
theorem dSteps_dim {w : World} {b b' k k' : Nat} {r r' : Option Addr} (h : TreC w b k r) (h' : TreC w b' k' r') (hne : k ≠ k') :
    Calls Tryz.prog 38 #[.pointer (some ⟨b, 0, none⟩), .pointer (some ⟨b', 0, none⟩)] w fun e w' => e = .returned (.tuple #[.int .i64 0, .int .i64 2]) ∧ w = w' := by
  have HT := Lib.hid fun f : Value => dthru_dim h h' hne f
  clear h h' hne
  go_enter Tryz.func38, Tryz.ntmps38
  go_wp2_with fail
  refine (HT.out _).mono ?_
  rintro e w' ⟨rfl, rfl⟩
  clear HT
  go_wp2_with fail
  go_ret2
  exact ⟨rfl, rfl⟩
theorem dSteps_any {w : World} {b b' k : Nat} {x y : Option T} (hx : TreeX w b k x) (hy : TreeX w b' k y) (hT : ∀ w', Below w.heap.size w w' → Tz w') (hM : (Tr.chO x y).length ≤ 100000000) :
    Calls Tryz.prog 38 #[.pointer (some ⟨b, 0, none⟩), .pointer (some ⟨b', 0, none⟩)] w fun e w' => ∃ z : Int, e = .returned (.tuple #[.int .i64 z, .int .i64 0]) ∧ Below w.heap.size w w' := by
  have HTh := Lib.hid (dthru_c (steps1_visit (B := w.heap.size) (k := k) (M := 100000000)) (w := w) (F := fun _ => False) rfl hx.1 hy.1 (Nat.le_refl _) hT hM)
  clear hx hy hT hM
  go_enter Tryz.func38, Tryz.ntmps38
  go_wp2_with fail
  refine HTh.out.mono ?_
  rintro e w3 ⟨z, rfl, us, F', -, -, -, -, hfo⟩
  have HR := Lib.hid (hfo.below (Nat.le_refl _) (fun b hb => hb.elim))
  clear hfo HTh
  go_wp2_with fail
  go_ret2
  exact ⟨z, rfl, HR.out⟩
end Go.Proofs.YtjcmehplcagejaaGreatDoor
