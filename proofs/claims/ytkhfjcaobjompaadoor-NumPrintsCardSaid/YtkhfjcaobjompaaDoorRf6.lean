/-
  CONTRACTS of package pantileref02 (the document's answers for layer 2), fifth part: boxes as they are read.
-/
import Derived.Test.YtkhfjcaobjompaaDoorRf5
namespace Go.Proofs.YtkhfjcaobjompaaDoor
open Go.ChangeShapes Go.WideShapes Go.ChangeAt Go.RowKit

/-- HOW A CALL OF ReadBox ENDS: the box and the code of 'rdBox'. -/
def RdBx (w : World) (l : List UInt8) (e : Ending) (w' : World) : Prop :=
  ∃ A c A' c', e = .returned (.tuple #[.agg #[.slice A (T.rdBox l).1.1.length c, .slice A' (T.rdBox l).1.2.length c'], .int .i64 ((T.rdBox l).2 : Int)]) ∧
    Pts w' w'.heap.size A (T.rdBox l).1.1 ∧ Pts w' w'.heap.size A' (T.rdBox l).1.2 ∧ Below w.heap.size w w'
theorem rdBx_err {w w' : World} {l : List UInt8} {k : Nat} (h : T.rdBox l = (([], []), k)) (hb : Below w.heap.size w w') :
    RdBx w l (.returned (.tuple #[.agg #[.slice none 0 0, .slice none 0 0], .int .i64 (k : Int)])) w' := by
  refine ⟨none, 0, none, 0, ?_, ?_, ?_, hb⟩
  · rw [h]; rfl
  · rw [h]; exact Pts.nil _ _ _
  · rw [h]; exact Pts.nil _ _ _
theorem rdBx_yes {w w' : World} {l : List UInt8} {lo hi : List Nat} {A A' : Option Addr} {c c' : Nat} (h : T.rdBox l = ((lo, hi), 0)) (hp : Pts w' w'.heap.size A lo) (hq : Pts w' w'.heap.size A' hi) (hb : Below w.heap.size w w') :
    RdBx w l (.returned (.tuple #[.agg #[.slice A lo.length c, .slice A' hi.length c'], .int .i64 0])) w' := by
  refine ⟨A, c, A', c', ?_, ?_, ?_, hb⟩
  · rw [h]; rfl
  · rw [h]; exact hp
  · rw [h]; exact hq

/-- the box of the result, as it was laid, at block b -/
def Box0 (w : World) (b : Nat) : Prop := w.cell? ⟨b, 0, none⟩ = some (.slice none 0 0) ∧ w.cell? ⟨b, 1, none⟩ = some (.slice none 0 0) ∧ w.frozen? ⟨b, 0, none⟩ = false ∧ w.frozen? ⟨b, 1, none⟩ = false
theorem box_new (w : World) : Box0 (w.alloc (.cells #[.slice none 0 0, .slice none 0 0] 31)) w.heap.size := by
  refine ⟨by rw [World.cell?_alloc_new]; rfl, by rw [World.cell?_alloc_new]; rfl, World.frozen?_alloc_new _ _ _ _, World.frozen?_alloc_new _ _ _ _⟩
theorem Box0.below {w w' : World} {b C : Nat} (h : Box0 w b) (hb : Below C w w') (hC : b < C) : Box0 w' b :=
  ⟨(hb.cell hC).trans h.1, (hb.cell hC).trans h.2.1, (hb.frozen hC).trans h.2.2.1, (hb.frozen hC).trans h.2.2.2⟩

theorem box_two {w : World} {b : Nat} (h : Box0 w b) (x y : Value) :
    ((w.setCell ⟨b, 0, none⟩ x).setCell ⟨b, 1, none⟩ y).cell? ⟨b, 0, none⟩ = some x ∧ ((w.setCell ⟨b, 0, none⟩ x).setCell ⟨b, 1, none⟩ y).cell? ⟨b, 1, none⟩ = some y := by
  have h1 : (w.setCell ⟨b, 0, none⟩ x).cell? ⟨b, 1, none⟩ = some (.slice none 0 0) := by rw [World.cell?_setCell_other _ _ _ _ (by simp)]; exact h.2.1
  refine ⟨?_, World.cell?_setCell_same _ _ _ h1⟩
  rw [World.cell?_setCell_other _ _ _ _ (by simp)]
  exact World.cell?_setCell_same _ _ _ h.1
theorem box_below {w w' : World} (h : Below w.heap.size w w') (x y : Value) :
    Below w.heap.size w ((w'.setCell ⟨w.heap.size, 0, none⟩ x).setCell ⟨w.heap.size, 1, none⟩ y) :=
  (h.setCell (p := ⟨w.heap.size, 0, none⟩) (Nat.le_refl _) x).setCell (p := ⟨w.heap.size, 1, none⟩) (Nat.le_refl _) y
/-- a store into a cell that holds no number leaves the numbers -/
theorem Pts.setCell {w : World} {B : Nat} {A : Option Addr} {us : List Nat} (h : Pts w B A us) {p : Addr} {v : Value} (hp : w.cell? p = some v) (hv : ∀ n, v ≠ .int .u64 n) (x : Value) : Pts (w.setCell p x) B A us := by
  refine ⟨h.1, fun hn => ?_⟩
  obtain ⟨b, off, rfl, hb, hc⟩ := h.2 hn
  refine ⟨b, off, rfl, hb, fun i u hi => ?_⟩
  have hci := hc i u hi
  rw [World.cell?_setCell_other _ _ _ _ ?_]
  · exact hci
  · intro e
    rw [← e, hp] at hci
    exact hv _ (Option.some.inj hci)
theorem box_pts {w : World} {b B : Nat} {A : Option Addr} {us : List Nat} (hb : Box0 w b) (h : Pts w B A us) (x y : Value) : Pts ((w.setCell ⟨b, 0, none⟩ x).setCell ⟨b, 1, none⟩ y) B A us := by
  have h1 : (w.setCell ⟨b, 0, none⟩ x).cell? ⟨b, 1, none⟩ = some (.slice none 0 0) := by rw [World.cell?_setCell_other _ _ _ _ (by simp)]; exact hb.2.1
  exact (h.setCell hb.1 (fun _ e => by cases e) x).setCell h1 (fun _ e => by cases e) y

namespace T
theorem cnt_end {l : List UInt8} {k : Nat} (hk : k ≤ l.length) (h : l.length ≤ k + 1) : cnt l k = cnt l l.length := by
  rcases Nat.lt_or_ge k l.length with g | g
  · have e : l.length = k + 1 := by omega
    rw [e]
    have : ¬ occ l k = true := fun ho => by have := occ_lt ho; omega
    rw [cnt_no this]
  · rw [show k = l.length by omega]
theorem one_no {l : List UInt8} (h : one l = none) : (cnt l l.length).2 ≠ 1 := by
  unfold one at h
  split at h
  · cases h
  · assumption
theorem one_yes {l : List UInt8} {i : Nat} (h : one l = some i) : (cnt l l.length).2 = 1 ∧ (cnt l l.length).1 = i := by
  unfold one at h
  split at h
  · rename_i h1
    exact ⟨h1, Option.some.inj h⟩
  · cases h
end T

set_option maxRecDepth 100000 in
theorem rreadBox_c (s : ByteArray) (w : World) (hs : s.size < 4294967281) :
    Calls Tryd.prog 11 #[.string s] w (RdBx w s.data.toList) := by
  obtain ⟨l, hl⟩ : ∃ l, s.data.toList = l := ⟨_, rfl⟩
  have hsz : l.length = s.size := by rw [← hl]; simp
  rw [hl]
  have HL := Lib.hid hl
  have Hsz := Lib.hid hsz
  clear hl hsz
  go_enter Tryd.func11, Tryd.ntmps11
  go_wp2
  go_loop [4, 5, 6] (fun a n i => ∃ k : Nat, k ≤ s.size ∧ i = .int .i64 k ∧ a = .int .i64 ((T.cnt l k).1 : Int) ∧ n = .int .i64 ((T.cnt l k).2 : Int)) (fun _ _ i => s.size - (intOf i).toNat)
  case atStart => exact ⟨0, Nat.zero_le _, rfl, rfl, rfl⟩
  case round =>
    obtain ⟨k, hk, rfl, rfl, rfl⟩ := hrel
    by_cases hlt : k + 1 < s.size
    · have hk0 : k < s.size := by omega
      have hb0 := byte_get' s k hk0
      have hb1 := byte_get' s (k + 1) hlt
      rw [HL.out] at hb0 hb1
      have hocc : T.occ l k = true ↔ (s[k]'hk0).toNat = 46 ∧ (s[k + 1]'hlt).toNat = 46 := by
        rw [T.occ_iff, hb0, hb1]
        constructor
        · rintro ⟨h1, h2⟩
          exact ⟨by rw [Option.some.inj h1]; rfl, by rw [Option.some.inj h2]; rfl⟩
        · rintro ⟨h1, h2⟩
          exact ⟨by congr 1; exact UInt8.toNat_inj.1 h1, by congr 1; exact UInt8.toNat_inj.1 h2⟩
      have hcl := T.cnt_le l k
      obtain ⟨x, hx⟩ : ∃ x, (s[k]'hk0).toNat = x := ⟨_, rfl⟩
      obtain ⟨y, hy⟩ : ∃ y, (s[k + 1]'hlt).toNat = y := ⟨_, rfl⟩
      rw [hx, hy] at hocc
      have hxI : ((s[k]'hk0).toNat : Int) = x := by rw [hx]
      have hyI : ((s[k + 1]'hlt).toNat : Int) = y := by rw [hy]
      clear hb0 hb1 hx hy
      by_cases hx46 : x = 46
      · by_cases hy46 : y = 46
        · have hst := T.cnt_yes (hocc.2 ⟨hx46, hy46⟩)
          have Hst := Lib.hid hst
          subst hx46 hy46
          clear hst hocc
          go_wp2
          go_round
          case rel => exact ⟨k + 1, by omega, by go_num, by rw [Hst.out], by rw [Hst.out]; go_num⟩
          case measure => simp [intOf]; omega
        · have Hst := Lib.hid (T.cnt_no (fun h => hy46 (hocc.1 h).2))
          have f2 : ((y : Int) == 46) = false := by rw [beq_eq_false_iff_ne]; omega
          subst hx46
          clear hocc hy46
          go_wp2
          go_round
          case rel => exact ⟨k + 1, by omega, by go_num, by rw [Hst.out], by rw [Hst.out]⟩
          case measure => simp [intOf]; omega
      · have Hst := Lib.hid (T.cnt_no (fun h => hx46 (hocc.1 h).1))
        have f1 : ((x : Int) == 46) = false := by rw [beq_eq_false_iff_ne]; omega
        clear hocc hx46
        go_wp2
        go_round
        case rel => exact ⟨k + 1, by omega, by go_num, by rw [Hst.out], by rw [Hst.out]⟩
        case measure => simp [intOf]; omega
    · have hce := T.cnt_end (l := l) (k := k) (by rw [Hsz.out]; exact hk) (by rw [Hsz.out]; omega)
      rw [hce]
      clear hce
      have hbel0 : Hid (Below w.heap.size w (w.alloc (.cells #[.slice none 0 0, .slice none 0 0] 31))) := Lib.hid ((Below.refl _ _).alloc (Nat.le_refl _) _)
      rcases hone : T.one l with _ | i
      · have hne := T.one_no hone
        have hres := Lib.hid (T.rdBox_none hone)
        obtain ⟨n, hn⟩ : ∃ n, (T.cnt l l.length).2 = n := ⟨_, rfl⟩
        rw [hn] at hne ⊢
        have f : ((n : Int) != 1) = true := by rw [bne_iff_ne]; omega
        clear hone hn hne
        go_wp2
        exact bodyPost_ret (v := .tuple #[.agg #[.slice none 0 0, .slice none 0 0], .int .i64 8]) (by simp [results, Tryd.results11, go_sem]) rfl (rdBx_err hres.out hbel0.out)
      · obtain ⟨hc1, hc2⟩ := T.one_yes hone
        obtain ⟨_, hi⟩ := T.one_occ hone
        rw [Hsz.out] at hi
        rw [hc1, hc2]
        have hx1 := ext_size s 0 i (by omega)
        have hx2 := ext_size s (i + 2) s.size (Nat.le_refl _)
        have e1 : Hid ((s.extract 0 i).data.toList = l.take i) := Lib.hid (by rw [ext_list, HL.out, List.drop_zero])
        have e2 : Hid ((s.extract (i + 2) s.size).data.toList = l.drop (i + 2)) := Lib.hid (by rw [ext_list, HL.out, List.take_of_length_le (by rw [Hsz.out]; omega)])
        have Hone := Lib.hid hone
        clear hone hc1 hc2
        have hWs : (w.alloc (.cells #[.slice none 0 0, .slice none 0 0] 31)).heap.size = w.heap.size + 1 := by simp
        have hW := box_new w
        generalize (w.alloc (.cells #[.slice none 0 0, .slice none 0 0] 31)) = W at *
        have hW' := Lib.hid hW
        clear hW
        by_cases h1 : (T.rdPoint (l.take i)).2 = 0
        · by_cases h2 : (T.rdPoint (l.drop (i + 2))).2 = 0
          · obtain ⟨us, hus⟩ : ∃ us, (T.rdPoint (l.take i)).1 = us := ⟨_, rfl⟩
            obtain ⟨vs, hvs⟩ : ∃ vs, (T.rdPoint (l.drop (i + 2))).1 = vs := ⟨_, rfl⟩
            have k1 := (T.rdPoint_lt (l.take i)).2
            have k2 := (T.rdPoint_lt (l.drop (i + 2))).2
            rw [hus] at k1
            rw [hvs] at k2
            by_cases h3 : us.length = vs.length
            · have hres : Hid (T.rdBox l = ((us, vs), 0)) := Lib.hid (by have := T.rdBox_yes Hone.out h1 h2 (by rw [hus, hvs]; exact h3); rw [hus, hvs] at this; exact this)
              have Hn := Lib.hid h1
              have Hm := Lib.hid h2
              have Hus := Lib.hid hus
              have Hvs := Lib.hid hvs
              have f : ((us.length : Int) != (vs.length : Int)) = false := by rw [bne_eq_false_iff_eq]; omega
              clear h1 h2 hus hvs
              have H3 := Lib.hid h3
              clear h3
              go_wp2_with (first | (go_at_call 9; (with_reducible refine (rreadPoint_c (s.extract 0 i) _ (by omega)).mono ?_); rw [e1.out]; rintro e w1 ⟨A1, c1, rfl, hp1, hb1⟩; rw [Hn.out]; rw [Hus.out] at hp1 ⊢; have hq1 := hW'.out.below hb1 (by omega); obtain ⟨q0, q1, q2, q3⟩ := hq1) | (go_at_call 9; (with_reducible refine (rreadPoint_c (s.extract (i + 2) s.size) _ (by omega)).mono ?_); rw [e2.out]; rintro e w2 ⟨A2, c2, rfl, hp2, hb2⟩; rw [Hm.out]; rw [Hvs.out] at hp2 ⊢; have hq2 := (hW'.out.below hb1 (by omega)).below hb2 (by have := hb1.size; omega); obtain ⟨r0, r1, r2, r3⟩ := hq2))
              have hB2 : Box0 w2 w.heap.size := ⟨r0, r1, r2, r3⟩
              obtain ⟨k0, k1⟩ := box_two hB2 (.slice A1 us.length c1) (.slice A2 vs.length c2)
              refine bodyPost_ret (v := .tuple #[.agg #[.slice A1 us.length c1, .slice A2 vs.length c2], .int .i64 0]) (by simp [results, Tryd.results11, go_sem, k0, k1]) rfl (rdBx_yes hres.out ?_ ?_ ?_)
              · rw [World.size_setCell, World.size_setCell]; exact box_pts hB2 (hp1.below hb2 hb2.size) _ _
              · rw [World.size_setCell, World.size_setCell]; exact box_pts hB2 hp2 _ _
              · exact box_below (hbel0.out.trans ((hb1.mono (by omega)).trans (hb2.mono (by have := hb1.size; omega)))) _ _
            · have hres := Lib.hid (T.rdBox_dim Hone.out h1 h2 (by rw [hus, hvs]; exact h3))
              have Hn := Lib.hid h1
              have Hm := Lib.hid h2
              have Hus := Lib.hid hus
              have Hvs := Lib.hid hvs
              have f : ((us.length : Int) != (vs.length : Int)) = true := by rw [bne_iff_ne]; omega
              clear h1 h2 hus hvs
              have H3 := Lib.hid h3
              clear h3
              go_wp2_with (first | (go_at_call 9; (with_reducible refine (rreadPoint_c (s.extract 0 i) _ (by omega)).mono ?_); rw [e1.out]; rintro e w1 ⟨A1, c1, rfl, hp1, hb1⟩; rw [Hn.out]; rw [Hus.out] at hp1 ⊢; have hq1 := hW'.out.below hb1 (by omega); obtain ⟨q0, q1, q2, q3⟩ := hq1) | (go_at_call 9; (with_reducible refine (rreadPoint_c (s.extract (i + 2) s.size) _ (by omega)).mono ?_); rw [e2.out]; rintro e w2 ⟨A2, c2, rfl, hp2, hb2⟩; rw [Hm.out]; rw [Hvs.out] at hp2 ⊢; have hq2 := (hW'.out.below hb1 (by omega)).below hb2 (by have := hb1.size; omega); obtain ⟨r0, r1, r2, r3⟩ := hq2))
              have hB2 : Box0 w2 w.heap.size := ⟨r0, r1, r2, r3⟩
              obtain ⟨k0, k1⟩ := box_two hB2 (.slice none 0 0) (.slice none 0 0)
              exact bodyPost_ret (v := .tuple #[.agg #[.slice none 0 0, .slice none 0 0], .int .i64 2]) (by simp [results, Tryd.results11, go_sem, k0, k1]) rfl (rdBx_err hres.out (box_below (hbel0.out.trans ((hb1.mono (by omega)).trans (hb2.mono (by have := hb1.size; omega)))) _ _))
          · have hres := Lib.hid (T.rdBox_hi Hone.out h1 h2)
            have Hn := Lib.hid h1
            obtain ⟨m, hm⟩ : ∃ m, (T.rdPoint (l.drop (i + 2))).2 = m := ⟨_, rfl⟩
            rw [hm] at h2 hres
            have f : ((m : Int) != 0) = true := by rw [bne_iff_ne]; omega
            have Hm := Lib.hid hm
            clear h1 h2 hm
            go_wp2_with (first | (go_at_call 9; (with_reducible refine (rreadPoint_c (s.extract 0 i) _ (by omega)).mono ?_); rw [e1.out]; rintro e w1 ⟨A1, c1, rfl, hp1, hb1⟩; rw [Hn.out]; have hq1 := hW'.out.below hb1 (by omega); obtain ⟨q0, q1, q2, q3⟩ := hq1) | (go_at_call 9; (with_reducible refine (rreadPoint_c (s.extract (i + 2) s.size) _ (by omega)).mono ?_); rw [e2.out]; rintro e w2 ⟨A2, c2, rfl, hp2, hb2⟩; rw [Hm.out]; have hq2 := (hW'.out.below hb1 (by omega)).below hb2 (by have := hb1.size; omega); obtain ⟨r0, r1, r2, r3⟩ := hq2))
            have hB2 : Box0 w2 w.heap.size := ⟨r0, r1, r2, r3⟩
            obtain ⟨k0, k1⟩ := box_two hB2 (.slice none 0 0) (.slice none 0 0)
            exact bodyPost_ret (v := .tuple #[.agg #[.slice none 0 0, .slice none 0 0], .int .i64 (m : Int)]) (by simp [results, Tryd.results11, go_sem, k0, k1]) rfl (rdBx_err hres.out (box_below (hbel0.out.trans ((hb1.mono (by omega)).trans (hb2.mono (by have := hb1.size; omega)))) _ _))
        · have hres := Lib.hid (T.rdBox_lo Hone.out h1)
          obtain ⟨n, hn⟩ : ∃ n, (T.rdPoint (l.take i)).2 = n := ⟨_, rfl⟩
          rw [hn] at h1 hres
          have f : ((n : Int) != 0) = true := by rw [bne_iff_ne]; omega
          have Hn := Lib.hid hn
          clear h1 hn
          go_wp2_with (go_at_call 9; (with_reducible refine (rreadPoint_c (s.extract 0 i) _ (by omega)).mono ?_); rw [e1.out]; rintro e w1 ⟨A1, c1, rfl, hp1, hb1⟩; rw [Hn.out]; have hq1 := hW'.out.below hb1 (by omega); obtain ⟨q0, q1, q2, q3⟩ := hq1)
          have hB1 : Box0 w1 w.heap.size := ⟨q0, q1, q2, q3⟩
          obtain ⟨k0, k1⟩ := box_two hB1 (.slice none 0 0) (.slice none 0 0)
          exact bodyPost_ret (v := .tuple #[.agg #[.slice none 0 0, .slice none 0 0], .int .i64 (n : Int)]) (by simp [results, Tryd.results11, go_sem, k0, k1]) rfl (rdBx_err hres.out (box_below (hbel0.out.trans (hb1.mono (by omega))) _ _))
end Go.Proofs.YtkhfjcaobjompaaDoor
