import Derived.Test.YtjcmehplcagejaaDoorM08
import Derived.BigQuiet
import Derived.Test.YtjcmehplcagejaaDoorM03
import Derived.Test.YtjcmehplcagejaaDoorM07
import Derived.Deep.RegionHeld
import Derived.Lib.SliceRun
/-
  CONTRACTS of package slots, ninth part: gathered, kept.
-/
namespace Go.Proofs.YtjcmehplcagejaaDoor.Sn
open Go.ChangeShapes Go.WideShapes Go.ChangeAt Go.RowKit

theorem gam_new {w : World} {B g p k : Nat} (b : B ≤ g ∧ B ≤ p ∧ g ≠ p) (hg : w.heap[g]? = some (.cells #[.pointer (some ⟨p, 0, none⟩)] 72 (0, 0)))
    (hp : w.heap[p]? = some (.cells #[.int .i64 (k : Int), .int .u64 0, .slice none 0 0, .slice none 0 0] 108 (0, 0))) : Gam w B g p k (.slice none 0 0) (.slice none 0 0) [] [] := by
  refine ⟨⟨b.1, b.2.1, b.2.2, (Array.getElem?_eq_some_iff.1 hg).1, (Array.getElem?_eq_some_iff.1 hp).1⟩, ?_, ?_, ?_, ?_, ?_, ?_, ?_, ownV_none _ _ _, ownV_none _ _ _, ⟨by simp [Value.ownBlock], by simp [Value.ownBlock], by simp [Value.ownBlock], by simp [Value.ownBlock]⟩, .inl rfl⟩
  · rw [cell_of_row w g _ _ _ (0, 0) hg]; rfl
  · rw [cell_of_row w p _ _ _ (0, 0) hp]; rfl
  · rw [cell_of_row w p _ _ _ (0, 0) hp]; rfl
  · rw [cell_of_row w p _ _ _ (0, 0) hp]; rfl
  · rw [cell_of_row w p _ _ _ (0, 0) hp]; rfl
  · exact frozen_of_row w p _ _ _ hp
  · exact frozen_of_row w p _ _ _ hp
theorem keys_next {L : Al} {j : Nat} {p : Nat × Option Addr} (hp : L[j]? = some p) : u16V ((Sl.keys L).take j) ++ [Value.int .u16 (p.1 : Int)] = u16V ((Sl.keys L).take (j + 1)) := by
  have hk := Sl.keys_get hp
  obtain ⟨hk1, hk2⟩ := List.getElem?_eq_some_iff.1 hk
  rw [List.take_succ_eq_append_getElem hk1, hk2]
  simp [u16V]
theorem things_next {L : Al} {j : Nat} {p : Nat × Option Addr} (hp : L[j]? = some p) : elV ((Sl.things L).take j) ++ [(Value.pointer (p.2))] = elV ((Sl.things L).take (j + 1)) := by
  have hk := Sl.things_get hp
  obtain ⟨hk1, hk2⟩ := List.getElem?_eq_some_iff.1 hk
  rw [List.take_succ_eq_append_getElem hk1, hk2]
  simp [elV]
set_option maxRecDepth 100000 in
theorem sGathered_c {w : World} {B b k : Nat} {L : Al} {d : Bool} (wf : Sl.Wf k L) (h : Rp w B b k L d) (hB : B ≤ w.heap.size) :
    Calls Tryd.prog 87 #[.pointer (some ⟨b, 0, none⟩)] w fun e w' => ∃ p, e = .returned (.pointer (some ⟨p, 0, none⟩)) ∧ Sp w' w'.heap.size p k L ∧ Below w.heap.size w w' := by
  have h1 := rp_k h
  have Hw := Lib.hid (And.intro wf h)
  clear wf h
  go_enter Tryd.func87, Tryd.ntmps87
  go_wp2_with fail
  have hbw := ((Below.refl w.heap.size w).alloc (Nat.le_refl _) (.cells #[.int .i64 (k : Int), .int .u64 0, .slice none 0 0, .slice none 0 0] 108)).alloc (by simp) (.cells #[.pointer (some ⟨w.heap.size, 0, none⟩)] 72)
  have hini : Gam ((w.alloc (.cells #[.int .i64 (k : Int), .int .u64 0, .slice none 0 0, .slice none 0 0] 108)).alloc (.cells #[.pointer (some ⟨w.heap.size, 0, none⟩)] 72)) w.heap.size (w.heap.size + 1) w.heap.size k (.slice none 0 0) (.slice none 0 0) [] [] :=
    gam_new ⟨by omega, by omega, by omega⟩ (by (first | (refine heap_at _ _ _ ?_; simp; done) | (refine heap_past _ (heap_at _ _ _ ?_); simp; done) | (refine heap_past _ (heap_past _ (heap_at _ _ _ ?_)); simp; done) | (refine heap_past _ (heap_past _ (heap_past _ (heap_at _ _ _ ?_))); simp; done))) (by (first | (refine heap_at _ _ _ ?_; simp; done) | (refine heap_past _ (heap_at _ _ _ ?_); simp; done) | (refine heap_past _ (heap_past _ (heap_at _ _ _ ?_)); simp; done) | (refine heap_past _ (heap_past _ (heap_past _ (heap_at _ _ _ ?_))); simp; done)))
  generalize (w.alloc (.cells #[.int .i64 (k : Int), .int .u64 0, .slice none 0 0, .slice none 0 0] 108)).alloc (.cells #[.pointer (some ⟨w.heap.size, 0, none⟩)] 72) = W at *
  have Hb := Lib.hid hbw
  refine (sEach_c Hw.out.1 (Hw.out.2.below hbw hB (Nat.le_refl _)) 93 (w.heap.size + 1) (fun j wr => (∃ v u, Gam wr w.heap.size (w.heap.size + 1) w.heap.size k v u (u16V ((Sl.keys L).take j)) (elV ((Sl.things L).take j))) ∧ Below w.heap.size W wr)
    (enters_at Tryd.func93 (by kernel_rfl) rfl) ⟨⟨_, _, hini⟩, Below.refl _ _⟩ (fun j wr h => h.2.mono hB) ?_).mono ?_
  · rintro j q wr hq ⟨⟨v, u, hl⟩, hb⟩
    have hlt := lt_get hq
    have hl16 := Hw.out.1.len16
    refine (gathered1_c (a := q.1) q.2 hl (Hw.out.1.lt16 q (List.mem_of_getElem? hq)) (by rw [u16V_length, List.length_take]; omega) (by rw [elV_length, List.length_take]; omega)).mono ?_
    rintro e w2 ⟨rfl, ⟨v2, u2, hl2⟩, hb2⟩
    rw [keys_next hq, things_next hq] at hl2
    exact ⟨rfl, ⟨v2, u2, hl2⟩, hb.trans hb2⟩
  · rintro e w2 ⟨rfl, ⟨v, u, hl2⟩, hb2⟩
    rw [List.take_of_length_le (by rw [Sl.keys_length]; exact Nat.le_refl _), List.take_of_length_le (by rw [Sl.things_length]; exact Nat.le_refl _)] at hl2
    obtain ⟨⟨_, _, _, _, r0⟩, r1, r2, r3, r4, r5, _, _, r6, r7, _, _⟩ := hl2
    obtain ⟨A, c, hv, k1, s1⟩ := r6.rd
    obtain ⟨C, c', hu, k2, s2⟩ := r7.rd
    rw [u16V_length, Sl.keys_length] at hv k1
    rw [elV_length, Sl.things_length] at hu k2
    subst hv hu
    have Hfin : Hid (Sp w2 w2.heap.size w.heap.size k L ∧ Below w.heap.size w w2) := Lib.hid ⟨⟨r0, A, c, C, c', r2, r3, r4, r5, k1, k2, s1, s2⟩, Hb.out.trans hb2⟩
    clear r0 r2 r3 r4 r5 r6 r7 hb2 k1 k2 s1 s2 hini
    go_wp2_with fail
    go_ret
    exact ⟨w.heap.size, rfl, Hfin.out⟩

/-! ### kept -/
set_option maxRecDepth 100000 in
theorem sKept_c {w : World} {B b k : Nat} {L : Al} {d : Bool} (wf : Sl.Wf k L) (h : Rp w B b k L d) (hB : B ≤ w.heap.size) :
    Calls Tryd.prog 77 #[.pointer (some ⟨b, 0, none⟩)] w fun e w' => ∃ p, e = .returned (.pointer (some ⟨p, 0, none⟩)) ∧ Rp w' w'.heap.size p k L (Sl.dense k L) ∧ Below w.heap.size w w' := by
  have h1 := rp_k h
  have k16 := wf.k16
  have hlen := wf.len16
  have hp2 := wf.pow
  have hp0 := Nat.two_pow_pos k
  have hw : IntKind.i64.wrap (2 ^ k) = ((2 ^ k : Nat) : Int) := by
    rw [show (2 : Int) ^ k = ((2 ^ k : Nat) : Int) by simp]; exact IntWalk.i64_in _ (by omega)
  have hLn := fun n => sLen_c (w := w.drewN n) (d := d) wf (by cases d; exact h; exact h)
  have hDn := fun n => sDense_c (w := w.drewN n) (d := d) (L := L) (k := k) (B := B) (b := b) (by cases d; exact h; exact h)
  obtain ⟨r, hr⟩ : ∃ r, Sl.dense k L = r := ⟨_, rfl⟩
  have hr2 := hr
  unfold Sl.dense at hr2
  have hne : r = true → L ≠ [] := fun e => by
    rw [e] at hr
    have := (Sl.dense_k hr).2
    rintro rfl
    simp at this
  have hk6 : r = true → k ≤ 6 := fun e => (Sl.dense_k (by rw [hr, e])).1
  obtain ⟨n, hn⟩ : ∃ n, L.length = n := ⟨_, rfl⟩
  obtain ⟨P, hP⟩ : ∃ P, 2 ^ k = P := ⟨_, rfl⟩
  rw [hn] at hLn hlen
  rw [hP] at hw hp2 hp0
  rw [hn, hP] at hr2
  have HLn := Lib.hid (And.intro hLn hDn)
  have Hw := Lib.hid (And.intro wf (And.intro h (And.intro hne hk6)))
  have Hr := Lib.hid hr
  have hw2 : IntKind.i64.wrap (2 * (n : Int)) = 2 * (n : Int) := IntWalk.i64_in _ (by omega)
  by_cases c1 : k ≤ 6
  · have e1 : decide ((k : Int) ≤ 6) = true := decide_eq_true (by omega)
    have e1' : decide (k ≤ 6) = true := decide_eq_true c1
    rw [e1', Bool.true_and] at hr2
    have e2 : decide ((P : Int) < 2 * (n : Int)) = r := by rw [← hr2, Bool.eq_iff_iff, decide_eq_true_eq, decide_eq_true_eq]; omega
    clear hLn hDn hne hk6 hn hP wf h hr2 c1 e1' hr
    rcases r with _ | _ <;> rcases d with _ | _
    all_goals
      go_enter Tryd.func77, Tryd.ntmps77
      go_wp2_with fail
      go_quiet ((go_at_call 56; exact Calls.quiet_of_same ((HLn.out.1 _).mono fun e w' h => ⟨h.1, h.2.symm⟩)))
      go_wp2_with (first
        | (go_at_call 75; refine (HLn.out.2 _).mono ?_; rintro e w' ⟨rfl, rfl⟩)
        | (go_at_call 86; refine (sSpread_c (w := w.drewN nq) (d := false) Hw.out.1 Hw.out.2.1 hB (Hw.out.2.2.2 (by simp)) (Hw.out.2.2.1 (by simp))).mono ?_; rintro e w2 ⟨p, rfl, hp, hb⟩; have HP := Lib.hid (And.intro hp hb); clear hp hb)
        | (go_at_call 87; refine (sGathered_c (w := w.drewN nq) (d := true) Hw.out.1 Hw.out.2.1 hB).mono ?_; rintro e w2 ⟨p, rfl, hp, hb⟩; have HP := Lib.hid (And.intro hp hb); clear hp hb))
      go_ret
      rw [Hr.out]
      first
        | exact ⟨b, rfl, Rp.below (w := w) (d := false) Hw.out.2.1 (below_drewN nq (Below.refl B w)) (Nat.le_refl _) hB, below_drewN nq (Below.refl _ w)⟩
        | exact ⟨b, rfl, Rp.below (w := w) (d := true) Hw.out.2.1 (below_drewN nq (Below.refl B w)) (Nat.le_refl _) hB, below_drewN nq (Below.refl _ w)⟩
        | exact ⟨p, rfl, HP.out.1, Below.trans (below_drewN nq (Below.refl _ w)) HP.out.2⟩
  · have hr0 : r = false := by
      rcases r with _ | _
      · rfl
      · exact absurd (hk6 rfl) c1
    subst hr0
    have hd0 : d = false := by
      rcases d with _ | _
      · rfl
      · exact absurd h.2.1 c1
    subst hd0
    have e1 : decide ((k : Int) ≤ 6) = false := decide_eq_false (by omega)
    clear hLn hDn hne hk6 hn hP wf h hr2 c1 hr
    go_enter Tryd.func77, Tryd.ntmps77
    go_wp2_with fail
    go_quiet ((go_at_call 56; exact Calls.quiet_of_same ((HLn.out.1 _).mono fun e w' h => ⟨h.1, h.2.symm⟩)))
    go_wp2_with (go_at_call 75; refine (HLn.out.2 _).mono ?_; rintro e w' ⟨rfl, rfl⟩)
    go_ret
    rw [Hr.out]
    exact ⟨b, rfl, Rp.below (w := w) (d := false) Hw.out.2.1 (below_drewN nq (Below.refl B w)) (Nat.le_refl _) hB, below_drewN nq (Below.refl _ w)⟩
end Go.Proofs.YtjcmehplcagejaaDoor.Sn

/-
  CONTRACTS of package slots, third part: Clone, withCell, withoutCell.
-/
namespace Go.Proofs.YtjcmehplcagejaaDoor.Sn
open Go.ChangeShapes Go.WideShapes Go.ChangeAt Go.RowKit

set_option maxRecDepth 100000 in
theorem clone_c (xs : List (Option Addr)) (A : Option Addr) (c B : Nat) (w : World) (hB : B ≤ w.heap.size) (hA : RdV w B A (elV xs)) (hne : xs ≠ []) (hl : xs.length ≤ 1000000) :
    Calls Tryd.prog 78 #[.slice A xs.length c] w fun e w' => ∃ g d, e = .returned (.slice (some ⟨g, 0, none⟩) xs.length d) ∧ OwnV 42 w' w.heap.size (.slice (some ⟨g, 0, none⟩) xs.length d) (elV xs) ∧ Below w.heap.size w w' := by
  have Hne : Hid (elV xs ≠ []) := Lib.hid (by intro h; apply hne; simpa [elV] using h)
  obtain ⟨b, off, hAA, hb, _⟩ := hA (by intro h; apply hne; simpa [elV] using h)
  subst hAA
  have Hh := Lib.hid hA
  have Hl := Lib.hid hl
  have Ho := Lib.hid (ownV_nil 42 w)
  have hq : ∀ (w : World) (a : Option Addr) (n c n' c' : Nat), (binOp .eql 49 (.slice a n c) (.slice none n' c')).run Tryd.prog w = .ok (.bool a.isNone) w := fun w a n c n' c' => Lib.run_eql_slice_nil w _ _ a n c n' c' Cn.und
  clear hA hl hne
  go_enter Tryd.func78, Tryd.ntmps78
  go_wp2_with (at_builtin; refine wpList_append_vals 49 42 (Value.pointer none) 8 Cn.und Cn.info rfl (by omega) rfl (.tmp 5) (.tmp 6) rfl w.heap.size _ [] (elV xs) rfl Ho.out B _ _ c (elV_length xs) rfl (Hh.out.below (below_alloc _ _) hB (Nat.le_refl _)) (elV_one xs) (by have := Hl.out; rw [elV_length]; simp; omega) (by simp) ?_; intro v2 w2 hown2 hgrow2 _)
  go_ret
  rw [List.nil_append] at hown2
  obtain ⟨g, d, hv⟩ := hown2.row Hne.out
  rw [elV_length] at hv
  subst hv
  exact ⟨g, d, rfl, hown2, ((Below.refl w.heap.size w).alloc (Nat.le_refl _) _).grown hgrow2 (by simp) (fun q hq => (Ho.out.lt q hq).1)⟩

theorem sp_make (w : World) (k base base' : Nat) (v1 v2 : Value) (L : Al) (o1 : OwnV 143 w base v1 (u16V (Sl.keys L))) (o2 : OwnV 42 w base' v2 (elV (Sl.things L))) :
    Sp (w.alloc (.cells #[.int .i64 (k : Int), .int .u64 0, v1, v2] 108)) (w.heap.size + 1) w.heap.size k L := by
  obtain ⟨A, c, hv1, l1, r1⟩ := o1.rd
  obtain ⟨C, c', hv2, l2, r2⟩ := o2.rd
  rw [u16V_length, Sl.keys_length] at hv1 l1
  rw [elV_length, Sl.things_length] at hv2 l2
  subst hv1 hv2
  obtain ⟨h0, h1, h2, h3⟩ := cells4 w (.int .i64 (k : Int)) (.int .u64 0) (.slice A L.length c) (.slice C L.length c') 108
  have hb := below_alloc w (.cells #[.int .i64 (k : Int), .int .u64 0, .slice A L.length c, .slice C L.length c'] 108)
  exact ⟨by omega, A, c, C, c', h0, h1, h2, h3, l1, l2, r1.below hb (Nat.le_refl _) (by omega), r2.below hb (Nat.le_refl _) (by omega)⟩
end Go.Proofs.YtjcmehplcagejaaDoor.Sn
