/-
  CONTRACTS of package node, sixth part: With, Without, Pair.
-/
import Derived.Test.YtlmlflaiaebemaaDoorTn5
import Derived.Test.YtlmlflaiaebemaaDoorTk
import Derived.Test.YtlmlflaiaebemaaDoorSan
namespace Go.Proofs.YtlmlflaiaebemaaDoor
open Go.ChangeShapes Go.WideShapes Go.ChangeAt Go.RowKit
open Tr (T S4)

theorem ents_pos {k : Nat} {t : T} (h : Tr.Wf k t) : 1 ≤ t.ents.length := by
  rcases Nat.eq_zero_or_pos t.ents.length with h0 | h0
  · exact absurd (List.eq_nil_of_length_eq_zero h0) h.ne
  · exact h0
/-- kids in memory, as their sums are asked for -/
theorem sumsAt_kids {w : World} {B k : Nat} {ks : List (Nat × T)} (h : ∀ x ∈ ks, Node w B k x.2) : SumsAt w B (Sl.things (kidL ks)) (ks.map fun x => Tr.sums x.2.ents) := by
  refine ⟨by simp [Sl.things, kidL], fun i s hs => ?_⟩
  simp only [List.getElem?_map, Option.map_eq_some_iff] at hs
  obtain ⟨x, hx, rfl⟩ := hs
  obtain ⟨wf, hm⟩ := h x (List.mem_of_getElem? hx)
  obtain ⟨kp, hnd⟩ := hm.nd
  refine ⟨?_, x.2.blk, ?_, hnd.1, hnd.2.2.2.2.2⟩
  · rw [Tr.sums_c]; have := ents_pos wf; omega
  · rw [kidL_things]; simp [hx, at0]
theorem nput_c {w : World} {B g l k : Nat} {pre : List Nat} {ks : List (Nat × T)} {t : T} (hn : Node w B k (.br g l pre ks)) (ht : Node w B k t) (hB : B ≤ w.heap.size) (hp : Z.part pre t.pre ≤ (l : Int)) (hlv : t.lv ≤ l)
    (hc : (Tr.entsL ks).length + t.ents.length < 18446744073709551616) :
    Calls Tryd.prog 34 #[.pointer (some ⟨g, 0, none⟩), ndV t] w fun e w' =>
      ∃ g', e = .returned (.pointer (some ⟨g', 0, none⟩)) ∧ Node w' w'.heap.size k (.br g' l pre (Sl.put (Z.addr t.pre l) t ks)) ∧ w.heap.size ≤ g' ∧ Below w.heap.size w w' := by
  have hw' := hn.1.put (g' := 0) ht.1 hp hlv
  have hkw : ∀ x ∈ Sl.put (Z.addr t.pre l) t ks, Node w B k x.2 := fun x hx => by
    rcases Sl.mem_put hx with rfl | hx
    · exact ht
    · exact hn.kid hx
  have hsum : (Tr.sums (Tr.entsL (Sl.put (Z.addr t.pre l) t ks))).c < 18446744073709551616 := by
    rw [Tr.sums_c]
    have hsrt : Sl.Srt ks := by cases hn.1 with | br _ _ _ _ _ hw => exact hw.srt
    cases hg : Sl.get ks (Z.addr t.pre l : Int) with
    | none => rw [Sl.put_none hsrt t hg, Tr.entsL_append, Tr.entsL_cons]; conv at hc => lhs; rw [← List.take_append_drop (Sl.idx ks (Z.addr t.pre l : Int)) ks, Tr.entsL_append]
              simp only [List.length_append] at hc ⊢; omega
    | some u =>
      rw [Sl.put_some hsrt t hg]
      have hb : ∀ (L : List (Nat × T)) (i : Nat) (y : Nat × T), (Tr.entsL (L.set i y)).length ≤ (Tr.entsL L).length + y.2.ents.length := by
        intro L
        induction L with
        | nil => intro i y; simp [Tr.entsL]
        | cons x L ih =>
          intro i y
          cases i with
          | zero => simp only [List.set_cons_zero, Tr.entsL_cons, List.length_append]; omega
          | succ i => simp only [List.set_cons_succ, Tr.entsL_cons, List.length_append]; have := ih i y; omega
      have := hb ks (Sl.idx ks (Z.addr t.pre l : Int)) (Z.addr t.pre l, t)
      simp only at this
      omega
  obtain ⟨wfn, hmn⟩ := hn
  obtain ⟨wft, hmt⟩ := ht
  obtain ⟨kpt, hnt⟩ := hmt.nd
  have hlen := wft.len
  have h63 : l ≤ 63 := by cases wfn with | br _ _ _ _ h63 => exact h63
  have hsrt : Sl.Srt ks := by cases wfn with | br _ _ _ _ _ hw => exact hw.srt
  cases hmn with
  | br _ _ _ _ b h ha hk =>
    have hget := kidL_get (Z.addr t.pre l : Int) ks
    have fin : ∀ (w' : World) (g' b' : Nat) (s : S4), s = Tr.sums (Tr.entsL (Sl.put (Z.addr t.pre l) t ks)) → NdAt w' w'.heap.size g' (l : Int) pre 0 (some ⟨b', 0, none⟩) s → Sn.At w' w'.heap.size b' k (Sl.put (Z.addr t.pre l) (at0 t) (kidL ks)) → Below w.heap.size w w' →
        Node w' w'.heap.size k (.br g' l pre (Sl.put (Z.addr t.pre l) t ks)) := by
      intro w' g' b' s hs hnd hat hb
      subst hs
      refine ⟨?_, .br g' l pre _ b' hnd (by rw [kidL_put]; exact hat) fun x hx => ((hkw x hx).below hb hB (Nat.le_trans hB hb.size)).2⟩
      cases hw' with | br _ _ _ _ a1 a2 a3 a4 a5 a6 a7 => exact .br g' l pre _ a1 a2 a3 a4 a5 a6 a7
    cases hg : Sl.get ks (Z.addr t.pre l : Int) with
    | none =>
      rw [hg] at hget
      refine (nput_new h ha hnt hB hlen h63 hget (by rw [Tr.sums_c]; have := ents_pos wft; omega) (by rw [Tr.sums_c, Tr.sums_c]; exact hc)).mono ?_
      rintro e w' ⟨g', b', rfl, hnd, hat, hgf, hb⟩
      exact ⟨g', rfl, fin w' g' b' _ (sums_put_new hsrt t hg).symm hnd hat hb, hgf, hb⟩
    | some u =>
      rw [hg] at hget
      have hSA := sumsAt_kids hkw
      rw [kidL_put] at hSA
      refine (nput_old (ss := (Sl.put (Z.addr t.pre l) t ks).map fun (x : Nat × T) => Tr.sums x.2.ents) h ha hnt hB hlen h63 hget hSA (by rw [togF_ents]; exact hsum)).mono ?_
      rintro e w' ⟨g', b', rfl, hnd, hat, hgf, hb⟩
      exact ⟨g', rfl, fin w' g' b' _ (togF_ents _) hnd hat hb, hgf, hb⟩
/-! ### With -/
theorem nWith_nil (h : Option Addr) (w : World) : Calls Tryd.prog 10 #[.pointer none, .pointer h] w fun e w' => e = .returned (.tuple #[.pointer none, .int .i64 1]) ∧ w = w' := by
  go_enter Tryd.func10, Tryd.ntmps10
  go_wp2
  go_ret2
  exact ⟨rfl, rfl⟩
theorem nWith_kid (g : Nat) (w : World) : Calls Tryd.prog 10 #[.pointer (some ⟨g, 0, none⟩), .pointer none] w fun e w' => e = .returned (.tuple #[.pointer none, .int .i64 1]) ∧ w = w' := by
  go_enter Tryd.func10, Tryd.ntmps10
  go_wp2
  go_ret2
  exact ⟨rfl, rfl⟩
theorem nWith_ent {w : World} {B g h : Nat} {lev : Int} {pre : List Nat} {v : Nat} {s : S4} (hn : NdAt w B g lev pre v none s) :
    Calls Tryd.prog 10 #[.pointer (some ⟨g, 0, none⟩), .pointer (some ⟨h, 0, none⟩)] w fun e w' => e = .returned (.tuple #[.pointer none, .int .i64 3]) ∧ w = w' := by
  obtain ⟨-, -, -, -, h3, -⟩ := hn
  go_enter Tryd.func10, Tryd.ntmps10
  go_wp2
  go_ret2
  exact ⟨rfl, rfl⟩
set_option maxRecDepth 100000 in
theorem nWith_dim {w : World} {B g h b : Nat} {lev levk : Int} {pre prek : List Nat} {v vk : Nat} {s sk : S4} {kpk : Option Addr} (hn : NdAt w B g lev pre v (some ⟨b, 0, none⟩) s) (hk : NdAt w B h levk prek vk kpk sk) (hl : pre.length ≤ 16) (hl' : prek.length ≤ 16) (hne : pre.length ≠ prek.length) :
    Calls Tryd.prog 10 #[.pointer (some ⟨g, 0, none⟩), .pointer (some ⟨h, 0, none⟩)] w fun e w' => e = .returned (.tuple #[.pointer none, .int .i64 2]) ∧ Below w.heap.size w w' := by
  obtain ⟨-, ⟨A, c, hp, h1⟩, -, -, h3, -⟩ := hn
  obtain ⟨-, ⟨A', c', hp', h1'⟩, -⟩ := hk
  have H : Hid (∀ n, Calls Tryd.prog 33 #[.slice A pre.length c, .slice A' prek.length c'] (w.drewN n) fun e w' => e = .returned (.tuple #[.int .i64 0, .int .i64 2]) ∧ w.drewN n = w') := Lib.hid fun n => part_no A A' _ c _ c' (w.drewN n) (by unfold maxLen; omega) (by unfold maxLen; omega) (by omega)
  clear hp hp' hl hl' hne
  go_enter Tryd.func10, Tryd.ntmps10
  go_wp2_with fail
  go_quiet ((go_at_call 33; exact Calls.quiet_of_same ((H.out _).mono fun e w' h => ⟨h.1, h.2.symm⟩)))
  go_wp2_with fail
  go_ret2
  exact ⟨rfl, by ((repeat (first | refine Below.drew ?_ | refine Below.alloc ?_ (by first | omega | (simp; done) | (simp; omega)) _ | refine Below.setCell ?_ (by first | omega | (simp; done) | (simp; omega)) _)); first | exact Below.refl _ _ | assumption | exact below_drewN _ (Below.refl _ _) | exact below_drewN _ (below_drewN _ (Below.refl _ _)))⟩
set_option maxRecDepth 100000 in
theorem nWith_far {w : World} {B g h b l : Nat} {levk : Int} {pre prek : List Nat} {v vk : Nat} {s sk : S4} {kpk : Option Addr} (hn : NdAt w B g (l : Int) pre v (some ⟨b, 0, none⟩) s) (hk : NdAt w B h levk prek vk kpk sk) (h1' : 1 ≤ pre.length) (hl : pre.length ≤ 16) (hl' : pre.length = prek.length) (hp : (l : Int) < Z.part pre prek) :
    Calls Tryd.prog 10 #[.pointer (some ⟨g, 0, none⟩), .pointer (some ⟨h, 0, none⟩)] w fun e w' => e = .returned (.tuple #[.pointer none, .int .i64 3]) ∧ Below w.heap.size w w' := by
  obtain ⟨-, ⟨A, c, hpp, h1⟩, h0, -, h3, -⟩ := hn
  obtain ⟨-, ⟨A', c', hpp', hk1⟩, hk0, -⟩ := hk
  have H : Hid (∀ n, Calls Tryd.prog 33 #[.slice A pre.length c, .slice A' prek.length c'] (w.drewN n) fun e w' => e = .returned (.tuple #[.int .i64 (Z.part pre prek), .int .i64 0]) ∧ w.drewN n = w') := Lib.hid fun n => part_yes A A' c c' pre prek B (w.drewN n) hpp hpp' h1' hl hl'
  generalize Z.part pre prek = m at *
  have d1 : decide ((l : Int) < m) = true := decide_eq_true hp
  clear hpp hpp' hl hl' h1' hp
  go_enter Tryd.func10, Tryd.ntmps10
  go_wp2_with fail
  go_quiet ((go_at_call 33; exact Calls.quiet_of_same ((H.out _).mono fun e w' h => ⟨h.1, h.2.symm⟩)))
  go_wp2_with fail
  go_quiet (fail)
  go_wp2_with fail
  go_ret2
  exact ⟨rfl, by ((repeat (first | refine Below.drew ?_ | refine Below.alloc ?_ (by first | omega | (simp; done) | (simp; omega)) _ | refine Below.setCell ?_ (by first | omega | (simp; done) | (simp; omega)) _)); first | exact Below.refl _ _ | assumption | exact below_drewN _ (Below.refl _ _) | exact below_drewN _ (below_drewN _ (Below.refl _ _)))⟩
set_option maxRecDepth 100000 in
theorem nWith_high {w : World} {B g h b l : Nat} {levk : Int} {pre prek : List Nat} {v vk : Nat} {s sk : S4} {kpk : Option Addr} (hn : NdAt w B g (l : Int) pre v (some ⟨b, 0, none⟩) s) (hk : NdAt w B h levk prek vk kpk sk) (h1' : 1 ≤ pre.length) (hl : pre.length ≤ 16) (hl' : pre.length = prek.length) (hp : Z.part pre prek ≤ (l : Int)) (hh : (l : Int) ≤ levk) :
    Calls Tryd.prog 10 #[.pointer (some ⟨g, 0, none⟩), .pointer (some ⟨h, 0, none⟩)] w fun e w' => e = .returned (.tuple #[.pointer none, .int .i64 3]) ∧ Below w.heap.size w w' := by
  obtain ⟨-, ⟨A, c, hpp, h1⟩, h0, -, h3, -⟩ := hn
  obtain ⟨-, ⟨A', c', hpp', hk1⟩, hk0, -⟩ := hk
  have H : Hid (∀ n, Calls Tryd.prog 33 #[.slice A pre.length c, .slice A' prek.length c'] (w.drewN n) fun e w' => e = .returned (.tuple #[.int .i64 (Z.part pre prek), .int .i64 0]) ∧ w.drewN n = w') := Lib.hid fun n => part_yes A A' c c' pre prek B (w.drewN n) hpp hpp' h1' hl hl'
  generalize Z.part pre prek = m at *
  have d1 : decide ((l : Int) < m) = false := decide_eq_false (by omega)
  have d2 : decide ((l : Int) ≤ levk) = true := decide_eq_true hh
  clear hpp hpp' hl hl' h1' hp hh
  go_enter Tryd.func10, Tryd.ntmps10
  go_wp2_with fail
  go_quiet ((go_at_call 33; exact Calls.quiet_of_same ((H.out _).mono fun e w' h => ⟨h.1, h.2.symm⟩)))
  go_wp2_with fail
  go_quiet (fail)
  go_wp2_with fail
  go_ret2
  exact ⟨rfl, by ((repeat (first | refine Below.drew ?_ | refine Below.alloc ?_ (by first | omega | (simp; done) | (simp; omega)) _ | refine Below.setCell ?_ (by first | omega | (simp; done) | (simp; omega)) _)); first | exact Below.refl _ _ | assumption | exact below_drewN _ (Below.refl _ _) | exact below_drewN _ (below_drewN _ (Below.refl _ _)))⟩
set_option maxRecDepth 100000 in
/-- With, OF A KID THAT FITS -/
theorem nWith_c {w : World} {B g l k : Nat} {pre : List Nat} {ks : List (Nat × T)} {t : T} (hn : Node w B k (.br g l pre ks)) (ht : Node w B k t) (hB : B ≤ w.heap.size) (hp : Z.part pre t.pre ≤ (l : Int)) (hlv : t.lv ≤ l)
    (hc : (Tr.entsL ks).length + t.ents.length < 18446744073709551616) :
    Calls Tryd.prog 10 #[.pointer (some ⟨g, 0, none⟩), .pointer (some ⟨t.blk, 0, none⟩)] w fun e w' =>
      ∃ g', e = .returned (.tuple #[.pointer (some ⟨g', 0, none⟩), .int .i64 0]) ∧ Node w' w'.heap.size k (.br g' l pre (Sl.put (Z.addr t.pre l) t ks)) ∧ w.heap.size ≤ g' ∧ Below w.heap.size w w' := by
  have HP : Hid (∀ n, Calls Tryd.prog 34 #[.pointer (some ⟨g, 0, none⟩), ndV t] (w.drewN n) fun e w' =>
      ∃ g', e = .returned (.pointer (some ⟨g', 0, none⟩)) ∧ Node w' w'.heap.size k (.br g' l pre (Sl.put (Z.addr t.pre l) t ks)) ∧ w.heap.size ≤ g' ∧ Below w.heap.size w w') := Lib.hid fun n => by
    have hb := below_drewN n (Below.refl w.heap.size w)
    refine (nput_c (hn.below hb hB (Nat.le_refl _)) (ht.below hb hB (Nat.le_refl _)) (show B ≤ (w.drewN n).heap.size from hB) hp hlv hc).mono ?_
    rintro e w' ⟨g', rfl, h1, h2, h3⟩
    exact ⟨g', rfl, h1, h2, hb.trans h3⟩
  have wfn := hn.1
  have wft := ht.1
  obtain ⟨kpt, hk⟩ := ht.2.nd
  have hlt := wft.len
  have hln : pre.length = k := wfn.len
  have hk1 := wfn.k1
  have hk16 := wfn.k16
  have hnd : ∃ b, NdAt w B g (l : Int) pre 0 (some ⟨b, 0, none⟩) (Tr.sums (Tr.entsL ks)) := by cases hn.2 with | br _ _ _ _ b h => exact ⟨b, h⟩
  obtain ⟨b, hnd⟩ := hnd
  obtain ⟨-, ⟨A, c, hpp, h1⟩, h0, -, h3, -⟩ := hnd
  obtain ⟨-, ⟨A', c', hpp', hk1'⟩, hk0, -⟩ := hk
  have H : Hid (∀ n, Calls Tryd.prog 33 #[.slice A pre.length c, .slice A' t.pre.length c'] (w.drewN n) fun e w' => e = .returned (.tuple #[.int .i64 (Z.part pre t.pre), .int .i64 0]) ∧ w.drewN n = w') := Lib.hid fun n => part_yes A A' c c' pre t.pre B (w.drewN n) hpp hpp' (by omega) (by omega) (by omega)
  have hlvI : levI t < (l : Int) := by unfold levI; omega
  generalize levI t = levk at *
  generalize Z.part pre t.pre = m at *
  have d1 : decide ((l : Int) < m) = false := decide_eq_false (by omega)
  have d2 : decide ((l : Int) ≤ levk) = false := decide_eq_false (by omega)
  clear hpp hpp' hp hlv hc hlvI hlt hln hk1 hk16 wfn wft hn ht
  go_enter Tryd.func10, Tryd.ntmps10
  go_wp2_with fail
  go_quiet ((go_at_call 33; exact Calls.quiet_of_same ((H.out _).mono fun e w' h => ⟨h.1, h.2.symm⟩)))
  go_wp2_with fail
  go_quiet (fail)
  go_wp2_with (go_at_call 34; refine (HP.out _).mono ?_; rintro e w' ⟨g', rfl, hnd', hgf, hb⟩)
  go_ret2
  exact ⟨g', rfl, hnd', hgf, hb⟩
/-! ### Without -/
theorem nWithout_nil (a : Int) (w : World) : Calls Tryd.prog 11 #[.pointer none, .int .i64 a] w fun e w' => e = .returned (.tuple #[.pointer none, .int .i64 1]) ∧ w = w' := by
  go_enter Tryd.func11, Tryd.ntmps11
  go_wp2
  go_ret2
  exact ⟨rfl, rfl⟩
theorem nWithout_ent {w : World} {B g : Nat} {lev : Int} {pre : List Nat} {v : Nat} {s : S4} (hn : NdAt w B g lev pre v none s) (a : Int) :
    Calls Tryd.prog 11 #[.pointer (some ⟨g, 0, none⟩), .int .i64 a] w fun e w' => e = .returned (.tuple #[.pointer none, .int .i64 3]) ∧ w = w' := by
  obtain ⟨-, -, -, -, h3, -⟩ := hn
  go_enter Tryd.func11, Tryd.ntmps11
  go_wp2
  go_ret2
  exact ⟨rfl, rfl⟩
theorem nWithout_no {w : World} {B g b k : Nat} {lev : Int} {pre : List Nat} {v : Nat} {s : S4} {L : Sn.Al} (hn : NdAt w B g lev pre v (some ⟨b, 0, none⟩) s) (ha : Sn.At w B b k L) (a : Int) (c : Int) (hc : (c = 3 ∧ Sn.isA k a = false) ∨ (c = 6 ∧ ∃ m : Nat, a = (m : Int) ∧ m < 2 ^ k ∧ Sl.has L a = false)) :
    Calls Tryd.prog 11 #[.pointer (some ⟨g, 0, none⟩), .int .i64 a] w fun e w' => e = .returned (.tuple #[.pointer none, .int .i64 c]) ∧ Below w.heap.size w w' := by
  obtain ⟨-, -, -, -, h3, -⟩ := hn
  have H : Hid (Calls Tryd.prog 35 #[.pointer (some ⟨b, 0, none⟩), .int .i64 a] w fun e w' => e = .returned (.tuple #[.pointer none, .int .i64 c]) ∧ ∃ n, w' = w.drewN n) := Lib.hid (by
    rcases hc with ⟨rfl, hc⟩ | ⟨rfl, m, rfl, hm, hc⟩
    · exact (Sn.sDel_arg ha.1 ha.2 a hc).mono fun e w' h => ⟨h.1, 0, h.2.symm⟩
    · exact Sn.sDel_none ha.1 ha.2 m hm hc)
  have hne : (c != 0) = true := by
    rcases hc with ⟨rfl, _⟩ | ⟨rfl, _⟩ <;> decide
  clear hc ha
  go_enter Tryd.func11, Tryd.ntmps11
  go_wp2_with (go_at_call 35; refine H.out.mono ?_; rintro e w' ⟨rfl, n, rfl⟩)
  go_ret2
  exact ⟨rfl, by ((repeat (first | refine Below.drew ?_ | refine Below.alloc ?_ (by first | omega | (simp; done) | (simp; omega)) _ | refine Below.setCell ?_ (by first | omega | (simp; done) | (simp; omega)) _)); first | exact Below.refl _ _ | assumption | exact below_drewN _ (Below.refl _ _) | exact below_drewN _ (below_drewN _ (Below.refl _ _)))⟩
/-- what Without does where two kids are left at least -/
theorem nWithout_two {w : World} {B g l k : Nat} {pre : List Nat} {ks : List (Nat × T)} (hn : Node w B k (.br g l pre ks)) (hB : B ≤ w.heap.size) (a : Nat) (ha : a < 2 ^ k) (hh : Sl.has ks (a : Int) = true) (h2 : 2 ≤ (Sl.del a ks).length) (hc : (Tr.entsL ks).length < 18446744073709551616) :
    Calls Tryd.prog 11 #[.pointer (some ⟨g, 0, none⟩), .int .i64 (a : Int)] w fun e w' =>
      ∃ g', e = .returned (.tuple #[.pointer (some ⟨g', 0, none⟩), .int .i64 0]) ∧ Node w' w'.heap.size k (.br g' l pre (Sl.del a ks)) ∧ w.heap.size ≤ g' ∧ Below w.heap.size w w' := by
  have hw' := hn.1.del (g' := 0) a h2
  have hkw : ∀ x ∈ Sl.del a ks, Node w B k x.2 := fun x hx => hn.kid (Sl.mem_del hx)
  have hsub : ∀ ks : List (Nat × T), (Tr.entsL (Sl.del a ks)).length ≤ (Tr.entsL ks).length := by
    intro ks
    induction ks with
    | nil => simp [Sl.del]
    | cons x ks ih =>
      simp only [Sl.del]
      split
      · rw [Tr.entsL_cons, List.length_append]; omega
      · rw [Tr.entsL_cons, Tr.entsL_cons, List.length_append, List.length_append]; omega
  have hsum : (Tr.sums (Tr.entsL (Sl.del a ks))).c < 18446744073709551616 := by
    rw [Tr.sums_c]; have := hsub ks; omega
  obtain ⟨wfn, hmn⟩ := hn
  cases hmn with
  | br _ _ _ _ b h hat hk =>
    have hSA := sumsAt_kids hkw
    have hdl : (Sl.del a ks).length ≤ 65536 := by cases hw' with | br _ _ _ _ _ hw => exact hw.len16
    have fin : ∀ (w' : World) (g' b' : Nat) (s : S4), s = Tr.sums (Tr.entsL (Sl.del a ks)) → NdAt w' w'.heap.size g' (l : Int) pre 0 (some ⟨b', 0, none⟩) s → Sn.At w' w'.heap.size b' k (kidL (Sl.del a ks)) → Below w.heap.size w w' →
        Node w' w'.heap.size k (.br g' l pre (Sl.del a ks)) := by
      intro w' g' b' s hs hnd hat hb
      subst hs
      refine ⟨?_, .br g' l pre _ b' hnd hat fun x hx => ((hkw x hx).below hb hB (Nat.le_trans hB hb.size)).2⟩
      cases hw' with | br _ _ _ _ a1 a2 a3 a4 a5 a6 a7 => exact .br g' l pre _ a1 a2 a3 a4 a5 a6 a7
    have hhas : Sl.has (kidL ks) (a : Int) = true := by
      rw [Sl.has, kidL_get]
      simp only [Sl.has] at hh
      simpa using hh
    have HD := Lib.hid (Sn.sDel_c hat hB a ha hhas)
    rw [← kidL_del] at HD
    have HS := Lib.hid (And.intro h (And.intro hSA (And.intro fin hsum)))
    have hll : (kidL (Sl.del a ks)).length = (Sl.del a ks).length := kidL_length _
    obtain ⟨M, hM⟩ : ∃ M, kidL (Sl.del a ks) = M := ⟨_, rfl⟩
    obtain ⟨-, -, -, -, h3, -⟩ := h
    have HM := Lib.hid hM
    have d1 : (((Sl.things M).length : Int) == 1) = false := by rw [Sl.things_length, ← hM, hll, beq_eq_false_iff_ne]; omega
    have HL : Hid ((Sl.things M).length ≤ maxLen) := Lib.hid (by rw [Sl.things_length, ← hM, hll]; unfold maxLen; omega)
    rw [hM] at HD HS
    clear hSA fin hsum hsub hkw hhas hat hk hw' wfn hM hll hdl hh h2 hc ha
    go_enter Tryd.func11, Tryd.ntmps11
    go_wp2_with fail
    refine HD.out.mono ?_
    rintro e w2 ⟨b2, rfl, hat2, hb2⟩
    have H2 := Lib.hid hat2
    have HB2 := Lib.hid hb2
    clear hat2 hb2
    go_wp2_with fail
    refine (sAll_n H2.out.1 H2.out.2 (Nat.le_refl _)).mono ?_
    rintro e w3 ⟨A3, c3, rfl, hr3, hb3⟩
    have HB3 := Lib.hid (Below.andThen HB2.out hb3)
    have H2 := Lib.hid (H2.out.below hb3 (Nat.le_refl _) hb3.size)
    have H3 := Lib.hid hr3
    clear hr3 hb3
    go_wp2_with fail
    refine (sumsOf_c (ss := (Sl.del a ks).map fun (x : Nat × T) => Tr.sums x.2.ents) H3.out ((HS.out.2.1.below HB3.out hB).up (Nat.le_trans hB HB3.out.size)) (Nat.le_refl _) (by rw [togF_ents]; exact HS.out.2.2.2) HL.out).mono ?_
    rintro e w4 ⟨rfl, hb4⟩
    have HB4 := Lib.hid (Below.andThen HB3.out hb4)
    have H2 := Lib.hid (H2.out.below hb4 (Nat.le_refl _) hb4.size)
    clear hb4
    go_wp2_with fail
    refine (having_c (HS.out.1.below HB4.out hB (Nat.le_refl _)) (Nat.le_trans hB HB4.out.size) (some ⟨b2, 0, none⟩) _).mono ?_
    rintro e w5 ⟨g', rfl, hnd, hg5, hb5⟩
    have HG := Lib.hid hnd
    have hg5 := Nat.le_trans HB4.out.size hg5
    have H2 := Lib.hid (H2.out.below hb5 (Nat.le_refl _) hb5.size)
    have HB5 := Lib.hid (Below.andThen HB4.out hb5)
    clear hnd hb5
    go_wp2_with fail
    go_ret2
    exact ⟨g', rfl, HS.out.2.2.1 _ g' b2 _ (togF_ents _) HG.out H2.out HB5.out, hg5, HB5.out⟩
/-- what Without does where one kid is left: that kid itself -/
theorem nWithout_one {w : World} {B g b k : Nat} {lev : Int} {pre : List Nat} {v : Nat} {s : S4} {L : Sn.Al} {x : Nat × Option Addr} (hn : NdAt w B g lev pre v (some ⟨b, 0, none⟩) s) (hat : Sn.At w B b k L) (hB : B ≤ w.heap.size) (a : Nat) (ha : a < 2 ^ k) (hh : Sl.has L (a : Int) = true) (h1 : Sl.del a L = [x]) :
    Calls Tryd.prog 11 #[.pointer (some ⟨g, 0, none⟩), .int .i64 (a : Int)] w fun e w' => e = .returned (.tuple #[.pointer x.2, .int .i64 0]) ∧ Below w.heap.size w w' := by
  have HD := Lib.hid (Sn.sDel_c hat hB a ha hh)
  rw [h1] at HD
  obtain ⟨-, -, -, -, h3, -⟩ := hn
  clear hat hh h1 ha
  go_enter Tryd.func11, Tryd.ntmps11
  go_wp2_with fail
  refine HD.out.mono ?_
  rintro e w2 ⟨b2, rfl, hat2, hb2⟩
  have H2 := Lib.hid hat2
  have HB2 := Lib.hid hb2
  clear hat2 hb2
  go_wp2_with fail
  have HAl := sAll_n H2.out.1 H2.out.2 (Nat.le_refl _)
  rw [show (Sl.things [x]).length = 1 from rfl] at HAl
  refine HAl.mono ?_
  clear HAl
  rintro e w3 ⟨A3, c3, rfl, hr3, hb3⟩
  obtain ⟨pb, po, hA3, hpb, hcell⟩ := hr3.at (i := 0) (v := .pointer x.2) rfl
  subst hA3
  rw [Nat.add_zero] at hcell
  have HB3 := Lib.hid (Below.andThen HB2.out hb3)
  clear hr3 hb3
  go_wp2_with fail
  go_ret2
  exact ⟨rfl, HB3.out⟩
end Go.Proofs.YtlmlflaiaebemaaDoor
