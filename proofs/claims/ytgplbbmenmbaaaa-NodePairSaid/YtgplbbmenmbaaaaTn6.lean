/-
  CONTRACTS of package node, sixth part: With, Without, Pair.
-/
import Derived.Test.YtgplbbmenmbaaaaTn5
import Derived.Test.YtgplbbmenmbaaaaTk
import Derived.Test.YtgplbbmenmbaaaaSan
namespace Go.Proofs.Ytgplbbmenmbaaaa
open Go.ChangeShapes Go.WideShapes Go.ChangeAt Go.RowKit
open Tr (T S4)

theorem ents_pos {k : Nat} {t : T} (h : Tr.Wf k t) : 1 ≤ t.ents.length := by
  rcases Nat.eq_zero_or_pos t.ents.length with h0 | h0
  · exact absurd (List.eq_nil_of_length_eq_zero h0) h.ne
  · exact h0
/-- kids in memory, as their sums are asked for -/
theorem sumsAt_kids {w : World} {B k : Nat} {ks : List (Nat × T)} (h : ∀ x ∈ ks, Node w B k x.2) : SumsAt w B (Sl.things (kidL ks)) (ks.map fun x => Tr.sums x.2.ents) := by
  refine ⟨by simp [Sl.things, kidL], fun i s hs => ?_⟩
  simp only [List.getElem?_map, Option.map_eq_some_iff] at hs
  obtain ⟨x, hx, rfl⟩ := hs
  obtain ⟨wf, hm⟩ := h x (List.mem_of_getElem? hx)
  obtain ⟨kp, hnd⟩ := hm.nd
  refine ⟨?_, x.2.blk, ?_, hnd.1, hnd.2.2.2.2.2⟩
  · rw [Tr.sums_c]; have := ents_pos wf; omega
  · rw [kidL_things]; simp [hx, at0]
theorem nput_c {w : World} {B g l k : Nat} {pre : List Nat} {ks : List (Nat × T)} {t : T} (hn : Node w B k (.br g l pre ks)) (ht : Node w B k t) (hB : B ≤ w.heap.size) (hp : Z.part pre t.pre ≤ (l : Int)) (hlv : t.lv ≤ l)
    (hc : (Tr.entsL ks).length + t.ents.length < 18446744073709551616) :
    Calls Try.prog 24 #[.pointer (some ⟨g, 0, none⟩), ndV t] w fun e w' =>
      ∃ g', e = .returned (.pointer (some ⟨g', 0, none⟩)) ∧ Node w' w'.heap.size k (.br g' l pre (Sl.put (Z.addr t.pre l) t ks)) ∧ w.heap.size ≤ g' ∧ Below w.heap.size w w' := by
  have hw' := hn.1.put (g' := 0) ht.1 hp hlv
  have hkw : ∀ x ∈ Sl.put (Z.addr t.pre l) t ks, Node w B k x.2 := fun x hx => by
    rcases Sl.mem_put hx with rfl | hx
    · exact ht
    · exact hn.kid hx
  have hsum : (Tr.sums (Tr.entsL (Sl.put (Z.addr t.pre l) t ks))).c < 18446744073709551616 := by
    rw [Tr.sums_c]
    have hsrt : Sl.Srt ks := by cases hn.1 with | br _ _ _ _ _ hw => exact hw.srt
    cases hg : Sl.get ks (Z.addr t.pre l : Int) with
    | none => rw [Sl.put_none hsrt t hg, Tr.entsL_append, Tr.entsL_cons]; conv at hc => lhs; rw [← List.take_append_drop (Sl.idx ks (Z.addr t.pre l : Int)) ks, Tr.entsL_append]
              simp only [List.length_append] at hc ⊢; omega
    | some u =>
      rw [Sl.put_some hsrt t hg]
      have hb : ∀ (L : List (Nat × T)) (i : Nat) (y : Nat × T), (Tr.entsL (L.set i y)).length ≤ (Tr.entsL L).length + y.2.ents.length := by
        intro L
        induction L with
        | nil => intro i y; simp [Tr.entsL]
        | cons x L ih =>
          intro i y
          cases i with
          | zero => simp only [List.set_cons_zero, Tr.entsL_cons, List.length_append]; omega
          | succ i => simp only [List.set_cons_succ, Tr.entsL_cons, List.length_append]; have := ih i y; omega
      have := hb ks (Sl.idx ks (Z.addr t.pre l : Int)) (Z.addr t.pre l, t)
      simp only at this
      omega
  obtain ⟨wfn, hmn⟩ := hn
  obtain ⟨wft, hmt⟩ := ht
  obtain ⟨kpt, hnt⟩ := hmt.nd
  have hlen := wft.len
  have h63 : l ≤ 63 := by cases wfn with | br _ _ _ _ h63 => exact h63
  have hsrt : Sl.Srt ks := by cases wfn with | br _ _ _ _ _ hw => exact hw.srt
  cases hmn with
  | br _ _ _ _ b h ha hk =>
    have hget := kidL_get (Z.addr t.pre l : Int) ks
    have fin : ∀ (w' : World) (g' b' : Nat) (s : S4), s = Tr.sums (Tr.entsL (Sl.put (Z.addr t.pre l) t ks)) → NdAt w' w'.heap.size g' (l : Int) pre 0 (some ⟨b', 0, none⟩) s → Sn.At w' w'.heap.size b' k (Sl.put (Z.addr t.pre l) (at0 t) (kidL ks)) → Below w.heap.size w w' →
        Node w' w'.heap.size k (.br g' l pre (Sl.put (Z.addr t.pre l) t ks)) := by
      intro w' g' b' s hs hnd hat hb
      subst hs
      refine ⟨?_, .br g' l pre _ b' hnd (by rw [kidL_put]; exact hat) fun x hx => ((hkw x hx).below hb hB (Nat.le_trans hB hb.size)).2⟩
      cases hw' with | br _ _ _ _ a1 a2 a3 a4 a5 a6 a7 => exact .br g' l pre _ a1 a2 a3 a4 a5 a6 a7
    cases hg : Sl.get ks (Z.addr t.pre l : Int) with
    | none =>
      rw [hg] at hget
      refine (nput_new h ha hnt hB hlen h63 hget (by rw [Tr.sums_c]; have := ents_pos wft; omega) (by rw [Tr.sums_c, Tr.sums_c]; exact hc)).mono ?_
      rintro e w' ⟨g', b', rfl, hnd, hat, hgf, hb⟩
      exact ⟨g', rfl, fin w' g' b' _ (sums_put_new hsrt t hg).symm hnd hat hb, hgf, hb⟩
    | some u =>
      rw [hg] at hget
      have hSA := sumsAt_kids hkw
      rw [kidL_put] at hSA
      refine (nput_old (ss := (Sl.put (Z.addr t.pre l) t ks).map fun (x : Nat × T) => Tr.sums x.2.ents) h ha hnt hB hlen h63 hget hSA (by rw [togF_ents]; exact hsum)).mono ?_
      rintro e w' ⟨g', b', rfl, hnd, hat, hgf, hb⟩
      exact ⟨g', rfl, fin w' g' b' _ (togF_ents _) hnd hat hb, hgf, hb⟩
/-! ### With -/
/-! ### Without -/
end Go.Proofs.Ytgplbbmenmbaaaa
