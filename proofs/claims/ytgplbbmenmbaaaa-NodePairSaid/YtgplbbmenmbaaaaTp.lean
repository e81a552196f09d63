/-
  PLAIN MATHEMATICS of layer 6, third part: where each kid's entries stand in the list of all, at which level the first one and the last one part.
-/
import Derived.Test.YtgplbbmenmbaaaaTm
namespace Go.Proofs.Ytgplbbmenmbaaaa.Tr
open Go.Proofs.Ytgplbbmenmbaaaa.Z

/-- where the entries of kid m begin -/
def offK (ks : List (Nat × T)) (m : Nat) : Nat := (entsL (ks.take m)).length
theorem offK_zero (ks : List (Nat × T)) : offK ks 0 = 0 := by simp [offK, entsL]
theorem offK_all (ks : List (Nat × T)) : offK ks ks.length = (entsL ks).length := by simp [offK]
theorem offK_succ {ks : List (Nat × T)} {m : Nat} {x : Nat × T} (h : ks[m]? = some x) : offK ks (m + 1) = offK ks m + x.2.ents.length := by
  obtain ⟨hm, rfl⟩ := List.getElem?_eq_some_iff.1 h
  unfold offK
  rw [List.take_succ_eq_append_getElem hm, entsL_append, List.length_append]
  simp [entsL]
theorem ents_split {ks : List (Nat × T)} {m : Nat} {x : Nat × T} (h : ks[m]? = some x) : entsL ks = entsL (ks.take m) ++ (x.2.ents ++ entsL (ks.drop (m + 1))) := by
  obtain ⟨hm, rfl⟩ := List.getElem?_eq_some_iff.1 h
  rw [← entsL_cons, ← entsL_append]
  congr 1
  rw [List.getElem_cons_drop hm, List.take_append_drop]
theorem ents_at {ks : List (Nat × T)} {m : Nat} {x : Nat × T} (h : ks[m]? = some x) {j : Nat} (hj : j < x.2.ents.length) : (entsL ks)[offK ks m + j]? = x.2.ents[j]? := by
  rw [ents_split h, List.getElem?_append_right (by unfold offK; omega), show offK ks m + j - (entsL (ks.take m)).length = j by unfold offK; omega, List.getElem?_append_left hj]
theorem offK_le {ks : List (Nat × T)} {m : Nat} {x : Nat × T} (h : ks[m]? = some x) : offK ks m + x.2.ents.length ≤ (entsL ks).length := by
  rw [ents_split h, List.length_append, List.length_append]
  unfold offK
  omega
theorem ents_part {ks : List (Nat × T)} {m : Nat} {x : Nat × T} (h : ks[m]? = some x) : ((entsL ks).drop (offK ks m)).take x.2.ents.length = x.2.ents := by
  rw [ents_split h]
  unfold offK
  rw [List.drop_left' rfl, List.take_left' rfl]
theorem ents_pos' {k : Nat} {t : T} (h : Wf k t) : 0 < t.ents.length := List.length_pos_iff.2 h.ne
/-- the first entry and the last one part at the node's level -/
theorem ends_part {k g l : Nat} {pre : List Nat} {ks : List (Nat × T)} (h : Wf k (.br g l pre ks)) :
    ∃ e0 e1 : Ent, (entsL ks)[0]? = some e0 ∧ (entsL ks)[(entsL ks).length - 1]? = some e1 ∧ e0.1.length = k ∧ e1.1.length = k ∧ Ok e0.1 ∧ Ok e1.1 ∧ Z.part e0.1 e1.1 = (l : Int) ∧ cut e0.1 (l + 1) = pre ∧ 2 ≤ (entsL ks).length := by
  have h2 : 2 ≤ ks.length := by cases h with | br _ _ _ _ _ _ h2 => exact h2
  have hs : Sl.Srt ks := by cases h with | br _ _ _ _ _ hw => exact hw.srt
  obtain ⟨x0, hx0⟩ : ∃ x, ks[0]? = some x := ⟨_, List.getElem?_eq_getElem (by omega)⟩
  obtain ⟨xn, hxn⟩ : ∃ x, ks[ks.length - 1]? = some x := ⟨_, List.getElem?_eq_getElem (by omega)⟩
  have m0 := List.mem_of_getElem? hx0
  have mn := List.mem_of_getElem? hxn
  have w0 := h.kid m0
  have wn := h.kid mn
  have p0 := ents_pos' w0
  have pn := ents_pos' wn
  obtain ⟨e0, he0⟩ : ∃ e, x0.2.ents[0]? = some e := ⟨_, List.getElem?_eq_getElem p0⟩
  obtain ⟨e1, he1⟩ : ∃ e, xn.2.ents[xn.2.ents.length - 1]? = some e := ⟨_, List.getElem?_eq_getElem (by omega)⟩
  have i0 := ents_at hx0 p0
  rw [offK_zero, he0] at i0
  have i1 := ents_at hxn (j := xn.2.ents.length - 1) (by omega)
  have hlast : offK ks (ks.length - 1) + xn.2.ents.length = (entsL ks).length := by
    have := offK_succ hxn
    rw [show ks.length - 1 + 1 = ks.length by omega, offK_all] at this
    omega
  rw [show offK ks (ks.length - 1) + (xn.2.ents.length - 1) = (entsL ks).length - 1 by omega, he1] at i1
  have b0 := w0.entry (List.mem_of_getElem? he0)
  have b1 := wn.entry (List.mem_of_getElem? he1)
  have hne : x0.1 ≠ xn.1 := by
    have := Sl.srt_get hs hx0 hxn (by omega)
    omega
  have hlen : 2 ≤ (entsL ks).length := by
    have q0 := offK_le hx0
    have q1 : offK ks 1 ≤ offK ks (ks.length - 1) := by
      have : entsL (ks.take (ks.length - 1)) = entsL (ks.take 1) ++ entsL ((ks.take (ks.length - 1)).drop 1) := by
        rw [← entsL_append]
        congr 1
        rw [show ks.take 1 = (ks.take (ks.length - 1)).take 1 by rw [List.take_take]; congr 1; omega, List.take_append_drop]
      unfold offK
      rw [this, List.length_append]
      omega
    have q2 := offK_succ hx0
    rw [offK_zero] at q2
    simp only [Nat.zero_add] at q2
    omega
  refine ⟨e0, e1, i0, i1, b0.1, b1.1, b0.2.1, b1.2.1, br_part h m0 mn hne b0 b1, ?_, hlen⟩
  have hmem : e0 ∈ (T.br g l pre ks).ents := by rw [ents_br]; exact List.mem_of_getElem? i0
  exact (h.each e0 hmem).2.2.2
/-- the address of a kid's entry at the node's level -/
theorem kid_addr {k g l : Nat} {pre : List Nat} {ks : List (Nat × T)} (h : Wf k (.br g l pre ks)) {x : Nat × T} (hx : x ∈ ks) {e : Ent} (he : e ∈ x.2.ents) : addr e.1 l = x.1 := by
  cases h with
  | br _ _ _ _ h63 hw h2 hl ho hk hc =>
    obtain ⟨c1, c2, c3⟩ := hc x hx
    rw [(hk x hx).addr_at he c1, c3]
end Go.Proofs.Ytgplbbmenmbaaaa.Tr
