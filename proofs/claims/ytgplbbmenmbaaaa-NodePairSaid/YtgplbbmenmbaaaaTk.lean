/-
  PLAIN MATHEMATICS of layer 6, second part: a node with a kid more, with another kid, without one; the pair of two nodes.
-/
import Derived.Test.YtgplbbmenmbaaaaTn2
namespace Go.Proofs.Ytgplbbmenmbaaaa
open Tr (T S4)

def at0 (t : T) : Option Addr := some ⟨t.blk, 0, none⟩
theorem kidL_eq (ks : List (Nat × T)) : kidL ks = ks.map fun x => (x.1, at0 x.2) := rfl
theorem kidL_length (ks : List (Nat × T)) : (kidL ks).length = ks.length := by simp [kidL]
theorem kidL_put (a : Nat) (t : T) : ∀ (ks : List (Nat × T)), kidL (Sl.put a t ks) = Sl.put a (at0 t) (kidL ks)
  | [] => rfl
  | x :: ks => by
    have ih := kidL_put a t ks
    simp only [kidL_eq, List.map_cons] at ih ⊢
    simp only [Sl.put]
    by_cases h1 : x.1 < a
    · simp only [h1, if_true, List.map_cons, ih]
    · by_cases h2 : x.1 = a
      · simp [h2]
      · simp only [h1, h2, if_false, List.map_cons]
theorem kidL_del (a : Nat) : ∀ (ks : List (Nat × T)), kidL (Sl.del a ks) = Sl.del a (kidL ks)
  | [] => rfl
  | x :: ks => by
    have ih := kidL_del a ks
    simp only [kidL_eq, List.map_cons] at ih ⊢
    simp only [Sl.del]
    by_cases h2 : x.1 = a
    · simp [h2]
    · simp only [h2, if_false, List.map_cons, ih]
theorem kidL_get (a : Int) : ∀ (ks : List (Nat × T)), Sl.get (kidL ks) a = (Sl.get ks a).map at0
  | [] => rfl
  | x :: ks => by
    have ih := kidL_get a ks
    simp only [kidL_eq, List.map_cons] at ih ⊢
    simp only [Sl.get]
    by_cases h2 : (x.1 : Int) = a
    · simp [h2]
    · simp only [h2, if_false, ih]
theorem kidL_srt {ks : List (Nat × T)} (h : Sl.Srt ks) : Sl.Srt (kidL ks) := by
  unfold Sl.Srt at *
  rw [kidL_eq, List.pairwise_map]
  exact h
theorem kidL_wf {k : Nat} {ks : List (Nat × T)} (h : Sl.Wf k ks) : Sl.Wf k (kidL ks) := by
  refine ⟨h.k1, h.k16, kidL_srt h.srt, fun p hp => ?_⟩
  simp only [kidL, List.mem_map] at hp
  obtain ⟨x, hx, rfl⟩ := hp
  exact h.lt x hx
theorem kidL_things (ks : List (Nat × T)) : Sl.things (kidL ks) = ks.map fun x => at0 x.2 := by simp [Sl.things, kidL, at0]
theorem kidL_keys (ks : List (Nat × T)) : Sl.keys (kidL ks) = ks.map (·.1) := by simp [Sl.keys, kidL]

theorem val_tog {a b : S4} (h : b.c = 0 → b = Tr.s0) (ha : a.c = 0 → a = Tr.s0) : (Tr.tog a b).c = 0 → Tr.tog a b = Tr.s0 := by
  intro h0
  rw [Tr.tog_c] at h0
  rw [ha (by omega), Tr.zero_tog]
  exact h (by omega)
theorem togF_ents (ks : List (Nat × T)) : togF (ks.map fun x => Tr.sums x.2.ents) = Tr.sums (Tr.entsL ks) := by
  have h : ∀ (ks : List (Nat × T)) (a : S4), (a.c = 0 → a = Tr.s0) → (ks.map fun x => Tr.sums x.2.ents).foldl Tr.tog a = Tr.tog a (Tr.sums (Tr.entsL ks)) := by
    intro ks
    induction ks with
    | nil => intro a ha; simp [Tr.entsL_nil, Tr.sums_nil, Tr.tog_zero ha]
    | cons x ks ih =>
      intro a ha
      rw [List.map_cons, List.foldl_cons, ih _ (val_tog (Tr.sums_val _) ha), Tr.entsL_cons, Tr.sums_append, Tr.tog_assoc]
  rw [togF, h ks Tr.s0 (fun _ => rfl), Tr.zero_tog]
theorem sums_put_new {ks : List (Nat × T)} (h : Sl.Srt ks) {a : Nat} (t : T) (hg : Sl.get ks (a : Int) = none) : Tr.sums (Tr.entsL (Sl.put a t ks)) = Tr.tog (Tr.sums (Tr.entsL ks)) (Tr.sums t.ents) := by
  rw [Sl.put_none h t hg, Tr.entsL_append, Tr.entsL_cons, ← Tr.sums_append]
  conv => rhs; rw [← List.take_append_drop (Sl.idx ks (a : Int)) ks, Tr.entsL_append]
  refine Tr.sums_perm ?_
  rw [List.append_assoc]
  exact (List.perm_append_comm).append_left _
theorem Tr.Wf.part_cut {k : Nat} {n t : T} (hn : Tr.Wf k n) (ht : Tr.Wf k t) {m : Nat} : Z.part n.pre t.pre < (m : Int) ↔ Z.cut n.pre m = Z.cut t.pre m :=
  (Z.cut_eq_iff (by rw [hn.len, ht.len]) hn.ok ht.ok m).symm
/-- a kid that fits -/
theorem Tr.Wf.put {k g g' l : Nat} {pre : List Nat} {ks : List (Nat × T)} (h : Tr.Wf k (.br g l pre ks)) {t : T} (ht : Tr.Wf k t) (hp : Z.part pre t.pre ≤ (l : Int)) (hl : t.lv ≤ l) :
    Tr.Wf k (.br g' l pre (Sl.put (Z.addr t.pre l) t ks)) := by
  have hcut := (Tr.Wf.part_cut h ht (m := l + 1)).1 (by show Z.part pre t.pre < _; omega)
  have hpre : Z.cut pre (l + 1) = pre := h.cut_pre
  cases h with
  | br _ _ _ _ h63 hw h2 hlen ho hk hc =>
    have ha : Z.addr t.pre l < 2 ^ k := by have := Z.addr_bound t.pre l; rw [ht.len] at this; exact this
    have hkids : ∀ x ∈ Sl.put (Z.addr t.pre l) t ks, Tr.Wf k x.2 ∧ x.2.lv ≤ l ∧ Z.cut x.2.pre (l + 1) = pre ∧ Z.addr x.2.pre l = x.1 := by
      intro x hx
      rcases Sl.mem_put hx with rfl | hx
      · exact ⟨ht, hl, by rw [← hcut]; exact hpre, rfl⟩
      · exact ⟨hk x hx, hc x hx⟩
    refine .br g' l pre _ h63 (hw.put t ha) ?_ hlen ho (fun x hx => (hkids x hx).1) (fun x hx => (hkids x hx).2)
    rw [Sl.length_put hw.srt]
    omega
/-- without a kid -/
theorem Tr.Wf.del {k g g' l : Nat} {pre : List Nat} {ks : List (Nat × T)} (h : Tr.Wf k (.br g l pre ks)) (a : Nat) (h2 : 2 ≤ (Sl.del a ks).length) : Tr.Wf k (.br g' l pre (Sl.del a ks)) := by
  cases h with
  | br _ _ _ _ h63 hw _ hlen ho hk hc =>
    exact .br g' l pre _ h63 (hw.del a) h2 hlen ho (fun x hx => hk x (Sl.mem_del hx)) (fun x hx => hc x (Sl.mem_del hx))
/-- the pair of two nodes -/
theorem Tr.Wf.pair {k l : Nat} {a b : T} (ha : Tr.Wf k a) (hb : Tr.Wf k b) (hp : Z.part a.pre b.pre = (l : Int)) (hla : a.lv ≤ l) (hlb : b.lv ≤ l) (g : Nat) :
    Tr.Wf k (.br g l (Z.cut a.pre (l + 1)) (Sl.put (Z.addr b.pre l) b (Sl.put (Z.addr a.pre l) a []))) ∧ Z.addr a.pre l ≠ Z.addr b.pre l := by
  have hlen : a.pre.length = b.pre.length := by rw [ha.len, hb.len]
  have hsp := Z.part_bd hlen ha.ok hb.ok
  have h63 : l ≤ 63 := by omega
  have hcut : Z.cut a.pre (l + 1) = Z.cut b.pre (l + 1) := (Z.cut_eq_iff hlen ha.ok hb.ok (l + 1)).2 (by omega)
  have hne : Z.addr a.pre l ≠ Z.addr b.pre l := by
    intro e
    have h1 : Z.cut a.pre l = Z.cut b.pre l := by
      refine Z.points_eq (by simp [Z.cut_length, hlen]) (Z.cut_ok ha.ok l) (Z.cut_ok hb.ok l) fun m hm => ?_
      rw [Z.cut_addr, Z.cut_addr]
      split
      · rcases Nat.lt_or_ge l m with h | h
        · have c1 := Z.cut_addr a.pre (l + 1) m
          have c2 := Z.cut_addr b.pre (l + 1) m
          rw [if_pos (by omega)] at c1 c2
          rw [← c1, ← c2, hcut]
        · have : m = l := by omega
          rw [this]
          exact e
      · rfl
    have := (Z.cut_eq_iff hlen ha.ok hb.ok l).1 h1
    omega
  have ba : Z.addr a.pre l < 2 ^ k := by have := Z.addr_bound a.pre l; rw [ha.len] at this; exact this
  have bb : Z.addr b.pre l < 2 ^ k := by have := Z.addr_bound b.pre l; rw [hb.len] at this; exact this
  have w0 : Sl.Wf k (Sl.put (Z.addr b.pre l) b (Sl.put (Z.addr a.pre l) a ([] : List (Nat × T)))) := ((Sl.Wf.nil ha.k1 ha.k16).put a ba).put b bb
  have hkids : ∀ x ∈ Sl.put (Z.addr b.pre l) b (Sl.put (Z.addr a.pre l) a ([] : List (Nat × T))), Tr.Wf k x.2 ∧ x.2.lv ≤ l ∧ Z.cut x.2.pre (l + 1) = Z.cut a.pre (l + 1) ∧ Z.addr x.2.pre l = x.1 := by
    intro x hx
    rcases Sl.mem_put hx with rfl | hx
    · exact ⟨hb, hlb, hcut.symm, rfl⟩
    · rcases Sl.mem_put hx with rfl | hx
      · exact ⟨ha, hla, rfl, rfl⟩
      · simp at hx
  refine ⟨.br g l _ _ h63 w0 ?_ (by rw [Z.cut_length, ha.len]) (Z.cut_ok ha.ok _) (fun x hx => (hkids x hx).1) (fun x hx => (hkids x hx).2), hne⟩
  rw [Sl.length_put ((Sl.Wf.nil ha.k1 ha.k16).put a ba).srt, Sl.length_put (Sl.Wf.nil ha.k1 ha.k16).srt]
  have h0 : Sl.has ([] : List (Nat × T)) (Z.addr a.pre l : Int) = false := rfl
  have h1 : Sl.has (Sl.put (Z.addr a.pre l) a ([] : List (Nat × T))) (Z.addr b.pre l : Int) = false := by
    rw [Sl.has, Sl.get_put Sl.srt_nil, if_neg (by omega)]
    rfl
  rw [h0, h1]
  simp
end Go.Proofs.Ytgplbbmenmbaaaa
