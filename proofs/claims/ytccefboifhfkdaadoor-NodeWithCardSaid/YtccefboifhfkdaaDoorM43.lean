import Derived.Test.YtccefboifhfkdaaDoorM42
import Derived.Test.YtccefboifhfkdaaDoorM41
import Derived.Test.YtccefboifhfkdaaDoorM26
import Derived.Test.YtccefboifhfkdaaDoorM13
/-
  KIDS THAT ARE ENTRIES ALL: what one more, one less means for their list. For the law NodeWith.
-/
namespace Go.Proofs.YtccefboifhfkdaaDoor
open Go.ChangeShapes Go.WideShapes Go.ChangeAt Go.RowKit
open Tr (T S4 Ent Shp)

theorem flat_put {ks : List (Nat × T)} (h : FlatT ks) (a g : Nat) (p : List Nat) (v : Nat) : FlatT (Sl.put a (T.ent g p v) ks) := fun x hx => by
  rcases Sl.mem_put hx with rfl | hx
  · exact ⟨g, p, v, rfl⟩
  · exact h x hx
theorem flat_del {ks : List (Nat × T)} (h : FlatT ks) (a : Nat) : FlatT (Sl.del a ks) := fun x hx => h x (Sl.mem_del hx)
theorem FlatT.tail {x : Nat × T} {ks : List (Nat × T)} (h : FlatT (x :: ks)) : FlatT ks := fun y hy => h y (List.mem_cons_of_mem _ hy)
/-- the kids stand at their addresses -/
def AtL (l : Nat) (ks : List (Nat × T)) : Prop := ∀ x ∈ ks, Z.addr x.2.pre l = x.1
theorem AtL.tail {l : Nat} {x : Nat × T} {ks : List (Nat × T)} (h : AtL l (x :: ks)) : AtL l ks := fun y hy => h y (List.mem_cons_of_mem _ hy)
theorem addr_mem {l : Nat} {ks : List (Nat × T)} (hf : FlatT ks) (ha : AtL l ks) {e : Ent} (he : e ∈ Tr.entsL ks) : ∃ x ∈ ks, Z.addr e.1 l = x.1 := by
  obtain ⟨x, hx, g, hg⟩ := entry_kid hf he
  have := ha x hx
  rw [hg] at this
  exact ⟨x, hx, this⟩
theorem del_gt {a : Nat} : ∀ {ks : List (Nat × T)}, (∀ y ∈ ks, a < y.1) → Sl.del a ks = ks
  | [], _ => rfl
  | x :: ks, h => by
    have h1 := h x List.mem_cons_self
    rw [Sl.del, if_neg (by omega), del_gt fun y hy => h y (List.mem_cons_of_mem _ hy)]
/-- without a place: those that stand elsewhere -/
theorem del_filter {l a : Nat} : ∀ {ks : List (Nat × T)}, Sl.Srt ks → FlatT ks → AtL l ks → (Tr.entsL ks).filter (fun e => decide (Z.addr e.1 l ≠ a)) = Tr.entsL (Sl.del a ks)
  | [], _, _, _ => rfl
  | x :: ks, hs, hf, ha => by
    obtain ⟨g, p, v, hx⟩ := hf x List.mem_cons_self
    have h1 : Z.addr p l = x.1 := by have := ha x List.mem_cons_self; rw [hx] at this; exact this
    have ih := del_filter (a := a) hs.tail hf.tail ha.tail
    rw [Tr.entsL_cons, hx, Tr.ents_ent, List.filter_append, Sl.del]
    by_cases hc : x.1 = a
    · rw [if_pos hc, List.filter_cons_of_neg (by simp [h1, hc]), List.filter_nil, List.nil_append]
      refine List.filter_eq_self.2 fun e he => ?_
      obtain ⟨y, hy, hye⟩ := addr_mem hf.tail ha.tail he
      have := hs.head y hy
      simp only [hye, decide_eq_true_eq]
      omega
    · rw [if_neg hc, List.filter_cons_of_pos (by simp [h1, hc]), List.filter_nil, ih, Tr.entsL_cons, hx, Tr.ents_ent]
/-- with one more -/
theorem put_perm {a g : Nat} {p : List Nat} {v : Nat} : ∀ {ks : List (Nat × T)}, Sl.Srt ks → (Tr.entsL (Sl.put a (T.ent g p v) ks)).Perm (Tr.entsL (Sl.del a ks) ++ [(p, v)])
  | [], _ => by
    rw [Sl.put, Sl.del, Tr.entsL_cons, Tr.ents_ent]
    exact List.Perm.refl _
  | x :: ks, hs => by
    rw [Sl.put, Sl.del]
    by_cases h1 : x.1 < a
    · rw [if_pos h1, if_neg (by omega), Tr.entsL_cons, Tr.entsL_cons, List.append_assoc]
      exact (put_perm hs.tail).append_left _
    · rw [if_neg h1]
      by_cases h2 : x.1 = a
      · rw [if_pos h2, if_pos h2, Tr.entsL_cons, Tr.ents_ent]
        exact List.perm_append_comm
      · rw [if_neg h2, if_neg h2, del_gt fun y hy => by have := hs.head y hy; omega, Tr.entsL_cons, Tr.ents_ent]
        exact List.perm_append_comm
/-- the round: those left, and the new one -/
theorem round_perm {l a g : Nat} {p : List Nat} {v : Nat} {ks : List (Nat × T)} {L : List Ent} (hs : Sl.Srt ks) (hf : FlatT ks) (ha : AtL l ks) (hL : L.Perm (Tr.entsL ks)) :
    (L.filter (fun e => decide (Z.addr e.1 l ≠ a)) ++ [(p, v)]).Perm (Tr.entsL (Sl.put a (T.ent g p v) ks)) := by
  refine List.Perm.trans ?_ (put_perm hs).symm
  rw [← del_filter hs hf ha]
  exact (hL.filter _).append_right _
theorem left_perm {l a : Nat} {ks : List (Nat × T)} {L : List Ent} (hs : Sl.Srt ks) (hf : FlatT ks) (ha : AtL l ks) (hL : L.Perm (Tr.entsL ks)) :
    (L.filter (fun e => decide (Z.addr e.1 l ≠ a))).Perm (Tr.entsL (Sl.del a ks)) := by
  rw [← del_filter hs hf ha]
  exact hL.filter _
theorem left_len {l a : Nat} {ks : List (Nat × T)} {L : List Ent} (hs : Sl.Srt ks) (hf : FlatT ks) (ha : AtL l ks) (hL : L.Perm (Tr.entsL ks)) :
    (L.filter (fun e => decide (Z.addr e.1 l ≠ a))).length = (Sl.del a ks).length := by
  rw [(left_perm hs hf ha hL).length_eq, flat_ents (flat_del hf a)]
theorem AtL.put {l a g : Nat} {p : List Nat} {v : Nat} {ks : List (Nat × T)} (h : AtL l ks) (ha : Z.addr p l = a) : AtL l (Sl.put a (T.ent g p v) ks) := fun x hx => by
  rcases Sl.mem_put hx with rfl | hx
  · exact ha
  · exact h x hx
/-- one alone is left -/
theorem left_one {l a : Nat} {ks : List (Nat × T)} {L : List Ent} {x : Nat × T} (hs : Sl.Srt ks) (hf : FlatT ks) (ha : AtL l ks) (hL : L.Perm (Tr.entsL ks)) (hx : Sl.del a ks = [x]) :
    ∃ g p v, x.2 = T.ent g p v ∧ x ∈ ks ∧ Z.addr p l = x.1 ∧ L.filter (fun e => decide (Z.addr e.1 l ≠ a)) = [(p, v)] := by
  have hm : x ∈ ks := Sl.mem_del (a := a) (by rw [hx]; exact List.mem_cons_self)
  obtain ⟨g, p, v, hxe⟩ := hf x hm
  have h1 := left_perm (a := a) hs hf ha hL
  rw [hx, Tr.entsL_cons, hxe, Tr.ents_ent] at h1
  have h2 := ha x hm
  rw [hxe] at h2
  exact ⟨g, p, v, hxe, hm, h2, List.perm_singleton.1 h1⟩
/-- where a point parts from a node: as where it parts from any point below the node -/
theorem part_pre {us p pre : List Nat} {l : Nat} (h : us.length = p.length) (hu : Z.Ok us) (hp : Z.Ok p) (hc : Z.cut us (l + 1) = pre) : Z.part pre p ≤ (l : Int) ↔ Z.part p us ≤ (l : Int) := by
  subst hc
  have h1 := Z.cut_eq_iff (us := Z.cut us (l + 1)) (vs := p) (by simpa [Z.cut] using h) (Z.cut_ok hu (l + 1)) hp (l + 1)
  have h2 := Z.cut_eq_iff h hu hp (l + 1)
  rw [Tr.cut_cut us (l + 1) (l + 1) (Nat.le_refl _)] at h1
  have h3 : Z.part (Z.cut us (l + 1)) p < ((l + 1 : Nat) : Int) ↔ Z.part us p < ((l + 1 : Nat) : Int) := h1.symm.trans h2
  rw [Z.part_symm h hu hp]
  omega
end Go.Proofs.YtccefboifhfkdaaDoor

/-
  THE LAW NodeWith, first part: what is skipped. Laid by wip/gen18.py.
-/
namespace Go.Proofs.YtccefboifhfkdaaDoor
open Go.ChangeShapes Go.WideShapes Go.ChangeAt Go.RowKit
open Tr (T S4 Ent)

def heavyW (m : Nat) (L : List Ent) : Bool := decide (m < L.length ∨ ∃ e ∈ L, 40 < e.1.length)
theorem leafW_nd {w : World} {B : Nat} {e : Ent} {t : T} (h : LeafOf w B e t) : ∃ g, t = .ent g e.1 e.2 ∧ NdAt w B g (-1) e.1 e.2 none (Tr.s1 e.2) := by
  obtain ⟨g, rfl, hn⟩ := h
  refine ⟨g, rfl, ?_⟩
  cases hn.2 with | ent _ _ _ h => exact h
set_option maxRecDepth 100000 in
set_option maxHeartbeats 2000000 in
theorem nodeWith_skip {w : World} {A : Option Addr} {c : Nat} {a : Int} {L : List Ent} (h : Ents w w.heap.size A L) (hl : L.length ≤ maxLen) (hs : heavyW 30 L = true ∨ L.length < 2) :
    Calls Tryd.prog 3 #[.slice A L.length c, .int .i64 a] w fun e w' => e = .returned (.bool true) ∧ Below w.heap.size w w' := by
  have HX := Lib.hid (And.intro h hl)
  have HH : Hid (∀ w1, Below w.heap.size w w1 → Calls Tryd.prog 7 #[.slice A L.length c, .int .i64 30] w1 fun e w' => e = .returned (.bool (heavyW 30 L)) ∧ w1 = w') := Lib.hid fun w1 hb1 => rheavy_c (HX.out.1.below hb1 (Nat.le_refl _) (Nat.le_refl _)) hl 30 _ rfl
  have hlm : L.length ≤ 9223372036854775807 := hl
  obtain ⟨r, hr⟩ : ∃ r, heavyW 30 L = r := ⟨_, rfl⟩
  rw [hr] at HH hs
  clear h hl hr
  cases r with
  | true =>
    clear hs
    go_enter Tryd.func3, Tryd.ntmps3
    go_wp2_with fail
    refine (awake6_c w).mono ?_
    rintro e w1 ⟨rfl, hb1⟩
    have B1 := Lib.hid hb1
    clear hb1
    go_wp2_with fail
    refine (HH.out w1 B1.out).mono ?_
    rintro e w' ⟨rfl, rfl⟩
    go_wp2_with fail
    go_ret
    exact ⟨rfl, B1.out⟩
  | false =>
    have h2 : L.length < 2 := by
      rcases hs with h | h
      · cases h
      · exact h
    have d1 : decide ((L.length : Int) < 2) = true := decide_eq_true (by omega)
    have d1' : decide (L.length < 2) = true := decide_eq_true h2
    clear hs
    go_enter Tryd.func3, Tryd.ntmps3
    go_wp2_with fail
    refine (awake6_c w).mono ?_
    rintro e w1 ⟨rfl, hb1⟩
    have B1 := Lib.hid hb1
    clear hb1
    go_wp2_with fail
    refine (HH.out w1 B1.out).mono ?_
    rintro e w' ⟨rfl, rfl⟩
    go_wp2_with fail
    go_ret
    exact ⟨rfl, B1.out⟩
set_option maxRecDepth 100000 in
set_option maxHeartbeats 2000000 in
theorem nodeWith_none {w : World} {A : Option Addr} {c : Nat} {a : Int} {L : List Ent} (h : Ents w w.heap.size A L) (hh : heavyW 30 L = false) (hl3 : L.length ≤ 30) (hl2 : 2 ≤ L.length) (hno : ∃ e ∈ L, ¬ (1 ≤ e.1.length ∧ e.1.length ≤ 16)) :
    Calls Tryd.prog 3 #[.slice A L.length c, .int .i64 a] w fun e w' => e = .returned (.bool true) ∧ Below w.heap.size w w' := by
  have hlm : L.length ≤ 1000 := by have := hl3; omega
  have HX := Lib.hid (And.intro h (And.intro hh (And.intro hl3 hl2)))
  have HH : Hid (∀ w1, Below w.heap.size w w1 → Calls Tryd.prog 7 #[.slice A L.length c, .int .i64 30] w1 fun e w' => e = .returned (.bool false) ∧ w1 = w') := Lib.hid fun w1 hb1 => rheavy_c (HX.out.1.below hb1 (Nat.le_refl _) (Nat.le_refl _)) (by unfold maxLen; omega) 30 _ hh
  have HV : Hid (∀ w1, Below w.heap.size w w1 → Calls Tryd.prog 8 #[.slice A L.length c] w1 fun e w' => (((∃ e ∈ L, ¬ (1 ≤ e.1.length ∧ e.1.length ≤ 16)) ∧ e = .returned (.tuple #[.slice none 0 0, .bool false])) ∨
       ((∀ e ∈ L, 1 ≤ e.1.length ∧ e.1.length ≤ 16) ∧ ∃ D d ls, e = .returned (.tuple #[.slice D L.length d, .bool true]) ∧ OwnV 33 w' w1.heap.size (.slice D L.length d) (ptrsV ls) ∧ AllLeaves w' w'.heap.size L ls)) ∧ Below w1.heap.size w1 w') := Lib.hid fun w1 hb1 => leaves_c (HX.out.1.below hb1 (Nat.le_refl _) (Nat.le_refl _)) hb1.size hlm
  have d1 : decide ((L.length : Int) < 2) = false := decide_eq_false (by omega)
  have d1' : decide (L.length < 2) = false := decide_eq_false (by omega)
  have HN := Lib.hid hno
  clear h hh hno hl3 hl2 hlm
  go_enter Tryd.func3, Tryd.ntmps3
  go_wp2_with fail
  refine (awake6_c w).mono ?_
  rintro e w1 ⟨rfl, hb1⟩
  have B1 := Lib.hid hb1
  clear hb1
  go_wp2_with fail
  refine (HH.out w1 B1.out).mono ?_
  rintro e w' ⟨rfl, rfl⟩
  go_wp2_with fail
  refine (HV.out w1 B1.out).mono ?_
  rintro e w2 ⟨⟨-, rfl⟩ | ⟨hall, -⟩, hb2⟩
  · have B2 := Lib.hid hb2
    clear hb2
    go_wp2_with fail
    go_quiet (fail)
    go_wp2_with fail
    go_ret
    exact ⟨rfl, below_drewN _ (Below.andThen B1.out B2.out)⟩
  · obtain ⟨e, he, hn⟩ := HN.out
    exact absurd (hall e he) hn
set_option maxRecDepth 100000 in
set_option maxHeartbeats 2000000 in
theorem nodeWith_dim01 {w : World} {A : Option Addr} {c : Nat} {a : Int} {L : List Ent} (h : Ents w w.heap.size A L) (hh : heavyW 30 L = false) (hl3 : L.length ≤ 30) (hl2 : 2 ≤ L.length) (hall : ∀ e ∈ L, 1 ≤ e.1.length ∧ e.1.length ≤ 16) (hne : ∀ (e0 e1 : Ent), L[0]? = some e0 → L[1]? = some e1 → e0.1.length ≠ e1.1.length) :
    Calls Tryd.prog 3 #[.slice A L.length c, .int .i64 a] w fun e w' => e = .returned (.bool true) ∧ Below w.heap.size w w' := by
  have hlm : L.length ≤ 1000 := by have := hl3; omega
  have HX := Lib.hid (And.intro h (And.intro hh (And.intro hl3 hl2)))
  have HH : Hid (∀ w1, Below w.heap.size w w1 → Calls Tryd.prog 7 #[.slice A L.length c, .int .i64 30] w1 fun e w' => e = .returned (.bool false) ∧ w1 = w') := Lib.hid fun w1 hb1 => rheavy_c (HX.out.1.below hb1 (Nat.le_refl _) (Nat.le_refl _)) (by unfold maxLen; omega) 30 _ hh
  have HV : Hid (∀ w1, Below w.heap.size w w1 → Calls Tryd.prog 8 #[.slice A L.length c] w1 fun e w' => (((∃ e ∈ L, ¬ (1 ≤ e.1.length ∧ e.1.length ≤ 16)) ∧ e = .returned (.tuple #[.slice none 0 0, .bool false])) ∨
       ((∀ e ∈ L, 1 ≤ e.1.length ∧ e.1.length ≤ 16) ∧ ∃ D d ls, e = .returned (.tuple #[.slice D L.length d, .bool true]) ∧ OwnV 33 w' w1.heap.size (.slice D L.length d) (ptrsV ls) ∧ AllLeaves w' w'.heap.size L ls)) ∧ Below w1.heap.size w1 w') := Lib.hid fun w1 hb1 => leaves_c (HX.out.1.below hb1 (Nat.le_refl _) (Nat.le_refl _)) hb1.size hlm
  have d1 : decide ((L.length : Int) < 2) = false := decide_eq_false (by omega)
  have d1' : decide (L.length < 2) = false := decide_eq_false (by omega)
  obtain ⟨e0, he0⟩ := get_lt (us := L) (k := 0) (by omega)
  obtain ⟨e1, he1⟩ := get_lt (us := L) (k := 1) (by omega)
  obtain ⟨b, off, P0, p0c, hA, hb, x0, -, pp0, -, -⟩ := h.at he0
  subst hA
  obtain ⟨b', off', P1, p1c, hA', -, x1, -, pp1, -, -⟩ := h.at he1
  simp only [Option.some.injEq, Addr.mk.injEq, and_true] at hA'
  obtain ⟨rfl, rfl⟩ := hA'
  rw [Nat.zero_mul, Nat.add_zero] at x0
  rw [Nat.one_mul] at x1
  have y0 : ∀ w', Below w.heap.size w w' → w'.cell? ⟨b, off, none⟩ = some (.slice P0 e0.1.length p0c) := fun w' hb' => (hb'.cell (p := ⟨b, off, none⟩) hb).trans x0
  have y1 : ∀ w', Below w.heap.size w w' → w'.cell? ⟨b, off + 2, none⟩ = some (.slice P1 e1.1.length p1c) := fun w' hb' => (hb'.cell (p := ⟨b, off + 2, none⟩) hb).trans x1
  have HPP := Lib.hid (And.intro pp0 pp1)
  have HA := Lib.hid (hall e0 (List.mem_of_getElem? he0))
  have HALL := Lib.hid hall
  have m0 : (0 : Int) < (L.length : Int) := by omega
  have m1 : (1 : Int) < (L.length : Int) := by omega
  have m0' : 0 < L.length := by omega
  have m1' : 1 < L.length := by omega
  have n1 : ((e0.1.length : Int) != (e1.1.length : Int)) = true := by have := hne e0 e1 he0 he1; simp; omega
  clear h hh hall hne he0 he1 x0 x1 pp0 pp1 hl3 hl2 hlm
  go_enter Tryd.func3, Tryd.ntmps3
  go_wp2_with fail
  refine (awake6_c w).mono ?_
  rintro e w1 ⟨rfl, hb1⟩
  have B1 := Lib.hid hb1
  clear hb1
  go_wp2_with fail
  refine (HH.out w1 B1.out).mono ?_
  rintro e w' ⟨rfl, rfl⟩
  go_wp2_with fail
  refine (HV.out w1 B1.out).mono ?_
  rintro e w2 ⟨⟨⟨e, he, hn⟩, -⟩ | ⟨-, D, d, ls, rfl, hown, hal⟩, hb2⟩
  · exact absurd (HALL.out e he) hn
  have B2 := Lib.hid (Below.andThen B1.out hb2)
  clear hown hal hb2
  have z0 : ∀ w', Below w2.heap.size w2 w' → w'.cell? ⟨b, off, none⟩ = some (.slice P0 e0.1.length p0c) := fun w' hb' => y0 w' (Below.andThen B2.out hb')
  have z1 : ∀ w', Below w2.heap.size w2 w' → w'.cell? ⟨b, off + 2, none⟩ = some (.slice P1 e1.1.length p1c) := fun w' hb' => y1 w' (Below.andThen B2.out hb')
  clear y0 y1
  have x0 := z0 w2 (Below.refl _ _)
  have x1 := z1 w2 (Below.refl _ _)
  clear z0 z1
  go_wp2_with fail
  go_quiet (fail)
  go_wp2_with fail
  go_ret
  exact ⟨rfl, below_drewN _ B2.out⟩
set_option maxRecDepth 100000 in
set_option maxHeartbeats 2000000 in
theorem nodeWith_same {w : World} {A : Option Addr} {c : Nat} {a : Int} {L : List Ent} (h : Ents w w.heap.size A L) (hh : heavyW 30 L = false) (hl3 : L.length ≤ 30) (hl2 : 2 ≤ L.length) (hall : ∀ e ∈ L, 1 ≤ e.1.length ∧ e.1.length ≤ 16) (hne : ∀ (e0 e1 : Ent), L[0]? = some e0 → L[1]? = some e1 → e0.1 = e1.1) :
    Calls Tryd.prog 3 #[.slice A L.length c, .int .i64 a] w fun e w' => e = .returned (.bool true) ∧ Below w.heap.size w w' := by
  have hlm : L.length ≤ 1000 := by have := hl3; omega
  have HX := Lib.hid (And.intro h (And.intro hh (And.intro hl3 hl2)))
  have HH : Hid (∀ w1, Below w.heap.size w w1 → Calls Tryd.prog 7 #[.slice A L.length c, .int .i64 30] w1 fun e w' => e = .returned (.bool false) ∧ w1 = w') := Lib.hid fun w1 hb1 => rheavy_c (HX.out.1.below hb1 (Nat.le_refl _) (Nat.le_refl _)) (by unfold maxLen; omega) 30 _ hh
  have HV : Hid (∀ w1, Below w.heap.size w w1 → Calls Tryd.prog 8 #[.slice A L.length c] w1 fun e w' => (((∃ e ∈ L, ¬ (1 ≤ e.1.length ∧ e.1.length ≤ 16)) ∧ e = .returned (.tuple #[.slice none 0 0, .bool false])) ∨
       ((∀ e ∈ L, 1 ≤ e.1.length ∧ e.1.length ≤ 16) ∧ ∃ D d ls, e = .returned (.tuple #[.slice D L.length d, .bool true]) ∧ OwnV 33 w' w1.heap.size (.slice D L.length d) (ptrsV ls) ∧ AllLeaves w' w'.heap.size L ls)) ∧ Below w1.heap.size w1 w') := Lib.hid fun w1 hb1 => leaves_c (HX.out.1.below hb1 (Nat.le_refl _) (Nat.le_refl _)) hb1.size hlm
  have d1 : decide ((L.length : Int) < 2) = false := decide_eq_false (by omega)
  have d1' : decide (L.length < 2) = false := decide_eq_false (by omega)
  obtain ⟨e0, he0⟩ := get_lt (us := L) (k := 0) (by omega)
  obtain ⟨e1, he1⟩ := get_lt (us := L) (k := 1) (by omega)
  obtain ⟨b, off, P0, p0c, hA, hb, x0, -, pp0, -, -⟩ := h.at he0
  subst hA
  obtain ⟨b', off', P1, p1c, hA', -, x1, -, pp1, -, -⟩ := h.at he1
  simp only [Option.some.injEq, Addr.mk.injEq, and_true] at hA'
  obtain ⟨rfl, rfl⟩ := hA'
  rw [Nat.zero_mul, Nat.add_zero] at x0
  rw [Nat.one_mul] at x1
  have y0 : ∀ w', Below w.heap.size w w' → w'.cell? ⟨b, off, none⟩ = some (.slice P0 e0.1.length p0c) := fun w' hb' => (hb'.cell (p := ⟨b, off, none⟩) hb).trans x0
  have y1 : ∀ w', Below w.heap.size w w' → w'.cell? ⟨b, off + 2, none⟩ = some (.slice P1 e1.1.length p1c) := fun w' hb' => (hb'.cell (p := ⟨b, off + 2, none⟩) hb).trans x1
  have HPP := Lib.hid (And.intro pp0 pp1)
  have HA := Lib.hid (hall e0 (List.mem_of_getElem? he0))
  have HALL := Lib.hid hall
  have m0 : (0 : Int) < (L.length : Int) := by omega
  have m1 : (1 : Int) < (L.length : Int) := by omega
  have m0' : 0 < L.length := by omega
  have m1' : 1 < L.length := by omega
  have hne01 := hne e0 e1 he0 he1
  have n1 : ((e0.1.length : Int) != (e1.1.length : Int)) = false := by rw [hne01]; simp
  have HSAME : Hid (∀ w1, Below w.heap.size w w1 → Calls Tryd.prog 9 #[.slice P0 e0.1.length p0c, .slice P1 e1.1.length p1c] w1 fun e w' => e = .returned (.bool true) ∧ Below w1.heap.size w1 w') := Lib.hid fun w1 hb1 =>
    (rsame_c P0 P1 p0c p1c e0.1 e1.1 w.heap.size w1 (HPP.out.1.below' hb1 (Nat.le_refl _)) (HPP.out.2.below' hb1 (Nat.le_refl _)) hb1.size (by have := HA.out.2; unfold maxLen; omega)).mono fun _ _ ⟨he, hw⟩ => ⟨by rw [he, decide_eq_true hne01], hw⟩
  clear h hh hall hne he0 he1 x0 x1 pp0 pp1 hl3 hl2 hlm hne01
  go_enter Tryd.func3, Tryd.ntmps3
  go_wp2_with fail
  refine (awake6_c w).mono ?_
  rintro e w1 ⟨rfl, hb1⟩
  have B1 := Lib.hid hb1
  clear hb1
  go_wp2_with fail
  refine (HH.out w1 B1.out).mono ?_
  rintro e w' ⟨rfl, rfl⟩
  go_wp2_with fail
  refine (HV.out w1 B1.out).mono ?_
  rintro e w2 ⟨⟨⟨e, he, hn⟩, -⟩ | ⟨-, D, d, ls, rfl, hown, hal⟩, hb2⟩
  · exact absurd (HALL.out e he) hn
  have B2 := Lib.hid (Below.andThen B1.out hb2)
  clear hown hal hb2
  have z0 : ∀ w', Below w2.heap.size w2 w' → w'.cell? ⟨b, off, none⟩ = some (.slice P0 e0.1.length p0c) := fun w' hb' => y0 w' (Below.andThen B2.out hb')
  have z1 : ∀ w', Below w2.heap.size w2 w' → w'.cell? ⟨b, off + 2, none⟩ = some (.slice P1 e1.1.length p1c) := fun w' hb' => y1 w' (Below.andThen B2.out hb')
  clear y0 y1
  have hbb := Below.refl w2.heap.size w2
  go_wp2_with fail
  go_region_held3 (fun w' => Below w2.heap.size w2 w') (((repeat (first | refine Below.drew ?_ | (with_reducible refine below_drewN _ ?_) | refine Below.alloc ?_ (by first | omega | (simp; done) | (simp; omega)) _ | refine Below.setCell ?_ (by first | omega | (simp; done) | (simp; omega)) _)); first | exact Below.refl _ _ | assumption | exact below_drewN _ (Below.refl _ _) | exact below_drewN _ (below_drewN _ (Below.refl _ _))))
    ((go_at_call 9; refine (HSAME.out _ (Below.andThen B2.out (show Below w2.heap.size w2 _ by ((repeat (first | refine Below.drew ?_ | (with_reducible refine below_drewN _ ?_) | refine Below.alloc ?_ (by first | omega | (simp; done) | (simp; omega)) _ | refine Below.setCell ?_ (by first | omega | (simp; done) | (simp; omega)) _)); first | exact Below.refl _ _ | assumption | exact below_drewN _ (Below.refl _ _) | exact below_drewN _ (below_drewN _ (Below.refl _ _)))))).mono ?_; rintro e' w5 ⟨rfl, hb5⟩; have hbD := Below.trans (show Below w2.heap.size w2 _ by ((repeat (first | refine Below.drew ?_ | (with_reducible refine below_drewN _ ?_) | refine Below.alloc ?_ (by first | omega | (simp; done) | (simp; omega)) _ | refine Below.setCell ?_ (by first | omega | (simp; done) | (simp; omega)) _)); first | exact Below.refl _ _ | assumption | exact below_drewN _ (Below.refl _ _) | exact below_drewN _ (below_drewN _ (Below.refl _ _)))) (hb5.mono (Below.size (show Below w2.heap.size w2 _ by ((repeat (first | refine Below.drew ?_ | (with_reducible refine below_drewN _ ?_) | refine Below.alloc ?_ (by first | omega | (simp; done) | (simp; omega)) _ | refine Below.setCell ?_ (by first | omega | (simp; done) | (simp; omega)) _)); first | exact Below.refl _ _ | assumption | exact below_drewN _ (Below.refl _ _) | exact below_drewN _ (below_drewN _ (Below.refl _ _)))))); clear hb5))
  clear z0 z1 hbb
  go_wp2_with fail
  go_ret
  exact ⟨rfl, Below.andThen B2.out hbD⟩
end Go.Proofs.YtccefboifhfkdaaDoor
