import Derived.Test.YtpgkfccfabnjdaaGreatDoorM75
import Derived.Test.YtpgkfccfabnjdaaGreatDoorM16
import Derived.Test.YtpgkfccfabnjdaaGreatDoorM9b
import Derived.Test.YtpgkfccfabnjdaaGreatDoorM91
/-
  RANK, for RankParts: slices.BinarySearch of ints.
-/
namespace Go.Proofs.YtpgkfccfabnjdaaGreatDoor
open Go.ChangeShapes Go.WideShapes Go.ChangeAt Go.RowKit
open Tr (T S4 Ent)

theorem nan1_c (a : Int) (w : World) : Calls Tryz.prog 167 #[.int .i64 a] w fun e w' => e = .returned (.bool false) ∧ w = w' := by
  have h : (a != a) = false := by simp
  go_enter Tryz.func167, Tryz.ntmps167
  go_wp2_with fail
  go_ret
  exact ⟨rfl, rfl⟩
theorem nan2_c (a : Int) (w : World) : Calls Tryz.prog 198 #[.int .i64 a] w fun e w' => e = .returned (.bool false) ∧ w = w' := by
  have h : (a != a) = false := by simp
  go_enter Tryz.func198, Tryz.ntmps198
  go_wp2_with fail
  go_ret
  exact ⟨rfl, rfl⟩
theorem less_c (a b : Int) {r : Bool} (hr : decide (a < b) = r) (w : World) : Calls Tryz.prog 166 #[.int .i64 a, .int .i64 b] w fun e w' => e = .returned (.bool r) ∧ w = w' := by
  go_enter Tryz.func166, Tryz.ntmps166
  go_wp2_with fail
  refine (nan2_c a w).mono ?_
  rintro e w' ⟨rfl, rfl⟩
  cases r with
  | true => (go_wp2_with fail); go_ret; exact ⟨rfl, rfl⟩
  | false => (go_wp2_with fail); go_ret; exact ⟨rfl, rfl⟩
set_option maxRecDepth 100000 in
set_option maxHeartbeats 4000000 in
theorem bsearch_c {w : World} {B : Nat} {A : Option Addr} {c n : Nat} {ks : List Nat} (hs : ks.Pairwise (· < ·)) (h : RdV w B A (Sn.intV ks)) (hn : ks.length = n) (hl : n ≤ 100000) (t : Int) :
    Calls Tryz.prog 122 #[.slice A n c, .int .i64 t] w fun e w' => ∃ (i : Nat) (r : Bool), e = .returned (.tuple #[.int .i64 (i : Int), .bool r]) ∧ i ≤ n ∧ (∀ (j k : Nat), ks[j]? = some k → (j < i ↔ (k : Int) < t)) ∧ (r = true ↔ ∃ k : Nat, ks[i]? = some k ∧ (k : Int) = t) ∧ w = w' := by
  have HX := Lib.hid (And.intro hs (And.intro h hn))
  have hn9 : (n : Int) ≤ 100000 := by omega
  clear hs h hn
  go_enter Tryz.func122, Tryz.ntmps122
  go_wp2_with fail
  go_loopw [7, 8] (fun u v wr => ∃ i j : Nat, u = .int .i64 (i : Int) ∧ v = .int .i64 (j : Int) ∧ i ≤ j ∧ j ≤ n ∧ (∀ (q k : Nat), q < i → ks[q]? = some k → (k : Int) < t) ∧ (∀ (q k : Nat), j ≤ q → ks[q]? = some k → t ≤ (k : Int)) ∧ wr = w) (fun u v _ => (intOf v).toNat - (intOf u).toNat)
  case atStart => exact ⟨0, n, rfl, rfl, Nat.zero_le _, Nat.le_refl _, fun q k hq => absurd hq (Nat.not_lt_zero _), (fun q k hq hk => by rw [List.getElem?_eq_none (by rw [HX.out.2.2]; exact hq)] at hk; cases hk), rfl⟩
  case round =>
    obtain ⟨i, j, rfl, rfl, hij, hjn, hlo, hhi, rfl⟩ := hrel
    by_cases hlt : i < j
    · have f1 : decide ((i : Int) < (j : Int)) = true := decide_eq_true (by omega)
      have f1' : decide (i < j) = true := decide_eq_true hlt
      have hj9 : (j : Int) ≤ 100000 := by omega
      have hi9 : (i : Int) ≤ 100000 := by omega
      obtain ⟨h, hh⟩ : ∃ h, (i + j) / 2 = h := ⟨_, rfl⟩
      have hih : i ≤ h := by omega
      have hhj : h < j := by omega
      have hmid : ((i : Int) + (j : Int)) / 2 = (h : Int) := by omega
      obtain ⟨k, hk⟩ := get_lt (us := ks) (k := h) (by rw [HX.out.2.2]; omega)
      obtain ⟨b, off, hA, hb, hc⟩ := HX.out.2.1 (by intro e; rw [Sn.intV, List.map_eq_nil_iff] at e; rw [e] at hk; simp at hk)
      have z := hc h (.int .i64 (k : Int)) (by rw [Sn.intV, List.getElem?_map, hk]; rfl)
      obtain ⟨r, hr⟩ : ∃ r, decide ((k : Int) < t) = r := ⟨_, rfl⟩
      have HL := Lib.hid (less_c (k : Int) t hr)
      have hsrt : ∀ (q q' u u' : Nat), q ≤ q' → ks[q]? = some u → ks[q']? = some u' → u ≤ u' := fun q q' u u' hq h1 h2 => by
        rcases Nat.lt_or_ge q q' with c | c
        · obtain ⟨x1, rfl⟩ := List.getElem?_eq_some_iff.1 h1
          obtain ⟨x2, rfl⟩ := List.getElem?_eq_some_iff.1 h2
          exact Nat.le_of_lt (List.pairwise_iff_getElem.1 HX.out.1 q q' x1 x2 c)
        · have : q = q' := by omega
          subst this
          rw [h1, Option.some.injEq] at h2
          omega
      have HI := Lib.hid (And.intro hlo (And.intro hhi (And.intro hlt (And.intro hjn (And.intro hih (And.intro hhj (And.intro hk (And.intro hr hsrt))))))))
      subst hA
      have n1 : (0 : Int) ≤ (h : Int) := by omega
      have n2 : (h : Int) < (n : Int) := by omega
      have n3 : (h : Int) ≤ 100000 := by omega
      clear hlo hhi hlt hjn hij hk hr hsrt hih hhj hc hb hh
      go_wp2_with fail
      refine (HL.out _).mono ?_
      rintro e w' ⟨rfl, rfl⟩
      clear HL z
      cases r with
      | true =>
        go_wp2_with fail
        go_roundw
        case rel =>
          obtain ⟨hlo, hhi, hlt, hjn, hih, hhj, hk, hr, hsrt⟩ := HI.out
          have hkt : (k : Int) < t := by simpa using hr
          exact ⟨h + 1, j, by first | rfl | go_num, rfl, by omega, hjn, fun q u hq hu => by have := hsrt q h u k (by omega) hu hk; omega, hhi, by first | rfl | trivial⟩
        case measure =>
          obtain ⟨hlo, hhi, hlt, hjn, hih, hhj, -⟩ := HI.out
          show (j : Int).toNat - ((h : Int) + 1).toNat < (j : Int).toNat - (i : Int).toNat
          omega
      | false =>
        go_wp2_with fail
        go_roundw
        case rel =>
          obtain ⟨hlo, hhi, hlt, hjn, hih, hhj, hk, hr, hsrt⟩ := HI.out
          have hkt : ¬ (k : Int) < t := by simpa using hr
          exact ⟨i, h, rfl, by first | rfl | go_num, hih, by omega, hlo, fun q u hq hu => by have := hsrt h q k u hq hk hu; omega, by first | rfl | trivial⟩
        case measure =>
          obtain ⟨hlo, hhi, hlt, hjn, hih, hhj, -⟩ := HI.out
          show (h : Int).toNat - (i : Int).toNat < (j : Int).toNat - (i : Int).toNat
          omega
    · have hji : j = i := by omega
      subst hji
      have f1 : decide ((j : Int) < (j : Int)) = false := decide_eq_false (by omega)
      have f1' : decide (j < j) = false := decide_eq_false (by omega)
      have hiff : ∀ (q u : Nat), ks[q]? = some u → (q < j ↔ (u : Int) < t) := fun q u hu => ⟨fun h => hlo q u h hu, fun h => by
        rcases Nat.lt_or_ge q j with c | c
        · exact c
        · exact absurd h (by have := hhi q u c hu; omega)⟩
      have HF := Lib.hid (And.intro hiff hjn)
      clear hlo hhi hlt hij hiff
      by_cases hlt : j < n
      · obtain ⟨k, hk⟩ := get_lt (us := ks) (k := j) (by rw [HX.out.2.2]; exact hlt)
        obtain ⟨b, off, hA, hb, hc⟩ := HX.out.2.1 (by intro e; rw [Sn.intV, List.map_eq_nil_iff] at e; rw [e] at hk; simp at hk)
        have z := hc j (.int .i64 (k : Int)) (by rw [Sn.intV, List.getElem?_map, hk]; rfl)
        have f2 : decide ((j : Int) < (n : Int)) = true := decide_eq_true (by omega)
        have f2' : decide (j < n) = true := decide_eq_true hlt
        have n1 : (0 : Int) ≤ (j : Int) := by omega
        have n2 : (j : Int) < (n : Int) := by omega
        subst hA
        have HK := Lib.hid hk
        clear hk hc hb hlt hjn
        by_cases hkt : (k : Int) = t
        · have e1 : ((k : Int) == t) = true := by rw [beq_iff_eq]; exact hkt
          have HT := Lib.hid hkt
          clear hkt
          go_wp2_with fail
          go_ret2
          exact ⟨j, true, rfl, HF.out.2, HF.out.1, ⟨fun _ => ⟨k, HK.out, HT.out⟩, fun _ => rfl⟩, rfl⟩
        · have e1 : ((k : Int) == t) = false := by rw [beq_eq_false_iff_ne]; exact hkt
          have HT := Lib.hid hkt
          clear hkt
          go_wp2_with fail
          refine (nan1_c (k : Int) _).mono ?_
          rintro e w' ⟨rfl, rfl⟩
          go_wp2_with fail
          go_ret2
          exact ⟨j, false, rfl, HF.out.2, HF.out.1, ⟨fun h => Bool.noConfusion h, fun ⟨u, hu, e⟩ => by rw [HK.out, Option.some.injEq] at hu; subst hu; exact absurd e HT.out⟩, rfl⟩
      · have hjn2 : n = j := by omega
        subst hjn2
        clear hjn hlt
        go_wp2_with fail
        go_ret2
        exact ⟨n, false, rfl, Nat.le_refl _, HF.out.1, ⟨fun h => Bool.noConfusion h, fun ⟨u, hu, e⟩ => by rw [List.getElem?_eq_none (by rw [HX.out.2.2]; exact Nat.le_refl _)] at hu; cases hu⟩, rfl⟩
end Go.Proofs.YtpgkfccfabnjdaaGreatDoor

/-
  RANK, for RankParts: join of what may be none; only, where few stay (kids joined one by one).
-/
namespace Go.Proofs.YtpgkfccfabnjdaaGreatDoor
open Go.ChangeShapes Go.WideShapes Go.ChangeAt Go.RowKit
open Tr (T S4 Ent)

theorem joinO_c {w : World} {B k : Nat} {a b : Option T} (ha : NodeO w B k a) (hb : NodeO w B k b) (hB : B ≤ w.heap.size) (hT : ∀ w', Below w.heap.size w w' → Tz w') (hz : Tr.Bef (Tr.entsO a) (Tr.entsO b)) (hN : (Tr.entsO a).length + (Tr.entsO b).length ≤ 200000000) :
    Calls Tryz.prog 67 #[.pointer (rootP a), .pointer (rootP b)] w fun e w' => ∃ n : Option T, e = .returned (.pointer (rootP n)) ∧ NodeO w' w'.heap.size k n ∧ Tr.entsO n = Tr.entsO a ++ Tr.entsO b ∧ Below w.heap.size w w' := by
  cases a with
  | none =>
    refine (join_first (rootP b) w).mono ?_
    rintro e w' ⟨rfl, rfl⟩
    exact ⟨b, rfl, hb.below (Below.refl _ _) hB hB, rfl, Below.refl _ _⟩
  | some s =>
    cases b with
    | none =>
      refine (join_last ⟨s.blk, 0, none⟩ w).mono ?_
      rintro e w' ⟨rfl, rfl⟩
      exact ⟨some s, rfl, ha.below (Below.refl _ _) hB hB, (List.append_nil _).symm, Below.refl _ _⟩
    | some t =>
      refine (join_c (ha s rfl) (hb t rfl) hB hT hz hN).mono ?_
      rintro e w' ⟨n, rfl, h1, h2, h3⟩
      exact ⟨some n, rfl, (fun u hu => by cases hu; exact h1), h2, h3⟩
theorem kids_bef {k g l : Nat} {pre : List Nat} {ks s r L : List (Nat × T)} (h : Tr.Wf k (.br g l pre ks)) (hk : ks = s ++ (L ++ r)) {i : Nat} {x : Nat × T} (hx : L[i]? = some x) : Tr.Bef (Tr.entsL (L.take i)) x.2.ents := by
  have hz := h.zs
  obtain ⟨hi, rfl⟩ := List.getElem?_eq_some_iff.1 hx
  rw [Tr.ents_br, hk, Tr.entsL_append, Tr.entsL_append] at hz
  have h2 := (List.pairwise_append.1 (List.pairwise_append.1 hz).2.1).1
  rw [← List.take_append_drop i L, List.drop_eq_getElem_cons hi, Tr.entsL_append, Tr.entsL_cons] at h2
  have h3 := (List.pairwise_append.1 h2).2.2
  intro e he f hf
  exact h3 e he f (List.mem_append_left _ hf)
set_option maxRecDepth 100000 in
set_option maxHeartbeats 4000000 in
theorem only1_c {w : World} {B k g l : Nat} {pre : List Nat} {ks s r L : List (Nat × T)} (h : Node w B k (.br g l pre ks)) (hB : B ≤ w.heap.size) (hT : ∀ w', Below w.heap.size w w' → Tz w') (hk : ks = s ++ (L ++ r)) {R : Nat} {A A' : Option Addr} {c c' m m' : Nat} (hr : RdV w R A (Sn.intV (L.map (·.1)))) (hR : R ≤ w.heap.size) (hm : L.length = m) (hm6 : m ≤ 65536) (hm' : m' ≤ 65536) (hlt : m < 3 * m') (hN : (T.br g l pre ks).ents.length ≤ 100000000) :
    Calls Tryz.prog 123 #[.pointer (some ⟨g, 0, none⟩), .slice A m c, .slice A' m' c'] w fun e w' => ∃ n : Option T, e = .returned (.pointer (rootP n)) ∧ NodeO w' w'.heap.size k n ∧ Tr.entsO n = Tr.entsL L ∧ Below w.heap.size w w' := by
  have hsub : ∀ i, (Tr.entsL (L.take i)).length ≤ 100000000 ∧ ∀ x, L[i]? = some x → (Tr.entsL (L.take i)).length + x.2.ents.length ≤ 200000000 := fun i => by
    have e1 : (T.br g l pre ks).ents.length = (Tr.entsL s).length + ((Tr.entsL L).length + (Tr.entsL r).length) := by rw [Tr.ents_br, hk, Tr.entsL_append, Tr.entsL_append, List.length_append, List.length_append]
    have e2 : (Tr.entsL L).length = (Tr.entsL (L.take i)).length + (Tr.entsL (L.drop i)).length := by rw [← List.length_append, ← Tr.entsL_append, List.take_append_drop]
    refine ⟨by omega, fun x hx => ?_⟩
    obtain ⟨hi, rfl⟩ := List.getElem?_eq_some_iff.1 hx
    have e3 : (Tr.entsL (L.drop i)).length = L[i].2.ents.length + (Tr.entsL (L.drop (i + 1))).length := by rw [List.drop_eq_getElem_cons hi, Tr.entsL_cons, List.length_append]
    omega
  have hmem : ∀ x ∈ L, x ∈ ks := fun x hx => by rw [hk]; exact List.mem_append_right _ (List.mem_append_left _ hx)
  have hsrt := (Tr.kids_fit h.1).2
  have HX := Lib.hid (And.intro h (And.intro hB (And.intro hT (And.intro hk (And.intro hr (And.intro hR (And.intro hm (And.intro hsub (And.intro hmem hsrt)))))))))
  have d1 : decide ((m : Int) < 3 * (m' : Int)) = true := decide_eq_true (by omega)
  have d1' : decide (m < 3 * m') = true := decide_eq_true hlt
  have hm9 : (m : Int) ≤ 65536 := by omega
  have hm8 : (m' : Int) ≤ 65536 := by omega
  clear h hB hT hk hr hR hm hN hsub hmem hsrt hm6 hm' hlt
  go_enter Tryz.func123, Tryz.ntmps123
  go_wp2_with fail
  go_loopw [7, 20] (fun u v wr => ∃ (i : Nat) (n : Option T), u = .pointer (rootP n) ∧ v = .int .i64 (i : Int) ∧ i ≤ m ∧ NodeO wr wr.heap.size k n ∧ Tr.entsO n = Tr.entsL (L.take i) ∧ Below w.heap.size w wr) (fun _ v _ => m - (intOf v).toNat)
  case atStart => exact ⟨0, none, rfl, rfl, Nat.zero_le _, NodeO.none _ _ _, rfl, Below.refl _ _⟩
  case round =>
    obtain ⟨i, n, rfl, rfl, hi, hn, hen, hbr⟩ := hrel
    by_cases hlt : i < m
    · obtain ⟨x, hx⟩ := get_lt (us := L) (k := i) (by rw [HX.out.2.2.2.2.2.2.1]; exact hlt)
      obtain ⟨b, off, hA, hb, hc⟩ := HX.out.2.2.2.2.1 (by intro e; rw [Sn.intV, List.map_eq_nil_iff, List.map_eq_nil_iff] at e; rw [e] at hx; simp at hx)
      have z := hc i (.int .i64 (x.1 : Int)) (by rw [Sn.intV, List.getElem?_map, List.getElem?_map, hx]; rfl)
      have zr := (hbr.cell (p := ⟨b, off + i, none⟩) (Nat.lt_of_lt_of_le hb HX.out.2.2.2.2.2.1)).trans z
      have hxk := HX.out.2.2.2.2.2.2.2.2.1 x (List.mem_of_getElem? hx)
      have hget : (Sl.get ks (x.1 : Int)).map (fun s => (⟨s.blk, 0, none⟩ : Addr)) = some ⟨x.2.blk, 0, none⟩ := by rw [Sl.get_of_mem HX.out.2.2.2.2.2.2.2.2.2 hxk]; rfl
      have HK := Lib.hid (kid_br HX.out.1 HX.out.2.1 hbr (x.1 : Int) hget)
      have hnx : Node w B k x.2 := HX.out.1.kid hxk
      have HJ : Hid (∀ w2, Below wr.heap.size wr w2 → Calls Tryz.prog 67 #[.pointer (rootP n), .pointer (some ⟨x.2.blk, 0, none⟩)] w2 fun e w' => ∃ n2 : Option T, e = .returned (.pointer (rootP n2)) ∧ NodeO w' w'.heap.size k n2 ∧ Tr.entsO n2 = Tr.entsL (L.take (i + 1)) ∧ Below w2.heap.size w2 w') := Lib.hid fun w2 hb2 => by
        have hbw := Below.andThen hbr hb2
        have hj := joinO_c (w := w2) (B := w2.heap.size) (a := n) (b := some x.2) (hn.below hb2 (Nat.le_refl _) hb2.size) (fun t e => by cases e; exact hnx.below hbw HX.out.2.1 (Nat.le_trans HX.out.2.1 hbw.size)) (Nat.le_refl _) (fun w' h => HX.out.2.2.1 w' (hbw.trans (h.mono hbw.size))) (by rw [hen]; exact kids_bef HX.out.1.1 HX.out.2.2.2.1 hx) (by rw [hen]; exact (HX.out.2.2.2.2.2.2.2.1 i).2 x hx)
        refine hj.mono ?_
        rintro e w' ⟨n2, he, h1, h2, h3⟩
        refine ⟨n2, he, h1, ?_, h3⟩
        rw [h2, hen, List.take_add_one, hx, Tr.entsL_append]
        simp [Tr.entsL, Tr.entsO]
      have HI := Lib.hid (And.intro hbr hlt)
      subst hA
      have f1 : decide ((i : Int) < (m : Int)) = true := decide_eq_true (by omega)
      have f1' : decide (i < m) = true := decide_eq_true hlt
      have n1 : (0 : Int) ≤ (i : Int) := by omega
      have n2 : (i : Int) < (m : Int) := by omega
      clear hx hb hc z hxk hget hnx hn hen hbr hlt hi
      obtain ⟨pn, hpn⟩ : ∃ p, rootP n = p := ⟨_, rfl⟩
      rw [hpn] at HJ ⊢
      clear hpn
      go_wp2_with fail
      refine HK.out.mono ?_
      rintro e w2 ⟨rfl, nq, rfl⟩
      have HB2 := Lib.hid (below_drewN nq (Below.refl wr.heap.size wr))
      clear HK
      go_wp2_with fail
      refine (HJ.out _ HB2.out).mono ?_
      rintro e w3 ⟨n3, rfl, h1, h2, h3⟩
      have H3 := Lib.hid (And.intro h1 (And.intro h2 (Below.andThen HI.out.1 (Below.andThen HB2.out h3))))
      clear h1 h2 h3 HJ
      go_wp2_with fail
      go_roundw
      case rel => exact ⟨i + 1, n3, rfl, by first | rfl | go_num, by have := HI.out.2; omega, H3.out.1, H3.out.2.1, H3.out.2.2⟩
      case measure =>
        have := HI.out.2
        show m - ((i : Int) + 1).toNat < m - (i : Int).toNat
        omega
    · have hmi : m = i := by omega
      subst hmi
      have f1 : decide ((m : Int) < (m : Int)) = false := decide_eq_false (by omega)
      have f1' : decide (m < m) = false := decide_eq_false (by omega)
      rw [show L.take m = L by rw [← HX.out.2.2.2.2.2.2.1, List.take_length]] at hen
      have HR := Lib.hid (And.intro hn (And.intro hen hbr))
      clear hn hen hbr hlt hi
      go_wp2_with fail
      go_ret
      exact ⟨n, rfl, HR.out.1, HR.out.2.1, HR.out.2.2⟩
end Go.Proofs.YtpgkfccfabnjdaaGreatDoor

/-
  RANK, for RankParts: only, where most stay (kids taken away one by one).
-/
namespace Go.Proofs.YtpgkfccfabnjdaaGreatDoor
open Go.ChangeShapes Go.WideShapes Go.ChangeAt Go.RowKit
open Tr (T S4 Ent)

theorem del_mid {V : Type} {s rest : List (Nat × V)} {x : Nat × V} (h : Sl.Srt (s ++ x :: rest)) : Sl.del x.1 (s ++ x :: rest) = s ++ rest := by
  have hx : (s ++ x :: rest)[s.length]? = some x := by rw [List.getElem?_append_right (Nat.le_refl _)]; simp
  rw [Sl.del_some h (Sl.get_of_mem h (List.mem_of_getElem? hx)), Sl.idx_of h hx, List.take_append_of_le_length (Nat.le_refl _), List.take_length]
  congr 1
  rw [← List.drop_drop, List.drop_append_of_le_length (Nat.le_refl _), List.drop_length]
  rfl
set_option maxRecDepth 100000 in
set_option maxHeartbeats 4000000 in
theorem only2_c {w : World} {B k g l : Nat} {pre : List Nat} {s r L : List (Nat × T)} (h : Node w B k (.br g l pre (s ++ (L ++ r)))) (hB : B ≤ w.heap.size) {R : Nat} {A A' : Option Addr} {c c' m m' : Nat} (hr : RdV w R A' (Sn.intV (L.map (·.1)))) (hR : R ≤ w.heap.size) (hm : (s ++ r).length = m) (hm2 : L.length = m') (hm6 : m ≤ 65536) (hm' : m' ≤ 65536) (hlt : ¬ m < 3 * m') (hN : (T.br g l pre (s ++ (L ++ r))).ents.length ≤ 100000000) :
    Calls Tryz.prog 123 #[.pointer (some ⟨g, 0, none⟩), .slice A m c, .slice A' m' c'] w fun e w' => ∃ n : T, e = .returned (.pointer (some ⟨n.blk, 0, none⟩)) ∧ Node w' w'.heap.size k n ∧ n.ents = Tr.entsL (s ++ r) ∧ Below w.heap.size w w' := by
  have hN2 : ∀ i, (Tr.entsL (s ++ (L.drop i ++ r))).length < 18446744073709551616 := fun i => by
    have e1 : (Tr.entsL (s ++ (L ++ r))).length = (Tr.entsL s).length + ((Tr.entsL L).length + (Tr.entsL r).length) := by rw [Tr.entsL_append, Tr.entsL_append, List.length_append, List.length_append]
    have e2 : (Tr.entsL L).length = (Tr.entsL (L.take i)).length + (Tr.entsL (L.drop i)).length := by rw [← List.length_append, ← Tr.entsL_append, List.take_append_drop]
    have e3 : (Tr.entsL (s ++ (L.drop i ++ r))).length = (Tr.entsL s).length + ((Tr.entsL (L.drop i)).length + (Tr.entsL r).length) := by rw [Tr.entsL_append, Tr.entsL_append, List.length_append, List.length_append]
    rw [Tr.ents_br] at hN
    omega
  have h0 : Node w w.heap.size k (.br g l pre (s ++ (L.drop 0 ++ r))) := by
    rw [List.drop_zero]
    exact h.below (Below.refl _ _) hB hB
  have HX := Lib.hid (And.intro h0 (And.intro hr (And.intro hR (And.intro hm (And.intro hm2 (And.intro hN2 hlt))))))
  have d1 : decide ((m : Int) < 3 * (m' : Int)) = false := decide_eq_false (by omega)
  have d1' : decide (m < 3 * m') = false := decide_eq_false hlt
  have hm9 : (m : Int) ≤ 65536 := by omega
  have hm8 : (m' : Int) ≤ 65536 := by omega
  clear h h0 hB hr hR hm hm2 hN hN2 hm6 hm' hlt
  go_enter Tryz.func123, Tryz.ntmps123
  go_wp2_with fail
  go_loopw [0, 33] (fun u v wr => ∃ (i g' : Nat), u = .pointer (some ⟨g', 0, none⟩) ∧ v = .int .i64 (i : Int) ∧ i ≤ m' ∧ Node wr wr.heap.size k (.br g' l pre (s ++ (L.drop i ++ r))) ∧ Below w.heap.size w wr) (fun _ v _ => m' - (intOf v).toNat)
  case atStart => exact ⟨0, g, rfl, rfl, Nat.zero_le _, HX.out.1, Below.refl _ _⟩
  case round =>
    obtain ⟨i, g', rfl, rfl, hi, hn, hbr⟩ := hrel
    by_cases hlt : i < m'
    · obtain ⟨x, hx⟩ := get_lt (us := L) (k := i) (by rw [HX.out.2.2.2.2.1]; exact hlt)
      obtain ⟨b, off, hA, hb, hc⟩ := HX.out.2.1 (by intro e; rw [Sn.intV, List.map_eq_nil_iff, List.map_eq_nil_iff] at e; rw [e] at hx; simp at hx)
      have z := hc i (.int .i64 (x.1 : Int)) (by rw [Sn.intV, List.getElem?_map, List.getElem?_map, hx]; rfl)
      have zr := (hbr.cell (p := ⟨b, off + i, none⟩) (Nat.lt_of_lt_of_le hb HX.out.2.2.1)).trans z
      have hd : L.drop i = x :: L.drop (i + 1) := by
        obtain ⟨hi', rfl⟩ := List.getElem?_eq_some_iff.1 hx
        exact List.drop_eq_getElem_cons hi'
      have hN2 := HX.out.2.2.2.2.2.1 i
      rw [hd, List.cons_append] at hn hN2
      obtain ⟨hfit, hsrt⟩ := Tr.kids_fit hn.1
      have hmem : x ∈ s ++ x :: (L.drop (i + 1) ++ r) := List.mem_append_right _ List.mem_cons_self
      have hxa : x.1 < 2 ^ k := by
        obtain ⟨hw, -, -, ha⟩ := hfit x hmem
        have hbd := Z.addr_bound x.2.pre l
        rw [ha, hw.len] at hbd
        exact hbd
      have hlen : 2 ≤ (s ++ (L.drop (i + 1) ++ r)).length := by
        have h5 := HX.out.2.2.2.1
        have h6 := HX.out.2.2.2.2.2.2
        rw [List.length_append] at h5
        rw [List.length_append, List.length_append]
        omega
      have HW := nWithout_two hn (Nat.le_refl _) x.1 hxa (by unfold Sl.has; rw [Sl.get_of_mem hsrt hmem]; rfl) (by rw [del_mid hsrt]; exact hlen) hN2
      rw [del_mid hsrt] at HW
      have HW := Lib.hid HW
      have HI := Lib.hid (And.intro hbr hlt)
      subst hA
      have f1 : decide ((i : Int) < (m' : Int)) = true := decide_eq_true (by omega)
      have f1' : decide (i < m') = true := decide_eq_true hlt
      have n1 : (0 : Int) ≤ (i : Int) := by omega
      have n2 : (i : Int) < (m' : Int) := by omega
      clear hx hb hc z hd hn hN2 hfit hsrt hmem hxa hlen hbr hlt hi
      go_wp2_with fail
      refine HW.out.mono ?_
      rintro e w2 ⟨g2, rfl, h1, -, h3⟩
      have H3 := Lib.hid (And.intro h1 (Below.andThen HI.out.1 h3))
      clear h1 h3 HW
      go_wp2_with fail
      go_roundw
      case rel => exact ⟨i + 1, g2, rfl, by first | rfl | go_num, by have := HI.out.2; omega, H3.out.1, H3.out.2⟩
      case measure =>
        have := HI.out.2
        show m' - ((i : Int) + 1).toNat < m' - (i : Int).toNat
        omega
    · have hmi : m' = i := by omega
      subst hmi
      have f1 : decide ((m' : Int) < (m' : Int)) = false := decide_eq_false (by omega)
      have f1' : decide (m' < m') = false := decide_eq_false (by omega)
      rw [show L.drop m' = [] by rw [← HX.out.2.2.2.2.1, List.drop_length], List.nil_append] at hn
      have HR := Lib.hid (And.intro hn hbr)
      clear hn hbr hlt hi
      go_wp2_with fail
      go_ret
      exact ⟨.br g' l pre (s ++ r), rfl, HR.out.1, Tr.ents_br _ _ _ _, HR.out.2⟩
end Go.Proofs.YtpgkfccfabnjdaaGreatDoor

/-
  RANK, for RankParts: only, of a node's first kids, and of its last ones.
-/
namespace Go.Proofs.YtpgkfccfabnjdaaGreatDoor
open Go.ChangeShapes Go.WideShapes Go.ChangeAt Go.RowKit
open Tr (T S4 Ent)

theorem onlyPre_c {w : World} {B k g l : Nat} {pre : List Nat} {ks : List (Nat × T)} (h : Node w B k (.br g l pre ks)) (hB : B ≤ w.heap.size) (hT : ∀ w', Below w.heap.size w w' → Tz w') {f : Nat} {R : Nat} {A A' : Option Addr} {c c' m m' : Nat} (hr : RdV w R A (Sn.intV ((ks.take f).map (·.1)))) (hr' : RdV w R A' (Sn.intV ((ks.drop f).map (·.1)))) (hR : R ≤ w.heap.size) (hm : (ks.take f).length = m) (hm2 : (ks.drop f).length = m') (hn : ks.length ≤ 65536) (hN : (T.br g l pre ks).ents.length ≤ 100000000) :
    Calls Tryz.prog 123 #[.pointer (some ⟨g, 0, none⟩), .slice A m c, .slice A' m' c'] w fun e w' => ∃ n : Option T, e = .returned (.pointer (rootP n)) ∧ NodeO w' w'.heap.size k n ∧ Tr.entsO n = Tr.entsL (ks.take f) ∧ Below w.heap.size w w' := by
  have hmm : m + m' ≤ 65536 := by rw [← hm, ← hm2, ← List.length_append, List.take_append_drop]; exact hn
  by_cases hlt : m < 3 * m'
  · exact only1_c (s := []) (r := ks.drop f) (L := ks.take f) h hB hT (by rw [List.nil_append, List.take_append_drop]) hr hR hm (by omega) (by omega) hlt hN
  · have e : ks.take f ++ (ks.drop f ++ []) = ks := by rw [List.append_nil, List.take_append_drop]
    refine (only2_c (c := c) (s := ks.take f) (r := []) (L := ks.drop f) (A := A) (by rw [e]; exact h) hB hr' hR (by rw [List.append_nil]; exact hm) hm2 (by omega) (by omega) hlt (by rw [e]; exact hN)).mono ?_
    rintro e' w' ⟨n, rfl, h1, h2, h3⟩
    exact ⟨some n, rfl, (fun u hu => by cases hu; exact h1), by rw [List.append_nil] at h2; exact h2, h3⟩
theorem onlySuf_c {w : World} {B k g l : Nat} {pre : List Nat} {ks : List (Nat × T)} (h : Node w B k (.br g l pre ks)) (hB : B ≤ w.heap.size) (hT : ∀ w', Below w.heap.size w w' → Tz w') {f : Nat} {R : Nat} {A A' : Option Addr} {c c' m m' : Nat} (hr : RdV w R A (Sn.intV ((ks.drop f).map (·.1)))) (hr' : RdV w R A' (Sn.intV ((ks.take f).map (·.1)))) (hR : R ≤ w.heap.size) (hm : (ks.drop f).length = m) (hm2 : (ks.take f).length = m') (hn : ks.length ≤ 65536) (hN : (T.br g l pre ks).ents.length ≤ 100000000) :
    Calls Tryz.prog 123 #[.pointer (some ⟨g, 0, none⟩), .slice A m c, .slice A' m' c'] w fun e w' => ∃ n : Option T, e = .returned (.pointer (rootP n)) ∧ NodeO w' w'.heap.size k n ∧ Tr.entsO n = Tr.entsL (ks.drop f) ∧ Below w.heap.size w w' := by
  have hmm : m' + m ≤ 65536 := by rw [← hm, ← hm2, ← List.length_append, List.take_append_drop]; exact hn
  by_cases hlt : m < 3 * m'
  · exact only1_c (s := ks.take f) (r := []) (L := ks.drop f) h hB hT (by rw [List.append_nil, List.take_append_drop]) hr hR hm (by omega) (by omega) hlt hN
  · have e : [] ++ (ks.take f ++ ks.drop f) = ks := by rw [List.nil_append, List.take_append_drop]
    refine (only2_c (c := c) (s := []) (r := ks.drop f) (L := ks.take f) (A := A) (by rw [e]; exact h) hB hr' hR (by rw [List.nil_append]; exact hm) hm2 (by omega) (by omega) hlt (by rw [e]; exact hN)).mono ?_
    rintro e' w' ⟨n, rfl, h1, h2, h3⟩
    exact ⟨some n, rfl, (fun u hu => by cases hu; exact h1), by rw [List.nil_append] at h2; exact h2, h3⟩
end Go.Proofs.YtpgkfccfabnjdaaGreatDoor

/-
  RANK, for RankParts: Shape of a node of kids, and that its places may be cut.
-/
namespace Go.Proofs.YtpgkfccfabnjdaaGreatDoor
open Go.ChangeShapes Go.WideShapes Go.ChangeAt Go.RowKit
open Tr (T S4 Ent)

set_option maxRecDepth 100000 in
set_option maxHeartbeats 2000000 in
theorem nShape_br_cap {w : World} {B g b k : Nat} {lev : Int} {pre : List Nat} {v : Nat} {s : S4} {L : Sn.Al} (h : NdAt w B g lev pre v (some ⟨b, 0, none⟩) s) (ha : Sn.At w B b k L) (hB : B ≤ w.heap.size) (hne : pre ≠ []) (hl : pre.length ≤ 1000000) (d : Bool) (hd : Sl.dense k L = d) :
    Calls Tryz.prog 96 #[.pointer (some ⟨g, 0, none⟩)] w fun e w' => ∃ (A1 : Option Addr) (n1 c1 : Nat) (A2 : Option Addr) (c2 : Nat), e = .returned (shapeV lev A1 n1 c1 A2 (Sl.keys L).length c2 d v) ∧ RdV w' w'.heap.size A2 (Sn.intV (Sl.keys L)) ∧ (Sl.keys L).length ≤ c2 ∧ Below w.heap.size w w' := by
  obtain ⟨hg, ⟨A, c, hp, h1⟩, h0, h2, h3, -⟩ := h
  have hgw : g < w.heap.size := by omega
  have hbel := below_alloc w (.cells #[.int .i64 0, .slice none 0 0, .slice none 0 0, .bool false, .int .u64 0] 154)
  have hsz : (w.alloc (.cells #[.int .i64 0, .slice none 0 0, .slice none 0 0, .bool false, .int .u64 0] 154)).heap.size = w.heap.size + 1 := by simp
  have HQ := Lib.hid (q5_at (heap_at w (.cells #[.int .i64 0, .slice none 0 0, .slice none 0 0, .bool false, .int .u64 0] 154) _ rfl))
  rw [← hd]
  have HP := Lib.hid (And.intro hp (And.intro hne (And.intro hl ha)))
  clear hp hne hl ha hd
  go_enter Tryz.func96, Tryz.ntmps96
  go_wp2_with fail
  have q0 : ∀ w', Below w.heap.size w w' → w'.cell? ⟨g, 0, none⟩ = some (.int .i64 lev) := fun w' hb => (hb.cell (p := ⟨g, 0, none⟩) hgw).trans h0
  have q1 : ∀ w', Below w.heap.size w w' → w'.cell? ⟨g, 1, none⟩ = some (.slice A pre.length c) := fun w' hb => (hb.cell (p := ⟨g, 1, none⟩) hgw).trans h1
  have q2 : ∀ w', Below w.heap.size w w' → w'.cell? ⟨g, 2, none⟩ = some (.int .u64 (v : Int)) := fun w' hb => (hb.cell (p := ⟨g, 2, none⟩) hgw).trans h2
  have q3 : ∀ w', Below w.heap.size w w' → w'.cell? ⟨g, 3, none⟩ = some (.pointer (some ⟨b, 0, none⟩)) := fun w' hb => (hb.cell (p := ⟨g, 3, none⟩) hgw).trans h3
  have Hz := Lib.hid hsz
  clear hsz h0 h1 h2 h3
  generalize w.alloc _ = W1 at *
  have hsz : w.heap.size + 1 ≤ W1.heap.size := by have := Hz.out; omega
  go_region_held3 (fun w' => Below w.heap.size w w') (((repeat (first | refine Below.drew ?_ | (with_reducible refine below_drewN _ ?_) | refine Below.alloc ?_ (by first | omega | (simp; done) | (simp; omega)) _ | refine Below.setCell ?_ (by first | omega | (simp; done) | (simp; omega)) _)); first | exact Below.refl _ _ | assumption | exact below_drewN _ (Below.refl _ _) | exact below_drewN _ (below_drewN _ (Below.refl _ _))))
    ((first
      | (go_at_call 74; refine (clone_pts pre A c B _ (Nat.le_trans hB (Below.size (show Below w.heap.size w _ by ((repeat (first | refine Below.drew ?_ | (with_reducible refine below_drewN _ ?_) | refine Below.alloc ?_ (by first | omega | (simp; done) | (simp; omega)) _ | refine Below.setCell ?_ (by first | omega | (simp; done) | (simp; omega)) _)); first | exact Below.refl _ _ | assumption | exact below_drewN _ (Below.refl _ _) | exact below_drewN _ (below_drewN _ (Below.refl _ _)))))) (HP.out.1.below' (show Below w.heap.size w _ by ((repeat (first | refine Below.drew ?_ | (with_reducible refine below_drewN _ ?_) | refine Below.alloc ?_ (by first | omega | (simp; done) | (simp; omega)) _ | refine Below.setCell ?_ (by first | omega | (simp; done) | (simp; omega)) _)); first | exact Below.refl _ _ | assumption | exact below_drewN _ (Below.refl _ _) | exact below_drewN _ (below_drewN _ (Below.refl _ _)))) hB) HP.out.2.1 HP.out.2.2.1).mono ?_; rintro e wq ⟨h, d, rfl, ho, hb⟩; have hb' := Below.trans (show Below w.heap.size w _ by ((repeat (first | refine Below.drew ?_ | (with_reducible refine below_drewN _ ?_) | refine Below.alloc ?_ (by first | omega | (simp; done) | (simp; omega)) _ | refine Below.setCell ?_ (by first | omega | (simp; done) | (simp; omega)) _)); first | exact Below.refl _ _ | assumption | exact below_drewN _ (Below.refl _ _) | exact below_drewN _ (below_drewN _ (Below.refl _ _)))) (hb.mono (by first | omega | (simp; omega))); have HQ := Lib.hid (Q5.below (by first | exact HQ.out | exact HQ.out.drew) hb (by first | omega | (simp; omega))); have O1 := Lib.hid (ho.mono (show w.heap.size + 1 ≤ _ by first | exact hsz | (simp; omega))); (try (have O2 := Lib.hid (OwnV.below (by first | exact O2.out | exact O2.out.same) hb (Nat.le_refl _)))); have hsz : w.heap.size + 1 ≤ wq.heap.size := (Nat.le_trans (by first | exact hsz | (simp; omega)) hb.size); clear ho hb; have k0 := HQ.out.1.1; have k1 := HQ.out.1.2.1; have k2 := HQ.out.1.2.2.1; have k3 := HQ.out.1.2.2.2.1; have k4 := HQ.out.1.2.2.2.2; have f0 := HQ.out.2.1; have f1 := HQ.out.2.2.1; have f2 := HQ.out.2.2.2.1; have f3 := HQ.out.2.2.2.2.1; have f4 := HQ.out.2.2.2.2.2)
      | (go_at_call 153; refine (places_c HP.out.2.2.2.1 (HP.out.2.2.2.2.below (show Below w.heap.size w _ by ((repeat (first | refine Below.drew ?_ | (with_reducible refine below_drewN _ ?_) | refine Below.alloc ?_ (by first | omega | (simp; done) | (simp; omega)) _ | refine Below.setCell ?_ (by first | omega | (simp; done) | (simp; omega)) _)); first | exact Below.refl _ _ | assumption | exact below_drewN _ (Below.refl _ _) | exact below_drewN _ (below_drewN _ (Below.refl _ _)))) hB (Nat.le_refl _)) (Nat.le_trans hB (Below.size (show Below w.heap.size w _ by ((repeat (first | refine Below.drew ?_ | (with_reducible refine below_drewN _ ?_) | refine Below.alloc ?_ (by first | omega | (simp; done) | (simp; omega)) _ | refine Below.setCell ?_ (by first | omega | (simp; done) | (simp; omega)) _)); first | exact Below.refl _ _ | assumption | exact below_drewN _ (Below.refl _ _) | exact below_drewN _ (below_drewN _ (Below.refl _ _))))))).mono ?_; rintro e wq ⟨A2, c2, rfl, ho, hb⟩; have hb' := Below.trans (show Below w.heap.size w _ by ((repeat (first | refine Below.drew ?_ | (with_reducible refine below_drewN _ ?_) | refine Below.alloc ?_ (by first | omega | (simp; done) | (simp; omega)) _ | refine Below.setCell ?_ (by first | omega | (simp; done) | (simp; omega)) _)); first | exact Below.refl _ _ | assumption | exact below_drewN _ (Below.refl _ _) | exact below_drewN _ (below_drewN _ (Below.refl _ _)))) (hb.mono (by first | omega | (simp; omega))); have HQ := Lib.hid (Q5.below (by first | exact HQ.out | exact HQ.out.drew) hb (by first | omega | (simp; omega))); have O2 := Lib.hid (ho.mono (show w.heap.size + 1 ≤ _ by first | exact hsz | (simp; omega))); (try (have O1 := Lib.hid (Own.below (by first | exact O1.out | exact O1.out.drew) hb (Nat.le_refl _)))); have hsz : w.heap.size + 1 ≤ wq.heap.size := (Nat.le_trans (by first | exact hsz | (simp; omega)) hb.size); clear ho hb; have k0 := HQ.out.1.1; have k1 := HQ.out.1.2.1; have k2 := HQ.out.1.2.2.1; have k3 := HQ.out.1.2.2.2.1; have k4 := HQ.out.1.2.2.2.2; have f0 := HQ.out.2.1; have f1 := HQ.out.2.2.1; have f2 := HQ.out.2.2.2.1; have f3 := HQ.out.2.2.2.2.1; have f4 := HQ.out.2.2.2.2.2)
      | (go_at_call 154; refine (Sn.sDense_c (HP.out.2.2.2.2.below (show Below w.heap.size w _ by ((repeat (first | refine Below.drew ?_ | (with_reducible refine below_drewN _ ?_) | refine Below.alloc ?_ (by first | omega | (simp; done) | (simp; omega)) _ | refine Below.setCell ?_ (by first | omega | (simp; done) | (simp; omega)) _)); first | exact Below.refl _ _ | assumption | exact below_drewN _ (Below.refl _ _) | exact below_drewN _ (below_drewN _ (Below.refl _ _)))) hB (Nat.le_refl _))).mono ?_; rintro e wq ⟨rfl, rfl⟩)))
  have HB := Lib.hid hb'
  clear q0 q1 q2 q3 k0 k1 k2 k3 k4 f0 f1 f2 f3 f4 hb' hsz
  go_wp2_with fail
  obtain ⟨⟨z0, z1, z2, z3, z4⟩, -⟩ := HQ.out.set (.int .i64 lev) (.slice (some ⟨h, 0, none⟩) pre.length d) (.slice A2 (Sl.keys L).length c2) (.bool (Sl.dense k L)) (.int .u64 (v : Int))
  refine bodyPost_ret (v := shapeV lev (some ⟨h, 0, none⟩) pre.length d A2 (Sl.keys L).length c2 (Sl.dense k L) v) (by simp [results, Tryz.results96, go_sem, z0, z1, z2, z3, z4]) rfl ?_
  have hh : h ≠ w.heap.size := by have := (O1.out.2.lt h rfl).1; omega
  have hA2 : ∀ x, A2 = some x → x.block ≠ w.heap.size := fun x hx => by subst hx; have := (O2.out.lt x.block rfl).1; omega
  have hcap : (Sl.keys L).length ≤ c2 := by
    obtain ⟨A3, c3, hv, hc3, -⟩ := O2.out.rd
    simp only [Value.slice.injEq] at hv
    obtain ⟨-, -, rfl⟩ := hv
    simpa [Sn.intV] using hc3
  have hb := HB.out
  refine ⟨_, _, _, _, _, rfl, ?_, hcap, by ((repeat (first | refine Below.drew ?_ | (with_reducible refine below_drewN _ ?_) | refine Below.alloc ?_ (by first | omega | (simp; done) | (simp; omega)) _ | refine Below.setCell ?_ (by first | omega | (simp; done) | (simp; omega)) _)); first | exact Below.refl _ _ | assumption | exact below_drewN _ (Below.refl _ _) | exact below_drewN _ (below_drewN _ (Below.refl _ _)))⟩
  exact (rdV_set (rdV_set (rdV_set (rdV_set (rdV_set O2.out.rd_at hA2 _) hA2 _) hA2 _) hA2 _) hA2 _).keep (by simp) (fun _ _ => rfl)
end Go.Proofs.YtpgkfccfabnjdaaGreatDoor

/-
  RANK, for RankParts: rows of ints cut; a node's places, searched.
-/
namespace Go.Proofs.YtpgkfccfabnjdaaGreatDoor
open Go.ChangeShapes Go.WideShapes Go.ChangeAt Go.RowKit
open Tr (T S4 Ent)

def IntQ (f : Nat → Option Value) (k : Nat) : Prop := f 0 = some (.int .i64 (k : Int))
theorem rdV_lst {w : World} {R : Nat} {A : Option Addr} {ks : List Nat} (h : RdV w R A (Sn.intV ks)) : Lst 1 IntQ w R A ks := by
  intro hn
  obtain ⟨b, off, hA, hb, hc⟩ := h (by intro e; rw [Sn.intV, List.map_eq_nil_iff] at e; exact hn e)
  refine ⟨b, off, hA, hb, fun i a ha => ?_⟩
  show w.cell? ⟨b, off + i * 1 + 0, none⟩ = _
  rw [Nat.mul_one, Nat.add_zero]
  exact hc i _ (by rw [Sn.intV, List.getElem?_map, ha]; rfl)
theorem lst_rdV {w : World} {R : Nat} {A : Option Addr} {ks : List Nat} (h : Lst 1 IntQ w R A ks) : RdV w R A (Sn.intV ks) := by
  intro hn
  obtain ⟨b, off, hA, hb, hc⟩ := h (by intro e; rw [e] at hn; exact hn rfl)
  refine ⟨b, off, hA, hb, fun i v hv => ?_⟩
  rw [Sn.intV, List.getElem?_map] at hv
  obtain ⟨a, ha, rfl⟩ := Option.map_eq_some_iff.1 hv
  have h2 : w.cell? ⟨b, off + i * 1 + 0, none⟩ = _ := hc i a ha
  rw [Nat.mul_one, Nat.add_zero] at h2
  exact h2
theorem ints_hi (A : Option Addr) (m c i : Nat) (hin : i ≤ m) (hnc : m ≤ c) : ∃ A', (∀ w, (Instr.sliceAt 152 (.slice A m c) none (some (.int .i64 (i : Int))) none).run Tryz.prog w = .ok (.slice A' i c) w) ∧ ∀ (w : World) (R : Nat) (ks : List Nat), ks.length = m → RdV w R A (Sn.intV ks) → RdV w R A' (Sn.intV (ks.take i)) := by
  obtain ⟨A', h1, h2⟩ := lst_hi (α := Nat) (Q := IntQ) 152 3 Tryz.underlying152 Sn.infoI A m c i hin hnc
  exact ⟨A', h1, fun w R ks hk h => lst_rdV (h2 w R ks hk (rdV_lst h))⟩
theorem ints_lo (A : Option Addr) (m c i : Nat) (hin : i ≤ m) (hnc : m ≤ c) : ∃ A', (∀ w, (Instr.sliceAt 152 (.slice A m c) (some (.int .i64 (i : Int))) none none).run Tryz.prog w = .ok (.slice A' (m - i) (c - i)) w) ∧ ∀ (w : World) (R : Nat) (ks : List Nat), ks.length = m → RdV w R A (Sn.intV ks) → RdV w R A' (Sn.intV (ks.drop i)) := by
  obtain ⟨A', h1, h2⟩ := lst_lo (α := Nat) (Q := IntQ) 152 3 Tryz.underlying152 Sn.infoI A m c i hin hnc
  exact ⟨A', h1, fun w R ks hk h => lst_rdV (h2 w R ks hk (rdV_lst h))⟩
theorem keys_kidL (ks : List (Nat × T)) : Sl.keys (kidL ks) = ks.map (·.1) := by simp [Sl.keys, kidL]
theorem shape_cut {w : World} {B k g l : Nat} {pre : List Nat} {ks : List (Nat × T)} (h : Node w B k (.br g l pre ks)) (hB : B ≤ w.heap.size) {n : Nat} (hn : ks.length = n) :
    Calls Tryz.prog 96 #[.pointer (some ⟨g, 0, none⟩)] w fun e w' => ∃ (lev : Int) (A1 : Option Addr) (n1 c1 : Nat) (A2 : Option Addr) (c2 : Nat) (d : Bool) (v : Nat), e = .returned (.agg #[.int .i64 lev, .slice A1 n1 c1, .slice A2 n c2, .bool d, .int .u64 (v : Int)]) ∧ RdV w' w'.heap.size A2 (Sn.intV (ks.map (·.1))) ∧ n ≤ c2 ∧ Below w.heap.size w w' := by
  obtain ⟨wf, hm⟩ := h
  have h1 := wf.k1
  have h16 := wf.k16
  have hl := wf.len
  have hne : (T.br g l pre ks).pre ≠ [] := by intro e; rw [e] at hl; simp at hl; omega
  cases hm with
  | br _ _ _ _ b h ha hk =>
    refine (nShape_br_cap h ha hB hne (by rw [show pre.length = k from hl]; omega) _ rfl).mono ?_
    rintro e w' ⟨A1, n1, c1, A2, c2, he, hr, hc, hb⟩
    rw [keys_kidL] at hr
    rw [keys_kidL, List.length_map, hn] at hc
    exact ⟨_, A1, n1, c1, A2, c2, _, _, by rw [he, keys_kidL, List.length_map, hn], hr, hc, hb⟩
theorem kids_search {w : World} {B : Nat} {A : Option Addr} {c n : Nat} {ks : List (Nat × T)} (hs : Sl.Srt ks) (h : RdV w B A (Sn.intV (ks.map (·.1)))) (hn : ks.length = n) (hl : n ≤ 100000) (a : Nat) {f : Nat} {r : Bool} (hf : Sl.idx ks (a : Int) = f) (hr : Sl.has ks (a : Int) = r) :
    Calls Tryz.prog 122 #[.slice A n c, .int .i64 (a : Int)] w fun e w' => e = .returned (.tuple #[.int .i64 (f : Int), .bool r]) ∧ w = w' := by
  refine (bsearch_c (ks := ks.map (·.1)) (c := c) (by have h5 := hs; unfold Sl.Srt at h5; simpa [List.pairwise_map] using h5) h (by rw [List.length_map]; exact hn) hl (a : Int)).mono ?_
  rintro e w' ⟨i, q, rfl, hi, hch, hq, rfl⟩
  have hif : f = i := by
    rw [← hf]
    refine Sl.idx_uniq ks (a : Int) i (by rw [hn]; exact hi) (fun j p hj hp => (hch j p.1 (by rw [List.getElem?_map, hp]; rfl)).1 hj) (fun p hp => ?_)
    have := (hch i p.1 (by rw [List.getElem?_map, hp]; rfl)).2
    omega
  subst hif
  have hqr : r = q := by
    rw [← hr]
    cases q with
    | true =>
      obtain ⟨u, hu, e⟩ := hq.1 rfl
      rw [List.getElem?_map] at hu
      obtain ⟨p, hp, rfl⟩ := Option.map_eq_some_iff.1 hu
      unfold Sl.has
      rw [← e, Sl.get_of_mem hs (List.mem_of_getElem? hp)]
      rfl
    | false =>
      cases hh : Sl.has ks (a : Int) with
      | false => rfl
      | true =>
        unfold Sl.has at hh
        obtain ⟨t, ht⟩ := Option.isSome_iff_exists.1 hh
        obtain ⟨u, hu, hmem⟩ := Sl.get_mem ks _ _ ht
        have hua : u = a := by omega
        subst hua
        obtain ⟨j, hj⟩ := List.mem_iff_getElem?.1 hmem
        have e1 : Sl.idx ks (u : Int) = j := Sl.idx_of hs hj
        rw [hf] at e1
        subst e1
        have := hq.2 ⟨u, by rw [List.getElem?_map, hj]; rfl, rfl⟩
        cases this
  rw [hqr]
  exact ⟨rfl, rfl⟩
end Go.Proofs.YtpgkfccfabnjdaaGreatDoor

/-
  RANK, for RankParts: step.part. Laid by wip/gen55.py.
-/
namespace Go.Proofs.YtpgkfccfabnjdaaGreatDoor
open Go.ChangeShapes Go.WideShapes Go.ChangeAt Go.RowKit
open Tr (T S4 Ent)

set_option maxRecDepth 1000000 in
set_option maxHeartbeats 4000000 in
theorem part_c {w : World} {B k g l : Nat} {pre : List Nat} {ks : List (Nat × T)} (h : Node w B k (.br g l pre ks)) (hB : B ≤ w.heap.size) (hT : ∀ w', Below w.heap.size w w' → Tz w') {x y : Option T} (hx : NodeO w B k x) (hy : NodeO w B k y) (a : Nat) {f la : Nat} {r : Bool} (hf : Sl.idx ks (a : Int) = f) (hr : Sl.has ks (a : Int) = r) (hla : la = f + (if r = true then 1 else 0)) (hb1 : Tr.Bef (Tr.entsL (ks.take f)) (Tr.entsO x)) (hb2 : Tr.Bef (Tr.entsO y) (Tr.entsL (ks.drop la)))
    (hAll : Tr.entsL ks = Tr.entsL (ks.take f) ++ (Tr.entsO x ++ Tr.entsO y) ++ Tr.entsL (ks.drop la)) (hN : (Tr.entsL ks).length ≤ 100000000) :
    Calls Tryz.prog 60 #[.agg #[.pointer (some ⟨g, 0, none⟩), .int .i64 (a : Int)], .pointer (rootP x), .pointer (rootP y)] w fun e w' => ∃ n1 n2 : Option T, e = .returned (.tuple #[.pointer (rootP n1), .pointer (rootP n2)]) ∧ NodeO w' w'.heap.size k n1 ∧ NodeO w' w'.heap.size k n2 ∧ Tr.entsO n1 = Tr.entsL (ks.take f) ++ Tr.entsO x ∧ Tr.entsO n2 = Tr.entsO y ++ Tr.entsL (ks.drop la) ∧ Below w.heap.size w w' := by
  obtain ⟨n, hn⟩ : ∃ n, ks.length = n := ⟨_, rfl⟩
  obtain ⟨hfit, hsrt⟩ := Tr.kids_fit h.1
  have hn6 : n ≤ 65536 := by
    rw [← hn]
    have h16 := h.1.k16
    have hnd : (ks.map (·.1)).Nodup := List.pairwise_map.2 (List.Pairwise.imp (fun h e => by omega) (show ks.Pairwise fun p q => p.1 < q.1 from hsrt))
    have := nodup_len (B := List.range 65536) hnd fun q hq => by
      obtain ⟨p, hp, rfl⟩ := List.mem_map.1 hq
      obtain ⟨hw, -, -, ha⟩ := hfit p hp
      have hbd := Z.addr_bound p.2.pre l
      rw [ha, hw.len] at hbd
      exact List.mem_range.2 (Nat.lt_of_lt_of_le hbd (Nat.pow_le_pow_right (n := 2) (by omega) h16))
    simpa using this
  have hfn : f ≤ n := by rw [← hf, ← hn]; exact Sl.idx_le _ _
  have hfla : f ≤ la := by rw [hla]; omega
  have hlan : la ≤ n := by
    rw [hla]
    cases r with
    | false => simpa using hfn
    | true =>
      have hh := hr
      unfold Sl.has at hh
      obtain ⟨t, ht⟩ := Option.isSome_iff_exists.1 hh
      obtain ⟨u, hu, hmem⟩ := Sl.get_mem ks _ _ ht
      have hua : u = a := by omega
      subst hua
      obtain ⟨j, hj⟩ := List.mem_iff_getElem?.1 hmem
      have e1 : Sl.idx ks (u : Int) = j := Sl.idx_of hsrt hj
      rw [hf] at e1
      have := (List.getElem?_eq_some_iff.1 hj).1
      simp only [if_true]
      omega
  have hal := below_alloc w (.cells #[.pointer (some ⟨g, 0, none⟩), .int .i64 (a : Int)] 100)
  have hbox := heap_at w (.cells #[.pointer (some ⟨g, 0, none⟩), .int .i64 (a : Int)] 100) _ rfl
  have HSh := Lib.hid (shape_cut (h.below hal hB (Nat.le_refl _)) (Nat.le_trans hB hal.size) hn)
  have HX := Lib.hid (And.intro h (And.intro hB (And.intro hT (And.intro hx (And.intro hy (And.intro hb1 (And.intro hb2 (And.intro hAll (And.intro hN (And.intro hn (And.intro hsrt (And.intro hf (And.intro hr hla)))))))))))))
  have HW0 := Lib.hid (And.intro hal hbox)
  have hn9 : (n : Int) ≤ 65536 := by omega
  have hf9 : (f : Int) ≤ (n : Int) := by omega
  have hl9 : (la : Int) ≤ (n : Int) := by omega
  have c0 : (w.alloc (.cells #[.pointer (some ⟨g, 0, none⟩), .int .i64 (a : Int)] 100)).cell? ⟨w.heap.size, 0, none⟩ = some (.pointer (some ⟨g, 0, none⟩)) := by rw [cell_of_row _ _ _ _ _ (0, 0) hbox]; rfl
  have hLa : (f : Int) + 1 ≤ 65537 := by omega
  have hrl : (r = true ∧ (f : Int) + 1 = (la : Int)) ∨ (r = false ∧ la = f) := by
    cases r with
    | true => left; refine ⟨rfl, ?_⟩; rw [hla]; simp
    | false => right; refine ⟨rfl, ?_⟩; rw [hla]; simp
  have HRL := Lib.hid hrl
  have HN6 := Lib.hid (And.intro hn6 (And.intro hfn (And.intro hfla hlan)))
  clear h hB hT hx hy hb1 hb2 hAll hN hn hsrt hf hr hla hal hbox hfit hn6 hfn hfla hlan hrl
  obtain ⟨px, hpx⟩ : ∃ q, rootP x = q := ⟨_, rfl⟩
  obtain ⟨py, hpy⟩ : ∃ q, rootP y = q := ⟨_, rfl⟩
  have HPP := Lib.hid (And.intro hpx hpy)
  rw [hpx, hpy]
  clear hpx hpy
  have hfld := shape_places
  go_enter Tryz.func60, Tryz.ntmps60
  go_wp2_with fail
  refine HSh.out.mono ?_
  rintro e W ⟨lev, A1, n1, c1, A2, c2, dd, vv, rfl, hrd, hcap, hbW⟩
  have hblk := (hbW.block w.heap.size (by simp)).trans HW0.out.2
  have q0 : ∀ w', Below W.heap.size W w' → w'.cell? ⟨w.heap.size, 0, none⟩ = some (.pointer (some ⟨g, 0, none⟩)) := fun w' hb => by rw [cell_of_row w' _ _ _ _ (0, 0) ((hb.block _ (Array.getElem?_eq_some_iff.1 hblk).1).trans hblk)]; rfl
  have q1 : W.cell? ⟨w.heap.size, 1, none⟩ = some (.int .i64 (a : Int)) := by rw [cell_of_row W _ _ _ _ (0, 0) hblk]; rfl
  have hbWw := Below.andThen HW0.out.1 hbW
  have HBs := Lib.hid (kids_search (c := c2) HX.out.2.2.2.2.2.2.2.2.2.2.1 hrd HX.out.2.2.2.2.2.2.2.2.2.1 (by have := HN6.out.1; omega) a HX.out.2.2.2.2.2.2.2.2.2.2.2.1 HX.out.2.2.2.2.2.2.2.2.2.2.2.2.1)
  obtain ⟨Ah1, i1, j1⟩ := ints_hi A2 n c2 f HN6.out.2.1 hcap
  obtain ⟨Al1, i2, j2⟩ := ints_lo A2 n c2 f HN6.out.2.1 hcap
  obtain ⟨Ah2, i3, j3⟩ := ints_hi A2 n c2 la HN6.out.2.2.2 hcap
  obtain ⟨Al2, i4, j4⟩ := ints_lo A2 n c2 la HN6.out.2.2.2 hcap
  have hml : (ks.map (·.1)).length = n := by rw [List.length_map]; exact HX.out.2.2.2.2.2.2.2.2.2.1
  have HP : Hid (∀ w', Below W.heap.size W w' → Calls Tryz.prog 123 #[.pointer (some ⟨g, 0, none⟩), .slice Ah1 f c2, .slice Al1 (n - f) (c2 - f)] w' fun e w'' => ∃ n : Option T, e = .returned (.pointer (rootP n)) ∧ NodeO w'' w''.heap.size k n ∧ Tr.entsO n = Tr.entsL (ks.take f) ∧ Below w'.heap.size w' w'') := Lib.hid fun w' hb => by
    have hbb := Below.andThen hbWw hb
    have r1 := (j1 W _ _ hml hrd).keep (w' := w') (Nat.le_refl _) (fun p hp => hb.cell hp)
    have r2 := (j2 W _ _ hml hrd).keep (w' := w') (Nat.le_refl _) (fun p hp => hb.cell hp)
    rw [← List.map_take] at r1
    rw [← List.map_drop] at r2
    exact onlyPre_c (HX.out.1.below hbb HX.out.2.1 (Nat.le_refl _)) (Nat.le_trans HX.out.2.1 hbb.size) (fun w3 h3 => HX.out.2.2.1 w3 (hbb.trans (h3.mono hbb.size))) r1 r2 hb.size (by rw [List.length_take, HX.out.2.2.2.2.2.2.2.2.2.1]; have := HN6.out.2.1; omega) (by rw [List.length_drop, HX.out.2.2.2.2.2.2.2.2.2.1]) (by rw [HX.out.2.2.2.2.2.2.2.2.2.1]; exact HN6.out.1) (by rw [Tr.ents_br]; exact HX.out.2.2.2.2.2.2.2.2.1)
  have HS : Hid (∀ w', Below W.heap.size W w' → Calls Tryz.prog 123 #[.pointer (some ⟨g, 0, none⟩), .slice Al2 (n - la) (c2 - la), .slice Ah2 la c2] w' fun e w'' => ∃ n : Option T, e = .returned (.pointer (rootP n)) ∧ NodeO w'' w''.heap.size k n ∧ Tr.entsO n = Tr.entsL (ks.drop la) ∧ Below w'.heap.size w' w'') := Lib.hid fun w' hb => by
    have hbb := Below.andThen hbWw hb
    have r1 := (j4 W _ _ hml hrd).keep (w' := w') (Nat.le_refl _) (fun p hp => hb.cell hp)
    have r2 := (j3 W _ _ hml hrd).keep (w' := w') (Nat.le_refl _) (fun p hp => hb.cell hp)
    rw [← List.map_drop] at r1
    rw [← List.map_take] at r2
    exact onlySuf_c (HX.out.1.below hbb HX.out.2.1 (Nat.le_refl _)) (Nat.le_trans HX.out.2.1 hbb.size) (fun w3 h3 => HX.out.2.2.1 w3 (hbb.trans (h3.mono hbb.size))) r1 r2 hb.size (by rw [List.length_drop, HX.out.2.2.2.2.2.2.2.2.2.1]) (by rw [List.length_take, HX.out.2.2.2.2.2.2.2.2.2.1]; have := HN6.out.2.2.2; omega) (by rw [HX.out.2.2.2.2.2.2.2.2.2.1]; exact HN6.out.1) (by rw [Tr.ents_br]; exact HX.out.2.2.2.2.2.2.2.2.1)
  have HBW := Lib.hid hbWw
  have q00 := q0 W (Below.refl _ _)
  clear hrd hbW hblk hbWw hml j1 j2 j3 j4 HSh c0
  go_wp2_with fail
  refine HBs.out.mono ?_
  rintro e w' ⟨rfl, rfl⟩
  clear HBs q1
  go_upto_if 26 with fail
  go_cut [11] from 27 (fun v wx => v = Value.int .i64 (la : Int) ∧ wx = W)
  case first =>
    have hrl := HRL.out
    clear HRL
    cases r with
    | true =>
      have hh : (f : Int) + 1 = (la : Int) := by rcases hrl with ⟨_, h⟩ | ⟨h, _⟩; exact h; cases h
      clear hrl
      go_wp2_with fail
      go_meet
      exact ⟨by rw [← hh], rfl⟩
    | false =>
      have hh : la = f := by rcases hrl with ⟨h, _⟩ | ⟨_, h⟩; cases h; exact h
      clear hrl
      go_wp2_with fail
      go_meet
      exact ⟨by rw [hh], rfl⟩
  case rest =>
  obtain ⟨rfl, hwc⟩ := hcut
  rw [hwc]
  clear hwc HRL
  cases y with
  | none =>
    have hpy : py = none := HPP.out.2.symm
    subst hpy
    by_cases hln : la = n
    · have e1 : ((la : Int) == (n : Int)) = true := by rw [beq_iff_eq]; omega
      have HLN := Lib.hid hln
      clear hln HP HS q0 i1 i2 i3 i4
      go_wp2_with fail
      go_ret2
      refine ⟨some (.br g l pre ks), none, rfl, fun t e => by cases e; exact HX.out.1.below HBW.out HX.out.2.1 (Nat.le_trans HX.out.2.1 HBW.out.size), NodeO.none _ _ _, ?_, ?_, HBW.out⟩
      · have hA := HX.out.2.2.2.2.2.2.2.1
        rw [show ks.drop la = [] by rw [HLN.out, ← HX.out.2.2.2.2.2.2.2.2.2.1, List.drop_length], Tr.entsL_nil, List.append_nil, show (Tr.entsO (none : Option T)) = [] from rfl, List.append_nil] at hA
        show (T.br g l pre ks).ents = _
        rw [Tr.ents_br]
        exact hA
      · rw [show ks.drop la = [] by rw [HLN.out, ← HX.out.2.2.2.2.2.2.2.2.2.1, List.drop_length]]
        rfl
    · have e1 : ((la : Int) == (n : Int)) = false := by rw [beq_eq_false_iff_ne]; omega
      clear hln
      cases x with
      | none =>
        have hpx : px = none := HPP.out.1.symm
        subst hpx
        by_cases hf0 : f = 0
        · have e2 : ((f : Int) == 0) = true := by rw [beq_iff_eq]; omega
          have HF0 := Lib.hid hf0
          clear hf0 HP HS q0 i1 i2 i3 i4
          go_wp2_with fail
          go_quiet (fail)
          go_wp2_with fail
          go_ret2
          refine ⟨none, some (.br g l pre ks), rfl, NodeO.none _ _ _, fun t e => by cases e; exact (HX.out.1.below HBW.out HX.out.2.1 (Nat.le_trans HX.out.2.1 HBW.out.size)).below (by first | exact Below.refl _ _ | exact below_drewN _ (Below.refl _ _)) (Nat.le_refl _) (by first | exact Nat.le_refl _ | (simp; done)), ?_, ?_, by first | exact HBW.out | exact below_drewN _ HBW.out⟩
          · rw [HF0.out]
            rfl
          · have hA := HX.out.2.2.2.2.2.2.2.1
            rw [HF0.out, List.take_zero, Tr.entsL_nil, List.nil_append, show (Tr.entsO (none : Option T)) = [] from rfl, List.nil_append] at hA
            show (T.br g l pre ks).ents = _
            rw [Tr.ents_br]
            exact hA
        · have e2 : ((f : Int) == 0) = false := by rw [beq_eq_false_iff_ne]; omega
          clear hf0
          go_wp2_with fail
          go_region_held3 (fun w' => Below W.heap.size W w') (((repeat (first | refine Below.drew ?_ | (with_reducible refine below_drewN _ ?_) | refine Below.alloc ?_ (by first | omega | (simp; done) | (simp; omega)) _ | refine Below.setCell ?_ (by first | omega | (simp; done) | (simp; omega)) _)); first | exact Below.refl _ _ | assumption | exact below_drewN _ (Below.refl _ _) | exact below_drewN _ (below_drewN _ (Below.refl _ _))))
            ((go_at_call 123; refine (HP.out _ (show Below W.heap.size W _ by ((repeat (first | refine Below.drew ?_ | (with_reducible refine below_drewN _ ?_) | refine Below.alloc ?_ (by first | omega | (simp; done) | (simp; omega)) _ | refine Below.setCell ?_ (by first | omega | (simp; done) | (simp; omega)) _)); first | exact Below.refl _ _ | assumption | exact below_drewN _ (Below.refl _ _) | exact below_drewN _ (below_drewN _ (Below.refl _ _))))).mono ?_; rintro e w3 ⟨n1, rfl, g1, g2, g3⟩; have hbD := Below.trans (show Below W.heap.size W _ by ((repeat (first | refine Below.drew ?_ | (with_reducible refine below_drewN _ ?_) | refine Below.alloc ?_ (by first | omega | (simp; done) | (simp; omega)) _ | refine Below.setCell ?_ (by first | omega | (simp; done) | (simp; omega)) _)); first | exact Below.refl _ _ | assumption | exact below_drewN _ (Below.refl _ _) | exact below_drewN _ (below_drewN _ (Below.refl _ _)))) (g3.mono (Below.size (show Below W.heap.size W _ by ((repeat (first | refine Below.drew ?_ | (with_reducible refine below_drewN _ ?_) | refine Below.alloc ?_ (by first | omega | (simp; done) | (simp; omega)) _ | refine Below.setCell ?_ (by first | omega | (simp; done) | (simp; omega)) _)); first | exact Below.refl _ _ | assumption | exact below_drewN _ (Below.refl _ _) | exact below_drewN _ (below_drewN _ (Below.refl _ _)))))); have H3 := Lib.hid (And.intro g1 g2); clear g1 g2 g3))
          clear HP
          have HB3 := Lib.hid hbD
          obtain ⟨p1, hp1⟩ : ∃ q, rootP n1 = q := ⟨_, rfl⟩
          have HP1 := Lib.hid hp1
          rw [hp1]
          clear hp1
          have q3 : ∀ w', Below w3.heap.size w3 w' → w'.cell? ⟨w.heap.size, 0, none⟩ = some (.pointer (some ⟨g, 0, none⟩)) := fun w' hb => q0 w' (Below.andThen HB3.out hb)
          have HS3 : Hid (∀ w', Below w3.heap.size w3 w' → Calls Tryz.prog 123 #[.pointer (some ⟨g, 0, none⟩), .slice Al2 (n - la) (c2 - la), .slice Ah2 la c2] w' fun e w'' => ∃ n : Option T, e = .returned (.pointer (rootP n)) ∧ NodeO w'' w''.heap.size k n ∧ Tr.entsO n = Tr.entsL (ks.drop la) ∧ Below w'.heap.size w' w'') := Lib.hid fun w' hb => HS.out w' (Below.andThen HB3.out hb)
          have hb30 := Below.refl w3.heap.size w3
          clear hbD q0 HS q00
          go_wp2_with fail
          go_region_held3 (fun w' => Below w3.heap.size w3 w') (((repeat (first | refine Below.drew ?_ | (with_reducible refine below_drewN _ ?_) | refine Below.alloc ?_ (by first | omega | (simp; done) | (simp; omega)) _ | refine Below.setCell ?_ (by first | omega | (simp; done) | (simp; omega)) _)); first | exact Below.refl _ _ | assumption | exact below_drewN _ (Below.refl _ _) | exact below_drewN _ (below_drewN _ (Below.refl _ _))))
            ((go_at_call 123; refine (HS3.out _ (show Below w3.heap.size w3 _ by ((repeat (first | refine Below.drew ?_ | (with_reducible refine below_drewN _ ?_) | refine Below.alloc ?_ (by first | omega | (simp; done) | (simp; omega)) _ | refine Below.setCell ?_ (by first | omega | (simp; done) | (simp; omega)) _)); first | exact Below.refl _ _ | assumption | exact below_drewN _ (Below.refl _ _) | exact below_drewN _ (below_drewN _ (Below.refl _ _))))).mono ?_; rintro e w4 ⟨n2, rfl, g1, g2, g3⟩; have hbE := Below.trans (show Below w3.heap.size w3 _ by ((repeat (first | refine Below.drew ?_ | (with_reducible refine below_drewN _ ?_) | refine Below.alloc ?_ (by first | omega | (simp; done) | (simp; omega)) _ | refine Below.setCell ?_ (by first | omega | (simp; done) | (simp; omega)) _)); first | exact Below.refl _ _ | assumption | exact below_drewN _ (Below.refl _ _) | exact below_drewN _ (below_drewN _ (Below.refl _ _)))) (g3.mono (Below.size (show Below w3.heap.size w3 _ by ((repeat (first | refine Below.drew ?_ | (with_reducible refine below_drewN _ ?_) | refine Below.alloc ?_ (by first | omega | (simp; done) | (simp; omega)) _ | refine Below.setCell ?_ (by first | omega | (simp; done) | (simp; omega)) _)); first | exact Below.refl _ _ | assumption | exact below_drewN _ (Below.refl _ _) | exact below_drewN _ (below_drewN _ (Below.refl _ _)))))); have H4 := Lib.hid (And.intro g1 g2); clear g1 g2 g3))
          clear HS3
          have HB4 := Lib.hid hbE
          obtain ⟨p2, hp2⟩ : ∃ q, rootP n2 = q := ⟨_, rfl⟩
          have HP2 := Lib.hid hp2
          rw [hp2]
          clear hp2 hbE q3 hb30
          have hbw4 := Below.andThen HBW.out (Below.andThen HB3.out HB4.out)
          have hlens : (Tr.entsL (ks.take f)).length + (Tr.entsO none).length + (Tr.entsO none).length + (Tr.entsL (ks.drop la)).length ≤ 100000000 := by
            have h1 := HX.out.2.2.2.2.2.2.2.2.1
            rw [HX.out.2.2.2.2.2.2.2.1, List.length_append, List.length_append, List.length_append] at h1
            omega
          have HJ : Hid (Calls Tryz.prog 67 #[.pointer p1, .pointer none] w4 fun e w' => ∃ n : Option T, e = .returned (.pointer (rootP n)) ∧ NodeO w' w'.heap.size k n ∧ Tr.entsO n = Tr.entsL (ks.take f) ++ Tr.entsO none ∧ Below w4.heap.size w4 w') := Lib.hid (by
            have hj := joinO_c (w := w4) (B := w4.heap.size) (a := n1) (b := none) (H3.out.1.below HB4.out (Nat.le_refl _) HB4.out.size) (HX.out.2.2.2.1.below hbw4 HX.out.2.1 (Nat.le_trans HX.out.2.1 hbw4.size)) (Nat.le_refl _) (fun w' h => HX.out.2.2.1 w' (hbw4.trans (h.mono hbw4.size))) (by rw [H3.out.2]; exact HX.out.2.2.2.2.2.1) (by rw [H3.out.2]; omega)
            rw [HP1.out, H3.out.2] at hj
            exact hj)
          have HJ2 : Hid (∀ w5, Below w4.heap.size w4 w5 → Calls Tryz.prog 67 #[.pointer none, .pointer p2] w5 fun e w' => ∃ n : Option T, e = .returned (.pointer (rootP n)) ∧ NodeO w' w'.heap.size k n ∧ Tr.entsO n = Tr.entsO none ++ Tr.entsL (ks.drop la) ∧ Below w5.heap.size w5 w') := Lib.hid fun w5 h5 => by
            have hbw5 := Below.andThen hbw4 h5
            have hj := joinO_c (w := w5) (B := w5.heap.size) (a := none) (b := n2) (HX.out.2.2.2.2.1.below hbw5 HX.out.2.1 (Nat.le_trans HX.out.2.1 hbw5.size)) (H4.out.1.below h5 (Nat.le_refl _) h5.size) (Nat.le_refl _) (fun w' h => HX.out.2.2.1 w' (hbw5.trans (h.mono hbw5.size))) (by rw [H4.out.2]; exact HX.out.2.2.2.2.2.2.1) (by rw [H4.out.2]; omega)
            rw [HP2.out, H4.out.2] at hj
            exact hj
          have HBw4 := Lib.hid hbw4
          clear hbw4 hlens
          go_wp2_with fail
          refine HJ.out.mono ?_
          rintro e w5 ⟨m1, rfl, g1, g2, g3⟩
          have H5 := Lib.hid (And.intro g1 (And.intro g2 g3))
          clear g1 g2 g3 HJ
          go_wp2_with fail
          refine (HJ2.out w5 H5.out.2.2).mono ?_
          rintro e w6 ⟨m2, rfl, g1, g2, g3⟩
          have H6 := Lib.hid (And.intro g1 (And.intro g2 g3))
          clear g1 g2 g3 HJ2
          go_wp2_with fail
          go_ret2
          exact ⟨m1, m2, rfl, H5.out.1.below H6.out.2.2 (Nat.le_refl _) H6.out.2.2.size, H6.out.1, H5.out.2.1, H6.out.2.1, Below.andThen HBw4.out (Below.andThen H5.out.2.2 H6.out.2.2)⟩
      | some sx =>
        have hpx : px = some ⟨sx.blk, 0, none⟩ := HPP.out.1.symm
        subst hpx
        go_wp2_with fail
        go_region_held3 (fun w' => Below W.heap.size W w') (((repeat (first | refine Below.drew ?_ | (with_reducible refine below_drewN _ ?_) | refine Below.alloc ?_ (by first | omega | (simp; done) | (simp; omega)) _ | refine Below.setCell ?_ (by first | omega | (simp; done) | (simp; omega)) _)); first | exact Below.refl _ _ | assumption | exact below_drewN _ (Below.refl _ _) | exact below_drewN _ (below_drewN _ (Below.refl _ _))))
          ((go_at_call 123; refine (HP.out _ (show Below W.heap.size W _ by ((repeat (first | refine Below.drew ?_ | (with_reducible refine below_drewN _ ?_) | refine Below.alloc ?_ (by first | omega | (simp; done) | (simp; omega)) _ | refine Below.setCell ?_ (by first | omega | (simp; done) | (simp; omega)) _)); first | exact Below.refl _ _ | assumption | exact below_drewN _ (Below.refl _ _) | exact below_drewN _ (below_drewN _ (Below.refl _ _))))).mono ?_; rintro e w3 ⟨n1, rfl, g1, g2, g3⟩; have hbD := Below.trans (show Below W.heap.size W _ by ((repeat (first | refine Below.drew ?_ | (with_reducible refine below_drewN _ ?_) | refine Below.alloc ?_ (by first | omega | (simp; done) | (simp; omega)) _ | refine Below.setCell ?_ (by first | omega | (simp; done) | (simp; omega)) _)); first | exact Below.refl _ _ | assumption | exact below_drewN _ (Below.refl _ _) | exact below_drewN _ (below_drewN _ (Below.refl _ _)))) (g3.mono (Below.size (show Below W.heap.size W _ by ((repeat (first | refine Below.drew ?_ | (with_reducible refine below_drewN _ ?_) | refine Below.alloc ?_ (by first | omega | (simp; done) | (simp; omega)) _ | refine Below.setCell ?_ (by first | omega | (simp; done) | (simp; omega)) _)); first | exact Below.refl _ _ | assumption | exact below_drewN _ (Below.refl _ _) | exact below_drewN _ (below_drewN _ (Below.refl _ _)))))); have H3 := Lib.hid (And.intro g1 g2); clear g1 g2 g3))
        clear HP
        have HB3 := Lib.hid hbD
        obtain ⟨p1, hp1⟩ : ∃ q, rootP n1 = q := ⟨_, rfl⟩
        have HP1 := Lib.hid hp1
        rw [hp1]
        clear hp1
        have q3 : ∀ w', Below w3.heap.size w3 w' → w'.cell? ⟨w.heap.size, 0, none⟩ = some (.pointer (some ⟨g, 0, none⟩)) := fun w' hb => q0 w' (Below.andThen HB3.out hb)
        have HS3 : Hid (∀ w', Below w3.heap.size w3 w' → Calls Tryz.prog 123 #[.pointer (some ⟨g, 0, none⟩), .slice Al2 (n - la) (c2 - la), .slice Ah2 la c2] w' fun e w'' => ∃ n : Option T, e = .returned (.pointer (rootP n)) ∧ NodeO w'' w''.heap.size k n ∧ Tr.entsO n = Tr.entsL (ks.drop la) ∧ Below w'.heap.size w' w'') := Lib.hid fun w' hb => HS.out w' (Below.andThen HB3.out hb)
        have hb30 := Below.refl w3.heap.size w3
        clear hbD q0 HS q00
        go_wp2_with fail
        go_region_held3 (fun w' => Below w3.heap.size w3 w') (((repeat (first | refine Below.drew ?_ | (with_reducible refine below_drewN _ ?_) | refine Below.alloc ?_ (by first | omega | (simp; done) | (simp; omega)) _ | refine Below.setCell ?_ (by first | omega | (simp; done) | (simp; omega)) _)); first | exact Below.refl _ _ | assumption | exact below_drewN _ (Below.refl _ _) | exact below_drewN _ (below_drewN _ (Below.refl _ _))))
          ((go_at_call 123; refine (HS3.out _ (show Below w3.heap.size w3 _ by ((repeat (first | refine Below.drew ?_ | (with_reducible refine below_drewN _ ?_) | refine Below.alloc ?_ (by first | omega | (simp; done) | (simp; omega)) _ | refine Below.setCell ?_ (by first | omega | (simp; done) | (simp; omega)) _)); first | exact Below.refl _ _ | assumption | exact below_drewN _ (Below.refl _ _) | exact below_drewN _ (below_drewN _ (Below.refl _ _))))).mono ?_; rintro e w4 ⟨n2, rfl, g1, g2, g3⟩; have hbE := Below.trans (show Below w3.heap.size w3 _ by ((repeat (first | refine Below.drew ?_ | (with_reducible refine below_drewN _ ?_) | refine Below.alloc ?_ (by first | omega | (simp; done) | (simp; omega)) _ | refine Below.setCell ?_ (by first | omega | (simp; done) | (simp; omega)) _)); first | exact Below.refl _ _ | assumption | exact below_drewN _ (Below.refl _ _) | exact below_drewN _ (below_drewN _ (Below.refl _ _)))) (g3.mono (Below.size (show Below w3.heap.size w3 _ by ((repeat (first | refine Below.drew ?_ | (with_reducible refine below_drewN _ ?_) | refine Below.alloc ?_ (by first | omega | (simp; done) | (simp; omega)) _ | refine Below.setCell ?_ (by first | omega | (simp; done) | (simp; omega)) _)); first | exact Below.refl _ _ | assumption | exact below_drewN _ (Below.refl _ _) | exact below_drewN _ (below_drewN _ (Below.refl _ _)))))); have H4 := Lib.hid (And.intro g1 g2); clear g1 g2 g3))
        clear HS3
        have HB4 := Lib.hid hbE
        obtain ⟨p2, hp2⟩ : ∃ q, rootP n2 = q := ⟨_, rfl⟩
        have HP2 := Lib.hid hp2
        rw [hp2]
        clear hp2 hbE q3 hb30
        have hbw4 := Below.andThen HBW.out (Below.andThen HB3.out HB4.out)
        have hlens : (Tr.entsL (ks.take f)).length + (Tr.entsO (some sx)).length + (Tr.entsO none).length + (Tr.entsL (ks.drop la)).length ≤ 100000000 := by
          have h1 := HX.out.2.2.2.2.2.2.2.2.1
          rw [HX.out.2.2.2.2.2.2.2.1, List.length_append, List.length_append, List.length_append] at h1
          omega
        have HJ : Hid (Calls Tryz.prog 67 #[.pointer p1, .pointer (some ⟨sx.blk, 0, none⟩)] w4 fun e w' => ∃ n : Option T, e = .returned (.pointer (rootP n)) ∧ NodeO w' w'.heap.size k n ∧ Tr.entsO n = Tr.entsL (ks.take f) ++ Tr.entsO (some sx) ∧ Below w4.heap.size w4 w') := Lib.hid (by
          have hj := joinO_c (w := w4) (B := w4.heap.size) (a := n1) (b := (some sx)) (H3.out.1.below HB4.out (Nat.le_refl _) HB4.out.size) (HX.out.2.2.2.1.below hbw4 HX.out.2.1 (Nat.le_trans HX.out.2.1 hbw4.size)) (Nat.le_refl _) (fun w' h => HX.out.2.2.1 w' (hbw4.trans (h.mono hbw4.size))) (by rw [H3.out.2]; exact HX.out.2.2.2.2.2.1) (by rw [H3.out.2]; omega)
          rw [HP1.out, H3.out.2] at hj
          exact hj)
        have HJ2 : Hid (∀ w5, Below w4.heap.size w4 w5 → Calls Tryz.prog 67 #[.pointer none, .pointer p2] w5 fun e w' => ∃ n : Option T, e = .returned (.pointer (rootP n)) ∧ NodeO w' w'.heap.size k n ∧ Tr.entsO n = Tr.entsO none ++ Tr.entsL (ks.drop la) ∧ Below w5.heap.size w5 w') := Lib.hid fun w5 h5 => by
          have hbw5 := Below.andThen hbw4 h5
          have hj := joinO_c (w := w5) (B := w5.heap.size) (a := none) (b := n2) (HX.out.2.2.2.2.1.below hbw5 HX.out.2.1 (Nat.le_trans HX.out.2.1 hbw5.size)) (H4.out.1.below h5 (Nat.le_refl _) h5.size) (Nat.le_refl _) (fun w' h => HX.out.2.2.1 w' (hbw5.trans (h.mono hbw5.size))) (by rw [H4.out.2]; exact HX.out.2.2.2.2.2.2.1) (by rw [H4.out.2]; omega)
          rw [HP2.out, H4.out.2] at hj
          exact hj
        have HBw4 := Lib.hid hbw4
        clear hbw4 hlens
        go_wp2_with fail
        refine HJ.out.mono ?_
        rintro e w5 ⟨m1, rfl, g1, g2, g3⟩
        have H5 := Lib.hid (And.intro g1 (And.intro g2 g3))
        clear g1 g2 g3 HJ
        go_wp2_with fail
        refine (HJ2.out w5 H5.out.2.2).mono ?_
        rintro e w6 ⟨m2, rfl, g1, g2, g3⟩
        have H6 := Lib.hid (And.intro g1 (And.intro g2 g3))
        clear g1 g2 g3 HJ2
        go_wp2_with fail
        go_ret2
        exact ⟨m1, m2, rfl, H5.out.1.below H6.out.2.2 (Nat.le_refl _) H6.out.2.2.size, H6.out.1, H5.out.2.1, H6.out.2.1, Below.andThen HBw4.out (Below.andThen H5.out.2.2 H6.out.2.2)⟩
  | some sy =>
    have hpy : py = some ⟨sy.blk, 0, none⟩ := HPP.out.2.symm
    subst hpy
    cases x with
    | none =>
      have hpx : px = none := HPP.out.1.symm
      subst hpx
      by_cases hf0 : f = 0
      · have e2 : ((f : Int) == 0) = true := by rw [beq_iff_eq]; omega
        have HF0 := Lib.hid hf0
        clear hf0 HP HS q0 i1 i2 i3 i4
        go_wp2_with fail
        go_quiet (fail)
        go_wp2_with fail
        go_ret2
        refine ⟨none, some (.br g l pre ks), rfl, NodeO.none _ _ _, fun t e => by cases e; exact (HX.out.1.below HBW.out HX.out.2.1 (Nat.le_trans HX.out.2.1 HBW.out.size)).below (by first | exact Below.refl _ _ | exact below_drewN _ (Below.refl _ _)) (Nat.le_refl _) (by first | exact Nat.le_refl _ | (simp; done)), ?_, ?_, by first | exact HBW.out | exact below_drewN _ HBW.out⟩
        · rw [HF0.out]
          rfl
        · have hA := HX.out.2.2.2.2.2.2.2.1
          rw [HF0.out, List.take_zero, Tr.entsL_nil, List.nil_append, show (Tr.entsO (none : Option T)) = [] from rfl, List.nil_append] at hA
          show (T.br g l pre ks).ents = _
          rw [Tr.ents_br]
          exact hA
      · have e2 : ((f : Int) == 0) = false := by rw [beq_eq_false_iff_ne]; omega
        clear hf0
        go_wp2_with fail
        go_region_held3 (fun w' => Below W.heap.size W w') (((repeat (first | refine Below.drew ?_ | (with_reducible refine below_drewN _ ?_) | refine Below.alloc ?_ (by first | omega | (simp; done) | (simp; omega)) _ | refine Below.setCell ?_ (by first | omega | (simp; done) | (simp; omega)) _)); first | exact Below.refl _ _ | assumption | exact below_drewN _ (Below.refl _ _) | exact below_drewN _ (below_drewN _ (Below.refl _ _))))
          ((go_at_call 123; refine (HP.out _ (show Below W.heap.size W _ by ((repeat (first | refine Below.drew ?_ | (with_reducible refine below_drewN _ ?_) | refine Below.alloc ?_ (by first | omega | (simp; done) | (simp; omega)) _ | refine Below.setCell ?_ (by first | omega | (simp; done) | (simp; omega)) _)); first | exact Below.refl _ _ | assumption | exact below_drewN _ (Below.refl _ _) | exact below_drewN _ (below_drewN _ (Below.refl _ _))))).mono ?_; rintro e w3 ⟨n1, rfl, g1, g2, g3⟩; have hbD := Below.trans (show Below W.heap.size W _ by ((repeat (first | refine Below.drew ?_ | (with_reducible refine below_drewN _ ?_) | refine Below.alloc ?_ (by first | omega | (simp; done) | (simp; omega)) _ | refine Below.setCell ?_ (by first | omega | (simp; done) | (simp; omega)) _)); first | exact Below.refl _ _ | assumption | exact below_drewN _ (Below.refl _ _) | exact below_drewN _ (below_drewN _ (Below.refl _ _)))) (g3.mono (Below.size (show Below W.heap.size W _ by ((repeat (first | refine Below.drew ?_ | (with_reducible refine below_drewN _ ?_) | refine Below.alloc ?_ (by first | omega | (simp; done) | (simp; omega)) _ | refine Below.setCell ?_ (by first | omega | (simp; done) | (simp; omega)) _)); first | exact Below.refl _ _ | assumption | exact below_drewN _ (Below.refl _ _) | exact below_drewN _ (below_drewN _ (Below.refl _ _)))))); have H3 := Lib.hid (And.intro g1 g2); clear g1 g2 g3))
        clear HP
        have HB3 := Lib.hid hbD
        obtain ⟨p1, hp1⟩ : ∃ q, rootP n1 = q := ⟨_, rfl⟩
        have HP1 := Lib.hid hp1
        rw [hp1]
        clear hp1
        have q3 : ∀ w', Below w3.heap.size w3 w' → w'.cell? ⟨w.heap.size, 0, none⟩ = some (.pointer (some ⟨g, 0, none⟩)) := fun w' hb => q0 w' (Below.andThen HB3.out hb)
        have HS3 : Hid (∀ w', Below w3.heap.size w3 w' → Calls Tryz.prog 123 #[.pointer (some ⟨g, 0, none⟩), .slice Al2 (n - la) (c2 - la), .slice Ah2 la c2] w' fun e w'' => ∃ n : Option T, e = .returned (.pointer (rootP n)) ∧ NodeO w'' w''.heap.size k n ∧ Tr.entsO n = Tr.entsL (ks.drop la) ∧ Below w'.heap.size w' w'') := Lib.hid fun w' hb => HS.out w' (Below.andThen HB3.out hb)
        have hb30 := Below.refl w3.heap.size w3
        clear hbD q0 HS q00
        go_wp2_with fail
        go_region_held3 (fun w' => Below w3.heap.size w3 w') (((repeat (first | refine Below.drew ?_ | (with_reducible refine below_drewN _ ?_) | refine Below.alloc ?_ (by first | omega | (simp; done) | (simp; omega)) _ | refine Below.setCell ?_ (by first | omega | (simp; done) | (simp; omega)) _)); first | exact Below.refl _ _ | assumption | exact below_drewN _ (Below.refl _ _) | exact below_drewN _ (below_drewN _ (Below.refl _ _))))
          ((go_at_call 123; refine (HS3.out _ (show Below w3.heap.size w3 _ by ((repeat (first | refine Below.drew ?_ | (with_reducible refine below_drewN _ ?_) | refine Below.alloc ?_ (by first | omega | (simp; done) | (simp; omega)) _ | refine Below.setCell ?_ (by first | omega | (simp; done) | (simp; omega)) _)); first | exact Below.refl _ _ | assumption | exact below_drewN _ (Below.refl _ _) | exact below_drewN _ (below_drewN _ (Below.refl _ _))))).mono ?_; rintro e w4 ⟨n2, rfl, g1, g2, g3⟩; have hbE := Below.trans (show Below w3.heap.size w3 _ by ((repeat (first | refine Below.drew ?_ | (with_reducible refine below_drewN _ ?_) | refine Below.alloc ?_ (by first | omega | (simp; done) | (simp; omega)) _ | refine Below.setCell ?_ (by first | omega | (simp; done) | (simp; omega)) _)); first | exact Below.refl _ _ | assumption | exact below_drewN _ (Below.refl _ _) | exact below_drewN _ (below_drewN _ (Below.refl _ _)))) (g3.mono (Below.size (show Below w3.heap.size w3 _ by ((repeat (first | refine Below.drew ?_ | (with_reducible refine below_drewN _ ?_) | refine Below.alloc ?_ (by first | omega | (simp; done) | (simp; omega)) _ | refine Below.setCell ?_ (by first | omega | (simp; done) | (simp; omega)) _)); first | exact Below.refl _ _ | assumption | exact below_drewN _ (Below.refl _ _) | exact below_drewN _ (below_drewN _ (Below.refl _ _)))))); have H4 := Lib.hid (And.intro g1 g2); clear g1 g2 g3))
        clear HS3
        have HB4 := Lib.hid hbE
        obtain ⟨p2, hp2⟩ : ∃ q, rootP n2 = q := ⟨_, rfl⟩
        have HP2 := Lib.hid hp2
        rw [hp2]
        clear hp2 hbE q3 hb30
        have hbw4 := Below.andThen HBW.out (Below.andThen HB3.out HB4.out)
        have hlens : (Tr.entsL (ks.take f)).length + (Tr.entsO none).length + (Tr.entsO (some sy)).length + (Tr.entsL (ks.drop la)).length ≤ 100000000 := by
          have h1 := HX.out.2.2.2.2.2.2.2.2.1
          rw [HX.out.2.2.2.2.2.2.2.1, List.length_append, List.length_append, List.length_append] at h1
          omega
        have HJ : Hid (Calls Tryz.prog 67 #[.pointer p1, .pointer none] w4 fun e w' => ∃ n : Option T, e = .returned (.pointer (rootP n)) ∧ NodeO w' w'.heap.size k n ∧ Tr.entsO n = Tr.entsL (ks.take f) ++ Tr.entsO none ∧ Below w4.heap.size w4 w') := Lib.hid (by
          have hj := joinO_c (w := w4) (B := w4.heap.size) (a := n1) (b := none) (H3.out.1.below HB4.out (Nat.le_refl _) HB4.out.size) (HX.out.2.2.2.1.below hbw4 HX.out.2.1 (Nat.le_trans HX.out.2.1 hbw4.size)) (Nat.le_refl _) (fun w' h => HX.out.2.2.1 w' (hbw4.trans (h.mono hbw4.size))) (by rw [H3.out.2]; exact HX.out.2.2.2.2.2.1) (by rw [H3.out.2]; omega)
          rw [HP1.out, H3.out.2] at hj
          exact hj)
        have HJ2 : Hid (∀ w5, Below w4.heap.size w4 w5 → Calls Tryz.prog 67 #[.pointer (some ⟨sy.blk, 0, none⟩), .pointer p2] w5 fun e w' => ∃ n : Option T, e = .returned (.pointer (rootP n)) ∧ NodeO w' w'.heap.size k n ∧ Tr.entsO n = Tr.entsO (some sy) ++ Tr.entsL (ks.drop la) ∧ Below w5.heap.size w5 w') := Lib.hid fun w5 h5 => by
          have hbw5 := Below.andThen hbw4 h5
          have hj := joinO_c (w := w5) (B := w5.heap.size) (a := (some sy)) (b := n2) (HX.out.2.2.2.2.1.below hbw5 HX.out.2.1 (Nat.le_trans HX.out.2.1 hbw5.size)) (H4.out.1.below h5 (Nat.le_refl _) h5.size) (Nat.le_refl _) (fun w' h => HX.out.2.2.1 w' (hbw5.trans (h.mono hbw5.size))) (by rw [H4.out.2]; exact HX.out.2.2.2.2.2.2.1) (by rw [H4.out.2]; omega)
          rw [HP2.out, H4.out.2] at hj
          exact hj
        have HBw4 := Lib.hid hbw4
        clear hbw4 hlens
        go_wp2_with fail
        refine HJ.out.mono ?_
        rintro e w5 ⟨m1, rfl, g1, g2, g3⟩
        have H5 := Lib.hid (And.intro g1 (And.intro g2 g3))
        clear g1 g2 g3 HJ
        go_wp2_with fail
        refine (HJ2.out w5 H5.out.2.2).mono ?_
        rintro e w6 ⟨m2, rfl, g1, g2, g3⟩
        have H6 := Lib.hid (And.intro g1 (And.intro g2 g3))
        clear g1 g2 g3 HJ2
        go_wp2_with fail
        go_ret2
        exact ⟨m1, m2, rfl, H5.out.1.below H6.out.2.2 (Nat.le_refl _) H6.out.2.2.size, H6.out.1, H5.out.2.1, H6.out.2.1, Below.andThen HBw4.out (Below.andThen H5.out.2.2 H6.out.2.2)⟩
    | some sx =>
      have hpx : px = some ⟨sx.blk, 0, none⟩ := HPP.out.1.symm
      subst hpx
      go_wp2_with fail
      go_region_held3 (fun w' => Below W.heap.size W w') (((repeat (first | refine Below.drew ?_ | (with_reducible refine below_drewN _ ?_) | refine Below.alloc ?_ (by first | omega | (simp; done) | (simp; omega)) _ | refine Below.setCell ?_ (by first | omega | (simp; done) | (simp; omega)) _)); first | exact Below.refl _ _ | assumption | exact below_drewN _ (Below.refl _ _) | exact below_drewN _ (below_drewN _ (Below.refl _ _))))
        ((go_at_call 123; refine (HP.out _ (show Below W.heap.size W _ by ((repeat (first | refine Below.drew ?_ | (with_reducible refine below_drewN _ ?_) | refine Below.alloc ?_ (by first | omega | (simp; done) | (simp; omega)) _ | refine Below.setCell ?_ (by first | omega | (simp; done) | (simp; omega)) _)); first | exact Below.refl _ _ | assumption | exact below_drewN _ (Below.refl _ _) | exact below_drewN _ (below_drewN _ (Below.refl _ _))))).mono ?_; rintro e w3 ⟨n1, rfl, g1, g2, g3⟩; have hbD := Below.trans (show Below W.heap.size W _ by ((repeat (first | refine Below.drew ?_ | (with_reducible refine below_drewN _ ?_) | refine Below.alloc ?_ (by first | omega | (simp; done) | (simp; omega)) _ | refine Below.setCell ?_ (by first | omega | (simp; done) | (simp; omega)) _)); first | exact Below.refl _ _ | assumption | exact below_drewN _ (Below.refl _ _) | exact below_drewN _ (below_drewN _ (Below.refl _ _)))) (g3.mono (Below.size (show Below W.heap.size W _ by ((repeat (first | refine Below.drew ?_ | (with_reducible refine below_drewN _ ?_) | refine Below.alloc ?_ (by first | omega | (simp; done) | (simp; omega)) _ | refine Below.setCell ?_ (by first | omega | (simp; done) | (simp; omega)) _)); first | exact Below.refl _ _ | assumption | exact below_drewN _ (Below.refl _ _) | exact below_drewN _ (below_drewN _ (Below.refl _ _)))))); have H3 := Lib.hid (And.intro g1 g2); clear g1 g2 g3))
      clear HP
      have HB3 := Lib.hid hbD
      obtain ⟨p1, hp1⟩ : ∃ q, rootP n1 = q := ⟨_, rfl⟩
      have HP1 := Lib.hid hp1
      rw [hp1]
      clear hp1
      have q3 : ∀ w', Below w3.heap.size w3 w' → w'.cell? ⟨w.heap.size, 0, none⟩ = some (.pointer (some ⟨g, 0, none⟩)) := fun w' hb => q0 w' (Below.andThen HB3.out hb)
      have HS3 : Hid (∀ w', Below w3.heap.size w3 w' → Calls Tryz.prog 123 #[.pointer (some ⟨g, 0, none⟩), .slice Al2 (n - la) (c2 - la), .slice Ah2 la c2] w' fun e w'' => ∃ n : Option T, e = .returned (.pointer (rootP n)) ∧ NodeO w'' w''.heap.size k n ∧ Tr.entsO n = Tr.entsL (ks.drop la) ∧ Below w'.heap.size w' w'') := Lib.hid fun w' hb => HS.out w' (Below.andThen HB3.out hb)
      have hb30 := Below.refl w3.heap.size w3
      clear hbD q0 HS q00
      go_wp2_with fail
      go_region_held3 (fun w' => Below w3.heap.size w3 w') (((repeat (first | refine Below.drew ?_ | (with_reducible refine below_drewN _ ?_) | refine Below.alloc ?_ (by first | omega | (simp; done) | (simp; omega)) _ | refine Below.setCell ?_ (by first | omega | (simp; done) | (simp; omega)) _)); first | exact Below.refl _ _ | assumption | exact below_drewN _ (Below.refl _ _) | exact below_drewN _ (below_drewN _ (Below.refl _ _))))
        ((go_at_call 123; refine (HS3.out _ (show Below w3.heap.size w3 _ by ((repeat (first | refine Below.drew ?_ | (with_reducible refine below_drewN _ ?_) | refine Below.alloc ?_ (by first | omega | (simp; done) | (simp; omega)) _ | refine Below.setCell ?_ (by first | omega | (simp; done) | (simp; omega)) _)); first | exact Below.refl _ _ | assumption | exact below_drewN _ (Below.refl _ _) | exact below_drewN _ (below_drewN _ (Below.refl _ _))))).mono ?_; rintro e w4 ⟨n2, rfl, g1, g2, g3⟩; have hbE := Below.trans (show Below w3.heap.size w3 _ by ((repeat (first | refine Below.drew ?_ | (with_reducible refine below_drewN _ ?_) | refine Below.alloc ?_ (by first | omega | (simp; done) | (simp; omega)) _ | refine Below.setCell ?_ (by first | omega | (simp; done) | (simp; omega)) _)); first | exact Below.refl _ _ | assumption | exact below_drewN _ (Below.refl _ _) | exact below_drewN _ (below_drewN _ (Below.refl _ _)))) (g3.mono (Below.size (show Below w3.heap.size w3 _ by ((repeat (first | refine Below.drew ?_ | (with_reducible refine below_drewN _ ?_) | refine Below.alloc ?_ (by first | omega | (simp; done) | (simp; omega)) _ | refine Below.setCell ?_ (by first | omega | (simp; done) | (simp; omega)) _)); first | exact Below.refl _ _ | assumption | exact below_drewN _ (Below.refl _ _) | exact below_drewN _ (below_drewN _ (Below.refl _ _)))))); have H4 := Lib.hid (And.intro g1 g2); clear g1 g2 g3))
      clear HS3
      have HB4 := Lib.hid hbE
      obtain ⟨p2, hp2⟩ : ∃ q, rootP n2 = q := ⟨_, rfl⟩
      have HP2 := Lib.hid hp2
      rw [hp2]
      clear hp2 hbE q3 hb30
      have hbw4 := Below.andThen HBW.out (Below.andThen HB3.out HB4.out)
      have hlens : (Tr.entsL (ks.take f)).length + (Tr.entsO (some sx)).length + (Tr.entsO (some sy)).length + (Tr.entsL (ks.drop la)).length ≤ 100000000 := by
        have h1 := HX.out.2.2.2.2.2.2.2.2.1
        rw [HX.out.2.2.2.2.2.2.2.1, List.length_append, List.length_append, List.length_append] at h1
        omega
      have HJ : Hid (Calls Tryz.prog 67 #[.pointer p1, .pointer (some ⟨sx.blk, 0, none⟩)] w4 fun e w' => ∃ n : Option T, e = .returned (.pointer (rootP n)) ∧ NodeO w' w'.heap.size k n ∧ Tr.entsO n = Tr.entsL (ks.take f) ++ Tr.entsO (some sx) ∧ Below w4.heap.size w4 w') := Lib.hid (by
        have hj := joinO_c (w := w4) (B := w4.heap.size) (a := n1) (b := (some sx)) (H3.out.1.below HB4.out (Nat.le_refl _) HB4.out.size) (HX.out.2.2.2.1.below hbw4 HX.out.2.1 (Nat.le_trans HX.out.2.1 hbw4.size)) (Nat.le_refl _) (fun w' h => HX.out.2.2.1 w' (hbw4.trans (h.mono hbw4.size))) (by rw [H3.out.2]; exact HX.out.2.2.2.2.2.1) (by rw [H3.out.2]; omega)
        rw [HP1.out, H3.out.2] at hj
        exact hj)
      have HJ2 : Hid (∀ w5, Below w4.heap.size w4 w5 → Calls Tryz.prog 67 #[.pointer (some ⟨sy.blk, 0, none⟩), .pointer p2] w5 fun e w' => ∃ n : Option T, e = .returned (.pointer (rootP n)) ∧ NodeO w' w'.heap.size k n ∧ Tr.entsO n = Tr.entsO (some sy) ++ Tr.entsL (ks.drop la) ∧ Below w5.heap.size w5 w') := Lib.hid fun w5 h5 => by
        have hbw5 := Below.andThen hbw4 h5
        have hj := joinO_c (w := w5) (B := w5.heap.size) (a := (some sy)) (b := n2) (HX.out.2.2.2.2.1.below hbw5 HX.out.2.1 (Nat.le_trans HX.out.2.1 hbw5.size)) (H4.out.1.below h5 (Nat.le_refl _) h5.size) (Nat.le_refl _) (fun w' h => HX.out.2.2.1 w' (hbw5.trans (h.mono hbw5.size))) (by rw [H4.out.2]; exact HX.out.2.2.2.2.2.2.1) (by rw [H4.out.2]; omega)
        rw [HP2.out, H4.out.2] at hj
        exact hj
      have HBw4 := Lib.hid hbw4
      clear hbw4 hlens
      go_wp2_with fail
      refine HJ.out.mono ?_
      rintro e w5 ⟨m1, rfl, g1, g2, g3⟩
      have H5 := Lib.hid (And.intro g1 (And.intro g2 g3))
      clear g1 g2 g3 HJ
      go_wp2_with fail
      refine (HJ2.out w5 H5.out.2.2).mono ?_
      rintro e w6 ⟨m2, rfl, g1, g2, g3⟩
      have H6 := Lib.hid (And.intro g1 (And.intro g2 g3))
      clear g1 g2 g3 HJ2
      go_wp2_with fail
      go_ret2
      exact ⟨m1, m2, rfl, H5.out.1.below H6.out.2.2 (Nat.le_refl _) H6.out.2.2.size, H6.out.1, H5.out.2.1, H6.out.2.1, Below.andThen HBw4.out (Below.andThen H5.out.2.2 H6.out.2.2)⟩
end Go.Proofs.YtpgkfccfabnjdaaGreatDoor

/-
  RANK, for RankParts: having.
-/
namespace Go.Proofs.YtpgkfccfabnjdaaGreatDoor
open Go.ChangeShapes Go.WideShapes Go.ChangeAt Go.RowKit
open Tr (T S4 Ent)

theorem nptr_none (w : World) : (binOp .eql 75 (.pointer none) (.pointer none)).run Tryz.prog w = .ok (.bool true) w := by
  have h2 : ∀ d : Nat, (Op.equalIn (d + 1) 75 (.pointer none) (.pointer none)).run Tryz.prog w = .ok true w := fun d => by
    simp [Op.equalIn, run_underlying Tryz.underlying75]
  simp only [binOp]
  simp [Op.equal, Op.maxDepth, h2 9999]
theorem nodeP_eql {w : World} {B B' k : Nat} {x y : Option T} (hx : NodeO w B k x) (hy : NodeO w B' k y) : ∃ r : Bool, (binOp .eql 75 (.pointer (rootP x)) (.pointer (rootP y))).run Tryz.prog w = .ok (.bool r) w ∧ (r = true → Tr.entsO x = Tr.entsO y) := by
  cases x with
  | none =>
    cases y with
    | none => exact ⟨true, nptr_none w, fun _ => rfl⟩
    | some t => exact ⟨false, nptr_no1 w _, fun h => Bool.noConfusion h⟩
  | some s =>
    cases y with
    | none => exact ⟨false, nptr_no2 w _, fun h => Bool.noConfusion h⟩
    | some t =>
      by_cases h : s.blk = t.blk
      · refine ⟨true, ?_, fun _ => node_same (hx s rfl) (hy t rfl) h⟩
        show (binOp .eql 75 (.pointer (some ⟨s.blk, 0, none⟩)) (.pointer (some ⟨t.blk, 0, none⟩))).run Tryz.prog w = _
        rw [h]
        exact ptr_eq w _
      · exact ⟨false, nptr_ne (hx s rfl).trb (hy t rfl).trb h, fun h => Bool.noConfusion h⟩
set_option maxRecDepth 100000 in
theorem rhaving_c {w : World} {b k : Nat} {o root : Option T} (ht : TreeX w b k o) (hr : NodeO w w.heap.size k root) :
    Calls Tryz.prog 61 #[.pointer (some ⟨b, 0, none⟩), .pointer (rootP root)] w fun e w' => ∃ (b' : Nat) (o' : Option T), e = .returned (.pointer (some ⟨b', 0, none⟩)) ∧ TreeX w' b' k o' ∧ Tr.entsO o' = Tr.entsO root ∧ Below w.heap.size w w' := by
  obtain ⟨r, he, hre⟩ := nodeP_eql hr ht.1.2.2.2.2
  have HR := Lib.hid (tRoot_c ht.1.2.2.2.1)
  have HK := Lib.hid (tK_c ht.1.2.2.2.1)
  have HO := Lib.hid (tOf_c hr (Nat.le_refl _) ht.1.2.1 ht.1.2.2.1)
  have HX := Lib.hid (And.intro ht hre)
  obtain ⟨p1, hp1⟩ : ∃ p, rootP root = p := ⟨_, rfl⟩
  obtain ⟨p2, hp2⟩ : ∃ p, rootP o = p := ⟨_, rfl⟩
  rw [hp1] at he HO ⊢
  rw [hp2] at he HR
  clear ht hr hre hp1 hp2
  go_enter Tryz.func61, Tryz.ntmps61
  go_wp2_with fail
  refine HR.out.mono ?_
  rintro e w' ⟨rfl, rfl⟩
  clear HR
  cases r with
  | true =>
    go_wp2_with fail
    go_ret
    exact ⟨b, o, rfl, HX.out.1, (HX.out.2 (by first | rfl | trivial)).symm, Below.refl _ _⟩
  | false =>
    go_wp2_with fail
    refine HK.out.mono ?_
    rintro e w' ⟨rfl, rfl⟩
    clear HK he
    go_wp2_with fail
    refine HO.out.mono ?_
    rintro e w2 ⟨rfl, h1, h2⟩
    have H2 := Lib.hid (And.intro h1 h2)
    clear h1 h2 HO
    go_wp2_with fail
    go_ret
    exact ⟨_, root, rfl, H2.out.1, rfl, H2.out.2⟩
end Go.Proofs.YtpgkfccfabnjdaaGreatDoor
