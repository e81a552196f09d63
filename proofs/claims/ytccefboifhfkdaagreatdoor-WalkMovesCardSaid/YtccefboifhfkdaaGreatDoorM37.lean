import Derived.Test.YtccefboifhfkdaaGreatDoorM35
/-
  CONTRACTS of packages pantileref08 (From, UpTo) and pantilelaw08 (at, of any entry); From, UpTo of package walk at any root.
-/
namespace Go.Proofs.YtccefboifhfkdaaGreatDoor
open Go.ChangeShapes Go.WideShapes Go.ChangeAt Go.RowKit
open Tr (T S4 Ent)

theorem get_front {L F1 F2 : List Ent} (he : L = F1 ++ F2) {j : Nat} {y : Ent} (hy : L[j]? = some y) : (j < F1.length → y ∈ F1) ∧ (F1.length ≤ j → y ∈ F2) := by
  subst he
  refine ⟨fun h => ?_, fun h => ?_⟩
  · rw [List.getElem?_append_left h] at hy; exact List.mem_of_getElem? hy
  · rw [List.getElem?_append_right h] at hy; exact List.mem_of_getElem? hy
theorem rfrom8_c {w : World} {B k : Nat} {A A' : Option Addr} {c c' : Nat} {L F1 F2 : List Ent} {p : List Nat} (hd : Tr.Dim k L) (h : Ents w B A L) (hp : Pts w B A' p) (hpl : p.length = k) (h1 : 1 ≤ k) (h16 : k ≤ 16) (hl : L.length ≤ 1000000)
    (he : L = F1 ++ F2) (ha : Ahead p F1) (hb : Past p F2) :
    Calls Tryz.prog 20 #[.slice A L.length c, .slice A' p.length c'] w fun e w' => e = .returned (.int .i64 (F1.length : Int)) ∧ w = w' := by
  have hF : F1.length ≤ L.length := by rw [he, List.length_append]; omega
  have HX := Lib.hid (And.intro hd (And.intro h (And.intro hp (And.intro hpl (And.intro h1 (And.intro h16 (And.intro he (And.intro ha (And.intro hb hF)))))))))
  clear hd h hp hpl h1 h16 he ha hb hF
  go_enter Tryz.func20, Tryz.ntmps20
  go_wp2
  go_loopw [5] (fun i wr => ∃ j : Nat, j ≤ F1.length ∧ i = .int .i64 j ∧ wr = w) (fun i _ => F1.length - (intOf i).toNat)
  case atStart => exact ⟨0, Nat.zero_le _, (by first | rfl | trivial), (by first | rfl | trivial)⟩
  case round =>
    obtain ⟨j, hj, rfl, rfl⟩ := hrel
    obtain ⟨hd, h, hp, hpl, h1, h16, he, ha, hb, hF⟩ := HX.out
    by_cases hlt : j < L.length
    · obtain ⟨e, hg⟩ := get_lt hlt
      obtain ⟨b, off, A1, c1, hA, -, x0, -, p1, -, -⟩ := h.at hg
      subst hA
      have hm := hd _ (List.mem_of_getElem? hg)
      have HC := Lib.hid (rcmp_c A1 A' c1 c' e.1 p B wr p1 hp (by rw [hm.1]; exact h1) (by rw [hm.1]; exact h16) (by rw [hm.1, hpl]))
      have hkc := Tr.key_lt (p := e.1) (q := p) (by rw [hm.1, hpl]) hm.2.1 hp.1
      have hgf := get_front he hg
      have m1 : (0 : Int) ≤ (j : Int) := by omega
      have m2 : (j : Int) < (L.length : Int) := by omega
      by_cases hc : j < F1.length
      · have d1 : decide (Z.cmp e.1 p < 0) = true := decide_eq_true (hkc.1 (ha e (hgf.1 hc)))
        have HJ := Lib.hid hc
        clear hd h hp hpl h1 h16 he ha hb hF hg hm p1 hkc hgf hc hlt
        go_wp2_with (go_at_call 53; refine HC.out.mono ?_; rintro e w2 ⟨rfl, rfl⟩)
        go_roundw
        case rel => exact ⟨j + 1, by have := HJ.out; omega, by go_num, (by first | rfl | trivial)⟩
        case measure => simp [intOf]; have := HJ.out; omega
      · have hjF : j = F1.length := by omega
        have d1 : decide (Z.cmp e.1 p < 0) = false := decide_eq_false (fun hn => by have h5 := hkc.2 hn; have h6 := hb e (hgf.2 (by omega)); omega)
        have HJ := Lib.hid hjF
        clear hd h hp hpl h1 h16 he ha hb hF hg hm p1 hkc hgf hc hlt hjF
        go_wp2_with (go_at_call 53; refine HC.out.mono ?_; rintro e w2 ⟨rfl, rfl⟩)
        go_ret
        exact ⟨by rw [← HJ.out]; rfl, rfl⟩
    · have HJ := Lib.hid (show j = F1.length by omega)
      have d1 : decide ((j : Int) < (L.length : Int)) = false := decide_eq_false (by omega)
      have d2 : decide (j < L.length) = false := decide_eq_false hlt
      clear hd h hp hpl h1 h16 he ha hb hF hlt
      go_wp2_with fail
      go_ret
      exact ⟨by rw [← HJ.out]; rfl, rfl⟩
theorem rupto8_c {w : World} {B k : Nat} {A A' : Option Addr} {c c' : Nat} {L F1 F2 : List Ent} {p : List Nat} (hd : Tr.Dim k L) (h : Ents w B A L) (hp : Pts w B A' p) (hpl : p.length = k) (h1 : 1 ≤ k) (h16 : k ≤ 16) (hl : L.length ≤ 1000000)
    (he : L = F1 ++ F2) (ha : Upto p F1) (hb : Behind p F2) :
    Calls Tryz.prog 21 #[.slice A L.length c, .slice A' p.length c'] w fun e w' => e = .returned (.int .i64 ((F1.length : Int) - 1)) ∧ w = w' := by
  have hF : F1.length ≤ L.length := by rw [he, List.length_append]; omega
  have HX := Lib.hid (And.intro hd (And.intro h (And.intro hp (And.intro hpl (And.intro h1 (And.intro h16 (And.intro he (And.intro ha (And.intro hb hF)))))))))
  have HL := Lib.hid hl
  have hlI : (L.length : Int) ≤ 1000000 := by omega
  clear hd h hp hpl h1 h16 he ha hb hF hl
  go_enter Tryz.func21, Tryz.ntmps21
  go_wp2
  go_loopw [5] (fun i wr => ∃ (j : Nat) (v : Int), F1.length ≤ j ∧ j ≤ L.length ∧ i = .int .i64 v ∧ v + 1 = (j : Int) ∧ wr = w) (fun i _ => (intOf i + 1).toNat)
  case atStart => exact ⟨L.length, _, HX.out.2.2.2.2.2.2.2.2.2, Nat.le_refl _, (by first | rfl | trivial), (by omega), (by first | rfl | trivial)⟩
  case round =>
    obtain ⟨j, v, hj, hjL, rfl, hv, rfl⟩ := hrel
    obtain ⟨hd, h, hp, hpl, h1, h16, he, ha, hb, hF⟩ := HX.out
    cases j with
    | zero =>
      obtain rfl : v = -1 := by omega
      have HJ := Lib.hid (show F1.length = 0 by omega)
      have d4 : decide ((0 : Int) ≤ -1) = false := by decide
      clear hd h hp hpl h1 h16 he ha hb hF hj hjL hv hlI
      go_wp2_with fail
      go_ret
      exact ⟨by rw [HJ.out]; rfl, rfl⟩
    | succ n =>
      obtain rfl : v = (n : Int) := by omega
      obtain ⟨e, hg⟩ := get_lt (us := L) (k := n) (by omega)
      obtain ⟨b, off, A1, c1, hA, -, x0, -, p1, -, -⟩ := h.at hg
      subst hA
      have hm := hd _ (List.mem_of_getElem? hg)
      have HC := Lib.hid (rcmp_c A1 A' c1 c' e.1 p B wr p1 hp (by rw [hm.1]; exact h1) (by rw [hm.1]; exact h16) (by rw [hm.1, hpl]))
      have hkc := Tr.key_cases (p := e.1) (q := p) (by rw [hm.1, hpl]) hm.2.1 hp.1
      have hgf := get_front he hg
      have m1 : (0 : Int) ≤ (n : Int) := by omega
      have m2 : (n : Int) < (L.length : Int) := by omega
      have d4 : decide ((0 : Int) ≤ (n : Int)) = true := decide_eq_true m1
      by_cases hc : F1.length ≤ n
      · have d1 : decide (0 < Z.cmp e.1 p) = true := decide_eq_true (by
          have h6 := hb e (hgf.2 hc)
          rcases hkc with ⟨q1, q2⟩ | ⟨q1, q2⟩ | ⟨q1, q2⟩
          · rw [q1] at h6; omega
          · omega
          · omega)
        have HJ := Lib.hid (And.intro hc hjL)
        clear hd h hp hpl h1 h16 he ha hb hF hg hm p1 hkc hgf hc hj hjL hv
        go_wp2_with (go_at_call 53; refine HC.out.mono ?_; rintro e w2 ⟨rfl, rfl⟩)
        go_roundw
        case rel => exact ⟨n, _, HJ.out.1, by have := HJ.out.2; omega, (by first | rfl | trivial), by omega, (by first | rfl | trivial)⟩
        case measure => simp [intOf]
      · have HJ := Lib.hid (show F1.length = n + 1 by omega)
        have d1 : decide (0 < Z.cmp e.1 p) = false := decide_eq_false (by
          have h6 := ha e (hgf.1 (by omega))
          rcases hkc with ⟨q1, q2⟩ | ⟨q1, q2⟩ | ⟨q1, q2⟩
          · omega
          · omega
          · omega)
        clear hd h hp hpl h1 h16 he ha hb hF hg hm p1 hkc hgf hc hj hjL hv
        go_wp2_with (go_at_call 53; refine HC.out.mono ?_; rintro e w2 ⟨rfl, rfl⟩)
        go_ret
        exact ⟨by rw [HJ.out]; apply ret_int; omega, rfl⟩

/-! ### at, of any entry -/
/-- an entry, or none, as it can be read -/
def RdX (w : World) (x : Option Ent) (P : Option Addr) (n v : Nat) : Prop := match x with
  | none => n = 0 ∧ v = 0
  | some y => n = y.1.length ∧ v = y.2 ∧ Pts w w.heap.size P y.1
theorem RdX.below {w w' : World} {x : Option Ent} {P : Option Addr} {n v : Nat} (h : RdX w x P n v) (hb : Below w.heap.size w w') : RdX w' x P n v := by
  cases x with
  | none => exact h
  | some y => exact ⟨h.1, h.2.1, (h.2.2.below' hb (Nat.le_refl _)).keep hb.size (fun _ _ => rfl)⟩
theorem TelE.rd {w w' : World} {x : Option Ent} {P : Option Addr} {n dd v : Nat} (h : TelE w w' x P n dd v) : RdX w' x P n v := by
  cases x with
  | none => exact ⟨h.2.1, h.2.2.2⟩
  | some y =>
    obtain ⟨rfl, rfl, hh, rfl, ho⟩ := h
    obtain ⟨A, c, hv, hp⟩ := ho.pts
    simp only [Value.slice.injEq] at hv
    obtain ⟨rfl, -, -⟩ := hv
    exact ⟨rfl, rfl, hp⟩
def atI (L : List Ent) (i : Int) : Option Ent := if 0 ≤ i then L[i.toNat]? else none
theorem rat_any {w : World} {A P : Option Addr} {n c dd v N : Nat} {i : Int} {L : List Ent} (hN : L.length = N) (hL : Ents w w.heap.size A L) (x : Option Ent) (hx : atI L i = x) (r : Bool) (hr : x.isSome = r) (ht : RdX w x P n v) :
    Calls Tryz.prog 19 #[.slice A N c, .int .i64 i, .agg #[.slice P n dd, .int .u64 (v : Int)], .bool r] w fun e w' => e = .returned (.bool true) ∧ Below w.heap.size w w' := by
  subst hr
  cases x with
  | none =>
    obtain ⟨rfl, rfl⟩ := ht
    refine rat_none ?_
    unfold atI at hx
    split at hx
    · rw [List.getElem?_eq_none_iff] at hx; right; omega
    · left; omega
  | some y =>
    obtain ⟨rfl, rfl, hp⟩ := ht
    unfold atI at hx
    split at hx
    · rename_i h0
      obtain ⟨j, rfl⟩ : ∃ j : Nat, i = (j : Int) := ⟨i.toNat, by omega⟩
      rw [Int.toNat_natCast] at hx
      exact rat_at hN hL hx hp
    · cases hx
theorem atI_front {L F1 F2 : List Ent} (h : L = F1 ++ F2) : atI L (F1.length : Int) = F2.head? := by
  subst h
  unfold atI
  rw [if_pos (by omega), Int.toNat_natCast, List.getElem?_append_right (Nat.le_refl _), Nat.sub_self, List.head?_eq_getElem?]
theorem atI_back {L F1 F2 : List Ent} (h : L = F1 ++ F2) : atI L ((F1.length : Int) - 1) = F1.getLast? := by
  subst h
  unfold atI
  rw [List.getLast?_eq_getElem?]
  split
  · rw [show ((F1.length : Int) - 1).toNat = F1.length - 1 by omega, List.getElem?_append_left (by omega)]
  · rw [List.length_eq_zero_iff.1 (show F1.length = 0 by omega)]; rfl
theorem atI_zero (L : List Ent) : atI L 0 = L.head? := by
  unfold atI
  rw [if_pos (by omega), List.head?_eq_getElem?]; rfl
theorem atI_last (L : List Ent) : atI L ((L.length : Int) - 1) = L.getLast? := by
  have := atI_back (L := L) (F1 := L) (F2 := []) (List.append_nil _).symm
  exact this

/-! ### From, UpTo, at any root -/
theorem from_any {w : World} {B k : Nat} {o : Option T} (h : NodeO w B k o) (hB : B ≤ w.heap.size) (hk : k ≤ 16) (hT : ∀ w', Below B w w' → Tz w') {p : List Nat} {A : Option Addr} {c : Nat} (hp : Pts w B A p) (hl : p.length = k) :
    Calls Tryz.prog 17 #[.pointer (rootP o), .slice A p.length c] w fun e w' => ∃ F1 F2, Tr.entsO o = F1 ++ F2 ∧ Ahead p F1 ∧ Past p F2 ∧
      (∃ (P : Option Addr) (n dd v : Nat), e = .returned (.tuple #[.agg #[.slice P n dd, .int .u64 (v : Int)], .bool F2.head?.isSome]) ∧ RdX w' F2.head? P n v) ∧ Below w.heap.size w w' := by
  cases o with
  | none =>
    refine (from_no (NodeO.none w B k) hB hk A p.length c (by unfold maxLen; omega) (fun t e => by cases e)).mono ?_
    rintro e w' ⟨rfl, hb⟩
    exact ⟨[], [], rfl, fun e he => by simp at he, fun e he => by simp at he, ⟨none, 0, 0, 0, rfl, rfl, rfl⟩, hb⟩
  | some t =>
    refine (from_c (h t rfl) hB hT hp (c := c) hl).mono ?_
    rintro e w' ⟨G1, G2, he, ha, hb, ⟨P, n, dd, v, rfl, ht⟩, hbe⟩
    exact ⟨G1, G2, he, ha, hb, ⟨P, n, dd, v, rfl, ht.rd⟩, hbe⟩
theorem upto_any {w : World} {B k : Nat} {o : Option T} (h : NodeO w B k o) (hB : B ≤ w.heap.size) (hk : k ≤ 16) (hT : ∀ w', Below B w w' → Tz w') {p : List Nat} {A : Option Addr} {c : Nat} (hp : Pts w B A p) (hl : p.length = k) :
    Calls Tryz.prog 18 #[.pointer (rootP o), .slice A p.length c] w fun e w' => ∃ F1 F2, Tr.entsO o = F1 ++ F2 ∧ Upto p F1 ∧ Behind p F2 ∧
      (∃ (P : Option Addr) (n dd v : Nat), e = .returned (.tuple #[.agg #[.slice P n dd, .int .u64 (v : Int)], .bool F1.getLast?.isSome]) ∧ RdX w' F1.getLast? P n v) ∧ Below w.heap.size w w' := by
  cases o with
  | none =>
    refine (upto_no (NodeO.none w B k) hB hk A p.length c (by unfold maxLen; omega) (fun t e => by cases e)).mono ?_
    rintro e w' ⟨rfl, hb⟩
    exact ⟨[], [], rfl, fun e he => by simp at he, fun e he => by simp at he, ⟨none, 0, 0, 0, rfl, rfl, rfl⟩, hb⟩
  | some t =>
    refine (upto_c (h t rfl) hB hT hp (c := c) hl).mono ?_
    rintro e w' ⟨G1, G2, he, ha, hb, ⟨P, n, dd, v, rfl, ht⟩, hbe⟩
    exact ⟨G1, G2, he, ha, hb, ⟨P, n, dd, v, rfl, ht.rd⟩, hbe⟩
end Go.Proofs.YtccefboifhfkdaaGreatDoor
