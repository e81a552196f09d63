import Derived.Test.YtdpbcfjhljgicaaGreatDoorM35
/-
  CONTRACTS of packages pantileref08 (From, UpTo) and pantilelaw08 (at, of any entry); From, UpTo of package walk at any root.
-/
namespace Go.Proofs.YtdpbcfjhljgicaaGreatDoor
open Go.ChangeShapes Go.WideShapes Go.ChangeAt Go.RowKit
open Tr (T S4 Ent)

theorem get_front {L F1 F2 : List Ent} (he : L = F1 ++ F2) {j : Nat} {y : Ent} (hy : L[j]? = some y) : (j < F1.length → y ∈ F1) ∧ (F1.length ≤ j → y ∈ F2) := by
  subst he
  refine ⟨fun h => ?_, fun h => ?_⟩
  · rw [List.getElem?_append_left h] at hy; exact List.mem_of_getElem? hy
  · rw [List.getElem?_append_right h] at hy; exact List.mem_of_getElem? hy
theorem rfrom8_c {w : World} {B k : Nat} {A A' : Option Addr} {c c' : Nat} {L F1 F2 : List Ent} {p : List Nat} (hd : Tr.Dim k L) (h : Ents w B A L) (hp : Pts w B A' p) (hpl : p.length = k) (h1 : 1 ≤ k) (h16 : k ≤ 16) (hl : L.length ≤ 1000000)
    (he : L = F1 ++ F2) (ha : Ahead p F1) (hb : Past p F2) :
    Calls Tryz.prog 32 #[.slice A L.length c, .slice A' p.length c'] w fun e w' => e = .returned (.int .i64 (F1.length : Int)) ∧ w = w' := by
  have hF : F1.length ≤ L.length := by rw [he, List.length_append]; omega
  have HX := Lib.hid (And.intro hd (And.intro h (And.intro hp (And.intro hpl (And.intro h1 (And.intro h16 (And.intro he (And.intro ha (And.intro hb hF)))))))))
  clear hd h hp hpl h1 h16 he ha hb hF
  go_enter Tryz.func32, Tryz.ntmps32
  go_wp2
  go_loopw [5] (fun i wr => ∃ j : Nat, j ≤ F1.length ∧ i = .int .i64 j ∧ wr = w) (fun i _ => F1.length - (intOf i).toNat)
  case atStart => exact ⟨0, Nat.zero_le _, (by first | rfl | trivial), (by first | rfl | trivial)⟩
  case round =>
    obtain ⟨j, hj, rfl, rfl⟩ := hrel
    obtain ⟨hd, h, hp, hpl, h1, h16, he, ha, hb, hF⟩ := HX.out
    by_cases hlt : j < L.length
    · obtain ⟨e, hg⟩ := get_lt hlt
      obtain ⟨b, off, A1, c1, hA, -, x0, -, p1, -, -⟩ := h.at hg
      subst hA
      have hm := hd _ (List.mem_of_getElem? hg)
      have HC := Lib.hid (rcmp_c A1 A' c1 c' e.1 p B wr p1 hp (by rw [hm.1]; exact h1) (by rw [hm.1]; exact h16) (by rw [hm.1, hpl]))
      have hkc := Tr.key_lt (p := e.1) (q := p) (by rw [hm.1, hpl]) hm.2.1 hp.1
      have hgf := get_front he hg
      have m1 : (0 : Int) ≤ (j : Int) := by omega
      have m2 : (j : Int) < (L.length : Int) := by omega
      by_cases hc : j < F1.length
      · have d1 : decide (Z.cmp e.1 p < 0) = true := decide_eq_true (hkc.1 (ha e (hgf.1 hc)))
        have HJ := Lib.hid hc
        clear hd h hp hpl h1 h16 he ha hb hF hg hm p1 hkc hgf hc hlt
        go_wp2_with (go_at_call 35; refine HC.out.mono ?_; rintro e w2 ⟨rfl, rfl⟩)
        go_roundw
        case rel => exact ⟨j + 1, by have := HJ.out; omega, by go_num, (by first | rfl | trivial)⟩
        case measure => simp [intOf]; have := HJ.out; omega
      · have hjF : j = F1.length := by omega
        have d1 : decide (Z.cmp e.1 p < 0) = false := decide_eq_false (fun hn => by have h5 := hkc.2 hn; have h6 := hb e (hgf.2 (by omega)); omega)
        have HJ := Lib.hid hjF
        clear hd h hp hpl h1 h16 he ha hb hF hg hm p1 hkc hgf hc hlt hjF
        go_wp2_with (go_at_call 35; refine HC.out.mono ?_; rintro e w2 ⟨rfl, rfl⟩)
        go_ret
        exact ⟨by rw [← HJ.out]; rfl, rfl⟩
    · have HJ := Lib.hid (show j = F1.length by omega)
      have d1 : decide ((j : Int) < (L.length : Int)) = false := decide_eq_false (by omega)
      have d2 : decide (j < L.length) = false := decide_eq_false hlt
      clear hd h hp hpl h1 h16 he ha hb hF hlt
      go_wp2_with fail
      go_ret
      exact ⟨by rw [← HJ.out]; rfl, rfl⟩
/-! ### at, of any entry -/
/-- an entry, or none, as it can be read -/
def RdX (w : World) (x : Option Ent) (P : Option Addr) (n v : Nat) : Prop := match x with
  | none => n = 0 ∧ v = 0
  | some y => n = y.1.length ∧ v = y.2 ∧ Pts w w.heap.size P y.1
theorem RdX.below {w w' : World} {x : Option Ent} {P : Option Addr} {n v : Nat} (h : RdX w x P n v) (hb : Below w.heap.size w w') : RdX w' x P n v := by
  cases x with
  | none => exact h
  | some y => exact ⟨h.1, h.2.1, (h.2.2.below' hb (Nat.le_refl _)).keep hb.size (fun _ _ => rfl)⟩
theorem TelE.rd {w w' : World} {x : Option Ent} {P : Option Addr} {n dd v : Nat} (h : TelE w w' x P n dd v) : RdX w' x P n v := by
  cases x with
  | none => exact ⟨h.2.1, h.2.2.2⟩
  | some y =>
    obtain ⟨rfl, rfl, hh, rfl, ho⟩ := h
    obtain ⟨A, c, hv, hp⟩ := ho.pts
    simp only [Value.slice.injEq] at hv
    obtain ⟨rfl, -, -⟩ := hv
    exact ⟨rfl, rfl, hp⟩
def atI (L : List Ent) (i : Int) : Option Ent := if 0 ≤ i then L[i.toNat]? else none
/-! ### From, UpTo, at any root -/
end Go.Proofs.YtdpbcfjhljgicaaGreatDoor
