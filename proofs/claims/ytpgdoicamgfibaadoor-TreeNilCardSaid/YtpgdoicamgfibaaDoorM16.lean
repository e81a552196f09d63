import Derived.Test.YtpgdoicamgfibaaDoorM15
import Derived.Test.YtpgdoicamgfibaaDoorM14
/-
  ENTRIES IN MEMORY ('Ents'), and CONTRACTS of package pantileref06 (the document's answers for layer 6), first part: SameShape, Dense, Level.
-/
namespace Go.Proofs.YtpgdoicamgfibaaDoor
open Go.ChangeShapes Go.WideShapes Go.ChangeAt Go.RowKit
open Tr (T S4 Ent)

/-- what an entry's cells hold -/
def EntQ (w : World) (B : Nat) (f : Nat → Option Value) (e : Ent) : Prop :=
  ∃ A c, f 0 = some (.slice A e.1.length c) ∧ f 1 = some (.int .u64 (e.2 : Int)) ∧ Pts w B A e.1 ∧ e.1.length ≤ maxLen ∧ e.2 < 18446744073709551616
/-- A LIST OF ENTRIES IN MEMORY. -/
def Ents (w : World) (B : Nat) (A : Option Addr) (L : List Ent) : Prop := Lst 2 (EntQ w B) w B A L
theorem Ents.nil (w : World) (B : Nat) (A : Option Addr) : Ents w B A [] := fun h => absurd rfl h
theorem Ents.keep {w w' : World} {B B' : Nat} {A : Option Addr} {L : List Ent} (h : Ents w B A L) (hB : B ≤ B') (hw : ∀ p : Addr, p.block < B → w'.cell? p = w.cell? p) : Ents w' B' A L := by
  intro hn
  obtain ⟨b, off, hA, hb, hq⟩ := h hn
  refine ⟨b, off, hA, by omega, fun i e he => ?_⟩
  obtain ⟨A', c', h0, h1, hp, hl, hv⟩ := hq i e he
  exact ⟨A', c', (hw _ hb).trans h0, (hw _ hb).trans h1, hp.keep hB hw, hl, hv⟩
theorem Ents.below {w w' : World} {B B' C : Nat} {A : Option Addr} {L : List Ent} (h : Ents w B A L) (hb : Below C w w') (hC : B ≤ C) (hB : B ≤ B') : Ents w' B' A L := h.keep hB fun _ hp => hb.cell (Nat.lt_of_lt_of_le hp hC)
theorem Ents.drew {w : World} {B : Nat} {A : Option Addr} {L : List Ent} (h : Ents w B A L) : Ents w.drew B A L := h
theorem Ents.at {w : World} {B : Nat} {A : Option Addr} {L : List Ent} (h : Ents w B A L) {i : Nat} {e : Ent} (he : L[i]? = some e) :
    ∃ b off A' c', A = some ⟨b, off, none⟩ ∧ b < B ∧ w.cell? ⟨b, off + i * 2, none⟩ = some (.slice A' e.1.length c') ∧ w.cell? ⟨b, off + i * 2 + 1, none⟩ = some (.int .u64 (e.2 : Int)) ∧ Pts w B A' e.1 ∧ e.1.length ≤ maxLen ∧ e.2 < 18446744073709551616 := by
  obtain ⟨b, off, hA, hb, hq⟩ := h (by rintro rfl; simp at he)
  obtain ⟨A', c', h0, h1, hp, hl, hv⟩ := hq i e he
  exact ⟨b, off, A', c', hA, hb, h0, h1, hp, hl, hv⟩
/-- a part of a list of entries -/
theorem Ents.part {w : World} {B b off : Nat} {L : List Ent} (h : Ents w B (some ⟨b, off, none⟩) L) (i n : Nat) (hi : i + n ≤ L.length) : Ents w B (some ⟨b, off + i * 2, none⟩) ((L.drop i).take n) := by
  intro hn
  have hL : L ≠ [] := by rintro rfl; simp at hn
  obtain ⟨b', off', hA, hb, hq⟩ := h hL
  simp only [Option.some.injEq, Addr.mk.injEq, and_true] at hA
  obtain ⟨rfl, rfl⟩ := hA
  refine ⟨b, off + i * 2, rfl, hb, fun j e he => ?_⟩
  rw [List.getElem?_take] at he
  split at he
  · rw [List.getElem?_drop] at he
    have := hq (i + j) e he
    obtain ⟨A', c', h0, h1, hp, hl, hv⟩ := this
    refine ⟨A', c', ?_, ?_, hp, hl, hv⟩
    · rw [← h0]; show w.cell? ⟨b, off + i * 2 + j * 2 + 0, none⟩ = w.cell? ⟨b, off + (i + j) * 2 + 0, none⟩; rw [show off + i * 2 + j * 2 = off + (i + j) * 2 by omega]
    · rw [← h1]; show w.cell? ⟨b, off + i * 2 + j * 2 + 1, none⟩ = w.cell? ⟨b, off + (i + j) * 2 + 1, none⟩; rw [show off + i * 2 + j * 2 = off + (i + j) * 2 by omega]
  · cases he

theorem rsame_self (A A' : Option Addr) (c c' : Nat) (us : List Nat) (B : Nat) (w : World) (hp : Pts w B A us) (hq : Pts w B A' us) (hB : B ≤ w.heap.size) (hm : us.length ≤ maxLen) :
    Calls Tryd.prog 18 #[.slice A us.length c, .slice A' us.length c'] w fun e w' => e = .returned (.bool true) ∧ Below w.heap.size w w' :=
  (rsame_c A A' c c' us us B w hp hq hB hm).mono fun _ _ ⟨he, hw⟩ => ⟨by rw [he, decide_eq_true rfl], hw⟩
set_option maxRecDepth 100000 in
set_option maxHeartbeats 1000000 in
/-- SameShape, OF THE SAME -/
theorem rsameShape_c {w : World} {B : Nat} (lev : Int) (A : Option Addr) (c : Nat) (A' : Option Addr) (c' : Nat) (C : Option Addr) (d : Nat) (C' : Option Addr) (d' : Nat) (pre ks : List Nat) (dn : Bool) (v : Nat)
    (hA : Pts w B A pre) (hC : Pts w B C pre) (hA' : RdV w B A' (Sn.intV ks)) (hC' : RdV w B C' (Sn.intV ks)) (hB : B ≤ w.heap.size) (hp : pre.length ≤ 65536) (hk : ks.length ≤ 65536) :
    Calls Tryd.prog 31 #[shapeV lev A pre.length c A' ks.length c' dn v, shapeV lev C pre.length d C' ks.length d' dn v] w fun e w' => e = .returned (.bool true) ∧ Below w.heap.size w w' := by
  have HP := Lib.hid (And.intro hA (And.intro hC (And.intro hA' (And.intro hC' (And.intro hB (And.intro hp hk))))))
  have n1 : (lev != lev) = false := by simp
  have n2 : ((v : Int) != (v : Int)) = false := by simp
  have n3 : ((ks.length : Int) != (ks.length : Int)) = false := by simp
  have n5 : (dn != dn) = false := by simp
  have b1 := below_alloc w (.cells #[.int .i64 lev, .slice A pre.length c, .slice A' ks.length c', .bool dn, .int .u64 (v : Int)] 60)
  have b2 := below_alloc (w.alloc (.cells #[.int .i64 lev, .slice A pre.length c, .slice A' ks.length c', .bool dn, .int .u64 (v : Int)] 60)) (.cells #[.int .i64 lev, .slice C pre.length d, .slice C' ks.length d', .bool dn, .int .u64 (v : Int)] 60)
  have q1 : Q5 ((w.alloc (.cells #[.int .i64 lev, .slice A pre.length c, .slice A' ks.length c', .bool dn, .int .u64 (v : Int)] 60)).alloc (.cells #[.int .i64 lev, .slice C pre.length d, .slice C' ks.length d', .bool dn, .int .u64 (v : Int)] 60)) w.heap.size (.int .i64 lev) (.slice A pre.length c) (.slice A' ks.length c') (.bool dn) (.int .u64 (v : Int)) := q5_at (t := 60) (by (first | (refine heap_at _ _ _ ?_; simp; done) | (refine heap_past _ (heap_at _ _ _ ?_); simp; done) | (refine heap_past _ (heap_past _ (heap_at _ _ _ ?_)); simp; done) | (refine heap_past _ (heap_past _ (heap_past _ (heap_at _ _ _ ?_))); simp; done)))
  have q2 : Q5 ((w.alloc (.cells #[.int .i64 lev, .slice A pre.length c, .slice A' ks.length c', .bool dn, .int .u64 (v : Int)] 60)).alloc (.cells #[.int .i64 lev, .slice C pre.length d, .slice C' ks.length d', .bool dn, .int .u64 (v : Int)] 60)) (w.heap.size + 1) (.int .i64 lev) (.slice C pre.length d) (.slice C' ks.length d') (.bool dn) (.int .u64 (v : Int)) := q5_at (t := 60) (by (first | (refine heap_at _ _ _ ?_; simp; done) | (refine heap_past _ (heap_at _ _ _ ?_); simp; done) | (refine heap_past _ (heap_past _ (heap_at _ _ _ ?_)); simp; done) | (refine heap_past _ (heap_past _ (heap_past _ (heap_at _ _ _ ?_))); simp; done)))
  have hs : ((w.alloc (.cells #[.int .i64 lev, .slice A pre.length c, .slice A' ks.length c', .bool dn, .int .u64 (v : Int)] 60)).alloc (.cells #[.int .i64 lev, .slice C pre.length d, .slice C' ks.length d', .bool dn, .int .u64 (v : Int)] 60)).heap.size = w.heap.size + 2 := by simp
  have HQ := Lib.hid (And.intro q1 (And.intro q2 (And.intro hs (b1.trans (b2.mono b1.size)))))
  clear hA hC hA' hC' hB hp hk b1 b2 q1 q2 hs
  go_enter Tryd.func31, Tryd.ntmps31
  go_upto_region 1 with fail
  obtain ⟨⟨k0, k1, k2, k3, k4⟩, -⟩ := HQ.out.1
  obtain ⟨⟨l0, l1, l2, l3, l4⟩, -⟩ := HQ.out.2.1
  generalize (w.alloc _).alloc _ = W at *
  go_wp2_with fail
  refine (rsame_self A C c d pre B W (HP.out.1.below' HQ.out.2.2.2 HP.out.2.2.2.2.1) (HP.out.2.1.below' HQ.out.2.2.2 HP.out.2.2.2.2.1) (Nat.le_trans HP.out.2.2.2.2.1 HQ.out.2.2.2.size) (by have := HP.out.2.2.2.2.2.1; unfold maxLen; omega)).mono ?_
  rintro e w2 ⟨rfl, hb2⟩
  have hs := HQ.out.2.2.1
  have hq1 := HQ.out.1.below hb2 (by omega)
  have hq2 := HQ.out.2.1.below hb2 (by omega)
  have HB2 := Lib.hid (HQ.out.2.2.2.trans (hb2.mono HQ.out.2.2.2.size))
  clear k0 k1 k2 k3 k4 l0 l1 l2 l3 l4 hs hb2
  obtain ⟨⟨k0, k1, k2, k3, k4⟩, -⟩ := hq1
  obtain ⟨⟨l0, l1, l2, l3, l4⟩, -⟩ := hq2
  go_wp2_with fail
  go_loopw [5] (fun i wr => ∃ j n : Nat, j ≤ ks.length ∧ i = .int .i64 j ∧ wr = w2.drewN n) (fun i _ => ks.length - (intOf i).toNat)
  case atStart => exact ⟨0, 0, Nat.zero_le _, rfl, rfl⟩
  case round =>
    obtain ⟨j, n, hj, rfl, rfl⟩ := hrel
    have hkl : ks.length ≤ 65536 := HP.out.2.2.2.2.2.2
    by_cases hlt : j < ks.length
    · obtain ⟨u, hu⟩ := get_lt hlt
      have hrA := (HP.out.2.2.1.below HB2.out HP.out.2.2.2.2.1 (Nat.le_refl _)).at (i := j) (v := .int .i64 (u : Int)) (by simp [Sn.intV, hu])
      have hrC := (HP.out.2.2.2.1.below HB2.out HP.out.2.2.2.2.1 (Nat.le_refl _)).at (i := j) (v := .int .i64 (u : Int)) (by simp [Sn.intV, hu])
      obtain ⟨pb, po, hAA, _, hcell⟩ := hrA
      obtain ⟨qb, qo, hCC, _, hcell'⟩ := hrC
      subst hAA hCC
      have m1 : (0 : Int) ≤ (j : Int) := by omega
      have m2 : (j : Int) < (ks.length : Int) := by omega
      have e1 : ((u : Int) != (u : Int)) = false := by simp
      clear hu
      go_wp2_with fail
      go_quiet (fail)
      go_wp2_with fail
      go_roundw
      case rel => exact ⟨j + 1, _, by omega, by go_num, rfl⟩
      case measure => simp [intOf]; omega
    · go_wp2_with fail
      go_ret
      exact ⟨rfl, below_drewN _ HB2.out⟩
end Go.Proofs.YtpgdoicamgfibaaDoor
