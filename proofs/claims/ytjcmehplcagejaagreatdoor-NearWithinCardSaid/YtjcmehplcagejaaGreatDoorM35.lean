import Derived.Test.YtjcmehplcagejaaGreatDoorM18
import Derived.Test.YtjcmehplcagejaaGreatDoorM27
import Derived.Test.YtjcmehplcagejaaGreatDoorM33
import Derived.Test.YtjcmehplcagejaaGreatDoorM68
/-
  THE LAW TreePlays; Heavy of acts.
-/
namespace Go.Proofs.YtjcmehplcagejaaGreatDoor
open Go.ChangeShapes Go.WideShapes Go.ChangeAt Go.RowKit
open Tr (T S4 Ent)

set_option maxRecDepth 100000 in
theorem rheavy7_c {w : World} {B : Nat} {A : Option Addr} {c : Nat} {L : List ActT} (h : ActsT w B A L) (hl : L.length ≤ maxLen) (m : Nat) (r : Bool) (hr : decide (m < L.length ∨ ∃ e ∈ L, 40 < e.p.length) = r) :
    Calls Tryz.prog 11 #[.slice A L.length c, .int .i64 (m : Int)] w fun e w' => e = .returned (.bool r) ∧ w = w' := by
  have HX := Lib.hid (And.intro h hr)
  have hm : L.length ≤ 9223372036854775807 := by unfold maxLen at hl; omega
  clear h hr hl
  by_cases hbig : m < L.length
  · have d1 : decide ((m : Int) < (L.length : Int)) = true := decide_eq_true (by omega)
    have hrt : Hid (r = true) := Lib.hid (by rw [← HX.out.2]; exact decide_eq_true (.inl hbig))
    have d1' : decide (m < L.length) = true := decide_eq_true hbig
    go_enter Tryz.func11, Tryz.ntmps11
    go_wp2
    go_ret
    exact ⟨by rw [hrt.out]; rfl, rfl⟩
  · have d1 : decide ((m : Int) < (L.length : Int)) = false := decide_eq_false (by omega)
    have d1' : decide (m < L.length) = false := decide_eq_false hbig
    have HB := Lib.hid hbig
    go_enter Tryz.func11, Tryz.ntmps11
    go_wp2
    go_loopw [5] (fun i wr => ∃ j : Nat, j ≤ L.length ∧ i = .int .i64 j ∧ wr = w ∧ ∀ q e, q < j → L[q]? = some e → ¬ 40 < e.p.length) (fun i _ => L.length - (intOf i).toNat)
    case atStart => exact ⟨0, Nat.zero_le _, (by first | rfl | trivial), (by first | rfl | trivial), fun m e hm => by omega⟩
    case round =>
      obtain ⟨j, hj, rfl, rfl, hbe⟩ := hrel
      by_cases hlt : j < L.length
      · obtain ⟨e, he⟩ := get_lt hlt
        obtain ⟨b, off, A1, c1, hA, -, -, x0, -, -, -, -⟩ := HX.out.1.at he
        subst hA
        have m1 : (0 : Int) ≤ (j : Int) := by omega
        have m2 : (j : Int) < (L.length : Int) := by omega
        have HY := Lib.hid (And.intro he hbe)
        by_cases hc : 40 < e.p.length
        · have d2 : decide ((40 : Int) < (e.p.length : Int)) = true := decide_eq_true (by omega)
          have hrt : Hid (r = true) := Lib.hid (by rw [← HX.out.2]; exact decide_eq_true (.inr ⟨e, List.mem_of_getElem? he, hc⟩))
          clear he hbe hc
          go_wp2_with fail
          go_ret
          exact ⟨by rw [hrt.out]; rfl, rfl⟩
        · have d2 : decide ((40 : Int) < (e.p.length : Int)) = false := decide_eq_false (by omega)
          have hc := Lib.hid hc
          clear he hbe
          go_wp2_with fail
          go_roundw
          case rel =>
            refine ⟨j + 1, by omega, by go_num, (by first | rfl | trivial), fun q e' hq he' => ?_⟩
            by_cases c : q < j
            · exact HY.out.2 q e' c he'
            · have : q = j := by omega
              subst this
              rw [HY.out.1] at he'
              cases he'
              exact hc.out
          case measure => simp [intOf]; omega
      · have hrf : Hid (r = false) := Lib.hid (by
          rw [← HX.out.2]
          refine decide_eq_false ?_
          rintro (h | ⟨e, he, h40⟩)
          · exact HB.out h
          · obtain ⟨q, hq⟩ := List.mem_iff_getElem?.1 he
            exact hbe q e (by have := lt_get hq; omega) hq h40)
        clear hbe
        go_wp2_with fail
        go_ret
        exact ⟨by rw [hrf.out]; rfl, rfl⟩
def heavyA (m : Nat) (L : List ActT) : Bool := decide (m < L.length ∨ ∃ a ∈ L, 40 < a.p.length)
theorem heavyA_few {m : Nat} {L : List ActT} (h : heavyA m L = false) : L.length ≤ m := by
  simp only [heavyA, decide_eq_false_iff_not, not_or] at h
  omega
end Go.Proofs.YtjcmehplcagejaaGreatDoor

/-
  A CURSOR THAT STANDS BEHIND j ENTRIES ('RunI'), and what each of its moves makes of that.
-/
namespace Go.Proofs.YtjcmehplcagejaaGreatDoor
open Go.ChangeShapes Go.WideShapes Go.ChangeAt Go.RowKit
open Tr (T S4 Ent)

/-- a cursor of the tree with root o, made behind world w2, that stands behind j entries -/
def RunI (w2 : World) (g k : Nat) (o : Option T) (j : Nat) (wr : World) : Prop := ∃ S D d, CurAt wr w2.heap.size g k (k : Int) o S D d ∧ Tr.bef S = (Tr.entsO o).take j ∧ Tr.aft S = (Tr.entsO o).drop j ∧ Below w2.heap.size w2 wr
theorem RunI.below {w2 : World} {g k : Nat} {o : Option T} {j : Nat} {wr w' : World} (h : RunI w2 g k o j wr) (hb : Below wr.heap.size wr w') : RunI w2 g k o j w' := by
  obtain ⟨S, D, d, hc, h1, h2, h3⟩ := h
  exact ⟨S, D, d, hc.below hb, h1, h2, Below.andThen h3 hb⟩
theorem RunI.bel {w2 : World} {g k : Nat} {o : Option T} {j : Nat} {wr : World} (h : RunI w2 g k o j wr) : Below w2.heap.size w2 wr := by
  obtain ⟨S, D, d, hc, h1, h2, h3⟩ := h
  exact h3
theorem cur_below {w w' : World} {B g k : Nat} {kk : Int} {o : Option T} {S : List (T × Nat)} {D : Option Addr} {d : Nat} (h : CurAt w B g k kk o S D d) (hf : Foot (Cf g D) w w') : Below B w w' := hf.below h.size fun b hb => (h.mem.lt b hb).1
theorem RunI.next {w2 : World} {g k : Nat} {o : Option T} {j : Nat} {wr : World} (h : RunI w2 g k o j wr) (hT : ∀ w', Below w2.heap.size w2 w' → Tz w') {y : Ent} (hy : (Tr.entsO o)[j]? = some y) :
    Calls Tryz.prog 179 #[.pointer (some ⟨g, 0, none⟩)] wr fun e w' => ∃ hh dd, e = .returned (.tuple #[entryV (some ⟨hh, 0, none⟩) y.1.length dd y.2, .bool true]) ∧ RunI w2 g k o (j + 1) w' ∧ Pts w' w'.heap.size (some ⟨hh, 0, none⟩) y.1 := by
  obtain ⟨S, D, d, hc, h1, h2, h3⟩ := h
  obtain ⟨hlt, he⟩ := List.getElem?_eq_some_iff.1 hy
  rw [List.drop_eq_getElem_cons hlt, he] at h2
  refine (next_some hc (fun w' hb => hT w' (h3.trans hb)) h2).mono ?_
  rintro e w' ⟨hh, dd, rfl, S', D', d', hc', hf, _, ho, _, hb', ha'⟩
  obtain ⟨A, c, hv, hp⟩ := ho.pts
  simp only [Value.slice.injEq] at hv
  obtain ⟨rfl, -, -⟩ := hv
  refine ⟨hh, dd, rfl, ⟨S', D', d', hc', ?_, ha', h3.trans (cur_below hc hf)⟩, hp⟩
  rw [hb', h1, List.take_add_one, hy]
  rfl
/-- a tree and its list, seen from behind -/
theorem Hand.ents {w w' : World} {C b k : Nat} {o : Option T} {A : Option Addr} {c M : Nat} (h : Hand w C b k o A c M) (hb : Below w.heap.size w w') : Ents w' w'.heap.size A (Tr.entsO o) :=
  (h.list.ents h.old (Nat.le_refl _)).below hb (Nat.le_refl _) hb.size
end Go.Proofs.YtjcmehplcagejaaGreatDoor

/-
  CONTRACTS of packages pantileref08 (From, UpTo) and pantilelaw08 (at, of any entry); From, UpTo of package walk at any root.
-/
namespace Go.Proofs.YtjcmehplcagejaaGreatDoor
open Go.ChangeShapes Go.WideShapes Go.ChangeAt Go.RowKit
open Tr (T S4 Ent)

/-! ### at, of any entry -/
/-- an entry, or none, as it can be read -/
def RdX (w : World) (x : Option Ent) (P : Option Addr) (n v : Nat) : Prop := match x with
  | none => n = 0 ∧ v = 0
  | some y => n = y.1.length ∧ v = y.2 ∧ Pts w w.heap.size P y.1
theorem RdX.below {w w' : World} {x : Option Ent} {P : Option Addr} {n v : Nat} (h : RdX w x P n v) (hb : Below w.heap.size w w') : RdX w' x P n v := by
  cases x with
  | none => exact h
  | some y => exact ⟨h.1, h.2.1, (h.2.2.below' hb (Nat.le_refl _)).keep hb.size (fun _ _ => rfl)⟩
theorem TelE.rd {w w' : World} {x : Option Ent} {P : Option Addr} {n dd v : Nat} (h : TelE w w' x P n dd v) : RdX w' x P n v := by
  cases x with
  | none => exact ⟨h.2.1, h.2.2.2⟩
  | some y =>
    obtain ⟨rfl, rfl, hh, rfl, ho⟩ := h
    obtain ⟨A, c, hv, hp⟩ := ho.pts
    simp only [Value.slice.injEq] at hv
    obtain ⟨rfl, -, -⟩ := hv
    exact ⟨rfl, rfl, hp⟩
/-! ### From, UpTo, at any root -/
end Go.Proofs.YtjcmehplcagejaaGreatDoor

/-
  THE LAW RankRows. Laid by wip/gen42.py.
-/
namespace Go.Proofs.YtjcmehplcagejaaGreatDoor
open Go.ChangeShapes Go.WideShapes Go.ChangeAt Go.RowKit
open Tr (T S4 Ent)

theorem NewR.below {base : Nat} {w w' : World} {A : Option Addr} {c : Nat} {L : List Ent} (h : NewR base w A c L) (hb : Below w.heap.size w w') : NewR base w' A c L :=
  (OwnL.below h hb (Nat.le_refl _)).imp (EntG.step hb.size fun b hlt hG => ⟨hb.block b hlt, hG⟩)
theorem NewR.app {base m d c : Nat} {w w' : World} {A D : Option Addr} {L M : List Ent} (h : NewR base w A c L) (hm : (L ++ M).length = m)
    (hown : OwnL 53 2 (EntG w fun b => base ≤ b ∧ A.map (·.block) ≠ some b) w' base (.slice D m d) (L ++ M)) (hgr : w.grownBy w' (Value.slice A L.length c).ownBlock) (hat : (Value.slice D m d).ownBlock = (Value.slice A L.length c).ownBlock ∨ (Value.slice D m d).ownBlock = some w.heap.size) (hbase : base ≤ w.heap.size) :
    NewR base w' D d (L ++ M) ∧ Below base w w' := by
  subst hm
  have hlt := OwnL.lt h
  rw [own_block, own_block] at hat
  rw [own_block] at hgr hlt
  have hk : ∀ b, b < w.heap.size → A.map (·.block) ≠ some b → w'.heap[b]? = w.heap[b]? := fun b hb hn => hgr.block b hb (fun e => hn e.symm)
  refine ⟨hown.imp (EntG.step hgr.size fun b hb hG => ⟨hk b hb hG.2, hG.1, ?_⟩), hgr.os, hgr.tape, hgr.output, hgr.size, fun b hb => hk b (by omega) (fun e => by have := (hlt b e).1; omega)⟩
  rcases hat with e | e
  · rw [e]; exact hG.2
  · rw [e]; intro e'; simp only [Option.some.injEq] at e'; omega
end Go.Proofs.YtjcmehplcagejaaGreatDoor
