import Derived.Test.YtdpbcfjhljgicaaGreatDoorM30
/-
  CONTRACTS of package walk: over, New, isPoint, side, First, Last. Laid by wip/gen21.py.
-/
namespace Go.Proofs.YtdpbcfjhljgicaaGreatDoor
open Go.ChangeShapes Go.WideShapes Go.ChangeAt Go.RowKit
open Tr (T S4 Ent)

/-! ### isPoint, side -/
/-! ### First, Last -/
/-- on the way to an end: the node at which it stands tells what the first one tells -/
structure Way1 (w : World) (B k : Nat) (f : List Ent → Option Ent) (t s : T) (w' : World) : Prop where
  node : Node w B k s
  ends : f s.ents = f t.ents
  bel : Below w.heap.size w w'
  box : w'.heap[w.heap.size]? = some (.cells #[.slice none 0 0, .int .u64 0] 54 (0, 0))
theorem Way1.lt {w : World} {B k : Nat} {f : List Ent → Option Ent} {t s : T} {w' : World} (h : Way1 w B k f t s w') : w.heap.size < w'.heap.size := (Array.getElem?_eq_some_iff.1 h.box).1
/-! ### over, New -/
def startS : Option T → List (T × Nat)
  | none => []
  | some t => [(t, 0)]
theorem start_bef (o : Option T) : Tr.bef (startS o) = [] ∧ Tr.aft (startS o) = Tr.entsO o := by
  cases o with
  | none => exact ⟨rfl, rfl⟩
  | some t =>
    refine ⟨?_, ?_⟩
    · show [] ++ Tr.fore t 0 = []
      rw [(Tr.fore_zero t).1]; rfl
    · show Tr.aftT t 0 ++ [] = t.ents
      rw [(Tr.fore_zero t).2, List.append_nil]
theorem over_c {w : World} {B C k : Nat} {o : Option T} (h : NodeO w B k o) (hB : B ≤ C) (hC : C ≤ w.heap.size) : Calls Tryz.prog 119 #[.pointer (rootP o)] w fun e w' => ∃ g D d kk, e = .returned (.pointer (some ⟨g, 0, none⟩)) ∧
    CurAt w' C g k kk o (startS o) D d ∧ Below w.heap.size w w' ∧ (∀ b, Cf g D b → w.heap.size ≤ b) := by
  cases o with
  | none =>
    go_enter Tryz.func119, Tryz.ntmps119
    simp only [rootP]
    go_wp2_with (go_at_call 95; refine (nK_nil _).mono ?_; rintro e w2 ⟨rfl, rfl⟩)
    go_ret
    refine ⟨w.heap.size, none, 0, 0, rfl, ⟨⟨heap_at w _ _ rfl, hC, ownL_none _ _ _, by simp⟩, rfl, fun x hx => by simp [startS] at hx, by simp; omega⟩, below_alloc w _, fun b hb => by rcases hb with rfl | hb; exact Nat.le_refl _; cases hb⟩
  | some t =>
    have hn := h t rfl
    obtain ⟨kp, hnd⟩ := hn.2.nd
    have HK := Lib.hid (nK_c hnd)
    have hal := below_alloc w (.cells #[.int .i64 (t.pre.length : Int), .pointer (some ⟨t.blk, 0, none⟩), .slice none 0 0] 179)
    have hm : CurM (w.alloc (.cells #[.int .i64 (t.pre.length : Int), .pointer (some ⟨t.blk, 0, none⟩), .slice none 0 0] 179)) C w.heap.size (t.pre.length : Int) (some ⟨t.blk, 0, none⟩) [] none 0 :=
      ⟨heap_at w _ _ rfl, hC, ownL_none _ _ _, by simp⟩
    have HS : Hid (Calls Tryz.prog 121 #[.pointer (some ⟨w.heap.size, 0, none⟩), .pointer (some ⟨t.blk, 0, none⟩), .int .i64 0] (w.alloc (.cells #[.int .i64 (t.pre.length : Int), .pointer (some ⟨t.blk, 0, none⟩), .slice none 0 0] 179)) fun e w' => e = .returned (.tuple #[]) ∧
      ∃ D' d', CurM w' C w.heap.size (t.pre.length : Int) (some ⟨t.blk, 0, none⟩) [(t, 0)] D' d' ∧ Foot (Cf w.heap.size none) (w.alloc (.cells #[.int .i64 (t.pre.length : Int), .pointer (some ⟨t.blk, 0, none⟩), .slice none 0 0] 179)) w' ∧ (∀ b, Cf w.heap.size D' b → Cf w.heap.size none b ∨ (w.alloc (.cells #[.int .i64 (t.pre.length : Int), .pointer (some ⟨t.blk, 0, none⟩), .slice none 0 0] 179)).heap.size ≤ b)) := Lib.hid (step_c hm (by simp) (Nat.le_trans hC hal.size) t 0)
    have HA := Lib.hid (And.intro hal (And.intro hn (And.intro hB hC)))
    clear h hn hnd hal hm hB hC
    go_enter Tryz.func119, Tryz.ntmps119
    simp only [rootP]
    go_wp2_with (first
      | (go_at_call 95; refine HK.out.mono ?_; rintro e w2 ⟨rfl, rfl⟩)
      | (go_at_call 121; refine HS.out.mono ?_; rintro e w5 ⟨rfl, D5, d5, hm5, hf5, hn5⟩))
    go_ret
    have hb5 : Below w.heap.size w w5 := HA.out.1.trans (hf5.below HA.out.1.size (fun b hb => by rcases hb with rfl | hb; exact Nat.le_refl _; cases hb))
    refine ⟨w.heap.size, D5, d5, _, rfl, ⟨hm5, rfl, fun x hx => ?_, Nat.le_trans HA.out.2.2.2 hb5.size⟩, hb5, fun b hb => by rcases hn5 b hb with (rfl | hb) | hb; exact Nat.le_refl _; cases hb; exact Nat.le_trans HA.out.1.size hb⟩
    have hx' : x = (t, 0) := by simpa [startS] using hx
    subst hx'
    exact ⟨HA.out.2.1.below hb5 (Nat.le_trans HA.out.2.2.1 HA.out.2.2.2) HA.out.2.2.1, by show (0 : Nat) ≤ 65536; omega⟩
theorem CurAt.setK {w : World} {B g k : Nat} {kk : Int} {o : Option T} {S : List (T × Nat)} {D : Option Addr} {d : Nat} (h : CurAt w B g k kk o S D d) (k' : Int) : CurAt (w.setCell ⟨g, 0, none⟩ (.int .i64 k')) B g k k' o S D d := by
  have hb : Below B w (w.setCell ⟨g, 0, none⟩ (.int .i64 k')) := (Below.refl B w).setCell (p := ⟨g, 0, none⟩) h.mem.gB _
  exact ⟨⟨block_set h.mem.blk _, h.mem.gB, h.mem.stk.block fun q hq => Below.heap_setCell _ _ _ _ (fun e => h.mem.ne (by rw [own_block] at hq; rw [hq, e])), h.mem.ne⟩, h.chain,
    fun x hx => ⟨(h.nodes x hx).1.below hb (Nat.le_refl _) (Nat.le_refl _), (h.nodes x hx).2⟩, by simpa using h.size⟩
theorem new_c {w : World} {B C b k : Nat} {o : Option T} (h : TreeAt w B b k o) (hB : B ≤ C) (hC : C ≤ w.heap.size) : Calls Tryz.prog 70 #[.pointer (some ⟨b, 0, none⟩)] w fun e w' => ∃ g D d, e = .returned (.pointer (some ⟨g, 0, none⟩)) ∧
    CurAt w' C g k (k : Int) o (startS o) D d ∧ Below w.heap.size w w' ∧ (∀ b, Cf g D b → w.heap.size ≤ b) := by
  have H1 := Lib.hid (tRoot_c h.2.2.2.1)
  have H2 := Lib.hid (over_c h.2.2.2.2 hB hC)
  have H3 : Hid (∀ w2, Below w.heap.size w w2 → Calls Tryz.prog 54 #[.pointer (some ⟨b, 0, none⟩)] w2 fun e w' => e = .returned (.int .i64 (k : Int)) ∧ w2 = w') := Lib.hid fun w2 hb => tK_c (h.2.2.2.1.below hb (Nat.lt_of_lt_of_le h.1 (Nat.le_trans hB hC)))
  have HC := Lib.hid hC
  clear h hB hC
  go_enter Tryz.func70, Tryz.ntmps70
  go_wp2_with (first
    | (go_at_call 59; refine H1.out.mono ?_; rintro e w2 ⟨rfl, rfl⟩)
    | (go_at_call 119; refine H2.out.mono ?_; rintro e w2 ⟨g, D, d, kk, rfl, hc, hb, hg⟩; have hc0 := hc.mem.cells.1; have hf0 := frozen_of_row w2 g 0 _ _ hc.mem.blk; have H4 := Lib.hid (And.intro hc (And.intro hb hg)); clear hc hb hg)
    | (go_at_call 54; refine (H3.out _ H4.out.2.1).mono ?_; rintro e w' ⟨rfl, rfl⟩))
  go_ret
  exact ⟨g, D, d, rfl, H4.out.1.setK _, H4.out.2.1.setCell (p := ⟨g, 0, none⟩) (H4.out.2.2 g (.inl rfl)) _, H4.out.2.2⟩

end Go.Proofs.YtdpbcfjhljgicaaGreatDoor
