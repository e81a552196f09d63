/-
  NODES IN MEMORY ('NdAt': what a node's block holds; 'Mem': a node with all below it), and CONTRACTS of package node, first part: slices.Clone, K, Level, Sums, together, sumsOf, having.
-/
import Derived.Test.YtgplbbmenmbaaaaTm
import Derived.Test.YtgplbbmenmbaaaaS2n
import Derived.Test.YtgplbbmenmbaaaaZb
import Derived.Test.YtgplbbmenmbaaaaRf1
import Derived.Lib.SliceRun
namespace Go.Proofs.Ytgplbbmenmbaaaa
open Go.ChangeShapes Go.WideShapes Go.ChangeAt Go.RowKit
open Tr (T S4)

/-! ### slices.Clone of a point -/
set_option maxRecDepth 100000 in
theorem clone_pts (us : List Nat) (A : Option Addr) (c B : Nat) (w : World) (hB : B ≤ w.heap.size) (hA : Pts w B A us) (hne : us ≠ []) (hl : us.length ≤ 1000000) :
    Calls Try.prog 34 #[.slice A us.length c] w fun e w' => ∃ g d, e = .returned (.slice (some ⟨g, 0, none⟩) us.length d) ∧ Own w' w.heap.size (.slice (some ⟨g, 0, none⟩) us.length d) us ∧ Below w.heap.size w w' := by
  obtain ⟨b, off, hAA, hb, _⟩ := hA.2 hne
  have Hok := Lib.hid hA.1
  have hv : vals us ≠ [] := by intro h; apply hne; simpa [vals] using h
  subst hAA
  have Hh := Lib.hid (pts_rdV hA)
  have Hl := Lib.hid (And.intro hl hv)
  have Ho := Lib.hid (ownV_nil 34 w)
  have hq : ∀ (w : World) (a : Option Addr) (n c n' c' : Nat), (binOp .eql 23 (.slice a n c) (.slice none n' c')).run Try.prog w = .ok (.bool a.isNone) w := fun w a n c n' c' => Lib.run_eql_slice_nil w _ _ a n c n' c' Try.underlying23
  clear hA hl hne hv
  go_enter Try.func34, Try.ntmps34
  go_wp2_with (at_builtin; refine wpList_append_vals 23 34 (Value.int .u64 0) 8 Try.underlying23 info_u64 rfl (by omega) rfl (.tmp 5) (.tmp 6) rfl w.heap.size _ [] (vals us) rfl Ho.out B _ _ c (vals_length us) rfl (Hh.out.below (below_alloc _ _) hB (Nat.le_refl _)) (vals_one us) (by have := Hl.out.1; rw [vals_length]; simp; omega) (by simp) ?_; intro v2 w2 hown2 hgrow2 _)
  go_ret
  rw [List.nil_append] at hown2
  obtain ⟨g, d, hv⟩ := hown2.row Hl.out.2
  rw [vals_length] at hv
  subst hv
  refine ⟨g, d, rfl, ⟨Hok.out, ?_⟩, ((Below.refl w.heap.size w).alloc (Nat.le_refl _) _).grown hgrow2 (by simp) (fun q hq => (Ho.out.lt q hq).1)⟩
  have := hown2.2
  rw [vals_length] at this
  exact this

/-! ### nodes in memory -/
abbrev sumsV (s : S4) : Value := .agg #[.int .u64 (s.c : Int), .int .u64 (s.s : Int), .int .u64 (s.lo : Int), .int .u64 (s.hi : Int)]
/-- a node's sums, in its block -/
def SumAt (w : World) (g : Nat) (s : S4) : Prop :=
  w.cell? ⟨g, 4, none⟩ = some (.int .u64 (s.c : Int)) ∧ w.cell? ⟨g, 5, none⟩ = some (.int .u64 (s.s : Int)) ∧ w.cell? ⟨g, 6, none⟩ = some (.int .u64 (s.lo : Int)) ∧ w.cell? ⟨g, 7, none⟩ = some (.int .u64 (s.hi : Int))
/-- WHAT A NODE'S BLOCK HOLDS: 'lev' its level, 'pre' its prefix, 'v' its value, 'kp' where its kids are, 's' its sums. -/
def NdAt (w : World) (B g : Nat) (lev : Int) (pre : List Nat) (v : Nat) (kp : Option Addr) (s : S4) : Prop :=
  g < B ∧ (∃ A c, Pts w B A pre ∧ w.cell? ⟨g, 1, none⟩ = some (.slice A pre.length c)) ∧ w.cell? ⟨g, 0, none⟩ = some (.int .i64 lev) ∧ w.cell? ⟨g, 2, none⟩ = some (.int .u64 (v : Int)) ∧ w.cell? ⟨g, 3, none⟩ = some (.pointer kp) ∧ SumAt w g s
theorem SumAt.below {w w' : World} {g C : Nat} {s : S4} (h : SumAt w g s) (hb : Below C w w') (hg : g < C) : SumAt w' g s :=
  ⟨(hb.cell (p := ⟨g, 4, none⟩) hg).trans h.1, (hb.cell (p := ⟨g, 5, none⟩) hg).trans h.2.1, (hb.cell (p := ⟨g, 6, none⟩) hg).trans h.2.2.1, (hb.cell (p := ⟨g, 7, none⟩) hg).trans h.2.2.2⟩
theorem NdAt.below {w w' : World} {B B' C g : Nat} {lev : Int} {pre : List Nat} {v : Nat} {kp : Option Addr} {s : S4} (h : NdAt w B g lev pre v kp s) (hb : Below C w w') (hC : B ≤ C) (hB : B ≤ B') : NdAt w' B' g lev pre v kp s := by
  obtain ⟨h0, ⟨A, c, hp, h1⟩, h2, h3, h4, h5⟩ := h
  have hg : g < C := by omega
  exact ⟨by omega, ⟨A, c, (hp.below' hb hC).keep hB (fun _ _ => rfl), (hb.cell (p := ⟨g, 1, none⟩) hg).trans h1⟩, (hb.cell (p := ⟨g, 0, none⟩) hg).trans h2, (hb.cell (p := ⟨g, 2, none⟩) hg).trans h3, (hb.cell (p := ⟨g, 3, none⟩) hg).trans h4, h5.below hb hg⟩
theorem NdAt.drew {w : World} {B g : Nat} {lev : Int} {pre : List Nat} {v : Nat} {kp : Option Addr} {s : S4} (h : NdAt w B g lev pre v kp s) : NdAt w.drew B g lev pre v kp s := h
theorem SumAt.drew {w : World} {g : Nat} {s : S4} (h : SumAt w g s) : SumAt w.drew g s := h
/-- a node's kids as slots have them -/
def kidL (ks : List (Nat × T)) : Sn.Al := ks.map fun x => (x.1, some ⟨x.2.blk, 0, none⟩)
/-- a node's level as it is kept -/
def levI (t : T) : Int := (t.lv : Int) - 1
/-- A NODE IN MEMORY, WITH ALL BELOW IT. -/
inductive Mem (w : World) (B k : Nat) : T → Prop
  | ent (g : Nat) (p : List Nat) (v : Nat) (h : NdAt w B g (-1) p v none (Tr.s1 v)) : Mem w B k (.ent g p v)
  | br (g l : Nat) (pre : List Nat) (ks : List (Nat × T)) (b : Nat) (h : NdAt w B g (l : Int) pre 0 (some ⟨b, 0, none⟩) (Tr.sums (Tr.entsL ks))) (ha : Sn.At w B b k (kidL ks)) (hk : ∀ x ∈ ks, Mem w B k x.2) : Mem w B k (.br g l pre ks)
theorem Mem.keep {w w' : World} {B B' C k : Nat} {t : T} (h : Mem w B k t) (hb : Below C w w') (hC : B ≤ C) (hB : B ≤ B') : Mem w' B' k t := by
  induction h with
  | ent g p v h => exact .ent g p v (h.below hb hC hB)
  | br g l pre ks b h ha hk ih => exact .br g l pre ks b (h.below hb hC hB) (ha.below hb hC hB) ih
/-- A NODE, as it must be, in memory. -/
def Node (w : World) (B k : Nat) (t : T) : Prop := Tr.Wf k t ∧ Mem w B k t
theorem Node.below {w w' : World} {B B' C k : Nat} {t : T} (h : Node w B k t) (hb : Below C w w') (hC : B ≤ C) (hB : B ≤ B') : Node w' B' k t := ⟨h.1, h.2.keep hb hC hB⟩
def ndV (t : T) : Value := .pointer (some ⟨t.blk, 0, none⟩)
/-- the sums of an entry, of any node -/
theorem Mem.nd {w : World} {B k : Nat} {t : T} (h : Mem w B k t) : ∃ kp, NdAt w B t.blk (levI t) t.pre t.val kp (Tr.sums t.ents) := by
  cases h with
  | ent g p v h => exact ⟨none, by rw [Tr.ents_ent, Tr.sums_one]; exact h⟩
  | br g l pre ks b h => exact ⟨some ⟨b, 0, none⟩, by rw [Tr.ents_br]; show NdAt w B g (((l + 1 : Nat) : Int) - 1) pre 0 _ _; rw [show ((l + 1 : Nat) : Int) - 1 = (l : Int) by omega]; exact h⟩
theorem Node.kid {w : World} {B k g l : Nat} {pre : List Nat} {ks : List (Nat × T)} (h : Node w B k (.br g l pre ks)) {x : Nat × T} (hx : x ∈ ks) : Node w B k x.2 := by
  refine ⟨h.1.kid hx, ?_⟩
  cases h.2 with
  | br _ _ _ _ _ _ _ hk => exact hk x hx

/-! ### K, Level, Sums -/
theorem nK_nil (w : World) : Calls Try.prog 28 #[.pointer none] w fun e w' => e = .returned (.int .i64 0) ∧ w = w' := by
  go_enter Try.func28, Try.ntmps28
  go_wp2
  go_ret
  exact ⟨rfl, rfl⟩
theorem nK_c {w : World} {B g : Nat} {lev : Int} {pre : List Nat} {v : Nat} {kp : Option Addr} {s : S4} (h : NdAt w B g lev pre v kp s) :
    Calls Try.prog 28 #[.pointer (some ⟨g, 0, none⟩)] w fun e w' => e = .returned (.int .i64 (pre.length : Int)) ∧ w = w' := by
  obtain ⟨-, ⟨A, c, -, h1⟩, -⟩ := h
  go_enter Try.func28, Try.ntmps28
  go_wp2
  go_ret
  exact ⟨rfl, rfl⟩
theorem nLevel_nil (w : World) : Calls Try.prog 14 #[.pointer none] w fun e w' => e = .returned (.int .i64 (-1)) ∧ w = w' := by
  go_enter Try.func14, Try.ntmps14
  go_wp2
  go_ret
  exact ⟨rfl, rfl⟩
theorem nLevel_c {w : World} {B g : Nat} {lev : Int} {pre : List Nat} {v : Nat} {kp : Option Addr} {s : S4} (h : NdAt w B g lev pre v kp s) :
    Calls Try.prog 14 #[.pointer (some ⟨g, 0, none⟩)] w fun e w' => e = .returned (.int .i64 lev) ∧ w = w' := by
  obtain ⟨-, -, h0, -⟩ := h
  go_enter Try.func14, Try.ntmps14
  go_wp2
  go_ret
  exact ⟨rfl, rfl⟩
theorem nSums_nil (w : World) : Calls Try.prog 30 #[.pointer none] w fun e w' => e = .returned (sumsV Tr.s0) ∧ Below w.heap.size w w' := by
  go_enter Try.func30, Try.ntmps30
  go_wp2
  refine bodyPost_ret (v := sumsV Tr.s0) (by simp [results, Try.results30, go_sem, sumsV, Tr.s0]) rfl ?_
  exact ⟨rfl, by first | exact below_alloc _ _ | (go_outline; done)⟩
theorem nSums_c {w : World} {B g : Nat} {lev : Int} {pre : List Nat} {v : Nat} {kp : Option Addr} {s : S4} (h : NdAt w B g lev pre v kp s) (hB : B ≤ w.heap.size) :
    Calls Try.prog 30 #[.pointer (some ⟨g, 0, none⟩)] w fun e w' => e = .returned (sumsV s) ∧ Below w.heap.size w w' := by
  obtain ⟨hg, -, -, -, -, h4, h5, h6, h7⟩ := h
  have hgw : g < w.heap.size := by omega
  go_enter Try.func30, Try.ntmps30
  go_wp2
  refine bodyPost_ret (v := sumsV s) (by simp [results, Try.results30, go_sem, sumsV]) rfl ?_
  exact ⟨rfl, below_alloc _ _⟩
end Go.Proofs.Ytgplbbmenmbaaaa
