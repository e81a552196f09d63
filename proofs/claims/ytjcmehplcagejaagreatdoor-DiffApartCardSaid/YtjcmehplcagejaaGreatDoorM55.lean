import Derived.Test.YtjcmehplcagejaaGreatDoorM28
import Derived.Test.YtjcmehplcagejaaGreatDoorM01
import Derived.Test.YtjcmehplcagejaaGreatDoorM50
import Derived.Test.YtjcmehplcagejaaGreatDoorM23
import Derived.Test.YtjcmehplcagejaaGreatDoorM24
import Derived.Test.YtjcmehplcagejaaGreatDoorM22
import Derived.Test.YtjcmehplcagejaaGreatDoorM06
import Derived.Test.YtjcmehplcagejaaGreatDoorM05
/-
  PLAIN MATHEMATICS of layer 9: what of a node lies in a box: nodes wholly in it, kids that the box leaves.
-/
namespace Go.Proofs.YtjcmehplcagejaaGreatDoor.Tr
open Go.Proofs.YtjcmehplcagejaaGreatDoor.Z

/-- are all points that a node covers in the box? -/
def whB (lo hi : List Nat) (t : T) : Bool := Mk.whole t.pre t.lv lo hi t.pre.length
/-- does the box leave an address of a node? -/
def hasB (lo hi : List Nat) (t : T) (a : Nat) : Bool := Mk.has t.pre.length (Mk.lowM t.pre (t.lv - 1) lo hi) (Mk.highM t.pre (t.lv - 1) lo hi) a
/-! ### what a guide meets -/
/-- the nodes that have nothing but entries in the box, and no others in them -/
def wholes (lo hi : List Nat) (t : T) : List T :=
  if whB lo hi t = true then [t] else match t with
    | .ent _ _ _ => []
    | .br g l pre ks => ks.attach.flatMap fun x => if hasB lo hi (.br g l pre ks) x.1.1 = true then wholes lo hi x.1.2 else []
termination_by SizeOf.sizeOf t
decreasing_by
  have := kid_lt x.2 g l pre
  simpa using this
theorem wholes_ent {lo hi : List Nat} {g : Nat} {p : List Nat} {v : Nat} (h : whB lo hi (.ent g p v) = false) : wholes lo hi (.ent g p v) = [] := by rw [wholes.eq_def, if_neg (by simp [h])]
/-- what a guide meets of some kids -/
def wholesK (lo hi : List Nat) (t : T) (ks : List (Nat × T)) : List T := (ks.filter fun x => hasB lo hi t x.1).flatMap fun x => wholes lo hi x.2
theorem wholes_br {lo hi : List Nat} {g l : Nat} {pre : List Nat} {ks : List (Nat × T)} (h : whB lo hi (.br g l pre ks) = false) : wholes lo hi (.br g l pre ks) = wholesK lo hi (.br g l pre ks) ks := by
  rw [wholes.eq_def, if_neg (by simp [h])]
  have key : ∀ (L : List (Nat × T)) (hL : ∀ x ∈ L, x ∈ ks), (L.attachWith (· ∈ ks) hL).flatMap (fun x => if hasB lo hi (.br g l pre ks) x.1.1 = true then wholes lo hi x.1.2 else []) = wholesK lo hi (.br g l pre ks) L := by
    intro L
    induction L with
    | nil => intro _; rfl
    | cons x L ih =>
      intro hL
      have h1 := ih fun y hy => hL y (List.mem_cons_of_mem _ hy)
      unfold wholesK at h1 ⊢
      rw [List.attachWith_cons, List.flatMap_cons, h1]
      cases hx : hasB lo hi (.br g l pre ks) x.1 <;> simp [hx]
  exact key ks fun _ h => h
end Go.Proofs.YtjcmehplcagejaaGreatDoor.Tr

/-
  CONTRACTS of package window, first part: guide.look.
-/
namespace Go.Proofs.YtjcmehplcagejaaGreatDoor
open Go.ChangeShapes Go.WideShapes Go.ChangeAt Go.RowKit

/-- a box that can be read -/
structure BoxP (w : World) (B k : Nat) (C : Option Addr) (lo : List Nat) (C' : Option Addr) (hi : List Nat) : Prop where
  pl : Pts w B C lo
  ph : Pts w B C' hi
  k1 : 1 ≤ k
  k16 : k ≤ 16
  el : lo.length = k
  eh : hi.length = k
theorem BoxP.below {w w' : World} {B B' D k : Nat} {C C' : Option Addr} {lo hi : List Nat} (h : BoxP w B k C lo C' hi) (hb : Below D w w') (hD : B ≤ D) (hB : B ≤ B') : BoxP w' B' k C lo C' hi :=
  ⟨(h.pl.below' hb hD).keep hB (fun _ _ => rfl), (h.ph.below' hb hD).keep hB (fun _ _ => rfl), h.k1, h.k16, h.el, h.eh⟩
theorem lst_new (w : World) (A : Option Addr) (n c : Nat) (A' : Option Addr) (n' c' : Nat) (fi fp : Value) : OSt0 w ((w.alloc (.cells #[.slice A n c, .slice A' n' c', fi, fp] 85)).alloc (.cells #[.int .i64 0, .int .i64 0, .int .i64 0] 211)) A n c A' n' c' :=
  ⟨(below_alloc _ _).alloc (by simp) _, BoxAt.below (w := w.alloc (.cells #[.slice A n c, .slice A' n' c', fi, fp] 85)) ⟨by rw [World.cell?_alloc_new]; rfl, by rw [World.cell?_alloc_new]; rfl⟩ (below_alloc _ _) (by simp), m0_at (heap_at _ _ _ (by simp)), by simp⟩
end Go.Proofs.YtjcmehplcagejaaGreatDoor

/-
  PLAIN MATHEMATICS of layer 9, second part: to which kid the guide goes next.
-/
namespace Go.Proofs.YtjcmehplcagejaaGreatDoor
open Go.ChangeShapes
open Tr (T S4 Ent)

/-- the kids at addresses that a mask leaves, beyond an address -/
def bey (k l h : Nat) (ks : List (Nat × T)) (a : Int) : List (Nat × T) := ks.filter fun x => decide (a < (x.1 : Int)) && Mk.has k l h x.1
end Go.Proofs.YtjcmehplcagejaaGreatDoor

/-
  PLAIN MATHEMATICS of layer 9, third part: the stack of the guide: what is left to be met, and how much there is to be done.
-/
namespace Go.Proofs.YtjcmehplcagejaaGreatDoor
open Go.ChangeShapes
open Tr (T S4 Ent)

/-- who is met until somebody says no -/
def metTo (go : List T → Bool) : List T → List T → List T
  | us, [] => us
  | us, t :: r => if go (us ++ [t]) = true then metTo go (us ++ [t]) r else us ++ [t]
theorem metTo_on {go : List T → Bool} {us r : List T} {t : T} (h : go (us ++ [t]) = true) : metTo go us (t :: r) = metTo go (us ++ [t]) r := by simp [metTo, h]
theorem metTo_off {go : List T → Bool} {us r : List T} {t : T} (h : go (us ++ [t]) = false) : metTo go us (t :: r) = us ++ [t] := by simp [metTo, h]
/-- the mask of a node on the stack -/
def mk1 : Option T → Nat
  | some (.br _ _ pre _) => pre.length
  | _ => 0
def mk2 (lo hi : List Nat) : Option T → Nat
  | some (.br _ l pre _) => Mk.lowM pre l lo hi
  | _ => 0
def mk3 (lo hi : List Nat) : Option T → Nat
  | some (.br _ l pre _) => Mk.highM pre l lo hi
  | _ => 0
def ksO : Option T → List (Nat × T)
  | some t => t.ks
  | none => []
/-- the kids to which the guide still goes -/
def beyO (lo hi : List Nat) (o : Option T) (a : Int) : List (Nat × T) := bey (mk1 o) (mk2 lo hi o) (mk3 lo hi o) (ksO o) a
def wholesO (lo hi : List Nat) : Option T → List T
  | some t => Tr.wholes lo hi t
  | none => []
/-- is it met at once? -/
def whO (lo hi : List Nat) : Option T → Bool
  | some t => Tr.whB lo hi t
  | none => false

/-- A NODE ON THE STACK: which one, the address to which the guide went last, the kid there; its row of kids. -/
structure WFr where
  o : Option T
  a : Int
  p : Option Addr
  A : Option Addr
  m : Nat
  c : Nat
def WFr.own (x : WFr) : Option Nat := x.A.map (·.block)
def pend (lo hi : List Nat) (x : WFr) : List T := (beyO lo hi x.o x.a).flatMap fun y => Tr.wholes lo hi y.2
def restW (lo hi : List Nat) (S : List WFr) : List T := S.flatMap (pend lo hi)
theorem restW_cons (lo hi : List Nat) (x : WFr) (S : List WFr) : restW lo hi (x :: S) = pend lo hi x ++ restW lo hi S := rfl
theorem bey_first {k l h : Nat} (ks : List (Nat × T)) : bey k l h ks (-1) = ks.filter fun x => Mk.has k l h x.1 := by
  refine List.filter_congr fun x _ => ?_
  have : (-1 : Int) < (x.1 : Int) := by omega
  simp [this]
/-- pushed -/
theorem pend_push {lo hi : List Nat} {o : Option T} {p A : Option Addr} {m c : Nat} (h : whO lo hi o = false) : pend lo hi ⟨o, -1, p, A, m, c⟩ = wholesO lo hi o := by
  cases o with
  | none => rfl
  | some t =>
    cases t with
    | ent g q v =>
      have : Tr.wholes lo hi (.ent g q v) = [] := Tr.wholes_ent h
      simp only [wholesO, this]
      rfl
    | br g l pre ks =>
      have e : Tr.wholes lo hi (.br g l pre ks) = Tr.wholesK lo hi (.br g l pre ks) ks := Tr.wholes_br h
      simp only [wholesO, e]
      unfold pend beyO Tr.wholesK
      simp only [mk1, mk2, mk3, ksO, T.ks]
      rw [bey_first]
      rfl
/-! ### the stack in memory -/
/-- the cells of a step -/
def FrQ (lo hi : List Nat) (f : Nat → Option Value) (x : WFr) : Prop :=
  f 0 = some (.pointer (rootP x.o)) ∧ f 1 = some (.int .i64 (mk1 x.o : Int)) ∧ f 2 = some (.int .i64 (mk2 lo hi x.o : Int)) ∧ f 3 = some (.int .i64 (mk3 lo hi x.o : Int)) ∧ f 4 = some (.int .i64 x.a) ∧ f 5 = some (.pointer x.p) ∧ f 6 = some (.slice x.A x.m x.c)
theorem frQ_ok (lo hi : List Nat) : QOk 7 (FrQ lo hi) where
  ext := by
    rintro f g s h ⟨h0, h1, h2, h3, h4, h5, h6⟩
    exact ⟨(h 0 (by omega)).symm.trans h0, (h 1 (by omega)).symm.trans h1, (h 2 (by omega)).symm.trans h2, (h 3 (by omega)).symm.trans h3, (h 4 (by omega)).symm.trans h4, (h 5 (by omega)).symm.trans h5, (h 6 (by omega)).symm.trans h6⟩
  has := by
    rintro f s ⟨h0, h1, h2, h3, h4, h5, h6⟩ j hj
    match j, hj with
    | 0, _ => exact ⟨_, h0, rfl⟩
    | 1, _ => exact ⟨_, h1, rfl⟩
    | 2, _ => exact ⟨_, h2, rfl⟩
    | 3, _ => exact ⟨_, h3, rfl⟩
    | 4, _ => exact ⟨_, h4, rfl⟩
    | 5, _ => exact ⟨_, h5, rfl⟩
    | 6, _ => exact ⟨_, h6, rfl⟩
/-- what has become of a kid: where it stood, what it was, what it is -/
abbrev Met := Int × Option Addr × Option Addr
def MeQ (f : Nat → Option Value) (x : Met) : Prop := f 0 = some (.int .i64 x.1) ∧ f 1 = some (.pointer x.2.1) ∧ f 2 = some (.pointer x.2.2)
abbrev StkW (lo hi : List Nat) (w : World) (base : Nat) (v : Value) (S : List WFr) : Prop := OwnL 216 7 (FrQ lo hi) w base v S.reverse
theorem own_blockW (A : Option Addr) (n c : Nat) : (Value.slice A n c).ownBlock = A.map (·.block) := by cases A <;> rfl
/-- the rows of kids -/
def RowK (w : World) (base : Nat) (x : WFr) : Prop := ∃ L : List Met, L.length = x.m ∧ OwnL 146 3 MeQ w base (.slice x.A x.m x.c) L
theorem RowK.block {w w' : World} {base : Nat} {x : WFr} (h : RowK w base x) (hb : ∀ q, x.own = some q → w'.heap[q]? = w.heap[q]?) : RowK w' base x := by
  obtain ⟨L, h1, h2⟩ := h
  exact ⟨L, h1, h2.block fun q hq => hb q (by rw [own_blockW] at hq; exact hq)⟩
theorem RowK.lt {w : World} {base : Nat} {x : WFr} (h : RowK w base x) : ∀ q, x.own = some q → base ≤ q ∧ q < w.heap.size := fun q hq => by
  obtain ⟨L, h1, h2⟩ := h
  exact h2.lt q (by rw [own_blockW]; exact hq)
end Go.Proofs.YtjcmehplcagejaaGreatDoor

/-
  CONTRACTS of package window, second part: step.next.
-/
namespace Go.Proofs.YtjcmehplcagejaaGreatDoor
open Go.ChangeShapes Go.WideShapes Go.ChangeAt Go.RowKit
open Tr (T S4 Ent)

/-- a step in a row: the cells from 'off' on of block q -/
structure StepC (cs : Array Value) (off g k l h : Nat) (a : Int) (p : Option Addr) : Prop where
  c0 : cs[off]? = some (.pointer (some ⟨g, 0, none⟩))
  c1 : cs[off + 1]? = some (.int .i64 (k : Int))
  c2 : cs[off + 2]? = some (.int .i64 (l : Int))
  c3 : cs[off + 3]? = some (.int .i64 (h : Int))
  c4 : cs[off + 4]? = some (.int .i64 a)
  c5 : cs[off + 5]? = some (.pointer p)
/-- the step, when the guide has gone on in it -/
def stepTo (cs : Array Value) (off : Nat) (a : Int) (p : Option Addr) : Array Value := (cs.setIfInBounds (off + 4) (.int .i64 a)).setIfInBounds (off + 5) (.pointer p)
theorem StepC.to {cs : Array Value} {off g k l h : Nat} {a : Int} {p : Option Addr} (s : StepC cs off g k l h a p) (a' : Int) (p' : Option Addr) : StepC (stepTo cs off a' p') off g k l h a' p' := by
  have h4 := (Array.getElem?_eq_some_iff.1 s.c4).1
  have h5 := (Array.getElem?_eq_some_iff.1 s.c5).1
  unfold stepTo
  refine ⟨?_, ?_, ?_, ?_, ?_, ?_⟩
  · rw [Array.getElem?_setIfInBounds_ne (by omega), Array.getElem?_setIfInBounds_ne (by omega)]; exact s.c0
  · rw [Array.getElem?_setIfInBounds_ne (by omega), Array.getElem?_setIfInBounds_ne (by omega)]; exact s.c1
  · rw [Array.getElem?_setIfInBounds_ne (by omega), Array.getElem?_setIfInBounds_ne (by omega)]; exact s.c2
  · rw [Array.getElem?_setIfInBounds_ne (by omega), Array.getElem?_setIfInBounds_ne (by omega)]; exact s.c3
  · rw [Array.getElem?_setIfInBounds_ne (by omega), Array.getElem?_setIfInBounds_self_of_lt h4]
  · rw [Array.getElem?_setIfInBounds_self_of_lt (by simpa using h5)]
theorem stepTo_again (cs : Array Value) (off : Nat) (a a' : Int) (p p' : Option Addr) : stepTo (stepTo cs off a p) off a' p' = stepTo cs off a' p' := by
  unfold stepTo
  apply Array.ext_getElem?
  intro i
  simp only [Array.getElem?_setIfInBounds, Array.size_setIfInBounds]
  split <;> split <;> simp_all
/-- what the pass of the loop knows -/
structure NxtI (w : World) (q off g k l h : Nat) (ks : List (Nat × T)) (cs : Array Value) (ty : TypeId) (a0 : Int) (w' : World) (a : Int) (p : Option Addr) : Prop where
  blk : w'.heap[q]? = some (.cells (stepTo cs off a p) ty (0, 0))
  cell : StepC (stepTo cs off a p) off g k l h a p
  foot : Foot (fun b => b = q) w w'
  same : bey k l h ks a = bey k l h ks a0
  lo : -1 ≤ a
  hi : a ≤ 65536
theorem step_cells {q off g k l h : Nat} {cs : Array Value} {ty : TypeId} {w' : World} {a : Int} {p : Option Addr} (hblk : w'.heap[q]? = some (.cells cs ty (0, 0))) (hcell : StepC cs off g k l h a p) :
    ∀ w2 : World, Below w'.heap.size w' w2 → w2.cell? ⟨q, off, none⟩ = some (.pointer (some ⟨g, 0, none⟩)) ∧ w2.cell? ⟨q, off + 1, none⟩ = some (.int .i64 (k : Int)) ∧ w2.cell? ⟨q, off + 1 + 1, none⟩ = some (.int .i64 (l : Int)) ∧ w2.cell? ⟨q, off + 1 + 2, none⟩ = some (.int .i64 (h : Int)) ∧
      w2.cell? ⟨q, off + 4, none⟩ = some (.int .i64 a) ∧ w2.cell? ⟨q, off + 5, none⟩ = some (.pointer p) ∧ w2.frozen? ⟨q, off + 4, none⟩ = false ∧ w2.frozen? ⟨q, off + 5, none⟩ = false := by
  intro w2 hb
  have hq : q < w'.heap.size := (Array.getElem?_eq_some_iff.1 hblk).1
  have h2 := (hb.block q hq).trans hblk
  obtain ⟨c0, c1, c2, c3, c4, c5⟩ := hcell
  exact ⟨by rw [cell_of_row w2 _ _ _ _ (0, 0) h2]; exact c0, by rw [cell_of_row w2 _ _ _ _ (0, 0) h2]; exact c1, by rw [cell_of_row w2 _ _ _ _ (0, 0) h2]; exact c2, by rw [cell_of_row w2 _ _ _ _ (0, 0) h2]; exact c3, by rw [cell_of_row w2 _ _ _ _ (0, 0) h2]; exact c4, by rw [cell_of_row w2 _ _ _ _ (0, 0) h2]; exact c5,
    frozen_of_row w2 _ _ _ ty h2, frozen_of_row w2 _ _ _ ty h2⟩
theorem NxtI.store {w : World} {q off g k l h : Nat} {ks : List (Nat × T)} {cs : Array Value} {ty : TypeId} {a0 : Int} {w' : World} {a : Int} {p : Option Addr} (s : NxtI w q off g k l h ks cs ty a0 w' a p) {wc : World} (hb : Below w'.heap.size w' wc) (i : Nat) (a' : Int) (p' : Option Addr) :
    (((wc.drewN i).setCell ⟨q, off + 4, none⟩ (.int .i64 a')).setCell ⟨q, off + 5, none⟩ (.pointer p')).heap[q]? = some (.cells (stepTo cs off a' p') ty (0, 0)) ∧ StepC (stepTo cs off a' p') off g k l h a' p' ∧
      Foot (fun b => b = q) w (((wc.drewN i).setCell ⟨q, off + 4, none⟩ (.int .i64 a')).setCell ⟨q, off + 5, none⟩ (.pointer p')) := by
  have h1 := ((below_drewN i hb).block q (Array.getElem?_eq_some_iff.1 s.blk).1).trans s.blk
  have h2 := block_set (i := off + 5) (block_set (i := off + 4) h1 (.int .i64 a')) (.pointer p')
  have e : ((stepTo cs off a p).setIfInBounds (off + 4) (.int .i64 a')).setIfInBounds (off + 5) (.pointer p') = stepTo cs off a' p' := stepTo_again cs off a a' p p'
  rw [e] at h2
  have h3 := s.cell.to a' p'
  rw [stepTo_again] at h3
  exact ⟨h2, h3, ((s.foot.trans (Foot.of_below (F := fun b => b = q) (below_drewN i hb)) (fun b hb => .inl hb)).trans (Foot.setCell _ (F := fun b => b = q) (a := ⟨q, off + 4, none⟩) rfl _) (fun b hb => .inl hb)).trans (Foot.setCell _ (F := fun b => b = q) (a := ⟨q, off + 5, none⟩) rfl _) (fun b hb => .inl hb)⟩
theorem NxtI.cells {w : World} {q off g k l h : Nat} {ks : List (Nat × T)} {cs : Array Value} {ty : TypeId} {a0 : Int} {w' : World} {a : Int} {p : Option Addr} (s : NxtI w q off g k l h ks cs ty a0 w' a p) :
    ∀ w2 : World, Below w'.heap.size w' w2 → w2.cell? ⟨q, off, none⟩ = some (.pointer (some ⟨g, 0, none⟩)) ∧ w2.cell? ⟨q, off + 1, none⟩ = some (.int .i64 (k : Int)) ∧ w2.cell? ⟨q, off + 1 + 1, none⟩ = some (.int .i64 (l : Int)) ∧ w2.cell? ⟨q, off + 1 + 2, none⟩ = some (.int .i64 (h : Int)) ∧
      w2.cell? ⟨q, off + 4, none⟩ = some (.int .i64 a) ∧ w2.cell? ⟨q, off + 5, none⟩ = some (.pointer p) ∧ w2.frozen? ⟨q, off + 4, none⟩ = false ∧ w2.frozen? ⟨q, off + 5, none⟩ = false := by
  exact step_cells s.blk s.cell
end Go.Proofs.YtjcmehplcagejaaGreatDoor

/-
  CONTRACTS of package window, fourth part: Some, Find, Sums, rest, Clear, Keep, where the tree or the box is refused. Laid by wip/gen33.py.
-/
namespace Go.Proofs.YtjcmehplcagejaaGreatDoor
open Go.ChangeShapes Go.WideShapes Go.ChangeAt Go.RowKit
open Tr (T S4 Ent)

/-- the tree or the box is refused, with code co -/
def Refd (w : World) (tp : Option Addr) (A : Option Addr) (n c : Nat) (A' : Option Addr) (n' c' : Nat) (co : Int) : Prop :=
  ∀ w1 : World, Below w.heap.size w w1 → Calls Tryz.prog 95 #[.pointer tp, boxV A n c A' n' c'] w1 fun e w' => e = .returned (.int .i64 co) ∧ Below w1.heap.size w1 w'
theorem Refd.on {w w' : World} {tp : Option Addr} {A : Option Addr} {n c : Nat} {A' : Option Addr} {n' c' : Nat} {co : Int} (h : Refd w tp A n c A' n' c' co) (hb : Below w.heap.size w w') : Refd w' tp A n c A' n' c' co :=
  fun w1 hb1 => h w1 (hb.trans (hb1.mono hb.size))
end Go.Proofs.YtjcmehplcagejaaGreatDoor

/-
  CONTRACTS of package window, sixth part: step.next of any node; the guide on its way ('ThrW'); scopes with several labels.
-/
namespace Go.Proofs.YtjcmehplcagejaaGreatDoor
open Go.ChangeShapes Go.WideShapes Go.ChangeAt Go.RowKit
open Tr (T S4 Ent)

/-! ### a scope with several labels -/
/-! ### step.next where nothing is left -/
/-! ### whoever is told -/
/-- WHOEVER IS TOLD WHAT LIES IN A BOX: a function fid with one captured variable in block h; 'W' is all that lies there, 'go' tells whether to go on; 'Inv us w F': it has been told us, its memory lies in the blocks F. -/
structure VisitW (fid h B k : Nat) (W : List T) (go : List T → Bool) (Inv : List T → World → (Nat → Prop) → Prop) : Prop where
  ent : ∀ args w, (callFunc fid args).run Tryz.prog w = .ok (.enter fid args) w
  frame : ∀ us w w' F, Inv us w F → w.heap.size ≤ w'.heap.size → (∀ b, F b → w'.heap[b]? = w.heap[b]?) → Inv us w' F
  inb : ∀ us w F, Inv us w F → ∀ b, F b → b < w.heap.size ∧ B ≤ b
  call : ∀ us w F t r on, Inv us w F → Node w B k t → B ≤ w.heap.size → (∀ w', Below B w w' → Tz w') → W = us ++ t :: r → go us = true → go (us ++ [t]) = on → Calls Tryz.prog fid #[.pointer (some ⟨t.blk, 0, none⟩), .pointer (some ⟨h, 0, none⟩)] w fun e w' =>
    e = .returned (.tuple #[.pointer (some ⟨t.blk, 0, none⟩), .bool on]) ∧ ∃ F', Inv (us ++ [t]) w' F' ∧ (∀ b, F' b → F b ∨ w.heap.size ≤ b) ∧ Foot F w w'
def lvO : Option T → Nat
  | some t => t.lv
  | none => 0
def Lev : List WFr → Prop
  | [] => True
  | x :: S => lvO x.o + (S.length + 1) ≤ 65 ∧ Lev S
/-- WHAT HOLDS ON THE GUIDE's WAY: 'L' is what is met of the node at hand, 'S' the stack. -/
structure ThrW (h B k : Nat) (W : List T) (go : List T → Bool) (Inv : List T → World → (Nat → Prop) → Prop) (lo hi : List Nat) (gc : Array Value) (w : World) (F : Nat → Prop) (L : List T) (S : List WFr) (D : Option Addr) (d : Nat) (w' : World) : Prop where
  us : ∃ us F', W = us ++ (L ++ restW lo hi S) ∧ go us = true ∧ metTo go [] W = metTo go us (L ++ restW lo hi S) ∧ Inv us w' F' ∧ (∀ b, F' b → F b ∨ w.heap.size ≤ b) ∧ ¬ F' w.heap.size ∧ (∀ q, D.map (·.block) = some q → ¬ F' q) ∧ (∀ x ∈ S, ∀ q, x.own = some q → ¬ F' q)
  fr : ∀ x ∈ S, NodeO w B k x.o ∧ -1 ≤ x.a ∧ x.a ≤ 65536
  foot : Foot F w w'
  box : w'.heap[w.heap.size]? = some (.cells gc 85 (0, 0))
  stk : StkW lo hi w' (w.heap.size + 1) (.slice D S.length d) S
  rows : ∀ x ∈ S, RowK w' (w.heap.size + 1) x
  dis : S.Pairwise fun x y => ∀ q, x.own = some q → y.own ≠ some q
  sep : ∀ x ∈ S, ∀ q, x.own = some q → D.map (·.block) ≠ some q
  lev : Lev S
section
variable {fid h B k : Nat} {W : List T} {go : List T → Bool} {Inv : List T → World → (Nat → Prop) → Prop} {lo hi : List Nat} {gc : Array Value} {w : World} {F : Nat → Prop} {L : List T} {S : List WFr} {D : Option Addr} {d : Nat} {w1 w2 : World}
theorem ThrW.lt (s : ThrW h B k W go Inv lo hi gc w F L S D d w1) : w.heap.size < w1.heap.size := (Array.getElem?_eq_some_iff.1 s.box).1
theorem ThrW.below (hv : VisitW fid h B k W go Inv) (s : ThrW h B k W go Inv lo hi gc w F L S D d w1) (hb : Below w1.heap.size w1 w2) : ThrW h B k W go Inv lo hi gc w F L S D d w2 := by
  obtain ⟨us, F', e1, e2, e3, e4, e5, e6, e7, e8⟩ := s.us
  exact ⟨⟨us, F', e1, e2, e3, hv.frame _ _ _ _ e4 hb.size (fun b hF => hb.block b (hv.inb _ _ _ e4 b hF).1), e5, e6, e7, e8⟩, s.fr, s.foot.trans (Foot.of_below (F := F) hb) (fun b hb => .inl hb), (hb.block _ s.lt).trans s.box,
    OwnL.below s.stk hb (Nat.le_refl _), fun x hx => (s.rows x hx).block fun q hq => hb.block q ((s.rows x hx).lt q hq).2, s.dis, s.sep, s.lev⟩
/-- told of a node -/
theorem ThrW.told {t : T} (hv : VisitW fid h B k W go Inv) (s : ThrW h B k W go Inv lo hi gc w F [t] S D d w1) (hn : Node w1 B k t) (hB : B ≤ w1.heap.size) (hT : ∀ w', Below B w1 w' → Tz w') :
    ∃ on, Calls Tryz.prog fid #[.pointer (some ⟨t.blk, 0, none⟩), .pointer (some ⟨h, 0, none⟩)] w1 fun e w2 => e = .returned (.tuple #[.pointer (some ⟨t.blk, 0, none⟩), .bool on]) ∧
      (on = true → ThrW h B k W go Inv lo hi gc w F [] S D d w2) ∧ (on = false → ∃ F', Inv (metTo go [] W) w2 F' ∧ (∀ b, F' b → F b ∨ w.heap.size ≤ b) ∧ Foot F w w2) := by
  obtain ⟨us, F', e1, e2, e3, e4, e5, e6, e7, e8⟩ := s.us
  refine ⟨go (us ++ [t]), (hv.call us w1 F' t _ _ e4 hn hB hT e1 e2 rfl).mono ?_⟩
  rintro e w2 ⟨rfl, F2, i2, hF2, hfo⟩
  have hlt := s.lt
  have hsz := hfo.size
  have hF2' : ∀ b, F2 b → F b ∨ w.heap.size ≤ b := fun b hb => by
    rcases hF2 b hb with c | c
    · exact e5 b c
    · exact .inr (by omega)
  have hft : Foot F w w2 := s.foot.trans hfo e5
  refine ⟨rfl, fun hon => ?_, fun hon => ⟨F2, ?_, hF2', hft⟩⟩
  · have hold : ∀ q, q < w1.heap.size → ¬ F' q → ¬ F2 q := fun q hq hn hh => by
      rcases hF2 q hh with c | c
      · exact hn c
      · omega
    have hstk := s.stk.lt
    refine ⟨⟨us ++ [t], F2, by rw [e1]; simp, hon, by rw [e3]; exact metTo_on hon, i2, hF2', hold _ hlt e6, fun q hq => hold q (hstk q (by rw [own_block]; exact hq)).2 (e7 q hq), fun x hx q hq => hold q ((s.rows x hx).lt q hq).2 (e8 x hx q hq)⟩, s.fr, hft, (hfo.block _ hlt e6).trans s.box,
      s.stk.block fun q hq => hfo.block q (hstk q hq).2 (e7 q (by rw [own_block] at hq; exact hq)), fun x hx => (s.rows x hx).block fun q hq => hfo.block q ((s.rows x hx).lt q hq).2 (e8 x hx q hq), s.dis, s.sep, s.lev⟩
  · rw [e3, List.cons_append, metTo_off hon]
    exact i2
/-- pushed -/
theorem ThrW.push {o : Option T} (hv : VisitW fid h B k W go Inv) (s : ThrW h B k W go Inv lo hi gc w F (wholesO lo hi o) S D d w1) (hn : NodeO w B k o) (hw : whO lo hi o = false) (hl : lvO o + (S.length + 1) ≤ 65) {ob : Obj} {D2 : Option Addr} {d2 : Nat}
    (hown : OwnL 216 7 (FrQ lo hi) w2 (w.heap.size + 1) (.slice D2 (S.length + 1) d2) (S.reverse ++ [⟨o, -1, none, none, 0, 0⟩])) (hgr : (w1.alloc ob).grownBy w2 (D.map (·.block)))
    (hat : D2.map (·.block) = D.map (·.block) ∨ D2.map (·.block) = some (w1.heap.size + 1)) : ThrW h B k W go Inv lo hi gc w F [] (⟨o, -1, none, none, 0, 0⟩ :: S) D2 d2 w2 := by
  obtain ⟨us, F', e1, e2, e3, e4, e5, e6, e7, e8⟩ := s.us
  have hlt := s.lt
  have hblk : ∀ b, b < w1.heap.size → D.map (·.block) ≠ some b → w2.heap[b]? = w1.heap[b]? := fun b hb hne => by
    rw [hgr.block b (by simp; omega) (fun e => hne e.symm), Below.heap_alloc _ _ _ (by omega)]
  have hsz : w1.heap.size ≤ w2.heap.size := Nat.le_trans (by simp) hgr.size
  have hDlt : ∀ q, D.map (·.block) = some q → w.heap.size + 1 ≤ q ∧ q < w1.heap.size := fun q hq => s.stk.lt q (by rw [own_block]; exact hq)
  have hinb := hv.inb _ _ _ e4
  have hft : Foot F w w2 := by
    refine s.foot.trans (F1 := fun b => D.map (·.block) = some b) ⟨?_, ?_, ?_, hsz, fun b hb hne => hblk b hb hne⟩ (fun b hb => .inr (by have := hDlt b hb; omega))
    · exact hgr.os
    · exact hgr.tape
    · exact hgr.output
  have hp := pend_push (p := none) (A := none) (m := 0) (c := 0) hw
  refine ⟨⟨us, F', ?_, e2, ?_, hv.frame _ _ _ _ e4 hsz (fun b hF => hblk b (hinb b hF).1 (fun e => e7 b e hF)), e5, e6, fun q hq hF => ?_, fun x hx q hq => ?_⟩, fun x hx => ?_, hft, ?_, ?_, fun x hx => ?_, ?_, fun x hx q hq => ?_, hl, s.lev⟩
  · rw [e1, restW_cons, hp, List.nil_append]
  · rw [e3, restW_cons, hp, List.nil_append]
  · rcases hat with c | c
    · exact e7 q (by rw [← c]; exact hq) hF
    · rw [c] at hq
      cases hq
      have := (hinb _ hF).1
      omega
  · rcases List.mem_cons.1 hx with rfl | hx
    · cases hq
    · exact e8 x hx q hq
  · rcases List.mem_cons.1 hx with rfl | hx
    · exact ⟨hn, by show (-1 : Int) ≤ -1; omega, by show (-1 : Int) ≤ 65536; omega⟩
    · exact s.fr x hx
  · rw [hblk _ hlt (fun e => by have := hDlt _ e; omega)]
    exact s.box
  · show OwnL _ _ _ _ _ _ _
    rw [List.reverse_cons]
    exact hown
  · rcases List.mem_cons.1 hx with rfl | hx
    · exact ⟨[], rfl, ownL_none _ _ _⟩
    · exact (s.rows x hx).block fun q hq => hblk q ((s.rows x hx).lt q hq).2 (s.sep x hx q hq)
  · refine List.pairwise_cons.2 ⟨fun y _ q hq => ?_, s.dis⟩
    cases hq
  · rcases List.mem_cons.1 hx with rfl | hx
    · cases hq
    · intro e
      rcases hat with c | c
      · exact s.sep x hx q hq (by rw [← c]; exact e)
      · rw [c] at e
        cases e
        have := ((s.rows x hx).lt _ hq).2
        omega
/-- the top of the stack -/
theorem ThrW.top {x : WFr} (s : ThrW h B k W go Inv lo hi gc w F L (x :: S) D d w1) : ∃ q cs, D = some ⟨q, 0, none⟩ ∧ w.heap.size + 1 ≤ q ∧ q < w1.heap.size ∧ S.length + 1 ≤ d ∧ w1.heap[q]? = some (.cells cs 216 (0, 0)) ∧ FrQ lo hi (fun j => cs[S.length * 7 + j]?) x := by
  have hg : (x :: S).reverse[S.length]? = some x := by rw [List.reverse_cons, List.getElem?_append_right (by simp)]; simp
  obtain ⟨vs, h1, h2⟩ := s.stk
  rcases h2.2 with ⟨hv', hn⟩ | ⟨q, cap, cur, hv', hge, hh, hnc, hcm, hsz, hcur⟩
  · simp at hn
  · simp only [Value.slice.injEq] at hv'
    obtain ⟨rfl, -, rfl⟩ := hv'
    refine ⟨q, cur, rfl, hge, (Array.getElem?_eq_some_iff.1 hh).1, by simpa using hnc, hh, ?_⟩
    refine (frQ_ok lo hi).ext _ _ _ (fun j hj => ?_) (h1.2 S.length x hg)
    rw [← hcur, List.getElem?_take_of_lt (by simp; omega), Array.getElem?_toList]
/-- on to another kid -/
theorem ThrW.on {o : Option T} {a a' : Int} {p p' A : Option Addr} {m c q : Nat} {cs : Array Value} {L' : List T} (hv : VisitW fid h B k W go Inv) (s : ThrW h B k W go Inv lo hi gc w F [] (⟨o, a, p, A, m, c⟩ :: S) (some ⟨q, 0, none⟩) d w1)
    (hcs : w1.heap[q]? = some (.cells cs 216 (0, 0))) (hq2 : w2.heap[q]? = some (.cells (stepTo cs (S.length * 7) a' p') 216 (0, 0))) (hf : Foot (fun b => b = q) w1 w2) (ha1 : -1 ≤ a') (ha2 : a' ≤ 65536)
    (hL : pend lo hi ⟨o, a, p, A, m, c⟩ = L' ++ pend lo hi ⟨o, a', p', A, m, c⟩) : ThrW h B k W go Inv lo hi gc w F L' (⟨o, a', p', A, m, c⟩ :: S) (some ⟨q, 0, none⟩) d w2 := by
  obtain ⟨us, F', e1, e2, e3, e4, e5, e6, e7, e8⟩ := s.us
  have hlt := s.lt
  have hqF : ¬ F' q := e7 q rfl
  have hqlt := (s.stk.lt q rfl)
  have hinb := hv.inb _ _ _ e4
  have hall : ∀ x ∈ (⟨o, a', p', A, m, c⟩ : WFr) :: S, ∃ y ∈ (⟨o, a, p, A, m, c⟩ : WFr) :: S, x.own = y.own ∧ x.A = y.A ∧ x.m = y.m ∧ x.c = y.c ∧ x.o = y.o := fun x hx => by
    rcases List.mem_cons.1 hx with rfl | hx
    · exact ⟨_, List.mem_cons_self, rfl, rfl, rfl, rfl, rfl⟩
    · exact ⟨x, List.mem_cons_of_mem _ hx, rfl, rfl, rfl, rfl, rfl⟩
  have hset : OwnL 216 7 (FrQ lo hi) ((w1.setCell ⟨q, S.length * 7 + 4, none⟩ (.int .i64 a')).setCell ⟨q, S.length * 7 + 5, none⟩ (.pointer p')) (w.heap.size + 1) (.slice (some ⟨q, 0, none⟩) (S.length + 1) d) ((⟨o, a', p', A, m, c⟩ :: S).reverse) := by
    have hlen : S.length < ((⟨o, a, p, A, m, c⟩ :: S : List WFr).reverse).length := by simp
    obtain ⟨g1, hg1, r1⟩ := OwnL.set (i := S.length) (j := 4) (x := (⟨o, a', p, A, m, c⟩ : WFr)) (u := .int .i64 a') s.stk (frQ_ok lo hi) hlen (by omega) (by
      intro f y hy hf
      rw [List.reverse_cons, List.getElem?_append_right (by simp)] at hy
      simp at hy
      subst hy
      exact ⟨hf.1, hf.2.1, hf.2.2.1, hf.2.2.2.1, rfl, hf.2.2.2.2.2.1, hf.2.2.2.2.2.2⟩)
    have hq1 : q = g1 := by simp only [Option.some.injEq, Addr.mk.injEq] at hg1; exact hg1.1
    subst hq1
    rw [show ((⟨o, a, p, A, m, c⟩ :: S : List WFr).reverse).set S.length (⟨o, a', p, A, m, c⟩ : WFr) = (⟨o, a', p, A, m, c⟩ :: S : List WFr).reverse by
      simp only [List.reverse_cons]
      rw [List.set_append_right _ _ (by simp)]
      simp] at r1
    obtain ⟨g2, hg2, r2⟩ := OwnL.set (i := S.length) (j := 5) (x := (⟨o, a', p', A, m, c⟩ : WFr)) (u := .pointer p') r1 (frQ_ok lo hi) (by simp) (by omega) (by
      intro f y hy hf
      rw [List.reverse_cons, List.getElem?_append_right (by simp)] at hy
      simp at hy
      subst hy
      exact ⟨hf.1, hf.2.1, hf.2.2.1, hf.2.2.2.1, hf.2.2.2.2.1, rfl, hf.2.2.2.2.2.2⟩)
    have hq2 : q = g2 := by simp only [Option.some.injEq, Addr.mk.injEq] at hg2; exact hg2.1
    subst hq2
    rw [show ((⟨o, a', p, A, m, c⟩ :: S : List WFr).reverse).set S.length (⟨o, a', p', A, m, c⟩ : WFr) = (⟨o, a', p', A, m, c⟩ :: S : List WFr).reverse by
      simp only [List.reverse_cons]
      rw [List.set_append_right _ _ (by simp)]
      simp] at r2
    exact r2
  have hsame : w2.heap[q]? = ((w1.setCell ⟨q, S.length * 7 + 4, none⟩ (.int .i64 a')).setCell ⟨q, S.length * 7 + 5, none⟩ (.pointer p')).heap[q]? := by
    rw [hq2, block_set (block_set hcs _) _]
    rfl
  refine ⟨⟨us, F', ?_, e2, ?_, hv.frame _ _ _ _ e4 hf.size (fun b hF => hf.block b (hinb b hF).1 (fun e => hqF (e ▸ hF))), e5, e6, e7, fun x hx r hr => ?_⟩, fun x hx => ?_, s.foot.trans hf (fun b hb => .inr (by subst hb; omega)), ?_, ?_, fun x hx => ?_, ?_, fun x hx r hr => ?_, s.lev⟩
  · rw [e1, restW_cons, restW_cons, hL]; simp
  · rw [e3, restW_cons, restW_cons, hL]; simp
  · obtain ⟨y, hy, ey, -⟩ := hall x hx
    exact e8 y hy r (ey ▸ hr)
  · rcases List.mem_cons.1 hx with rfl | hx
    · exact ⟨(s.fr _ List.mem_cons_self).1, ha1, ha2⟩
    · exact s.fr x (List.mem_cons_of_mem _ hx)
  · rw [hf.block _ hlt (by omega)]
    exact s.box
  · refine hset.block fun r hr => ?_
    rw [own_block] at hr
    simp only [Option.map_some, Option.some.injEq] at hr
    subst hr
    exact hsame
  · obtain ⟨y, hy, ey, eA, em, ec, -⟩ := hall x hx
    have hr := s.rows y hy
    have hne : ∀ r, y.own = some r → r ≠ q := fun r hr e => s.sep y hy r hr (by rw [e]; rfl)
    have := hr.block fun r h2 => hf.block r (hr.lt r h2).2 (hne r h2)
    obtain ⟨l, l1, l2⟩ := this
    exact ⟨l, by rw [em]; exact l1, by rw [eA, em, ec]; exact l2⟩
  · exact List.pairwise_cons.2 ⟨(List.pairwise_cons.1 s.dis).1, (List.pairwise_cons.1 s.dis).2⟩
  · obtain ⟨y, hy, ey, -⟩ := hall x hx
    exact s.sep y hy r (ey ▸ hr)
/-- popped -/
theorem ThrW.pop {x : WFr} (s : ThrW h B k W go Inv lo hi gc w F [] (x :: S) D d w1) (hx : pend lo hi x = []) : ThrW h B k W go Inv lo hi gc w F [] S D d w1 := by
  obtain ⟨us, F', e1, e2, e3, e4, e5, e6, e7, e8⟩ := s.us
  refine ⟨⟨us, F', by rw [e1, restW_cons, hx, List.nil_append], e2, by rw [e3, restW_cons, hx, List.nil_append], e4, e5, e6, e7, fun y hy => e8 y (List.mem_cons_of_mem _ hy)⟩, fun y hy => s.fr y (List.mem_cons_of_mem _ hy), s.foot, s.box, ?_, fun y hy => s.rows y (List.mem_cons_of_mem _ hy), (List.pairwise_cons.1 s.dis).2, fun y hy => s.sep y (List.mem_cons_of_mem _ hy), s.lev.2⟩
  have h7 := OwnL.take (frQ_ok lo hi) s.stk S.length (by simp)
  rw [show ((x :: S).reverse).take S.length = S.reverse by rw [List.reverse_cons, List.take_append_of_le_length (by simp), List.take_of_length_le (by simp)]] at h7
  exact h7
/-- what has become of a kid is kept -/
theorem ThrW.app {o : Option T} {a : Int} {p A A2 : Option Addr} {m c c2 q : Nat} {M : List Met} (hv : VisitW fid h B k W go Inv) (s : ThrW h B k W go Inv lo hi gc w F [] (⟨o, a, p, A, m, c⟩ :: S) (some ⟨q, 0, none⟩) d w1) {ob : Obj} (hM : M.length = m + 1)
    (hown : OwnL 146 3 MeQ w2 (w.heap.size + 1) (.slice A2 (m + 1) c2) M) (hgr : (w1.alloc ob).grownBy w2 (A.map (·.block))) (hat : A2.map (·.block) = A.map (·.block) ∨ A2.map (·.block) = some (w1.heap.size + 1)) :
    ThrW h B k W go Inv lo hi gc w F [] (⟨o, a, p, A2, m + 1, c2⟩ :: S) (some ⟨q, 0, none⟩) d (w2.setCell ⟨q, S.length * 7 + 6, none⟩ (.slice A2 (m + 1) c2)) := by
  obtain ⟨us, F', e1, e2, e3, e4, e5, e6, e7, e8⟩ := s.us
  have hlt := s.lt
  have hqF : ¬ F' q := e7 q rfl
  have hqlt := (s.stk.lt q rfl)
  have hinb := hv.inb _ _ _ e4
  have hsz : w1.heap.size ≤ w2.heap.size := Nat.le_trans (by simp) hgr.size
  have hAlt : ∀ r, A.map (·.block) = some r → w.heap.size + 1 ≤ r ∧ r < w1.heap.size := fun r hr => (s.rows _ List.mem_cons_self).lt r hr
  have hAq : A.map (·.block) ≠ some q := fun e => s.sep _ List.mem_cons_self q e rfl
  have hAF : ∀ r, A.map (·.block) = some r → ¬ F' r := fun r hr => e8 _ List.mem_cons_self r hr
  have hblk : ∀ b, b < w1.heap.size → A.map (·.block) ≠ some b → w2.heap[b]? = w1.heap[b]? := fun b hb hne => by
    rw [hgr.block b (by simp; omega) (fun e => hne e.symm), Below.heap_alloc _ _ _ (by omega)]
  have hblk2 : ∀ b, b < w1.heap.size → A.map (·.block) ≠ some b → b ≠ q → (w2.setCell ⟨q, S.length * 7 + 6, none⟩ (.slice A2 (m + 1) c2)).heap[b]? = w1.heap[b]? := fun b hb hne hq => by
    rw [Below.heap_setCell _ _ _ _ (by simpa using hq)]
    exact hblk b hb hne
  have hA2q : A2.map (·.block) ≠ some q := by
    rcases hat with e | e
    · rw [e]; exact hAq
    · rw [e]; simp only [ne_eq, Option.some.injEq]; omega
  have hft : Foot F w (w2.setCell ⟨q, S.length * 7 + 6, none⟩ (.slice A2 (m + 1) c2)) := by
    refine s.foot.trans (F1 := fun b => A.map (·.block) = some b ∨ b = q) ⟨?_, ?_, ?_, by simpa using hsz, fun b hb hne => hblk2 b hb (fun e => hne (.inl e)) (fun e => hne (.inr e))⟩ (fun b hb => .inr ?_)
    · exact hgr.os
    · exact hgr.tape
    · exact hgr.output
    · rcases hb with hb | hb
      · have := hAlt b hb; omega
      · subst hb; omega
  have hstk : OwnL 216 7 (FrQ lo hi) (w2.setCell ⟨q, S.length * 7 + 6, none⟩ (.slice A2 (m + 1) c2)) (w.heap.size + 1) (.slice (some ⟨q, 0, none⟩) (S.length + 1) d) ((⟨o, a, p, A2, m + 1, c2⟩ :: S).reverse) := by
    have h0 : StkW lo hi w2 (w.heap.size + 1) (.slice (some ⟨q, 0, none⟩) (S.length + 1) d) (⟨o, a, p, A, m, c⟩ :: S) := s.stk.block fun r hr => by
      rw [own_block] at hr
      simp only [Option.map_some, Option.some.injEq] at hr
      subst hr
      exact hblk _ hqlt.2 hAq
    obtain ⟨g1, hg1, r1⟩ := OwnL.set (i := S.length) (j := 6) (x := (⟨o, a, p, A2, m + 1, c2⟩ : WFr)) (u := .slice A2 (m + 1) c2) h0 (frQ_ok lo hi) (by simp) (by omega) (by
      intro f y hy hf
      rw [List.reverse_cons, List.getElem?_append_right (by simp)] at hy
      simp at hy
      subst hy
      exact ⟨hf.1, hf.2.1, hf.2.2.1, hf.2.2.2.1, hf.2.2.2.2.1, hf.2.2.2.2.2.1, rfl⟩)
    have hq1 : q = g1 := by simp only [Option.some.injEq, Addr.mk.injEq] at hg1; exact hg1.1
    subst hq1
    rw [show ((⟨o, a, p, A, m, c⟩ :: S : List WFr).reverse).set S.length (⟨o, a, p, A2, m + 1, c2⟩ : WFr) = (⟨o, a, p, A2, m + 1, c2⟩ :: S : List WFr).reverse by
      simp only [List.reverse_cons]
      rw [List.set_append_right _ _ (by simp)]
      simp] at r1
    exact r1
  refine ⟨⟨us, F', e1, e2, e3, hv.frame _ _ _ _ e4 (by simpa using hsz) (fun b hF => hblk2 b (hinb b hF).1 (fun e => hAF b e hF) (fun e => hqF (e ▸ hF))), e5, e6, e7, fun x hx r hr hF => ?_⟩, fun x hx => ?_, hft, ?_, hstk, fun x hx => ?_, ?_, fun x hx r hr => ?_, s.lev⟩
  · rcases List.mem_cons.1 hx with rfl | hx
    · have hr : A2.map (·.block) = some r := hr
      rcases hat with e | e
      · rw [e] at hr; exact hAF r hr hF
      · rw [e] at hr
        cases hr
        have := (hinb _ hF).1
        omega
    · exact e8 x (List.mem_cons_of_mem _ hx) r hr hF
  · rcases List.mem_cons.1 hx with rfl | hx
    · exact (show NodeO w B k o ∧ -1 ≤ a ∧ a ≤ 65536 from s.fr ⟨o, a, p, A, m, c⟩ List.mem_cons_self)
    · exact s.fr x (List.mem_cons_of_mem _ hx)
  · rw [hblk2 _ hlt (fun e => by have := hAlt _ e; omega) (by omega)]
    exact s.box
  · rcases List.mem_cons.1 hx with rfl | hx
    · refine ⟨M, hM, hown.block fun r hr => ?_⟩
      rw [own_block] at hr
      exact Below.heap_setCell _ _ _ _ (fun e => hA2q (by rw [hr, e]))
    · refine (s.rows x (List.mem_cons_of_mem _ hx)).block fun r hr => ?_
      refine hblk2 r ((s.rows x (List.mem_cons_of_mem _ hx)).lt r hr).2 (fun e => ?_) (fun e => ?_)
      · exact (List.pairwise_cons.1 s.dis).1 x hx r e hr
      · exact s.sep x (List.mem_cons_of_mem _ hx) r hr (by rw [e]; rfl)
  · refine List.pairwise_cons.2 ⟨fun y hy r hr hy2 => ?_, (List.pairwise_cons.1 s.dis).2⟩
    have hr : A2.map (·.block) = some r := hr
    rcases hat with e | e
    · rw [e] at hr
      exact (List.pairwise_cons.1 s.dis).1 y hy r hr hy2
    · rw [e] at hr
      cases hr
      have := ((s.rows y (List.mem_cons_of_mem _ hy)).lt _ hy2).2
      omega
  · rcases List.mem_cons.1 hx with rfl | hx
    · intro e
      have hr : A2.map (·.block) = some r := hr
      rw [hr] at hA2q
      exact hA2q e.symm
    · exact s.sep x (List.mem_cons_of_mem _ hx) r hr
end
end Go.Proofs.YtjcmehplcagejaaGreatDoor
