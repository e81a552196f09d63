import Derived.Test.YtgplbbmenmbaaaaUt1
import Derived.ScopeJumps
import Derived.WalkMore
import Derived.Test.YtgplbbmenmbaaaaS2n
import Derived.RangeFuncNested
import Derived.RangeFuncBound
import Derived.RangeFuncCalls
import Derived.RangeFuncLeaves
import Derived.Shelf.Abstract
import Derived.Shelf.RegionOpen
import Derived.OwnWalkIn
import Derived.TacticsInMore
import Derived.LoopNIn
import Derived.LoopIn
import Derived.Test.YtgplbbmenmbaaaaTn6
/-
  CONTRACTS of package tree, second part: what a call turns ('Foot'), whoever is told each node that is met ('Visit'), and down, the way from node to node.
-/
namespace Go.Proofs.Ytgplbbmenmbaaaa
open Go.ChangeShapes Go.WideShapes Go.ChangeAt Go.RowKit
open Tr (T S4 Ent)

/-- but for the blocks of F, and new ones, the world is as it was -/
structure Foot (F : Nat → Prop) (w w' : World) : Prop where
  os : w'.os = w.os
  tape : w'.tape = w.tape
  output : w'.output = w.output
  size : w.heap.size ≤ w'.heap.size
  block : ∀ k, k < w.heap.size → ¬ F k → w'.heap[k]? = w.heap[k]?
theorem Foot.refl (F : Nat → Prop) (w : World) : Foot F w w := ⟨rfl, rfl, rfl, Nat.le_refl _, fun _ _ _ => rfl⟩
theorem Foot.trans {F F1 : Nat → Prop} {w w1 w2 : World} (h : Foot F w w1) (k : Foot F1 w1 w2) (hF : ∀ b, F1 b → F b ∨ w.heap.size ≤ b) : Foot F w w2 :=
  ⟨k.os.trans h.os, k.tape.trans h.tape, k.output.trans h.output, Nat.le_trans h.size k.size, fun b hb hn => by
    have h1 := h.size
    rw [k.block b (by omega) (fun c => by rcases hF b c with c | c; exact hn c; omega)]
    exact h.block b hb hn⟩
theorem Foot.of_below {F : Nat → Prop} {w w' : World} (h : Below w.heap.size w w') : Foot F w w' := ⟨h.os, h.tape, h.output, h.size, fun b hb _ => h.block b hb⟩
theorem Foot.below {F : Nat → Prop} {w w' : World} {B : Nat} (h : Foot F w w') (hB : B ≤ w.heap.size) (hF : ∀ b, F b → B ≤ b) : Below B w w' :=
  ⟨h.os, h.tape, h.output, h.size, fun b hb => h.block b (by omega) (fun c => by have := hF b c; omega)⟩
theorem Foot.drewN {F : Nat → Prop} {w w' : World} (h : Foot F w w') (n : Nat) : Foot F w (w'.drewN n) := ⟨h.os, h.tape, h.output, h.size, h.block⟩
theorem Foot.setCell (w : World) {F : Nat → Prop} {a : Addr} (ha : F a.block) (v : Value) : Foot F w (w.setCell a v) :=
  ⟨rfl, rfl, rfl, by simp, fun b _ hn => Below.heap_setCell _ _ _ _ (fun e => hn (e ▸ ha))⟩
theorem Foot.grown {F : Nat → Prop} {w w' : World} {row : Option Nat} (h : w.grownBy w' row) (hr : ∀ k, row = some k → F k) : Foot F w w' :=
  ⟨h.os, h.tape, h.output, h.size, fun b hb hn => h.block b hb (fun e => hn (hr b e.symm))⟩

/-- WHOEVER IS TOLD EACH NODE THAT IS MET: a function fid with one captured variable in block g; 'Inv us w F': it has been told us, its memory lies in the blocks F. -/
structure Visit (fid g B k M : Nat) (Inv : List T → World → (Nat → Prop) → Prop) : Prop where
  ent : ∀ args w, (callFunc fid args).run Try.prog w = .ok (.enter fid args) w
  frame : ∀ us w w' F, Inv us w F → w.heap.size ≤ w'.heap.size → (∀ b, F b → w'.heap[b]? = w.heap[b]?) → Inv us w' F
  inb : ∀ us w F, Inv us w F → ∀ b, F b → b < w.heap.size ∧ B ≤ b
  call : ∀ us w F t, Inv us w F → Node w B k t → B ≤ w.heap.size → us.length < M → Calls Try.prog fid #[.pointer (some ⟨t.blk, 0, none⟩), .pointer (some ⟨g, 0, none⟩)] w fun e w' =>
    e = .returned (.tuple #[]) ∧ ∃ F', Inv (us ++ [t]) w' F' ∧ (∀ b, F' b → F b ∨ w.heap.size ≤ b) ∧ Foot F w w'

/-- the level of the node in a slot, as it is kept, and two more: what each step of the way lowers -/
def lvOf (a : Act) (w : World) : Nat := match a.tmps.getD 1 undef with
  | .pointer (some ad) => (match w.cell? ad with | some (.int _ l) => (l + 2).toNat | _ => 0)
  | _ => 0
theorem covers_eq {t : T} {p : List Nat} {r : Bool} (h : Tr.covers t p = r) : decide (Z.part t.pre p ≤ levI t) = r := h

/-- a scope in which the run jumps back to one label: what holds at every jump holds the first time, too -/
theorem wp_scope_again {P : Program} {c rest : Code} {Q : Exit → Act → World → Prop} {a : Act} {w : World} (l : Nat) (J : Act → World → Prop) (μ : Act → World → Nat) (hf : findLabel c l = some (Code.skip.seq rest))
    (first : (∀ a w, J a w → rest.wp P (Exit.jump l J Q) a w) → c.wp P (Exit.jump l J Q) a w)
    (pass : ∀ a w, J a w → rest.wp P (Exit.jump l (fun a' w' => J a' w' ∧ μ a' w' < μ a w) Q) a w) : (Code.scope c).wp P Q a w := by
  refine wp_scope_jumps l J μ hf (first fun a w h => Code.wp_mono ?_ (pass a w h)) fun a w h => wp_seq (wp_skip (pass a w h))
  intro e a' w' h'
  cases e <;> first | exact h' | exact ⟨h'.1, h'.2.1⟩

end Go.Proofs.Ytgplbbmenmbaaaa

/-
  CONTRACTS of package tree, third part: Get's function (the last node), path's function (all nodes); path, cutEntry, Get, Path.
-/
namespace Go.Proofs.Ytgplbbmenmbaaaa
open Go.ChangeShapes Go.WideShapes Go.ChangeAt Go.RowKit
open Tr (T S4 Ent)

/-! ### the last node -/
def LastInv (B g : Nat) (us : List T) (w : World) (F : Nat → Prop) : Prop :=
  F = (fun b => b = g) ∧ B ≤ g ∧ ∃ t, w.heap[g]? = some (.cells #[.pointer (rootP us.getLast?)] t (0, 0))
/-! ### all nodes of a path -/
def ptrV (us : List T) : List Value := us.map ndV
theorem OwnV.block {e : TypeId} {w w' : World} {base : Nat} {v : Value} {xs : List Value} (h : OwnV e w base v xs) (hb : ∀ q, v.ownBlock = some q → w'.heap[q]? = w.heap[q]?) : OwnV e w' base v xs := by
  refine ⟨h.1, h.2.1, ?_⟩
  rcases h.2.2 with h2 | ⟨g, cap, cur, hv, hg, hh, r⟩
  · exact .inl h2
  · exact .inr ⟨g, cap, cur, hv, hg, (hb g (by subst hv; rfl)).trans hh, r⟩
theorem infoN : (Try.prog.info? 29).map (fun i => (i.zero, i.size, i.bytes)) = some (some (.pointer none), 1, 8) := by kernel_rfl
theorem ptrV_length (us : List T) : (ptrV us).length = us.length := by simp [ptrV]
def PathInv (B g : Nat) (us : List T) (w : World) (F : Nat → Prop) : Prop :=
  ∃ v t, F = (fun b => b = g ∨ v.ownBlock = some b) ∧ B ≤ g ∧ w.heap[g]? = some (.cells #[v] t (0, 0)) ∧ OwnV 29 w B v (ptrV us) ∧ v.ownBlock ≠ some g
end Go.Proofs.Ytgplbbmenmbaaaa

/-
  CONTRACTS of package tree, fourth part: path, cutEntry, Get, Path.
-/
namespace Go.Proofs.Ytgplbbmenmbaaaa
open Go.ChangeShapes Go.WideShapes Go.ChangeAt Go.RowKit
open Tr (T S4 Ent)

/-- a row of nodes that the call made -/
def Nodes (w : World) (base : Nat) (v : Value) (us : List T) : Prop := OwnV 29 w base v (ptrV us)
theorem Nodes.slice {w : World} {base : Nat} {v : Value} {us : List T} (h : Nodes w base v us) : ∃ A c, v = .slice A us.length c ∧ us.length ≤ c ∧ RdV w w.heap.size A (ptrV us) := by
  have := OwnV.rd h
  rw [ptrV_length] at this
  exact this
/-! ### cutEntry -/
theorem rd_ptr {w : World} {B : Nat} {A : Option Addr} {us : List T} (h : RdV w B A (ptrV us)) {i : Nat} {t : T} (hi : us[i]? = some t) : ∃ b off, A = some ⟨b, off, none⟩ ∧ b < B ∧ w.cell? ⟨b, off + i, none⟩ = some (.pointer (some ⟨t.blk, 0, none⟩)) :=
  h.at (v := .pointer (some ⟨t.blk, 0, none⟩)) (by simp [ptrV, hi, ndV])
end Go.Proofs.Ytgplbbmenmbaaaa

/-
  CONTRACTS of package tree, fifth part: Get, Path.
-/
namespace Go.Proofs.Ytgplbbmenmbaaaa
open Go.ChangeShapes Go.WideShapes Go.ChangeAt Go.RowKit
open Tr (T S4 Ent)

theorem kidAt_node {w : World} {B k : Nat} {t s : T} (h : Node w B k t) {p : List Nat} (hs : Tr.kidAt t p = some s) : Node w B k s := by
  have hm := Tr.kidAt_mem hs
  cases t with
  | ent q x v => simp [T.ks] at hm
  | br q l pre ks => exact h.kid hm
theorem path_nodes {w : World} {B k : Nat} (p : List Nat) : ∀ (n : Nat) (o : Option T), NodeO w B k o → (∀ t ∈ Tr.pathF n o p, Node w B k t ∧ Tr.covers t p = true) ∧ NodeO w B k (Tr.stopF n o p)
  | 0, o, h => ⟨fun t ht => by simp [Tr.pathF] at ht, h⟩
  | n + 1, none, h => ⟨fun t ht => by simp [Tr.pathF] at ht, h⟩
  | n + 1, some t, h => by
    simp only [Tr.pathF, Tr.stopF]
    split
    · rename_i hc
      have ih := path_nodes p n (Tr.kidAt t p) (fun s hs => kidAt_node (h t rfl) hs)
      refine ⟨fun s hs => ?_, ih.2⟩
      rcases List.mem_cons.1 hs with rfl | hs
      · exact ⟨h _ rfl, hc⟩
      · exact ih.1 s hs
    · exact ⟨fun t ht => by simp at ht, h⟩
/-- an entry's value, and whether it is one -/
def entO : Option T → Nat × Bool
  | some (.ent _ _ v) => (v, true)
  | _ => (0, false)
theorem nEntry_o {w : World} {B k : Nat} {o : Option T} (h : NodeO w B k o) (hB : B ≤ w.heap.size) :
    Calls Try.prog 27 #[.pointer (rootP o)] w fun e w' => ∃ A n c, e = .returned (.tuple #[entryV A n c (entO o).1, .bool (entO o).2]) ∧ Below w.heap.size w w' := by
  cases o with
  | none => exact (nEntry_nil w).mono fun e w' ⟨h1, h2⟩ => ⟨_, _, _, h1, h2⟩
  | some t =>
    have hn := h t rfl
    cases t with
    | br g l pre ks =>
      obtain ⟨q, hnd⟩ : ∃ q, NdAt w B g (l : Int) pre 0 (some ⟨q, 0, none⟩) (Tr.sums (Tr.entsL ks)) := by cases hn.2 with | br _ _ _ _ q h => exact ⟨q, h⟩
      exact (nEntry_br hnd hB).mono fun e w' ⟨h1, h2⟩ => ⟨_, _, _, h1, h2⟩
    | ent g q v =>
      have hnd : NdAt w B g (-1) q v none (Tr.s1 v) := by cases hn.2 with | ent _ _ _ h => exact h
      refine (nEntry_ent hnd hB (by intro e; have h1 : q.length = k := hn.1.len; have := hn.1.k1; simp [e] at h1; omega) (by have h1 : q.length = k := hn.1.len; have := hn.1.k16; omega)).mono ?_
      rintro e w' ⟨h, d, he, _, hb⟩
      exact ⟨_, _, _, he, hb⟩
end Go.Proofs.Ytgplbbmenmbaaaa

/-
  A RANGE OVER A FUNCTION: one round ('one_round') and the statement ('range_at'), in the forms that the walks of package tree take; and what is kept where cells alone are looked at ('CellKeep').
-/
namespace Go.Proofs.Ytgplbbmenmbaaaa
open Go.RowKit Go.Shelf
open Tr (T S4 Ent)
attribute [local go_sem] Oper.semAt_some

/-- every cell is as it was; there may be more -/
def CellKeep (w w' : World) : Prop := ∀ p v, w.cell? p = some v → w'.cell? p = some v
theorem CellKeep.refl (w : World) : CellKeep w w := fun _ _ h => h
theorem CellKeep.trans {a b c : World} (h : CellKeep a b) (k : CellKeep b c) : CellKeep a c := fun p v e => k p v (h p v e)
theorem CellKeep.of_below {w w' : World} (h : Below w.heap.size w w') : CellKeep w w' := fun _ _ e => (h.cell (World.block_lt_of_cell? w _ e)).trans e
/-- an object that is no cells may be turned -/
theorem CellKeep.putObj {w : World} {l : Nat} {o o' : Obj} (h : w.heap[l]? = some o) (ho : o.isCells = false) : CellKeep w (w.putObj l o') := fun p v e => by
  obtain ⟨x, hx, hc⟩ := cells_of_cell e
  have hne : p.block ≠ l := by
    intro c
    rw [c, h] at hx
    cases hx
    rw [ho] at hc
    cases hc
  exact (World.cell?_of_block (w := w) (World.putObj_heap_other hne)).trans e
theorem Pts.keepc {w w' : World} {B B' : Nat} {A : Option Addr} {us : List Nat} (h : Pts w B A us) (hk : CellKeep w w') (hB : B ≤ B') : Pts w' B' A us := by
  refine ⟨h.1, fun hn => ?_⟩
  obtain ⟨b, off, hA, hb, hc⟩ := h.2 hn
  exact ⟨b, off, hA, by omega, fun i u hi => hk _ _ (hc i u hi)⟩
theorem RdV.keepc {w w' : World} {B B' : Nat} {A : Option Addr} {xs : List Value} (h : RdV w B A xs) (hk : CellKeep w w') (hB : B ≤ B') : RdV w' B' A xs := by
  intro hn
  obtain ⟨b, off, hA, hb, hc⟩ := h hn
  exact ⟨b, off, hA, by omega, fun i u hi => hk _ _ (hc i u hi)⟩
theorem at_keepc {w w' : World} {B B' b k : Nat} {L : Sn.Al} (h : Sn.At w B b k L) (hk : CellKeep w w') (hB : B ≤ B') : Sn.At w' B' b k L := by
  refine ⟨h.1, ?_⟩
  have h2 := h.2
  generalize Sl.dense k L = d at h2 ⊢
  cases d
  · obtain ⟨h0, A, c, D, c', h1, h2, h3, h4, h5, h6, h7, h8⟩ := h2
    exact ⟨by omega, A, c, D, c', hk _ _ h1, hk _ _ h2, hk _ _ h3, hk _ _ h4, h5, h6, h7.keepc hk hB, h8.keepc hk hB⟩
  · obtain ⟨h0, hkk, hL, P, D, c', h1, h2, h3, h4, h5, h6, h7⟩ := h2
    exact ⟨by omega, hkk, hL, P, D, c', hk _ _ h1, hk _ _ h2, hk _ _ h3, hk _ _ h4, h5, h6, h7.keepc hk hB⟩
theorem NdAt.keepc {w w' : World} {B B' g : Nat} {lev : Int} {pre : List Nat} {v : Nat} {kp : Option Addr} {s : S4} (h : NdAt w B g lev pre v kp s) (hk : CellKeep w w') (hB : B ≤ B') : NdAt w' B' g lev pre v kp s := by
  obtain ⟨h0, ⟨A, c, hp, h1⟩, h2, h3, h4, h5, h6, h7, h8⟩ := h
  exact ⟨by omega, ⟨A, c, hp.keepc hk hB, hk _ _ h1⟩, hk _ _ h2, hk _ _ h3, hk _ _ h4, hk _ _ h5, hk _ _ h6, hk _ _ h7, hk _ _ h8⟩
theorem Mem.keepc {w w' : World} {B B' k : Nat} {t : T} (h : Mem w B k t) (hk : CellKeep w w') (hB : B ≤ B') : Mem w' B' k t := by
  induction h with
  | ent g p v h => exact .ent g p v (h.keepc hk hB)
  | br g l pre ks b h ha hkk ih => exact .br g l pre ks b (h.keepc hk hB) (at_keepc ha hk hB) ih
theorem Node.keepc {w w' : World} {B B' k : Nat} {t : T} (h : Node w B k t) (hk : CellKeep w w') (hB : B ≤ B') : Node w' B' k t := ⟨h.1, h.2.keepc hk hB⟩
theorem NodeO.keepc {w w' : World} {B B' k : Nat} {o : Option T} (h : NodeO w B k o) (hk : CellKeep w w') (hB : B ≤ B') : NodeO w' B' k o := fun t e => (h t e).keepc hk hB

/-- ONE ROUND: the loop's record is ready; the left side is assigned; the body is walked in the world where the record is busy; it goes on, or it leaves by 'return'. -/
theorem one_round {F : Fence} {m : Nat} {P : Program} {L : Nat} {r : Loop} {args : Array Value} {W : World} {a1 : Act} {R : Ending → World → Prop} (hF : F.fn r.fn)
    (hl : W.heap[L]? = some (.loop r)) (hr : r.state = .ready) (hs : args.size = r.params.size)
    (hassign : ∀ K : Act → World → Prop, K a1 W → r.assign.wpIn (F.inRound L) m P (Exit.then K (fun _ _ _ => False)) { tmps := (r.params.zip args).foldl (fun t (p, v) => t.setIfInBounds p v) r.tmps, defers := [] } W)
    (hbody : r.body.wpIn (F.inRound L) m P (fun e _ W3 => match e with
      | .normal => W3.heap[L]? = some (.loop { r with state := .busy }) ∧ R (.returned (.bool true)) (W3.putObj L (.loop { r with state := .ready, pending := none }))
      | .ret => W3.heap[L]? = some (.loop { r with state := .busy }) ∧ R (.returned (.bool false)) (W3.putObj L (.loop { r with state := .done, pending := some .ret }))
      | _ => False) a1 (W.putObj L (.loop { r with state := .busy }))) :
    YieldAt F m P L args W R := by
  refine ⟨r.fn, _, r.assign, r.body, run_yield hl hs, roundIn_of_wpIn hF (hassign _ ⟨_, run_beginRound hl hr, wpIn_mono hbody ?_⟩)⟩
  intro e a3 W3 h
  cases e with
  | normal => exact ⟨_, _, run_endRound none h.1, h.2⟩
  | ret => exact ⟨_, _, run_endRound (some .ret) h.1, h.2⟩
  | exit id => exact h.elim
  | goto t => exact h.elim
  | panic ch => exact h.elim
  | outgrown => exact h.elim

/-- the record of a loop, as the statement lays it in world w -/
def recOf (fn : FuncId) (a : Act) (ps : Array Tmp) (assign body : Code) (w : World) : Loop :=
  { state := .ready, pending := none, fn, tmps := a.tmps, params := ps, assign, body, defers := w.heap.size }
/-- the world in which the iterator is called -/
def rangeWorld (w : World) (r : Loop) : World := (w.alloc (.deferred (some []))).alloc (.loop r)

/-- the activation with the loop's mark -/
def marked (a : Act) (w : World) : Act := { tmps := a.tmps, defers := ({ target := Target.collected w.heap.size, args := #[] } : Deferred) :: a.defers }
/-- what the iterator is called with -/
def yielder (L : Nat) (lb : Array Value) : Array Value := #[Value.func (Fn.yield L) #[] #[]] ++ lb
/-- THE STATEMENT, at an outermost loop: the iterator is called with the loop's yield. -/
theorem range_at {F : Fence} {n : Nat} {P : Program} {g : Operand} {ps : Array Tmp} {assign body : Code} {Q : Exit → Act → World → Prop} {a : Act} {w : World}
    (hro : F.round = none) (h1 : 1 ≤ n) {gf : Nat} {lb : Array Value} (hg : a.eval g = .func (.func gf) #[] lb) (hFg : F.fn gf) (eg : ∀ args w, (callFunc gf args).run P w = .ok (.enter gf args) w)
    (h : ∀ fn, F.fn fn → CallsIn F (n - 1) P gf (yielder (w.heap.size + 1) lb) (rangeWorld w (recOf fn a ps assign body w))
      (rangePost F n P (w.heap.size + 1) Q (marked a w))) :
    (Code.rangeFunc g ps assign body).wpIn F n P Q a w := by
  refine wpIn_rangeFunc fun fn hfn => ?_
  rw [hro]
  refine ⟨w.heap.size + 1, [{ target := .collected w.heap.size, args := #[] }], rangeWorld w (recOf fn a ps assign body w), { target := .fn (.func gf) lb, args := #[.func (.yield (w.heap.size + 1)) #[] #[]] }, rangeWorld w (recOf fn a ps assign body w), gf,
    yielder (w.heap.size + 1) lb, rangeWorld w (recOf fn a ps assign body w), ?_, ?_, ?_, ?_, fun _ => h1, h fn hfn⟩
  · exact run_enterLoop_outer _ _ _ _ _
  · simp only [resolve, hg]
    simp [go_sem]
  · intro f' hf'
    simp [Target.leads] at hf'
    subst hf'
    exact hFg
  · unfold yielder
    simp [invoke, go_sem, eg]
theorem body_eq {F : Fence} {n : Nat} {P : Program} {c d : Code} {Q : Exit → Act → World → Prop} {a : Act} {w : World} (h : c = d) (k : c.wpIn F n P Q a w) : d.wpIn F n P Q a w := h ▸ k
end Go.Proofs.Ytgplbbmenmbaaaa

/-
  CONTRACTS of package tree, seventh part: slices.Backward over nodes; having.
-/
namespace Go.Proofs.Ytgplbbmenmbaaaa
open Go.RowKit Go.Shelf
open Tr (T S4 Ent)
attribute [local go_sem] Oper.semAt_some

/-! ### having -/
/-- one step up: a node with a kid in its place, in a block of its own -/
def stepT (g : Nat) (u n : T) : T := .br g (u.lv - 1) u.pre (Sl.put (Z.addr n.pre (u.lv - 1)) n u.ks)
/-- what having makes of n, going through us -/
def Built : List T → T → T → Prop
  | [], n, t => t = n
  | u :: us, n, t => ∃ g, Built us (stepT g u n) t
theorem built_snoc : ∀ {us : List T} {n t : T} (_ : Built us n t) (u : T) (g : Nat), Built (us ++ [u]) n (stepT g u t)
  | [], _, _, h, u, g => ⟨g, by rw [show _ = _ from h]; rfl⟩
  | _ :: us, _, _, ⟨g', h⟩, u, g => ⟨g', built_snoc h u g⟩
/-- a node that a node can be put into -/
def FitsT (k : Nat) (u n : T) : Prop := ∃ g l pre ks, u = .br g l pre ks ∧ Tr.Wf k n ∧ Z.part pre n.pre ≤ (l : Int) ∧ n.lv ≤ l ∧ (Tr.entsL ks).length + n.ents.length < 18446744073709551616
/-! ### a variable that holds a pointer is no part of a node -/
theorem cell_single {W : World} {X : Nat} {q : Value} {ty : TypeId} (h : W.heap[X]? = some (.cells #[q] ty (0, 0))) {o : Nat} {v : Value} (e : W.cell? ⟨X, o, none⟩ = some v) : o = 0 ∧ v = q := by
  rw [cell_of_row W X _ _ ty (0, 0) h] at e
  match o with
  | 0 => simp at e; exact ⟨rfl, e.symm⟩
  | o + 1 => simp at e
theorem rdV_var {W : World} {X B : Nat} {q v : Value} {ty : TypeId} (h : W.heap[X]? = some (.cells #[q] ty (0, 0))) {A : Option Addr} {xs : List Value} (hr : RdV W B A xs) (hx : 2 ≤ xs.length ∨ ∀ x ∈ xs, x ≠ q) : RdV (W.setCell ⟨X, 0, none⟩ v) B A xs := by
  intro hn
  obtain ⟨b, off, hA, hb, hc⟩ := hr hn
  have hbX : b ≠ X := by
    rintro rfl
    rcases hx with hx | hx
    · obtain ⟨y, hy⟩ := get_lt (us := xs) (k := 1) (by omega)
      have := (cell_single h (hc 1 y hy)).1
      omega
    · obtain ⟨y, hy⟩ := get_lt (us := xs) (k := 0) (List.length_pos_iff.2 hn)
      exact hx y (List.mem_of_getElem? hy) (cell_single h (hc 0 y hy)).2
  exact ⟨b, off, hA, hb, fun i y hi => (World.cell?_of_block (w := W) (a := ⟨b, off + i, none⟩) (Below.heap_setCell _ _ _ _ hbX)).trans (hc i y hi)⟩
theorem set_far {W : World} {X g o : Nat} {v u : Value} (hg : g ≠ X) (h : W.cell? ⟨g, o, none⟩ = some u) : (W.setCell ⟨X, 0, none⟩ v).cell? ⟨g, o, none⟩ = some u :=
  (World.cell?_of_block (w := W) (a := ⟨g, o, none⟩) (Below.heap_setCell _ _ _ _ hg)).trans h
theorem ndAt_var {W : World} {X B g : Nat} {q : Option Addr} {v : Value} {ty : TypeId} (h : W.heap[X]? = some (.cells #[.pointer q] ty (0, 0))) {lev : Int} {pre : List Nat} {vv : Nat} {kp : Option Addr} {s : S4} (hn : NdAt W B g lev pre vv kp s) :
    NdAt (W.setCell ⟨X, 0, none⟩ v) B g lev pre vv kp s := by
  obtain ⟨h0, ⟨A, c, hp, h1⟩, h2, h3, h4, h5, h6, h7, h8⟩ := hn
  have hg : g ≠ X := by
    rintro rfl
    have := (cell_single h h2).2
    cases this
  exact ⟨h0, ⟨A, c, rdV_pts hp.1 (rdV_var h (pts_rdV hp) (.inr fun x hx => by simp only [vals, List.mem_map] at hx; obtain ⟨n, _, rfl⟩ := hx; intro e; cases e)), set_far hg h1⟩, set_far hg h2, set_far hg h3, set_far hg h4, set_far hg h5, set_far hg h6, set_far hg h7, set_far hg h8⟩
theorem at_var {W : World} {X B b k : Nat} {q : Option Addr} {v : Value} {ty : TypeId} (h : W.heap[X]? = some (.cells #[.pointer q] ty (0, 0))) {L : Sn.Al} (ha : Sn.At W B b k L) (h2 : 2 ≤ L.length) : Sn.At (W.setCell ⟨X, 0, none⟩ v) B b k L := by
  refine ⟨ha.1, ?_⟩
  have hr := ha.2
  generalize hd : Sl.dense k L = d at hr ⊢
  cases d
  · obtain ⟨h0, A, c, D, c', k0, k1, k2, k3, h5, h6, h7, h8⟩ := hr
    have hb : b ≠ X := by rintro rfl; have := (cell_single h k0).2; cases this
    exact ⟨h0, A, c, D, c', set_far hb k0, set_far hb k1, set_far hb k2, set_far hb k3, h5, h6, rdV_var h h7 (.inr fun x hx => by simp only [Sn.u16V, List.mem_map] at hx; obtain ⟨n, _, rfl⟩ := hx; intro e; cases e), rdV_var h h8 (.inl (by simp [Sn.elV, Sl.things]; exact h2))⟩
  · obtain ⟨h0, hkk, hL, P, D, c', k0, k1, k2, k3, h5, h6, h7⟩ := hr
    have hb : b ≠ X := by rintro rfl; have := (cell_single h k0).2; cases this
    exact ⟨h0, hkk, hL, P, D, c', set_far hb k0, set_far hb k1, set_far hb k2, set_far hb k3, h5, h6, rdV_var h h7 (.inl (by
      have := ha.1.len
      simp only [Sn.elV, List.length_map, Sl.row_length]
      omega))⟩
theorem node_var {W : World} {X B k : Nat} {q : Option Addr} {v : Value} {ty : TypeId} (h : W.heap[X]? = some (.cells #[.pointer q] ty (0, 0))) {t : T} (hn : Node W B k t) : Node (W.setCell ⟨X, 0, none⟩ v) B k t := by
  refine ⟨hn.1, ?_⟩
  obtain ⟨hw, hm⟩ := hn
  induction hm with
  | ent g p vv hd => exact .ent g p vv (ndAt_var h hd)
  | br g l pre ks b hd ha hkk ih =>
    have h2 : 2 ≤ ks.length := by cases hw with | br _ _ _ _ _ _ h2 => exact h2
    exact .br g l pre ks b (ndAt_var h hd) (at_var h ha (by rw [kidL_length]; exact h2)) (fun x hx => ih x hx (hw.kid hx))

/-- WHAT HOLDS BETWEEN TWO ROUNDS of having, j nodes having been gone through, but for the loop's own record: the variable's block X, the box of the iterator Bs. -/
structure Hav (w : World) (B k : Nat) (us : List T) (x : T) (A : Option Addr) (c b : Nat) (r : Option Addr) (j : Nat) (W : World) : Prop where
  cur : ∃ t ty, W.heap[w.heap.size]? = some (.cells #[.pointer (some ⟨t.blk, 0, none⟩)] ty (0, 0)) ∧ Node W W.heap.size k t ∧ Built (us.reverse.take j) x t
  box : W.cell? ⟨w.heap.size + 1, 0, none⟩ = some (.slice A us.length c)
  row : RdV W B A (ptrV us)
  tre : TreC W b k r
  dfr : W.heap[w.heap.size + 2]? = some (.deferred (some []))
  bel : Below w.heap.size w W
  size : w.heap.size + 4 ≤ W.heap.size
end Go.Proofs.Ytgplbbmenmbaaaa

/-
  PLAIN MATHEMATICS of layer 7, second part: what a path leads to; what having makes of it.
-/
namespace Go.Proofs.Ytgplbbmenmbaaaa
open Tr (T S4 Ent)
namespace Tr
open Go.Proofs.Ytgplbbmenmbaaaa.Z

def isBr : T → Prop
  | .br _ _ _ _ => True
  | .ent _ _ _ => False
/-- the way L from o leads to y, towards p: through nodes of kids that cover p -/
def Chain (p : List Nat) : Option T → List T → Option T → Prop
  | o, [], y => y = o
  | o, u :: L, y => o = some u ∧ isBr u ∧ covers u p = true ∧ Chain p (kidAt u p) L y
theorem chain_split {p : List Nat} : ∀ {L1 : List T} {o : Option T} {u : T} {L2 : List T} {y : Option T}, Chain p o (L1 ++ u :: L2) y → Chain p (some u) (u :: L2) y ∧ (∀ k, (∀ t, o = some t → Wf k t) → Wf k u)
  | [], o, u, L2, y, h => by
    obtain ⟨h1, h2, h3, h4⟩ := h
    exact ⟨⟨rfl, h2, h3, h4⟩, fun k hw => hw u h1⟩
  | v :: L1, o, u, L2, y, h => by
    obtain ⟨h1, h2, h3, h4⟩ := h
    have ih := chain_split h4
    exact ⟨ih.1, fun k hw => ih.2 k fun s hs => (kidAt_wf (hw v h1) hs).1⟩
theorem chain_y {p : List Nat} {k : Nat} : ∀ {L : List T} {o y : Option T}, Chain p o L y → (∀ t, o = some t → Wf k t) → ∀ t, y = some t → Wf k t
  | [], _, _, h, hw, t, ht => hw t (by rw [← show _ = _ from h]; exact ht)
  | _ :: _, _, _, h, hw, t, ht => chain_y h.2.2.2 (fun s hs => (kidAt_wf (hw _ h.1) hs).1) t ht
theorem ents_le {k : Nat} {u s : T} (h : Wf k u) {p : List Nat} (hs : kidAt u p = some s) : s.ents.length ≤ u.ents.length := by
  have hm := kidAt_mem hs
  cases u with
  | ent g q v => simp [T.ks] at hm
  | br g l pre ks =>
    obtain ⟨i, hi⟩ := List.mem_iff_getElem?.1 hm
    have := offK_le (ks := ks) hi
    rw [ents_br]
    simp only at this
    omega
theorem chain_len {p : List Nat} {k : Nat} : ∀ {L : List T} {o y : Option T}, Chain p o L y → (∀ t, o = some t → Wf k t) → (entsO y).length ≤ (entsO o).length
  | [], _, _, h, _ => by rw [show _ = _ from h]; exact Nat.le_refl _
  | u :: L, o, y, h, hw => by
    have ih := chain_len h.2.2.2 (fun s hs => (kidAt_wf (hw u h.1) hs).1)
    have h1 : (entsO (kidAt u p)).length ≤ u.ents.length := by
      rcases hs : kidAt u p with _ | s
      · simp [entsO]
      · exact ents_le (hw u h.1) hs
    rw [h.1]
    exact Nat.le_trans ih h1
theorem chain_snoc {p : List Nat} : ∀ {L : List T} {o : Option T} {u : T}, Chain p o L (some u) → isBr u → covers u p = true → Chain p o (L ++ [u]) (kidAt u p)
  | [], _, _, h, h1, h2 => ⟨(show _ = _ from h).symm, h1, h2, rfl⟩
  | _ :: _, _, _, h, h1, h2 => ⟨h.1, h.2.1, h.2.2.1, chain_snoc h.2.2.2 h1 h2⟩
/-- where a path leads: to an entry at the point itself, or to nothing, or to a node that doesn't cover it -/
theorem path_chain {k : Nat} {p : List Nat} (hp : p.length = k) (ho : Ok p) : ∀ (n : Nat) (o : Option T), (∀ t, o = some t → Wf k t ∧ t.lv < n) →
    (∃ g v L, pathF n o p = L ++ [.ent g p v] ∧ stopF n o p = none ∧ Chain p o L (some (.ent g p v))) ∨
    (Chain p o (pathF n o p) (stopF n o p) ∧ (∀ t, stopF n o p = some t → covers t p = false) ∧ (pathF n o p = [] ∨ ∃ L u, pathF n o p = L ++ [u] ∧ isBr u))
  | 0, none, _ => .inr ⟨rfl, fun t ht => (by cases ht), .inl rfl⟩
  | 0, some t, h => by have := (h t rfl).2; omega
  | n + 1, none, _ => .inr ⟨rfl, fun t ht => (by cases ht), .inl rfl⟩
  | n + 1, some t, h => by
    obtain ⟨wf, hl⟩ := h t rfl
    by_cases hc : covers t p = true
    · have ih := path_chain hp ho n (kidAt t p) (fun s hs => by
        have := kidAt_wf wf hs
        exact ⟨this.1, by omega⟩)
      cases t with
      | ent g q v =>
        have hq : p = q := by
          have := (covers_iff wf hp ho).1 hc
          rw [show (T.ent g q v).lv = 0 from rfl, cut_zero] at this
          exact this
        subst hq
        refine .inl ⟨g, v, [], ?_, ?_, rfl⟩
        · simp only [pathF, hc, if_true, kidAt_ent]
          cases n <;> rfl
        · simp only [stopF, hc, if_true, kidAt_ent]
          cases n <;> rfl
      | br g l pre ks =>
        simp only [pathF, stopF, hc, if_true]
        rcases ih with ⟨g', v, L, h1, h2, h3⟩ | ⟨h1, h2, h3⟩
        · exact .inl ⟨g', v, .br g l pre ks :: L, by rw [h1]; rfl, h2, rfl, trivial, hc, h3⟩
        · refine .inr ⟨⟨rfl, trivial, hc, h1⟩, h2, .inr ?_⟩
          rcases h3 with h3 | ⟨L, u, h3, h4⟩
          · exact ⟨[], .br g l pre ks, by rw [h3]; rfl, trivial⟩
          · exact ⟨.br g l pre ks :: L, u, by rw [h3]; rfl, h4⟩
    · have hc' : covers t p = false := by simpa using hc
      refine .inr ?_
      simp only [pathF, stopF, hc', if_false, Bool.false_eq_true]
      refine ⟨rfl, fun s hs => by cases hs; exact hc', ?_⟩
      first | exact .inl rfl | simp
end Tr
open Tr

theorem built_inv : ∀ {us : List T} {u n t : T}, Built (us ++ [u]) n t → ∃ s g, Built us n s ∧ t = stepT g u s
  | [], _, n, _, h => by obtain ⟨g, h⟩ := h; exact ⟨n, g, rfl, h⟩
  | _ :: us, _, _, _, ⟨g', h⟩ => by
    obtain ⟨s, g, h1, h2⟩ := built_inv h
    exact ⟨s, g, ⟨g', h1⟩, h2⟩
/-- what having makes: the change goes up -/
theorem built_turned {k : Nat} {p : List Nat} (hp : p.length = k) (ho : Z.Ok p) {A : Ent → Prop} {x : T} (hx : Wf k x) : ∀ {L : List T} {o y : Option T}, (∀ t, o = some t → Wf k t) → Chain p o L y → (∀ L' u, L = L' ++ [u] → Under x p (u.lv - 1)) → Turned A p (entsO y) x.ents →
    ∀ t, Built L.reverse x t → Wf k t ∧ Turned A p (entsO o) t.ents ∧ (∀ u, L ≠ [] → o = some u → ∀ m, u.lv ≤ m → Under t p m)
  | [], o, y, _, hch, _, ht, t, hb => by
    have hb' : t = x := hb
    have hy : y = o := hch
    subst hb' hy
    exact ⟨hx, ht, fun u h => absurd rfl h⟩
  | u :: L, o, y, hw, hch, hu, ht, t, hb => by
    obtain ⟨h1, h2, h3, h4⟩ := hch
    rw [List.reverse_cons] at hb
    obtain ⟨s, g, hb1, rfl⟩ := built_inv hb
    have wu := hw u h1
    have ih := built_turned hp ho hx (fun r hr => (kidAt_wf wu hr).1) h4 (fun L' v e => hu (u :: L') v (by rw [e]; rfl)) ht s hb1
    have hus : Under s p (u.lv - 1) := by
      cases L with
      | nil => 
        have : s = x := hb1
        rw [this]
        exact hu [] u rfl
      | cons v L =>
        have hk := h4.1
        have := kidAt_wf wu hk
        exact ih.2.2 v (by simp) hk _ (by omega)
    cases u with
    | ent _ _ _ => exact h2.elim
    | br g0 l pre ks =>
      have hl : (T.br g0 l pre ks).lv - 1 = l := rfl
      rw [hl] at hus
      have hT := turned_up (g' := g) wu hp ho h3 ih.1 hus ih.2.1
      have he : stepT g (.br g0 l pre ks) s = .br g l pre (Sl.put (Z.addr p l) s ks) := by
        unfold stepT
        rw [hl, hus.addr]
        rfl
      rw [he, h1]
      refine ⟨hT.1, hT.2.2, fun v _ hv m hm => ?_⟩
      have : v = .br g0 l pre ks := by injection hv with e; exact e.symm
      subst this
      exact hT.2.1 m hm
theorem turned_put {k : Nat} {o n : List Ent} (hz : ZS o) (hd : Dim k o) {p : List Nat} (hp : p.length = k) (ho : Z.Ok p) {v : Nat} (hn : ZS n) (ht : Turned (fun e => e = (p, v)) p o n) : n = putE p v o := by
  refine ZS.ext hn (hz.put p v) fun e => ?_
  rw [ht e, mem_putE hz]
  constructor
  · rintro (h | ⟨h1, h2⟩)
    · exact .inl h
    · exact .inr ⟨h1, (hd.key_ne hp ho h1).2 h2⟩
  · rintro (h | ⟨h1, h2⟩)
    · exact .inl h
    · exact .inr ⟨h1, (hd.key_ne hp ho h1).1 h2⟩
theorem turned_gone {k : Nat} {o n : List Ent} (hz : ZS o) (hd : Dim k o) {p : List Nat} (hp : p.length = k) (ho : Z.Ok p) (hn : ZS n) (ht : Turned (fun _ => False) p o n) : n = delE p o := by
  refine ZS.ext hn (hz.del p) fun e => ?_
  rw [ht e, mem_delE hz, false_or]
  constructor
  · rintro ⟨h1, h2⟩
    exact ⟨h1, (hd.key_ne hp ho h1).2 h2⟩
  · rintro ⟨h1, h2⟩
    exact ⟨h1, (hd.key_ne hp ho h1).1 h2⟩
theorem entsO_zs {k : Nat} {o : Option T} (h : ∀ t, o = some t → Wf k t) : ZS (entsO o) ∧ Dim k (entsO o) := by
  cases o with
  | none => exact ⟨ZS.nil, fun e he => by simp [entsO] at he⟩
  | some t => exact ⟨(h t rfl).zs, (h t rfl).dim⟩
/-- one entry more, at the most -/
theorem turned_len {k : Nat} {o n : List Ent} (hz : ZS o) (hd : Dim k o) {p : List Nat} (hp : p.length = k) (ho : Z.Ok p) (hn : ZS n) {A : Ent → Prop} (hA : (∃ v, A = fun e => e = (p, v)) ∨ A = fun _ => False) (ht : Turned A p o n) : n.length ≤ o.length + 1 := by
  rcases hA with ⟨v, rfl⟩ | rfl
  · rw [turned_put hz hd hp ho hn ht]; exact length_putE hz p v
  · rw [turned_gone hz hd hp ho hn ht]; have := length_delE p o; omega
/-- each node on the way takes what is made below it -/
theorem built_fits {k : Nat} {p : List Nat} (hp : p.length = k) (ho : Z.Ok p) {A : Ent → Prop} (hA : (∃ v, A = fun e => e = (p, v)) ∨ A = fun _ => False) {x : T} (hx : Wf k x) {L : List T} {o y : Option T} (hw : ∀ t, o = some t → Wf k t) (hch : Chain p o L y)
    (hu : ∀ L' u, L = L' ++ [u] → Under x p (u.lv - 1)) (ht : Turned A p (entsO y) x.ents) (hN : (entsO o).length ≤ 4611686018427387904) (j : Nat) (u t : T) (hj : L.reverse[j]? = some u) (hb : Built (L.reverse.take j) x t) : FitsT k u t := by
  have hjl : j < L.length := by have := lt_get hj; simpa using this
  rw [List.getElem?_reverse hjl] at hj
  obtain ⟨hlt, e⟩ := List.getElem?_eq_some_iff.1 hj
  have hsplit : L = L.take (L.length - 1 - j) ++ u :: L.drop (L.length - j) := by
    conv => lhs; rw [← List.take_append_drop (L.length - 1 - j) L]
    congr 1
    rw [List.drop_eq_getElem_cons hlt, e]
    congr 2
    omega
  have hrev : L.reverse.take j = (L.drop (L.length - j)).reverse := by
    rw [List.take_reverse]
  generalize hL1 : L.take (L.length - 1 - j) = L1 at hsplit
  generalize hL2 : L.drop (L.length - j) = L2 at hsplit hrev
  rw [hrev] at hb
  subst hsplit
  obtain ⟨hc, hwu⟩ := chain_split hch
  have wu := hwu k hw
  obtain ⟨-, h2, h3, h4⟩ := hc
  have hT := built_turned hp ho hx (fun r hr => (kidAt_wf wu hr).1) h4 (fun L' v e => hu (L1 ++ u :: L') v (by rw [e]; simp)) ht t hb
  have hus : Under t p (u.lv - 1) := by
    cases L2 with
    | nil =>
      have : t = x := hb
      rw [this]
      exact hu L1 u rfl
    | cons v L =>
      have hk := h4.1
      have := kidAt_wf wu hk
      exact hT.2.2 v (by simp) hk _ (by omega)
  cases u with
  | ent _ _ _ => exact h2.elim
  | br g0 l pre ks =>
    have hl : (T.br g0 l pre ks).lv - 1 = l := rfl
    rw [hl] at hus
    have hcut := (covers_iff wu hp ho).1 h3
    have hlen : (entsL ks).length ≤ (entsO o).length := by
      have : ∀ {M : List T} {q : Option T} {r : T} {N : List T} {z : Option T}, (∀ t, q = some t → Wf k t) → Chain p q (M ++ r :: N) z → r.ents.length ≤ (entsO q).length := by
        intro M
        induction M with
        | nil => intro q r N z _ h; rw [h.1]; exact Nat.le_refl _
        | cons a M ih =>
          intro q r N z hq h
          have h6 := ih (fun s hs => (kidAt_wf (hq a h.1) hs).1) h.2.2.2
          rw [h.1]
          refine Nat.le_trans h6 ?_
          rcases hs : kidAt a p with _ | s
          · simp [entsO]
          · exact ents_le (hq a h.1) hs
      have h7 := this hw hch
      rw [ents_br] at h7
      exact h7
    have hkid : (entsO (kidAt (.br g0 l pre ks) p)).length ≤ (entsL ks).length := by
      rcases hs : kidAt (.br g0 l pre ks) p with _ | s
      · simp [entsO]
      · have := ents_le wu hs; rw [ents_br] at this; exact this
    have hz := entsO_zs (k := k) (o := kidAt (.br g0 l pre ks) p) (fun r hr => (kidAt_wf wu hr).1)
    have htl := turned_len hz.1 hz.2 hp ho hT.1.zs hA hT.2.1
    exact ⟨g0, l, pre, ks, rfl, hT.1, hus.part hT.1 wu.len wu.ok hcut, hus.1, by omega⟩
end Go.Proofs.Ytgplbbmenmbaaaa

/-
  PLAIN MATHEMATICS of layer 7, third part: what is at a point, by its path; what a put puts there.
-/
namespace Go.Proofs.Ytgplbbmenmbaaaa
open Tr (T S4 Ent)
namespace Tr
open Go.Proofs.Ytgplbbmenmbaaaa.Z

/-- the entries at a point are those of where its path leads -/
theorem chain_at {k : Nat} {p : List Nat} : ∀ {L : List T} {o y : Option T}, Chain p o L y → (∀ t, o = some t → Wf k t) → ∀ e : Ent, e.1 = p → (e ∈ entsO o ↔ e ∈ entsO y)
  | [], _, _, h, _, e, _ => by rw [show _ = _ from h]
  | u :: L, o, y, h, hw, e, he => by
    obtain ⟨h1, h2, h3, h4⟩ := h
    have wu := hw u h1
    rw [← chain_at h4 (fun s hs => (kidAt_wf wu hs).1) e he, h1]
    cases u with
    | ent _ _ _ => exact h2.elim
    | br g l pre ks =>
      rw [mem_kidAt wu, he]
      simp [entsO]
/-- a node that doesn't cover a point has no entry there -/
theorem not_at {k : Nat} {b : T} (h : Wf k b) {p : List Nat} (hp : p.length = k) (ho : Ok p) (hc : covers b p = false) : ∀ e ∈ b.ents, e.1 ≠ p := by
  rintro e he rfl
  have := (covers_iff h hp ho).2 (h.each e he).2.2.2
  rw [hc] at this
  cases this
theorem get_here {k : Nat} {p : List Nat} (hp : p.length = k) (ho : Ok p) {L : List T} {o : Option T} {g v : Nat} (hw : ∀ t, o = some t → Wf k t) (h : Chain p o L (some (.ent g p v))) : getE (entsO o) p = some v := by
  have hz := entsO_zs hw
  rw [getE_iff hz.1 hz.2 hp ho, chain_at h hw (p, v) rfl]
  show (p, v) ∈ (T.ent g p v).ents
  rw [ents_ent]
  exact List.mem_singleton.2 rfl
theorem get_none {k : Nat} {p : List Nat} (hp : p.length = k) (ho : Ok p) {L : List T} {o y : Option T} (hw : ∀ t, o = some t → Wf k t) (h : Chain p o L y) (hy : ∀ t, y = some t → covers t p = false) : getE (entsO o) p = none := by
  have hz := entsO_zs hw
  rw [getE_none hz.1 hz.2 hp ho]
  intro e he hep
  have h1 := (chain_at h hw e hep).1 he
  cases y with
  | none => simp [entsO] at h1
  | some b => exact not_at (chain_y h hw b rfl) hp ho (hy b rfl) e h1 hep
/-- WHAT A PUT PUTS where a path leads -/
def PutX (p : List Nat) (v : Nat) (y : Option T) (x : T) : Prop :=
  (∃ g, x = .ent g p v ∧ (y = none ∨ ∃ g' v', y = some (.ent g' p v'))) ∨
  (∃ b g g' l, y = some b ∧ covers b p = false ∧ Z.part b.pre p = ((l : Nat) : Int) ∧ x = .br g l (cut b.pre (l + 1)) (Sl.put (addr p l) (.ent g' p v) (Sl.put (addr b.pre l) b [])))
theorem under_ent (g : Nat) (p : List Nat) (v m : Nat) : Under (.ent g p v) p m := ⟨Nat.zero_le _, rfl⟩
theorem putX_turned {k : Nat} {p : List Nat} (hp : p.length = k) (ho : Ok p) {v : Nat} {y : Option T} {x : T} (hy : ∀ t, y = some t → Wf k t) (h : PutX p v y x) : Turned (fun e => e = (p, v)) p (entsO y) x.ents := by
  intro e
  rcases h with ⟨g, rfl, rfl | ⟨g', v', rfl⟩⟩ | ⟨b, g, g', l, rfl, hc, hpart, rfl⟩
  · simp [entsO, ents_ent]
  · simp only [entsO, ents_ent, List.mem_singleton]
    constructor
    · exact fun h => .inl h
    · rintro (h | ⟨h1, h2⟩)
      · exact h
      · rw [h1] at h2; exact absurd rfl h2
  · have wb := hy b rfl
    have hne : addr b.pre l ≠ addr p l := by
      rcases part_spec (by rw [wb.len, hp]) wb.ok ho with ⟨e1, _⟩ | ⟨m, _, e1, h1, _⟩
      · omega
      · have : m = l := by omega
        subst this; exact h1
    rw [ents_br, mem_entsL]
    constructor
    · rintro ⟨z, hz, he⟩
      rcases Sl.mem_put hz with rfl | hz
      · rw [ents_ent] at he; exact .inl (List.mem_singleton.1 he)
      · rcases Sl.mem_put hz with rfl | hz
        · exact .inr ⟨he, not_at wb hp ho hc e he⟩
        · simp at hz
    · have s1 : Sl.Srt (Sl.put (addr b.pre l) b ([] : List (Nat × T))) := Sl.srt_put _ _ Sl.srt_nil
      rintro (h | ⟨h1, h2⟩)
      · subst h
        exact ⟨(addr p l, .ent g' p v), (Sl.get_iff (Sl.srt_put _ _ s1)).1 (by rw [Sl.get_put s1, if_pos rfl]), by rw [ents_ent]; exact List.mem_singleton.2 rfl⟩
      · exact ⟨(addr b.pre l, b), (Sl.get_iff (Sl.srt_put _ _ s1)).1 (by rw [Sl.get_put s1, if_neg (by omega), Sl.get_put Sl.srt_nil, if_pos rfl]), h1⟩
/-- what is put stands as it must below the last node of the way -/
theorem putX_under {k : Nat} {p : List Nat} (hp : p.length = k) (ho : Ok p) {v : Nat} : ∀ {L : List T} {o y : Option T} {x : T}, (∀ t, o = some t → Wf k t) → Chain p o L y → PutX p v y x → ∀ L' u, L = L' ++ [u] → Under x p (u.lv - 1)
  | [], _, _, _, _, _, _, L', u, h => by simp at h
  | a :: L, o, y, x, hw, hch, hx, L', u, h => by
    obtain ⟨h1, h2, h3, h4⟩ := hch
    have wa := hw a h1
    cases L' with
    | cons c L' =>
      simp only [List.cons_append, List.cons.injEq] at h
      exact putX_under hp ho (fun s hs => (kidAt_wf wa hs).1) h4 hx L' u h.2
    | nil =>
      simp only [List.nil_append, List.cons.injEq] at h
      obtain ⟨rfl, rfl⟩ := h
      have hy : y = kidAt a p := h4
      rcases hx with ⟨g, rfl, _⟩ | ⟨b, g, g', l, hb, hc, hpart, rfl⟩
      · exact under_ent _ _ _ _
      · rw [hy] at hb
        have hkw := kidAt_wf wa hb
        have hcut := (covers_iff wa hp ho).1 h3
        have hlp : 0 < a.lv := by omega
        have e1 : cut b.pre (a.lv - 1) = cut p (a.lv - 1) := by
          refine points_eq (by rw [cut_length, cut_length, hkw.1.len, hp]) (cut_ok hkw.1.ok _) (cut_ok ho _) fun m _ => ?_
          rw [cut_addr, cut_addr]
          split
          · rename_i hm
            by_cases c : m = a.lv - 1
            · rw [c]; exact hkw.2.2.1
            · have c1 := cut_addr b.pre a.lv m
              have c2 := cut_addr p a.lv m
              rw [if_pos (by omega)] at c1 c2
              rw [← c1, ← c2, hkw.2.2.2, hcut]
          · rfl
        have hl : l < a.lv - 1 := by
          have := (cut_eq_iff (by rw [hkw.1.len, hp]) hkw.1.ok ho (a.lv - 1)).1 e1
          omega
        refine ⟨hl, ?_⟩
        show cut (cut b.pre (l + 1)) (a.lv - 1) = _
        rw [cut_cut _ _ _ (by omega), e1]
/-- ALL OF IT: what having makes of what is put -/
theorem put_all {k : Nat} {p : List Nat} (hp : p.length = k) (ho : Ok p) {v : Nat} {L : List T} {o y : Option T} {x t : T} (hw : ∀ t, o = some t → Wf k t) (hch : Chain p o L y) (hx : PutX p v y x) (wx : Wf k x) (hb : Built L.reverse x t) : t.ents = putE p v (entsO o) := by
  have hT := built_turned hp ho wx hw hch (putX_under hp ho hw hch hx) (putX_turned hp ho (fun s hs => chain_y hch hw s hs) hx) t hb
  have hz := entsO_zs hw
  exact turned_put hz.1 hz.2 hp ho hT.1.zs hT.2.1
end Tr
end Go.Proofs.Ytgplbbmenmbaaaa
