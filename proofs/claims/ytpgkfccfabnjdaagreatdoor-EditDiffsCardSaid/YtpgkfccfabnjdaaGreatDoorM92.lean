import Derived.Test.YtpgkfccfabnjdaaGreatDoorM91
import Derived.Test.YtpgkfccfabnjdaaGreatDoorM80
import Derived.Test.YtpgkfccfabnjdaaGreatDoorM26
/-
  CONTRACTS of package diff, third part: whoever is told ('VisitD'); what holds on the way through two nodes ('ThrD').
-/
namespace Go.Proofs.YtpgkfccfabnjdaaGreatDoor
open Go.ChangeShapes Go.WideShapes Go.ChangeAt Go.RowKit
open Tr (T S4 Ent Sd Fl Chg)

def TellOk (x y : Option T) : Prop := (x = none ∧ y ≠ none) ∨ (x ≠ none ∧ y = none) ∨ ∃ g g' p v u, x = some (.ent g p v) ∧ y = some (.ent g' p u) ∧ v ≠ u
theorem tell_ne {w : World} {B k : Nat} {x y : Option T} (hx : NodeO w B k x) (hy : NodeO w B k y) (h : TellOk x y) : Tr.chO x y ≠ [] := by
  obtain ⟨zx, dx⟩ := entsO_zs (k := k) (o := x) fun t e => (hx t e).1
  obtain ⟨zy, dy⟩ := entsO_zs (k := k) (o := y) fun t e => (hy t e).1
  intro hn
  have he := (Tr.chL_nil zx zy dx dy).1 hn
  rcases h with ⟨rfl, h⟩ | ⟨h, rfl⟩ | ⟨g, g', p, v, u, rfl, rfl, hne⟩
  · cases y with
    | none => exact h rfl
    | some t => exact (hy t rfl).1.ne he.symm
  · cases x with
    | none => exact h rfl
    | some t => exact (hx t rfl).1.ne he
  · simp only [Tr.entsO, Tr.ents_ent, List.cons.injEq, Prod.mk.injEq, true_and, and_true] at he
    exact hne he
structure VisitD (fid : Nat) (lb : Array Value) (B k M : Nat) (go : Bool) (Inv : List Chg → World → (Nat → Prop) → Prop) : Prop where
  ent : ∀ args w, (callFunc fid args).run Tryz.prog w = .ok (.enter fid args) w
  frame : ∀ us w w' F, Inv us w F → w.heap.size ≤ w'.heap.size → (∀ b, F b → w'.heap[b]? = w.heap[b]?) → Inv us w' F
  inb : ∀ us w F, Inv us w F → ∀ b, F b → b < w.heap.size ∧ B ≤ b
  call : ∀ us w F x y, Inv us w F → NodeO w B k x → NodeO w B k y → B ≤ w.heap.size → (∀ w', Below B w w' → Tz w') → TellOk x y → us.length + (Tr.chO x y).length ≤ M → Calls Tryz.prog fid (#[.pointer (rootP x), .pointer (rootP y)] ++ lb) w fun e w' =>
    e = .returned (.bool go) ∧ ∃ F', Inv (us ++ Tr.chO x y) w' F' ∧ (∀ b, F' b → F b ∨ w.heap.size ≤ b) ∧ Foot F w w'
structure ThrD (B k : Nat) (C : List Chg) (go : Bool) (Inv : List Chg → World → (Nat → Prop) → Prop) (fv : Value) (w : World) (F : Nat → Prop) (P : List Chg) (S : List Fl) (D : Option Addr) (d : Nat) (w' : World) : Prop where
  us : ∃ us F', C = us ++ (P ++ Tr.chS S) ∧ (go = false → us = []) ∧ Inv us w' F' ∧ (∀ b, F' b → F b ∨ w.heap.size ≤ b) ∧ ¬ F' w.heap.size ∧ (∀ q, D.map (·.block) = some q → ¬ F' q)
  fr : ∀ x ∈ S, Tr.FrOk k x.1 x.2 ∧ Node w B k x.2.x.t ∧ Node w B k x.2.y.t
  foot : Foot F w w'
  box : w'.heap[w.heap.size]? = some (.cells #[fv] 197 (0, 0))
  stk : OwnL 246 7 PrQ w' (w.heap.size + 1) (.slice D S.length d) S.reverse
  lev : Tr.LevS S
section
variable {fid : Nat} {lb : Array Value} {B k M : Nat} {C : List Chg} {go : Bool} {Inv : List Chg → World → (Nat → Prop) → Prop} {fv : Value} {w : World} {F : Nat → Prop} {P : List Chg} {S : List Fl} {D : Option Addr} {d : Nat} {w1 w2 : World}
theorem ThrD.lt (s : ThrD B k C go Inv fv w F P S D d w1) : w.heap.size < w1.heap.size := (Array.getElem?_eq_some_iff.1 s.box).1
theorem ThrD.old (hv : VisitD fid lb B k M go Inv) (hI : Inv [] w F) (hB : B ≤ w.heap.size) (s : ThrD B k C go Inv fv w F P S D d w1) : Below B w w1 := s.foot.below hB fun b hb => (hv.inb _ _ _ hI b hb).2
theorem ThrD.below (hv : VisitD fid lb B k M go Inv) (s : ThrD B k C go Inv fv w F P S D d w1) (hb : Below w1.heap.size w1 w2) : ThrD B k C go Inv fv w F P S D d w2 := by
  obtain ⟨us, F', e1, e2, e3, e4, e5, e6⟩ := s.us
  exact ⟨⟨us, F', e1, e2, hv.frame _ _ _ _ e3 hb.size (fun b hF => hb.block b (hv.inb _ _ _ e3 b hF).1), e4, e5, e6⟩, s.fr, s.foot.trans (Foot.of_below (F := F) hb) (fun b hb => .inl hb), (hb.block _ s.lt).trans s.box, OwnL.below s.stk hb (Nat.le_refl _), s.lev⟩
theorem ThrD.to (s : ThrD B k C go Inv fv w F P S D d w1) {Q : List Chg} (h : P = Q) : ThrD B k C go Inv fv w F Q S D d w1 := h ▸ s
theorem ThrD.told {x y : Option T} (hv : VisitD fid lb B k M go Inv) (s : ThrD B k C go Inv fv w F (Tr.chO x y) S D d w1) (hx : NodeO w1 B k x) (hy : NodeO w1 B k y) (hB : B ≤ w1.heap.size) (hT : ∀ w', Below B w1 w' → Tz w') (ht : TellOk x y) (hM : C.length ≤ M) :
    Calls Tryz.prog fid (#[.pointer (rootP x), .pointer (rootP y)] ++ lb) w1 fun e w2 => e = .returned (.bool go) ∧
      (go = true → ThrD B k C go Inv fv w F [] S D d w2) ∧ (go = false → ∃ us F', Inv us w2 F' ∧ us ≠ [] ∧ C ≠ [] ∧ (∀ b, F' b → F b ∨ w.heap.size ≤ b) ∧ Foot F w w2) := by
  obtain ⟨us, F', e1, e2, e3, e4, e5, e6⟩ := s.us
  have hl := congrArg List.length e1
  rw [List.length_append, List.length_append] at hl
  have hne := tell_ne hx hy ht
  refine (hv.call us w1 F' x y e3 hx hy hB hT ht (by omega)).mono ?_
  rintro e w2 ⟨rfl, F2, i2, hF2, hfo⟩
  have hlt := s.lt
  have hsz := hfo.size
  have hF2' : ∀ b, F2 b → F b ∨ w.heap.size ≤ b := fun b hb => by
    rcases hF2 b hb with c | c
    · exact e4 b c
    · exact .inr (by omega)
  have hfo2 : Foot F w w2 := s.foot.trans hfo e4
  refine ⟨rfl, fun hg => ?_, fun hg => ?_⟩
  · refine ⟨⟨us ++ Tr.chO x y, F2, by rw [e1]; simp, fun h => (by rw [hg] at h; cases h), i2, hF2', fun hb => ?_, fun q hq hb => ?_⟩, s.fr, hfo2, ?_, s.stk.block fun q hq => ?_, s.lev⟩
    · rcases hF2 _ hb with c | c
      · exact e5 c
      · omega
    · rcases hF2 _ hb with c | c
      · exact e6 q hq c
      · have := (s.stk.lt q (by rw [own_block]; exact hq)).2
        omega
    · rw [hfo.block _ hlt e5]; exact s.box
    · have h1 := s.stk.lt q hq
      exact hfo.block q h1.2 (e6 q (by rw [← own_block]; exact hq))
  · refine ⟨us ++ Tr.chO x y, F2, i2, fun h => hne (List.append_eq_nil_iff.1 h).2, fun h => ?_, hF2', hfo2⟩
    rw [h] at e1
    exact hne (List.append_eq_nil_iff.1 (List.append_eq_nil_iff.1 e1.symm).2).1
theorem ThrD.push {l : Nat} {f : Tr.Fr} {w5 : World} {D2 : Option Addr} {d2 : Nat} (hv : VisitD fid lb B k M go Inv) (s : ThrD B k C go Inv fv w F P S D d w1) (hf : Tr.FrOk k l f) (hx : Node w B k f.x.t) (hy : Node w B k f.y.t) (hP : Tr.chM (Tr.remF f) = P) (hl : l + (S.length + 1) ≤ 64) (hb : Below w1.heap.size w1 w2)
    (hown : OwnL 246 7 PrQ w5 (w.heap.size + 1) (.slice D2 (S.length + 1) d2) (S.reverse ++ [(l, f)])) (hgr : w2.grownBy w5 (D.map (·.block)))
    (hat : D2.map (·.block) = D.map (·.block) ∨ D2.map (·.block) = some w2.heap.size) : ThrD B k C go Inv fv w F [] ((l, f) :: S) D2 d2 w5 := by
  obtain ⟨us, F', e1, e2, e3, e4, e5, e6⟩ := s.us
  have hlt := s.lt
  have h12 := hb.size
  have hblk : ∀ b, b < w1.heap.size → D.map (·.block) ≠ some b → w5.heap[b]? = w1.heap[b]? := fun b hb' hne => by
    rw [hgr.block b (by omega) (fun e => hne e.symm), hb.block b hb']
  have hsz : w1.heap.size ≤ w5.heap.size := Nat.le_trans hb.size hgr.size
  have hDlt : ∀ q, D.map (·.block) = some q → w.heap.size + 1 ≤ q ∧ q < w1.heap.size := fun q hq => s.stk.lt q (by rw [own_block]; exact hq)
  have hinb := hv.inb _ _ _ e3
  have hft : Foot F w w5 := by
    refine s.foot.trans (F1 := fun b => D.map (·.block) = some b) ⟨?_, ?_, ?_, hsz, fun b hb' hne => hblk b hb' hne⟩ (fun b hb' => .inr (by have := hDlt b hb'; omega))
    · exact hgr.os.trans hb.os
    · exact hgr.tape.trans hb.tape
    · exact hgr.output.trans hb.output
  refine ⟨⟨us, F', ?_, e2, hv.frame _ _ _ _ e3 hsz (fun b hF => hblk b (hinb b hF).1 (fun e => e6 b e hF)), e4, e5, fun q hq hF => ?_⟩, fun x hx' => ?_, hft, ?_, ?_, hl, s.lev⟩
  · rw [e1, Tr.chS_cons, hP, List.nil_append]
  · rcases hat with c | c
    · exact e6 q (by rw [← c]; exact hq) hF
    · rw [c] at hq
      cases hq
      have := (hinb _ hF).1
      omega
  · rcases List.mem_cons.1 hx' with rfl | hx'
    · exact ⟨hf, hx, hy⟩
    · exact s.fr x hx'
  · rw [hblk _ hlt (fun e => by have := hDlt _ e; omega)]
    exact s.box
  · rw [List.reverse_cons]
    exact hown
theorem ThrD.top {x : Fl} (s : ThrD B k C go Inv fv w F P (x :: S) D d w1) : ∃ q cs, D = some ⟨q, 0, none⟩ ∧ w.heap.size + 1 ≤ q ∧ q < w1.heap.size ∧ S.length + 1 ≤ d ∧ w1.heap[q]? = some (.cells cs 246 (0, 0)) ∧ PrQ (fun j => cs[S.length * 7 + j]?) x := by
  have hg : (x :: S).reverse[S.length]? = some x := by rw [List.reverse_cons, List.getElem?_append_right (by simp)]; simp
  obtain ⟨vs, h1, h2⟩ := s.stk
  rcases h2.2 with ⟨hv', hn⟩ | ⟨q, cap, cur, hv', hge, hh, hnc, hcm, hsz, hcur⟩
  · simp at hn
  · simp only [Value.slice.injEq] at hv'
    obtain ⟨rfl, -, rfl⟩ := hv'
    refine ⟨q, cur, rfl, hge, (Array.getElem?_eq_some_iff.1 hh).1, by simpa using hnc, hh, ?_⟩
    refine prQ_ok.ext _ _ _ (fun j hj => ?_) (h1.2 S.length x hg)
    rw [← hcur, List.getElem?_take_of_lt (by simp; omega), Array.getElem?_toList]
theorem ThrD.on {l : Nat} {f : Tr.Fr} {a q : Nat} {x y : Option T} {r : List Tr.Pr} {cs : Array Value} (hv : VisitD fid lb B k M go Inv) (s : ThrD B k C go Inv fv w F [] ((l, f) :: S) (some ⟨q, 0, none⟩) d w1)
    (hcs : w1.heap[q]? = some (.cells cs 246 (0, 0))) (hq2 : w2.heap[q]? = some (.cells (nextTo cs (S.length * 7) (a + 1)) 246 (0, 0))) (hf : Foot (fun b => b = q) w1 w2) (ha : a < 65536)
    (hr : Tr.remF f = (a, x, y) :: r) (hr2 : Tr.remF (f.to (a + 1)) = r) : ThrD B k C go Inv fv w F (Tr.chO x y) ((l, f.to (a + 1)) :: S) (some ⟨q, 0, none⟩) d w2 := by
  obtain ⟨us, F', e1, e2, e3, e4, e5, e6⟩ := s.us
  have hlt := s.lt
  have hqF : ¬ F' q := e6 q rfl
  have hqlt := (s.stk.lt q rfl)
  have hinb := hv.inb _ _ _ e3
  have hset : OwnL 246 7 PrQ (w1.setCell ⟨q, S.length * 7 + 6, none⟩ (.int .i64 ((a + 1 : Nat) : Int))) (w.heap.size + 1) (.slice (some ⟨q, 0, none⟩) (S.length + 1) d) (((l, f.to (a + 1)) :: S).reverse) := by
    obtain ⟨g1, hg1, r1⟩ := OwnL.set (i := S.length) (j := 6) (x := ((l, f.to (a + 1)) : Fl)) (u := .int .i64 ((a + 1 : Nat) : Int)) s.stk prQ_ok (by simp) (by omega) (by
      intro g y hy hg
      rw [List.reverse_cons, List.getElem?_append_right (by simp)] at hy
      simp at hy
      subst hy
      exact ⟨hg.1, hg.2.1, hg.2.2.1, hg.2.2.2.1, hg.2.2.2.2.1, hg.2.2.2.2.2.1, rfl⟩)
    have hq1 : q = g1 := by simp only [Option.some.injEq, Addr.mk.injEq] at hg1; exact hg1.1
    subst hq1
    rw [show (((l, f) :: S : List Fl).reverse).set S.length (l, f.to (a + 1)) = ((l, f.to (a + 1)) :: S : List Fl).reverse by
      simp only [List.reverse_cons]
      rw [List.set_append_right _ _ (by simp)]
      simp] at r1
    exact r1
  have hsame : w2.heap[q]? = (w1.setCell ⟨q, S.length * 7 + 6, none⟩ (.int .i64 ((a + 1 : Nat) : Int))).heap[q]? := by
    rw [hq2, heap_setCell_same w1 q _ _ _ _ hcs]
    rfl
  obtain ⟨f1, f2, f3⟩ := s.fr _ List.mem_cons_self
  refine ⟨⟨us, F', ?_, e2, hv.frame _ _ _ _ e3 hf.size (fun b hF => hf.block b (hinb b hF).1 (fun e => hqF (e ▸ hF))), e4, e5, e6⟩, fun z hz => ?_, s.foot.trans hf (fun b hb => .inr (by subst hb; omega)), ?_, ?_, s.lev⟩
  · rw [e1, Tr.chS_cons, Tr.chS_cons]
    simp only
    rw [hr, hr2, Tr.chM_cons]
    simp
  · rcases List.mem_cons.1 hz with rfl | hz
    · exact ⟨f1.to (by omega), f2, f3⟩
    · exact s.fr z (List.mem_cons_of_mem _ hz)
  · rw [hf.block _ hlt (by omega)]
    exact s.box
  · refine hset.block fun r hr => ?_
    rw [own_block] at hr
    simp only [Option.map_some, Option.some.injEq] at hr
    subst hr
    exact hsame
theorem ThrD.pop {x : Fl} (s : ThrD B k C go Inv fv w F [] (x :: S) D d w1) (hx : Tr.remF x.2 = []) : ThrD B k C go Inv fv w F [] S D d w1 := by
  obtain ⟨us, F', e1, e2, e3, e4, e5, e6⟩ := s.us
  refine ⟨⟨us, F', by rw [e1, Tr.chS_cons, hx]; rfl, e2, e3, e4, e5, e6⟩, fun y hy => s.fr y (List.mem_cons_of_mem _ hy), s.foot, s.box, ?_, s.lev.2⟩
  have h7 := OwnL.take prQ_ok s.stk S.length (by simp)
  rw [show ((x :: S).reverse).take S.length = S.reverse by rw [List.reverse_cons, List.take_append_of_le_length (by simp), List.take_of_length_le (by simp)]] at h7
  exact h7
end
end Go.Proofs.YtpgkfccfabnjdaaGreatDoor

/-
  CONTRACTS of package diff, fourth part: lockstep.through. Laid by wip/gen51.py.
-/
namespace Go.Proofs.YtpgkfccfabnjdaaGreatDoor
open Go.ChangeShapes Go.WideShapes Go.ChangeAt Go.RowKit
open Tr (T S4 Ent Sd Fl Chg)

structure SloG (a : Act) (x0 x1 x2 x3 x7 x8 x10 : Value) : Prop where
  d : a.defers = []
  n : a.tmps.size = 68
  s0 : a.tmps[0]? = some x0
  s1 : a.tmps[1]? = some x1
  s2 : a.tmps[2]? = some x2
  s3 : a.tmps[3]? = some x3
  s7 : a.tmps[7]? = some x7
  s8 : a.tmps[8]? = some x8
  s10 : a.tmps[10]? = some x10
theorem SloG.lit {a : Act} {x0 x1 x2 x3 x7 x8 x10 : Value} (h : SloG a x0 x1 x2 x3 x7 x8 x10) : ∃ V : Nat → Value, a = { tmps := #[x0, x1, x2, x3, V 4, V 5, V 6, x7, x8, V 9, x10, V 11, V 12, V 13, V 14, V 15, V 16, V 17, V 18, V 19, V 20, V 21, V 22, V 23, V 24, V 25, V 26, V 27, V 28, V 29, V 30, V 31, V 32, V 33, V 34, V 35, V 36, V 37, V 38, V 39, V 40, V 41, V 42, V 43, V 44, V 45, V 46, V 47, V 48, V 49, V 50, V 51, V 52, V 53, V 54, V 55, V 56, V 57, V 58, V 59, V 60, V 61, V 62, V 63, V 64, V 65, V 66, V 67], defers := [] } := by
  refine ⟨fun i => a.tmps.toList.getD i undef, ?_⟩
  have e := slotsN_arr h.n
  obtain ⟨t, d⟩ := a
  have hd : d = [] := h.d
  have h0 := slotsN_some h.s0
  have h1 := slotsN_some h.s1
  have h2 := slotsN_some h.s2
  have h3 := slotsN_some h.s3
  have h7 := slotsN_some h.s7
  have h8 := slotsN_some h.s8
  have h10 := slotsN_some h.s10
  simp only at h0 h1 h2 h3 h7 h8 h10 e
  subst hd
  rw [← h0, ← h1, ← h2, ← h3, ← h7, ← h8, ← h10]
  congr 1

theorem infoDStep : (Tryz.prog.info? 246).map (fun i => (i.zero, i.size, i.bytes)) = some (some (.agg #[.pointer none, .bool false, .int .i64 0, .pointer none, .bool false, .int .i64 0, .int .i64 0]), 7, 56) := by kernel_rfl
theorem slice_topD (w : World) (b off n c i : Nat) (h2 : i ≤ n) (h3 : n ≤ c) :
    (Instr.sliceAt 242 (.slice (some ⟨b, off, none⟩) n c) none (some (.int .i64 (i : Int))) none).run Tryz.prog w = .ok (.slice (some ⟨b, off, none⟩) i c) w := by
  have ht : Tryz.prog.underlying 242 = some (.slice 246) := Tryz.underlying242
  have hel : Tryz.prog.elem 242 = 246 := by simp [Program.elem, ht]
  have hs : Tryz.prog.underlying 242 = some (.slice (Tryz.prog.elem 242)) := by rw [hel]; exact ht
  have hsz : ∀ w, (sizeOf 246).run Tryz.prog w = .ok 7 w := fun w => by
    have h : (Tryz.prog.info? 246).map (·.size) = some 7 := by kernel_rfl
    obtain ⟨i0, hi0, hz⟩ := Option.map_eq_some_iff.1 h
    simp [sizeOf, typeInfo, hi0, hz]
  rw [run_sliceAt_slice w _ _ _ _ _ hs, run_slice_h w _ _ _ _ hs .i64 (i : Int) (by omega) (by omega), hel, hsz]
  simp [Result.andThen, sliced]
  intro _
  rw [Go.WideShapes.add_plain, Nat.add_zero]
theorem nptr_ne {w : World} {a b : Nat} (ha : TrB w a) (hb : TrB w b) (hne : a ≠ b) : (binOp .eql 75 (.pointer (some ⟨a, 0, none⟩)) (.pointer (some ⟨b, 0, none⟩))).run Tryz.prog w = .ok (.bool false) w := by
  obtain ⟨ca, ta, ha⟩ := ha
  obtain ⟨cb, tb, hb⟩ := hb
  have h : (Tryz.prog.info? 204).map (fun i => decide (i.size = 0)) = some false := by kernel_rfl
  obtain ⟨j, hj, hs⟩ := Option.map_eq_some_iff.1 h
  exact run_eql_ptr_other w Tryz.underlying75 hj (by simpa using hs) (by intro e; apply hne; exact congrArg (·.block) e) ha hb
theorem lst_next2 {α : Type} {n : Nat} {Q : (Nat → Option Value) → α → Prop} {e : TypeId} {w : World} (hQ : QOk n Q) (ob : Obj) (vs : Array Value) (x : α) (hs : vs.size = n) (hx : Q (fun j => vs[j]?) x) :
    Lst n Q ((w.alloc ob).alloc (.cells vs e)) (w.heap.size + 1 + 1) (some ⟨w.heap.size + 1, 0, none⟩) [x] := by
  have h := lst_at (e := e) (w := w.alloc ob) hQ vs x hs hx
  rw [World.size_alloc] at h
  exact h
theorem nptr_no1 (w : World) (a : Addr) : (binOp .eql 75 (.pointer none) (.pointer (some a))).run Tryz.prog w = .ok (.bool false) w := by
  have h2 : ∀ d : Nat, (Op.equalIn (d + 1) 75 (.pointer none) (.pointer (some a))).run Tryz.prog w = .ok false w := fun d => by
    simp [Op.equalIn, run_underlying Tryz.underlying75]
  simp only [binOp]
  simp [Op.equal, Op.maxDepth, h2 9999]
theorem nptr_no2 (w : World) (a : Addr) : (binOp .eql 75 (.pointer (some a)) (.pointer none)).run Tryz.prog w = .ok (.bool false) w := by
  have h2 : ∀ d : Nat, (Op.equalIn (d + 1) 75 (.pointer (some a)) (.pointer none)).run Tryz.prog w = .ok false w := fun d => by
    simp [Op.equalIn, run_underlying Tryz.underlying75]
  simp only [binOp]
  simp [Op.equal, Op.maxDepth, h2 9999]
theorem wp_scope_twoR {P : Program} {c r0 r1 : Code} {Q : Exit → Act → World → Prop} {a : Act} {w : World} (J0 J1 : Nat → Act → World → Prop)
    (h0 : findLabel c 0 = some (Code.skip.seq r0)) (h1 : findLabel c 1 = some (Code.skip.seq r1))
    (beside : ∀ m a w, J0 m a w → r0.wp P (jumpsN (fun l a' w' => ∃ m', m' < m ∧ J2N J0 J1 l m' a' w') Q) a w)
    (down : ∀ m, (∀ m' a w, m' ≤ m → J0 m' a w → r0.wp P (jumpsN (fun l a' w' => ∃ m', m' < m ∧ J2N J0 J1 l m' a' w') Q) a w) →
      ∀ a w, J1 m a w → r1.wp P (jumpsN (fun l a' w' => ∃ m', m' < m ∧ J2N J0 J1 l m' a' w') Q) a w)
    (first : (∀ m a w, J1 m a w → r1.wp P (jumpsN (fun l a' w' => ∃ m', J2N J0 J1 l m' a' w') Q) a w) → c.wp P (jumpsN (fun l a' w' => ∃ m', J2N J0 J1 l m' a' w') Q) a w) : (Code.scope c).wp P Q a w := by
  have dn : ∀ m a w, J1 m a w → r1.wp P (jumpsN (fun l a' w' => ∃ m', m' < m ∧ J2N J0 J1 l m' a' w') Q) a w :=
    fun m a w h => down m (fun m' a w hm h => jumpsN_le (beside m' a w h) hm) a w h
  refine wp_scope_labelsN (fun l => match l with | 0 => Code.skip.seq r0 | _ => Code.skip.seq r1) (J2N J0 J1) ?_ (first fun m a w h => jumpsN_any (dn m a w h)) ?_
  · intro l m a w h
    match l, h with
    | 0, _ => exact h0
    | 1, _ => exact h1
  · intro l m a w h
    match l, h with
    | 0, h => exact wp_seq (wp_skip (beside m a w h))
    | 1, h => exact wp_seq (wp_skip (dn m a w h))
section
variable (B k : Nat) (C : List Chg) (go : Bool) (Inv : List Chg → World → (Nat → Prop) → Prop) (fv : Value) (w : World) (F : Nat → Prop)
structure DownD (x y : Option T) (S : List Fl) (D : Option Addr) (d : Nat) (w' : World) (m : Nat) : Prop where
  thr : ThrD B k C go Inv fv w F (Tr.chO x y) S D d w'
  nx : NodeO w B k x
  ny : NodeO w B k y
  ok : Tr.PairOk k (Tr.room S) x y
  cnt : m = 4 * (Tr.wgt x y + Tr.wS S) + 2 * S.length + 1
structure NextD (S : List Fl) (D : Option Addr) (d : Nat) (w' : World) (m : Nat) : Prop where
  thr : ThrD B k C go Inv fv w F [] S D d w'
  cnt : m = 4 * Tr.wS S + 2 * S.length + 2
end
def EndD (go : Bool) (Inv : List Chg → World → (Nat → Prop) → Prop) (C : List Chg) (w : World) (F : Nat → Prop) (e : Ending) (w' : World) : Prop :=
  ∃ (z : Int) (us : List Chg) (F' : Nat → Prop), e = .returned (.int .i64 z) ∧ Inv us w' F' ∧ (go = true → us = C) ∧ (go = false → (us = [] ↔ C = [])) ∧ (∀ b, F' b → F b ∨ w.heap.size ≤ b) ∧ Foot F w w'
theorem fr_node {w : World} {B k : Nat} {f : Tr.Fr} (hx : Node w B k f.x.t) (hy : Node w B k f.y.t) {q : Tr.Pr} (hm : (∀ s, q.2.1 = some s → (q.1, s) ∈ f.x.L) ∧ ∀ s, q.2.2 = some s → (q.1, s) ∈ f.y.L) : NodeO w B k q.2.1 ∧ NodeO w B k q.2.2 := by
  have key : ∀ {s : Sd} {a : Nat} {t : T}, Node w B k s.t → (a, t) ∈ s.L → Node w B k t := by
    rintro ⟨t, kd, a⟩ b u h hm
    cases kd with
    | false =>
      have hm : (b, u) ∈ [(a, t)] := hm
      simp only [List.mem_singleton, Prod.mk.injEq] at hm
      rw [hm.2]
      exact h
    | true =>
      have hm : (b, u) ∈ t.ks := hm
      cases t with
      | ent g p v => cases hm
      | br g l pre ks => exact h.kid hm
  exact ⟨fun t e => key hx (hm.1 t e), fun t e => key hy (hm.2 t e)⟩
set_option maxRecDepth 1000000 in
set_option maxHeartbeats 8000000 in
theorem dthrough_c {fid : Nat} {lb : Array Value} {B k M : Nat} {go : Bool} {Inv : List Chg → World → (Nat → Prop) → Prop} (hv : VisitD fid lb B k M go Inv) {w : World} {F : Nat → Prop} (hI : Inv [] w F) {x y : Option T} (hx : NodeO w B k x) (hy : NodeO w B k y) (hB : B ≤ w.heap.size) (hT : ∀ w', Below B w w' → Tz w') (hM : (Tr.chO x y).length ≤ M) :
    Calls Tryz.prog 138 #[.agg #[.func (.func fid) #[] lb], .pointer (rootP x), .pointer (rootP y)] w fun e w' => EndD go Inv (Tr.chO x y) w F e w' := by
  have hent := hv.ent
  obtain ⟨C, hC⟩ : ∃ C, Tr.chO x y = C := ⟨_, rfl⟩
  have hal := below_alloc w (.cells #[.func (.func fid) #[] lb] 197)
  have hFlt : ∀ b, F b → b < w.heap.size ∧ B ≤ b := hv.inb _ _ _ hI
  have hstart : DownD B k C go Inv (.func (.func fid) #[] lb) w F x y [] none 0 (w.alloc (.cells #[.func (.func fid) #[] lb] 197)) (4 * (Tr.wgt x y + Tr.wS []) + 2 * 0 + 1) := by
    refine ⟨⟨⟨[], F, by rw [hC]; simp [Tr.chS_nil], fun _ => rfl, hv.frame _ _ _ _ hI hal.size (fun b hb => hal.block b (hFlt b hb).1), fun b hb => .inl hb, fun hb => ?_, fun q hq => ?_⟩, fun z hz => ?_, Foot.of_below hal, heap_at w _ _ rfl, ownL_none _ _ _, trivial⟩, hx, hy, Tr.pair_top (fun t e => (hx t e).1) (fun t e => (hy t e).1), rfl⟩
    · have := (hFlt _ hb).1; omega
    · cases hq
    · cases hz
  have HS := Lib.hid hstart
  have HV := Lib.hid hv
  have HX := Lib.hid (And.intro hI (And.intro hB (And.intro hT (show C.length ≤ M by rw [← hC]; exact hM))))
  rw [hC]
  clear hv hI hx hy hB hT hM hstart hal hFlt hC
  obtain ⟨px, hpx⟩ : ∃ px, rootP x = px := ⟨_, rfl⟩
  obtain ⟨py, hpy⟩ : ∃ py, rootP y = py := ⟨_, rfl⟩
  have HP0 := Lib.hid (And.intro hpx hpy)
  rw [hpx, hpy]
  clear hpx hpy
  go_enter Tryz.func138, Tryz.ntmps138
  go_wp2_with fail
  refine wp_scope_twoR (fun m a' w' => ∃ (x1 x2 x10 : Value) (S : List Fl) (D : Option Addr) (d : Nat) (z : Int), SloG a' (.agg #[.func (.func fid) #[] lb]) x1 x2 (.pointer (some ⟨w.heap.size, 0, none⟩)) (.slice D S.length d) (.int .i64 z) x10 ∧ NextD B k C go Inv (.func (.func fid) #[] lb) w F S D d w' m)
    (fun m a' w' => ∃ (x y : Option T) (S : List Fl) (D : Option Addr) (d : Nat) (z : Int) (b : Bool), SloG a' (.agg #[.func (.func fid) #[] lb]) (.pointer (rootP x)) (.pointer (rootP y)) (.pointer (some ⟨w.heap.size, 0, none⟩)) (.slice D S.length d) (.int .i64 z) (.bool b) ∧ DownD B k C go Inv (.func (.func fid) #[] lb) w F x y S D d w' m) rfl rfl ?beside ?down ?first
  case first =>
    intro hp
    have HP := Lib.hid hp
    clear hp
    go_wp2_with fail
    refine wp_label ?_
    simp only [Exit.then]
    rename_i hK
    apply hK
    exact HP.out _ _ _ ⟨x, y, [], none, 0, 0, true, ⟨rfl, rfl, rfl, by rw [HP0.out.1]; rfl, by rw [HP0.out.2]; rfl, rfl, rfl, rfl, rfl⟩, HS.out⟩
  case down =>
    rintro m hbes a' w' ⟨x, y, S, D, d, z, b, hs, hI⟩
    obtain ⟨V, rfl⟩ := hs.lit
    clear hs HS HP0
    have HI := Lib.hid hI
    have HBs := Lib.hid hbes
    have hB' : Below B w w' := hI.thr.old HV.out HX.out.1 HX.out.2.1
    have hBw : B ≤ w'.heap.size := Nat.le_trans HX.out.2.1 hI.thr.foot.size
    have hT' : ∀ v, Below B w' v → Tz v := fun v hv => HX.out.2.2.1 v (hB'.trans hv)
    have hnx : NodeO w' B k x := hI.nx.below hB' (Nat.le_refl _) (Nat.le_refl _)
    have hny : NodeO w' B k y := hI.ny.below hB' (Nat.le_refl _) (Nat.le_refl _)
    have HE := Lib.hid (And.intro hB' (And.intro hBw (And.intro hT' (And.intro hnx hny))))
    have hcnt := hI.cnt
    have hwp := Tr.wgt_pos x y
    have HCn : Hid (4 * Tr.wS S + 2 * S.length + 2 < m) := Lib.hid (by omega)
    clear hI hbes hB' hBw hT' hnx hny hcnt hwp
    cases x with
    | none =>
      cases y with
      | none =>
        simp only [rootP]
        go_wp2_with fail
        go_step3
        exact ⟨_, HCn.out, _, _, _, S, D, d, z, ⟨rfl, rfl, rfl, rfl, rfl, rfl, rfl, rfl, rfl⟩, HI.out.thr.to (Tr.chL_same []), rfl⟩
      | some t =>
        have HTd := Lib.hid (HI.out.thr.told HV.out HE.out.2.2.2.1 HE.out.2.2.2.2 HE.out.2.1 HE.out.2.2.1 (.inl ⟨rfl, by simp⟩) HX.out.2.2.2)
        simp only [rootP] at HTd ⊢
        have q0 : w'.cell? ⟨w.heap.size, 0, none⟩ = some (.func (.func fid) #[] lb) := by rw [cell_of_row w' _ _ _ _ (0, 0) HI.out.thr.box]; rfl
        have hpn := nptr_no1
        go_upto_if 17 with fail
        go_cut [8] from 18 (fun v wx => (∃ z' : Int, v = Value.int .i64 z') ∧ wx = w')
        case first =>
          cases b
          all_goals go_wp2_with fail
          all_goals go_meet
          all_goals exact ⟨⟨_, rfl⟩, rfl⟩
        case rest =>
        obtain ⟨⟨z', rfl⟩, hwc⟩ := hcut
        rw [hwc]
        clear hwc
        go_wp2_with fail
        go_at_fn fid
        refine HTd.out.mono ?_
        rintro e w2 ⟨rfl, ht1, ht2⟩
        have HT2 := Lib.hid (And.intro ht1 ht2)
        clear ht1 ht2
        clear HTd
        cases go with
        | true =>
          go_wp2_with fail
          refine wp_label ?_
          simp only [Exit.then]
          rename_i hK
          apply hK
          exact HBs.out _ _ _ (by have := HCn.out; omega) ⟨_, _, _, S, D, d, z', ⟨rfl, rfl, rfl, rfl, rfl, rfl, rfl, rfl, rfl⟩, HT2.out.1 (by first | rfl | trivial), rfl⟩
        | false =>
          go_wp2_with fail
          simp only [jumpsN]
          refine bodyPost_ret (v := .int .i64 z') (by simp [results, Tryz.results138, go_sem]) rfl ?_
          obtain ⟨us, F', i, hne, hC, hF, hfo⟩ := HT2.out.2 (by first | rfl | trivial)
          exact ⟨z', us, F', rfl, i, fun h => Bool.noConfusion h, fun _ => ⟨fun h => absurd h hne, fun h => absurd h hC⟩, hF, hfo⟩
    | some s =>
      cases y with
      | none =>
        have HTd := Lib.hid (HI.out.thr.told HV.out HE.out.2.2.2.1 HE.out.2.2.2.2 HE.out.2.1 HE.out.2.2.1 (.inr (.inl ⟨by simp, rfl⟩)) HX.out.2.2.2)
        simp only [rootP] at HTd ⊢
        have q0 : w'.cell? ⟨w.heap.size, 0, none⟩ = some (.func (.func fid) #[] lb) := by rw [cell_of_row w' _ _ _ _ (0, 0) HI.out.thr.box]; rfl
        have hpn := nptr_no2
        go_upto_if 17 with fail
        go_cut [8] from 18 (fun v wx => (∃ z' : Int, v = Value.int .i64 z') ∧ wx = w')
        case first =>
          cases b
          all_goals go_wp2_with fail
          all_goals go_meet
          all_goals exact ⟨⟨_, rfl⟩, rfl⟩
        case rest =>
        obtain ⟨⟨z', rfl⟩, hwc⟩ := hcut
        rw [hwc]
        clear hwc
        go_wp2_with fail
        go_at_fn fid
        refine HTd.out.mono ?_
        rintro e w2 ⟨rfl, ht1, ht2⟩
        have HT2 := Lib.hid (And.intro ht1 ht2)
        clear ht1 ht2
        clear HTd
        cases go with
        | true =>
          go_wp2_with fail
          refine wp_label ?_
          simp only [Exit.then]
          rename_i hK
          apply hK
          exact HBs.out _ _ _ (by have := HCn.out; omega) ⟨_, _, _, S, D, d, z', ⟨rfl, rfl, rfl, rfl, rfl, rfl, rfl, rfl, rfl⟩, HT2.out.1 (by first | rfl | trivial), rfl⟩
        | false =>
          go_wp2_with fail
          simp only [jumpsN]
          refine bodyPost_ret (v := .int .i64 z') (by simp [results, Tryz.results138, go_sem]) rfl ?_
          obtain ⟨us, F', i, hne, hC, hF, hfo⟩ := HT2.out.2 (by first | rfl | trivial)
          exact ⟨z', us, F', rfl, i, fun h => Bool.noConfusion h, fun _ => ⟨fun h => absurd h hne, fun h => absurd h hC⟩, hF, hfo⟩
      | some t =>
        have hns : Node w' B k s := HE.out.2.2.2.1 s rfl
        have hnt : Node w' B k t := HE.out.2.2.2.2 t rfl
        by_cases hst : s.blk = t.blk
        · have hnil : Tr.chO (some s) (some t) = [] := by
            show Tr.chL s.ents t.ents = []
            rw [node_same hns hnt hst]
            exact Tr.chL_same _
          clear hns hnt
          simp only [rootP]
          rw [hst]
          have hpe := ptr_eq
          go_wp2_with fail
          go_step3
          exact ⟨_, HCn.out, _, _, _, S, D, d, z, ⟨rfl, rfl, rfl, rfl, rfl, rfl, rfl, rfl, rfl⟩, HI.out.thr.to hnil, rfl⟩
        · have hpn := nptr_ne hns.trb hnt.trb hst
          rcases Tr.lvl_ent hns.1 hnt.1 with ⟨l, hl⟩ | ⟨hl, g, g', p, v, u, rfl, rfl⟩
          · obtain ⟨ok1, ok2, ok3⟩ := HI.out.ok
            have hrm := HI.out.thr.lev.room
            obtain ⟨f1, f2, f3, f4⟩ := Tr.frame_new hns.1 hnt.1 (ok1 s rfl).2 (ok2 t rfl).2 (by omega) (ok3 s t rfl rfl) hl
            have HSt := Lib.hid (dStep_c hns hnt HE.out.2.1 hl (by omega))
            obtain ⟨b1, hb1⟩ : ∃ b1, (Tr.sdOf s l).kd = b1 := ⟨_, rfl⟩
            obtain ⟨b2, hb2⟩ : ∃ b2, (Tr.sdOf t l).kd = b2 := ⟨_, rfl⟩
            obtain ⟨a1, ha1⟩ : ∃ a1, (Tr.sdOf s l).a = a1 := ⟨_, rfl⟩
            obtain ⟨a2, ha2⟩ : ∃ a2, (Tr.sdOf t l).a = a2 := ⟨_, rfl⟩
            rw [hb1, hb2, ha1, ha2] at HSt
            have HF := Lib.hid (And.intro f1 (And.intro f2 (And.intro f3 (And.intro f4 (And.intro hns (And.intro hnt (And.intro hrm (And.intro hb1 (And.intro hb2 (And.intro ha1 ha2))))))))))
            have hS64 : S.length ≤ 64 := by omega
            clear f1 f2 f3 f4 hns hnt hrm hb1 hb2 ha1 ha2 ok1 ok2 ok3 hl hst
            simp only [rootP]
            go_upto_if 17 with fail
            go_cut [8] from 18 (fun v wx => (∃ z' : Int, v = Value.int .i64 z') ∧ wx = w')
            case first =>
              cases b
              all_goals go_wp2_with fail
              all_goals go_meet
              all_goals exact ⟨⟨_, rfl⟩, rfl⟩
            case rest =>
            obtain ⟨⟨z', rfl⟩, hwc⟩ := hcut
            rw [hwc]
            clear hwc
            clear hpn
            go_wp2_with fail
            refine HSt.out.mono ?_
            rintro e w2 ⟨rfl, hb2⟩
            have HB2 := Lib.hid (Below.andThen (Below.andThen hb2 (below_alloc w2 (.cells #[.pointer (some ⟨s.blk, 0, none⟩), .bool b1, .int .i64 (a1 : Int), .pointer (some ⟨t.blk, 0, none⟩), .bool b2, .int .i64 (a2 : Int), .int .i64 0] 246))) (below_alloc (w2.alloc (.cells #[.pointer (some ⟨s.blk, 0, none⟩), .bool b1, .int .i64 (a1 : Int), .pointer (some ⟨t.blk, 0, none⟩), .bool b2, .int .i64 (a2 : Int), .int .i64 0] 246)) (.cells #[.pointer (some ⟨s.blk, 0, none⟩), .bool b1, .int .i64 (a1 : Int), .pointer (some ⟨t.blk, 0, none⟩), .bool b2, .int .i64 (a2 : Int), .int .i64 0] 246)))
            clear HSt
            have hw9 : w.heap.size + 1 ≤ w2.heap.size := by have := HI.out.thr.lt; have := hb2.size; omega
            go_wp2_with (at_builtin; refine wpList_append_list (Q := PrQ) 242 246 (.agg #[.pointer none, .bool false, .int .i64 0, .pointer none, .bool false, .int .i64 0, .int .i64 0]) 56 Tryz.underlying242 infoDStep (by rfl) (by omega) (by omega) prQ_ok (by rfl) _ _ (by rfl) (w.heap.size + 1) (.slice D S.length d) S.reverse [(l, Tr.frOf s t l)] (S.length + 1) (by simp) (by rfl) (by exact HI.out.thr.stk.below (C := w'.heap.size) HB2.out (Nat.le_refl _)) _ _ 1 1 (by rfl) (by rfl) (by exact lst_next2 prQ_ok _ #[.pointer (some ⟨s.blk, 0, none⟩), .bool b1, .int .i64 (a1 : Int), .pointer (some ⟨t.blk, 0, none⟩), .bool b2, .int .i64 (a2 : Int), .int .i64 0] ((l, Tr.frOf s t l) : Fl) (by rfl) (by exact ⟨rfl, by rw [← HF.out.2.2.2.2.2.2.2.1]; rfl, by rw [← HF.out.2.2.2.2.2.2.2.2.2.1]; rfl, rfl, by rw [← HF.out.2.2.2.2.2.2.2.2.1]; rfl, by rw [← HF.out.2.2.2.2.2.2.2.2.2.2]; rfl, rfl⟩)) (by omega) (by simp; omega) ?_; intro D5 d5 w5 hown5 hgrow5 hat5)
            go_step3
            rw [own_block] at hgrow5
            rw [own_block, own_block] at hat5
            have hwt := HF.out.2.2.2.1
            have hcn := HI.out.cnt
            have hp := HI.out.thr.push HV.out HF.out.1 (HI.out.nx s rfl) (HI.out.ny t rfl) HF.out.2.2.1 (by have := HF.out.2.1; have := HF.out.2.2.2.2.2.2.1; omega) HB2.out hown5 hgrow5 hat5
            refine ⟨4 * Tr.wS ((l, Tr.frOf s t l) :: S) + 2 * (S.length + 1) + 2, ?_, _, _, _, (l, Tr.frOf s t l) :: S, D5, d5, z', ⟨rfl, rfl, rfl, rfl, rfl, rfl, rfl, rfl, rfl⟩, hp, rfl⟩
            rw [Tr.wS_cons]
            simp only at hwt hcn ⊢
            omega
          · have HSt := Lib.hid (dStep_no hns hnt HE.out.2.1 hl rfl rfl)
            have hu1 : Hid (∀ w2, Below w'.heap.size w' w2 → Calls Tryz.prog 101 #[.pointer (some ⟨g, 0, none⟩)] w2 fun e w3 => e = .returned (.agg #[.int .u64 1, .int .u64 (v : Int), .int .u64 (v : Int), .int .u64 (v : Int)]) ∧ Below w2.heap.size w2 w3) := Lib.hid fun w2 hb => by
              have h := nSums_o (HE.out.2.2.2.1.below (hb.mono HE.out.2.1) (Nat.le_refl _) (Nat.le_refl _)) (Nat.le_trans HE.out.2.1 hb.size)
              rw [show Tr.sums (Tr.entsO (some (T.ent g p v))) = Tr.s1 v by simp [Tr.entsO, Tr.ents_ent, Tr.sums_one]] at h
              exact h
            have hu2 : Hid (∀ w2, Below w'.heap.size w' w2 → Calls Tryz.prog 101 #[.pointer (some ⟨g', 0, none⟩)] w2 fun e w3 => e = .returned (.agg #[.int .u64 1, .int .u64 (u : Int), .int .u64 (u : Int), .int .u64 (u : Int)]) ∧ Below w2.heap.size w2 w3) := Lib.hid fun w2 hb => by
              have h := nSums_o (HE.out.2.2.2.2.below (hb.mono HE.out.2.1) (Nat.le_refl _) (Nat.le_refl _)) (Nat.le_trans HE.out.2.1 hb.size)
              rw [show Tr.sums (Tr.entsO (some (T.ent g' p u))) = Tr.s1 u by simp [Tr.entsO, Tr.ents_ent, Tr.sums_one]] at h
              exact h
            clear hns hnt hl hst
            have hg1 : (T.ent g p v).blk = g := rfl
            have hg2 : (T.ent g' p u).blk = g' := rfl
            rw [hg1, hg2] at HSt hpn
            by_cases hvu : v = u
            · subst hvu
              have hnil : Tr.chO (some (T.ent g p v)) (some (T.ent g' p v)) = [] := by
                show Tr.chL (T.ent g p v).ents (T.ent g' p v).ents = []
                rw [show (T.ent g p v).ents = (T.ent g' p v).ents by rw [Tr.ents_ent, Tr.ents_ent]]
                exact Tr.chL_same _
              simp only [rootP, hg1, hg2]
              go_upto_if 17 with fail
              go_cut [8] from 18 (fun v wx => (∃ z' : Int, v = Value.int .i64 z') ∧ wx = w')
              case first =>
                cases b
                all_goals go_wp2_with fail
                all_goals go_meet
                all_goals exact ⟨⟨_, rfl⟩, rfl⟩
              case rest =>
              obtain ⟨⟨z', rfl⟩, hwc⟩ := hcut
              rw [hwc]
              clear hwc
              clear hpn
              go_wp2_with fail
              refine HSt.out.mono ?_
              rintro e w2 ⟨rfl, hb2⟩
              clear HSt
              have HB2 := Lib.hid (Below.andThen hb2 (below_alloc w2 (.cells #[.pointer (some ⟨g, 0, none⟩), .bool true, .int .i64 0, .pointer (some ⟨g', 0, none⟩), .bool true, .int .i64 0, .int .i64 0] 246)))
              clear hb2
              go_wp2_with fail
              refine (hu1.out _ (by exact HB2.out)).mono ?_
              rintro e w3 ⟨rfl, hb3⟩
              have HB3 := Lib.hid (Below.andThen HB2.out hb3)
              clear hb3
              go_wp2_with fail
              refine (hu2.out _ HB3.out).mono ?_
              rintro e w4 ⟨rfl, hb4⟩
              have HB4 := Lib.hid (Below.andThen HB3.out hb4)
              clear hb4 hu1 hu2
              go_wp2_with fail
              go_step3
              exact ⟨_, HCn.out, _, _, _, S, D, d, z', ⟨rfl, rfl, rfl, rfl, rfl, rfl, rfl, rfl, rfl⟩, (HI.out.thr.to hnil).below HV.out HB4.out, rfl⟩
            · have n1 : ((v : Int) == (u : Int)) = false := by rw [beq_eq_false_iff_ne]; omega
              have n1' : (v == u) = false := by rw [beq_eq_false_iff_ne]; exact hvu
              have n2 : ¬ (v : Int) = (u : Int) := by omega
              have HTd := Lib.hid fun (w2 : World) (hb : Below w'.heap.size w' w2) => (HI.out.thr.below HV.out hb).told HV.out (HE.out.2.2.2.1.below (hb.mono HE.out.2.1) (Nat.le_refl _) (Nat.le_refl _)) (HE.out.2.2.2.2.below (hb.mono HE.out.2.1) (Nat.le_refl _) (Nat.le_refl _)) (Nat.le_trans HE.out.2.1 hb.size) (fun w3 h3 => HE.out.2.2.1 w3 ((hb.mono HE.out.2.1).trans h3)) (.inr (.inr ⟨g, g', p, v, u, rfl, rfl, hvu⟩)) HX.out.2.2.2
              have q0 : ∀ w2, Below w'.heap.size w' w2 → w2.cell? ⟨w.heap.size, 0, none⟩ = some (.func (.func fid) #[] lb) := fun w2 hb => by rw [cell_of_row w2 _ _ _ _ (0, 0) (HI.out.thr.below HV.out hb).box]; rfl
              simp only [rootP, hg1, hg2] at HTd ⊢
              go_upto_if 17 with fail
              go_cut [8] from 18 (fun v wx => (∃ z' : Int, v = Value.int .i64 z') ∧ wx = w')
              case first =>
                cases b
                all_goals go_wp2_with fail
                all_goals go_meet
                all_goals exact ⟨⟨_, rfl⟩, rfl⟩
              case rest =>
              obtain ⟨⟨z', rfl⟩, hwc⟩ := hcut
              rw [hwc]
              clear hwc
              clear hpn
              go_wp2_with fail
              refine HSt.out.mono ?_
              rintro e w2 ⟨rfl, hb2⟩
              clear HSt
              have HB2 := Lib.hid (Below.andThen hb2 (below_alloc w2 (.cells #[.pointer (some ⟨g, 0, none⟩), .bool true, .int .i64 0, .pointer (some ⟨g', 0, none⟩), .bool true, .int .i64 0, .int .i64 0] 246)))
              clear hb2
              go_wp2_with fail
              refine (hu1.out _ (by exact HB2.out)).mono ?_
              rintro e w3 ⟨rfl, hb3⟩
              have HB3 := Lib.hid (Below.andThen HB2.out hb3)
              clear hb3
              go_wp2_with fail
              refine (hu2.out _ HB3.out).mono ?_
              rintro e w4 ⟨rfl, hb4⟩
              have HB4 := Lib.hid (Below.andThen HB3.out hb4)
              have q4 := q0 w4 HB4.out
              clear hb4 hu1 hu2 q0
              go_wp2_with fail
              go_at_fn fid
              refine (HTd.out _ HB4.out).mono ?_
              rintro e w5 ⟨rfl, ht1, ht2⟩
              have HT2 := Lib.hid (And.intro ht1 ht2)
              clear ht1 ht2
              clear HTd
              cases go with
              | true =>
                go_wp2_with fail
                refine wp_label ?_
                simp only [Exit.then]
                rename_i hK
                apply hK
                exact HBs.out _ _ _ (by have := HCn.out; omega) ⟨_, _, _, S, D, d, z', ⟨rfl, rfl, rfl, rfl, rfl, rfl, rfl, rfl, rfl⟩, HT2.out.1 (by first | rfl | trivial), rfl⟩
              | false =>
                go_wp2_with fail
                simp only [jumpsN]
                refine bodyPost_ret (v := .int .i64 z') (by simp [results, Tryz.results138, go_sem]) rfl ?_
                obtain ⟨us, F', i, hne, hC, hF, hfo⟩ := HT2.out.2 (by first | rfl | trivial)
                exact ⟨z', us, F', rfl, i, fun h => Bool.noConfusion h, fun _ => ⟨fun h => absurd h hne, fun h => absurd h hC⟩, hF, hfo⟩
  case beside =>
    rintro m a' w' ⟨x1, x2, x10, S, D, d, z, hs, hI⟩
    obtain ⟨V, rfl⟩ := hs.lit
    clear hs HS HP0
    have HI := Lib.hid hI
    cases S with
    | nil =>
      clear hI
      go_wp2_with fail
      simp only [jumpsN]
      refine bodyPost_ret (v := .int .i64 z) (by simp [results, Tryz.results138, go_sem]) rfl ?_
      obtain ⟨us, F', e1, e2, e3, e4, -, -⟩ := HI.out.thr.us
      simp only [Tr.chS_nil, List.append_nil] at e1
      exact ⟨z, us, F', rfl, e3, fun _ => e1.symm, fun _ => by rw [e1], e4, HI.out.thr.foot⟩
    | cons f S =>
      obtain ⟨q, cs, hD, hqw, hqs, hcap, hcs, hq7⟩ := hI.thr.top
      subst hD
      obtain ⟨hfo, hnx, hny⟩ := hI.thr.fr f List.mem_cons_self
      have hB' : Below B w w' := hI.thr.old HV.out HX.out.1 HX.out.2.1
      have hBw : B ≤ w'.heap.size := Nat.le_trans HX.out.2.1 hI.thr.foot.size
      have hT' : ∀ v, Below w'.heap.size w' v → Tz v := fun v hv => HX.out.2.2.1 v (hB'.trans (hv.mono hBw))
      have hfn : f.2.n ≤ 65536 := by obtain ⟨_, _, _, _, h⟩ := hfo; exact h
      have hlev := hI.thr.lev.1
      have e4 : ((S.length + 1 : Nat) : Int) - 1 = (S.length : Int) := by omega
      have m1 : (0 : Int) ≤ (S.length : Int) := by omega
      have m2 : (S.length : Int) < ((S.length + 1 : Nat) : Int) := by omega
      have m3 : (S.length : Int) ≤ 64 := by omega
      have d1 : decide ((S.length : Int) < 0) = false := decide_eq_false (by omega)
      have HC := Lib.hid (And.intro hcs (And.intro hcap (And.intro hqw hqs)))
      by_cases h0 : Tr.remF f.2 = []
      · have HO := Lib.hid (dOn_none (off := S.length * 7) (hnx.below hB' (Nat.le_refl _) (Nat.le_refl _)) (hny.below hB' (Nat.le_refl _) (Nat.le_refl _)) hBw hT' hcs hq7 hfn h0)
        have H0 := Lib.hid h0
        clear hI hfo hnx hny hB' hBw hT' hfn hlev hcs hcap hqw hqs hq7 h0
        go_wp2_with fail
        refine HO.out.mono ?_
        rintro e w2 ⟨rfl, hb2⟩
        have H2 := Lib.hid hb2
        have hst := slice_topD w2 q 0 (S.length + 1) d S.length (by omega) HC.out.2.1
        clear hb2 HO
        go_wp2_with fail
        go_step3
        have hth := (HI.out.thr.pop H0.out).below HV.out H2.out
        have hc := HI.out.cnt
        rw [Tr.wS_cons, H0.out, Tr.wM_nil, List.length_cons] at hc
        exact ⟨4 * Tr.wS S + 2 * S.length + 2, by omega, _, _, _, S, some ⟨q, 0, none⟩, d, z, ⟨rfl, rfl, rfl, rfl, rfl, rfl, rfl, rfl, rfl⟩, hth, rfl⟩
      · have HO := Lib.hid (dOn_some (off := S.length * 7) (hnx.below hB' (Nat.le_refl _) (Nat.le_refl _)) (hny.below hB' (Nat.le_refl _) (Nat.le_refl _)) hBw hT' hcs hq7 hfn hfo h0)
        clear hI hfo hB' hBw hT' hfn hlev hcs hcap hqw hqs hq7 h0
        have HN := Lib.hid (And.intro hnx hny)
        clear hnx hny
        go_wp2_with fail
        refine HO.out.mono ?_
        rintro e w2 ⟨a, u, v, r, both, h1, h2, h3, rfl, hq2, hf2⟩
        have H2 := Lib.hid (And.intro h1 (And.intro h2 (And.intro h3 (And.intro hq2 hf2))))
        clear h1 h2 h3 hq2 hf2 HO
        go_wp2_with fail
        go_step3
        obtain ⟨h1, h2, h3, hq2, hf2⟩ := H2.out
        obtain ⟨l, fr⟩ := f
        have hth := HI.out.thr.on HV.out HC.out.1 hq2 hf2 h3 h1 h2
        obtain ⟨hfo, -, -⟩ := HI.out.thr.fr _ List.mem_cons_self
        obtain ⟨hpo, hm1, hm2⟩ := hfo.mem (q := (a, u, v)) (by rw [h1]; exact List.mem_cons_self)
        obtain ⟨hnu, hnv⟩ := fr_node (q := (a, u, v)) HN.out.1 HN.out.2 ⟨hm1, hm2⟩
        have hc := HI.out.cnt
        rw [Tr.wS_cons, h1, Tr.wM_cons, List.length_cons] at hc
        refine ⟨4 * (Tr.wgt u v + Tr.wS ((l, fr.to (a + 1)) :: S)) + 2 * ((l, fr.to (a + 1)) :: S).length + 1, ?_, u, v, (l, fr.to (a + 1)) :: S, some ⟨q, 0, none⟩, d, z, both, ⟨rfl, rfl, rfl, rfl, rfl, rfl, rfl, rfl, rfl⟩, hth, hnu, hnv, hpo, rfl⟩
        rw [Tr.wS_cons, h2, List.length_cons]
        simp only at hc ⊢
        omega
end Go.Proofs.YtpgkfccfabnjdaaGreatDoor
