import Derived.Test.YtjcmehplcagejaaGreatDoorM22
import Derived.Test.YtjcmehplcagejaaGreatDoorM23
import Derived.Test.YtjcmehplcagejaaGreatDoorM20
/-
  CONTRACTS of package tree: through, the way through all nodes.
-/
namespace Go.Proofs.YtjcmehplcagejaaGreatDoor
open Go.ChangeShapes Go.WideShapes Go.ChangeAt Go.RowKit
open Tr (T S4 Ent Shp)

theorem idx_kidL (a : Int) : ∀ (ks : List (Nat × T)), Sl.idx (kidL ks) a = Sl.idx ks a
  | [] => rfl
  | x :: ks => by
    have ih := idx_kidL a ks
    simp only [kidL, List.map_cons, Sl.idx] at ih ⊢
    rw [ih]
/-- a kid's address and place, or none -/
def kidP (x : Option (Nat × T)) : Nat × Option Addr := (x.map fun y => (y.1, some ⟨y.2.blk, 0, none⟩)).getD (0, none)
theorem kidL_idx (ks : List (Nat × T)) (a : Int) : ((kidL ks)[Sl.idx (kidL ks) a]?).getD (0, none) = kidP (ks[Sl.idx ks a]?) := by
  rw [idx_kidL, kidL, List.getElem?_map]
  cases ks[Sl.idx ks a]? <;> rfl
theorem nFrom_c {w : World} {B k : Nat} {t : T} (h : Mem w B k t) (hT : Tz w) (a : Int) (hlo : -9223372036854775808 ≤ a) (hhi : a ≤ 9223372036854775807) (p : Nat × Option Addr) (hp : kidP (t.ks[Sl.idx t.ks a]?) = p) :
    Calls Tryz.prog 128 #[.pointer (some ⟨t.blk, 0, none⟩), .int .i64 a] w fun e w' => e = .returned (atKid p.1 p.2) ∧ ∃ n, w' = w.drewN n := by
  subst hp
  cases h with
  | ent g q v hn =>
    refine (nFrom_ent hn a).mono fun e w' h => ⟨h.1, 0, h.2.symm⟩
  | br g l pre ks b hn ha hk => exact nFrom_br hn ha hT a hlo hhi _ (kidL_idx ks a)
/-- the cells of a node on the stack -/
def StQ (f : Nat → Option Value) (x : T × Nat) : Prop := f 0 = some (.pointer (some ⟨x.1.blk, 0, none⟩)) ∧ f 1 = some (.int .i64 (x.2 : Int))
theorem stQ_ok : QOk 2 StQ where
  ext := by
    rintro f g s h ⟨h0, h1⟩
    exact ⟨(h 0 (by omega)).symm.trans h0, (h 1 (by omega)).symm.trans h1⟩
  has := by
    rintro f s ⟨h0, h1⟩ j hj
    match j, hj with
    | 0, _ => exact ⟨_, h0, rfl⟩
    | 1, _ => exact ⟨_, h1, rfl⟩
abbrev Stk (w : World) (base : Nat) (v : Value) (S : List (T × Nat)) : Prop := OwnL 223 2 StQ w base v S.reverse
/-- what holds whenever the run is at the label -/
structure Thr (fid g B k M : Nat) (Inv : List T → World → (Nat → Prop) → Prop) (w : World) (F : Nat → Prop) (o : Option T) (m : Nat) (S : List (T × Nat)) (D : Option Addr) (d : Nat) (w' : World) : Prop where
  us : ∃ (us : List T) (F' : Nat → Prop), Tr.allO o = us ++ Tr.rest S ∧ Inv us w' F' ∧ (∀ b, F' b → F b ∨ w.heap.size ≤ b) ∧ ¬ F' w.heap.size ∧ (∀ q, (Value.slice D S.length d).ownBlock = some q → ¬ F' q) ∧ S.length ≤ us.length
  nodes : ∀ x ∈ S, Node w B k x.1 ∧ x.2 ≤ 65536
  foot : Foot F w w'
  box : w'.heap[w.heap.size]? = some (.cells #[.func (.func fid) #[] #[.pointer (some ⟨g, 0, none⟩)]] 162)
  stk : Stk w' (w.heap.size + 1) (.slice D S.length d) S
  cnt : m = 2 * (Tr.rest S).length + S.length
theorem own_block (A : Option Addr) (n c : Nat) : (Value.slice A n c).ownBlock = A.map (·.block) := by cases A <;> rfl
/-- popped -/
theorem Thr.pop {fid g B k M : Nat} {Inv : List T → World → (Nat → Prop) → Prop} {w : World} {F : Nat → Prop} {o : Option T} {m : Nat} {S : List (T × Nat)} {D : Option Addr} {d : Nat} {w' : World} {t : T} {n : Nat}
    (hv : Visit fid g B k M Inv) (h : Thr fid g B k M Inv w F o m ((t, n) :: S) D d w') (hx : t.ks[Sl.idx t.ks (n : Int)]? = none) (q : Nat) : ∃ m', m' < m ∧ Thr fid g B k M Inv w F o m' S D d (w'.drewN q) := by
  obtain ⟨us, F', h1, h2, h3, h4, h5, h6⟩ := h.us
  have hr := Tr.rest_pop (S := S) hx
  refine ⟨2 * (Tr.rest S).length + S.length, by rw [h.cnt, hr, List.length_cons]; omega, ⟨us, F', by rw [h1, hr], hv.frame _ w' (w'.drewN q) _ h2 (Nat.le_refl _) (fun _ _ => rfl), h3, h4, fun q hq => h5 q (by rw [own_block] at hq ⊢; exact hq), by simp at h6; omega⟩, fun x hx => h.nodes x (List.mem_cons_of_mem _ hx), h.foot.drewN _, h.box, ?_, rfl⟩
  have h7 := OwnL.take stQ_ok h.stk S.length (by simp)
  rw [show (((t, n) :: S).reverse).take S.length = S.reverse by rw [List.reverse_cons, List.take_append_of_le_length (by simp), List.take_of_length_le (by simp)]] at h7
  exact h7
theorem Thr.drew {fid g B k M : Nat} {Inv : List T → World → (Nat → Prop) → Prop} {w : World} {F : Nat → Prop} {o : Option T} {m : Nat} {S : List (T × Nat)} {D : Option Addr} {d : Nat} {w' : World}
    (hv : Visit fid g B k M Inv) (h : Thr fid g B k M Inv w F o m S D d w') (q : Nat) : Thr fid g B k M Inv w F o m S D d (w'.drewN q) := by
  obtain ⟨us, F', h1, h2, h3, h4, h5, h6⟩ := h.us
  exact ⟨⟨us, F', h1, hv.frame _ w' (w'.drewN q) _ h2 (Nat.le_refl _) (fun _ _ => rfl), h3, h4, h5, h6⟩, h.nodes, h.foot.drewN _, h.box, h.stk, h.cnt⟩
theorem Stk.top {w : World} {base d n : Nat} {D : Option Addr} {t : T} {S : List (T × Nat)} (h : Stk w base (.slice D (S.length + 1) d) ((t, n) :: S)) :
    ∃ q off, off = 0 ∧ D = some ⟨q, off, none⟩ ∧ base ≤ q ∧ q < w.heap.size ∧ S.length + 1 ≤ d ∧ w.cell? ⟨q, off + S.length * 2, none⟩ = some (.pointer (some ⟨t.blk, 0, none⟩)) ∧ w.cell? ⟨q, off + S.length * 2 + 1, none⟩ = some (.int .i64 (n : Int)) ∧ w.frozen? ⟨q, off + S.length * 2 + 1, none⟩ = false := by
  have hg : ((t, n) :: S).reverse[S.length]? = some (t, n) := by rw [List.reverse_cons, List.getElem?_append_right (by simp)]; simp
  obtain ⟨A, c, hv, hc, hl⟩ := OwnL.rd stQ_ok h
  obtain ⟨b, off, hA, hb, hq⟩ := hl (by simp)
  obtain ⟨vs, h1, h2⟩ := h
  rcases h2.2 with ⟨hv', hn⟩ | ⟨q, cap, cur, hv', hge, hh, hnc, r⟩
  · simp at hn
  · simp only [Value.slice.injEq] at hv hv'
    obtain ⟨rfl, -, rfl⟩ := hv'
    obtain ⟨hv1, -, hv2⟩ := hv
    rw [← hv1] at hA
    simp only [Option.some.injEq, Addr.mk.injEq, and_true] at hA
    obtain ⟨rfl, rfl⟩ := hA
    obtain ⟨e0, e1⟩ := hq _ _ hg
    exact ⟨q, 0, rfl, rfl, hge, hb, by simpa using hnc, e0, e1, frozen_of_row w q _ _ _ hh⟩
theorem ownL_one {α : Type} {n : Nat} {Q : (Nat → Option Value) → α → Prop} {e : TypeId} {w : World} {base : Nat} (vs : Array Value) (x : α) (hb : base ≤ w.heap.size) (hs : vs.size = n) (hx : Q (fun j => vs[j]?) x) :
    OwnL e n Q (w.alloc (.cells vs e)) base (.slice (some ⟨w.heap.size, 0, none⟩) 1 1) [x] := by
  refine ⟨vs.toList, ⟨by simp [hs], fun i a ha => ?_⟩, by simp [hs], .inr ⟨w.heap.size, 1, vs, rfl, hb, heap_at w _ _ rfl, Nat.le_refl _, by unfold maxLen; omega, by simp [hs], List.take_of_length_le (by simp [hs])⟩⟩
  match i with
  | 0 =>
    simp at ha
    subst ha
    simpa using hx
  | i + 1 => simp at ha
theorem lst_at {α : Type} {n : Nat} {Q : (Nat → Option Value) → α → Prop} {e : TypeId} {w : World} (hQ : QOk n Q) (vs : Array Value) (x : α) (hs : vs.size = n) (hx : Q (fun j => vs[j]?) x) :
    Lst n Q (w.alloc (.cells vs e)) (w.heap.size + 1) (some ⟨w.heap.size, 0, none⟩) [x] := by
  obtain ⟨A, c, hv, _, hl⟩ := OwnL.rd hQ (ownL_one (e := e) (w := w) (base := w.heap.size) vs x (Nat.le_refl _) hs hx)
  simp only [Value.slice.injEq] at hv
  obtain ⟨hv, -, -⟩ := hv
  subst hv
  intro hn
  obtain ⟨b, off, hA, hb, hq⟩ := hl hn
  exact ⟨b, off, hA, by simp at hb; exact hb, hq⟩
theorem Thr.push {fid g B k M : Nat} {Inv : List T → World → (Nat → Prop) → Prop} {w : World} {F : Nat → Prop} {o : Option T} {m : Nat} {S : List (T × Nat)} {d : Nat} {w1 : World} {t s : T} {n a q off : Nat} {us : List T} {F' F2 : Nat → Prop} {w2 w5 : World} {D2 : Option Addr} {d2 : Nat} {v : Value} {ob : Obj}
    (hv : Visit fid g B k M Inv) (h : Thr fid g B k M Inv w F o m ((t, n) :: S) (some ⟨q, off, none⟩) d w1)
    (h1 : Tr.allO o = us ++ Tr.rest ((t, n) :: S)) (h3 : ∀ b, F' b → F b ∨ w.heap.size ≤ b) (h4 : ¬ F' w.heap.size) (h5 : ¬ F' q) (h6 : S.length + 1 ≤ us.length) (hq : w.heap.size + 1 ≤ q) (hqs : q < w1.heap.size)
    (hx : t.ks[Sl.idx t.ks (n : Int)]? = some (a, s)) (hI2 : Inv (us ++ [s]) w2 F2) (hF2 : ∀ b, F2 b → F' b ∨ w1.heap.size ≤ b) (hfo : Foot F' w1 w2)
    (hown : OwnL 223 2 StQ w5 (w.heap.size + 1) (.slice D2 (S.length + 1 + 1) d2) (((t, n) :: S).reverse.set S.length (t, a + 1) ++ [(s, 0)]))
    (hgr : ((w2.setCell ⟨q, off + S.length * 2 + 1, none⟩ v).alloc ob).grownBy w5 (some q))
    (hat : (Value.slice D2 (S.length + 1 + 1) d2).ownBlock = some q ∨ (Value.slice D2 (S.length + 1 + 1) d2).ownBlock = some (w2.heap.size + 1)) :
    ∃ m', m' < m ∧ Thr fid g B k M Inv w F o m' ((s, 0) :: (t, a + 1) :: S) D2 d2 w5 := by
  obtain ⟨hnt, hn5⟩ := h.nodes (t, n) List.mem_cons_self
  have hsl : Sl.Wf k t.ks := by
    cases hnt.1 with
    | ent => simp [T.ks] at hx
    | br _ _ _ _ _ hw => exact hw
  have hmem := List.mem_of_getElem? hx
  have hsn : Node w B k s := by
    cases t with
    | ent => simp [T.ks] at hx
    | br g' l pre ks => exact hnt.kid hmem
  have ha := hsl.lt16 _ hmem
  have hr := Tr.rest_push (S := S) hsl.srt hx
  have hsz := hfo.size
  have hws := h.foot.size
  have hb2 : ∀ b, b < w2.heap.size → b ≠ q → w5.heap[b]? = w2.heap[b]? := fun b hb hne => by
    rw [hgr.block b (by simp; omega) (by simpa using hne), Below.heap_alloc _ _ _ (by simp; omega)]
    exact Below.heap_setCell _ _ _ _ (fun e => hne e)
  have hnF2 : ¬ F2 q := fun hh => by rcases hF2 q hh with hh | hh; exact h5 hh; omega
  have hinb := hv.inb _ _ _ hI2
  refine ⟨2 * (Tr.rest ((s, 0) :: (t, a + 1) :: S)).length + (S.length + 2), by rw [h.cnt, hr]; simp only [List.length_cons]; omega, ⟨us ++ [s], F2, by rw [h1, hr]; simp, ?_, ?_, ?_, ?_, by simp; omega⟩, ?_, ?_, ?_, ?_, rfl⟩
  · exact hv.frame _ w2 w5 _ hI2 (Nat.le_trans (by simp) hgr.size) fun b hb => hb2 b (hinb b hb).1 (fun e => hnF2 (e ▸ hb))
  · intro b hb
    rcases hF2 b hb with hh | hh
    · exact h3 b hh
    · exact .inr (by omega)
  · intro hh
    rcases hF2 _ hh with hh | hh
    · exact h4 hh
    · have := (Array.getElem?_eq_some_iff.1 h.box).1; omega
  · intro q2 hq2
    rw [own_block] at hq2
    rw [own_block] at hat
    rcases hat with e | e
    · rw [e] at hq2; cases hq2; exact hnF2
    · rw [e] at hq2; cases hq2; intro hh; have := (hinb _ hh).1; omega
  · intro x hx'
    simp only [List.mem_cons] at hx'
    rcases hx' with rfl | rfl | hx'
    · exact ⟨hsn, by show (0 : Nat) ≤ 65536; omega⟩
    · exact ⟨hnt, by show a + 1 ≤ 65536; have : a < 65536 := ha; omega⟩
    · exact h.nodes x (List.mem_cons_of_mem _ hx')
  · refine (h.foot.trans hfo h3).trans (F1 := fun b => b = q) ⟨?_, ?_, ?_, ?_, fun b hb hne => hb2 b hb hne⟩ (fun b hb => .inr (by omega))
    · exact hgr.os
    · exact hgr.tape
    · exact hgr.output
    · exact Nat.le_trans (by simp) hgr.size
  · have hlt := (Array.getElem?_eq_some_iff.1 h.box).1
    rw [hb2 _ (by omega) (by omega), hfo.block _ hlt h4]
    exact h.box
  · have hrev : ((t, n) :: S).reverse.set S.length (t, a + 1) ++ [(s, 0)] = ((s, 0) :: (t, a + 1) :: S).reverse := by
      simp only [List.reverse_cons]
      rw [List.set_append_right _ _ (by simp)]
      simp
    rw [hrev] at hown
    exact hown

end Go.Proofs.YtjcmehplcagejaaGreatDoor
