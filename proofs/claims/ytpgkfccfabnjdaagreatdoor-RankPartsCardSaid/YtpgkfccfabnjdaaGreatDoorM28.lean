import Derived.Test.YtpgkfccfabnjdaaGreatDoorM22
import Derived.Test.YtpgkfccfabnjdaaGreatDoorM24
import Derived.Test.YtpgkfccfabnjdaaGreatDoorM23
/-
  PLAIN MATHEMATICS of layer 8: a cursor as a stack of nodes and gaps, what stands ahead of it and behind it, how much is left to walk; the way down to a point.
-/
namespace Go.Proofs.YtpgkfccfabnjdaaGreatDoor.Tr
open Go.Proofs.YtpgkfccfabnjdaaGreatDoor.Z
open Go.Proofs.YtpgkfccfabnjdaaGreatDoor (levI)

/-! ### ahead of a gap, behind it -/
def fore (t : T) (n : Nat) : List Ent := match t with
  | .ent _ p v => if n = 0 then [] else [(p, v)]
  | .br _ _ _ ks => entsL (ks.take (Sl.idx ks (n : Int)))
def aftT (t : T) (n : Nat) : List Ent := match t with
  | .ent _ p v => if n = 0 then [(p, v)] else []
  | .br _ _ _ ks => entsL (ks.drop (Sl.idx ks (n : Int)))
def foreR : List (T × Nat) → List Ent
  | [] => []
  | (t, n) :: R => foreR R ++ entsL (t.ks.take (Sl.idx t.ks (n : Int)))
def aftR : List (T × Nat) → List Ent
  | [] => []
  | (t, n) :: R => entsL (t.ks.drop (Sl.idx t.ks (n : Int) + 1)) ++ aftR R
def bef : List (T × Nat) → List Ent
  | [] => []
  | (t, n) :: R => foreR R ++ fore t n
def aft : List (T × Nat) → List Ent
  | [] => []
  | (t, n) :: R => aftT t n ++ aftR R
theorem fore_aft (t : T) (n : Nat) : fore t n ++ aftT t n = t.ents := by
  cases t with
  | ent g p v => rw [ents_ent]; unfold fore aftT; by_cases h : n = 0 <;> simp [h]
  | br g l pre ks => rw [ents_br]; simp only [fore, aftT]; rw [← entsL_append, List.take_append_drop]
def Steps (o : Option T) : List (T × Nat) → Prop
  | [] => o = none
  | [(t, _)] => o = some t
  | (s, _) :: (t, a) :: R => (a, s) ∈ t.ks ∧ Steps o ((t, a) :: R)
theorem ks_br {t : T} {x : Nat × T} (h : x ∈ t.ks) : ∃ g l pre ks, t = .br g l pre ks := by
  cases t with
  | ent => simp [T.ks] at h
  | br g l pre ks => exact ⟨g, l, pre, ks, rfl⟩
theorem Wf.srt {k : Nat} {t : T} (h : Wf k t) : Sl.Srt t.ks := by
  cases h with
  | ent => exact Sl.srt_nil
  | br _ _ _ _ _ hw => exact hw.srt
theorem Wf.lt16 {k : Nat} {t : T} (h : Wf k t) : ∀ x ∈ t.ks, x.1 < 65536 := by
  cases h with
  | ent => intro x hx; simp [T.ks] at hx
  | br _ _ _ _ _ hw => exact hw.lt16
theorem Wf.sub {k : Nat} {t : T} (h : Wf k t) {x : Nat × T} (hx : x ∈ t.ks) : Wf k x.2 ∧ x.2.lv < t.lv := by
  cases h with
  | ent => simp [T.ks] at hx
  | br g l pre ks h63 hw h2 hl ho hk hc => exact ⟨hk x hx, by have := (hc x hx).1; show x.2.lv < l + 1; omega⟩
theorem kid_split {k : Nat} {t s : T} {a : Nat} (h : Wf k t) (hx : (a, s) ∈ t.ks) :
    t.ks[Sl.idx t.ks (a : Int)]? = some (a, s) ∧ Sl.idx t.ks ((a + 1 : Nat) : Int) = Sl.idx t.ks (a : Int) + 1 := by
  obtain ⟨i, hi⟩ := List.mem_iff_getElem?.1 hx
  have h1 : Sl.idx t.ks (a : Int) = i := Sl.idx_of h.srt hi
  refine ⟨by rw [h1]; exact hi, ?_⟩
  have e2 := Sl.idx_succ h.srt (a : Int)
  have e3 : Sl.has t.ks (a : Int) = true := by
    unfold Sl.has
    rw [Sl.get_of_mem h.srt (p := (a, s)) hx]
    rfl
  rw [e3, if_pos rfl] at e2
  exact e2
theorem ents_ks {t : T} {x : Nat × T} (h : x ∈ t.ks) : t.ents = entsL t.ks := by
  obtain ⟨g, l, pre, ks, rfl⟩ := ks_br h
  rw [ents_br]; rfl
theorem steps_all {k : Nat} {o : Option T} : ∀ {R : List (T × Nat)} {t : T} {n : Nat}, Steps o ((t, n) :: R) → (∀ x ∈ (t, n) :: R, Wf k x.1) → foreR R ++ t.ents ++ aftR R = entsO o
  | [], t, n, hc, _ => by
    have h1 : o = some t := hc
    subst h1
    simp [foreR, aftR, entsO]
  | (u, a) :: R, t, n, hc, hw => by
    obtain ⟨hm, hc'⟩ := hc
    have ih := steps_all hc' fun x hx => hw x (List.mem_cons_of_mem _ hx)
    have hs := kid_split (hw (u, a) (List.mem_cons_of_mem _ List.mem_cons_self)) hm
    rw [← ih, ents_ks hm, ents_split hs.1]
    simp only [foreR, aftR, List.append_assoc]
theorem bef_aft {k : Nat} {o : Option T} {S : List (T × Nat)} (hc : Steps o S) (hw : ∀ x ∈ S, Wf k x.1) : bef S ++ aft S = entsO o := by
  cases S with
  | nil => have h1 : o = none := hc; subst h1; rfl
  | cons x R =>
    obtain ⟨t, n⟩ := x
    rw [← steps_all hc hw]
    show (foreR R ++ fore t n) ++ (aftT t n ++ aftR R) = _
    rw [← fore_aft t n]
    simp only [List.append_assoc]
theorem steps_lv {k : Nat} {o : Option T} : ∀ {R : List (T × Nat)} {t : T} {n : Nat}, Steps o ((t, n) :: R) → (∀ x ∈ (t, n) :: R, Wf k x.1) → t.lv + R.length ≤ 64
  | [], t, n, _, hw => by have := (hw (t, n) List.mem_cons_self).lv64; simpa using this
  | (u, a) :: R, t, n, hc, hw => by
    obtain ⟨hm, hc'⟩ := hc
    have ih := steps_lv hc' fun x hx => hw x (List.mem_cons_of_mem _ hx)
    have h1 := ((hw (u, a) (List.mem_cons_of_mem _ List.mem_cons_self)).sub hm).2
    simp only at h1
    rw [List.length_cons]
    omega
theorem Steps.up {o : Option T} {s t : T} {n a : Nat} {R : List (T × Nat)} (h : Steps o ((s, n) :: (t, a) :: R)) : (a, s) ∈ t.ks ∧ Steps o ((t, a) :: R) := h

/-! ### steps -/
/-! ### how much is left -/
/-! ### the way down to a point -/
inductive Way (p : List Nat) (o : Option T) : List (T × Nat) → Option T → Prop
  | start : Way p o [] o
  | step {us : List (T × Nat)} {t : T} (h : Way p o us (some t)) (hl : t.lv ≠ 0) (hc : covers t p = true) : Way p o ((t, addr p (t.lv - 1)) :: us) (kidAt t p)
def Stop (p : List Nat) : Option T → Prop
  | none => True
  | some t => t.lv = 0 ∨ covers t p = false
theorem Way.chain {p : List Nat} {o o' : Option T} {us : List (T × Nat)} (h : Way p o us o') : (∀ s n, o' = some s → Steps o ((s, n) :: us)) ∧ (o' = none → Steps o us) := by
  induction h with
  | start => exact ⟨fun s n e => e, fun e => e⟩
  | @step us t h hl hc ih =>
    have h1 := ih.1 t (addr p (t.lv - 1)) rfl
    exact ⟨fun s n e => ⟨kidAt_mem e, h1⟩, fun _ => h1⟩
theorem Way.wf {k : Nat} {p : List Nat} {o o' : Option T} {us : List (T × Nat)} (h : Way p o us o') (ho : ∀ t, o = some t → Wf k t) : (∀ t, o' = some t → Wf k t) ∧ ∀ x ∈ us, Wf k x.1 := by
  induction h with
  | start => exact ⟨ho, fun x hx => by simp at hx⟩
  | @step us t h hl hc ih =>
    have ht := ih.1 t rfl
    refine ⟨fun s e => (kidAt_wf ht e).1, fun x hx => ?_⟩
    rcases List.mem_cons.1 hx with rfl | hx
    · exact ht
    · exact ih.2 x hx
theorem Way.len {k : Nat} {p : List Nat} {o o' : Option T} {us : List (T × Nat)} (h : Way p o us o') (ho : ∀ t, o = some t → Wf k t) : us.length ≤ 64 ∧ ∀ t, o' = some t → t.lv + us.length ≤ 64 := by
  have hw := h.wf ho
  have hc := h.chain
  cases o' with
  | none =>
    refine ⟨?_, fun t e => by cases e⟩
    cases us with
    | nil => simp
    | cons x R =>
      have h1 := steps_lv (t := x.1) (n := x.2) (hc.2 rfl) hw.2
      have h2 : x.1.lv ≠ 0 := by
        generalize hx : (none : Option T) = q at h
        generalize hy : x :: R = us at h
        cases h with
        | start => cases hy
        | step _ hl _ => cases hy; exact hl
      rw [List.length_cons]
      omega
  | some t =>
    have h1 := steps_lv (hc.1 t 0 rfl) (fun x hx => by rcases List.mem_cons.1 hx with rfl | hx; exact hw.1 t rfl; exact hw.2 x hx)
    refine ⟨by omega, fun s e => by cases e; exact h1⟩
theorem key_beside {k g l : Nat} {pre : List Nat} {ks : List (Nat × T)} (h : Wf k (.br g l pre ks)) {p : List Nat} (hp : p.length = k) (ho : Ok p) (hc : covers (.br g l pre ks) p = true) {x : Nat × T} (hx : x ∈ ks) {e : Ent} (he : e ∈ x.2.ents) :
    (x.1 < addr p l → key e.1 < key p) ∧ (addr p l < x.1 → key p < key e.1) := by
  have h1 := kid_addr h hx he
  have hmem : e ∈ (T.br g l pre ks).ents := by rw [ents_br]; exact mem_entsL.2 ⟨x, hx, he⟩
  have h2 := h.entry hmem
  have h3 : cut p (l + 1) = pre := (covers_iff h hp ho).1 hc
  have h4 : cut e.1 (l + 1) = pre := h2.2.2
  have h63 : l < 64 := by cases h; omega
  have hs : ∀ m, l < m → addr e.1 m = addr p m := fun m hm => by
    have e1 := cut_addr e.1 (l + 1) m
    have e2 := cut_addr p (l + 1) m
    rw [if_pos (by omega)] at e1 e2
    rw [← e1, ← e2, h3, h4]
  refine ⟨fun hlt => key_addr (by rw [h2.1, hp]) h63 (by rw [h1]; exact hlt) hs, fun hlt => key_addr (by rw [h2.1, hp]) h63 (by rw [h1]; exact hlt) (fun m hm => (hs m hm).symm)⟩
theorem take_lt {t : T} {a : Nat} {e : Ent} (h : e ∈ entsL (t.ks.take (Sl.idx t.ks (a : Int)))) : ∃ x ∈ t.ks, x.1 < a ∧ e ∈ x.2.ents := by
  obtain ⟨x, hx, he⟩ := mem_entsL.1 h
  obtain ⟨i, hi⟩ := List.mem_iff_getElem?.1 hx
  rw [List.getElem?_take] at hi
  split at hi
  · rename_i hlt
    have := Sl.idx_below t.ks (a : Int) i x hlt hi
    exact ⟨x, List.mem_of_getElem? hi, by omega, he⟩
  · cases hi
theorem drop_ge {k : Nat} {t : T} (hw : Wf k t) {a : Nat} {e : Ent} (h : e ∈ entsL (t.ks.drop (Sl.idx t.ks (a : Int)))) : ∃ x ∈ t.ks, a ≤ x.1 ∧ e ∈ x.2.ents := by
  obtain ⟨x, hx, he⟩ := mem_entsL.1 h
  obtain ⟨i, hi⟩ := List.mem_iff_getElem?.1 hx
  rw [List.getElem?_drop] at hi
  have := Sl.idx_above hw.srt (a : Int) (by omega) hi
  exact ⟨x, List.mem_of_getElem? hi, by omega, he⟩
theorem drop_gt {k : Nat} {t s : T} (hw : Wf k t) {a : Nat} (hm : (a, s) ∈ t.ks) {e : Ent} (h : e ∈ entsL (t.ks.drop (Sl.idx t.ks (a : Int) + 1))) : ∃ x ∈ t.ks, a < x.1 ∧ e ∈ x.2.ents := by
  have h2 := (kid_split hw hm).2
  rw [← h2] at h
  obtain ⟨x, hx, h3, h4⟩ := drop_ge hw h
  exact ⟨x, hx, by omega, h4⟩
theorem Way.sides {k : Nat} {p : List Nat} (hp : p.length = k) (hok : Ok p) {o o' : Option T} {us : List (T × Nat)} (h : Way p o us o') (ho : ∀ t, o = some t → Wf k t) :
    (∀ e ∈ foreR us, key e.1 < key p) ∧ ((∃ s, o' = some s) → ∀ e ∈ aftR us, key p < key e.1) ∧ (o' = none → ∀ e ∈ aft us, key p < key e.1) := by
  induction h with
  | start => exact ⟨fun e he => by simp [foreR] at he, fun _ e he => by simp [aftR] at he, fun _ e he => by simp [aft] at he⟩
  | @step us t h hl hc ih =>
    have ht := (h.wf ho).1 t rfl
    obtain ⟨g, l, pre, ks, rfl⟩ : ∃ g l pre ks, t = .br g l pre ks := by
      cases t with
      | ent => exact absurd rfl hl
      | br g l pre ks => exact ⟨g, l, pre, ks, rfl⟩
    have hl' : (T.br g l pre ks).lv - 1 = l := rfl
    rw [hl'] at *
    have i2 := ih.2.1 ⟨_, rfl⟩
    refine ⟨fun e he => ?_, ?_, ?_⟩
    · simp only [foreR, List.mem_append] at he
      rcases he with he | he
      · exact ih.1 e he
      · obtain ⟨x, hx, hlt, he⟩ := take_lt he
        exact (key_beside ht hp hok hc hx he).1 hlt
    · rintro ⟨s, hs⟩ e he
      simp only [aftR, List.mem_append] at he
      rcases he with he | he
      · obtain ⟨x, hx, hlt, he⟩ := drop_gt ht (kidAt_mem hs) he
        exact (key_beside ht hp hok hc hx he).2 hlt
      · exact i2 e he
    · intro hs e he
      simp only [aft, List.mem_append] at he
      rcases he with he | he
      · have he' : e ∈ entsL ((T.br g l pre ks).ks.drop (Sl.idx (T.br g l pre ks).ks ((addr p l : Nat) : Int))) := he
        obtain ⟨x, hx, hlt, he⟩ := drop_ge ht he'
        refine (key_beside ht hp hok hc hx he).2 ?_
        rcases Nat.lt_or_ge (addr p l) x.1 with h1 | h1
        · exact h1
        · have h2 := Sl.get_none (L := ks) (a := (addr p l : Int)) hs x hx
          omega
      · exact i2 e he
theorem covers_not {k : Nat} {t : T} (h : Wf k t) {p : List Nat} (hp : p.length = k) (hok : Ok p) (hs : Stop p (some t)) {e : Ent} (he : e ∈ t.ents) : cmp e.1 p = cmp t.pre p := by
  cases t with
  | ent g q v =>
    rw [ents_ent] at he
    simp only [List.mem_singleton] at he
    subst he
    rfl
  | br g l pre ks =>
    have h0 : covers (.br g l pre ks) p = false := by
      rcases hs with hs | hs
      · exact absurd hs (by show l + 1 ≠ 0; omega)
      · exact hs
    have h2 := h.entry he
    have hpl : (T.br g l pre ks).pre.length = k := h.len
    have hpo : Ok (T.br g l pre ks).pre := h.ok
    have h1 : ((l + 1 : Nat) : Int) ≤ Z.part pre p := by
      have h3 := of_decide_eq_false h0
      have h4 : levI (.br g l pre ks) = (l : Int) := by show ((l + 1 : Nat) : Int) - 1 = l; omega
      rw [h4] at h3
      have h5 : ¬ Z.part pre p ≤ (l : Int) := h3
      omega
    obtain ⟨m, hm⟩ : ∃ m : Nat, Z.part pre p = (m : Int) := ⟨(Z.part pre p).toNat, by omega⟩
    have hps := part_spec (us := pre) (vs := p) (by show (T.br g l pre ks).pre.length = _; rw [hpl, hp]) hpo hok
    rcases hps with ⟨e1, -⟩ | ⟨m', hm', e1, hd, hs'⟩
    · omega
    · have hmm : m' = m := by omega
      subst hmm
      have hce : cut e.1 (l + 1) = pre := h2.2.2
      have hadr : ∀ j, l + 1 ≤ j → addr e.1 j = addr pre j := fun j hj => by
        have e1 := cut_addr e.1 (l + 1) j
        rw [if_pos hj] at e1
        rw [← e1, hce]
      have hpe : Z.part e.1 p = (m' : Int) := part_eq (by rw [h2.1, hp]) h2.2.1 hok m' (by rw [hadr m' (by omega)]; exact hd) (fun j hj _ => by rw [hadr j (by omega)]; exact hs' j hj)
      show cmp e.1 p = cmp pre p
      rw [cmp_at hpe, cmp_at hm, hadr m' (by omega)]
theorem stop_side {k : Nat} {t : T} (h : Wf k t) {p : List Nat} (hp : p.length = k) (hok : Ok p) (hs : Stop p (some t)) :
    (cmp t.pre p < 0 → ∀ e ∈ t.ents, key e.1 < key p) ∧ (0 ≤ cmp t.pre p → ∀ e ∈ t.ents, key p ≤ key e.1) ∧ (0 < cmp t.pre p → ∀ e ∈ t.ents, key p < key e.1) ∧ (cmp t.pre p ≤ 0 → ∀ e ∈ t.ents, key e.1 ≤ key p) := by
  refine ⟨fun hc e he => ?_, fun hc e he => ?_, fun hc e he => ?_, fun hc e he => ?_⟩ <;>
  · have h1 := covers_not h hp hok hs he
    have h2 := h.entry he
    rcases key_cases (by rw [h2.1, hp]) h2.2.1 hok with ⟨e1, e2⟩ | ⟨e1, e2⟩ | ⟨e1, e2⟩
    · first | omega | (rw [e1]; omega) | (rw [e1]; exact Nat.le_refl _)
    · omega
    · omega
end Go.Proofs.YtpgkfccfabnjdaaGreatDoor.Tr

/-
  CURSORS IN MEMORY ('CurM': its block, the row of its steps; 'CurAt': with the tree's nodes), and CONTRACTS of package walk, first part: last, step, up.
-/
namespace Go.Proofs.YtpgkfccfabnjdaaGreatDoor
open Go.ChangeShapes Go.WideShapes Go.ChangeAt Go.RowKit
open Tr (T S4 Ent)

def Cf (g : Nat) (D : Option Addr) : Nat → Prop := fun b => b = g ∨ D.map (·.block) = some b
theorem block_set {w : World} {g i : Nat} {cs : Array Value} {t : TypeId} {fr : Nat × Nat} (h : w.heap[g]? = some (.cells cs t fr)) (v : Value) :
    (w.setCell ⟨g, i, none⟩ v).heap[g]? = some (.cells (cs.setIfInBounds i v) t fr) := by
  simp [World.setCell, Array.getElem?_modify, h]
/-! ### last, up, step -/
end Go.Proofs.YtpgkfccfabnjdaaGreatDoor

/-
  CONTRACTS of package walk: what a move keeps and tells. Laid by wip/gen20.py.
-/
namespace Go.Proofs.YtpgkfccfabnjdaaGreatDoor
open Go.ChangeShapes Go.WideShapes Go.ChangeAt Go.RowKit
open Tr (T S4 Ent)

theorem box_cells {w' : World} {b : Nat} {x y : Value} {t : TypeId} (h : w'.heap[b]? = some (.cells #[x, y] t (0, 0))) :
    w'.cell? ⟨b, 0, none⟩ = some x ∧ w'.cell? ⟨b, 1, none⟩ = some y ∧ w'.frozen? ⟨b, 0, none⟩ = false ∧ w'.frozen? ⟨b, 1, none⟩ = false :=
  ⟨by rw [cell_of_row w' b _ _ t (0, 0) h]; rfl, by rw [cell_of_row w' b _ _ t (0, 0) h]; rfl, frozen_of_row w' b _ _ t h, frozen_of_row w' b _ _ t h⟩

theorem res_cells {w' : World} {b : Nat} {x y : Value} {t : TypeId} (h : w'.heap[b]? = some (.cells #[x, y] t (0, 0))) (x' y' : Value) :
    (w'.setCell ⟨b, 0, none⟩ x').cell? ⟨b, 0, none⟩ = some x' ∧ ((w'.setCell ⟨b, 0, none⟩ x').setCell ⟨b, 1, none⟩ y').cell? ⟨b, 1, none⟩ = some y' :=
  ⟨by rw [cell_of_row _ b _ _ t (0, 0) (block_set h _)]; rfl, by rw [cell_of_row _ b _ _ t (0, 0) (block_set (block_set h _) _)]; rfl⟩
section
variable {w : World} {B g k : Nat} {kk : Int} {o : Option T} {S0 : List (T × Nat)} {D0 : Option Addr} {μ : List (T × Nat) → Nat} {m : Nat} {S : List (T × Nat)} {D : Option Addr} {d : Nat} {w' : World}
end
end Go.Proofs.YtpgkfccfabnjdaaGreatDoor
