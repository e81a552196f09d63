import Derived.Test.YtpgkfccfabnjdaaM02
import Derived.Test.YtpgkfccfabnjdaaM05
import Derived.BigQuiet
import Derived.ScopeJumps
import Derived.WalkMore
import Derived.Test.YtpgkfccfabnjdaaM03
import Derived.RangeFuncNested
import Derived.RangeFuncBound
import Derived.RangeFuncCalls
import Derived.RangeFuncLeaves
import Derived.Shelf.Abstract
import Derived.Shelf.RegionOpen
import Derived.OwnWalkIn
import Derived.TacticsInMore
import Derived.LoopNIn
import Derived.LoopIn
/-
  PLAIN MATHEMATICS of layer 6, third part: where each kid's entries stand in the list of all, at which level the first one and the last one part.
-/
namespace Go.Proofs.Ytpgkfccfabnjdaa.Tr
open Go.Proofs.Ytpgkfccfabnjdaa.Z

theorem kid_addr {k g l : Nat} {pre : List Nat} {ks : List (Nat × T)} (h : Wf k (.br g l pre ks)) {x : Nat × T} (hx : x ∈ ks) {e : Ent} (he : e ∈ x.2.ents) : addr e.1 l = x.1 := by
  cases h with
  | br _ _ _ _ h63 hw h2 hl ho hk hc =>
    obtain ⟨c1, c2, c3⟩ := hc x hx
    rw [(hk x hx).addr_at he c1, c3]
end Go.Proofs.Ytpgkfccfabnjdaa.Tr

/-
  PLAIN MATHEMATICS of layers 6 and 7: the z-order as numbers; lists of entries in z-order; the entries of a node are in z-order.
-/
namespace Go.Proofs.Ytpgkfccfabnjdaa.Tr
open Go.Proofs.Ytpgkfccfabnjdaa.Z

/-! ### the z-order as numbers -/
def keyN (p : List Nat) : Nat → Nat
  | 0 => 0
  | n + 1 => keyN p n + addr p n * (2 ^ p.length) ^ n
def key (p : List Nat) : Nat := keyN p 64
theorem keyN_lt (p : List Nat) : ∀ n, keyN p n < (2 ^ p.length) ^ n
  | 0 => by simp [keyN]
  | n + 1 => by
    have h1 := keyN_lt p n
    have h2 := addr_bound p n
    have h3 : (addr p n + 1) * (2 ^ p.length) ^ n ≤ 2 ^ p.length * (2 ^ p.length) ^ n := Nat.mul_le_mul_right _ h2
    rw [Nat.succ_mul] at h3
    simp only [keyN]
    rw [Nat.pow_succ, Nat.mul_comm ((2 ^ p.length) ^ n)]
    omega
theorem keyN_less {p q : List Nat} (hl : p.length = q.length) {l : Nat} (h : addr p l < addr q l) : ∀ n, l < n → (∀ m, l < m → m < n → addr p m = addr q m) → keyN p n < keyN q n
  | 0, hn, _ => by omega
  | n + 1, hn, hs => by
    simp only [keyN]
    by_cases c : n = l
    · subst c
      have h1 := keyN_lt p n
      have h3 : (addr p n + 1) * (2 ^ p.length) ^ n ≤ addr q n * (2 ^ p.length) ^ n := Nat.mul_le_mul_right _ h
      rw [Nat.succ_mul] at h3
      rw [← hl]
      omega
    · have := keyN_less hl h n (by omega) fun m h1 h2 => hs m h1 (by omega)
      rw [hs n (by omega) (by omega), hl]
      omega
theorem key_cases {p q : List Nat} (h : p.length = q.length) (hp : Ok p) (hq : Ok q) : (p = q ∧ cmp p q = 0) ∨ (key p < key q ∧ cmp p q = -1) ∨ (key q < key p ∧ cmp p q = 1) := by
  rcases cmp_vals h hp hq with ⟨r, e⟩ | ⟨l, hl, e, hs, hc⟩
  · exact .inl ⟨r, e⟩
  · rcases hc with ⟨c, e⟩ | ⟨c, e⟩
    · exact .inr (.inl ⟨keyN_less h c 64 hl fun m h1 _ => hs m h1, e⟩)
    · exact .inr (.inr ⟨keyN_less h.symm c 64 hl fun m h1 _ => (hs m h1).symm, e⟩)
theorem key_lt {p q : List Nat} (h : p.length = q.length) (hp : Ok p) (hq : Ok q) : key p < key q ↔ cmp p q < 0 := by
  rcases key_cases h hp hq with ⟨r, e⟩ | ⟨c, e⟩ | ⟨c, e⟩
  · subst r; omega
  · omega
  · omega
theorem key_inj {p q : List Nat} (h : p.length = q.length) (hp : Ok p) (hq : Ok q) : key p = key q ↔ p = q := by
  rcases key_cases h hp hq with ⟨r, e⟩ | ⟨c, e⟩ | ⟨c, e⟩
  · subst r; simp
  · exact ⟨fun _ => by omega, fun r => by subst r; omega⟩
  · exact ⟨fun _ => by omega, fun r => by subst r; omega⟩
/-! ### lists in z-order -/
def K (L : List Ent) : List (Nat × Ent) := L.map fun e => (key e.1, e)
def ZS (L : List Ent) : Prop := L.Pairwise fun a b => key a.1 < key b.1
def Dim (k : Nat) (L : List Ent) : Prop := ∀ e ∈ L, e.1.length = k ∧ Ok e.1 ∧ e.2 < 18446744073709551616
theorem K_length (L : List Ent) : (K L).length = L.length := by simp [K]
theorem K_get {L : List Ent} {i : Nat} {e : Ent} (h : L[i]? = some e) : (K L)[i]? = some (key e.1, e) := by simp [K, h]
theorem K_at {L : List Ent} {i : Nat} {x : Nat × Ent} (h : (K L)[i]? = some x) : L[i]? = some x.2 ∧ x.1 = key x.2.1 := by
  simp only [K, List.getElem?_map, Option.map_eq_some_iff] at h
  obtain ⟨e, he, rfl⟩ := h
  exact ⟨he, rfl⟩
theorem K_mem {L : List Ent} {x : Nat × Ent} : x ∈ K L ↔ x.2 ∈ L ∧ x.1 = key x.2.1 := by
  simp only [K, List.mem_map]
  constructor
  · rintro ⟨e, he, rfl⟩; exact ⟨he, rfl⟩
  · rintro ⟨h, e⟩; exact ⟨x.2, h, by rw [← e]⟩
theorem ZS.srt {L : List Ent} (h : ZS L) : Sl.Srt (K L) := by
  unfold Sl.Srt K
  rw [List.pairwise_map]
  exact h
theorem ZS.of {L : List Ent} (h : Sl.Srt (K L)) : ZS L := by
  unfold Sl.Srt K at h
  rw [List.pairwise_map] at h
  exact h
theorem K_back {M : List (Nat × Ent)} (h : ∀ x ∈ M, x.1 = key x.2.1) : K (M.map (·.2)) = M := by
  unfold K
  rw [List.map_map]
  conv => rhs; rw [← List.map_id M]
  exact List.map_congr_left fun x hx => by show (key x.2.1, x.2) = x; rw [← h x hx]
theorem ZS.ext : ∀ {L M : List Ent}, ZS L → ZS M → (∀ e, e ∈ L ↔ e ∈ M) → L = M
  | [], [], _, _, _ => rfl
  | [], b :: M, _, _, h => by have := (h b).2 (List.mem_cons_self); simp at this
  | a :: L, [], _, _, h => by have := (h a).1 (List.mem_cons_self); simp at this
  | a :: L, b :: M, hL, hM, h => by
    have l1 := (List.pairwise_cons.1 hL)
    have m1 := (List.pairwise_cons.1 hM)
    have hab : a = b := by
      rcases List.mem_cons.1 ((h a).1 (List.mem_cons_self)) with e | e
      · exact e
      · rcases List.mem_cons.1 ((h b).2 (List.mem_cons_self)) with e' | e'
        · exact e'.symm
        · have := m1.1 a e; have := l1.1 b e'; omega
    subst hab
    rw [ZS.ext l1.2 m1.2 fun e => ?_]
    constructor
    · intro he
      rcases List.mem_cons.1 ((h e).1 (List.mem_cons_of_mem _ he)) with e' | e'
      · subst e'; have := l1.1 e he; omega
      · exact e'
    · intro he
      rcases List.mem_cons.1 ((h e).2 (List.mem_cons_of_mem _ he)) with e' | e'
      · subst e'; have := m1.1 e he; omega
      · exact e'
def placeE (L : List Ent) (p : List Nat) : Nat := Sl.idx (K L) (key p : Int)
def getE (L : List Ent) (p : List Nat) : Option Nat := (Sl.get (K L) (key p : Int)).map (·.2)
def delE (p : List Nat) (L : List Ent) : List Ent := (Sl.del (key p) (K L)).map (·.2)
def putE (p : List Nat) (v : Nat) (L : List Ent) : List Ent := (Sl.put (key p) (p, v) (K L)).map (·.2)
theorem K_del (p : List Nat) (L : List Ent) : K (delE p L) = Sl.del (key p) (K L) :=
  K_back fun _ hx => (K_mem.1 (Sl.mem_del hx)).2
theorem K_put (p : List Nat) (v : Nat) (L : List Ent) : K (putE p v L) = Sl.put (key p) (p, v) (K L) :=
  K_back fun x hx => by
    rcases Sl.mem_put hx with rfl | hx
    · rfl
    · exact (K_mem.1 hx).2
theorem ZS.del {L : List Ent} (h : ZS L) (p : List Nat) : ZS (delE p L) := ZS.of (by rw [K_del]; exact Sl.srt_del _ h.srt)
theorem ZS.put {L : List Ent} (h : ZS L) (p : List Nat) (v : Nat) : ZS (putE p v L) := ZS.of (by rw [K_put]; exact Sl.srt_put _ _ h.srt)
theorem ZS.nil : ZS [] := List.Pairwise.nil
theorem mem_delE {L : List Ent} (h : ZS L) {p : List Nat} {e : Ent} : e ∈ delE p L ↔ e ∈ L ∧ key e.1 ≠ key p := by
  have h1 : e ∈ delE p L ↔ (key e.1, e) ∈ K (delE p L) := by rw [K_mem]; simp
  have h2 : e ∈ L ↔ (key e.1, e) ∈ K L := by rw [K_mem]; simp
  rw [h1, h2, K_del, ← Sl.get_iff (Sl.srt_del _ h.srt), ← Sl.get_iff h.srt, Sl.get_del h.srt]
  by_cases c : key e.1 = key p
  · simp [c]
  · rw [if_neg (by omega)]; simp [c]
theorem mem_putE {L : List Ent} (h : ZS L) {p : List Nat} {v : Nat} {e : Ent} : e ∈ putE p v L ↔ e = (p, v) ∨ (e ∈ L ∧ key e.1 ≠ key p) := by
  have h1 : e ∈ putE p v L ↔ (key e.1, e) ∈ K (putE p v L) := by rw [K_mem]; simp
  have h2 : e ∈ L ↔ (key e.1, e) ∈ K L := by rw [K_mem]; simp
  rw [h1, h2, K_put, ← Sl.get_iff (Sl.srt_put _ _ h.srt), ← Sl.get_iff h.srt, Sl.get_put h.srt]
  by_cases c : key e.1 = key p
  · rw [if_pos (by omega)]
    constructor
    · intro h; exact .inl (by simpa using h.symm)
    · rintro (h | h)
      · rw [h]
      · exact absurd c h.2
  · rw [if_neg (by omega)]
    constructor
    · intro h; exact .inr ⟨h, c⟩
    · rintro (h | h)
      · subst h; exact absurd rfl c
      · exact h.1
theorem getE_iff {L : List Ent} (h : ZS L) {k : Nat} (hd : Dim k L) {p : List Nat} (hp : p.length = k) (ho : Ok p) {v : Nat} : getE L p = some v ↔ (p, v) ∈ L := by
  unfold getE
  rw [Option.map_eq_some_iff]
  constructor
  · rintro ⟨e, he, rfl⟩
    have h1 := K_mem.1 ((Sl.get_iff h.srt).1 he)
    have h2 := hd e h1.1
    have := (key_inj (by rw [hp, h2.1]) ho h2.2.1).1 h1.2
    subst this
    exact h1.1
  · intro he
    exact ⟨(p, v), (Sl.get_iff h.srt).2 (K_mem.2 ⟨he, rfl⟩), rfl⟩
theorem getE_none {L : List Ent} (h : ZS L) {k : Nat} (hd : Dim k L) {p : List Nat} (hp : p.length = k) (ho : Ok p) : getE L p = none ↔ ∀ e ∈ L, e.1 ≠ p := by
  constructor
  · rintro hn e he rfl
    have := (getE_iff h hd hp ho (v := e.2)).2 he
    rw [hn] at this
    cases this
  · intro hn
    rcases hg : getE L p with _ | v
    · rfl
    · exact absurd rfl (hn _ ((getE_iff h hd hp ho).1 hg))
theorem Dim.put {k : Nat} {L : List Ent} (h : ZS L) (hd : Dim k L) {p : List Nat} (hp : p.length = k) (ho : Ok p) {v : Nat} (hv : v < 18446744073709551616) : Dim k (putE p v L) := fun e he => by
  rcases (mem_putE h).1 he with rfl | ⟨he, _⟩
  · exact ⟨hp, ho, hv⟩
  · exact hd e he
theorem Dim.del {k : Nat} {L : List Ent} (h : ZS L) (hd : Dim k L) (p : List Nat) : Dim k (delE p L) := fun e he => hd e ((mem_delE h).1 he).1
theorem length_putE {L : List Ent} (h : ZS L) (p : List Nat) (v : Nat) : (putE p v L).length ≤ L.length + 1 := by
  unfold putE
  rw [List.length_map, Sl.length_put h.srt, K_length]
  split <;> omega
theorem length_delE (p : List Nat) (L : List Ent) : (delE p L).length ≤ L.length := by
  unfold delE
  rw [List.length_map, ← K_length L]
  have : ∀ (M : List (Nat × Ent)) (a : Nat), (Sl.del a M).length ≤ M.length := by
    intro M a
    induction M with
    | nil => simp [Sl.del]
    | cons x M ih =>
      simp only [Sl.del]
      split
      · simp
      · simp only [List.length_cons]; omega
  exact this _ _

/-! ### the entries of a node are in z-order -/
theorem Wf.dim {k : Nat} {t : T} (h : Wf k t) : Dim k t.ents := fun e he => ⟨(h.each e he).1, (h.each e he).2.1, (h.each e he).2.2.1⟩
theorem Wf.zs {k : Nat} {t : T} (h : Wf k t) : ZS t.ents := by
  induction h with
  | ent g p v => rw [ents_ent]; exact List.pairwise_singleton _ _
  | br g l pre ks h63 hw h2 hl ho hk hc ih =>
    have wf : Wf k (.br g l pre ks) := .br g l pre ks h63 hw h2 hl ho hk hc
    rw [ents_br]
    unfold ZS entsL
    rw [List.pairwise_flatMap]
    refine ⟨fun x hx => ih x hx, hw.srt.imp_of_mem ?_⟩
    intro x y hx hy hxy a ha b hb
    have wa := (hk x hx).entry ha
    have wb := (hk y hy).entry hb
    have a1 := kid_addr wf hx ha
    have b1 := kid_addr wf hy hb
    have hp := br_part wf hx hy (by omega) wa wb
    rw [key_lt (by rw [wa.1, wb.1]) wa.2.1 wb.2.1, cmp_at hp, a1, b1, if_pos hxy]
    decide
end Go.Proofs.Ytpgkfccfabnjdaa.Tr

/-
  PLAIN MATHEMATICS of layer 6, second part: a node with a kid more, with another kid, without one; the pair of two nodes.
-/
namespace Go.Proofs.Ytpgkfccfabnjdaa
open Tr (T S4)

theorem Tr.Wf.part_cut {k : Nat} {n t : T} (hn : Tr.Wf k n) (ht : Tr.Wf k t) {m : Nat} : Z.part n.pre t.pre < (m : Int) ↔ Z.cut n.pre m = Z.cut t.pre m :=
  (Z.cut_eq_iff (by rw [hn.len, ht.len]) hn.ok ht.ok m).symm
theorem Tr.Wf.put {k g g' l : Nat} {pre : List Nat} {ks : List (Nat × T)} (h : Tr.Wf k (.br g l pre ks)) {t : T} (ht : Tr.Wf k t) (hp : Z.part pre t.pre ≤ (l : Int)) (hl : t.lv ≤ l) :
    Tr.Wf k (.br g' l pre (Sl.put (Z.addr t.pre l) t ks)) := by
  have hcut := (Tr.Wf.part_cut h ht (m := l + 1)).1 (by show Z.part pre t.pre < _; omega)
  have hpre : Z.cut pre (l + 1) = pre := h.cut_pre
  cases h with
  | br _ _ _ _ h63 hw h2 hlen ho hk hc =>
    have ha : Z.addr t.pre l < 2 ^ k := by have := Z.addr_bound t.pre l; rw [ht.len] at this; exact this
    have hkids : ∀ x ∈ Sl.put (Z.addr t.pre l) t ks, Tr.Wf k x.2 ∧ x.2.lv ≤ l ∧ Z.cut x.2.pre (l + 1) = pre ∧ Z.addr x.2.pre l = x.1 := by
      intro x hx
      rcases Sl.mem_put hx with rfl | hx
      · exact ⟨ht, hl, by rw [← hcut]; exact hpre, rfl⟩
      · exact ⟨hk x hx, hc x hx⟩
    refine .br g' l pre _ h63 (hw.put t ha) ?_ hlen ho (fun x hx => (hkids x hx).1) (fun x hx => (hkids x hx).2)
    rw [Sl.length_put hw.srt]
    omega
theorem Tr.Wf.del {k g g' l : Nat} {pre : List Nat} {ks : List (Nat × T)} (h : Tr.Wf k (.br g l pre ks)) (a : Nat) (h2 : 2 ≤ (Sl.del a ks).length) : Tr.Wf k (.br g' l pre (Sl.del a ks)) := by
  cases h with
  | br _ _ _ _ h63 hw _ hlen ho hk hc =>
    exact .br g' l pre _ h63 (hw.del a) h2 hlen ho (fun x hx => hk x (Sl.mem_del hx)) (fun x hx => hc x (Sl.mem_del hx))
end Go.Proofs.Ytpgkfccfabnjdaa

/-
  PLAIN MATHEMATICS of layer 7: the path of a point in a node, what becomes of a node when a point is put or taken away.
-/
namespace Go.Proofs.Ytpgkfccfabnjdaa
open Tr (T S4 Ent)
namespace Tr
open Go.Proofs.Ytpgkfccfabnjdaa.Z

def covers (t : T) (p : List Nat) : Bool := decide (Z.part t.pre p ≤ levI t)
def kidAt (t : T) (p : List Nat) : Option T := Sl.get t.ks (addr p (t.lv - 1) : Int)
theorem covers_iff {k : Nat} {t : T} (h : Wf k t) {p : List Nat} (hp : p.length = k) (ho : Ok p) : covers t p = true ↔ cut p t.lv = t.pre := by
  unfold covers levI
  rw [decide_eq_true_eq]
  have h1 := cut_eq_iff (us := t.pre) (vs := p) (by rw [h.len, hp]) h.ok ho t.lv
  rw [h.cut_pre] at h1
  constructor
  · intro c; exact (h1.2 (by omega)).symm
  · intro c; have := h1.1 c.symm; omega
theorem kidAt_mem {t s : T} {p : List Nat} (h : kidAt t p = some s) : (addr p (t.lv - 1), s) ∈ t.ks := by
  obtain ⟨n, hn, hm⟩ := Sl.get_mem _ _ _ h
  have : n = addr p (t.lv - 1) := by omega
  subst this
  exact hm
theorem kidAt_wf {k : Nat} {t s : T} (h : Wf k t) {p : List Nat} (hs : kidAt t p = some s) : Wf k s ∧ s.lv < t.lv ∧ addr s.pre (t.lv - 1) = addr p (t.lv - 1) ∧ cut s.pre t.lv = t.pre := by
  have hm := kidAt_mem hs
  cases h with
  | ent g q v => simp [T.ks] at hm
  | br g l pre ks h63 hw h2 hl ho hk hc =>
    obtain ⟨c1, c2, c3⟩ := hc _ hm
    exact ⟨hk _ hm, by show s.lv < l + 1; exact Nat.lt_succ_of_le c1, c3, c2⟩
def entsO : Option T → List Ent
  | none => []
  | some t => t.ents
theorem mem_kidAt {k g l : Nat} {pre : List Nat} {ks : List (Nat × T)} (h : Wf k (.br g l pre ks)) {p : List Nat} {e : Ent} :
    e ∈ entsO (kidAt (.br g l pre ks) p) ↔ e ∈ (T.br g l pre ks).ents ∧ addr e.1 l = addr p l := by
  have hw : Sl.Wf k ks := by cases h with | br _ _ _ _ _ hw => exact hw
  have hk : kidAt (.br g l pre ks) p = Sl.get ks (addr p l : Int) := rfl
  rw [hk, ents_br, mem_entsL]
  constructor
  · intro he
    rcases hg : Sl.get ks (addr p l : Int) with _ | s
    · rw [hg] at he; simp [entsO] at he
    · rw [hg] at he
      have hm := (Sl.get_iff hw.srt).1 hg
      exact ⟨⟨_, hm, he⟩, kid_addr h hm he⟩
  · rintro ⟨⟨y, hy, he⟩, ha⟩
    rw [kid_addr h hy he] at ha
    rw [(Sl.get_iff hw.srt (a := addr p l) (v := y.2)).2 (by rw [← ha]; exact hy)]
    exact he

end Tr
end Go.Proofs.Ytpgkfccfabnjdaa

/-
  CONTRACTS of package tree, second part: what a call turns ('Foot'), whoever is told each node that is met ('Visit'), and down, the way from node to node.
-/
namespace Go.Proofs.Ytpgkfccfabnjdaa
open Go.ChangeShapes Go.WideShapes Go.ChangeAt Go.RowKit
open Tr (T S4 Ent)

structure Foot (F : Nat → Prop) (w w' : World) : Prop where
  os : w'.os = w.os
  tape : w'.tape = w.tape
  output : w'.output = w.output
  size : w.heap.size ≤ w'.heap.size
  block : ∀ k, k < w.heap.size → ¬ F k → w'.heap[k]? = w.heap[k]?
theorem Foot.refl (F : Nat → Prop) (w : World) : Foot F w w := ⟨rfl, rfl, rfl, Nat.le_refl _, fun _ _ _ => rfl⟩
theorem Foot.trans {F F1 : Nat → Prop} {w w1 w2 : World} (h : Foot F w w1) (k : Foot F1 w1 w2) (hF : ∀ b, F1 b → F b ∨ w.heap.size ≤ b) : Foot F w w2 :=
  ⟨k.os.trans h.os, k.tape.trans h.tape, k.output.trans h.output, Nat.le_trans h.size k.size, fun b hb hn => by
    have h1 := h.size
    rw [k.block b (by omega) (fun c => by rcases hF b c with c | c; exact hn c; omega)]
    exact h.block b hb hn⟩
theorem Foot.of_below {F : Nat → Prop} {w w' : World} (h : Below w.heap.size w w') : Foot F w w' := ⟨h.os, h.tape, h.output, h.size, fun b hb _ => h.block b hb⟩
theorem Foot.below {F : Nat → Prop} {w w' : World} {B : Nat} (h : Foot F w w') (hB : B ≤ w.heap.size) (hF : ∀ b, F b → B ≤ b) : Below B w w' :=
  ⟨h.os, h.tape, h.output, h.size, fun b hb => h.block b (by omega) (fun c => by have := hF b c; omega)⟩
theorem Foot.drewN {F : Nat → Prop} {w w' : World} (h : Foot F w w') (n : Nat) : Foot F w (w'.drewN n) := ⟨h.os, h.tape, h.output, h.size, h.block⟩
theorem Foot.setCell (w : World) {F : Nat → Prop} {a : Addr} (ha : F a.block) (v : Value) : Foot F w (w.setCell a v) :=
  ⟨rfl, rfl, rfl, by simp, fun b _ hn => Below.heap_setCell _ _ _ _ (fun e => hn (e ▸ ha))⟩
theorem Foot.grown {F : Nat → Prop} {w w' : World} {row : Option Nat} (h : w.grownBy w' row) (hr : ∀ k, row = some k → F k) : Foot F w w' :=
  ⟨h.os, h.tape, h.output, h.size, fun b hb hn => h.block b hb (fun e => hn (hr b e.symm))⟩

theorem wp_scope_again {P : Program} {c rest : Code} {Q : Exit → Act → World → Prop} {a : Act} {w : World} (l : Nat) (J : Act → World → Prop) (μ : Act → World → Nat) (hf : findLabel c l = some (Code.skip.seq rest))
    (first : (∀ a w, J a w → rest.wp P (Exit.jump l J Q) a w) → c.wp P (Exit.jump l J Q) a w)
    (pass : ∀ a w, J a w → rest.wp P (Exit.jump l (fun a' w' => J a' w' ∧ μ a' w' < μ a w) Q) a w) : (Code.scope c).wp P Q a w := by
  refine wp_scope_jumps l J μ hf (first fun a w h => Code.wp_mono ?_ (pass a w h)) fun a w h => wp_seq (wp_skip (pass a w h))
  intro e a' w' h'
  cases e <;> first | exact h' | exact ⟨h'.1, h'.2.1⟩

end Go.Proofs.Ytpgkfccfabnjdaa

/-
  CONTRACTS of package tree, third part: Get's function (the last node), path's function (all nodes); path, cutEntry, Get, Path.
-/
namespace Go.Proofs.Ytpgkfccfabnjdaa
open Go.ChangeShapes Go.WideShapes Go.ChangeAt Go.RowKit
open Tr (T S4 Ent)

/-! ### the last node -/
/-! ### all nodes of a path -/
theorem OwnV.block {e : TypeId} {w w' : World} {base : Nat} {v : Value} {xs : List Value} (h : OwnV e w base v xs) (hb : ∀ q, v.ownBlock = some q → w'.heap[q]? = w.heap[q]?) : OwnV e w' base v xs := by
  refine ⟨h.1, h.2.1, ?_⟩
  rcases h.2.2 with h2 | ⟨g, cap, cur, hv, hg, hh, r⟩
  · exact .inl h2
  · exact .inr ⟨g, cap, cur, hv, hg, (hb g (by subst hv; rfl)).trans hh, r⟩
end Go.Proofs.Ytpgkfccfabnjdaa

/-
  A RANGE OVER A FUNCTION: one round ('one_round') and the statement ('range_at'), in the forms that the walks of package tree take; and what is kept where cells alone are looked at ('CellKeep').
-/
namespace Go.Proofs.Ytpgkfccfabnjdaa
open Go.RowKit Go.Shelf
open Tr (T S4 Ent)
attribute [local go_sem] Oper.semAt_some

structure CellKeep (w w' : World) : Prop where
  cells : ∀ p v, w.cell? p = some v → w'.cell? p = some v
  trb : ∀ b, TrB w b → TrB w' b
instance {w w' : World} : CoeFun (CellKeep w w') (fun _ => ∀ p v, w.cell? p = some v → w'.cell? p = some v) := ⟨CellKeep.cells⟩
theorem CellKeep.refl (w : World) : CellKeep w w := ⟨fun _ _ h => h, fun _ h => h⟩
theorem CellKeep.trans {a b c : World} (h : CellKeep a b) (k : CellKeep b c) : CellKeep a c := ⟨fun p v e => k.cells p v (h.cells p v e), fun x e => k.trb x (h.trb x e)⟩
theorem CellKeep.of_below {w w' : World} (h : Below w.heap.size w w') : CellKeep w w' := ⟨fun _ _ e => (h.cell (World.block_lt_of_cell? w _ e)).trans e, fun _ e => e.below h e.lt⟩
end Go.Proofs.Ytpgkfccfabnjdaa
