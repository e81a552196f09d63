import Derived.Test.YtpgkfccfabnjdaaGreatDoorM28
import Derived.Test.YtpgkfccfabnjdaaGreatDoorM12
import Derived.Test.YtpgkfccfabnjdaaGreatDoorM13
/-
  NO NODE HAS ANYTHING IN A ROW OF POINTERS to nodes, where no node's kids are all among these: so such a row can be written to, and all nodes stay. ('PtrBlk', 'Apart'; nodes below each other: 'Nested', apart_nested.)
-/
namespace Go.Proofs.YtpgkfccfabnjdaaGreatDoor
open Go.ChangeShapes Go.WideShapes Go.ChangeAt Go.RowKit
open Tr (T S4 Ent)

def PtrBlk (W : World) (r : Nat) (U : List T) : Prop := ∀ i v, W.cell? ⟨r, i, none⟩ = some v → (∃ A n c, v = .slice A n c) ∨ v = .pointer none ∨ ∃ u ∈ U, v = .pointer (some ⟨u.blk, 0, none⟩)
def Apart (U : List T) (t : T) : Prop := ∀ q ∈ t.all, q.ks ≠ [] → ∃ x ∈ q.ks, ∀ u ∈ U, x.2.blk ≠ u.blk
section
variable {W W' : World} {r : Nat} {U : List T}
theorem PtrBlk.no_int (hp : PtrBlk W r U) {g i : Nat} {v : Value} (h : W.cell? ⟨g, i, none⟩ = some v) (hv : ∀ a, v ≠ .pointer a) (hs : ∀ A n c, v ≠ .slice A n c) : g ≠ r := by
  rintro rfl
  rcases hp _ _ h with ⟨A, n, c, e⟩ | e | ⟨u, -, e⟩
  · exact hs _ _ _ e
  · exact hv _ e
  · exact hv _ e
theorem cell_far (hk : ∀ b, b ≠ r → W'.heap[b]? = W.heap[b]?) {g i : Nat} (hg : g ≠ r) {v : Value} (h : W.cell? ⟨g, i, none⟩ = some v) : W'.cell? ⟨g, i, none⟩ = some v :=
  (World.cell?_of_block (w := W) (a := ⟨g, i, none⟩) (hk g hg)).trans h
theorem rdV_off (hp : PtrBlk W r U) (hk : ∀ b, b ≠ r → W'.heap[b]? = W.heap[b]?) {B : Nat} {A : Option Addr} {xs : List Value} (h : RdV W B A xs) (hx : xs ≠ [] → ∃ x ∈ xs, (∀ A n c, x ≠ .slice A n c) ∧ x ≠ .pointer none ∧ ∀ u ∈ U, x ≠ .pointer (some ⟨u.blk, 0, none⟩)) : RdV W' B A xs := by
  intro hn
  obtain ⟨b, off, hA, hb, hc⟩ := h hn
  have hbr : b ≠ r := by
    rintro rfl
    obtain ⟨x, hm, h0, h1, h2⟩ := hx hn
    obtain ⟨i, hi⟩ := List.getElem?_of_mem hm
    rcases hp _ _ (hc i x hi) with ⟨A, n, c, e⟩ | e | ⟨u, hu, e⟩
    · exact h0 _ _ _ e
    · exact h1 e
    · exact h2 u hu e
  exact ⟨b, off, hA, hb, fun i v hi => cell_far hk hbr (hc i v hi)⟩
theorem ndAt_off (hp : PtrBlk W r U) (hk : ∀ b, b ≠ r → W'.heap[b]? = W.heap[b]?) {B g : Nat} {lev : Int} {pre : List Nat} {v : Nat} {kp : Option Addr} {s : S4} (h : NdAt W B g lev pre v kp s) : NdAt W' B g lev pre v kp s := by
  obtain ⟨h0, ⟨A, c, hpt, h1⟩, h2, h3, h4, h5, h6, h7, h8⟩ := h
  have hg : g ≠ r := hp.no_int h2 (fun a e => by cases e) (fun _ _ _ e => by cases e)
  refine ⟨h0, ⟨A, c, rdV_pts hpt.1 (rdV_off hp hk (pts_rdV hpt) fun hn => ?_), cell_far hk hg h1⟩, cell_far hk hg h2, cell_far hk hg h3, cell_far hk hg h4, cell_far hk hg h5, cell_far hk hg h6, cell_far hk hg h7, cell_far hk hg h8⟩
  obtain ⟨x, hx⟩ := List.exists_mem_of_ne_nil _ hn
  refine ⟨x, hx, ?_⟩
  simp only [vals, List.mem_map] at hx
  obtain ⟨n, -, rfl⟩ := hx
  exact ⟨fun _ _ _ e => (by cases e), fun e => (by cases e), fun u _ e => (by cases e)⟩
theorem at_off (hp : PtrBlk W r U) (hk : ∀ b, b ≠ r → W'.heap[b]? = W.heap[b]?) {B b k : Nat} {L : Sn.Al} (h : Sn.At W B b k L) {p : Nat × Option Addr} {q : Nat} (hpL : p ∈ L) (hpq : p.2 = some ⟨q, 0, none⟩) (hU : ∀ u ∈ U, q ≠ u.blk) : Sn.At W' B b k L := by
  refine ⟨h.1, ?_⟩
  have hr := h.2
  have hv : (∀ A n c, (Value.pointer p.2) ≠ .slice A n c) ∧ (Value.pointer p.2) ≠ .pointer none ∧ ∀ u ∈ U, (Value.pointer p.2) ≠ .pointer (some ⟨u.blk, 0, none⟩) := by
    rw [hpq]
    refine ⟨fun _ _ _ e => (by cases e), fun e => (by simp at e), fun u hu e => ?_⟩
    simp only [Value.pointer.injEq, Option.some.injEq, Addr.mk.injEq, and_true] at e
    exact hU u hu e
  generalize hd : Sl.dense k L = d at hr ⊢
  cases d
  · obtain ⟨h0, A, c, D, c', k0, k1, k2, k3, h5, h6, h7, h8⟩ := hr
    have hb : b ≠ r := hp.no_int k0 (fun a e => by cases e) (fun _ _ _ e => by cases e)
    refine ⟨h0, A, c, D, c', cell_far hk hb k0, cell_far hk hb k1, cell_far hk hb k2, cell_far hk hb k3, h5, h6, rdV_off hp hk h7 fun hn => ?_, rdV_off hp hk h8 fun _ => ⟨.pointer p.2, ?_, hv⟩⟩
    · obtain ⟨x, hx⟩ := List.exists_mem_of_ne_nil _ hn
      refine ⟨x, hx, ?_⟩
      simp only [Sn.u16V, List.mem_map] at hx
      obtain ⟨n, -, rfl⟩ := hx
      exact ⟨fun _ _ _ e => (by cases e), fun e => (by cases e), fun u _ e => (by cases e)⟩
    · simp only [Sn.elV, Sl.things, List.map_map, List.mem_map]
      exact ⟨p, hpL, rfl⟩
  · obtain ⟨h0, hkk, hL, P, D, c', k0, k1, k2, k3, h5, h6, h7⟩ := hr
    have hb : b ≠ r := hp.no_int k0 (fun a e => by cases e) (fun _ _ _ e => by cases e)
    refine ⟨h0, hkk, hL, P, D, c', cell_far hk hb k0, cell_far hk hb k1, cell_far hk hb k2, cell_far hk hb k3, h5, h6, rdV_off hp hk h7 fun _ => ⟨.pointer p.2, ?_, hv⟩⟩
    refine List.mem_of_getElem? (i := p.1) (Sn.elV_get (Sl.row_some (h.1.lt p hpL) (Sl.get_of_mem h.1.srt hpL)))
theorem trb_off (hp : PtrBlk W r U) (hk : ∀ b, b ≠ r → W'.heap[b]? = W.heap[b]?) {B g : Nat} {lev : Int} {pre : List Nat} {v : Nat} {kp : Option Addr} {s : S4} (h : NdAt W B g lev pre v kp s) (hw : TrB W g) : TrB W' g :=
  hw.keep (hk g (hp.no_int h.2.2.1 (fun a e => by cases e) (fun _ _ _ e => by cases e)))
theorem Apart.kid {g l : Nat} {pre : List Nat} {ks : List (Nat × T)} (h : Apart U (.br g l pre ks)) {x : Nat × T} (hx : x ∈ ks) : Apart U x.2 := fun q hq => h q (by
  rw [Tr.all_br]
  exact List.mem_cons_of_mem _ (List.mem_flatMap.2 ⟨x, hx, hq⟩))
theorem node_off (hp : PtrBlk W r U) (hk : ∀ b, b ≠ r → W'.heap[b]? = W.heap[b]?) {B k : Nat} {t : T} (hn : Node W B k t) (ha : Apart U t) : Node W' B k t := by
  obtain ⟨hw, hm⟩ := hn
  refine ⟨hw, ?_⟩
  induction hm with
  | ent g p v h hwb => exact .ent g p v (ndAt_off hp hk h) (trb_off hp hk h hwb)
  | br g l pre ks b h hA hkk hwb ih =>
    obtain ⟨x, hx, hU⟩ := ha (.br g l pre ks) (by rw [Tr.all_br]; exact List.mem_cons_self) (by
      cases hw with
      | br _ _ _ _ _ _ h2 => intro e; have e' : ks = [] := e; rw [e'] at h2; simp at h2)
    exact .br g l pre ks b (ndAt_off hp hk h) (at_off hp hk hA (p := (x.1, some ⟨x.2.blk, 0, none⟩)) (List.mem_map.2 ⟨x, hx, rfl⟩) rfl hU) (fun y hy => ih y hy (ha.kid hy) (hw.kid hy)) (trb_off hp hk h hwb)
end
theorem blk_same {W : World} {B B' k : Nat} {s u : T} (h : Node W B k s) (h' : Node W B' k u) (e : s.blk = u.blk) : s.lv = u.lv ∧ s.pre = u.pre := by
  obtain ⟨kp, -, ⟨A, c, hp, h1⟩, h0, -⟩ := h.2.nd
  obtain ⟨kp', -, ⟨A', c', hp', h1'⟩, h0', -⟩ := h'.2.nd
  rw [e] at h0 h1
  rw [h0] at h0'
  rw [h1] at h1'
  simp only [Option.some.injEq, Value.int.injEq, true_and] at h0'
  simp only [Option.some.injEq, Value.slice.injEq] at h1'
  obtain ⟨rfl, hl, -⟩ := h1'
  refine ⟨by simp only [levI] at h0'; omega, List.ext_getElem? fun i => ?_⟩
  rcases Nat.lt_or_ge i s.pre.length with hi | hi
  · obtain ⟨x, hx⟩ := get_lt hi
    obtain ⟨y, hy⟩ := get_lt (us := u.pre) (k := i) (by omega)
    obtain ⟨b, off, hA, -, hc⟩ := hp.2 (by rintro e; rw [e] at hx; simp at hx)
    obtain ⟨b', off', hA', -, hc'⟩ := hp'.2 (by rintro e; rw [e] at hy; simp at hy)
    rw [hA] at hA'
    simp only [Option.some.injEq, Addr.mk.injEq, and_true] at hA'
    obtain ⟨rfl, rfl⟩ := hA'
    have h5 := hc i x hx
    rw [hc' i y hy] at h5
    simp only [Option.some.injEq, Value.int.injEq, true_and] at h5
    rw [hx, hy]
    congr 1
    omega
  · rw [List.getElem?_eq_none hi, List.getElem?_eq_none (by omega)]
theorem node_all {W : World} {B k : Nat} {t : T} (h : Node W B k t) : ∀ q ∈ t.all, Node W B k q := by
  obtain ⟨hw, hm⟩ := h
  induction hm with
  | ent g p v h hwb =>
    intro q hq
    rw [Tr.all_ent, List.mem_singleton] at hq
    subst hq
    exact ⟨hw, .ent g p v h hwb⟩
  | br g l pre ks b h hA hkk hwb ih =>
    intro q hq
    rw [Tr.all_br] at hq
    rcases List.mem_cons.1 hq with rfl | hq
    · exact ⟨hw, .br g l pre ks b h hA hkk hwb⟩
    · obtain ⟨x, hx, hq⟩ := List.mem_flatMap.1 hq
      exact ih x hx (hw.kid hx) q hq
def Below1 (u v : T) : Prop := v.lv < u.lv ∧ Z.cut v.pre u.lv = u.pre
def Nested (U : List T) : Prop := U.Pairwise Below1
theorem nested_cases : ∀ {U : List T} (_ : Nested U) {u v : T}, u ∈ U → v ∈ U → u = v ∨ Below1 u v ∨ Below1 v u
  | [], _, _, _, h, _ => by cases h
  | a :: U, h, u, v, hu, hv => by
    obtain ⟨h1, h2⟩ := List.pairwise_cons.1 h
    rcases List.mem_cons.1 hu with eu | hu'
    · rcases List.mem_cons.1 hv with ev | hv'
      · exact .inl (eu.trans ev.symm)
      · exact .inr (.inl (by rw [eu]; exact h1 v hv'))
    · rcases List.mem_cons.1 hv with ev | hv'
      · exact .inr (.inr (by rw [ev]; exact h1 u hu'))
      · exact nested_cases h2 hu' hv'
theorem below_addr {u v : T} (h : Below1 u v) {l : Nat} (hl : u.lv ≤ l) : Z.addr v.pre l = Z.addr u.pre l := by
  rw [← h.2, Z.cut_addr, if_pos hl]
theorem apart_nested {W : World} {B B' k : Nat} {U : List T} {t : T} (hU : Nested U) (hn : ∀ u ∈ U, Node W B' k u) (ht : Node W B k t) : Apart U t := by
  intro q hq hne
  have hqn := node_all ht q hq
  obtain ⟨x0, hx0⟩ := List.exists_mem_of_ne_nil _ hne
  obtain ⟨g, l, pre, ks, rfl⟩ := Tr.ks_br hx0
  have hw := hqn.1
  cases hw with
  | br _ _ _ _ h63 hsl h2 hl ho hkw hc =>
    obtain ⟨x, hx⟩ := get_lt (us := ks) (k := 0) (by omega)
    obtain ⟨y, hy⟩ := get_lt (us := ks) (k := 1) (by omega)
    have hxm := List.mem_of_getElem? hx
    have hym := List.mem_of_getElem? hy
    have hlt : x.1 < y.1 := by
      have := List.pairwise_iff_getElem.1 hsl.srt 0 1 (by omega) (by omega) (by omega)
      rw [(List.getElem?_eq_some_iff.1 hx).2, (List.getElem?_eq_some_iff.1 hy).2] at this
      exact this
    refine Classical.byContradiction fun hno => ?_
    have hall : ∀ z ∈ ks, ∃ u ∈ U, z.2.blk = u.blk := fun z hz => Classical.byContradiction fun h => hno ⟨z, hz, fun u hu e => h ⟨u, hu, e⟩⟩
    obtain ⟨u, hu, eu⟩ := hall x hxm
    obtain ⟨v, hv, ev⟩ := hall y hym
    obtain ⟨a1, a2⟩ := blk_same (hqn.kid hxm) (hn u hu) eu
    obtain ⟨b1, b2⟩ := blk_same (hqn.kid hym) (hn v hv) ev
    have c1 := hc x hxm
    have c2 := hc y hym
    have key : Z.addr u.pre l = Z.addr v.pre l := by
      rcases nested_cases hU hu hv with rfl | h | h
      · rfl
      · exact (below_addr h (by omega)).symm
      · exact below_addr h (by omega)
    rw [← a2, ← b2, c1.2.2, c2.2.2] at key
    omega
end Go.Proofs.YtpgkfccfabnjdaaGreatDoor

/-
  PLAIN MATHEMATICS of rank's Join: two nodes, all entries of the one ahead of all of the other one ('Bef'). What becomes of them ('Meets': the node of the kids of both, and the two kids that meet at one address of it).
-/
namespace Go.Proofs.YtpgkfccfabnjdaaGreatDoor
open Tr (T S4 Ent)
namespace Tr
open Go.Proofs.YtpgkfccfabnjdaaGreatDoor.Z

def Bef (L M : List Ent) : Prop := ∀ e ∈ L, ∀ f ∈ M, key e.1 < key f.1
theorem Bef.zs {L M : List Ent} (h : Bef L M) (hL : ZS L) (hM : ZS M) : ZS (L ++ M) := List.pairwise_append.2 ⟨hL, hM, h⟩
theorem zs_len : ∀ {L M : List Ent}, ZS L → ZS M → (∀ e ∈ L, e ∈ M) → L.length ≤ M.length
  | [], _, _, _, _ => Nat.zero_le _
  | a :: L, [], _, _, h => by have := h a List.mem_cons_self; simp at this
  | a :: L, b :: M, hL, hM, h => by
    have l1 := List.pairwise_cons.1 hL
    have m1 := List.pairwise_cons.1 hM
    rcases List.mem_cons.1 (h a List.mem_cons_self) with e | e
    · subst e
      have := zs_len l1.2 m1.2 fun x hx => by
        rcases List.mem_cons.1 (h x (List.mem_cons_of_mem _ hx)) with e | e
        · have := l1.1 x hx
          rw [e] at this
          omega
        · exact e
      simp only [List.length_cons]
      omega
    · have hba := m1.1 a e
      have := zs_len (L := a :: L) hL m1.2 fun x hx => by
        rcases List.mem_cons.1 (h x hx) with e1 | e1
        · rcases List.mem_cons.1 hx with e2 | e2
          · rw [e2]; exact e
          · have := l1.1 x e2
            rw [e1] at this
            omega
        · exact e1
      simp only [List.length_cons] at this ⊢
      omega
theorem cut_down {u v : List Nat} (hl : u.length = v.length) (hu : Ok u) (hv : Ok v) {l : Nat} (hc : cut u (l + 1) = cut v (l + 1)) (ha : addr u l = addr v l) : cut u l = cut v l := by
  refine points_eq (by simp [cut_length, hl]) (cut_ok hu l) (cut_ok hv l) fun m hm => ?_
  rw [cut_addr, cut_addr]
  split
  · rcases Nat.lt_or_ge l m with h | h
    · have c1 := cut_addr u (l + 1) m
      have c2 := cut_addr v (l + 1) m
      rw [if_pos (by omega)] at c1 c2
      rw [← c1, ← c2, hc]
    · have : m = l := by omega
      rw [this]
      exact ha
  · rfl
theorem low_of {k : Nat} {n : T} (h : Wf k n) {m : Nat} {c : List Nat} (hc : ∀ e ∈ n.ents, cut e.1 m = c) : n.lv ≤ m ∧ cut n.pre m = c := by
  have hlv : n.lv ≤ m := by
    have hw := h
    cases h with
    | ent g p v => exact Nat.zero_le _
    | br g l pre ks h63 hsl h2 hl ho hk hcc =>
      show l + 1 ≤ m
      refine Classical.byContradiction fun hn => ?_
      obtain ⟨x, hx⟩ := get_lt (us := ks) (k := 0) (by omega)
      obtain ⟨y, hy⟩ := get_lt (us := ks) (k := 1) (by omega)
      have hxm := List.mem_of_getElem? hx
      have hym := List.mem_of_getElem? hy
      have hlt : x.1 < y.1 := by
        have := List.pairwise_iff_getElem.1 hsl.srt 0 1 (by omega) (by omega) (by omega)
        rw [(List.getElem?_eq_some_iff.1 hx).2, (List.getElem?_eq_some_iff.1 hy).2] at this
        exact this
      obtain ⟨e, he⟩ := List.exists_mem_of_ne_nil _ (hk x hxm).ne
      obtain ⟨f, hf⟩ := List.exists_mem_of_ne_nil _ (hk y hym).ne
      have a1 := kid_addr hw hxm he
      have b1 := kid_addr hw hym hf
      have c1 := cut_addr e.1 m l
      have c2 := cut_addr f.1 m l
      rw [if_pos (by omega)] at c1 c2
      rw [hc e (by rw [ents_br, mem_entsL]; exact ⟨x, hxm, he⟩)] at c1
      rw [hc f (by rw [ents_br, mem_entsL]; exact ⟨y, hym, hf⟩)] at c2
      omega
  obtain ⟨e, he⟩ := List.exists_mem_of_ne_nil _ h.ne
  exact ⟨hlv, by rw [← h.cut_at he hlv]; exact hc e he⟩

/-! ### a node that fits below another one -/
section
variable {k g l : Nat} {pre : List Nat} {ks : List (Nat × T)}
theorem below_part (h : Wf k (.br g l pre ks)) {n : T} (hn : Wf k n) (hb : Below1 (.br g l pre ks) n) : Z.part pre n.pre ≤ (l : Int) ∧ n.lv ≤ l := by
  refine ⟨?_, Nat.lt_succ_iff.1 hb.1⟩
  have := (Wf.part_cut h hn (m := l + 1)).2 (h.cut_pre.trans hb.2.symm)
  have e : (T.br g l pre ks).pre = pre := rfl
  rw [e] at this
  omega
theorem part_below (h : Wf k (.br g l pre ks)) {n : T} (hn : Wf k n) (hp : Z.part pre n.pre ≤ (l : Int)) (hl : n.lv ≤ l) : Below1 (.br g l pre ks) n := by
  refine ⟨Nat.lt_succ_of_le hl, ?_⟩
  have := (Wf.part_cut h hn (m := l + 1)).1 (by show Z.part pre n.pre < _; omega)
  exact this.symm.trans h.cut_pre
theorem fit_put (h : Wf k (.br g l pre ks)) {n : T} (hn : Wf k n) (hb : Below1 (.br g l pre ks) n) (g' : Nat) :
    Wf k (.br g' l pre (Sl.put (addr n.pre l) n ks)) ∧ ∀ e, e ∈ (T.br g' l pre (Sl.put (addr n.pre l) n ks)).ents ↔ e ∈ n.ents ∨ (e ∈ (T.br g l pre ks).ents ∧ addr e.1 l ≠ addr n.pre l) :=
  ⟨h.put hn (below_part h hn hb).1 (below_part h hn hb).2, fun _ => mem_ents_put h⟩
theorem put_new (h : Wf k (.br g l pre ks)) {n : T} (hn : Wf k n) (hb : Below1 (.br g l pre ks) n) (hg : Sl.get ks (addr n.pre l : Int) = none) (g' : Nat) :
    Wf k (.br g' l pre (Sl.put (addr n.pre l) n ks)) ∧ ∀ e, e ∈ (T.br g' l pre (Sl.put (addr n.pre l) n ks)).ents ↔ e ∈ (T.br g l pre ks).ents ∨ e ∈ n.ents := by
  obtain ⟨h1, h2⟩ := fit_put h hn hb g'
  refine ⟨h1, fun e => (h2 e).trans ⟨?_, ?_⟩⟩
  · rintro (h | h)
    · exact .inr h
    · exact .inl h.1
  · rintro (he | he)
    · refine .inr ⟨he, fun c => ?_⟩
      have := (mem_kidAt h (p := n.pre) (e := e)).2 ⟨he, c⟩
      have hk : kidAt (.br g l pre ks) n.pre = none := hg
      rw [hk] at this
      simp [entsO] at this
    · exact .inl he
theorem meets_fit (h : Wf k (.br g l pre ks)) {A B : List Ent} (zA : ZS A) (zB : ZS B) (hAB : Bef A B) {p : List Nat} (hcp : cut p (l + 1) = pre) {s f : T} (ws : Wf k s) (wf : Wf k f) (us : Under s p l) (uf : Under f p l)
    (hm : ∀ e, (e ∈ s.ents ∨ e ∈ f.ents ∨ (e ∈ (T.br g l pre ks).ents ∧ addr e.1 l ≠ addr p l)) ↔ e ∈ A ∨ e ∈ B) {n : T} (hn : Wf k n) (he : n.ents = s.ents ++ f.ents) :
    Below1 (.br g l pre ks) n ∧ ∀ g', Wf k (stepT g' (.br g l pre ks) n) ∧ (stepT g' (.br g l pre ks) n).ents = A ++ B := by
  obtain ⟨hlo, hcu⟩ := low_of hn (m := l) (c := cut p l) (by
    rw [he]
    intro e hm
    rcases List.mem_append.1 hm with hm | hm
    · rw [ws.cut_at hm us.1]; exact us.2
    · rw [wf.cut_at hm uf.1]; exact uf.2)
  have hb : Below1 (.br g l pre ks) n := ⟨Nat.lt_succ_of_le hlo, by
    show cut n.pre (l + 1) = pre
    rw [← cut_cut n.pre l (l + 1) (by omega), hcu, cut_cut p l (l + 1) (by omega), hcp]⟩
  have ha : addr n.pre l = addr p l := (show Under n p l from ⟨hlo, hcu⟩).addr
  refine ⟨hb, fun g' => ?_⟩
  obtain ⟨h1, h2⟩ := fit_put h hn hb g'
  refine ⟨h1, ZS.ext (Wf.zs h1) (hAB.zs zA zB) fun e => ?_⟩
  refine (h2 e).trans ?_
  rw [List.mem_append, he, List.mem_append, ha, or_assoc]
  exact hm e
end
structure Meets (k : Nat) (a b up s f : T) : Prop where
  ws : Wf k s
  wf : Wf k f
  us : Below1 up s
  uf : Below1 up f
  bef : Bef s.ents f.ents
  len : s.ents.length + f.ents.length ≤ a.ents.length + b.ents.length ∧ up.ents.length ≤ a.ents.length + b.ents.length
  same : (up.lv = a.lv ∧ up.pre = a.pre) ∨ (up.lv = b.lv ∧ up.pre = b.pre)
  fit : ∀ n, Wf k n → n.ents = s.ents ++ f.ents → Below1 up n ∧ ∀ g, Wf k (stepT g up n) ∧ (stepT g up n).ents = a.ents ++ b.ents
theorem kid_len {k : Nat} {s f a b : T} (ws : Wf k s) (wf : Wf k f) (wa : Wf k a) (wb : Wf k b) (h1 : ∀ e ∈ s.ents, e ∈ a.ents) (h2 : ∀ e ∈ f.ents, e ∈ b.ents) : s.ents.length + f.ents.length ≤ a.ents.length + b.ents.length := by
  have := zs_len ws.zs wa.zs h1
  have := zs_len wf.zs wb.zs h2
  omega
section
variable {k g l : Nat} {pre : List Nat} {ks : List (Nat × T)}
theorem meets_a (h : Wf k (.br g l pre ks)) {b : T} (hb : Wf k b) (hu : Below1 (.br g l pre ks) b) (hz : Bef (T.br g l pre ks).ents b.ents) {s : T} (hs : Sl.get ks (addr b.pre l : Int) = some s) : Meets k (.br g l pre ks) b (.br g l pre ks) s b := by
  have hk : kidAt (.br g l pre ks) b.pre = some s := hs
  obtain ⟨w1, w2, w3, w4⟩ := kidAt_wf h hk
  have w2' : s.lv ≤ l := Nat.lt_succ_iff.1 w2
  have hm := fun e => mem_kidAt h (p := b.pre) (e := e)
  rw [hk] at hm
  have hlb : b.lv ≤ l := Nat.lt_succ_iff.1 hu.1
  have hcb : cut b.pre (l + 1) = pre := hu.2
  have hus : Under s b.pre l := ⟨w2', cut_down (by rw [w1.len, hb.len]) w1.ok hb.ok ((show cut s.pre (l + 1) = pre from w4).trans hcb.symm) w3⟩
  refine ⟨w1, hb, ⟨w2, w4⟩, hu, fun e he f hf => hz e ((hm e).1 he).1 f hf, ⟨kid_len w1 hb h hb (fun e he => ((hm e).1 he).1) fun e he => he, Nat.le_add_right _ _⟩, .inl ⟨rfl, rfl⟩, fun n hn he => ?_⟩
  refine meets_fit h h.zs hb.zs hz hcb w1 hb hus ⟨hlb, rfl⟩ (fun e => ?_) hn he
  constructor
  · rintro (c | c | c)
    · exact .inl ((hm e).1 c).1
    · exact .inr c
    · exact .inl c.1
  · rintro (c | c)
    · by_cases d : addr e.1 l = addr b.pre l
      · exact .inl ((hm e).2 ⟨c, d⟩)
      · exact .inr (.inr ⟨c, d⟩)
    · exact .inr (.inl c)
theorem meets_b (h : Wf k (.br g l pre ks)) {a : T} (hb : Wf k a) (hu : Below1 (.br g l pre ks) a) (hz : Bef a.ents (T.br g l pre ks).ents) {s : T} (hs : Sl.get ks (addr a.pre l : Int) = some s) : Meets k a (.br g l pre ks) (.br g l pre ks) a s := by
  have hk : kidAt (.br g l pre ks) a.pre = some s := hs
  obtain ⟨w1, w2, w3, w4⟩ := kidAt_wf h hk
  have w2' : s.lv ≤ l := Nat.lt_succ_iff.1 w2
  have hm := fun e => mem_kidAt h (p := a.pre) (e := e)
  rw [hk] at hm
  have hlb : a.lv ≤ l := Nat.lt_succ_iff.1 hu.1
  have hcb : cut a.pre (l + 1) = pre := hu.2
  have hus : Under s a.pre l := ⟨w2', cut_down (by rw [w1.len, hb.len]) w1.ok hb.ok ((show cut s.pre (l + 1) = pre from w4).trans hcb.symm) w3⟩
  refine ⟨hb, w1, hu, ⟨w2, w4⟩, fun e he f hf => hz e he f ((hm f).1 hf).1, ⟨kid_len hb w1 hb h (fun e he => he) fun e he => ((hm e).1 he).1, Nat.le_add_left _ _⟩, .inr ⟨rfl, rfl⟩, fun n hn he => ?_⟩
  refine meets_fit h hb.zs h.zs hz hcb hb w1 ⟨hlb, rfl⟩ hus (fun e => ?_) hn he
  constructor
  · rintro (c | c | c)
    · exact .inl c
    · exact .inr ((hm e).1 c).1
    · exact .inr c.1
  · rintro (c | c)
    · exact .inl c
    · by_cases d : addr e.1 l = addr a.pre l
      · exact .inr (.inl ((hm e).2 ⟨c, d⟩))
      · exact .inr (.inr ⟨c, d⟩)
end
theorem pair_ents {k l : Nat} {a b : T} (ha : Wf k a) (hb : Wf k b) (hp : Z.part a.pre b.pre = (l : Int)) (hla : a.lv ≤ l) (hlb : b.lv ≤ l) (hz : Bef a.ents b.ents) (g : Nat) :
    (T.br g l (cut a.pre (l + 1)) (Sl.put (addr b.pre l) b (Sl.put (addr a.pre l) a []))).ents = a.ents ++ b.ents := by
  obtain ⟨h1, h2⟩ := Wf.pair ha hb hp hla hlb g
  refine ZS.ext h1.zs (hz.zs ha.zs hb.zs) fun e => ?_
  have s1 : Sl.Srt (Sl.put (addr a.pre l) a ([] : List (Nat × T))) := Sl.srt_put _ _ Sl.srt_nil
  have s2 := Sl.srt_put (addr b.pre l) b s1
  rw [ents_br, mem_entsL, List.mem_append]
  constructor
  · rintro ⟨x, hx, he⟩
    rcases Sl.mem_put hx with rfl | hx
    · exact .inr he
    · rcases Sl.mem_put hx with rfl | hx
      · exact .inl he
      · simp at hx
  · rintro (he | he)
    · exact ⟨(addr a.pre l, a), (Sl.get_iff s2).1 (by rw [Sl.get_put s1, if_neg (by omega), Sl.get_put Sl.srt_nil, if_pos rfl]), he⟩
    · exact ⟨(addr b.pre l, b), (Sl.get_iff s2).1 (by rw [Sl.get_put s1, if_pos rfl]), he⟩

/-! ### the kids of two nodes of one level and prefix -/
def uniK (ks xs : List (Nat × T)) : List (Nat × T) := xs.foldl (fun A x => Sl.put x.1 x.2 A) ks
theorem uniK_snoc (ks xs : List (Nat × T)) (x : Nat × T) : uniK ks (xs ++ [x]) = Sl.put x.1 x.2 (uniK ks xs) := by simp [uniK]
theorem uniK_take {ks xs : List (Nat × T)} {j : Nat} {x : Nat × T} (hx : xs[j]? = some x) : uniK ks (xs.take (j + 1)) = Sl.put x.1 x.2 (uniK ks (xs.take j)) := by
  rw [List.take_add_one, hx]
  exact uniK_snoc ks (xs.take j) x
theorem Wf.renum {k g l : Nat} {pre : List Nat} {ks : List (Nat × T)} (h : Wf k (.br g l pre ks)) (g' : Nat) : Wf k (.br g' l pre ks) := by
  cases h with
  | br _ _ _ _ h63 hw h2 hl ho hk hc => exact .br g' l pre ks h63 hw h2 hl ho hk hc
section
variable {k g l : Nat} {pre : List Nat} {ks : List (Nat × T)}
theorem uni_in (h : Wf k (.br g l pre ks)) : ∀ (n : Nat) (xs : List (Nat × T)), xs.length = n → (∀ x ∈ xs, Wf k x.2 ∧ x.2.lv ≤ l ∧ cut x.2.pre (l + 1) = pre ∧ addr x.2.pre l = x.1) → Sl.Srt xs → ∀ g',
    Wf k (.br g' l pre (uniK ks xs)) ∧ ∀ e, e ∈ (T.br g' l pre (uniK ks xs)).ents ↔ e ∈ entsL xs ∨ (e ∈ (T.br g l pre ks).ents ∧ ∀ x ∈ xs, x.1 ≠ addr e.1 l)
  | 0, xs, hn, _, _, g' => by
    have : xs = [] := List.eq_nil_of_length_eq_zero hn
    subst this
    refine ⟨h.renum g', fun e => ?_⟩
    rw [ents_br, ents_br]
    simp [uniK, entsL_nil]
  | n + 1, xs, hn, hx, hs, g' => by
    obtain ⟨ys, y, rfl⟩ : ∃ ys y, xs = ys ++ [y] := ⟨xs.dropLast, xs.getLast (by intro e; rw [e] at hn; simp at hn), (List.dropLast_concat_getLast _).symm⟩
    have hs' := List.pairwise_append.1 hs
    have hy := hx y (by simp)
    obtain ⟨i1, i2⟩ := uni_in h n ys (by simpa using hn) (fun x hm => hx x (by simp [hm])) hs'.1 g'
    rw [uniK_snoc, ← hy.2.2.2]
    refine ⟨i1.put hy.1 ?_ hy.2.1, fun e => ?_⟩
    · have := (Wf.part_cut i1 hy.1 (m := l + 1)).2 (i1.cut_pre.trans hy.2.2.1.symm)
      have e : (T.br g' l pre (uniK ks ys)).pre = pre := rfl
      rw [e] at this
      omega
    · rw [mem_ents_put i1, i2 e, entsL_append, List.mem_append, hy.2.2.2]
      have e1 : entsL [y] = y.2.ents := by rw [entsL_cons, entsL_nil, List.append_nil]
      rw [e1]
      constructor
      · rintro (c | ⟨c | ⟨c, d⟩, d'⟩)
        · exact .inl (.inr c)
        · exact .inl (.inl c)
        · refine .inr ⟨c, fun x hm => ?_⟩
          rcases List.mem_append.1 hm with hm | hm
          · exact d x hm
          · rw [List.mem_singleton.1 hm]; exact fun q => d' q.symm
      · rintro ((c | c) | ⟨c, d⟩)
        · refine .inr ⟨.inl c, ?_⟩
          obtain ⟨x, hm, he⟩ := mem_entsL.1 c
          have hxx := hx x (by simp [hm])
          rw [hxx.1.addr_at he hxx.2.1, hxx.2.2.2]
          have : x.1 < y.1 := hs'.2.2 x hm y (by simp)
          omega
        · exact .inl c
        · exact .inr ⟨.inr ⟨c, fun x hm => d x (by simp [hm])⟩, fun q => d y (by simp) q.symm⟩
end
theorem addr_le {k l : Nat} {pre : List Nat} {p q : List Nat} (hp : p.length = k) (hq : q.length = k) (op : Ok p) (oq : Ok q) (cp : cut p (l + 1) = pre) (cq : cut q (l + 1) = pre) (h : key p < key q) : addr p l ≤ addr q l := by
  have hl : p.length = q.length := by rw [hp, hq]
  refine Classical.byContradiction fun hn => ?_
  have h1 : Z.part p q < ((l + 1 : Nat) : Int) := (cut_eq_iff hl op oq (l + 1)).1 (cp.trans cq.symm)
  have h2 : ¬ Z.part p q < (l : Int) := fun c => by
    have h2 := (cut_eq_iff hl op oq l).2 c
    have c1 := cut_addr p l l
    have c2 := cut_addr q l l
    rw [if_pos (Nat.le_refl _)] at c1 c2
    rw [h2] at c1
    omega
  have h3 : Z.part p q = (l : Int) := by omega
  rw [key_lt hl op oq, cmp_at h3, if_neg (by omega)] at h
  omega
structure UniOf (k ga gb l : Nat) (pre : List Nat) (ka kb : List (Nat × T)) (g : Nat) (ks : List (Nat × T)) : Prop where
  wf : Wf k (.br g l pre ks)
  sub : ∀ e ∈ (T.br g l pre ks).ents, e ∈ (T.br ga l pre ka).ents ∨ e ∈ (T.br gb l pre kb).ents
  all : ∀ e, e ∈ (T.br ga l pre ka).ents ∨ e ∈ (T.br gb l pre kb).ents → e ∈ (T.br g l pre ks).ents ∨ ∃ x ∈ ka, ∃ y ∈ kb, x.1 = y.1 ∧ x.1 = addr e.1 l
section
variable {k ga gb l g : Nat} {pre : List Nat} {ka kb ks : List (Nat × T)}
theorem kids_fit (h : Wf k (.br ga l pre ka)) : (∀ x ∈ ka, Wf k x.2 ∧ x.2.lv ≤ l ∧ cut x.2.pre (l + 1) = pre ∧ addr x.2.pre l = x.1) ∧ Sl.Srt ka := by
  cases h with
  | br _ _ _ _ h63 hw h2 hl ho hk hc => exact ⟨fun x hx => ⟨hk x hx, hc x hx⟩, hw.srt⟩
theorem ent_kid (h : Wf k (.br ga l pre ka)) {e : Ent} (he : e ∈ (T.br ga l pre ka).ents) : ∃ x ∈ ka, e ∈ x.2.ents ∧ addr e.1 l = x.1 := by
  rw [ents_br, mem_entsL] at he
  obtain ⟨x, hx, he⟩ := he
  exact ⟨x, hx, he, kid_addr h hx he⟩
theorem uniOf_ab (ha : Wf k (.br ga l pre ka)) (hb : Wf k (.br gb l pre kb)) (g : Nat) : UniOf k ga gb l pre ka kb g (uniK ka kb) := by
  obtain ⟨f1, f2⟩ := kids_fit hb
  obtain ⟨w, m⟩ := uni_in ha kb.length kb rfl f1 f2 g
  refine ⟨w, fun e he => ?_, fun e he => ?_⟩
  · rcases (m e).1 he with c | c
    · exact .inr (by rw [ents_br]; exact c)
    · exact .inl c.1
  · rcases he with c | c
    · by_cases d : ∀ y ∈ kb, y.1 ≠ addr e.1 l
      · exact .inl ((m e).2 (.inr ⟨c, d⟩))
      · obtain ⟨y, hy, hn⟩ : ∃ y ∈ kb, y.1 = addr e.1 l := Classical.byContradiction fun q => d fun y hy c => q ⟨y, hy, c⟩
        obtain ⟨x, hx, -, hxa⟩ := ent_kid ha c
        exact .inr ⟨x, hx, y, hy, by rw [hn, hxa], hxa.symm⟩
    · exact .inl ((m e).2 (.inl (by rw [← ents_br gb l pre]; exact c)))
theorem uniOf_ba (ha : Wf k (.br ga l pre ka)) (hb : Wf k (.br gb l pre kb)) (g : Nat) : UniOf k ga gb l pre ka kb g (uniK kb ka) := by
  obtain ⟨w, s, a⟩ := uniOf_ab hb ha g
  refine ⟨w, fun e he => (s e he).symm, fun e he => ?_⟩
  rcases a e he.symm with c | ⟨x, hx, y, hy, h1, h2⟩
  · exact .inl c
  · exact .inr ⟨y, hy, x, hx, h1.symm, by rw [← h1, h2]⟩
theorem keys_le (ha : Wf k (.br ga l pre ka)) (hb : Wf k (.br gb l pre kb)) (hz : Bef (T.br ga l pre ka).ents (T.br gb l pre kb).ents) {x y : Nat × T} (hx : x ∈ ka) (hy : y ∈ kb) : x.1 ≤ y.1 := by
  obtain ⟨e, he⟩ := List.exists_mem_of_ne_nil _ ((kids_fit ha).1 x hx).1.ne
  obtain ⟨f, hf⟩ := List.exists_mem_of_ne_nil _ ((kids_fit hb).1 y hy).1.ne
  have hea : e ∈ (T.br ga l pre ka).ents := by rw [ents_br, mem_entsL]; exact ⟨x, hx, he⟩
  have hfb : f ∈ (T.br gb l pre kb).ents := by rw [ents_br, mem_entsL]; exact ⟨y, hy, hf⟩
  have h1 := ha.entry hea
  have h2 := hb.entry hfb
  have := addr_le h1.1 h2.1 h1.2.1 h2.2.1 (l := l) (pre := pre) h1.2.2 h2.2.2 (hz e hea f hfb)
  rwa [kid_addr ha hx he, kid_addr hb hy hf] at this
theorem uni_len (hu : UniOf k ga gb l pre ka kb g ks) (ha : Wf k (.br ga l pre ka)) (hb : Wf k (.br gb l pre kb)) (hz : Bef (T.br ga l pre ka).ents (T.br gb l pre kb).ents) : (T.br g l pre ks).ents.length ≤ (T.br ga l pre ka).ents.length + (T.br gb l pre kb).ents.length := by
  have := zs_len hu.wf.zs (hz.zs ha.zs hb.zs) fun e he => List.mem_append.2 (hu.sub e he)
  rwa [List.length_append] at this
theorem last_le (ha : Wf k (.br ga l pre ka)) {x z : Nat × T} (hx : ka[ka.length - 1]? = some x) (hz : z ∈ ka) : z.1 ≤ x.1 := by
  obtain ⟨i, hi⟩ := List.mem_iff_getElem?.1 hz
  have hs := (kids_fit ha).2
  have h1 := lt_get hi
  rcases Nat.lt_or_ge i (ka.length - 1) with c | c
  · have := List.pairwise_iff_getElem.1 hs i (ka.length - 1) h1 (by omega) c
    rw [(List.getElem?_eq_some_iff.1 hx).2, (List.getElem?_eq_some_iff.1 hi).2] at this
    exact Nat.le_of_lt this
  · have : i = ka.length - 1 := by omega
    rw [this, hx] at hi
    rw [Option.some.inj hi]
    exact Nat.le_refl _
theorem first_le (hb : Wf k (.br gb l pre kb)) {y z : Nat × T} (hy : kb[0]? = some y) (hz : z ∈ kb) : y.1 ≤ z.1 := by
  obtain ⟨i, hi⟩ := List.mem_iff_getElem?.1 hz
  have hs := (kids_fit hb).2
  have h1 := lt_get hi
  rcases Nat.lt_or_ge 0 i with c | c
  · have := List.pairwise_iff_getElem.1 hs 0 i (by omega) h1 c
    rw [(List.getElem?_eq_some_iff.1 hy).2, (List.getElem?_eq_some_iff.1 hi).2] at this
    exact Nat.le_of_lt this
  · have : i = 0 := by omega
    rw [this, hy] at hi
    rw [Option.some.inj hi]
    exact Nat.le_refl _
theorem uni_far (hu : UniOf k ga gb l pre ka kb g ks) (ha : Wf k (.br ga l pre ka)) (hb : Wf k (.br gb l pre kb)) (hz : Bef (T.br ga l pre ka).ents (T.br gb l pre kb).ents) {x y : Nat × T} (hx : ka[ka.length - 1]? = some x) (hy : kb[0]? = some y) (hne : x.1 ≠ y.1) :
    (T.br g l pre ks).ents = (T.br ga l pre ka).ents ++ (T.br gb l pre kb).ents := by
  refine ZS.ext hu.wf.zs (hz.zs ha.zs hb.zs) fun e => ⟨fun he => List.mem_append.2 (hu.sub e he), fun he => ?_⟩
  rcases hu.all e (List.mem_append.1 he) with c | ⟨x', hx', y', hy', h1, -⟩
  · exact c
  · have h2 := last_le ha hx hx'
    have h3 := first_le hb hy hy'
    have h4 := keys_le ha hb hz (List.mem_of_getElem? hx) (List.mem_of_getElem? hy)
    omega
theorem uni_meets (hu : UniOf k ga gb l pre ka kb g ks) (ha : Wf k (.br ga l pre ka)) (hb : Wf k (.br gb l pre kb)) (hz : Bef (T.br ga l pre ka).ents (T.br gb l pre kb).ents) {x y : Nat × T} (hx : ka[ka.length - 1]? = some x) (hy : kb[0]? = some y) (he : x.1 = y.1) :
    Meets k (.br ga l pre ka) (.br gb l pre kb) (.br g l pre ks) x.2 y.2 := by
  have hxm := List.mem_of_getElem? hx
  have hym := List.mem_of_getElem? hy
  obtain ⟨x1, x2, x3, x4⟩ := (kids_fit ha).1 x hxm
  obtain ⟨y1, y2, y3, y4⟩ := (kids_fit hb).1 y hym
  have inA : ∀ e ∈ x.2.ents, e ∈ (T.br ga l pre ka).ents := fun e h => by rw [ents_br, mem_entsL]; exact ⟨x, hxm, h⟩
  have inB : ∀ e ∈ y.2.ents, e ∈ (T.br gb l pre kb).ents := fun e h => by rw [ents_br, mem_entsL]; exact ⟨y, hym, h⟩
  refine ⟨x1, y1, ⟨Nat.lt_succ_of_le x2, x3⟩, ⟨Nat.lt_succ_of_le y2, y3⟩, fun e h f h' => hz e (inA e h) f (inB f h'), ⟨kid_len x1 y1 ha hb inA inB, uni_len hu ha hb hz⟩, .inl ⟨rfl, rfl⟩, fun n hn hne => ?_⟩
  refine meets_fit hu.wf ha.zs hb.zs hz x3 x1 y1 ⟨x2, rfl⟩ ⟨y2, cut_down (by rw [y1.len, x1.len]) y1.ok x1.ok (y3.trans x3.symm) (by omega)⟩ (fun e => ⟨?_, ?_⟩) hn hne
  · rintro (c | c | c)
    · exact .inl (inA e c)
    · exact .inr (inB e c)
    · exact hu.sub e c.1
  · intro c
    by_cases d : addr e.1 l = addr x.2.pre l
    · rcases c with c | c
      · obtain ⟨z, hzm, hze, hza⟩ := ent_kid ha c
        have h5 : z = x := by
          have q1 := Sl.get_of_mem (kids_fit ha).2 hzm
          have q2 := Sl.get_of_mem (kids_fit ha).2 hxm
          have q3 : z.1 = x.1 := by omega
          rw [q3, q2] at q1
          exact Prod.ext q3 (Option.some.inj q1).symm
        rw [h5] at hze
        exact .inl hze
      · obtain ⟨z, hzm, hze, hza⟩ := ent_kid hb c
        have h5 : z = y := by
          have q1 := Sl.get_of_mem (kids_fit hb).2 hzm
          have q2 := Sl.get_of_mem (kids_fit hb).2 hym
          have q3 : z.1 = y.1 := by omega
          rw [q3, q2] at q1
          exact Prod.ext q3 (Option.some.inj q1).symm
        rw [h5] at hze
        exact .inr (.inl hze)
    · rcases hu.all e c with q | ⟨x', hx', y', hy', h1, h2⟩
      · exact .inr (.inr ⟨q, d⟩)
      · have h3 := last_le ha hx hx'
        have h4 := first_le hb hy hy'
        have h5 := keys_le ha hb hz hx' hym
        omega
end
end Tr
end Go.Proofs.YtpgkfccfabnjdaaGreatDoor
