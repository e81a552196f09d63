import Derived.Test.YtpgkfccfabnjdaaGreatDoorM71
import Derived.Test.YtpgkfccfabnjdaaGreatDoorM90
import Derived.Test.YtpgkfccfabnjdaaGreatDoorM24
import Derived.Test.YtpgkfccfabnjdaaGreatDoorM55
/-
  WHAT A BLOCK HOLDS IS ONE NODE: two nodes in one block have the same entries.
-/
namespace Go.Proofs.YtpgkfccfabnjdaaGreatDoor
open Go.ChangeShapes Go.WideShapes Go.ChangeAt Go.RowKit
open Tr (T S4 Ent)

theorem srt_ext {V : Type} : ∀ {L M : List (Nat × V)}, Sl.Srt L → Sl.Srt M → (∀ e, e ∈ L ↔ e ∈ M) → L = M
  | [], [], _, _, _ => rfl
  | [], b :: M, _, _, h => by have := (h b).2 List.mem_cons_self; cases this
  | a :: L, [], _, _, h => by have := (h a).1 List.mem_cons_self; cases this
  | a :: L, b :: M, hL, hM, h => by
    obtain ⟨l1, l2⟩ := List.pairwise_cons.1 hL
    obtain ⟨m1, m2⟩ := List.pairwise_cons.1 hM
    have hab : a = b := by
      rcases List.mem_cons.1 ((h a).1 List.mem_cons_self) with e | e
      · exact e
      · rcases List.mem_cons.1 ((h b).2 List.mem_cons_self) with f | f
        · exact f.symm
        · have := l1 b f; have := m1 a e; omega
    subst hab
    congr 1
    refine srt_ext l2 m2 fun e => ⟨fun he => ?_, fun he => ?_⟩
    · rcases List.mem_cons.1 ((h e).1 (List.mem_cons_of_mem _ he)) with f | f
      · rw [f] at he; have := l1 a he; omega
      · exact f
    · rcases List.mem_cons.1 ((h e).2 (List.mem_cons_of_mem _ he)) with f | f
      · rw [f] at he; have := m1 a he; omega
      · exact f
theorem rdV_same {w : World} {B B' : Nat} {A : Option Addr} {xs ys : List Value} (h : RdV w B A xs) (h' : RdV w B' A ys) {i : Nat} {x y : Value} (hx : xs[i]? = some x) (hy : ys[i]? = some y) : x = y := by
  obtain ⟨b, off, hA, -, hc⟩ := h.at hx
  obtain ⟨b', off', hA', -, hc'⟩ := h'.at hy
  rw [hA] at hA'
  simp only [Option.some.injEq, Addr.mk.injEq, and_true] at hA'
  obtain ⟨rfl, rfl⟩ := hA'
  rw [hc] at hc'
  exact Option.some.inj hc'
theorem pts_same {w : World} {B B' : Nat} {A : Option Addr} {us vs : List Nat} (h : Pts w B A us) (h' : Pts w B' A vs) (hl : us.length = vs.length) : us = vs := by
  refine List.ext_getElem? fun i => ?_
  rcases Nat.lt_or_ge i us.length with hi | hi
  · obtain ⟨x, hx⟩ := get_lt hi
    obtain ⟨y, hy⟩ := get_lt (us := vs) (k := i) (by omega)
    have := rdV_same (pts_rdV h) (pts_rdV h') (vals_get hx) (vals_get hy)
    simp only [Value.int.injEq, true_and] at this
    rw [hx, hy]
    congr 1
    omega
  · rw [List.getElem?_eq_none hi, List.getElem?_eq_none (by omega)]
theorem at_uniq {w : World} {B B' b k : Nat} {L M : Sn.Al} (h : Sn.At w B b k L) (h' : Sn.At w B' b k M) : L = M := by
  obtain ⟨wL, hL⟩ := h
  obtain ⟨wM, hM⟩ := h'
  generalize Sl.dense k L = d at hL
  generalize Sl.dense k M = d' at hM
  cases d <;> cases d'
  · obtain ⟨-, A, c, D, c', -, -, k2, k3, -, -, r1, r2⟩ := hL
    obtain ⟨-, A', e, D', e', -, -, k2', k3', -, -, r1', r2'⟩ := hM
    rw [k2] at k2'
    rw [k3] at k3'
    simp only [Option.some.injEq, Value.slice.injEq] at k2' k3'
    obtain ⟨rfl, hl, -⟩ := k2'
    obtain ⟨rfl, -, -⟩ := k3'
    refine List.ext_getElem? fun i => ?_
    rcases Nat.lt_or_ge i L.length with hi | hi
    · obtain ⟨x, hx⟩ := get_lt hi
      obtain ⟨y, hy⟩ := get_lt (us := M) (k := i) (by omega)
      have e1 := rdV_same r1 r1' (Sn.u16V_get (Sl.keys_get hx)) (Sn.u16V_get (Sl.keys_get hy))
      have e2 := rdV_same r2 r2' (Sn.elV_get (Sl.things_get hx)) (Sn.elV_get (Sl.things_get hy))
      simp only [Value.int.injEq, true_and] at e1
      simp only [Value.pointer.injEq] at e2
      rw [hx, hy]
      congr 1
      exact Prod.ext (by omega) e2
    · rw [List.getElem?_eq_none hi, List.getElem?_eq_none (by omega)]
  · obtain ⟨-, A, c, D, c', -, k1, -⟩ := hL
    obtain ⟨-, -, hne, P, D', e', -, k1', -⟩ := hM
    rw [k1] at k1'
    simp only [Option.some.injEq, Value.int.injEq, true_and] at k1'
    exact absurd (by omega) (Sl.mask_pos hne)
  · obtain ⟨-, -, hne, P, D', e', -, k1', -⟩ := hL
    obtain ⟨-, A, c, D, c', -, k1, -⟩ := hM
    rw [k1] at k1'
    simp only [Option.some.injEq, Value.int.injEq, true_and] at k1'
    exact absurd (by omega) (Sl.mask_pos hne)
  · obtain ⟨-, -, -, P, D, c, -, k1, -, k3, -, -, r⟩ := hL
    obtain ⟨-, -, -, P', D', c', -, k1', -, k3', -, -, r'⟩ := hM
    rw [k1] at k1'
    rw [k3] at k3'
    simp only [Option.some.injEq, Value.int.injEq, true_and] at k1'
    simp only [Option.some.injEq, Value.slice.injEq, true_and] at k3'
    obtain ⟨rfl, -⟩ := k3'
    have hm : Sl.mask L = Sl.mask M := by omega
    have hg : ∀ a : Nat, a < 2 ^ k → Sl.get L (a : Int) = Sl.get M (a : Int) := fun a ha => by
      have h1 := Sl.mask_testBit L a
      have h2 := Sl.mask_testBit M a
      rw [hm, h2] at h1
      have h3 := rdV_same r r' (Sn.elV_get (Sl.row_get none L ha)) (Sn.elV_get (Sl.row_get none M ha))
      simp only [Value.pointer.injEq] at h3
      unfold Sl.has at h1
      cases e1 : Sl.get L (a : Int) with
      | none =>
        rw [e1] at h1
        cases e2 : Sl.get M (a : Int) with
        | none => rfl
        | some v => rw [e2] at h1; cases h1
      | some u =>
        rw [e1] at h1 h3
        cases e2 : Sl.get M (a : Int) with
        | none => rw [e2] at h1; cases h1
        | some v =>
          rw [e2] at h3
          have h4 : u = v := h3
          rw [h4]
    refine srt_ext wL.srt wM.srt fun e => ⟨fun he => ?_, fun he => ?_⟩
    · have h1 := Sl.get_of_mem wL.srt he
      rw [hg e.1 (wL.lt e he)] at h1
      exact (Sl.get_iff wM.srt).1 h1
    · have h1 := Sl.get_of_mem wM.srt he
      rw [← hg e.1 (wM.lt e he)] at h1
      exact (Sl.get_iff wL.srt).1 h1
theorem ndAt_uniq {w : World} {B B' g : Nat} {lev lev' : Int} {pre pre' : List Nat} {v v' : Nat} {kp kp' : Option Addr} {s s' : S4} (h : NdAt w B g lev pre v kp s) (h' : NdAt w B' g lev' pre' v' kp' s') : lev = lev' ∧ pre = pre' ∧ v = v' ∧ kp = kp' := by
  obtain ⟨-, ⟨A, c, hp, h1⟩, h0, h2, h3, -⟩ := h
  obtain ⟨-, ⟨A', c', hp', h1'⟩, h0', h2', h3', -⟩ := h'
  rw [h0] at h0'
  rw [h1] at h1'
  rw [h2] at h2'
  rw [h3] at h3'
  simp only [Option.some.injEq, Value.int.injEq, true_and] at h0' h2'
  simp only [Option.some.injEq, Value.slice.injEq] at h1'
  simp only [Option.some.injEq, Value.pointer.injEq] at h3'
  obtain ⟨rfl, hl, -⟩ := h1'
  exact ⟨h0', pts_same hp hp' hl, by omega, h3'⟩
theorem entsL_same {P : T → Prop} : ∀ {ks ls : List (Nat × T)}, kidL ks = kidL ls → (∀ x ∈ ks, ∀ y, P y → x.2.blk = y.blk → x.2.ents = y.ents) → (∀ y ∈ ls, P y.2) → Tr.entsL ks = Tr.entsL ls
  | [], [], _, _, _ => rfl
  | [], y :: ls, h, _, _ => by simp [kidL] at h
  | x :: ks, [], h, _, _ => by simp [kidL] at h
  | x :: ks, y :: ls, h, h1, h2 => by
    simp only [kidL, List.map_cons, List.cons.injEq, Prod.mk.injEq, Option.some.injEq, Addr.mk.injEq, and_true] at h
    rw [Tr.entsL_cons, Tr.entsL_cons, h1 x List.mem_cons_self y.2 (h2 y List.mem_cons_self) h.1.2, entsL_same (P := P) h.2 (fun z hz => h1 z (List.mem_cons_of_mem _ hz)) (fun z hz => h2 z (List.mem_cons_of_mem _ hz))]
theorem mem_uniq {w : World} {B B' k : Nat} {x : T} (h : Mem w B k x) : ∀ {y : T}, Mem w B' k y → x.blk = y.blk → x.ents = y.ents := by
  induction h with
  | ent g p v h hwb =>
    intro y hy e
    cases hy with
    | ent g' p' v' h' _ =>
      have e : g = g' := e
      subst e
      obtain ⟨-, rfl, rfl, -⟩ := ndAt_uniq h h'
      exact (Tr.ents_ent _ _ _).trans (Tr.ents_ent _ _ _).symm
    | br g' l pre ks b h' ha hk _ =>
      have e : g = g' := e
      subst e
      obtain ⟨h1, -⟩ := ndAt_uniq h h'
      omega
  | br g l pre ks b h ha hk hwb ih =>
    intro y hy e
    cases hy with
    | ent g' p' v' h' _ =>
      have e : g = g' := e
      subst e
      obtain ⟨h1, -⟩ := ndAt_uniq h h'
      omega
    | br g' l' pre' ks' b' h' ha' hk' _ =>
      have e : g = g' := e
      subst e
      obtain ⟨-, -, -, h4⟩ := ndAt_uniq h h'
      simp only [Option.some.injEq, Addr.mk.injEq, and_true] at h4
      subst h4
      have h5 := at_uniq ha ha'
      rw [Tr.ents_br, Tr.ents_br]
      exact entsL_same (P := Mem w B' k) h5 (fun x hx y hy e => ih x hx hy e) (fun y hy => hk' y hy)
theorem node_same {w : World} {B B' k : Nat} {x y : T} (h : Node w B k x) (h' : Node w B' k y) (e : x.blk = y.blk) : x.ents = y.ents := mem_uniq h.2 h'.2 e
theorem nodeO_same {w : World} {B B' k : Nat} {x y : Option T} (h : NodeO w B k x) (h' : NodeO w B' k y) (e : rootP x = rootP y) : Tr.entsO x = Tr.entsO y := by
  cases x with
  | none =>
    cases y with
    | none => rfl
    | some t => cases e
  | some s =>
    cases y with
    | none => cases e
    | some t =>
      simp only [rootP, Option.some.injEq, Addr.mk.injEq, and_true] at e
      exact node_same (h s rfl) (h' t rfl) e
end Go.Proofs.YtpgkfccfabnjdaaGreatDoor

/-
  CONTRACTS of package diff, first part: side.has, side.from, sideOf, stepOf.
-/
namespace Go.Proofs.YtpgkfccfabnjdaaGreatDoor
open Go.ChangeShapes Go.WideShapes Go.ChangeAt Go.RowKit
open Tr (T S4 Ent Sd Fl)

abbrev sdV (p : Option Addr) (kd : Bool) (a : Nat) : Value := .agg #[.pointer p, .bool kd, .int .i64 (a : Int)]
theorem dHas_c (p : Option Addr) (kd : Bool) (a b : Nat) (w : World) :
    Calls Tryz.prog 205 #[sdV p kd a, .int .i64 (b : Int)] w fun e w' => ∃ r, e = .returned (.bool r) ∧ Below w.heap.size w w' := by
  have hb := below_alloc w (.cells #[.pointer p, .bool kd, .int .i64 (a : Int)] 244)
  cases kd with
  | true =>
    go_enter Tryz.func205, Tryz.ntmps205
    go_wp2
    go_ret
    exact ⟨_, rfl, hb⟩
  | false =>
    go_enter Tryz.func205, Tryz.ntmps205
    go_wp2
    go_ret
    exact ⟨_, rfl, hb⟩
theorem dFrom_kno {w : World} {B k : Nat} {t : T} (h : Node w B k t) (hB : B ≤ w.heap.size) (hT : ∀ w', Below w.heap.size w w' → Tz w') (a n : Nat) (hn : n ≤ 65536) (hd : t.ks[Sl.idx t.ks (n : Int)]? = none) :
    Calls Tryz.prog 204 #[sdV (some ⟨t.blk, 0, none⟩) true a, .int .i64 (n : Int)] w fun e w' => e = .returned (.tuple #[.int .i64 65536, .pointer none]) ∧ Below w.heap.size w w' := by
  have HF : Hid (∀ w1, Below w.heap.size w w1 → Calls Tryz.prog 126 #[.pointer (some ⟨t.blk, 0, none⟩), .int .i64 (n : Int)] w1 fun e w' => e = .returned (atKid 0 none) ∧ Below w.heap.size w w') := Lib.hid fun w1 hb =>
    (nFrom_c (h.below hb hB (Nat.le_refl _)).2 (hT w1 hb) (n : Int) (by omega) (by omega) (0, none) (by rw [hd]; rfl)).mono fun e w' ⟨he, m, hw⟩ => ⟨he, by rw [hw]; exact below_drewN _ hb⟩
  have hb0 := below_alloc w (.cells #[.pointer (some ⟨t.blk, 0, none⟩), .bool true, .int .i64 (a : Int)] 244)
  clear h hB hT hn hd
  go_enter Tryz.func204, Tryz.ntmps204
  go_wp2_with fail
  go_quiet (fail)
  have hb1 := below_drewN nq hb0
  go_wp2_with (go_at_call 126; refine (HF.out _ hb1).mono ?_; rintro e w2 ⟨rfl, hb2⟩)
  go_ret2
  exact ⟨rfl, hb2⟩
theorem dFrom_kyes {w : World} {B k : Nat} {t s : T} (h : Node w B k t) (hB : B ≤ w.heap.size) (hT : ∀ w', Below w.heap.size w w' → Tz w') (a n b : Nat) (hn : n ≤ 65536) (hd : t.ks[Sl.idx t.ks (n : Int)]? = some (b, s)) :
    Calls Tryz.prog 204 #[sdV (some ⟨t.blk, 0, none⟩) true a, .int .i64 (n : Int)] w fun e w' => e = .returned (.tuple #[.int .i64 (b : Int), .pointer (some ⟨s.blk, 0, none⟩)]) ∧ Below w.heap.size w w' := by
  have HF : Hid (∀ w1, Below w.heap.size w w1 → Calls Tryz.prog 126 #[.pointer (some ⟨t.blk, 0, none⟩), .int .i64 (n : Int)] w1 fun e w' => e = .returned (atKid b (some ⟨s.blk, 0, none⟩)) ∧ Below w.heap.size w w') := Lib.hid fun w1 hb =>
    (nFrom_c (h.below hb hB (Nat.le_refl _)).2 (hT w1 hb) (n : Int) (by omega) (by omega) (b, some ⟨s.blk, 0, none⟩) (by rw [hd]; rfl)).mono fun e w' ⟨he, m, hw⟩ => ⟨he, by rw [hw]; exact below_drewN _ hb⟩
  have hb0 := below_alloc w (.cells #[.pointer (some ⟨t.blk, 0, none⟩), .bool true, .int .i64 (a : Int)] 244)
  have hge : n ≤ b := by
    have := Sl.idx_at t.ks (n : Int) (b, s) hd
    simp only at this
    omega
  have d1 : decide ((b : Int) < (n : Int)) = false := decide_eq_false (by omega)
  have d1' : decide (b < n) = false := decide_eq_false (by omega)
  clear h hB hT hn hd hge
  go_enter Tryz.func204, Tryz.ntmps204
  go_wp2_with fail
  go_quiet (fail)
  have hb1 := below_drewN nq hb0
  go_wp2_with (go_at_call 126; refine (HF.out _ hb1).mono ?_; rintro e w2 ⟨rfl, hb2⟩)
  go_ret2
  exact ⟨rfl, hb2⟩
theorem dFrom_one (p : Addr) (w : World) (a n : Nat) (r : Bool) (hr : decide (a < n) = r) :
    Calls Tryz.prog 204 #[sdV (some p) false a, .int .i64 (n : Int)] w fun e w' => e = .returned (.tuple #[.int .i64 (if r then 65536 else (a : Int)), .pointer (if r then none else some p)]) ∧ Below w.heap.size w w' := by
  have hb0 := below_alloc w (.cells #[.pointer (some p), .bool false, .int .i64 (a : Int)] 244)
  have d1 : decide ((a : Int) < (n : Int)) = r := by rw [← hr]; simp
  cases r with
  | true =>
    go_enter Tryz.func204, Tryz.ntmps204
    go_wp2_with fail
    go_quiet (fail)
    have hb1 := below_drewN nq hb0
    go_wp2_with fail
    go_ret2
    exact ⟨rfl, hb1⟩
  | false =>
    go_enter Tryz.func204, Tryz.ntmps204
    go_wp2_with fail
    go_quiet (fail)
    have hb1 := below_drewN nq hb0
    go_wp2_with fail
    go_ret2
    exact ⟨rfl, hb1⟩
theorem idx_single (a : Nat) (t : T) (n : Nat) : Tr.dropF [(a, t)] n = if decide (a < n) = true then [] else [(a, t)] := by
  by_cases c : a < n
  · rw [if_pos (decide_eq_true c)]
    have h0 := Tr.dropF_skip (L := [(a, t)]) (List.pairwise_singleton _ _) (n := a + 1) (m := n) c (fun x xs e => by
      rw [Tr.dropF_step (List.pairwise_singleton _ _) (n := 0) (x := (a, t)) (xs := []) (Tr.dropF_zero _)] at e
      cases e)
    rw [h0]
    exact Tr.dropF_step (List.pairwise_singleton _ _) (n := 0) (x := (a, t)) (xs := []) (Tr.dropF_zero _)
  · rw [if_neg (by simpa using c), Tr.dropF_skip (L := [(a, t)]) (List.pairwise_singleton _ _) (n := 0) (m := n) (Nat.zero_le _) (fun x xs e => by rw [Tr.dropF_zero] at e; cases e; exact Nat.le_of_not_lt c), Tr.dropF_zero]
theorem dFrom_c {w : World} {B k : Nat} {s : Sd} (h : Node w B k s.t) (hB : B ≤ w.heap.size) (hT : ∀ w', Below w.heap.size w w' → Tz w') (n : Nat) (hn : n ≤ 65536) (i : Nat) (o : Option T) (hi : Tr.hdA (Tr.dropF s.L n) = i) (ho : Tr.hdT (Tr.dropF s.L n) = o) :
    Calls Tryz.prog 204 #[sdV (some ⟨s.t.blk, 0, none⟩) s.kd s.a, .int .i64 (n : Int)] w fun e w' => e = .returned (.tuple #[.int .i64 (i : Int), .pointer (rootP o)]) ∧ Below w.heap.size w w' := by
  subst hi ho
  obtain ⟨t, kd, a⟩ := s
  cases kd with
  | true =>
    have hL : (Sd.mk t true a).L = t.ks := rfl
    simp only [hL]
    cases hd : Tr.dropF t.ks n with
    | nil =>
      have h1 : t.ks[Sl.idx t.ks (n : Int)]? = none := by rw [Tr.dropF_head, hd]; rfl
      exact dFrom_kno h hB hT a n hn h1
    | cons x xs => exact dFrom_kyes h hB hT a n x.1 hn (Tr.dropF_at hd)
  | false =>
    have hL : (Sd.mk t false a).L = [(a, t)] := rfl
    simp only [hL, idx_single]
    refine (dFrom_one ⟨t.blk, 0, none⟩ w a n (decide (a < n)) rfl).mono fun e w' he => ?_
    by_cases c : a < n
    · simp only [decide_eq_true c, if_true] at he ⊢; exact he
    · simp only [decide_eq_false c] at he ⊢; exact he

/-! ### sideOf, stepOf -/
theorem dSide_c {w : World} {B k : Nat} {t : T} (h : Node w B k t) (hB : B ≤ w.heap.size) (A : Option Addr) (c : Nat) (hp : Pts w w.heap.size A t.pre) (l : Nat) (hl : l ≤ 63) {n : Nat} (hn : t.pre.length = n) {a : Nat} (ha : Z.addr t.pre l = a) {r : Bool} (hr : decide (t.lv = l + 1) = r) :
    Calls Tryz.prog 203 #[.pointer (some ⟨t.blk, 0, none⟩), .slice A n c, .int .i64 (l : Int)] w fun e w' => e = .returned (sdV (some ⟨t.blk, 0, none⟩) r a) ∧ Below w.heap.size w w' := by
  obtain ⟨kp, hnd⟩ := h.2.nd
  have hlen := h.1.len
  have k1 := h.1.k1
  have k16 := h.1.k16
  have hb0 := below_alloc w (.cells #[.pointer none, .bool false, .int .i64 0] 244)
  have HA := Lib.hid fun (w1 : World) (hb : Below w.heap.size w w1) => addr_yes A c t.pre l w.heap.size w1 (hp.below' hb (Nat.le_refl _)) (by omega) (by omega) hl
  have HL := Lib.hid fun (w1 : World) (hb : Below w.heap.size w w1) => nLevel_c (hnd.below hb hB (Nat.le_refl _))
  have d1 : (levI t == (l : Int)) = r := by
    rw [← hr]
    unfold levI
    by_cases c : t.lv = l + 1
    · rw [decide_eq_true c, beq_iff_eq]; omega
    · rw [decide_eq_false c, beq_eq_false_iff_ne]; omega
  rw [ha, hn] at HA
  clear h hB hp hl hn ha hr hnd hlen k1 k16
  generalize levI t = lv at *
  go_enter Tryz.func203, Tryz.ntmps203
  go_wp2_with (first
    | (go_at_call 119; refine (HA.out _ hb0).mono ?_; rintro e w' ⟨rfl, rfl⟩)
    | (go_at_call 111; refine (HL.out _ hb0).mono ?_; rintro e w' ⟨rfl, rfl⟩))
  refine bodyPost_ret (v := sdV (some ⟨t.blk, 0, none⟩) r a) (by simp [results, Tryz.results203, go_sem]) rfl ?_
  exact ⟨rfl, below_alloc _ _⟩
theorem dSide_no {w : World} {B k : Nat} {t : T} (h : Node w B k t) (hB : B ≤ w.heap.size) (A : Option Addr) (c : Nat) {n : Nat} (hn : t.pre.length = n) (h0 : t.lv = 0) :
    Calls Tryz.prog 203 #[.pointer (some ⟨t.blk, 0, none⟩), .slice A n c, .int .i64 (-1)] w fun e w' => e = .returned (sdV (some ⟨t.blk, 0, none⟩) true 0) ∧ Below w.heap.size w w' := by
  obtain ⟨kp, hnd⟩ := h.2.nd
  have hlen := h.1.len
  have k1 := h.1.k1
  have k16 := h.1.k16
  have hb0 := below_alloc w (.cells #[.pointer none, .bool false, .int .i64 0] 244)
  have HA := Lib.hid fun (w1 : World) => addr_arg A n c (-1) w1 (by omega) (by omega) (by omega)
  have hlv : levI t = -1 := by simp only [levI, h0]; omega
  rw [hlv] at hnd
  have HL := Lib.hid fun (w1 : World) (hb : Below w.heap.size w w1) => nLevel_c (hnd.below hb hB (Nat.le_refl _))
  clear h hB hn hnd hlen k1 k16 hlv h0
  go_enter Tryz.func203, Tryz.ntmps203
  go_wp2_with (first
    | (go_at_call 119; refine (HA.out _).mono ?_; rintro e w' ⟨rfl, rfl⟩)
    | (go_at_call 111; refine (HL.out _ hb0).mono ?_; rintro e w' ⟨rfl, rfl⟩))
  refine bodyPost_ret (v := sdV (some ⟨t.blk, 0, none⟩) true 0) (by simp [results, Tryz.results203, go_sem]) rfl ?_
  exact ⟨rfl, below_alloc _ _⟩
abbrev prV (x : Option Addr) (kx : Bool) (ax : Nat) (y : Option Addr) (ky : Bool) (ay n : Nat) : Value := .agg #[.pointer x, .bool kx, .int .i64 (ax : Int), .pointer y, .bool ky, .int .i64 (ay : Int), .int .i64 (n : Int)]
theorem max3_1 {p x y l : Int} (h : (if p < x then x else p) < y) (hm : max (max p x) y = l) : l = y := by
  split at h <;> omega
theorem max3_2 {p x y l : Int} (h : y ≤ (if p < x then x else p)) (h' : p < x) (hm : max (max p x) y = l) : l = x := by
  rw [if_pos h'] at h
  omega
theorem max3_3 {p x y l : Int} (h : y ≤ (if p < x then x else p)) (h' : x ≤ p) (hm : max (max p x) y = l) : l = p := by
  rw [if_neg (by omega)] at h
  omega
theorem cells_set7 {w : World} {g : Nat} {a0 a1 a2 a3 a4 a5 a6 : Value} {ty : TypeId} (b0 b1 b2 b3 b4 b5 b6 : Value) (h : w.heap[g]? = some (.cells #[a0, a1, a2, a3, a4, a5, a6] ty (0, 0))) :
    (((((((w.setCell ⟨g, 0, none⟩ b0).setCell ⟨g, 1, none⟩ b1).setCell ⟨g, 2, none⟩ b2).setCell ⟨g, 3, none⟩ b3).setCell ⟨g, 4, none⟩ b4).setCell ⟨g, 5, none⟩ b5).setCell ⟨g, 6, none⟩ b6).heap[g]? = some (.cells #[b0, b1, b2, b3, b4, b5, b6] ty (0, 0)) := by
  have h1 := heap_setCell_same _ g 0 _ ty b0 h
  rw [show (#[a0, a1, a2, a3, a4, a5, a6] : Array Value).setIfInBounds 0 b0 = #[b0, a1, a2, a3, a4, a5, a6] by simp] at h1
  have h2 := heap_setCell_same _ g 1 _ ty b1 h1
  rw [show (#[b0, a1, a2, a3, a4, a5, a6] : Array Value).setIfInBounds 1 b1 = #[b0, b1, a2, a3, a4, a5, a6] by simp] at h2
  have h3 := heap_setCell_same _ g 2 _ ty b2 h2
  rw [show (#[b0, b1, a2, a3, a4, a5, a6] : Array Value).setIfInBounds 2 b2 = #[b0, b1, b2, a3, a4, a5, a6] by simp] at h3
  have h4 := heap_setCell_same _ g 3 _ ty b3 h3
  rw [show (#[b0, b1, b2, a3, a4, a5, a6] : Array Value).setIfInBounds 3 b3 = #[b0, b1, b2, b3, a4, a5, a6] by simp] at h4
  have h5 := heap_setCell_same _ g 4 _ ty b4 h4
  rw [show (#[b0, b1, b2, b3, a4, a5, a6] : Array Value).setIfInBounds 4 b4 = #[b0, b1, b2, b3, b4, a5, a6] by simp] at h5
  have h6 := heap_setCell_same _ g 5 _ ty b5 h5
  rw [show (#[b0, b1, b2, b3, b4, a5, a6] : Array Value).setIfInBounds 5 b5 = #[b0, b1, b2, b3, b4, b5, a6] by simp] at h6
  have h7 := heap_setCell_same _ g 6 _ ty b6 h6
  rw [show (#[b0, b1, b2, b3, b4, b5, a6] : Array Value).setIfInBounds 6 b6 = #[b0, b1, b2, b3, b4, b5, b6] by simp] at h7
  exact h7
set_option maxRecDepth 100000 in
set_option maxHeartbeats 4000000 in
theorem dStep_any {w : World} {B k : Nat} {x y : T} (hx : Node w B k x) (hy : Node w B k y) (hB : B ≤ w.heap.size) {l : Int} (hl : Tr.lvl x y = l) {r : Bool} (hr : decide (0 ≤ l) = r) {kx ky : Bool} {ax ay : Nat}
    (HX : ∀ (w1 : World) (A : Option Addr) (c : Nat), Below w.heap.size w w1 → Pts w1 w1.heap.size A x.pre → Calls Tryz.prog 203 #[.pointer (some ⟨x.blk, 0, none⟩), .slice A k c, .int .i64 l] w1 fun e w' => e = .returned (sdV (some ⟨x.blk, 0, none⟩) kx ax) ∧ Below w1.heap.size w1 w')
    (HY : ∀ (w1 : World) (A : Option Addr) (c : Nat), Below w.heap.size w w1 → Pts w1 w1.heap.size A y.pre → Calls Tryz.prog 203 #[.pointer (some ⟨y.blk, 0, none⟩), .slice A k c, .int .i64 l] w1 fun e w' => e = .returned (sdV (some ⟨y.blk, 0, none⟩) ky ay) ∧ Below w1.heap.size w1 w') :
    Calls Tryz.prog 173 #[.pointer (some ⟨x.blk, 0, none⟩), .pointer (some ⟨y.blk, 0, none⟩)] w fun e w' => e = .returned (.tuple #[prV (some ⟨x.blk, 0, none⟩) kx ax (some ⟨y.blk, 0, none⟩) ky ay 0, .bool r]) ∧ Below w.heap.size w w' := by
  obtain ⟨kpx, hnx⟩ := hx.2.nd
  obtain ⟨kpy, hny⟩ := hy.2.nd
  have lx := hx.1.len
  have ly := hy.1.len
  have k1 := hx.1.k1
  have k16 := hx.1.k16
  obtain ⟨p, hp⟩ : ∃ p, x.pre = p := ⟨_, rfl⟩
  obtain ⟨q, hq⟩ : ∃ q, y.pre = q := ⟨_, rfl⟩
  obtain ⟨pl, hpl⟩ : ∃ pl, Z.part p q = pl := ⟨_, rfl⟩
  rw [hp] at hnx lx HX
  rw [hq] at hny ly HY
  have hb0 := below_alloc w (.cells #[.pointer none, .bool false, .int .i64 0, .pointer none, .bool false, .int .i64 0, .int .i64 0] 246)
  have H1 : Hid (∀ w1, Below w.heap.size w w1 → Calls Tryz.prog 112 #[.pointer (some ⟨x.blk, 0, none⟩)] w1 fun e w' => ∃ h d, e = .returned (.slice (some ⟨h, 0, none⟩) k d) ∧ Pts w' w'.heap.size (some ⟨h, 0, none⟩) p ∧ Below w1.heap.size w1 w') := Lib.hid fun w1 hb => by
    have hh := nPrefix_c (hnx.below hb hB (Nat.le_refl _)) (Nat.le_trans hB hb.size) (by intro e; rw [e] at lx; simp at lx; omega) (by omega)
    rw [lx] at hh
    refine hh.mono ?_
    rintro e w' ⟨h, d, he, ho, hb'⟩
    obtain ⟨A', c', hv, hp'⟩ := ho.pts
    rw [lx] at hv
    simp only [Value.slice.injEq] at hv
    obtain ⟨rfl, -, rfl⟩ := hv
    exact ⟨h, d, he, hp', hb'⟩
  have H2 : Hid (∀ w1, Below w.heap.size w w1 → Calls Tryz.prog 112 #[.pointer (some ⟨y.blk, 0, none⟩)] w1 fun e w' => ∃ h d, e = .returned (.slice (some ⟨h, 0, none⟩) k d) ∧ Pts w' w'.heap.size (some ⟨h, 0, none⟩) q ∧ Below w1.heap.size w1 w') := Lib.hid fun w1 hb => by
    have hh := nPrefix_c (hny.below hb hB (Nat.le_refl _)) (Nat.le_trans hB hb.size) (by intro e; rw [e] at ly; simp at ly; omega) (by omega)
    rw [ly] at hh
    refine hh.mono ?_
    rintro e w' ⟨h, d, he, ho, hb'⟩
    obtain ⟨A', c', hv, hp'⟩ := ho.pts
    rw [ly] at hv
    simp only [Value.slice.injEq] at hv
    obtain ⟨rfl, -, rfl⟩ := hv
    exact ⟨h, d, he, hp', hb'⟩
  have HP : Hid (∀ (w1 : World) (A A' : Option Addr) (c c' : Nat), Pts w1 w1.heap.size A p → Pts w1 w1.heap.size A' q → Calls Tryz.prog 142 #[.slice A k c, .slice A' k c'] w1 fun e w' => e = .returned (.tuple #[.int .i64 pl, .int .i64 0]) ∧ w1 = w') := Lib.hid fun w1 A A' c c' h1 h2 => by
    have hh := part_yes A A' c c' p q w1.heap.size w1 h1 h2 (by omega) (by omega) (by omega)
    rw [lx, ly, hpl] at hh
    exact hh
  have HLx := Lib.hid fun (w1 : World) (hb : Below w.heap.size w w1) => nLevel_c (hnx.below hb hB (Nat.le_refl _))
  have HLy := Lib.hid fun (w1 : World) (hb : Below w.heap.size w w1) => nLevel_c (hny.below hb hB (Nat.le_refl _))
  have hmx : max (max pl (levI x)) (levI y) = l := by rw [← hl, ← hpl, ← hp, ← hq]; rfl
  have HX := Lib.hid HX
  have HY := Lib.hid HY
  have Hmx := Lib.hid hmx
  clear hx hy hB hl hnx hny lx ly k1 k16 hp hq hpl
  obtain ⟨bx, hbx⟩ : ∃ b, x.blk = b := ⟨_, rfl⟩
  obtain ⟨by', hby⟩ : ∃ b, y.blk = b := ⟨_, rfl⟩
  obtain ⟨lx, hlx⟩ : ∃ b, levI x = b := ⟨_, rfl⟩
  obtain ⟨ly, hly⟩ : ∃ b, levI y = b := ⟨_, rfl⟩
  rw [hbx] at HX H1 HLx
  rw [hby] at HY H2 HLy
  rw [hlx] at HLx hmx
  rw [hly] at HLy hmx
  rw [hbx, hby]
  clear hbx hby hlx hly Hmx
  go_enter Tryz.func173, Tryz.ntmps173
  go_wp2_with fail
  refine (H1.out _ hb0).mono ?_
  rintro e w1 ⟨h1, d1, rfl, hp1, hb1⟩
  have hB1 := hb0.trans (hb1.mono (by simp))
  have hr1 := (hb1.block w.heap.size (by simp)).trans (heap_at w _ _ rfl)
  have K1 := Lib.hid (And.intro hp1 (And.intro hB1 hr1))
  clear H1 hp1 hb1 hB1 hr1
  go_wp2_with fail
  refine (H2.out _ K1.out.2.1).mono ?_
  rintro e w2 ⟨h2, d2, rfl, hp2, hb2⟩
  have hlt := (Array.getElem?_eq_some_iff.1 K1.out.2.2).1
  have K2 := Lib.hid (And.intro ((K1.out.1.below' hb2 (Nat.le_refl _)).keep hb2.size (fun _ _ => rfl)) (And.intro hp2 (And.intro (K1.out.2.1.trans (hb2.mono K1.out.2.1.size)) ((hb2.block w.heap.size hlt).trans K1.out.2.2))))
  clear H2 hp2 hb2 K1 hlt
  go_upto_region 3 with ((with_reducible refine (HP.out _ _ _ _ _ K2.out.1 K2.out.2.1).mono ?_); rintro e w' ⟨rfl, rfl⟩)
  clear HP
  go_cut [8] from 20 (fun v wx => v = Value.int .i64 l ∧ wx = w2)
  case first =>
    go_wp2_with (first
      | ((with_reducible refine (HLx.out _ K2.out.2.2.1).mono ?_); rintro e w' ⟨rfl, rfl⟩)
      | ((with_reducible refine (HLy.out _ K2.out.2.2.1).mono ?_); rintro e w' ⟨rfl, rfl⟩))
    all_goals go_meet
    all_goals
      refine ⟨?_, rfl⟩
      first
        | rw [max3_1 (by assumption) hmx]
        | rw [max3_2 (by assumption) (by assumption) hmx]
        | rw [max3_3 (by assumption) (by assumption) hmx]
  case rest =>
  obtain ⟨rfl, rfl⟩ := hcut
  clear HLx HLy hmx
  go_wp2_with fail
  refine (HX.out _ _ _ K2.out.2.2.1 K2.out.1).mono ?_
  rintro e w3 ⟨rfl, hb3⟩
  have hlt := (Array.getElem?_eq_some_iff.1 K2.out.2.2.2).1
  have K3 := Lib.hid (And.intro ((K2.out.2.1.below' hb3 (Nat.le_refl _)).keep hb3.size (fun _ _ => rfl)) (And.intro (K2.out.2.2.1.trans (hb3.mono K2.out.2.2.1.size)) ((hb3.block w.heap.size hlt).trans K2.out.2.2.2)))
  clear hb3 hlt
  go_wp2_with fail
  refine (HY.out _ _ _ K3.out.2.1 K3.out.1).mono ?_
  rintro e w4 ⟨rfl, hb4⟩
  have hlt := (Array.getElem?_eq_some_iff.1 K3.out.2.2).1
  have hr4 := (hb4.block w.heap.size hlt).trans K3.out.2.2
  have K4 := Lib.hid (And.intro (K3.out.2.1.trans (hb4.mono K3.out.2.1.size)) hr4)
  have z0 : w4.cell? ⟨w.heap.size, 0, none⟩ = some (.pointer none) := by rw [cell_of_row w4 _ _ _ _ (0, 0) hr4]; rfl
  have z1 : w4.cell? ⟨w.heap.size, 1, none⟩ = some (.bool false) := by rw [cell_of_row w4 _ _ _ _ (0, 0) hr4]; rfl
  have z2 : w4.cell? ⟨w.heap.size, 2, none⟩ = some (.int .i64 0) := by rw [cell_of_row w4 _ _ _ _ (0, 0) hr4]; rfl
  have z3 : w4.cell? ⟨w.heap.size, 3, none⟩ = some (.pointer none) := by rw [cell_of_row w4 _ _ _ _ (0, 0) hr4]; rfl
  have z4 : w4.cell? ⟨w.heap.size, 4, none⟩ = some (.bool false) := by rw [cell_of_row w4 _ _ _ _ (0, 0) hr4]; rfl
  have z5 : w4.cell? ⟨w.heap.size, 5, none⟩ = some (.int .i64 0) := by rw [cell_of_row w4 _ _ _ _ (0, 0) hr4]; rfl
  have z6 : w4.cell? ⟨w.heap.size, 6, none⟩ = some (.int .i64 0) := by rw [cell_of_row w4 _ _ _ _ (0, 0) hr4]; rfl
  have zf : ∀ i, w4.frozen? ⟨w.heap.size, i, none⟩ = false := fun i => frozen_of_row w4 _ i _ _ hr4
  clear hb4 hlt hr4 HX HY K2 K3
  go_wp2_with fail
  have hr5 := cells_set7 (.pointer (some ⟨bx, 0, none⟩)) (.bool kx) (.int .i64 (ax : Int)) (.pointer (some ⟨by', 0, none⟩)) (.bool ky) (.int .i64 (ay : Int)) (.int .i64 0) K4.out.2
  have hb5 := (((((((K4.out.1.setCell (p := ⟨w.heap.size, 0, none⟩) (Nat.le_refl _) (.pointer (some ⟨bx, 0, none⟩))).setCell (p := ⟨w.heap.size, 1, none⟩) (Nat.le_refl _) (.bool kx)).setCell (p := ⟨w.heap.size, 2, none⟩) (Nat.le_refl _) (.int .i64 (ax : Int))).setCell (p := ⟨w.heap.size, 3, none⟩) (Nat.le_refl _) (.pointer (some ⟨by', 0, none⟩))).setCell (p := ⟨w.heap.size, 4, none⟩) (Nat.le_refl _) (.bool ky)).setCell (p := ⟨w.heap.size, 5, none⟩) (Nat.le_refl _) (.int .i64 (ay : Int))).setCell (p := ⟨w.heap.size, 6, none⟩) (Nat.le_refl _) (.int .i64 0))
  generalize World.setCell _ _ _ = W5 at *
  have t0 : W5.cell? ⟨w.heap.size, 0, none⟩ = some (.pointer (some ⟨bx, 0, none⟩)) := by rw [cell_of_row W5 _ _ _ _ (0, 0) hr5]; rfl
  have t1 : W5.cell? ⟨w.heap.size, 1, none⟩ = some (.bool kx) := by rw [cell_of_row W5 _ _ _ _ (0, 0) hr5]; rfl
  have t2 : W5.cell? ⟨w.heap.size, 2, none⟩ = some (.int .i64 (ax : Int)) := by rw [cell_of_row W5 _ _ _ _ (0, 0) hr5]; rfl
  have t3 : W5.cell? ⟨w.heap.size, 3, none⟩ = some (.pointer (some ⟨by', 0, none⟩)) := by rw [cell_of_row W5 _ _ _ _ (0, 0) hr5]; rfl
  have t4 : W5.cell? ⟨w.heap.size, 4, none⟩ = some (.bool ky) := by rw [cell_of_row W5 _ _ _ _ (0, 0) hr5]; rfl
  have t5 : W5.cell? ⟨w.heap.size, 5, none⟩ = some (.int .i64 (ay : Int)) := by rw [cell_of_row W5 _ _ _ _ (0, 0) hr5]; rfl
  have t6 : W5.cell? ⟨w.heap.size, 6, none⟩ = some (.int .i64 0) := by rw [cell_of_row W5 _ _ _ _ (0, 0) hr5]; rfl
  refine bodyPost_ret (v := .tuple #[prV (some ⟨bx, 0, none⟩) kx ax (some ⟨by', 0, none⟩) ky ay 0, .bool r]) (by simp [results, Tryz.results173, go_sem, t0, t1, t2, t3, t4, t5, t6]) rfl ?_
  exact ⟨rfl, hb5⟩
theorem dStep_c {w : World} {B k : Nat} {x y : T} (hx : Node w B k x) (hy : Node w B k y) (hB : B ≤ w.heap.size) {l : Nat} (hl : Tr.lvl x y = (l : Int)) (h63 : l ≤ 63) :
    Calls Tryz.prog 173 #[.pointer (some ⟨x.blk, 0, none⟩), .pointer (some ⟨y.blk, 0, none⟩)] w fun e w' => e = .returned (.tuple #[prV (some ⟨x.blk, 0, none⟩) (Tr.sdOf x l).kd (Tr.sdOf x l).a (some ⟨y.blk, 0, none⟩) (Tr.sdOf y l).kd (Tr.sdOf y l).a 0, .bool true]) ∧ Below w.heap.size w w' :=
  dStep_any hx hy hB hl (decide_eq_true (by omega)) (fun w1 A c hb hp => dSide_c (hx.below hb hB (Nat.le_refl _)) (Nat.le_trans hB hb.size) A c hp l h63 hx.1.len rfl rfl) (fun w1 A c hb hp => dSide_c (hy.below hb hB (Nat.le_refl _)) (Nat.le_trans hB hb.size) A c hp l h63 hy.1.len rfl rfl)
theorem dStep_no {w : World} {B k : Nat} {x y : T} (hx : Node w B k x) (hy : Node w B k y) (hB : B ≤ w.heap.size) (hl : Tr.lvl x y = -1) (h1 : x.lv = 0) (h2 : y.lv = 0) :
    Calls Tryz.prog 173 #[.pointer (some ⟨x.blk, 0, none⟩), .pointer (some ⟨y.blk, 0, none⟩)] w fun e w' => e = .returned (.tuple #[prV (some ⟨x.blk, 0, none⟩) true 0 (some ⟨y.blk, 0, none⟩) true 0 0, .bool false]) ∧ Below w.heap.size w w' :=
  dStep_any hx hy hB hl (decide_eq_false (by omega)) (fun w1 A c hb _ => dSide_no (hx.below hb hB (Nat.le_refl _)) (Nat.le_trans hB hb.size) A c hx.1.len h1) (fun w1 A c hb _ => dSide_no (hy.below hb hB (Nat.le_refl _)) (Nat.le_trans hB hb.size) A c hy.1.len h2)
end Go.Proofs.YtpgkfccfabnjdaaGreatDoor

/-
  CONTRACTS of package diff, second part: stepOf; a pair of nodes in memory ('PrQ'), step.on.
-/
namespace Go.Proofs.YtpgkfccfabnjdaaGreatDoor
open Go.ChangeShapes Go.WideShapes Go.ChangeAt Go.RowKit
open Tr (T S4 Ent Sd Fl)

def PrQ (f : Nat → Option Value) (x : Fl) : Prop :=
  f 0 = some (.pointer (some ⟨x.2.x.t.blk, 0, none⟩)) ∧ f 1 = some (.bool x.2.x.kd) ∧ f 2 = some (.int .i64 (x.2.x.a : Int)) ∧ f 3 = some (.pointer (some ⟨x.2.y.t.blk, 0, none⟩)) ∧ f 4 = some (.bool x.2.y.kd) ∧ f 5 = some (.int .i64 (x.2.y.a : Int)) ∧ f 6 = some (.int .i64 (x.2.n : Int))
theorem prQ_ok : QOk 7 PrQ where
  ext := by
    rintro f g s h ⟨h0, h1, h2, h3, h4, h5, h6⟩
    exact ⟨(h 0 (by omega)).symm.trans h0, (h 1 (by omega)).symm.trans h1, (h 2 (by omega)).symm.trans h2, (h 3 (by omega)).symm.trans h3, (h 4 (by omega)).symm.trans h4, (h 5 (by omega)).symm.trans h5, (h 6 (by omega)).symm.trans h6⟩
  has := by
    rintro f s ⟨h0, h1, h2, h3, h4, h5, h6⟩ j hj
    match j, hj with
    | 0, _ => exact ⟨_, h0, rfl⟩
    | 1, _ => exact ⟨_, h1, rfl⟩
    | 2, _ => exact ⟨_, h2, rfl⟩
    | 3, _ => exact ⟨_, h3, rfl⟩
    | 4, _ => exact ⟨_, h4, rfl⟩
    | 5, _ => exact ⟨_, h5, rfl⟩
    | 6, _ => exact ⟨_, h6, rfl⟩
def nextTo (cs : Array Value) (off n : Nat) : Array Value := cs.setIfInBounds (off + 6) (.int .i64 (n : Int))
theorem next_cell {W : World} {q off n j : Nat} {cs : Array Value} {ty : TypeId} {v : Value} (h : W.heap[q]? = some (.cells (nextTo cs off n) ty (0, 0))) (hc : cs[off + j]? = some v) (hj : j ≠ 6) : W.cell? ⟨q, off + j, none⟩ = some v := by
  rw [cell_of_row W _ _ _ _ (0, 0) h]
  unfold nextTo
  rw [Array.getElem?_setIfInBounds, if_neg (by omega)]
  exact hc
set_option maxRecDepth 1000000 in
set_option maxHeartbeats 2000000 in
theorem dOn_none {w : World} {B k : Nat} {x : Fl} (hx : Node w B k x.2.x.t) (hy : Node w B k x.2.y.t) (hB : B ≤ w.heap.size) (hT : ∀ w', Below w.heap.size w w' → Tz w') {q off : Nat} {cs : Array Value} {ty : TypeId} (hq : w.heap[q]? = some (.cells cs ty (0, 0))) (hc : PrQ (fun j => cs[off + j]?) x) (hn : x.2.n ≤ 65536) (h0 : Tr.remF x.2 = []) :
    Calls Tryz.prog 174 #[.pointer (some ⟨q, off, none⟩)] w fun e w' => e = .returned (.tuple #[.pointer none, .pointer none, .bool false, .bool false]) ∧ Below w.heap.size w w' := by
  obtain ⟨e1, e2⟩ := Tr.rem_none.1 h0
  have hqs : q < w.heap.size := (Array.getElem?_eq_some_iff.1 hq).1
  have hcell : ∀ (w2 : World) (j : Nat) (v : Value), Below w.heap.size w w2 → cs[j]? = some v → w2.cell? ⟨q, j, none⟩ = some v := fun w2 j v hb hj => by rw [cell_of_row w2 _ _ _ _ (0, 0) ((hb.block q hqs).trans hq)]; exact hj
  obtain ⟨c0, c1, c2, c3, c4, c5, c6⟩ := hc
  have m0 : ∀ w2, Below w.heap.size w w2 → w2.cell? ⟨q, off, none⟩ = some (.pointer (some ⟨x.2.x.t.blk, 0, none⟩)) := fun w2 hb => hcell w2 _ _ hb c0
  have m1 : ∀ w2, Below w.heap.size w w2 → w2.cell? ⟨q, off + 1, none⟩ = some (.bool x.2.x.kd) := fun w2 hb => hcell w2 _ _ hb c1
  have m2 : ∀ w2, Below w.heap.size w w2 → w2.cell? ⟨q, off + 2, none⟩ = some (.int .i64 (x.2.x.a : Int)) := fun w2 hb => hcell w2 _ _ hb c2
  have m3 : ∀ w2, Below w.heap.size w w2 → w2.cell? ⟨q, off + 3, none⟩ = some (.pointer (some ⟨x.2.y.t.blk, 0, none⟩)) := fun w2 hb => hcell w2 _ _ hb c3
  have m4 : ∀ w2, Below w.heap.size w w2 → w2.cell? ⟨q, off + 3 + 1, none⟩ = some (.bool x.2.y.kd) := fun w2 hb => hcell w2 _ _ hb c4
  have m5 : ∀ w2, Below w.heap.size w w2 → w2.cell? ⟨q, off + 3 + 2, none⟩ = some (.int .i64 (x.2.y.a : Int)) := fun w2 hb => hcell w2 _ _ hb c5
  have m6 : ∀ w2, Below w.heap.size w w2 → w2.cell? ⟨q, off + 6, none⟩ = some (.int .i64 (x.2.n : Int)) := fun w2 hb => hcell w2 _ _ hb c6
  have HX := Lib.hid fun (w2 : World) (hb : Below w.heap.size w w2) => dFrom_c (w := w2) (hx.below hb hB (Nat.le_refl _)) (Nat.le_trans hB hb.size) (fun w' h => hT w' (hb.trans (h.mono hb.size))) x.2.n hn 65536 none (by rw [e1]; rfl) (by rw [e1]; rfl)
  have HY := Lib.hid fun (w2 : World) (hb : Below w.heap.size w w2) => dFrom_c (w := w2) (hy.below hb hB (Nat.le_refl _)) (Nat.le_trans hB hb.size) (fun w' h => hT w' (hb.trans (h.mono hb.size))) x.2.n hn 65536 none (by rw [e2]; rfl) (by rw [e2]; rfl)
  simp only [rootP] at HX HY
  have hbb := Below.refl w.heap.size w
  clear hcell hq c0 c1 c2 c3 c4 c5 c6 hqs hx hy hB hT h0 e1 e2 hn
  obtain ⟨l, ⟨⟨xt, xk, xa⟩, ⟨yt, yk, ya⟩, n⟩⟩ := x
  simp only at HX HY m0 m1 m2 m3 m4 m5 m6
  go_enter Tryz.func174, Tryz.ntmps174
  go_wp2_with fail
  go_region_held3 (fun w2 => Below w.heap.size w w2) (((repeat (first | refine Below.drew ?_ | (with_reducible refine below_drewN _ ?_) | refine Below.alloc ?_ (by first | omega | (simp; done) | (simp; omega)) _ | refine Below.setCell ?_ (by first | omega | (simp; done) | (simp; omega)) _)); first | exact Below.refl _ _ | assumption | exact below_drewN _ (Below.refl _ _) | exact below_drewN _ (below_drewN _ (Below.refl _ _))))
    ((go_at_call 204; refine (HX.out _ (show Below w.heap.size w _ by ((repeat (first | refine Below.drew ?_ | (with_reducible refine below_drewN _ ?_) | refine Below.alloc ?_ (by first | omega | (simp; done) | (simp; omega)) _ | refine Below.setCell ?_ (by first | omega | (simp; done) | (simp; omega)) _)); first | exact Below.refl _ _ | assumption | exact below_drewN _ (Below.refl _ _) | exact below_drewN _ (below_drewN _ (Below.refl _ _))))).mono ?_; rintro e wc ⟨rfl, hbc⟩; have hBc := Below.trans (show Below w.heap.size w _ by ((repeat (first | refine Below.drew ?_ | (with_reducible refine below_drewN _ ?_) | refine Below.alloc ?_ (by first | omega | (simp; done) | (simp; omega)) _ | refine Below.setCell ?_ (by first | omega | (simp; done) | (simp; omega)) _)); first | exact Below.refl _ _ | assumption | exact below_drewN _ (Below.refl _ _) | exact below_drewN _ (below_drewN _ (Below.refl _ _)))) (hbc.mono (Below.size (show Below w.heap.size w _ by ((repeat (first | refine Below.drew ?_ | (with_reducible refine below_drewN _ ?_) | refine Below.alloc ?_ (by first | omega | (simp; done) | (simp; omega)) _ | refine Below.setCell ?_ (by first | omega | (simp; done) | (simp; omega)) _)); first | exact Below.refl _ _ | assumption | exact below_drewN _ (Below.refl _ _) | exact below_drewN _ (below_drewN _ (Below.refl _ _)))))); clear hbc))
  clear HX
  go_wp2_with fail
  go_region_held3 (fun w2 => Below w.heap.size w w2) (((repeat (first | refine Below.drew ?_ | (with_reducible refine below_drewN _ ?_) | refine Below.alloc ?_ (by first | omega | (simp; done) | (simp; omega)) _ | refine Below.setCell ?_ (by first | omega | (simp; done) | (simp; omega)) _)); first | exact Below.refl _ _ | assumption | exact below_drewN _ (Below.refl _ _) | exact below_drewN _ (below_drewN _ (Below.refl _ _))))
    ((go_at_call 204; refine (HY.out _ (show Below w.heap.size w _ by ((repeat (first | refine Below.drew ?_ | (with_reducible refine below_drewN _ ?_) | refine Below.alloc ?_ (by first | omega | (simp; done) | (simp; omega)) _ | refine Below.setCell ?_ (by first | omega | (simp; done) | (simp; omega)) _)); first | exact Below.refl _ _ | assumption | exact below_drewN _ (Below.refl _ _) | exact below_drewN _ (below_drewN _ (Below.refl _ _))))).mono ?_; rintro e wd ⟨rfl, hbd⟩; have hBd := Below.trans (show Below w.heap.size w _ by ((repeat (first | refine Below.drew ?_ | (with_reducible refine below_drewN _ ?_) | refine Below.alloc ?_ (by first | omega | (simp; done) | (simp; omega)) _ | refine Below.setCell ?_ (by first | omega | (simp; done) | (simp; omega)) _)); first | exact Below.refl _ _ | assumption | exact below_drewN _ (Below.refl _ _) | exact below_drewN _ (below_drewN _ (Below.refl _ _)))) (hbd.mono (Below.size (show Below w.heap.size w _ by ((repeat (first | refine Below.drew ?_ | (with_reducible refine below_drewN _ ?_) | refine Below.alloc ?_ (by first | omega | (simp; done) | (simp; omega)) _ | refine Below.setCell ?_ (by first | omega | (simp; done) | (simp; omega)) _)); first | exact Below.refl _ _ | assumption | exact below_drewN _ (Below.refl _ _) | exact below_drewN _ (below_drewN _ (Below.refl _ _)))))); clear hbd))
  clear HY
  go_wp2_with fail
  refine bodyPost_ret (v := .tuple #[.pointer none, .pointer none, .bool false, .bool false]) (by simp [results, Tryz.results174, go_sem]) rfl ?_
  exact ⟨rfl, hBd⟩
set_option maxRecDepth 1000000 in
set_option maxHeartbeats 2000000 in
theorem dOn_some {w : World} {B k : Nat} {x : Fl} (hx : Node w B k x.2.x.t) (hy : Node w B k x.2.y.t) (hB : B ≤ w.heap.size) (hT : ∀ w', Below w.heap.size w w' → Tz w') {q off : Nat} {cs : Array Value} {ty : TypeId} (hq : w.heap[q]? = some (.cells cs ty (0, 0))) (hc : PrQ (fun j => cs[off + j]?) x) (hn : x.2.n ≤ 65536) (hok : Tr.FrOk k x.1 x.2) (h0 : Tr.remF x.2 ≠ []) :
    Calls Tryz.prog 174 #[.pointer (some ⟨q, off, none⟩)] w fun e w' => ∃ (a : Nat) (u v : Option T) (r : List Tr.Pr) (both : Bool), Tr.remF x.2 = (a, u, v) :: r ∧ Tr.remF (x.2.to (a + 1)) = r ∧ a < 65536 ∧
      e = .returned (.tuple #[.pointer (rootP u), .pointer (rootP v), .bool both, .bool true]) ∧ w'.heap[q]? = some (.cells (nextTo cs off (a + 1)) ty (0, 0)) ∧ Foot (fun b => b = q) w w' := by
  obtain ⟨r, s1, s2, s3⟩ := Tr.rem_step hok h0
  obtain ⟨i, hi⟩ : ∃ i, Tr.hdA (Tr.dropF x.2.x.L x.2.n) = i := ⟨_, rfl⟩
  obtain ⟨j, hj⟩ : ∃ j, Tr.hdA (Tr.dropF x.2.y.L x.2.n) = j := ⟨_, rfl⟩
  obtain ⟨o1, ho1⟩ : ∃ o, Tr.hdT (Tr.dropF x.2.x.L x.2.n) = o := ⟨_, rfl⟩
  obtain ⟨o2, ho2⟩ : ∃ o, Tr.hdT (Tr.dropF x.2.y.L x.2.n) = o := ⟨_, rfl⟩
  rw [hi, hj] at s1 s2 s3
  rw [ho1, ho2] at s1
  obtain ⟨a, ha⟩ : ∃ a, min i j = a := ⟨_, rfl⟩
  rw [ha] at s1 s2 s3
  obtain ⟨b1, hb1⟩ : ∃ b, decide (a < i) = b := ⟨_, rfl⟩
  obtain ⟨b2, hb2⟩ : ∃ b, decide (a < j) = b := ⟨_, rfl⟩
  have hqs : q < w.heap.size := (Array.getElem?_eq_some_iff.1 hq).1
  have hcell : ∀ (w2 : World) (j : Nat) (v : Value), Below w.heap.size w w2 → cs[j]? = some v → w2.cell? ⟨q, j, none⟩ = some v := fun w2 j v hb hj => by rw [cell_of_row w2 _ _ _ _ (0, 0) ((hb.block q hqs).trans hq)]; exact hj
  obtain ⟨c0, c1, c2, c3, c4, c5, c6⟩ := hc
  have m0 : ∀ w2, Below w.heap.size w w2 → w2.cell? ⟨q, off, none⟩ = some (.pointer (some ⟨x.2.x.t.blk, 0, none⟩)) := fun w2 hb => hcell w2 _ _ hb c0
  have m1 : ∀ w2, Below w.heap.size w w2 → w2.cell? ⟨q, off + 1, none⟩ = some (.bool x.2.x.kd) := fun w2 hb => hcell w2 _ _ hb c1
  have m2 : ∀ w2, Below w.heap.size w w2 → w2.cell? ⟨q, off + 2, none⟩ = some (.int .i64 (x.2.x.a : Int)) := fun w2 hb => hcell w2 _ _ hb c2
  have m3 : ∀ w2, Below w.heap.size w w2 → w2.cell? ⟨q, off + 3, none⟩ = some (.pointer (some ⟨x.2.y.t.blk, 0, none⟩)) := fun w2 hb => hcell w2 _ _ hb c3
  have m4 : ∀ w2, Below w.heap.size w w2 → w2.cell? ⟨q, off + 3 + 1, none⟩ = some (.bool x.2.y.kd) := fun w2 hb => hcell w2 _ _ hb c4
  have m5 : ∀ w2, Below w.heap.size w w2 → w2.cell? ⟨q, off + 3 + 2, none⟩ = some (.int .i64 (x.2.y.a : Int)) := fun w2 hb => hcell w2 _ _ hb c5
  have m6 : ∀ w2, Below w.heap.size w w2 → w2.cell? ⟨q, off + 6, none⟩ = some (.int .i64 (x.2.n : Int)) := fun w2 hb => hcell w2 _ _ hb c6
  have HX := Lib.hid fun (w2 : World) (hb : Below w.heap.size w w2) => dFrom_c (w := w2) (hx.below hb hB (Nat.le_refl _)) (Nat.le_trans hB hb.size) (fun w' h => hT w' (hb.trans (h.mono hb.size))) x.2.n hn i o1 hi ho1
  have HY := Lib.hid fun (w2 : World) (hb : Below w.heap.size w w2) => dFrom_c (w := w2) (hy.below hb hB (Nat.le_refl _)) (Nat.le_trans hB hb.size) (fun w' h => hT w' (hb.trans (h.mono hb.size))) x.2.n hn j o2 hj ho2
  have hbb := Below.refl w.heap.size w
  have h6 : off + 6 < cs.size := (Array.getElem?_eq_some_iff.1 c6).1
  have HQ := Lib.hid (And.intro hq (And.intro hqs (And.intro h6 (And.intro s1 (And.intro s2 (And.intro s3 (And.intro hb1 hb2)))))))
  have HC := Lib.hid (And.intro c0 (And.intro c1 (And.intro c2 (And.intro c3 (And.intro c4 c5)))))
  have zf : ∀ w2, Below w.heap.size w w2 → w2.frozen? ⟨q, off + 6, none⟩ = false := fun w2 hb => frozen_of_row w2 q _ _ ty ((hb.block q hqs).trans hq)
  have e1 : decide ((a : Int) < (i : Int)) = b1 := by rw [← hb1]; simp
  have e2 : decide ((a : Int) < (j : Int)) = b2 := by rw [← hb2]; simp
  have e3 : ((a : Int) == 65536) = false := by rw [beq_eq_false_iff_ne]; omega
  have e4 : (a : Int) ≤ 65535 := by omega
  have e5 : (0 : Int) ≤ (a : Int) := by omega
  have hmin : min (i : Int) (j : Int) = (a : Int) := by omega
  have Hmin := Lib.hid (And.intro ha hmin)
  clear hcell hq c0 c1 c2 c3 c4 c5 c6 hqs hx hy hB hT h0 hn h6 s1 s2 s3 hok hi hj ho1 ho2 ha hmin
  obtain ⟨p1, hp1⟩ : ∃ p, rootP o1 = p := ⟨_, rfl⟩
  obtain ⟨p2, hp2⟩ : ∃ p, rootP o2 = p := ⟨_, rfl⟩
  rw [hp1] at HX
  rw [hp2] at HY
  have HP := Lib.hid (And.intro hp1 hp2)
  clear hp1 hp2
  obtain ⟨l, ⟨⟨xt, xk, xa⟩, ⟨yt, yk, ya⟩, n⟩⟩ := x
  simp only at HX HY m0 m1 m2 m3 m4 m5 m6
  go_enter Tryz.func174, Tryz.ntmps174
  go_wp2_with fail
  go_region_held3 (fun w2 => Below w.heap.size w w2) (((repeat (first | refine Below.drew ?_ | (with_reducible refine below_drewN _ ?_) | refine Below.alloc ?_ (by first | omega | (simp; done) | (simp; omega)) _ | refine Below.setCell ?_ (by first | omega | (simp; done) | (simp; omega)) _)); first | exact Below.refl _ _ | assumption | exact below_drewN _ (Below.refl _ _) | exact below_drewN _ (below_drewN _ (Below.refl _ _))))
    ((go_at_call 204; refine (HX.out _ (show Below w.heap.size w _ by ((repeat (first | refine Below.drew ?_ | (with_reducible refine below_drewN _ ?_) | refine Below.alloc ?_ (by first | omega | (simp; done) | (simp; omega)) _ | refine Below.setCell ?_ (by first | omega | (simp; done) | (simp; omega)) _)); first | exact Below.refl _ _ | assumption | exact below_drewN _ (Below.refl _ _) | exact below_drewN _ (below_drewN _ (Below.refl _ _))))).mono ?_; rintro e wc ⟨rfl, hbc⟩; have hBc := Below.trans (show Below w.heap.size w _ by ((repeat (first | refine Below.drew ?_ | (with_reducible refine below_drewN _ ?_) | refine Below.alloc ?_ (by first | omega | (simp; done) | (simp; omega)) _ | refine Below.setCell ?_ (by first | omega | (simp; done) | (simp; omega)) _)); first | exact Below.refl _ _ | assumption | exact below_drewN _ (Below.refl _ _) | exact below_drewN _ (below_drewN _ (Below.refl _ _)))) (hbc.mono (Below.size (show Below w.heap.size w _ by ((repeat (first | refine Below.drew ?_ | (with_reducible refine below_drewN _ ?_) | refine Below.alloc ?_ (by first | omega | (simp; done) | (simp; omega)) _ | refine Below.setCell ?_ (by first | omega | (simp; done) | (simp; omega)) _)); first | exact Below.refl _ _ | assumption | exact below_drewN _ (Below.refl _ _) | exact below_drewN _ (below_drewN _ (Below.refl _ _)))))); clear hbc))
  clear HX
  go_wp2_with fail
  go_region_held3 (fun w2 => Below w.heap.size w w2) (((repeat (first | refine Below.drew ?_ | (with_reducible refine below_drewN _ ?_) | refine Below.alloc ?_ (by first | omega | (simp; done) | (simp; omega)) _ | refine Below.setCell ?_ (by first | omega | (simp; done) | (simp; omega)) _)); first | exact Below.refl _ _ | assumption | exact below_drewN _ (Below.refl _ _) | exact below_drewN _ (below_drewN _ (Below.refl _ _))))
    ((go_at_call 204; refine (HY.out _ (show Below w.heap.size w _ by ((repeat (first | refine Below.drew ?_ | (with_reducible refine below_drewN _ ?_) | refine Below.alloc ?_ (by first | omega | (simp; done) | (simp; omega)) _ | refine Below.setCell ?_ (by first | omega | (simp; done) | (simp; omega)) _)); first | exact Below.refl _ _ | assumption | exact below_drewN _ (Below.refl _ _) | exact below_drewN _ (below_drewN _ (Below.refl _ _))))).mono ?_; rintro e wd ⟨rfl, hbd⟩; have hBd := Below.trans (show Below w.heap.size w _ by ((repeat (first | refine Below.drew ?_ | (with_reducible refine below_drewN _ ?_) | refine Below.alloc ?_ (by first | omega | (simp; done) | (simp; omega)) _ | refine Below.setCell ?_ (by first | omega | (simp; done) | (simp; omega)) _)); first | exact Below.refl _ _ | assumption | exact below_drewN _ (Below.refl _ _) | exact below_drewN _ (below_drewN _ (Below.refl _ _)))) (hbd.mono (Below.size (show Below w.heap.size w _ by ((repeat (first | refine Below.drew ?_ | (with_reducible refine below_drewN _ ?_) | refine Below.alloc ?_ (by first | omega | (simp; done) | (simp; omega)) _ | refine Below.setCell ?_ (by first | omega | (simp; done) | (simp; omega)) _)); first | exact Below.refl _ _ | assumption | exact below_drewN _ (Below.refl _ _) | exact below_drewN _ (below_drewN _ (Below.refl _ _)))))); clear hbd))
  clear HY
  have z6 := m6 _ hBd
  have zf := zf _ hBd
  clear m0 m1 m2 m3 m4 m5 m6
  try go_upto_region 3 with fail
  go_cut [8] from 33 (fun v wx => v = Value.int .i64 (a : Int) ∧ wx = wd)
  case first =>
    go_wp2_with fail
    go_meet
    exact ⟨by rw [Hmin.out.2], rfl⟩
  case rest =>
  obtain ⟨rfl, hwc⟩ := hcut
  rw [hwc]
  clear hwc
  have hq3 : (wd.setCell ⟨q, off + 6, none⟩ (.int .i64 ((a : Int) + 1))).heap[q]? = some (.cells (nextTo cs off (a + 1)) ty (0, 0)) := by
    have h := heap_setCell_same wd q (off + 6) _ ty (.int .i64 ((a : Int) + 1)) ((hBd.block q HQ.out.2.1).trans HQ.out.1)
    exact h
  have hf3 : Foot (fun b => b = q) w (wd.setCell ⟨q, off + 6, none⟩ (.int .i64 ((a : Int) + 1))) := (Foot.of_below (F := fun b => b = q) hBd).trans (Foot.setCell wd (F := fun b => b = q) (a := ⟨q, off + 6, none⟩) rfl _) (fun b hb => .inl hb)
  obtain ⟨W3, hW3⟩ : ∃ W3, W3 = wd.setCell ⟨q, off + 6, none⟩ (.int .i64 ((a : Int) + 1)) := ⟨_, rfl⟩
  rw [← hW3] at hq3 hf3
  have n0 := next_cell (v := Value.pointer (some ⟨xt.blk, 0, none⟩)) (j := 0) hq3 HC.out.1 (by omega)
  have n1 := next_cell (v := Value.bool xk) (j := 1) hq3 HC.out.2.1 (by omega)
  have n2 := next_cell (v := Value.int .i64 (xa : Int)) (j := 2) hq3 HC.out.2.2.1 (by omega)
  have n3 := next_cell (v := Value.pointer (some ⟨yt.blk, 0, none⟩)) (j := 3) hq3 HC.out.2.2.2.1 (by omega)
  have n4 := next_cell (v := Value.bool yk) (j := 4) hq3 HC.out.2.2.2.2.1 (by omega)
  have n5 := next_cell (v := Value.int .i64 (ya : Int)) (j := 5) hq3 HC.out.2.2.2.2.2 (by omega)
  rw [Nat.add_zero] at n0
  have m3 : ∀ w', Below W3.heap.size W3 w' → w'.cell? ⟨q, off + 3, none⟩ = some (.pointer (some ⟨yt.blk, 0, none⟩)) := fun w' hb => (hb.cell (p := ⟨q, off + 3, none⟩) (Array.getElem?_eq_some_iff.1 hq3).1).trans n3
  have m4 : ∀ w', Below W3.heap.size W3 w' → w'.cell? ⟨q, off + 3 + 1, none⟩ = some (.bool yk) := fun w' hb => (hb.cell (p := ⟨q, off + 3 + 1, none⟩) (Array.getElem?_eq_some_iff.1 hq3).1).trans n4
  have m5 : ∀ w', Below W3.heap.size W3 w' → w'.cell? ⟨q, off + 3 + 2, none⟩ = some (.int .i64 (ya : Int)) := fun w' hb => (hb.cell (p := ⟨q, off + 3 + 2, none⟩) (Array.getElem?_eq_some_iff.1 hq3).1).trans n5
  have HM := Lib.hid (And.intro m3 (And.intro m4 m5))
  have H3 := Lib.hid (And.intro hq3 hf3)
  have HW3 := Lib.hid hW3
  clear hq3 hf3 hBd hBc HC hbb Hmin m3 m4 m5 n3 n4 n5 hW3
  have fin : ∀ (u v : Option T) (w' : World) (both : Bool), u = (if b1 = true then none else o1) → v = (if b2 = true then none else o2) → Below W3.heap.size W3 w' → ∀ e, e = Ending.returned (.tuple #[.pointer (rootP u), .pointer (rootP v), .bool both, .bool true]) →
      ∃ (a : Nat) (u v : Option T) (r : List Tr.Pr) (both : Bool), Tr.remF ⟨⟨xt, xk, xa⟩, ⟨yt, yk, ya⟩, n⟩ = (a, u, v) :: r ∧ Tr.remF (Tr.Fr.to ⟨⟨xt, xk, xa⟩, ⟨yt, yk, ya⟩, n⟩ (a + 1)) = r ∧ a < 65536 ∧ e = .returned (.tuple #[.pointer (rootP u), .pointer (rootP v), .bool both, .bool true]) ∧ w'.heap[q]? = some (.cells (nextTo cs off (a + 1)) ty (0, 0)) ∧ Foot (fun b => b = q) w w' := by
    intro u v w' both hu hv hb e he
    obtain ⟨-, -, -, s1, s2, s3, c1, c2⟩ := HQ.out
    refine ⟨a, u, v, r, both, ?_, s2, s3, he, (hb.block q (Array.getElem?_eq_some_iff.1 H3.out.1).1).trans H3.out.1, H3.out.2.trans (Foot.of_below (F := fun b => b = q) hb) (fun b hb => .inl hb)⟩
    rw [hu, hv, ← c1, ← c2]
    simpa using s1
  have HF := Lib.hid fin
  clear fin
  cases b1 with
  | true =>
    cases b2 with
    | true =>
      go_upto_region 11 with fail
      rw [← HW3.out]
      clear HW3
      go_wp2_with fail
      refine (dHas_c _ _ _ _ _).mono ?_
      rintro e w4 ⟨r1, rfl, hb4⟩
      have k3 := HM.out.1 w4 hb4
      have k4 := HM.out.2.1 w4 hb4
      have k5 := HM.out.2.2 w4 hb4
      have HB4 := Lib.hid hb4
      clear hb4 n0 n1 n2
      cases r1 with
      | false =>
        go_wp2_with fail
        refine bodyPost_ret (v := .tuple #[.pointer none, .pointer none, .bool false, .bool true]) (by simp [results, Tryz.results174, go_sem]) rfl ?_
        exact HF.out none none _ false rfl rfl HB4.out _ rfl
      | true =>
        go_wp2_with fail
        refine (dHas_c _ _ _ _ _).mono ?_
        rintro e w5 ⟨r2, rfl, hb5⟩
        have HB5 := Lib.hid (Below.andThen HB4.out hb5)
        clear hb5 k3 k4 k5
        go_wp2_with fail
        refine bodyPost_ret (v := .tuple #[.pointer none, .pointer none, .bool r2, .bool true]) (by simp [results, Tryz.results174, go_sem]) rfl ?_
        exact HF.out none none _ r2 rfl rfl HB5.out _ rfl
    | false =>
      go_upto_region 11 with fail
      rw [← HW3.out]
      clear HW3
      go_wp2_with fail
      refine (dHas_c _ _ _ _ _).mono ?_
      rintro e w4 ⟨r1, rfl, hb4⟩
      have k3 := HM.out.1 w4 hb4
      have k4 := HM.out.2.1 w4 hb4
      have k5 := HM.out.2.2 w4 hb4
      have HB4 := Lib.hid hb4
      clear hb4 n0 n1 n2
      cases r1 with
      | false =>
        go_wp2_with fail
        refine bodyPost_ret (v := .tuple #[.pointer none, .pointer p2, .bool false, .bool true]) (by simp [results, Tryz.results174, go_sem]) rfl ?_
        exact HF.out none o2 _ false rfl rfl HB4.out _ (by rw [show rootP none = none from rfl, show rootP o2 = p2 from HP.out.2])
      | true =>
        go_wp2_with fail
        refine (dHas_c _ _ _ _ _).mono ?_
        rintro e w5 ⟨r2, rfl, hb5⟩
        have HB5 := Lib.hid (Below.andThen HB4.out hb5)
        clear hb5 k3 k4 k5
        go_wp2_with fail
        refine bodyPost_ret (v := .tuple #[.pointer none, .pointer p2, .bool r2, .bool true]) (by simp [results, Tryz.results174, go_sem]) rfl ?_
        exact HF.out none o2 _ r2 rfl rfl HB5.out _ (by rw [show rootP none = none from rfl, show rootP o2 = p2 from HP.out.2])
  | false =>
    cases b2 with
    | true =>
      go_upto_region 11 with fail
      rw [← HW3.out]
      clear HW3
      go_wp2_with fail
      refine (dHas_c _ _ _ _ _).mono ?_
      rintro e w4 ⟨r1, rfl, hb4⟩
      have k3 := HM.out.1 w4 hb4
      have k4 := HM.out.2.1 w4 hb4
      have k5 := HM.out.2.2 w4 hb4
      have HB4 := Lib.hid hb4
      clear hb4 n0 n1 n2
      cases r1 with
      | false =>
        go_wp2_with fail
        refine bodyPost_ret (v := .tuple #[.pointer p1, .pointer none, .bool false, .bool true]) (by simp [results, Tryz.results174, go_sem]) rfl ?_
        exact HF.out o1 none _ false rfl rfl HB4.out _ (by rw [show rootP o1 = p1 from HP.out.1, show rootP none = none from rfl])
      | true =>
        go_wp2_with fail
        refine (dHas_c _ _ _ _ _).mono ?_
        rintro e w5 ⟨r2, rfl, hb5⟩
        have HB5 := Lib.hid (Below.andThen HB4.out hb5)
        clear hb5 k3 k4 k5
        go_wp2_with fail
        refine bodyPost_ret (v := .tuple #[.pointer p1, .pointer none, .bool r2, .bool true]) (by simp [results, Tryz.results174, go_sem]) rfl ?_
        exact HF.out o1 none _ r2 rfl rfl HB5.out _ (by rw [show rootP o1 = p1 from HP.out.1, show rootP none = none from rfl])
    | false =>
      go_upto_region 11 with fail
      rw [← HW3.out]
      clear HW3
      go_wp2_with fail
      refine (dHas_c _ _ _ _ _).mono ?_
      rintro e w4 ⟨r1, rfl, hb4⟩
      have k3 := HM.out.1 w4 hb4
      have k4 := HM.out.2.1 w4 hb4
      have k5 := HM.out.2.2 w4 hb4
      have HB4 := Lib.hid hb4
      clear hb4 n0 n1 n2
      cases r1 with
      | false =>
        go_wp2_with fail
        refine bodyPost_ret (v := .tuple #[.pointer p1, .pointer p2, .bool false, .bool true]) (by simp [results, Tryz.results174, go_sem]) rfl ?_
        exact HF.out o1 o2 _ false rfl rfl HB4.out _ (by rw [show rootP o1 = p1 from HP.out.1, show rootP o2 = p2 from HP.out.2])
      | true =>
        go_wp2_with fail
        refine (dHas_c _ _ _ _ _).mono ?_
        rintro e w5 ⟨r2, rfl, hb5⟩
        have HB5 := Lib.hid (Below.andThen HB4.out hb5)
        clear hb5 k3 k4 k5
        go_wp2_with fail
        refine bodyPost_ret (v := .tuple #[.pointer p1, .pointer p2, .bool r2, .bool true]) (by simp [results, Tryz.results174, go_sem]) rfl ?_
        exact HF.out o1 o2 _ r2 rfl rfl HB5.out _ (by rw [show rootP o1 = p1 from HP.out.1, show rootP o2 = p2 from HP.out.2])
end Go.Proofs.YtpgkfccfabnjdaaGreatDoor
