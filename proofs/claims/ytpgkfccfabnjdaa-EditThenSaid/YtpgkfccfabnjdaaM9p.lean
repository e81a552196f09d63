import Derived.Test.YtpgkfccfabnjdaaM90
import Derived.Test.YtpgkfccfabnjdaaM17
import Derived.Test.YtpgkfccfabnjdaaM04
import Derived.Laws.StructEq
import Derived.BigQuiet
import Derived.Deep.RegionHeld3
/-
  PLAIN MATHEMATICS of layer 13: changes as they lie in memory (Raw), lists that are right (RightP, CL), done on entries (doL), two lists side by side (mz), one after the other (thn).
-/
namespace Go.Proofs.Ytpgkfccfabnjdaa
open Tr (T S4 Ent Chg)
namespace Tr
open Go.Proofs.Ytpgkfccfabnjdaa.Z

/-! ### changes as they lie in memory -/
abbrev Raw := List Nat × (Bool × Nat) × (Bool × Nat)
def rawC (c : Chg) : Raw := (c.1, (c.2.1.isSome, c.2.1.getD 0), (c.2.2.isSome, c.2.2.getD 0))
def thingOf (x : Bool × Nat) : Option Nat := if x.1 = true then some x.2 else none
def chgOf (r : Raw) : Chg := (r.1, thingOf r.2.1, thingOf r.2.2)
def canB (x : Bool × Nat) : Bool := x.1 || (x.2 == 0)
def isC (r : Raw) : Bool := canB r.2.1 && canB r.2.2 && !(r.2.1 == r.2.2)
theorem thing_can {x : Bool × Nat} (h : canB x = true) : ((thingOf x).isSome, (thingOf x).getD 0) = x := by
  obtain ⟨b, v⟩ := x
  cases b with
  | true => rfl
  | false =>
    have hv : v = 0 := by simpa [canB] using h
    subst hv
    rfl
theorem thing_raw (o : Option Nat) : thingOf (o.isSome, o.getD 0) = o := by cases o <;> rfl
theorem rawC_of {r : Raw} (h : isC r = true) : rawC (chgOf r) = r := by
  obtain ⟨p, x, y⟩ := r
  simp only [isC, Bool.and_eq_true] at h
  have hx := thing_can h.1.1
  have hy := thing_can h.1.2
  unfold rawC chgOf
  simp only
  rw [hx, hy]
theorem chgOf_ne {r : Raw} (h : isC r = true) : (chgOf r).2.1 ≠ (chgOf r).2.2 := by
  intro e
  have h2 := rawC_of h
  simp only [isC, Bool.and_eq_true, Bool.not_eq_true', beq_eq_false_iff_ne] at h
  apply h.2
  rw [← h2]
  unfold rawC
  simp only [e]
theorem canB_raw (o : Option Nat) : canB (o.isSome, o.getD 0) = true := by cases o <;> rfl
theorem isC_raw (c : Chg) : isC (rawC c) = !decide (c.2.1 = c.2.2) := by
  obtain ⟨p, x, y⟩ := c
  unfold isC rawC
  simp only [canB_raw, Bool.true_and]
  congr 1
  by_cases h : x = y
  · subst h; simp
  · rw [decide_eq_false h, beq_eq_false_iff_ne]
    intro e
    apply h
    have := congrArg thingOf e
    rw [thing_raw, thing_raw] at this
    exact this
/-! ### lists that are right -/
def RightAt (k : Int) (L : List Raw) (i : Nat) : Prop := ∀ c, L[i]? = some c → (c.1.length : Int) = k ∧ isC c = true ∧ ∀ d, 0 < i → L[i - 1]? = some d → cmp d.1 c.1 < 0
def RightP (k : Int) (L : List Raw) : Prop := (1 ≤ k ∧ k ≤ 16) ∧ ∀ i, i < L.length → RightAt k L i
structure CL (k : Nat) (C : List Chg) : Prop where
  cs : CS C
  each : ∀ c ∈ C, c.1.length = k ∧ Ok c.1 ∧ c.2.1 ≠ c.2.2 ∧ (∀ v, c.2.1 = some v → v < 18446744073709551616) ∧ (∀ v, c.2.2 = some v → v < 18446744073709551616)
def RawOk (r : Raw) : Prop := Ok r.1 ∧ r.2.1.2 < 18446744073709551616 ∧ r.2.2.2 < 18446744073709551616
theorem thing_lt {x : Bool × Nat} (h : x.2 < 18446744073709551616) {v : Nat} (hv : thingOf x = some v) : v < 18446744073709551616 := by
  unfold thingOf at hv
  split at hv
  · cases hv; exact h
  · cases hv
theorem cs_chain : ∀ {C : List Chg}, (∀ i c d, C[i]? = some c → C[i + 1]? = some d → key c.1 < key d.1) → CS C
  | [], _ => List.Pairwise.nil
  | [a], _ => List.pairwise_singleton _ _
  | a :: b :: C, h => by
    have ih := cs_chain (C := b :: C) fun i c d h1 h2 => h (i + 1) c d h1 h2
    refine List.pairwise_cons.2 ⟨fun c hc => ?_, ih⟩
    have hab := h 0 a b rfl rfl
    rcases List.mem_cons.1 hc with rfl | hc
    · exact hab
    · have := (List.pairwise_cons.1 ih).1 c hc
      omega
theorem RightP.cl {k : Nat} {L : List Raw} (h : RightP (k : Int) L) (hok : ∀ r ∈ L, RawOk r) : (L.map chgOf).map rawC = L ∧ CL k (L.map chgOf) := by
  have hall : ∀ r ∈ L, r.1.length = k ∧ isC r = true := fun r hr => by
    obtain ⟨i, hi⟩ := List.mem_iff_getElem?.1 hr
    have := h.2 i (List.getElem?_eq_some_iff.1 hi).1 r hi
    exact ⟨by omega, this.2.1⟩
  refine ⟨?_, cs_chain fun i c d hc hd => ?_, fun c hc => ?_⟩
  · rw [List.map_map]
    conv => rhs; rw [← List.map_id L]
    exact List.map_congr_left fun r hr => rawC_of (hall r hr).2
  · rw [List.getElem?_map] at hc hd
    obtain ⟨a, ha, rfl⟩ := Option.map_eq_some_iff.1 hc
    obtain ⟨b, hb, rfl⟩ := Option.map_eq_some_iff.1 hd
    have h1 := hall a (List.mem_of_getElem? ha)
    have h2 := hall b (List.mem_of_getElem? hb)
    have h3 := (h.2 (i + 1) (List.getElem?_eq_some_iff.1 hb).1 b hb).2.2 a (by omega) ha
    exact (key_lt (by rw [h1.1, h2.1]) (hok a (List.mem_of_getElem? ha)).1 (hok b (List.mem_of_getElem? hb)).1).2 h3
  · obtain ⟨r, hr, rfl⟩ := List.mem_map.1 hc
    obtain ⟨o1, o2, o3⟩ := hok r hr
    exact ⟨(hall r hr).1, o1, chgOf_ne (hall r hr).2, fun v hv => thing_lt o2 hv, fun v hv => thing_lt o3 hv⟩
theorem CL.right {k : Nat} {C : List Chg} (h : CL k C) (h1 : 1 ≤ k) (h16 : k ≤ 16) : RightP (k : Int) (C.map rawC) := by
  refine ⟨by omega, fun i hi r hr => ?_⟩
  rw [List.getElem?_map] at hr
  obtain ⟨c, hc, rfl⟩ := Option.map_eq_some_iff.1 hr
  obtain ⟨e1, e2, e3, -⟩ := h.each c (List.mem_of_getElem? hc)
  refine ⟨by show (c.1.length : Int) = _; omega, by rw [isC_raw, decide_eq_false e3]; rfl, fun d h0 hd => ?_⟩
  rw [List.getElem?_map] at hd
  obtain ⟨b, hb, rfl⟩ := Option.map_eq_some_iff.1 hd
  obtain ⟨f1, f2, -⟩ := h.each b (List.mem_of_getElem? hb)
  obtain ⟨g1, g2⟩ := List.getElem?_eq_some_iff.1 hb
  obtain ⟨g3, g4⟩ := List.getElem?_eq_some_iff.1 hc
  have := List.pairwise_iff_getElem.1 h.cs (i - 1) i g1 g3 (by omega)
  rw [g2, g4] at this
  exact (key_lt (by rw [f1, e1]) f2 e2).1 this
theorem CL.nil (k : Nat) : CL k [] := ⟨List.Pairwise.nil, fun c hc => by cases hc⟩
theorem CL.tail {k : Nat} {c : Chg} {C : List Chg} (h : CL k (c :: C)) : CL k C := ⟨(List.pairwise_cons.1 h.cs).2, fun d hd => h.each d (List.mem_cons_of_mem _ hd)⟩
theorem CL.chL {k : Nat} {L M : List Ent} (zL : ZS L) (zM : ZS M) (dL : Dim k L) (dM : Dim k M) : CL k (chL L M) := by
  refine ⟨chL_cs zL dL dM, fun c hc => ?_⟩
  have hi := (mem_chL zL zM dL dM).1 hc
  have hp : c.1.length = k ∧ Ok c.1 := by
    rcases hi.point with ⟨v, hv⟩ | ⟨v, hv⟩
    · exact ⟨(dL _ hv).1, (dL _ hv).2.1⟩
    · exact ⟨(dM _ hv).1, (dM _ hv).2.1⟩
  exact ⟨hp.1, hp.2, hi.2.2, fun v hv => (dL _ ((hi.1 v).1 hv)).2.2, fun v hv => (dM _ ((hi.2.1 v).1 hv)).2.2⟩

/-! ### the change at a point -/
def atC : List Chg → Nat → Option Chg
  | [], _ => none
  | c :: C, n => if key c.1 = n then some c else atC C n
theorem atC_cons (c : Chg) (C : List Chg) (n : Nat) : atC (c :: C) n = if key c.1 = n then some c else atC C n := rfl
theorem atC_mem : ∀ {C : List Chg} {n : Nat} {c : Chg}, atC C n = some c → c ∈ C ∧ key c.1 = n
  | [], _, _, h => by cases h
  | a :: C, n, c, h => by
    unfold atC at h
    split at h
    · rename_i e
      cases h
      exact ⟨List.mem_cons_self, e⟩
    · have := atC_mem h
      exact ⟨List.mem_cons_of_mem _ this.1, this.2⟩
theorem atC_none : ∀ {C : List Chg} {n : Nat}, atC C n = none ↔ ∀ c ∈ C, key c.1 ≠ n
  | [], n => by simp [atC]
  | a :: C, n => by
    unfold atC
    split
    · rename_i e
      simp only [List.mem_cons, forall_eq_or_imp, reduceCtorEq, false_iff, not_and]
      exact fun h => absurd e h
    · rename_i e
      rw [atC_none]
      simp only [List.mem_cons, forall_eq_or_imp]
      exact ⟨fun h => ⟨e, h⟩, fun h => h.2⟩
theorem atC_some {C : List Chg} (h : CS C) {c : Chg} (hc : c ∈ C) : atC C (key c.1) = some c := by
  induction C with
  | nil => cases hc
  | cons a C ih =>
    unfold atC
    rcases List.mem_cons.1 hc with rfl | hc
    · rw [if_pos rfl]
    · have := (List.pairwise_cons.1 h).1 c hc
      rw [if_neg (by omega)]
      exact ih (List.pairwise_cons.1 h).2 hc
theorem atC_iff {C : List Chg} (h : CS C) {n : Nat} {c : Chg} : atC C n = some c ↔ c ∈ C ∧ key c.1 = n :=
  ⟨atC_mem, fun ⟨h1, h2⟩ => h2 ▸ atC_some h h1⟩
theorem CL.point {k : Nat} {C : List Chg} (h : CL k C) {p : List Nat} (hp : p.length = k) (ho : Ok p) {c : Chg} (hc : atC C (key p) = some c) : c ∈ C ∧ c.1 = p := by
  obtain ⟨h1, h2⟩ := atC_mem hc
  have he := h.each c h1
  exact ⟨h1, (key_inj (by rw [he.1, hp]) he.2.1 ho).1 h2⟩

/-! ### done on entries -/
def doC (L : List Ent) (c : Chg) : List Ent := match c.2.2 with
  | some v => putE c.1 v L
  | none => delE c.1 L
def doL (L : List Ent) (C : List Chg) : List Ent := C.foldl doC L
theorem doL_cons (L : List Ent) (c : Chg) (C : List Chg) : doL L (c :: C) = doL (doC L c) C := rfl
theorem doL_take {L : List Ent} {C : List Chg} {j : Nat} {c : Chg} (h : C[j]? = some c) : doL L (C.take (j + 1)) = doC (doL L (C.take j)) c := by
  rw [List.take_add_one, h]
  simp [doL]
theorem getE_put {k : Nat} {L : List Ent} (zL : ZS L) (dL : Dim k L) {q : List Nat} {v : Nat} (hq : q.length = k) (hoq : Ok q) (hv : v < 18446744073709551616) {p : List Nat} (hp : p.length = k) (ho : Ok p) : getE (putE q v L) p = if key q = key p then some v else getE L p := by
  have z2 := zL.put q v
  have d2 := Dim.put zL dL hq hoq hv
  split
  · rename_i e
    have hqp := (key_inj (by rw [hq, hp]) hoq ho).1 e
    subst hqp
    exact (getE_iff z2 d2 hp ho).2 ((mem_putE zL).2 (.inl rfl))
  · rename_i e
    cases hg : getE L p with
    | some u => exact (getE_iff z2 d2 hp ho).2 ((mem_putE zL).2 (.inr ⟨(getE_iff zL dL hp ho).1 hg, fun h => e h.symm⟩))
    | none =>
      refine (getE_none z2 d2 hp ho).2 fun x hx => ?_
      rcases (mem_putE zL).1 hx with rfl | ⟨hx, -⟩
      · exact fun h => e (congrArg key h)
      · exact (getE_none zL dL hp ho).1 hg x hx
theorem getE_del {k : Nat} {L : List Ent} (zL : ZS L) (dL : Dim k L) (q : List Nat) {p : List Nat} (hp : p.length = k) (ho : Ok p) : getE (delE q L) p = if key q = key p then none else getE L p := by
  have z2 := zL.del q
  have d2 := Dim.del zL dL q
  split
  · rename_i e
    refine (getE_none z2 d2 hp ho).2 fun x hx h => ?_
    exact ((mem_delE zL).1 hx).2 (by rw [h, e])
  · rename_i e
    cases hg : getE L p with
    | some u => exact (getE_iff z2 d2 hp ho).2 ((mem_delE zL).2 ⟨(getE_iff zL dL hp ho).1 hg, fun h => e h.symm⟩)
    | none => exact (getE_none z2 d2 hp ho).2 fun x hx => (getE_none zL dL hp ho).1 hg x ((mem_delE zL).1 hx).1
theorem getE_doC {k : Nat} {L : List Ent} (zL : ZS L) (dL : Dim k L) {c : Chg} (hc : c.1.length = k ∧ Ok c.1 ∧ ∀ v, c.2.2 = some v → v < 18446744073709551616) {p : List Nat} (hp : p.length = k) (ho : Ok p) : getE (doC L c) p = if key c.1 = key p then c.2.2 else getE L p := by
  unfold doC
  cases h : c.2.2 with
  | some v => exact getE_put zL dL hc.1 hc.2.1 (hc.2.2 v h) hp ho
  | none => exact getE_del zL dL c.1 hp ho
theorem doC_zd {k : Nat} {L : List Ent} (zL : ZS L) (dL : Dim k L) {c : Chg} (hc : c.1.length = k ∧ Ok c.1 ∧ ∀ v, c.2.2 = some v → v < 18446744073709551616) : ZS (doC L c) ∧ Dim k (doC L c) ∧ (doC L c).length ≤ L.length + 1 := by
  unfold doC
  cases h : c.2.2 with
  | some v => exact ⟨zL.put _ _, Dim.put zL dL hc.1 hc.2.1 (hc.2.2 v h), length_putE zL _ _⟩
  | none => exact ⟨zL.del _, Dim.del zL dL _, Nat.le_succ_of_le (length_delE _ _)⟩
theorem doL_zd {k : Nat} : ∀ {C : List Chg} {L : List Ent}, ZS L → Dim k L → CL k C → ZS (doL L C) ∧ Dim k (doL L C) ∧ (doL L C).length ≤ L.length + C.length
  | [], L, zL, dL, _ => ⟨zL, dL, Nat.le_refl _⟩
  | c :: C, L, zL, dL, h => by
    have he := h.each c List.mem_cons_self
    obtain ⟨z, d, l⟩ := doC_zd zL dL (c := c) ⟨he.1, he.2.1, he.2.2.2.2⟩
    obtain ⟨z2, d2, l2⟩ := doL_zd z d h.tail
    rw [doL_cons]
    exact ⟨z2, d2, by rw [List.length_cons]; omega⟩
theorem getE_doL {k : Nat} : ∀ {C : List Chg} {L : List Ent}, ZS L → Dim k L → CL k C → ∀ {p : List Nat}, p.length = k → Ok p → getE (doL L C) p = match atC C (key p) with | some c => c.2.2 | none => getE L p
  | [], L, zL, dL, _, p, hp, ho => rfl
  | c :: C, L, zL, dL, h, p, hp, ho => by
    have he := h.each c List.mem_cons_self
    obtain ⟨z, d, l⟩ := doC_zd zL dL (c := c) ⟨he.1, he.2.1, he.2.2.2.2⟩
    rw [doL_cons, getE_doL z d h.tail hp ho, getE_doC zL dL ⟨he.1, he.2.1, he.2.2.2.2⟩ hp ho, atC_cons]
    by_cases hk : key c.1 = key p
    · rw [if_pos hk, if_pos hk]
      have : atC C (key p) = none := atC_none.2 fun x hx => by
        have := (List.pairwise_cons.1 h.cs).1 x hx
        omega
      rw [this]
    · rw [if_neg hk, if_neg hk]
def FitsL (L : List Ent) (C : List Chg) : Prop := ∀ c ∈ C, getE L c.1 = c.2.1
theorem atC_chL {k : Nat} {L M : List Ent} (zL : ZS L) (zM : ZS M) (dL : Dim k L) (dM : Dim k M) {p : List Nat} (hp : p.length = k) (ho : Ok p) : atC (chL L M) (key p) = chgAt L M p := by
  have hC := CL.chL zL zM dL dM
  unfold chgAt
  split
  · rename_i e
    cases h : atC (chL L M) (key p) with
    | none => rfl
    | some c =>
      obtain ⟨h1, h2⟩ := hC.point hp ho h
      have hi := (mem_chL zL zM dL dM).1 h1
      rw [← h2] at e
      have e1 : getE L c.1 = c.2.1 := by
        cases hc : c.2.1 with
        | some v => exact (getE_iff zL dL (by rw [h2]; exact hp) (by rw [h2]; exact ho)).2 ((hi.1 v).1 hc)
        | none =>
          refine (getE_none zL dL (by rw [h2]; exact hp) (by rw [h2]; exact ho)).2 fun x hx hxe => ?_
          have := (hi.1 x.2).2 (by rw [← hxe]; exact hx)
          rw [hc] at this
          cases this
      have e2 : getE M c.1 = c.2.2 := by
        cases hc : c.2.2 with
        | some v => exact (getE_iff zM dM (by rw [h2]; exact hp) (by rw [h2]; exact ho)).2 ((hi.2.1 v).1 hc)
        | none =>
          refine (getE_none zM dM (by rw [h2]; exact hp) (by rw [h2]; exact ho)).2 fun x hx hxe => ?_
          have := (hi.2.1 x.2).2 (by rw [← hxe]; exact hx)
          rw [hc] at this
          cases this
      rw [e1, e2] at e
      exact absurd e hi.2.2
  · rename_i e
    refine (atC_iff hC.cs).2 ⟨(mem_chL zL zM dL dM).2 ⟨fun v => getE_iff zL dL hp ho, fun v => getE_iff zM dM hp ho, e⟩, rfl⟩
theorem chL_doL {k : Nat} {L : List Ent} {C : List Chg} (zL : ZS L) (dL : Dim k L) (hC : CL k C) (hf : FitsL L C) : chL L (doL L C) = C := by
  obtain ⟨z, d, -⟩ := doL_zd zL dL hC
  refine (chL_uniq zL z dL d hC.cs fun c => ?_).symm
  constructor
  · intro hc
    have he := hC.each c hc
    have h1 := hf c hc
    have h2 := getE_doL zL dL hC he.1 he.2.1
    rw [atC_some hC.cs hc] at h2
    refine ⟨fun v => ?_, fun v => ?_, he.2.2.1⟩
    · rw [← h1]; exact getE_iff zL dL he.1 he.2.1
    · rw [← show getE (doL L C) c.1 = c.2.2 from h2]; exact getE_iff z d he.1 he.2.1
  · intro hi
    have hp : c.1.length = k ∧ Ok c.1 := by
      rcases hi.point with ⟨v, hv⟩ | ⟨v, hv⟩
      · exact ⟨(dL _ hv).1, (dL _ hv).2.1⟩
      · exact ⟨(d _ hv).1, (d _ hv).2.1⟩
    have hm := (mem_chL zL z dL d).2 hi
    have h1 := atC_chL zL z dL d hp.1 hp.2
    rw [atC_some (chL_cs zL dL d) hm] at h1
    obtain ⟨h2, h3⟩ := chgAt_fst h1.symm
    have h4 := getE_doL zL dL hC hp.1 hp.2
    cases ha : atC C (key c.1) with
    | none => rw [ha] at h4; exact absurd h4.symm h3
    | some x =>
      rw [ha] at h4
      obtain ⟨h5, h6⟩ := hC.point hp.1 hp.2 ha
      have h7 := hf x h5
      have : c = x := by
        rw [h2]
        refine Prod.ext (by simp only; exact h6.symm) (Prod.ext ?_ ?_)
        · simp only; rw [← h7, h6]
        · simp only; exact h4
      rw [this]
      exact h5
theorem CL.take {k : Nat} {C : List Chg} (h : CL k C) (j : Nat) : CL k (C.take j) := ⟨h.cs.sublist (List.take_sublist _ _), fun d hd => h.each d (List.mem_of_mem_take hd)⟩

/-! ### two lists side by side -/
abbrev Pc := Option Chg × Option Chg
def mz : List Chg → List Chg → List Pc
  | [], ys => ys.map fun y => (none, some y)
  | x :: xs, [] => (x :: xs).map fun x => (some x, none)
  | x :: xs, y :: ys => if key x.1 < key y.1 then (some x, none) :: mz xs (y :: ys) else if key y.1 < key x.1 then (none, some y) :: mz (x :: xs) ys else (some x, some y) :: mz xs ys
termination_by xs ys => xs.length + ys.length
theorem mz_nil_l (ys : List Chg) : mz [] ys = ys.map fun y => (none, some y) := by rw [mz]
theorem mz_nil_r (xs : List Chg) : mz xs [] = xs.map fun x => (some x, none) := by
  cases xs with
  | nil => rw [mz]; rfl
  | cons x xs => rw [mz]
theorem mz_l {x : Chg} {xs ys : List Chg} (h : ∀ y ∈ ys.head?, key x.1 < key y.1) : mz (x :: xs) ys = (some x, none) :: mz xs ys := by
  cases ys with
  | nil => rw [mz_nil_r, mz_nil_r]; rfl
  | cons y ys => rw [mz, if_pos (h y rfl)]
theorem mz_r {y : Chg} {xs ys : List Chg} (h : ∀ x ∈ xs.head?, key y.1 < key x.1) : mz xs (y :: ys) = (none, some y) :: mz xs ys := by
  cases xs with
  | nil => rw [mz_nil_l, mz_nil_l]; rfl
  | cons x xs =>
    have := h x rfl
    rw [mz, if_neg (by omega), if_pos this]
theorem mz_b {x y : Chg} {xs ys : List Chg} (h : key x.1 = key y.1) : mz (x :: xs) (y :: ys) = (some x, some y) :: mz xs ys := by rw [mz, if_neg (by omega), if_neg (by omega)]
theorem mz_ind {P : List Chg → List Chg → Prop} (h0 : P [] []) (h1 : ∀ x xs ys, (∀ y ∈ ys.head?, key x.1 < key y.1) → P xs ys → P (x :: xs) ys) (h2 : ∀ y xs ys, (∀ x ∈ xs.head?, key y.1 < key x.1) → P xs ys → P xs (y :: ys))
    (h3 : ∀ x y xs ys, key x.1 = key y.1 → P xs ys → P (x :: xs) (y :: ys)) : ∀ (n : Nat) (xs ys : List Chg), xs.length + ys.length ≤ n → P xs ys
  | _, [], [], _ => h0
  | 0, x :: xs, ys, h => by simp at h
  | 0, [], y :: ys, h => by simp at h
  | n + 1, [], y :: ys, h => h2 y [] ys (by simp) (mz_ind h0 h1 h2 h3 n [] ys (by simp at h ⊢; omega))
  | n + 1, x :: xs, [], h => h1 x xs [] (by simp) (mz_ind h0 h1 h2 h3 n xs [] (by simp at h ⊢; omega))
  | n + 1, x :: xs, y :: ys, h => by
    simp only [List.length_cons] at h
    rcases Nat.lt_trichotomy (key x.1) (key y.1) with c | c | c
    · exact h1 x xs (y :: ys) (by simpa using c) (mz_ind h0 h1 h2 h3 n xs (y :: ys) (by simp only [List.length_cons]; omega))
    · exact h3 x y xs ys c (mz_ind h0 h1 h2 h3 n xs ys (by omega))
    · exact h2 y (x :: xs) ys (by simpa using c) (mz_ind h0 h1 h2 h3 n (x :: xs) ys (by simp only [List.length_cons]; omega))
def ptQ : Pc → Nat
  | (some x, _) => key x.1
  | (none, some y) => key y.1
  | (none, none) => 0
theorem cs_head_lt {x : Chg} {ys : List Chg} (h : CS ys) (hh : ∀ y ∈ ys.head?, key x.1 < key y.1) : ∀ y ∈ ys, key x.1 < key y.1 := by
  cases ys with
  | nil => intro y hy; cases hy
  | cons a ys =>
    intro y hy
    have h1 := hh a rfl
    rcases List.mem_cons.1 hy with rfl | hy
    · exact h1
    · have := (List.pairwise_cons.1 h).1 y hy
      omega
theorem mz_ok (xs ys : List Chg) : CS xs → CS ys → (∀ q : Pc, q ∈ mz xs ys ↔ ∃ n, q = (atC xs n, atC ys n) ∧ q ≠ (none, none)) ∧ (mz xs ys).Pairwise (fun a b => ptQ a < ptQ b) := by
  refine mz_ind (P := fun xs ys => CS xs → CS ys → (∀ q : Pc, q ∈ mz xs ys ↔ ∃ n, q = (atC xs n, atC ys n) ∧ q ≠ (none, none)) ∧ (mz xs ys).Pairwise (fun a b => ptQ a < ptQ b)) ?_ ?_ ?_ ?_ _ xs ys (Nat.le_refl _)
  · intro _ _
    refine ⟨fun q => ?_, by rw [mz_nil_l]; exact List.Pairwise.nil⟩
    rw [mz_nil_l]
    constructor
    · intro h; cases h
    · rintro ⟨n, rfl, h⟩; exact absurd rfl h
  · intro x xs ys hlt ih hx hy
    obtain ⟨i1, i2⟩ := ih (List.pairwise_cons.1 hx).2 hy
    have ay : atC ys (key x.1) = none := atC_none.2 fun y my => by have := cs_head_lt hy hlt y my; omega
    have ax : atC xs (key x.1) = none := atC_none.2 fun y my => by have := (List.pairwise_cons.1 hx).1 y my; omega
    rw [mz_l hlt]
    refine ⟨fun q => ?_, List.pairwise_cons.2 ⟨fun q hq => ?_, i2⟩⟩
    · rw [List.mem_cons, i1]
      constructor
      · rintro (rfl | ⟨n, hq, hne⟩)
        · exact ⟨key x.1, by rw [ay, atC_cons, if_pos rfl], by simp⟩
        · refine ⟨n, ?_, hne⟩
          have hn : key x.1 ≠ n := fun e => by subst e; rw [ax, ay] at hq; exact hne hq
          rw [atC_cons, if_neg hn]
          exact hq
      · rintro ⟨n, hq, hne⟩
        rw [atC_cons] at hq
        by_cases hn : key x.1 = n
        · rw [if_pos hn] at hq
          subst hn
          exact .inl (by rw [hq, ay])
        · rw [if_neg hn] at hq
          exact .inr ⟨n, hq, hne⟩
    · obtain ⟨n, rfl, hne⟩ := (i1 q).1 hq
      show key x.1 < _
      cases h1 : atC xs n with
      | some c => exact (List.pairwise_cons.1 hx).1 c (atC_mem h1).1
      | none =>
        cases h2 : atC ys n with
        | some c => exact cs_head_lt hy hlt c (atC_mem h2).1
        | none => rw [h1, h2] at hne; exact absurd rfl hne
  · intro y xs ys hlt ih hx hy
    obtain ⟨i1, i2⟩ := ih hx (List.pairwise_cons.1 hy).2
    have ax : atC xs (key y.1) = none := atC_none.2 fun x mx => by have := cs_head_lt hx hlt x mx; omega
    have ay : atC ys (key y.1) = none := atC_none.2 fun x mx => by have := (List.pairwise_cons.1 hy).1 x mx; omega
    rw [mz_r hlt]
    refine ⟨fun q => ?_, List.pairwise_cons.2 ⟨fun q hq => ?_, i2⟩⟩
    · rw [List.mem_cons, i1]
      have hcons : ∀ n, atC (y :: ys) n = if key y.1 = n then some y else atC ys n := fun n => rfl
      constructor
      · rintro (rfl | ⟨n, hq, hne⟩)
        · exact ⟨key y.1, by rw [ax, hcons, if_pos rfl], by simp⟩
        · refine ⟨n, ?_, hne⟩
          have hn : key y.1 ≠ n := fun e => by subst e; rw [ax, ay] at hq; exact hne hq
          rw [hcons, if_neg hn]
          exact hq
      · rintro ⟨n, hq, hne⟩
        rw [hcons] at hq
        by_cases hn : key y.1 = n
        · rw [if_pos hn] at hq
          subst hn
          exact .inl (by rw [hq, ax])
        · rw [if_neg hn] at hq
          exact .inr ⟨n, hq, hne⟩
    · obtain ⟨n, rfl, hne⟩ := (i1 q).1 hq
      show key y.1 < _
      cases h1 : atC xs n with
      | some c => exact cs_head_lt hx hlt c (atC_mem h1).1
      | none =>
        cases h2 : atC ys n with
        | some c => exact (List.pairwise_cons.1 hy).1 c (atC_mem h2).1
        | none => rw [h1, h2] at hne; exact absurd rfl hne
  · intro x y xs ys heq ih hx hy
    obtain ⟨i1, i2⟩ := ih (List.pairwise_cons.1 hx).2 (List.pairwise_cons.1 hy).2
    have ax : atC xs (key x.1) = none := atC_none.2 fun z mz => by have := (List.pairwise_cons.1 hx).1 z mz; omega
    have ay : atC ys (key x.1) = none := atC_none.2 fun z mz => by have := (List.pairwise_cons.1 hy).1 z mz; omega
    have hcx : ∀ n, atC (x :: xs) n = if key x.1 = n then some x else atC xs n := fun n => rfl
    have hcy : ∀ n, atC (y :: ys) n = if key x.1 = n then some y else atC ys n := fun n => by rw [heq]; rfl
    rw [mz_b heq]
    refine ⟨fun q => ?_, List.pairwise_cons.2 ⟨fun q hq => ?_, i2⟩⟩
    · rw [List.mem_cons, i1]
      constructor
      · rintro (rfl | ⟨n, hq, hne⟩)
        · exact ⟨key x.1, by rw [hcx, hcy, if_pos rfl, if_pos rfl], by simp⟩
        · refine ⟨n, ?_, hne⟩
          have hn : key x.1 ≠ n := fun e => by subst e; rw [ax, ay] at hq; exact hne hq
          rw [hcx, hcy, if_neg hn, if_neg hn]
          exact hq
      · rintro ⟨n, hq, hne⟩
        rw [hcx, hcy] at hq
        by_cases hn : key x.1 = n
        · rw [if_pos hn, if_pos hn] at hq
          exact .inl hq
        · rw [if_neg hn, if_neg hn] at hq
          exact .inr ⟨n, hq, hne⟩
    · obtain ⟨n, rfl, hne⟩ := (i1 q).1 hq
      show key x.1 < _
      cases h1 : atC xs n with
      | some c => exact (List.pairwise_cons.1 hx).1 c (atC_mem h1).1
      | none =>
        cases h2 : atC ys n with
        | some c => show _ < key c.1; rw [heq]; exact (List.pairwise_cons.1 hy).1 c (atC_mem h2).1
        | none => rw [h1, h2] at hne; exact absurd rfl hne
theorem mz_len (xs ys : List Chg) : (mz xs ys).length ≤ xs.length + ys.length := by
  refine mz_ind (P := fun xs ys => (mz xs ys).length ≤ xs.length + ys.length) (by rw [mz_nil_l]; simp) ?_ ?_ ?_ _ xs ys (Nat.le_refl _)
  · intro x xs ys h ih; rw [mz_l h]; simp only [List.length_cons]; omega
  · intro y xs ys h ih; rw [mz_r h]; simp only [List.length_cons]; omega
  · intro x y xs ys h ih; rw [mz_b h]; simp only [List.length_cons]; omega

/-! ### one after the other -/
def fitQ : Pc → Bool
  | (some x, some y) => decide (x.2.2 = y.2.1)
  | _ => true
def jnQ : Pc → Option Chg
  | (some x, none) => some x
  | (none, some y) => some y
  | (some x, some y) => if x.2.1 = y.2.2 then none else some (x.1, x.2.1, y.2.2)
  | (none, none) => none
def thn (a b : List Chg) : List Chg := (mz a b).filterMap jnQ
def apQ : Pc → Bool
  | (some _, some _) => false
  | _ => true
theorem jnQ_key {k : Nat} {a b : List Chg} (ha : CL k a) (hb : CL k b) {n : Nat} {c : Chg} (h : jnQ (atC a n, atC b n) = some c) : key c.1 = n ∧ c.1.length = k ∧ Ok c.1 := by
  cases h1 : atC a n with
  | none =>
    cases h2 : atC b n with
    | none => rw [h1, h2] at h; cases h
    | some y =>
      rw [h1, h2] at h
      cases h
      have := atC_mem h2
      exact ⟨this.2, (hb.each _ this.1).1, (hb.each _ this.1).2.1⟩
  | some x =>
    have hx := atC_mem h1
    cases h2 : atC b n with
    | none =>
      rw [h1, h2] at h
      cases h
      exact ⟨hx.2, (ha.each _ hx.1).1, (ha.each _ hx.1).2.1⟩
    | some y =>
      rw [h1, h2] at h
      simp only [jnQ] at h
      split at h
      · cases h
      · cases h
        exact ⟨hx.2, (ha.each _ hx.1).1, (ha.each _ hx.1).2.1⟩
theorem mem_thn {k : Nat} {a b : List Chg} (ha : CL k a) (hb : CL k b) {c : Chg} : c ∈ thn a b ↔ jnQ (atC a (key c.1), atC b (key c.1)) = some c := by
  unfold thn
  rw [List.mem_filterMap]
  constructor
  · rintro ⟨q, hq, hc⟩
    obtain ⟨n, rfl, -⟩ := ((mz_ok a b ha.cs hb.cs).1 q).1 hq
    obtain ⟨rfl, -⟩ := jnQ_key ha hb hc
    exact hc
  · intro h
    refine ⟨_, ((mz_ok a b ha.cs hb.cs).1 _).2 ⟨key c.1, rfl, fun e => ?_⟩, h⟩
    rw [e] at h
    cases h
theorem cs_thn {k : Nat} {a b : List Chg} (ha : CL k a) (hb : CL k b) : CS (thn a b) := by
  unfold thn CS
  rw [List.pairwise_filterMap]
  have hm := (mz_ok a b ha.cs hb.cs).1
  refine List.Pairwise.imp_of_mem ?_ (mz_ok a b ha.cs hb.cs).2
  intro p q hp hq hlt c hc d hd
  have key_of : ∀ {q : Pc}, q ∈ mz a b → ∀ {c : Chg}, jnQ q = some c → key c.1 = ptQ q := by
    intro q hq c hc
    obtain ⟨n, rfl, -⟩ := (hm q).1 hq
    have := (jnQ_key ha hb hc).1
    rw [this]
    cases h1 : atC a n with
    | some x => exact (atC_mem h1).2.symm
    | none =>
      cases h2 : atC b n with
      | some y => exact (atC_mem h2).2.symm
      | none => rw [h1, h2] at hc; cases hc
  rw [key_of hp hc, key_of hq hd]
  exact hlt
theorem thn_chL {k : Nat} {A B C : List Ent} (zA : ZS A) (zB : ZS B) (zC : ZS C) (dA : Dim k A) (dB : Dim k B) (dC : Dim k C) : thn (chL A B) (chL B C) = chL A C := by
  have h1 := CL.chL zA zB dA dB
  have h2 := CL.chL zB zC dB dC
  have h3 := CL.chL zA zC dA dC
  refine (cs_thn h1 h2).ext h3.cs fun c => ?_
  have hj : ∀ p, p.length = k → Ok p → jnQ (atC (chL A B) (key p), atC (chL B C) (key p)) = chgAt A C p := by
    intro p hp ho
    rw [atC_chL zA zB dA dB hp ho, atC_chL zB zC dB dC hp ho]
    unfold chgAt
    by_cases e1 : getE A p = getE B p
    · rw [if_pos e1]
      by_cases e2 : getE B p = getE C p
      · rw [if_pos e2, if_pos (e1.trans e2)]; rfl
      · rw [if_neg e2, if_neg (by rw [e1]; exact e2), e1]; rfl
    · rw [if_neg e1]
      by_cases e2 : getE B p = getE C p
      · rw [if_pos e2, if_neg (by rw [← e2]; exact e1), e2]; rfl
      · rw [if_neg e2]
        rfl
  rw [mem_thn h1 h2]
  constructor
  · intro h
    obtain ⟨-, hp, ho⟩ := jnQ_key h1 h2 h
    rw [hj c.1 hp ho] at h
    exact (atC_mem ((atC_chL zA zC dA dC hp ho).trans h)).1
  · intro h
    have he := h3.each c h
    rw [hj c.1 he.1 he.2.1, ← atC_chL zA zC dA dC he.1 he.2.1]
    exact atC_some h3.cs h
theorem fit_iff {k : Nat} {a b : List Chg} (ha : CL k a) (hb : CL k b) : (mz a b).all fitQ = true ↔ ∀ y ∈ b, ∀ x, atC a (key y.1) = some x → x.2.2 = y.2.1 := by
  rw [List.all_eq_true]
  constructor
  · intro h y hy x hx
    have := h (some x, some y) (((mz_ok a b ha.cs hb.cs).1 _).2 ⟨key y.1, by rw [hx, atC_some hb.cs hy], by simp⟩)
    exact of_decide_eq_true this
  · intro h q hq
    obtain ⟨n, rfl, -⟩ := ((mz_ok a b ha.cs hb.cs).1 q).1 hq
    cases e1 : atC a n with
    | none => cases e2 : atC b n <;> rfl
    | some x =>
      cases e2 : atC b n with
      | none => rfl
      | some y =>
        obtain ⟨m, e⟩ := atC_mem e2
        subst e
        exact decide_eq_true (h y m x e1)
theorem ap_iff {k : Nat} {a b : List Chg} (ha : CL k a) (hb : CL k b) : (mz a b).all apQ = true ↔ ∀ x ∈ a, atC b (key x.1) = none := by
  rw [List.all_eq_true]
  constructor
  · intro h x hx
    cases e : atC b (key x.1) with
    | none => rfl
    | some y =>
      have := h (some x, some y) (((mz_ok a b ha.cs hb.cs).1 _).2 ⟨key x.1, by rw [e, atC_some ha.cs hx], by simp⟩)
      cases this
  · intro h q hq
    obtain ⟨n, rfl, -⟩ := ((mz_ok a b ha.cs hb.cs).1 q).1 hq
    cases e1 : atC a n with
    | none => cases e2 : atC b n <;> rfl
    | some x =>
      obtain ⟨m, e⟩ := atC_mem e1
      subst e
      rw [h x m]
      rfl
theorem thn_turn {k : Nat} {a b : List Chg} (ha : CL k a) (hb : CL k b) (h : (mz a b).all apQ = true) : (mz b a).all fitQ = true ∧ thn b a = thn a b ∧ (mz a b).all fitQ = true := by
  have h1 := (ap_iff ha hb).1 h
  have h2 : ∀ n, atC a n = none ∨ atC b n = none := fun n => by
    cases e : atC a n with
    | none => exact .inl rfl
    | some x =>
      obtain ⟨m, f⟩ := atC_mem e
      subst f
      exact .inr (h1 x m)
  refine ⟨(fit_iff hb ha).2 fun y hy x hx => ?_, (cs_thn hb ha).ext (cs_thn ha hb) fun c => ?_, (fit_iff ha hb).2 fun y hy x hx => ?_⟩
  · have := h1 y hy
    rw [hx] at this
    cases this
  · rw [mem_thn hb ha, mem_thn ha hb]
    rcases h2 (key c.1) with e | e
    · rw [e]; cases atC b (key c.1) <;> rfl
    · rw [e]; cases atC a (key c.1) <;> rfl
  · rcases h2 (key y.1) with e | e
    · rw [hx] at e; cases e
    · rw [atC_some hb.cs hy] at e; cases e
theorem thn_cl {k : Nat} {a b : List Chg} (ha : CL k a) (hb : CL k b) : CL k (thn a b) := by
  refine ⟨cs_thn ha hb, fun c hc => ?_⟩
  have h := (mem_thn ha hb).1 hc
  obtain ⟨-, hp, ho⟩ := jnQ_key ha hb h
  refine ⟨hp, ho, ?_⟩
  cases h1 : atC a (key c.1) with
  | none =>
    cases h2 : atC b (key c.1) with
    | none => rw [h1, h2] at h; cases h
    | some y =>
      rw [h1, h2] at h
      cases h
      exact (hb.each _ (atC_mem h2).1).2.2
  | some x =>
    have hx := ha.each _ (atC_mem h1).1
    cases h2 : atC b (key c.1) with
    | none =>
      rw [h1, h2] at h
      cases h
      exact hx.2.2
    | some y =>
      have hy := hb.each _ (atC_mem h2).1
      rw [h1, h2] at h
      simp only [jnQ] at h
      split at h
      · cases h
      · rename_i hne
        cases h
        exact ⟨hne, hx.2.2.2.1, hy.2.2.2.2⟩

/-! ### the document's way: all that was there -/
def befL (a : List Chg) : List Ent := a.filterMap fun c => c.2.1.map fun v => (c.1, v)
def wasC (a : List Chg) (W : List Ent) (y : Chg) : List Ent := match atC a (key y.1), y.2.1 with
  | none, some v => putE y.1 v W
  | _, _ => W
def wasL (a b : List Chg) : List Ent := b.foldl (wasC a) (befL a)
theorem befL_ok {k : Nat} : ∀ {a : List Chg}, CL k a → ZS (befL a) ∧ Dim k (befL a) ∧ (befL a).length ≤ a.length ∧ ∀ p, p.length = k → Ok p → getE (befL a) p = match atC a (key p) with | some x => x.2.1 | none => none
  | [], _ => ⟨ZS.nil, dim_nil k, Nat.le_refl _, fun p _ _ => rfl⟩
  | c :: a, h => by
    obtain ⟨z, d, l, g⟩ := befL_ok h.tail
    have he := h.each c List.mem_cons_self
    have hlt := (List.pairwise_cons.1 h.cs).1
    have hmem : ∀ e ∈ befL a, key c.1 < key e.1 := fun e hm => by
      obtain ⟨x, hx, hxe⟩ := List.mem_filterMap.1 hm
      obtain ⟨v, -, rfl⟩ := Option.map_eq_some_iff.1 hxe
      exact hlt x hx
    have hno : atC a (key c.1) = none := atC_none.2 fun x hx => by have := hlt x hx; omega
    cases hc : c.2.1 with
    | none =>
      have hb : befL (c :: a) = befL a := by unfold befL; rw [List.filterMap_cons, hc]; rfl
      rw [hb]
      refine ⟨z, d, Nat.le_trans l (by simp), fun p hp ho => ?_⟩
      rw [g p hp ho, atC_cons]
      by_cases hk : key c.1 = key p
      · rw [if_pos hk, ← hk, hno]
        exact hc.symm
      · rw [if_neg hk]
    | some v =>
      have hb : befL (c :: a) = (c.1, v) :: befL a := by unfold befL; rw [List.filterMap_cons, hc]; rfl
      rw [hb]
      have zz : ZS ((c.1, v) :: befL a) := List.pairwise_cons.2 ⟨hmem, z⟩
      have dd : Dim k ((c.1, v) :: befL a) := fun e hm => by
        rcases List.mem_cons.1 hm with rfl | hm
        · exact ⟨he.1, he.2.1, he.2.2.2.1 v hc⟩
        · exact d e hm
      refine ⟨zz, dd, by simpa using l, fun p hp ho => ?_⟩
      rw [atC_cons]
      by_cases hk : key c.1 = key p
      · rw [if_pos hk]
        have := (key_inj (by rw [he.1, hp]) he.2.1 ho).1 hk
        show _ = c.2.1
        rw [hc, ← this]
        exact (getE_iff zz dd he.1 he.2.1).2 List.mem_cons_self
      · rw [if_neg hk, ← g p hp ho]
        cases hg : getE (befL a) p with
        | some u => exact (getE_iff zz dd hp ho).2 (List.mem_cons_of_mem _ ((getE_iff z d hp ho).1 hg))
        | none =>
          refine (getE_none zz dd hp ho).2 fun x hx => ?_
          rcases List.mem_cons.1 hx with rfl | hx
          · exact fun e => hk (congrArg key e)
          · exact (getE_none z d hp ho).1 hg x hx
theorem wasC_ok {k : Nat} {a : List Chg} {W : List Ent} {y : Chg} (z : ZS W) (d : Dim k W) (he : y.1.length = k ∧ Ok y.1 ∧ ∀ v, y.2.1 = some v → v < 18446744073709551616) :
    ZS (wasC a W y) ∧ Dim k (wasC a W y) ∧ (wasC a W y).length ≤ W.length + 1 ∧ ∀ p, p.length = k → Ok p → getE (wasC a W y) p = if key y.1 = key p ∧ atC a (key p) = none ∧ y.2.1 ≠ none then y.2.1 else getE W p := by
  unfold wasC
  cases h1 : atC a (key y.1) with
  | some x =>
    refine ⟨z, d, Nat.le_succ _, fun p hp ho => ?_⟩
    rw [if_neg]
    rintro ⟨e1, e2, -⟩
    rw [← e1, h1] at e2
    cases e2
  | none =>
    cases h2 : y.2.1 with
    | none => exact ⟨z, d, Nat.le_succ _, fun p hp ho => by rw [if_neg]; rintro ⟨-, -, e3⟩; exact e3 rfl⟩
    | some v =>
      refine ⟨z.put _ _, Dim.put z d he.1 he.2.1 (he.2.2 v h2), length_putE z _ _, fun p hp ho => ?_⟩
      show getE (putE y.1 v W) p = _
      rw [getE_put z d he.1 he.2.1 (he.2.2 v h2) hp ho]
      by_cases hk : key y.1 = key p
      · rw [if_pos hk, if_pos ⟨hk, by rw [← hk]; exact h1, by simp⟩]
      · rw [if_neg hk, if_neg fun h => hk h.1]
theorem wasF_ok {k : Nat} {a : List Chg} : ∀ {b : List Chg} {W : List Ent}, ZS W → Dim k W → CL k b → ZS (b.foldl (wasC a) W) ∧ Dim k (b.foldl (wasC a) W) ∧ (b.foldl (wasC a) W).length ≤ W.length + b.length ∧
    ∀ p, p.length = k → Ok p → getE (b.foldl (wasC a) W) p = match atC b (key p) with | some y => (if atC a (key p) = none ∧ y.2.1 ≠ none then y.2.1 else getE W p) | none => getE W p
  | [], W, z, d, _ => ⟨z, d, Nat.le_refl _, fun p _ _ => rfl⟩
  | y :: b, W, z, d, h => by
    have he := h.each y List.mem_cons_self
    obtain ⟨z1, d1, l1, g1⟩ := wasC_ok (a := a) z d (y := y) ⟨he.1, he.2.1, he.2.2.2.1⟩
    obtain ⟨z2, d2, l2, g2⟩ := wasF_ok (a := a) z1 d1 h.tail
    rw [List.foldl_cons]
    refine ⟨z2, d2, by rw [List.length_cons]; omega, fun p hp ho => ?_⟩
    rw [g2 p hp ho, g1 p hp ho, atC_cons]
    by_cases hk : key y.1 = key p
    · rw [if_pos hk]
      have hno : atC b (key p) = none := atC_none.2 fun x hx => by have := (List.pairwise_cons.1 h.cs).1 x hx; omega
      rw [hno]
      simp only [hk, true_and]
    · rw [if_neg hk]
      have hf : ¬ (key y.1 = key p ∧ atC a (key p) = none ∧ y.2.1 ≠ none) := fun h => hk h.1
      rw [if_neg hf]
theorem was_then {k : Nat} {a b : List Chg} (ha : CL k a) (hb : CL k b) (hf : (mz a b).all fitQ = true) : ZS (wasL a b) ∧ Dim k (wasL a b) ∧ (wasL a b).length ≤ a.length + b.length ∧ chL (wasL a b) (doL (doL (wasL a b) a) b) = thn a b := by
  obtain ⟨z0, d0, l0, g0⟩ := befL_ok ha
  obtain ⟨z, d, l, g⟩ := wasF_ok (a := a) z0 d0 hb
  obtain ⟨z1, d1, -⟩ := doL_zd z d ha
  have f1 : FitsL (wasL a b) a := fun x hx => by
    have he := ha.each x hx
    show getE (b.foldl (wasC a) (befL a)) x.1 = _
    have hax := atC_some ha.cs hx
    rw [g x.1 he.1 he.2.1, g0 x.1 he.1 he.2.1, hax]
    cases atC b (key x.1) with
    | none => rfl
    | some y => simp
  have f2 : FitsL (doL (wasL a b) a) b := fun y hy => by
    have he := hb.each y hy
    have hgd := getE_doL z d ha he.1 he.2.1
    show getE (doL (b.foldl (wasC a) (befL a)) a) y.1 = _
    rw [hgd]
    cases h1 : atC a (key y.1) with
    | some x => exact (fit_iff ha hb).1 hf y hy x h1
    | none =>
      show getE (b.foldl (wasC a) (befL a)) y.1 = _
      rw [g y.1 he.1 he.2.1, g0 y.1 he.1 he.2.1, h1, atC_some hb.cs hy]
      by_cases hn : y.2.1 = none
      · simp [hn]
      · simp [hn]
  obtain ⟨z2, d2, -⟩ := doL_zd z1 d1 hb
  refine ⟨z, d, Nat.le_trans l (by omega), ?_⟩
  have e1 := chL_doL z d ha f1
  have e2 := chL_doL z1 d1 hb f2
  have := thn_chL z z1 z2 d d1 d2
  rw [e1, e2] at this
  exact this.symm
end Tr
end Go.Proofs.Ytpgkfccfabnjdaa

/-
  EDIT: changes in memory as they lie (RwL); how a list of them among a law's arguments is opened.
-/
namespace Go.Proofs.Ytpgkfccfabnjdaa
open Go.ChangeShapes Go.WideShapes Go.ChangeAt Go.RowKit
open Tr (T S4 Ent Chg Raw)

def RwQ (w : World) (B : Nat) (f : Nat → Option Value) (r : Raw) : Prop :=
  ∃ A c, f 0 = some (.slice A r.1.length c) ∧ f 1 = some (.bool r.2.1.1) ∧ f 2 = some (.bool r.2.2.1) ∧ f 3 = some (.int .u64 (r.2.1.2 : Int)) ∧ f 4 = some (.int .u64 (r.2.2.2 : Int)) ∧ Pts w B A r.1 ∧ r.1.length ≤ maxLen ∧ r.2.1.2 < 18446744073709551616 ∧ r.2.2.2 < 18446744073709551616
def RwL (w : World) (B : Nat) (A : Option Addr) (L : List Raw) : Prop := Lst 5 (RwQ w B) w B A L
theorem RwL.keep {w w' : World} {B B' : Nat} {A : Option Addr} {L : List Raw} (h : RwL w B A L) (hB : B ≤ B') (hw : ∀ p : Addr, p.block < B → w'.cell? p = w.cell? p) : RwL w' B' A L := by
  intro hn
  obtain ⟨b, off, hA, hb, hq⟩ := h hn
  refine ⟨b, off, hA, by omega, fun i a ha => ?_⟩
  obtain ⟨A', c, h0, h1, h2, h3, h4, h5, h6⟩ := hq i a ha
  exact ⟨A', c, (hw _ hb).trans h0, (hw _ hb).trans h1, (hw _ hb).trans h2, (hw _ hb).trans h3, (hw _ hb).trans h4, h5.keep hB hw, h6⟩
theorem RwL.below {w w' : World} {B B' C : Nat} {A : Option Addr} {L : List Raw} (h : RwL w B A L) (hb : Below C w w') (hC : B ≤ C) (hB : B ≤ B') : RwL w' B' A L :=
  h.keep hB fun _ hp => hb.cell (Nat.lt_of_lt_of_le hp hC)
theorem RwL.nil (w : World) (B : Nat) (A : Option Addr) : RwL w B A [] := fun h => absurd rfl h
theorem RwL.at {w : World} {B : Nat} {A : Option Addr} {L : List Raw} (h : RwL w B A L) {i : Nat} {r : Raw} (hr : L[i]? = some r) :
    ∃ b off P n, A = some ⟨b, off, none⟩ ∧ b < B ∧ w.cell? ⟨b, off + i * 5, none⟩ = some (.slice P r.1.length n) ∧ w.cell? ⟨b, off + i * 5 + 1, none⟩ = some (.bool r.2.1.1) ∧ w.cell? ⟨b, off + i * 5 + 2, none⟩ = some (.bool r.2.2.1) ∧
      w.cell? ⟨b, off + i * 5 + 3, none⟩ = some (.int .u64 (r.2.1.2 : Int)) ∧ w.cell? ⟨b, off + i * 5 + 4, none⟩ = some (.int .u64 (r.2.2.2 : Int)) ∧ Pts w B P r.1 ∧ r.1.length ≤ maxLen ∧ r.2.1.2 < 18446744073709551616 ∧ r.2.2.2 < 18446744073709551616 := by
  obtain ⟨b, off, hA, hb, hq⟩ := h (by rintro rfl; simp at hr)
  obtain ⟨P, n, hh⟩ := hq i r hr
  exact ⟨b, off, P, n, hA, hb, hh⟩
theorem RwL.ok {w : World} {B : Nat} {A : Option Addr} {L : List Raw} (h : RwL w B A L) : ∀ r ∈ L, Tr.RawOk r := fun r hr => by
  obtain ⟨i, hi⟩ := List.mem_iff_getElem?.1 hr
  obtain ⟨b, off, P, n, -, -, -, -, -, -, -, hp, -, h1, h2⟩ := h.at hi
  exact ⟨hp.1, h1, h2⟩
theorem RwL.drop1 {w : World} {B b off : Nat} {x : Raw} {L : List Raw} (h : RwL w B (some ⟨b, off, none⟩) (x :: L)) : RwL w B (some ⟨b, off + 5, none⟩) L := by
  intro hn
  obtain ⟨b', off', hA, hb, hq⟩ := h (by simp)
  cases hA
  refine ⟨b, off + 5, rfl, hb, fun i r hr => ?_⟩
  obtain ⟨P, n, h0, h1, h2, h3, h4, h5⟩ := hq (i + 1) r (by simpa using hr)
  have e : ∀ j, off + (i + 1) * 5 + j = off + 5 + i * 5 + j := fun j => by omega
  simp only [e] at h0 h1 h2 h3 h4
  exact ⟨P, n, h0, h1, h2, h3, h4, h5⟩
/-! ### among the arguments -/
theorem cells_chg : Try.prog.cellsOf 43 = 5 := by kernel_rfl
theorem trod_struct5 {H : Type} {enc : TypeId × Value → H} {P : Program} {w : World} {base : Nat} {spare : Nat → Bool} {held : Bool} {t : TypeId} {f0 f1 f2 f3 f4 : Field} {fuel : Nat} {cs : List Value} {x : DataW H × List MemPlace} (ht : P.underlying t = some (.struct #[f0, f1, f2, f3, f4])) (h : DataW.trod enc P w base spare held fuel t cs = some x) :
    ∃ y0 y1 y2 y3 y4 n, DataW.trod enc P w base spare held n f0.type ((cs.drop f0.offset).take (P.cellsOf f0.type)) = some y0 ∧ DataW.trod enc P w base spare held n f1.type ((cs.drop f1.offset).take (P.cellsOf f1.type)) = some y1 ∧ DataW.trod enc P w base spare held n f2.type ((cs.drop f2.offset).take (P.cellsOf f2.type)) = some y2 ∧
      DataW.trod enc P w base spare held n f3.type ((cs.drop f3.offset).take (P.cellsOf f3.type)) = some y3 ∧ DataW.trod enc P w base spare held n f4.type ((cs.drop f4.offset).take (P.cellsOf f4.type)) = some y4 := by
  obtain ⟨xs, n, _, rfl, hl, hlen, hf⟩ := DataW.trod_struct ht h
  match xs, hlen with
  | [y0, y1, y2, y3, y4], _ => exact ⟨y0, y1, y2, y3, y4, n, by simpa using hf 0 f0 rfl, by simpa using hf 1 f1 rfl, by simpa using hf 2 f2 rfl, by simpa using hf 3 f3 rfl, by simpa using hf 4 f4 rfl⟩
set_option maxRecDepth 100000 in
theorem open_changes {H : Type} {enc : TypeId × Value → H} {W : World} {v : Value} {d : DataW H} {ps : List MemPlace} (hv : Value.okWide Try.prog W .any 0 22 v) (h : DataW.Trod enc Try.prog W 0 (fun _ => true) true 22 v d ps) :
    ∃ (A : Option Addr) (c : Nat) (l : List Raw), v = .slice A l.length c ∧ l.length ≤ maxLen ∧ (RwL W W.heap.size A l ∧ l.length ≤ c) := by
  obtain ⟨a, len, cap, rfl⟩ := okWide_slice Try.underlying22 hv
  obtain ⟨fuel, hf⟩ := h
  obtain ⟨A, c, l, hcs, hm, hlc, hl⟩ := open_list (α := Raw) (n := 5) (RwQ W W.heap.size)
    Try.underlying22 cells_chg (by decide) (fun fuel cs x f hlen ht hc => by
      obtain ⟨y0, y1, y2, y3, y4, n, g0, g1, g2, g3, g4⟩ := trod_struct5 Try.underlying43 ht
      match cs, hlen with
      | [v0, v1, v2, v3, v4], _ =>
        simp [cells_tb1, cells_tp1, cells_tu1] at g0 g1 g2 g3 g4
        obtain ⟨A, c, us, e0, m0, p0⟩ := open_u64s g0
        obtain ⟨b1, e1, _⟩ := DataW.trod_bool Try.underlying4 g1
        obtain ⟨b2, e2, _⟩ := DataW.trod_bool Try.underlying4 g2
        obtain ⟨n3, e3, _, w3⟩ := DataW.trod_int Try.underlying40 g3
        obtain ⟨n4, e4, _, w4⟩ := DataW.trod_int Try.underlying40 g4
        simp at e0 e1 e2 e3 e4
        subst e0 e1 e2 e3 e4
        have q3 := bounds_u64 w3
        have q4 := bounds_u64 w4
        refine ⟨(us, (b1, n3.toNat), (b2, n4.toNat)), A, c, ?_, ?_, ?_, ?_, ?_, p0, m0, by simp only; omega, by simp only; omega⟩
        · rw [hc 0 (by decide)]; rfl
        · rw [hc 1 (by decide)]; rfl
        · rw [hc 2 (by decide)]; rfl
        · rw [hc 3 (by decide)]; simp only [List.getElem?_cons_succ, List.getElem?_cons_zero]; rw [Int.toNat_of_nonneg (by omega)]
        · rw [hc 4 (by decide)]; simp only [List.getElem?_cons_succ, List.getElem?_cons_zero]; rw [Int.toNat_of_nonneg (by omega)]) hf
  simp [Value.cells] at hcs
  obtain ⟨rfl, rfl, rfl⟩ := hcs
  exact ⟨_, _, l, rfl, hm, hl, hlc⟩
end Go.Proofs.Ytpgkfccfabnjdaa

/-
  CONTRACTS of package edit, first part: had, has, canBe, isChange.
-/
namespace Go.Proofs.Ytpgkfccfabnjdaa
open Go.ChangeShapes Go.WideShapes Go.ChangeAt Go.RowKit

abbrev chV (P : Option Addr) (n c : Nat) (h s : Bool) (o v : Nat) : Value := .agg #[.slice P n c, .bool h, .bool s, .int .u64 (o : Int), .int .u64 (v : Int)]
abbrev thV (h : Bool) (o : Nat) : Value := .agg #[.bool h, .int .u64 (o : Int)]
theorem thing_eq (a b : Bool) (x y : Int) (w : World) : (Op.equalIn 10000 64 (.agg #[.bool a, .int .u64 x]) (.agg #[.bool b, .int .u64 y])).run Try.prog w = .ok (a == b && x == y) w := by
  have u1 := Try.underlying4
  have u3 := Try.underlying40
  have a1 := Try.isAgg4
  have a3 := Try.isAgg40
  have z1 := Try.sizeOf4
  have z3 := Try.sizeOf40
  have hS : Try.prog.underlying 64 = some (.struct (Try.prog.fieldsOf 64)) := by kernel_rfl
  have hp : Try.prog.stoodInHeld 64 = false := by kernel_rfl
  rw [show (10000 : Nat) = 9999 + 1 from rfl, run_equalIn_agg w 9999 64 _ _ hS hp]
  simp only [Program.fieldsOf, Try.underlying64]
  go_simp
  cases a <;> cases b <;> by_cases h2 : x = y <;> simp [h2]
theorem thing_neq (a b : Bool) (x y : Int) (w : World) : (binOp .neq 64 (.agg #[.bool a, .int .u64 x]) (.agg #[.bool b, .int .u64 y])).run Try.prog w = .ok (.bool (!(a == b && x == y))) w := by
  rw [run_neq_struct, thing_eq]
  rfl
theorem thing_eql (a b : Bool) (x y : Int) (w : World) : (binOp .eql 64 (.agg #[.bool a, .int .u64 x]) (.agg #[.bool b, .int .u64 y])).run Try.prog w = .ok (.bool (a == b && x == y)) w := by
  rw [run_eql_struct, thing_eq]
  rfl
set_option maxRecDepth 100000 in
theorem ed_had (P : Option Addr) (n c : Nat) (h s : Bool) (o v : Nat) (w : World) : Calls Try.prog 32 #[chV P n c h s o v] w fun e w' => e = .returned (thV h o) ∧ Below w.heap.size w w' := by
  go_enter Try.func32, Try.ntmps32
  go_wp2_with fail
  refine bodyPost_ret (v := thV h o) (by simp [results, Try.results32, go_sem]) rfl ?_
  exact ⟨rfl, by ((repeat (first | refine Below.drew ?_ | (with_reducible refine below_drewN _ ?_) | refine Below.alloc ?_ (by first | omega | (simp; done) | (simp; omega)) _ | refine Below.setCell ?_ (by first | omega | (simp; done) | (simp; omega)) _)); first | exact Below.refl _ _ | assumption | exact below_drewN _ (Below.refl _ _) | exact below_drewN _ (below_drewN _ (Below.refl _ _)))⟩
set_option maxRecDepth 100000 in
theorem ed_has (P : Option Addr) (n c : Nat) (h s : Bool) (o v : Nat) (w : World) : Calls Try.prog 35 #[chV P n c h s o v] w fun e w' => e = .returned (thV s v) ∧ Below w.heap.size w w' := by
  go_enter Try.func35, Try.ntmps35
  go_wp2_with fail
  refine bodyPost_ret (v := thV s v) (by simp [results, Try.results35, go_sem]) rfl ?_
  exact ⟨rfl, by ((repeat (first | refine Below.drew ?_ | (with_reducible refine below_drewN _ ?_) | refine Below.alloc ?_ (by first | omega | (simp; done) | (simp; omega)) _ | refine Below.setCell ?_ (by first | omega | (simp; done) | (simp; omega)) _)); first | exact Below.refl _ _ | assumption | exact below_drewN _ (Below.refl _ _) | exact below_drewN _ (below_drewN _ (Below.refl _ _)))⟩
set_option maxRecDepth 100000 in
theorem ed_canBe (h : Bool) (o : Nat) (r : Bool) (hr : (h || (o == 0)) = r) (w : World) : Calls Try.prog 36 #[thV h o] w fun e w' => e = .returned (.bool r) ∧ Below w.heap.size w w' := by
  have hn : ((o : Int) == 0) = (o == 0) := by
    by_cases e : o = 0
    · subst e; rfl
    · rw [show (o == 0) = false from beq_eq_false_iff_ne.2 e, beq_eq_false_iff_ne]; omega
  obtain ⟨q, hq⟩ : ∃ q, (o == 0) = q := ⟨_, rfl⟩
  rw [hq] at hn hr
  cases h with
  | true =>
    have hr' : r = true := by rw [← hr]; rfl
    subst hr'
    clear hr hq
    go_enter Try.func36, Try.ntmps36
    go_wp2_with fail
    go_ret
    exact ⟨rfl, below_alloc w _⟩
  | false =>
    have hr' : r = q := by rw [← hr]; rfl
    subst hr'
    clear hr hq
    go_enter Try.func36, Try.ntmps36
    go_wp2_with fail
    go_ret
    exact ⟨rfl, below_alloc w _⟩
end Go.Proofs.Ytpgkfccfabnjdaa

/-
  CONTRACTS of package edit, second part: isChange. Laid by wip/gen56.py.
-/
namespace Go.Proofs.Ytpgkfccfabnjdaa
open Go.ChangeShapes Go.WideShapes Go.ChangeAt Go.RowKit
open Tr (T S4 Ent Chg Raw)

theorem isC_eq (p : List Nat) (h s : Bool) (o v : Nat) : Tr.isC (p, (h, o), (s, v)) = ((h || (o == 0)) && (s || (v == 0)) && !(h == s && (o : Int) == (v : Int))) := by
  have e : ((o : Int) == (v : Int)) = (o == v) := by
    by_cases e : o = v
    · subst e; simp
    · rw [show (o == v) = false from beq_eq_false_iff_ne.2 e, beq_eq_false_iff_ne]; omega
  rw [e]
  rfl
set_option maxRecDepth 100000 in
set_option maxHeartbeats 2000000 in
theorem ed_isChange (P : Option Addr) (n c : Nat) (q : Raw) (r : Bool) (hr : Tr.isC q = r) (w : World) : Calls Try.prog 18 #[chV P n c q.2.1.1 q.2.2.1 q.2.1.2 q.2.2.2] w fun e w' => e = .returned (.bool r) ∧ Below w.heap.size w w' := by
  obtain ⟨p, ⟨h, o⟩, ⟨s, v⟩⟩ := q
  simp only
  rw [isC_eq] at hr
  have HH := Lib.hid fun w1 : World => ed_had P n c h s o v w1
  have HS := Lib.hid fun w1 : World => ed_has P n c h s o v w1
  obtain ⟨r1, hr1⟩ : ∃ r1, (h || (o == 0)) = r1 := ⟨_, rfl⟩
  obtain ⟨r2, hr2⟩ : ∃ r2, (s || (v == 0)) = r2 := ⟨_, rfl⟩
  have HC1 := Lib.hid fun w1 : World => ed_canBe h o r1 hr1 w1
  have HC2 := Lib.hid fun w1 : World => ed_canBe s v r2 hr2 w1
  rw [hr1, hr2] at hr
  clear hr1 hr2
  have hbel := below_alloc w (.cells #[.slice P n c, .bool h, .bool s, .int .u64 (o : Int), .int .u64 (v : Int)] 43)
  have hrow := heap_at w (.cells #[.slice P n c, .bool h, .bool s, .int .u64 (o : Int), .int .u64 (v : Int)] 43) _ rfl
  have Hr := Lib.hid hr
  clear hr
  go_enter Try.func18, Try.ntmps18
  go_wp2_with fail
  generalize w.alloc (.cells #[.slice P n c, .bool h, .bool s, .int .u64 (o : Int), .int .u64 (v : Int)] 43) = W at *
  have hlt : w.heap.size < W.heap.size := (Array.getElem?_eq_some_iff.1 hrow).1
  have hrw : ∀ w2, Below W.heap.size W w2 → w2.heap[w.heap.size]? = some (.cells #[.slice P n c, .bool h, .bool s, .int .u64 (o : Int), .int .u64 (v : Int)] 43 (0, 0)) := fun w2 hb => (hb.block _ hlt).trans hrow
  have m0 : ∀ w2, Below W.heap.size W w2 → w2.cell? ⟨w.heap.size, 0, none⟩ = some (.slice P n c) := fun w2 hb => by rw [cell_of_row w2 _ _ _ _ (0, 0) (hrw w2 hb)]; rfl
  have m1 : ∀ w2, Below W.heap.size W w2 → w2.cell? ⟨w.heap.size, 1, none⟩ = some (.bool h) := fun w2 hb => by rw [cell_of_row w2 _ _ _ _ (0, 0) (hrw w2 hb)]; rfl
  have m2 : ∀ w2, Below W.heap.size W w2 → w2.cell? ⟨w.heap.size, 2, none⟩ = some (.bool s) := fun w2 hb => by rw [cell_of_row w2 _ _ _ _ (0, 0) (hrw w2 hb)]; rfl
  have m3 : ∀ w2, Below W.heap.size W w2 → w2.cell? ⟨w.heap.size, 3, none⟩ = some (.int .u64 (o : Int)) := fun w2 hb => by rw [cell_of_row w2 _ _ _ _ (0, 0) (hrw w2 hb)]; rfl
  have m4 : ∀ w2, Below W.heap.size W w2 → w2.cell? ⟨w.heap.size, 4, none⟩ = some (.int .u64 (v : Int)) := fun w2 hb => by rw [cell_of_row w2 _ _ _ _ (0, 0) (hrw w2 hb)]; rfl
  have hbb := Below.refl W.heap.size W
  clear hrw hrow
  cases r1 with
  | false =>
    obtain rfl : r = false := Hr.out.symm
    clear Hr
    refine wp_region_held_drew (S := (fun w2 => Below W.heap.size W w2)) (by kernel_rfl) hbb.drew (fun hHeld => ?_)
    apply wpAnyH_take (i := 0)
    case hi => simp only [List.getElem?_toArray, List.getElem?_cons_zero]; rfl
    case hs => kernel_rfl
    case hf => kernel_rfl
    case hr => kernel_rfl
    case hQ => exact fun _ _ _ h => h
    case hS => assumption
    case hy =>
      refine Or.inl ⟨by rfl, ?_⟩
      intro w hSw
      try dsimp only at hSw
      have m0 := m0 w hSw
      have m1 := m1 w hSw
      have m2 := m2 w hSw
      have m3 := m3 w hSw
      have m4 := m4 w hSw
      go_simp
      try with_reducible rfl
    simp only [Act.put, List.setIfInBounds_toArray, List.set_cons_zero, List.set_cons_succ]
    refine wpAnyH_ready (rs := [1]) (by kernel_rfl) (by simp) ?_
    apply AllReadyH.cons
    case ho => simp only [List.getElem?_toArray, List.getElem?_cons_succ, List.getElem?_cons_zero]; rfl
    case hs => exact AllReadyH.nil
    intro K hK
    go_simp
    refine (HH.out _).mono ?_
    rintro e wd ⟨rfl, hbd⟩
    have hBd := Below.trans (show Below W.heap.size W _ by ((repeat (first | refine Below.drew ?_ | (with_reducible refine below_drewN _ ?_) | refine Below.alloc ?_ (by first | omega | (simp; done) | (simp; omega)) _ | refine Below.setCell ?_ (by first | omega | (simp; done) | (simp; omega)) _)); first | exact Below.refl _ _ | assumption | exact below_drewN _ (Below.refl _ _) | exact below_drewN _ (below_drewN _ (Below.refl _ _)))) (hbd.mono (Below.size (show Below W.heap.size W _ by ((repeat (first | refine Below.drew ?_ | (with_reducible refine below_drewN _ ?_) | refine Below.alloc ?_ (by first | omega | (simp; done) | (simp; omega)) _ | refine Below.setCell ?_ (by first | omega | (simp; done) | (simp; omega)) _)); first | exact Below.refl _ _ | assumption | exact below_drewN _ (Below.refl _ _) | exact below_drewN _ (below_drewN _ (Below.refl _ _))))))
    clear hbd
    go_wp2_with fail
    refine hK.out _ _ hBd (fun hHeld => ?_)
    clear hK K
    refine wpAnyH_ready (rs := [2]) (by kernel_rfl) (by simp) ?_
    apply AllReadyH.cons
    case ho => simp only [List.getElem?_toArray, List.getElem?_cons_succ, List.getElem?_cons_zero]; rfl
    case hs => exact AllReadyH.nil
    intro K hK
    go_simp
    refine (HC1.out _).mono ?_
    rintro e wd ⟨rfl, hbd⟩
    have hBd := Below.trans (show Below W.heap.size W _ by ((repeat (first | refine Below.drew ?_ | (with_reducible refine below_drewN _ ?_) | refine Below.alloc ?_ (by first | omega | (simp; done) | (simp; omega)) _ | refine Below.setCell ?_ (by first | omega | (simp; done) | (simp; omega)) _)); first | exact Below.refl _ _ | assumption | exact below_drewN _ (Below.refl _ _) | exact below_drewN _ (below_drewN _ (Below.refl _ _)))) (hbd.mono (Below.size (show Below W.heap.size W _ by ((repeat (first | refine Below.drew ?_ | (with_reducible refine below_drewN _ ?_) | refine Below.alloc ?_ (by first | omega | (simp; done) | (simp; omega)) _ | refine Below.setCell ?_ (by first | omega | (simp; done) | (simp; omega)) _)); first | exact Below.refl _ _ | assumption | exact below_drewN _ (Below.refl _ _) | exact below_drewN _ (below_drewN _ (Below.refl _ _))))))
    clear hbd
    go_wp2_with fail
    refine hK.out _ _ hBd (fun hHeld => ?_)
    clear hK K
    apply wpAnyH_take (i := 3)
    case hi => simp only [List.getElem?_toArray, List.getElem?_cons_succ, List.getElem?_cons_zero]; rfl
    case hs => kernel_rfl
    case hf => kernel_rfl
    case hr => kernel_rfl
    case hQ => exact fun _ _ _ h => h
    case hS => assumption
    case hy =>
      refine Or.inl ⟨by rfl, ?_⟩
      intro w hSw
      try dsimp only at hSw
      go_simp
      try with_reducible rfl
    simp only [Act.put, List.setIfInBounds_toArray, List.set_cons_zero, List.set_cons_succ]
    apply wpAnyH_take (i := 4)
    case hi => simp only [List.getElem?_toArray, List.getElem?_cons_succ, List.getElem?_cons_zero]; rfl
    case hs => kernel_rfl
    case hf => kernel_rfl
    case hr => kernel_rfl
    case hQ => exact fun _ _ _ h => h
    case hS => assumption
    case hy => exact Or.inr ⟨by rfl, rfl⟩
    simp only [Act.put, List.setIfInBounds_toArray, List.set_cons_zero, List.set_cons_succ]
    apply wpAnyH_take (i := 5)
    case hi => simp only [List.getElem?_toArray, List.getElem?_cons_succ, List.getElem?_cons_zero]; rfl
    case hs => kernel_rfl
    case hf => kernel_rfl
    case hr => kernel_rfl
    case hQ => exact fun _ _ _ h => h
    case hS => assumption
    case hy => exact Or.inr ⟨by rfl, rfl⟩
    simp only [Act.put, List.setIfInBounds_toArray, List.set_cons_zero, List.set_cons_succ]
    apply wpAnyH_take (i := 6)
    case hi => simp only [List.getElem?_toArray, List.getElem?_cons_succ, List.getElem?_cons_zero]; rfl
    case hs => kernel_rfl
    case hf => kernel_rfl
    case hr => kernel_rfl
    case hQ => exact fun _ _ _ h => h
    case hS => assumption
    case hy => exact Or.inr ⟨by rfl, rfl⟩
    simp only [Act.put, List.setIfInBounds_toArray, List.set_cons_zero, List.set_cons_succ]
    apply wpAnyH_take (i := 7)
    case hi => simp only [List.getElem?_toArray, List.getElem?_cons_succ, List.getElem?_cons_zero]; rfl
    case hs => kernel_rfl
    case hf => kernel_rfl
    case hr => kernel_rfl
    case hQ => exact fun _ _ _ h => h
    case hS => assumption
    case hy =>
      refine Or.inl ⟨by rfl, ?_⟩
      intro w hSw
      try dsimp only at hSw
      go_simp
      try with_reducible rfl
    simp only [Act.put, List.setIfInBounds_toArray, List.set_cons_zero, List.set_cons_succ]
    apply wpAnyH_take (i := 8)
    case hi => simp only [List.getElem?_toArray, List.getElem?_cons_succ, List.getElem?_cons_zero]; rfl
    case hs => kernel_rfl
    case hf => kernel_rfl
    case hr => kernel_rfl
    case hQ => exact fun _ _ _ h => h
    case hS => assumption
    case hy =>
      refine Or.inl ⟨by rfl, ?_⟩
      intro w hSw
      try dsimp only at hSw
      go_simp
      try with_reducible rfl
    simp only [Act.put, List.setIfInBounds_toArray, List.set_cons_zero, List.set_cons_succ]
    apply wpAnyH_take (i := 9)
    case hi => simp only [List.getElem?_toArray, List.getElem?_cons_succ, List.getElem?_cons_zero]; rfl
    case hs => kernel_rfl
    case hf => kernel_rfl
    case hr => kernel_rfl
    case hQ => exact fun _ _ _ h => h
    case hS => assumption
    case hy => exact Or.inr ⟨by rfl, rfl⟩
    simp only [Act.put, List.setIfInBounds_toArray, List.set_cons_zero, List.set_cons_succ]
    apply wpAnyH_take (i := 10)
    case hi => simp only [List.getElem?_toArray, List.getElem?_cons_succ, List.getElem?_cons_zero]; rfl
    case hs => kernel_rfl
    case hf => kernel_rfl
    case hr => kernel_rfl
    case hQ => exact fun _ _ _ h => h
    case hS => assumption
    case hy => exact Or.inr ⟨by rfl, rfl⟩
    simp only [Act.put, List.setIfInBounds_toArray, List.set_cons_zero, List.set_cons_succ]
    apply wpAnyH_take (i := 11)
    case hi => simp only [List.getElem?_toArray, List.getElem?_cons_succ, List.getElem?_cons_zero]; rfl
    case hs => kernel_rfl
    case hf => kernel_rfl
    case hr => kernel_rfl
    case hQ => exact fun _ _ _ h => h
    case hS => assumption
    case hy => exact Or.inr ⟨by rfl, rfl⟩
    simp only [Act.put, List.setIfInBounds_toArray, List.set_cons_zero, List.set_cons_succ]
    apply wpAnyH_take (i := 12)
    case hi => simp only [List.getElem?_toArray, List.getElem?_cons_succ, List.getElem?_cons_zero]; rfl
    case hs => kernel_rfl
    case hf => kernel_rfl
    case hr => kernel_rfl
    case hQ => exact fun _ _ _ h => h
    case hS => assumption
    case hy => exact Or.inr ⟨by rfl, rfl⟩
    simp only [Act.put, List.setIfInBounds_toArray, List.set_cons_zero, List.set_cons_succ]
    apply wpAnyH_take (i := 13)
    case hi => simp only [List.getElem?_toArray, List.getElem?_cons_succ, List.getElem?_cons_zero]; rfl
    case hs => kernel_rfl
    case hf => kernel_rfl
    case hr => kernel_rfl
    case hQ => exact fun _ _ _ h => h
    case hS => assumption
    case hy => exact Or.inr ⟨by rfl, rfl⟩
    simp only [Act.put, List.setIfInBounds_toArray, List.set_cons_zero, List.set_cons_succ]
    apply wpAnyH_take (i := 14)
    case hi => simp only [List.getElem?_toArray, List.getElem?_cons_succ, List.getElem?_cons_zero]; rfl
    case hs => kernel_rfl
    case hf => kernel_rfl
    case hr => kernel_rfl
    case hQ => exact fun _ _ _ h => h
    case hS => assumption
    case hy =>
      refine Or.inl ⟨by rfl, ?_⟩
      intro w hSw
      try dsimp only at hSw
      go_simp
      try with_reducible rfl
    simp only [Act.put, List.setIfInBounds_toArray, List.set_cons_zero, List.set_cons_succ]
    apply wpAnyH_take (i := 15)
    case hi => simp only [List.getElem?_toArray, List.getElem?_cons_succ, List.getElem?_cons_zero]; rfl
    case hs => kernel_rfl
    case hf => kernel_rfl
    case hr => kernel_rfl
    case hQ => exact fun _ _ _ h => h
    case hS => assumption
    case hy =>
      refine Or.inl ⟨by rfl, ?_⟩
      intro w hSw
      try dsimp only at hSw
      go_simp
      try with_reducible rfl
    simp only [Act.put, List.setIfInBounds_toArray, List.set_cons_zero, List.set_cons_succ]
    refine wpAnyH_done (by kernel_rfl) ?_ _
    clear m0 m1 m2 m3 m4
    go_wp2_with fail
    go_ret
    exact ⟨rfl, hbel.trans (hBd.mono hbel.size)⟩
  | true =>
    cases r2 with
    | false =>
      obtain rfl : r = false := Hr.out.symm
      clear Hr
      refine wp_region_held_drew (S := (fun w2 => Below W.heap.size W w2)) (by kernel_rfl) hbb.drew (fun hHeld => ?_)
      apply wpAnyH_take (i := 0)
      case hi => simp only [List.getElem?_toArray, List.getElem?_cons_zero]; rfl
      case hs => kernel_rfl
      case hf => kernel_rfl
      case hr => kernel_rfl
      case hQ => exact fun _ _ _ h => h
      case hS => assumption
      case hy =>
        refine Or.inl ⟨by rfl, ?_⟩
        intro w hSw
        try dsimp only at hSw
        have m0 := m0 w hSw
        have m1 := m1 w hSw
        have m2 := m2 w hSw
        have m3 := m3 w hSw
        have m4 := m4 w hSw
        go_simp
        try with_reducible rfl
      simp only [Act.put, List.setIfInBounds_toArray, List.set_cons_zero, List.set_cons_succ]
      refine wpAnyH_ready (rs := [1]) (by kernel_rfl) (by simp) ?_
      apply AllReadyH.cons
      case ho => simp only [List.getElem?_toArray, List.getElem?_cons_succ, List.getElem?_cons_zero]; rfl
      case hs => exact AllReadyH.nil
      intro K hK
      go_simp
      refine (HH.out _).mono ?_
      rintro e wd ⟨rfl, hbd⟩
      have hBd := Below.trans (show Below W.heap.size W _ by ((repeat (first | refine Below.drew ?_ | (with_reducible refine below_drewN _ ?_) | refine Below.alloc ?_ (by first | omega | (simp; done) | (simp; omega)) _ | refine Below.setCell ?_ (by first | omega | (simp; done) | (simp; omega)) _)); first | exact Below.refl _ _ | assumption | exact below_drewN _ (Below.refl _ _) | exact below_drewN _ (below_drewN _ (Below.refl _ _)))) (hbd.mono (Below.size (show Below W.heap.size W _ by ((repeat (first | refine Below.drew ?_ | (with_reducible refine below_drewN _ ?_) | refine Below.alloc ?_ (by first | omega | (simp; done) | (simp; omega)) _ | refine Below.setCell ?_ (by first | omega | (simp; done) | (simp; omega)) _)); first | exact Below.refl _ _ | assumption | exact below_drewN _ (Below.refl _ _) | exact below_drewN _ (below_drewN _ (Below.refl _ _))))))
      clear hbd
      go_wp2_with fail
      refine hK.out _ _ hBd (fun hHeld => ?_)
      clear hK K
      refine wpAnyH_ready (rs := [2]) (by kernel_rfl) (by simp) ?_
      apply AllReadyH.cons
      case ho => simp only [List.getElem?_toArray, List.getElem?_cons_succ, List.getElem?_cons_zero]; rfl
      case hs => exact AllReadyH.nil
      intro K hK
      go_simp
      refine (HC1.out _).mono ?_
      rintro e wd ⟨rfl, hbd⟩
      have hBd := Below.trans (show Below W.heap.size W _ by ((repeat (first | refine Below.drew ?_ | (with_reducible refine below_drewN _ ?_) | refine Below.alloc ?_ (by first | omega | (simp; done) | (simp; omega)) _ | refine Below.setCell ?_ (by first | omega | (simp; done) | (simp; omega)) _)); first | exact Below.refl _ _ | assumption | exact below_drewN _ (Below.refl _ _) | exact below_drewN _ (below_drewN _ (Below.refl _ _)))) (hbd.mono (Below.size (show Below W.heap.size W _ by ((repeat (first | refine Below.drew ?_ | (with_reducible refine below_drewN _ ?_) | refine Below.alloc ?_ (by first | omega | (simp; done) | (simp; omega)) _ | refine Below.setCell ?_ (by first | omega | (simp; done) | (simp; omega)) _)); first | exact Below.refl _ _ | assumption | exact below_drewN _ (Below.refl _ _) | exact below_drewN _ (below_drewN _ (Below.refl _ _))))))
      clear hbd
      go_wp2_with fail
      refine hK.out _ _ hBd (fun hHeld => ?_)
      clear hK K
      apply wpAnyH_take (i := 3)
      case hi => simp only [List.getElem?_toArray, List.getElem?_cons_succ, List.getElem?_cons_zero]; rfl
      case hs => kernel_rfl
      case hf => kernel_rfl
      case hr => kernel_rfl
      case hQ => exact fun _ _ _ h => h
      case hS => assumption
      case hy =>
        refine Or.inl ⟨by rfl, ?_⟩
        intro w hSw
        try dsimp only at hSw
        go_simp
        try with_reducible rfl
      simp only [Act.put, List.setIfInBounds_toArray, List.set_cons_zero, List.set_cons_succ]
      apply wpAnyH_take (i := 4)
      case hi => simp only [List.getElem?_toArray, List.getElem?_cons_succ, List.getElem?_cons_zero]; rfl
      case hs => kernel_rfl
      case hf => kernel_rfl
      case hr => kernel_rfl
      case hQ => exact fun _ _ _ h => h
      case hS => assumption
      case hy =>
        refine Or.inl ⟨by rfl, ?_⟩
        intro w hSw
        try dsimp only at hSw
        have m0 := m0 w hSw
        have m1 := m1 w hSw
        have m2 := m2 w hSw
        have m3 := m3 w hSw
        have m4 := m4 w hSw
        go_simp
        try with_reducible rfl
      simp only [Act.put, List.setIfInBounds_toArray, List.set_cons_zero, List.set_cons_succ]
      refine wpAnyH_ready (rs := [5]) (by kernel_rfl) (by simp) ?_
      apply AllReadyH.cons
      case ho => simp only [List.getElem?_toArray, List.getElem?_cons_succ, List.getElem?_cons_zero]; rfl
      case hs => exact AllReadyH.nil
      intro K hK
      go_simp
      refine (HS.out _).mono ?_
      rintro e wd ⟨rfl, hbd⟩
      have hBd := Below.trans (show Below W.heap.size W _ by ((repeat (first | refine Below.drew ?_ | (with_reducible refine below_drewN _ ?_) | refine Below.alloc ?_ (by first | omega | (simp; done) | (simp; omega)) _ | refine Below.setCell ?_ (by first | omega | (simp; done) | (simp; omega)) _)); first | exact Below.refl _ _ | assumption | exact below_drewN _ (Below.refl _ _) | exact below_drewN _ (below_drewN _ (Below.refl _ _)))) (hbd.mono (Below.size (show Below W.heap.size W _ by ((repeat (first | refine Below.drew ?_ | (with_reducible refine below_drewN _ ?_) | refine Below.alloc ?_ (by first | omega | (simp; done) | (simp; omega)) _ | refine Below.setCell ?_ (by first | omega | (simp; done) | (simp; omega)) _)); first | exact Below.refl _ _ | assumption | exact below_drewN _ (Below.refl _ _) | exact below_drewN _ (below_drewN _ (Below.refl _ _))))))
      clear hbd
      go_wp2_with fail
      refine hK.out _ _ hBd (fun hHeld => ?_)
      clear hK K
      refine wpAnyH_ready (rs := [6]) (by kernel_rfl) (by simp) ?_
      apply AllReadyH.cons
      case ho => simp only [List.getElem?_toArray, List.getElem?_cons_succ, List.getElem?_cons_zero]; rfl
      case hs => exact AllReadyH.nil
      intro K hK
      go_simp
      refine (HC2.out _).mono ?_
      rintro e wd ⟨rfl, hbd⟩
      have hBd := Below.trans (show Below W.heap.size W _ by ((repeat (first | refine Below.drew ?_ | (with_reducible refine below_drewN _ ?_) | refine Below.alloc ?_ (by first | omega | (simp; done) | (simp; omega)) _ | refine Below.setCell ?_ (by first | omega | (simp; done) | (simp; omega)) _)); first | exact Below.refl _ _ | assumption | exact below_drewN _ (Below.refl _ _) | exact below_drewN _ (below_drewN _ (Below.refl _ _)))) (hbd.mono (Below.size (show Below W.heap.size W _ by ((repeat (first | refine Below.drew ?_ | (with_reducible refine below_drewN _ ?_) | refine Below.alloc ?_ (by first | omega | (simp; done) | (simp; omega)) _ | refine Below.setCell ?_ (by first | omega | (simp; done) | (simp; omega)) _)); first | exact Below.refl _ _ | assumption | exact below_drewN _ (Below.refl _ _) | exact below_drewN _ (below_drewN _ (Below.refl _ _))))))
      clear hbd
      go_wp2_with fail
      refine hK.out _ _ hBd (fun hHeld => ?_)
      clear hK K
      apply wpAnyH_take (i := 7)
      case hi => simp only [List.getElem?_toArray, List.getElem?_cons_succ, List.getElem?_cons_zero]; rfl
      case hs => kernel_rfl
      case hf => kernel_rfl
      case hr => kernel_rfl
      case hQ => exact fun _ _ _ h => h
      case hS => assumption
      case hy =>
        refine Or.inl ⟨by rfl, ?_⟩
        intro w hSw
        try dsimp only at hSw
        go_simp
        try with_reducible rfl
      simp only [Act.put, List.setIfInBounds_toArray, List.set_cons_zero, List.set_cons_succ]
      apply wpAnyH_take (i := 8)
      case hi => simp only [List.getElem?_toArray, List.getElem?_cons_succ, List.getElem?_cons_zero]; rfl
      case hs => kernel_rfl
      case hf => kernel_rfl
      case hr => kernel_rfl
      case hQ => exact fun _ _ _ h => h
      case hS => assumption
      case hy =>
        refine Or.inl ⟨by rfl, ?_⟩
        intro w hSw
        try dsimp only at hSw
        go_simp
        try with_reducible rfl
      simp only [Act.put, List.setIfInBounds_toArray, List.set_cons_zero, List.set_cons_succ]
      apply wpAnyH_take (i := 9)
      case hi => simp only [List.getElem?_toArray, List.getElem?_cons_succ, List.getElem?_cons_zero]; rfl
      case hs => kernel_rfl
      case hf => kernel_rfl
      case hr => kernel_rfl
      case hQ => exact fun _ _ _ h => h
      case hS => assumption
      case hy => exact Or.inr ⟨by rfl, rfl⟩
      simp only [Act.put, List.setIfInBounds_toArray, List.set_cons_zero, List.set_cons_succ]
      apply wpAnyH_take (i := 10)
      case hi => simp only [List.getElem?_toArray, List.getElem?_cons_succ, List.getElem?_cons_zero]; rfl
      case hs => kernel_rfl
      case hf => kernel_rfl
      case hr => kernel_rfl
      case hQ => exact fun _ _ _ h => h
      case hS => assumption
      case hy => exact Or.inr ⟨by rfl, rfl⟩
      simp only [Act.put, List.setIfInBounds_toArray, List.set_cons_zero, List.set_cons_succ]
      apply wpAnyH_take (i := 11)
      case hi => simp only [List.getElem?_toArray, List.getElem?_cons_succ, List.getElem?_cons_zero]; rfl
      case hs => kernel_rfl
      case hf => kernel_rfl
      case hr => kernel_rfl
      case hQ => exact fun _ _ _ h => h
      case hS => assumption
      case hy => exact Or.inr ⟨by rfl, rfl⟩
      simp only [Act.put, List.setIfInBounds_toArray, List.set_cons_zero, List.set_cons_succ]
      apply wpAnyH_take (i := 12)
      case hi => simp only [List.getElem?_toArray, List.getElem?_cons_succ, List.getElem?_cons_zero]; rfl
      case hs => kernel_rfl
      case hf => kernel_rfl
      case hr => kernel_rfl
      case hQ => exact fun _ _ _ h => h
      case hS => assumption
      case hy => exact Or.inr ⟨by rfl, rfl⟩
      simp only [Act.put, List.setIfInBounds_toArray, List.set_cons_zero, List.set_cons_succ]
      apply wpAnyH_take (i := 13)
      case hi => simp only [List.getElem?_toArray, List.getElem?_cons_succ, List.getElem?_cons_zero]; rfl
      case hs => kernel_rfl
      case hf => kernel_rfl
      case hr => kernel_rfl
      case hQ => exact fun _ _ _ h => h
      case hS => assumption
      case hy => exact Or.inr ⟨by rfl, rfl⟩
      simp only [Act.put, List.setIfInBounds_toArray, List.set_cons_zero, List.set_cons_succ]
      apply wpAnyH_take (i := 14)
      case hi => simp only [List.getElem?_toArray, List.getElem?_cons_succ, List.getElem?_cons_zero]; rfl
      case hs => kernel_rfl
      case hf => kernel_rfl
      case hr => kernel_rfl
      case hQ => exact fun _ _ _ h => h
      case hS => assumption
      case hy =>
        refine Or.inl ⟨by rfl, ?_⟩
        intro w hSw
        try dsimp only at hSw
        go_simp
        try with_reducible rfl
      simp only [Act.put, List.setIfInBounds_toArray, List.set_cons_zero, List.set_cons_succ]
      apply wpAnyH_take (i := 15)
      case hi => simp only [List.getElem?_toArray, List.getElem?_cons_succ, List.getElem?_cons_zero]; rfl
      case hs => kernel_rfl
      case hf => kernel_rfl
      case hr => kernel_rfl
      case hQ => exact fun _ _ _ h => h
      case hS => assumption
      case hy =>
        refine Or.inl ⟨by rfl, ?_⟩
        intro w hSw
        try dsimp only at hSw
        go_simp
        try with_reducible rfl
      simp only [Act.put, List.setIfInBounds_toArray, List.set_cons_zero, List.set_cons_succ]
      refine wpAnyH_done (by kernel_rfl) ?_ _
      clear m0 m1 m2 m3 m4
      go_wp2_with fail
      go_ret
      exact ⟨rfl, hbel.trans (hBd.mono hbel.size)⟩
    | true =>
      have hne : ∀ w2 : World, (binOp .neq 64 (.agg #[.bool h, .int .u64 (o : Int)]) (.agg #[.bool s, .int .u64 (v : Int)])).run Try.prog w2 = .ok (.bool r) w2 := fun w2 => by rw [thing_neq, ← Hr.out]; rfl
      clear Hr
      go_region_held3 (fun w2 => Below W.heap.size W w2) (((repeat (first | refine Below.drew ?_ | (with_reducible refine below_drewN _ ?_) | refine Below.alloc ?_ (by first | omega | (simp; done) | (simp; omega)) _ | refine Below.setCell ?_ (by first | omega | (simp; done) | (simp; omega)) _)); first | exact Below.refl _ _ | assumption | exact below_drewN _ (Below.refl _ _) | exact below_drewN _ (below_drewN _ (Below.refl _ _))))
        ((first
          | (go_at_call 32; (with_reducible refine (HH.out _).mono ?_); rintro e wd ⟨rfl, hbd⟩; have hBd := Below.trans (show Below W.heap.size W _ by ((repeat (first | refine Below.drew ?_ | (with_reducible refine below_drewN _ ?_) | refine Below.alloc ?_ (by first | omega | (simp; done) | (simp; omega)) _ | refine Below.setCell ?_ (by first | omega | (simp; done) | (simp; omega)) _)); first | exact Below.refl _ _ | assumption | exact below_drewN _ (Below.refl _ _) | exact below_drewN _ (below_drewN _ (Below.refl _ _)))) (hbd.mono (Below.size (show Below W.heap.size W _ by ((repeat (first | refine Below.drew ?_ | (with_reducible refine below_drewN _ ?_) | refine Below.alloc ?_ (by first | omega | (simp; done) | (simp; omega)) _ | refine Below.setCell ?_ (by first | omega | (simp; done) | (simp; omega)) _)); first | exact Below.refl _ _ | assumption | exact below_drewN _ (Below.refl _ _) | exact below_drewN _ (below_drewN _ (Below.refl _ _)))))); clear hbd)
          | (go_at_call 35; (with_reducible refine (HS.out _).mono ?_); rintro e wd ⟨rfl, hbd⟩; have hBd := Below.trans (show Below W.heap.size W _ by ((repeat (first | refine Below.drew ?_ | (with_reducible refine below_drewN _ ?_) | refine Below.alloc ?_ (by first | omega | (simp; done) | (simp; omega)) _ | refine Below.setCell ?_ (by first | omega | (simp; done) | (simp; omega)) _)); first | exact Below.refl _ _ | assumption | exact below_drewN _ (Below.refl _ _) | exact below_drewN _ (below_drewN _ (Below.refl _ _)))) (hbd.mono (Below.size (show Below W.heap.size W _ by ((repeat (first | refine Below.drew ?_ | (with_reducible refine below_drewN _ ?_) | refine Below.alloc ?_ (by first | omega | (simp; done) | (simp; omega)) _ | refine Below.setCell ?_ (by first | omega | (simp; done) | (simp; omega)) _)); first | exact Below.refl _ _ | assumption | exact below_drewN _ (Below.refl _ _) | exact below_drewN _ (below_drewN _ (Below.refl _ _)))))); clear hbd)
          | (go_at_call 36; (with_reducible refine (HC1.out _).mono ?_); rintro e wd ⟨rfl, hbd⟩; have hBd := Below.trans (show Below W.heap.size W _ by ((repeat (first | refine Below.drew ?_ | (with_reducible refine below_drewN _ ?_) | refine Below.alloc ?_ (by first | omega | (simp; done) | (simp; omega)) _ | refine Below.setCell ?_ (by first | omega | (simp; done) | (simp; omega)) _)); first | exact Below.refl _ _ | assumption | exact below_drewN _ (Below.refl _ _) | exact below_drewN _ (below_drewN _ (Below.refl _ _)))) (hbd.mono (Below.size (show Below W.heap.size W _ by ((repeat (first | refine Below.drew ?_ | (with_reducible refine below_drewN _ ?_) | refine Below.alloc ?_ (by first | omega | (simp; done) | (simp; omega)) _ | refine Below.setCell ?_ (by first | omega | (simp; done) | (simp; omega)) _)); first | exact Below.refl _ _ | assumption | exact below_drewN _ (Below.refl _ _) | exact below_drewN _ (below_drewN _ (Below.refl _ _)))))); clear hbd HC1)
          | (go_at_call 36; (with_reducible refine (HC2.out _).mono ?_); rintro e wd ⟨rfl, hbd⟩; have hBd := Below.trans (show Below W.heap.size W _ by ((repeat (first | refine Below.drew ?_ | (with_reducible refine below_drewN _ ?_) | refine Below.alloc ?_ (by first | omega | (simp; done) | (simp; omega)) _ | refine Below.setCell ?_ (by first | omega | (simp; done) | (simp; omega)) _)); first | exact Below.refl _ _ | assumption | exact below_drewN _ (Below.refl _ _) | exact below_drewN _ (below_drewN _ (Below.refl _ _)))) (hbd.mono (Below.size (show Below W.heap.size W _ by ((repeat (first | refine Below.drew ?_ | (with_reducible refine below_drewN _ ?_) | refine Below.alloc ?_ (by first | omega | (simp; done) | (simp; omega)) _ | refine Below.setCell ?_ (by first | omega | (simp; done) | (simp; omega)) _)); first | exact Below.refl _ _ | assumption | exact below_drewN _ (Below.refl _ _) | exact below_drewN _ (below_drewN _ (Below.refl _ _)))))); clear hbd HC2)))
      go_wp2_with fail
      go_ret
      exact ⟨rfl, hbel.trans (hBd.mono hbel.size)⟩
end Go.Proofs.Ytpgkfccfabnjdaa

/-
  CONTRACTS of package edit, third part: isAhead, Right.
-/
namespace Go.Proofs.Ytpgkfccfabnjdaa
open Go.ChangeShapes Go.WideShapes Go.ChangeAt Go.RowKit
open Tr (T S4 Ent Chg Raw)

theorem ed_isAhead {w : World} {k : Nat} {us vs : List Nat} {A A' : Option Addr} {c c' B B' m m' : Nat} (hp : Pts w B A us) (hB : B ≤ w.heap.size) (hq : Pts w B' A' vs) (hB' : B' ≤ w.heap.size) (hu : us.length = k) (hv : vs.length = k) (k1 : 1 ≤ k) (k16 : k ≤ 16) (hm : us.length = m) (hm' : vs.length = m') {r : Bool} (hr : decide (Z.cmp us vs < 0) = r) :
    Calls Try.prog 29 #[.slice A m c, .slice A' m' c'] w fun e w' => e = .returned (.bool r) ∧ w = w' := by
  have HC := Lib.hid (cmp_yes A A' c c' us vs w.heap.size w (hp.keep hB (fun _ _ => rfl)) (hq.keep hB' (fun _ _ => rfl)) (by omega) (by omega) (by omega))
  rw [hm, hm'] at HC
  obtain ⟨q, hq⟩ : ∃ q, Z.cmp us vs = q := ⟨_, rfl⟩
  rw [hq] at HC hr
  clear hp hB hq hB' hu hv k1 k16 hm hm'
  go_enter Try.func29, Try.ntmps29
  go_wp2_with (go_at_call 44; refine HC.out.mono ?_; rintro e w' ⟨rfl, rfl⟩)
  go_ret
  exact ⟨rfl, rfl⟩
set_option maxRecDepth 100000 in
theorem ed_right_arg {w : World} (k : Int) (A : Option Addr) (n c : Nat) (hk : ¬ (1 ≤ k ∧ k ≤ 16)) : Calls Try.prog 13 #[.int .i64 k, .slice A n c] w fun e w' => e = .returned (.bool false) ∧ w = w' := by
  by_cases h1 : k < 1
  · have d1 : decide (k < 1) = true := decide_eq_true h1
    clear hk h1
    go_enter Try.func13, Try.ntmps13
    go_wp2_with fail
    go_ret
    exact ⟨rfl, rfl⟩
  · have d1 : decide (k < 1) = false := decide_eq_false h1
    have d2 : decide (16 < k) = true := decide_eq_true (by omega)
    clear hk h1
    go_enter Try.func13, Try.ntmps13
    go_wp2_with fail
    go_ret
    exact ⟨rfl, rfl⟩
set_option maxRecDepth 1000000 in
set_option maxHeartbeats 8000000 in
theorem ed_right_nat {w : World} {B : Nat} (k : Nat) (h1 : 1 ≤ k) (h16 : k ≤ 16) {A : Option Addr} {c n : Nat} {L : List Raw} (h : RwL w B A L) (hB : B ≤ w.heap.size) (hn : L.length = n) (hl : n ≤ 1000000000) {r : Bool} (hr : r = true ↔ Tr.RightP (k : Int) L) :
    Calls Try.prog 13 #[.int .i64 (k : Int), .slice A n c] w fun e w' => e = .returned (.bool r) ∧ Below w.heap.size w w' := by
  have HX := Lib.hid (And.intro h (And.intro hB (And.intro hn (And.intro hr (And.intro h1 h16)))))
  have d1 : decide ((k : Int) < 1) = false := decide_eq_false (by omega)
  have d2 : decide ((16 : Int) < (k : Int)) = false := decide_eq_false (by omega)
  have d2' : decide (16 < k) = false := decide_eq_false (by omega)
  have hn9 : (n : Int) ≤ 1000000000 := by omega
  clear h hB hn hr hl h1 h16
  go_enter Try.func13, Try.ntmps13
  go_wp2_with fail
  go_loopw [15] (fun v wr => ∃ (j : Nat), v = .int .i64 (j : Int) ∧ j ≤ n ∧ (∀ i, i < j → Tr.RightAt (k : Int) L i) ∧ Below w.heap.size w wr) (fun v _ => n - (intOf v).toNat)
  case atStart => exact ⟨0, rfl, Nat.zero_le _, fun i hi => by omega, Below.refl _ _⟩
  case round =>
    obtain ⟨j, rfl, hj, hat, hbr⟩ := hrel
    by_cases hlt : j < n
    · obtain ⟨y, hy⟩ := get_lt (us := L) (k := j) (by rw [HX.out.2.2.1]; exact hlt)
      obtain ⟨b, off, P, pc, hA, hb, e0, e1, e2, e3, e4, pp, pl, q1, q2⟩ := (HX.out.1.below hbr HX.out.2.1 (Nat.le_refl _)).at hy
      obtain ⟨m, hm⟩ : ∃ m, y.1.length = m := ⟨_, rfl⟩
      rw [hm] at e0
      obtain ⟨rc, hrc⟩ : ∃ rc, Tr.isC y = rc := ⟨_, rfl⟩
      have HC := Lib.hid fun w1 : World => ed_isChange P m pc y rc hrc w1
      obtain ⟨s1, hs1⟩ : ∃ s, y.2.1.1 = s := ⟨_, rfl⟩
      obtain ⟨s2, hs2⟩ : ∃ s, y.2.2.1 = s := ⟨_, rfl⟩
      obtain ⟨v1, hv1⟩ : ∃ v, y.2.1.2 = v := ⟨_, rfl⟩
      obtain ⟨v2, hv2⟩ : ∃ v, y.2.2.2 = v := ⟨_, rfl⟩
      rw [hs1, hs2, hv1, hv2] at HC
      rw [hs1] at e1
      rw [hs2] at e2
      rw [hv1] at e3
      rw [hv2] at e4
      have f1 : decide ((j : Int) < (n : Int)) = true := decide_eq_true (by omega)
      have f1' : decide (j < n) = true := decide_eq_true hlt
      have m1 : (0 : Int) ≤ (j : Int) := by omega
      have m2 : (j : Int) < (n : Int) := by omega
      have m3 : (j : Int) ≤ 1000000000 := by omega
      have HY := Lib.hid (And.intro hy (And.intro hat (And.intro hbr (And.intro hm (And.intro hrc (And.intro pp hlt))))))
      subst hA
      clear hy hat hbr hm hrc pp hlt hs1 hs2 hv1 hv2 q1 q2 hj pl
      have hrf : ¬ Tr.RightAt (k : Int) L j → r = false := fun hn => by
        have h1 := HY.out.2.2.2.2.2.2
        have h2 := HX.out.2.2.1
        cases r with
        | false => rfl
        | true => exact absurd ((HX.out.2.2.2.1.1 rfl).2 j (by omega)) hn
      have Hrf := Lib.hid hrf
      clear hrf
      by_cases hmk : m = k
      · subst hmk
        cases rc with
        | false =>
          go_wp2_with (go_at_call 18; refine (HC.out _).mono ?_; rintro e w2 ⟨rfl, hb2⟩; have H2 := Lib.hid hb2; clear hb2)
          go_ret
          have hrr := Hrf.out fun hn => by have := (hn y HY.out.1).2.1; rw [HY.out.2.2.2.2.1] at this; cases this
          subst hrr
          exact ⟨rfl, HY.out.2.2.1.trans ((Below.andThen (below_alloc wr _) H2.out).mono HY.out.2.2.1.size)⟩
        | true =>
          rcases Nat.eq_zero_or_pos j with hj0 | hj0
          · have g2 : decide ((0 : Int) < (j : Int)) = false := decide_eq_false (by omega)
            have g2' : decide (0 < j) = false := decide_eq_false (by omega)
            have H0 := Lib.hid hj0
            clear hj0
            go_wp2_with (go_at_call 18; refine (HC.out _).mono ?_; rintro e w2 ⟨rfl, hb2⟩; have H2 := Lib.hid hb2; clear hb2)
            go_quiet (fail)
            go_wp2_with fail
            go_roundw
            case rel =>
              refine ⟨j + 1, by first | rfl | go_num, by have := HY.out.2.2.2.2.2.2; omega, fun i hi => ?_, HY.out.2.2.1.trans ((Below.andThen (below_alloc wr _) H2.out).mono HY.out.2.2.1.size |>.trans (below_drewN _ (Below.refl _ _)))⟩
              rcases Nat.lt_or_ge i j with h | h
              · exact HY.out.2.1 i h
              · obtain rfl : i = j := by omega
                intro c hc
                obtain rfl : y = c := Option.some.inj (HY.out.1.symm.trans hc)
                exact ⟨by rw [HY.out.2.2.2.1], HY.out.2.2.2.2.1, fun d h0 _ => by have := H0.out; omega⟩
            case measure =>
              have := HY.out.2.2.2.2.2.2
              show n - ((j : Int) + 1).toNat < n - (j : Int).toNat
              omega
          · obtain ⟨jp, hjp⟩ : ∃ jp : Nat, j = jp + 1 := ⟨j - 1, by omega⟩
            have hjq : (j : Int) - 1 = (jp : Int) := by omega
            have g2 : decide ((0 : Int) < (j : Int)) = true := decide_eq_true (by omega)
            have g2' : decide (0 < j) = true := decide_eq_true (by omega)
            have l1 : (0 : Int) ≤ (jp : Int) := by omega
            have l2 : (jp : Int) < (n : Int) := by omega
            have l3 : (jp : Int) ≤ 1000000000 := by omega
            obtain ⟨x, hx⟩ := get_lt (us := L) (k := jp) (by rw [HX.out.2.2.1]; omega)
            obtain ⟨b', off', P', pc', hA', hb', z0, -, -, -, -, pp', -, -, -⟩ := (HX.out.1.below HY.out.2.2.1 HX.out.2.1 (Nat.le_refl _)).at hx
            cases hA'
            have hxl : x.1.length = m := by have := (HY.out.2.1 jp (by omega) x hx).1; omega
            rw [hxl] at z0
            obtain ⟨r2, hr2⟩ : ∃ r2, decide (Z.cmp x.1 y.1 < 0) = r2 := ⟨_, rfl⟩
            have HP := Lib.hid (And.intro hx (And.intro pp' (And.intro hxl (And.intro hr2 hjp))))
            clear hx pp' hxl hr2 hjp hj0
            have hbw : b < wr.heap.size := Nat.lt_of_lt_of_le hb (Nat.le_trans HX.out.2.1 HY.out.2.2.1.size)
            go_wp2_with (go_at_call 18; refine (HC.out _).mono ?_; rintro e w2 ⟨rfl, hb2⟩; have k0 : w2.cell? ⟨wr.heap.size, 0, none⟩ = some (.slice P m pc) := (hb2.cell (p := ⟨wr.heap.size, 0, none⟩) (by simp)).trans (by rw [cell_of_row _ _ _ _ _ (0, 0) (heap_at wr _ _ rfl)]; rfl); have k1 : w2.cell? ⟨b, off + jp * 5, none⟩ = some (.slice P' m pc') := ((Below.andThen (below_alloc wr _) hb2).cell (p := ⟨b, off + jp * 5, none⟩) hbw).trans z0; have H2 := Lib.hid (Below.andThen (below_alloc wr _) hb2); clear hb2)
            have HQ : Hid (∀ i, Calls Try.prog 29 #[.slice P' m pc', .slice P m pc] (w2.drewN i) fun e w' => e = .returned (.bool r2) ∧ w2.drewN i = w') := Lib.hid fun i => by
              have hbi : Below wr.heap.size wr (w2.drewN i) := H2.out.trans (below_drewN i (Below.refl _ _))
              have hBi : B ≤ (w2.drewN i).heap.size := Nat.le_trans HX.out.2.1 (Nat.le_trans HY.out.2.2.1.size hbi.size)
              have hBr : B ≤ wr.heap.size := Nat.le_trans HX.out.2.1 HY.out.2.2.1.size
              exact ed_isAhead (HP.out.2.1.below' hbi hBr) hBi (HY.out.2.2.2.2.2.1.below' hbi hBr) hBi HP.out.2.2.1 HY.out.2.2.2.1 HX.out.2.2.2.2.1 HX.out.2.2.2.2.2 HP.out.2.2.1 HY.out.2.2.2.1 HP.out.2.2.2.1
            clear HC e0 e1 e2 e3 e4 z0 hbw
            cases r2 with
            | true =>
              go_quiet ((go_at_call 29; exact Calls.quiet_of_same ((HQ.out _).mono fun e w' h => ⟨h.1, h.2.symm⟩)))
              go_wp2_with fail
              go_roundw
              case rel =>
                refine ⟨j + 1, by first | rfl | go_num, by have := HY.out.2.2.2.2.2.2; omega, fun i hi => ?_, HY.out.2.2.1.trans ((H2.out.trans (below_drewN _ (Below.refl _ _))).mono HY.out.2.2.1.size)⟩
                rcases Nat.lt_or_ge i j with h | h
                · exact HY.out.2.1 i h
                · obtain rfl : i = j := by omega
                  intro c hc
                  obtain rfl : y = c := Option.some.inj (HY.out.1.symm.trans hc)
                  refine ⟨by rw [HY.out.2.2.2.1], HY.out.2.2.2.2.1, fun d h0 hd => ?_⟩
                  have hjp := HP.out.2.2.2.2
                  rw [show i - 1 = jp by omega] at hd
                  obtain rfl : x = d := Option.some.inj (HP.out.1.symm.trans hd)
                  exact of_decide_eq_true HP.out.2.2.2.1
              case measure =>
                have := HY.out.2.2.2.2.2.2
                show n - ((j : Int) + 1).toNat < n - (j : Int).toNat
                omega
            | false =>
              go_quiet ((go_at_call 29; exact Calls.quiet_of_same ((HQ.out _).mono fun e w' h => ⟨h.1, h.2.symm⟩)))
              go_wp2_with fail
              go_ret
              have hrr := Hrf.out fun hn => by have hjp := HP.out.2.2.2.2; have := (hn y HY.out.1).2.2 x (by omega) (by rw [show j - 1 = jp by omega]; exact HP.out.1); exact absurd this (of_decide_eq_false HP.out.2.2.2.1)
              subst hrr
              exact ⟨rfl, HY.out.2.2.1.trans ((H2.out.trans (below_drewN _ (Below.refl _ _))).mono HY.out.2.2.1.size)⟩
      · have g1 : ((m : Int) != (k : Int)) = true := by rw [bne_iff_ne]; omega
        have HMK := Lib.hid hmk
        clear hmk
        go_wp2_with fail
        go_ret
        have hrr := Hrf.out fun hn => HMK.out (by have := (hn y HY.out.1).1; rw [HY.out.2.2.2.1] at this; omega)
        subst hrr
        exact ⟨rfl, HY.out.2.2.1.trans ((below_alloc wr _).mono HY.out.2.2.1.size)⟩
    · have hjn : n = j := by omega
      subst hjn
      have f1 : decide ((n : Int) < (n : Int)) = false := decide_eq_false (by omega)
      have f1' : decide (n < n) = false := decide_eq_false (by omega)
      have HY := Lib.hid (And.intro hat hbr)
      clear hat hbr hlt hj
      go_wp2_with fail
      go_ret
      have hrr := HX.out.2.2.2.1.2 ⟨⟨by have := HX.out.2.2.2.2.1; omega, by have := HX.out.2.2.2.2.2; omega⟩, fun i hi => HY.out.1 i (by have := HX.out.2.2.1; omega)⟩
      subst hrr
      exact ⟨rfl, HY.out.2⟩
theorem ed_right {w : World} {B : Nat} (k : Int) {A : Option Addr} {c n : Nat} {L : List Raw} (h : RwL w B A L) (hB : B ≤ w.heap.size) (hn : L.length = n) (hl : n ≤ 1000000000) {r : Bool} (hr : r = true ↔ Tr.RightP k L) :
    Calls Try.prog 13 #[.int .i64 k, .slice A n c] w fun e w' => e = .returned (.bool r) ∧ Below w.heap.size w w' := by
  by_cases hk : 1 ≤ k ∧ k ≤ 16
  · obtain ⟨a, rfl⟩ : ∃ a : Nat, k = (a : Int) := ⟨k.toNat, by omega⟩
    exact ed_right_nat a (by omega) (by omega) h hB hn hl hr
  · have hrf : r = false := by
      cases r with
      | false => rfl
      | true => exact absurd (hr.1 rfl).1 hk
    subst hrf
    refine (ed_right_arg k A n c hk).mono ?_
    rintro e w' ⟨rfl, rfl⟩
    exact ⟨rfl, Below.refl _ _⟩
end Go.Proofs.Ytpgkfccfabnjdaa

/-
  CONTRACTS of package pantileref13, first part: Right, Heavy. Laid by wip/gen57.py.
-/
namespace Go.Proofs.Ytpgkfccfabnjdaa
open Go.ChangeShapes Go.WideShapes Go.ChangeAt Go.RowKit
open Tr (T S4 Ent Chg Raw)

def isCz : Bool → Bool → Bool → Bool → Bool → Bool
  | false, false, _, _, _ => false
  | false, true, z1, _, _ => !z1
  | true, false, _, z2, _ => !z2
  | true, true, _, _, z3 => !z3
theorem isC_zs {y : Raw} {rc s1 s2 z1 z2 z3 : Bool} {v1 v2 : Nat} (hrc : Tr.isC y = rc) (hs1 : y.2.1.1 = s1) (hs2 : y.2.2.1 = s2) (hv1 : y.2.1.2 = v1) (hv2 : y.2.2.2 = v2) (hz1 : ((v1 : Int) != 0) = z1) (hz2 : ((v2 : Int) != 0) = z2) (hz3 : ((v1 : Int) == (v2 : Int)) = z3) :
    rc = isCz s1 s2 z1 z2 z3 := by
  obtain ⟨p, ⟨h, o⟩, ⟨s, v⟩⟩ := y
  simp only at hs1 hs2 hv1 hv2
  subst hs1 hs2 hv1 hv2
  rw [isC_eq] at hrc
  have e1 : (o == 0) = !((o : Int) != 0) := by
    by_cases e : o = 0
    · subst e; rfl
    · rw [show (o == 0) = false from beq_eq_false_iff_ne.2 e, show ((o : Int) != 0) = true from by rw [bne_iff_ne]; omega]; rfl
  have e2 : (v == 0) = !((v : Int) != 0) := by
    by_cases e : v = 0
    · subst e; rfl
    · rw [show (v == 0) = false from beq_eq_false_iff_ne.2 e, show ((v : Int) != 0) = true from by rw [bne_iff_ne]; omega]; rfl
  rw [e1, e2, hz1, hz2, hz3] at hrc
  subst hrc
  cases h with
  | true => cases s <;> cases z1 <;> cases z2 <;> cases z3 <;> rfl
  | false =>
    cases s with
    | true => cases z1 <;> cases z2 <;> cases z3 <;> rfl
    | false =>
      cases z1 with
      | true => rfl
      | false =>
        cases z2 with
        | true => rfl
        | false =>
          have : z3 = true := by
            rw [bne_eq_false_iff_eq] at hz1 hz2
            rw [← hz3, hz1, hz2]; rfl
          rw [this]; rfl
set_option maxRecDepth 100000 in
theorem r13right_arg {w : World} (k : Int) (A : Option Addr) (n c : Nat) (hk : ¬ (1 ≤ k ∧ k ≤ 16)) : Calls Try.prog 9 #[.int .i64 k, .slice A n c] w fun e w' => e = .returned (.bool false) ∧ w = w' := by
  by_cases h1 : k < 1
  · have d1 : decide (k < 1) = true := decide_eq_true h1
    clear hk h1
    go_enter Try.func9, Try.ntmps9
    go_wp2_with fail
    go_ret
    exact ⟨rfl, rfl⟩
  · have d1 : decide (k < 1) = false := decide_eq_false h1
    have d2 : decide (16 < k) = true := decide_eq_true (by omega)
    clear hk h1
    go_enter Try.func9, Try.ntmps9
    go_wp2_with fail
    go_ret
    exact ⟨rfl, rfl⟩
set_option maxRecDepth 1000000 in
set_option maxHeartbeats 8000000 in
theorem r13right_nat {w : World} {B : Nat} (k : Nat) (h1 : 1 ≤ k) (h16 : k ≤ 16) {A : Option Addr} {c n : Nat} {L : List Raw} (h : RwL w B A L) (hB : B ≤ w.heap.size) (hn : L.length = n) (hl : n ≤ 1000000000) {r : Bool} (hr : r = true ↔ Tr.RightP (k : Int) L) :
    Calls Try.prog 9 #[.int .i64 (k : Int), .slice A n c] w fun e w' => e = .returned (.bool r) ∧ Below w.heap.size w w' := by
  have HX := Lib.hid (And.intro h (And.intro hB (And.intro hn (And.intro hr (And.intro h1 h16)))))
  have d1 : decide ((k : Int) < 1) = false := decide_eq_false (by omega)
  have d2 : decide ((16 : Int) < (k : Int)) = false := decide_eq_false (by omega)
  have d2' : decide (16 < k) = false := decide_eq_false (by omega)
  have hn9 : (n : Int) ≤ 1000000000 := by omega
  clear h hB hn hr hl h1 h16
  go_enter Try.func9, Try.ntmps9
  go_wp2_with fail
  go_loopw [5] (fun v wr => ∃ (j : Nat), v = .int .i64 (j : Int) ∧ j ≤ n ∧ (∀ i, i < j → Tr.RightAt (k : Int) L i) ∧ Below w.heap.size w wr) (fun v _ => n - (intOf v).toNat)
  case atStart => exact ⟨0, rfl, Nat.zero_le _, fun i hi => by omega, Below.refl _ _⟩
  case round =>
    obtain ⟨j, rfl, hj, hat, hbr⟩ := hrel
    by_cases hlt : j < n
    · obtain ⟨y, hy⟩ := get_lt (us := L) (k := j) (by rw [HX.out.2.2.1]; exact hlt)
      obtain ⟨b, off, P, pc, hA, hb, e0, e1, e2, e3, e4, pp, pl, q1, q2⟩ := (HX.out.1.below hbr HX.out.2.1 (Nat.le_refl _)).at hy
      obtain ⟨m, hm⟩ : ∃ m, y.1.length = m := ⟨_, rfl⟩
      rw [hm] at e0
      obtain ⟨rc, hrc⟩ : ∃ rc, Tr.isC y = rc := ⟨_, rfl⟩
      obtain ⟨s1, hs1⟩ : ∃ s, y.2.1.1 = s := ⟨_, rfl⟩
      obtain ⟨s2, hs2⟩ : ∃ s, y.2.2.1 = s := ⟨_, rfl⟩
      obtain ⟨v1, hv1⟩ : ∃ v, y.2.1.2 = v := ⟨_, rfl⟩
      obtain ⟨v2, hv2⟩ : ∃ v, y.2.2.2 = v := ⟨_, rfl⟩
      obtain ⟨z1, hz1⟩ : ∃ z, ((v1 : Int) != 0) = z := ⟨_, rfl⟩
      obtain ⟨z2, hz2⟩ : ∃ z, ((v2 : Int) != 0) = z := ⟨_, rfl⟩
      obtain ⟨z3, hz3⟩ : ∃ z, ((v1 : Int) == (v2 : Int)) = z := ⟨_, rfl⟩
      have hrz := isC_zs hrc hs1 hs2 hv1 hv2 hz1 hz2 hz3
      rw [hs1] at e1
      rw [hs2] at e2
      rw [hv1] at e3
      rw [hv2] at e4
      have f1 : decide ((j : Int) < (n : Int)) = true := decide_eq_true (by omega)
      have f1' : decide (j < n) = true := decide_eq_true hlt
      have m1 : (0 : Int) ≤ (j : Int) := by omega
      have m2 : (j : Int) < (n : Int) := by omega
      have m3 : (j : Int) ≤ 1000000000 := by omega
      have HY := Lib.hid (And.intro hy (And.intro hat (And.intro hbr (And.intro hm (And.intro hrc (And.intro pp hlt))))))
      subst hA
      have HRZ := Lib.hid hrz
      clear hy hat hbr hm hrc pp hlt hs1 hs2 hv1 hv2 q1 q2 hj pl hrz
      have hrf : ¬ Tr.RightAt (k : Int) L j → r = false := fun hn => by
        have h1 := HY.out.2.2.2.2.2.2
        have h2 := HX.out.2.2.1
        cases r with
        | false => rfl
        | true => exact absurd ((HX.out.2.2.2.1.1 rfl).2 j (by omega)) hn
      have Hrf := Lib.hid hrf
      clear hrf
      by_cases hmk : m = k
      · subst hmk
        obtain ⟨W1, hW1⟩ : ∃ W1, W1 = wr.alloc (.cells #[.slice P m pc, .bool s1, .bool s2, .int .u64 (v1 : Int), .int .u64 (v2 : Int)] 43) := ⟨_, rfl⟩
        have hrow : W1.heap[wr.heap.size]? = some (.cells #[.slice P m pc, .bool s1, .bool s2, .int .u64 (v1 : Int), .int .u64 (v2 : Int)] 43 (0, 0)) := by rw [hW1]; exact heap_at wr _ _ rfl
        have c0 : W1.cell? ⟨wr.heap.size, 0, none⟩ = some (.slice P m pc) := by rw [cell_of_row W1 _ _ _ _ (0, 0) hrow]; rfl
        have c1 : W1.cell? ⟨wr.heap.size, 1, none⟩ = some (.bool s1) := by rw [cell_of_row W1 _ _ _ _ (0, 0) hrow]; rfl
        have c2 : W1.cell? ⟨wr.heap.size, 2, none⟩ = some (.bool s2) := by rw [cell_of_row W1 _ _ _ _ (0, 0) hrow]; rfl
        have c3 : W1.cell? ⟨wr.heap.size, 3, none⟩ = some (.int .u64 (v1 : Int)) := by rw [cell_of_row W1 _ _ _ _ (0, 0) hrow]; rfl
        have c4 : W1.cell? ⟨wr.heap.size, 4, none⟩ = some (.int .u64 (v2 : Int)) := by rw [cell_of_row W1 _ _ _ _ (0, 0) hrow]; rfl
        have H2 := Lib.hid (show Below wr.heap.size wr W1 by rw [hW1]; exact below_alloc wr _)
        clear hrow
        go_upto_region 7 with fail
        rw [← hW1]
        clear hW1 e0 e1 e2 e3 e4
        go_cut [72] from 23 (fun v wx => v = Value.bool (!rc) ∧ wx = W1)
        case first =>
          cases s1 with
          | false =>
            cases s2 with
            | false => (go_wp2_with fail; go_meet; exact ⟨by rw [HRZ.out]; rfl, rfl⟩)
            | true =>
              cases z1 with
              | false => (go_wp2_with fail; go_meet; exact ⟨by rw [HRZ.out]; rfl, rfl⟩)
              | true => (go_wp2_with fail; go_meet; exact ⟨by rw [HRZ.out]; rfl, rfl⟩)
          | true =>
            cases s2 with
            | false =>
              cases z2 with
              | false => (go_wp2_with fail; go_meet; exact ⟨by rw [HRZ.out]; rfl, rfl⟩)
              | true => (go_wp2_with fail; go_meet; exact ⟨by rw [HRZ.out]; rfl, rfl⟩)
            | true =>
              cases z3 with
              | false => (go_wp2_with fail; go_meet; exact ⟨by rw [HRZ.out]; rfl, rfl⟩)
              | true => (go_wp2_with fail; go_meet; exact ⟨by rw [HRZ.out]; rfl, rfl⟩)
        case rest =>
        obtain ⟨rfl, hwc⟩ := hcut
        rw [hwc]
        clear hwc c1 c2 c3 c4 hz1 hz2 hz3 HRZ
        cases rc with
        | false =>
          go_wp2_with fail
          go_ret
          have hrr := Hrf.out fun hn => by have := (hn y HY.out.1).2.1; rw [HY.out.2.2.2.2.1] at this; cases this
          subst hrr
          exact ⟨rfl, HY.out.2.2.1.trans (H2.out.mono HY.out.2.2.1.size)⟩
        | true =>
          rcases Nat.eq_zero_or_pos j with hj0 | hj0
          · have g2 : decide ((0 : Int) < (j : Int)) = false := decide_eq_false (by omega)
            have g2' : decide (0 < j) = false := decide_eq_false (by omega)
            have H0 := Lib.hid hj0
            clear hj0
            go_wp2_with fail
            go_quiet (fail)
            go_wp2_with fail
            go_roundw
            case rel =>
              refine ⟨j + 1, by first | rfl | go_num, by have := HY.out.2.2.2.2.2.2; omega, fun i hi => ?_, HY.out.2.2.1.trans (H2.out.mono HY.out.2.2.1.size |>.trans (below_drewN _ (Below.refl _ _)))⟩
              rcases Nat.lt_or_ge i j with h | h
              · exact HY.out.2.1 i h
              · obtain rfl : i = j := by omega
                intro c hc
                obtain rfl : y = c := Option.some.inj (HY.out.1.symm.trans hc)
                exact ⟨by rw [HY.out.2.2.2.1], HY.out.2.2.2.2.1, fun d h0 _ => by have := H0.out; omega⟩
            case measure =>
              have := HY.out.2.2.2.2.2.2
              show n - ((j : Int) + 1).toNat < n - (j : Int).toNat
              omega
          · obtain ⟨jp, hjp⟩ : ∃ jp : Nat, j = jp + 1 := ⟨j - 1, by omega⟩
            have hjq : (j : Int) - 1 = (jp : Int) := by omega
            have g2 : decide ((0 : Int) < (j : Int)) = true := decide_eq_true (by omega)
            have g2' : decide (0 < j) = true := decide_eq_true (by omega)
            have l1 : (0 : Int) ≤ (jp : Int) := by omega
            have l2 : (jp : Int) < (n : Int) := by omega
            have l3 : (jp : Int) ≤ 1000000000 := by omega
            obtain ⟨x, hx⟩ := get_lt (us := L) (k := jp) (by rw [HX.out.2.2.1]; omega)
            obtain ⟨b', off', P', pc', hA', hb', z0, -, -, -, -, pp', -, -, -⟩ := (HX.out.1.below HY.out.2.2.1 HX.out.2.1 (Nat.le_refl _)).at hx
            cases hA'
            have hxl : x.1.length = m := by have := (HY.out.2.1 jp (by omega) x hx).1; omega
            rw [hxl] at z0
            obtain ⟨r2, hr2⟩ : ∃ r2, decide (Z.cmp x.1 y.1 < 0) = r2 := ⟨_, rfl⟩
            obtain ⟨qc, hqc⟩ : ∃ qc, Z.cmp x.1 y.1 = qc := ⟨_, rfl⟩
            have hg3 : decide ((0 : Int) ≤ qc) = !r2 := by
              rw [← hqc, ← hr2]
              by_cases h : Z.cmp x.1 y.1 < 0
              · rw [decide_eq_true h, decide_eq_false (by omega)]; rfl
              · rw [decide_eq_false h, decide_eq_true (by omega)]; rfl
            have HQC := Lib.hid hqc
            clear hqc
            have HP := Lib.hid (And.intro hx (And.intro pp' (And.intro hxl (And.intro hr2 hjp))))
            clear hx pp' hxl hr2 hjp hj0
            have hbw : b < wr.heap.size := Nat.lt_of_lt_of_le hb (Nat.le_trans HX.out.2.1 HY.out.2.2.1.size)
            have k1 : W1.cell? ⟨b, off + jp * 5, none⟩ = some (.slice P' m pc') := (H2.out.cell (p := ⟨b, off + jp * 5, none⟩) hbw).trans z0
            go_wp2_with fail
            have HQ : Hid (∀ i, Calls Try.prog 22 #[.slice P' m pc', .slice P m pc] (W1.drewN i) fun e w' => e = .returned (.int .i64 qc) ∧ W1.drewN i = w') := Lib.hid fun i => by
              have hbi : Below wr.heap.size wr (W1.drewN i) := H2.out.trans (below_drewN i (Below.refl _ _))
              have hBi : B ≤ (W1.drewN i).heap.size := Nat.le_trans HX.out.2.1 (Nat.le_trans HY.out.2.2.1.size hbi.size)
              have hBr : B ≤ wr.heap.size := Nat.le_trans HX.out.2.1 HY.out.2.2.1.size
              have hh := rcmp_c P' P pc' pc x.1 y.1 (W1.drewN i).heap.size (W1.drewN i) ((HP.out.2.1.below' hbi hBr).keep hBi (fun _ _ => rfl)) ((HY.out.2.2.2.2.2.1.below' hbi hBr).keep hBi (fun _ _ => rfl)) (by rw [HP.out.2.2.1]; exact HX.out.2.2.2.2.1) (by rw [HP.out.2.2.1]; exact HX.out.2.2.2.2.2) (by rw [HP.out.2.2.1, HY.out.2.2.2.1])
              rw [HP.out.2.2.1, HY.out.2.2.2.1, HQC.out] at hh
              exact hh
            clear z0 hbw
            cases r2 with
            | true =>
              go_quiet ((go_at_call 22; exact Calls.quiet_of_same ((HQ.out _).mono fun e w' h => ⟨h.1, h.2.symm⟩)))
              go_wp2_with fail
              go_roundw
              case rel =>
                refine ⟨j + 1, by first | rfl | go_num, by have := HY.out.2.2.2.2.2.2; omega, fun i hi => ?_, HY.out.2.2.1.trans ((H2.out.trans (below_drewN _ (Below.refl _ _))).mono HY.out.2.2.1.size)⟩
                rcases Nat.lt_or_ge i j with h | h
                · exact HY.out.2.1 i h
                · obtain rfl : i = j := by omega
                  intro c hc
                  obtain rfl : y = c := Option.some.inj (HY.out.1.symm.trans hc)
                  refine ⟨by rw [HY.out.2.2.2.1], HY.out.2.2.2.2.1, fun d h0 hd => ?_⟩
                  have hjp := HP.out.2.2.2.2
                  rw [show i - 1 = jp by omega] at hd
                  obtain rfl : x = d := Option.some.inj (HP.out.1.symm.trans hd)
                  exact of_decide_eq_true HP.out.2.2.2.1
              case measure =>
                have := HY.out.2.2.2.2.2.2
                show n - ((j : Int) + 1).toNat < n - (j : Int).toNat
                omega
            | false =>
              go_quiet ((go_at_call 22; exact Calls.quiet_of_same ((HQ.out _).mono fun e w' h => ⟨h.1, h.2.symm⟩)))
              go_wp2_with fail
              go_ret
              have hrr := Hrf.out fun hn => by have hjp := HP.out.2.2.2.2; have := (hn y HY.out.1).2.2 x (by omega) (by rw [show j - 1 = jp by omega]; exact HP.out.1); exact absurd this (of_decide_eq_false HP.out.2.2.2.1)
              subst hrr
              exact ⟨rfl, HY.out.2.2.1.trans ((H2.out.trans (below_drewN _ (Below.refl _ _))).mono HY.out.2.2.1.size)⟩
      · have g1 : ((m : Int) != (k : Int)) = true := by rw [bne_iff_ne]; omega
        have HMK := Lib.hid hmk
        clear hmk
        go_wp2_with fail
        go_ret
        have hrr := Hrf.out fun hn => HMK.out (by have := (hn y HY.out.1).1; rw [HY.out.2.2.2.1] at this; omega)
        subst hrr
        exact ⟨rfl, HY.out.2.2.1.trans ((below_alloc wr _).mono HY.out.2.2.1.size)⟩
    · have hjn : n = j := by omega
      subst hjn
      have f1 : decide ((n : Int) < (n : Int)) = false := decide_eq_false (by omega)
      have f1' : decide (n < n) = false := decide_eq_false (by omega)
      have HY := Lib.hid (And.intro hat hbr)
      clear hat hbr hlt hj
      go_wp2_with fail
      go_ret
      have hrr := HX.out.2.2.2.1.2 ⟨⟨by have := HX.out.2.2.2.2.1; omega, by have := HX.out.2.2.2.2.2; omega⟩, fun i hi => HY.out.1 i (by have := HX.out.2.2.1; omega)⟩
      subst hrr
      exact ⟨rfl, HY.out.2⟩
theorem r13right {w : World} {B : Nat} (k : Int) {A : Option Addr} {c n : Nat} {L : List Raw} (h : RwL w B A L) (hB : B ≤ w.heap.size) (hn : L.length = n) (hl : n ≤ 1000000000) {r : Bool} (hr : r = true ↔ Tr.RightP k L) :
    Calls Try.prog 9 #[.int .i64 k, .slice A n c] w fun e w' => e = .returned (.bool r) ∧ Below w.heap.size w w' := by
  by_cases hk : 1 ≤ k ∧ k ≤ 16
  · obtain ⟨a, rfl⟩ : ∃ a : Nat, k = (a : Int) := ⟨k.toNat, by omega⟩
    exact r13right_nat a (by omega) (by omega) h hB hn hl hr
  · have hrf : r = false := by
      cases r with
      | false => rfl
      | true => exact absurd (hr.1 rfl).1 hk
    subst hrf
    refine (r13right_arg k A n c hk).mono ?_
    rintro e w' ⟨rfl, rfl⟩
    exact ⟨rfl, Below.refl _ _⟩
end Go.Proofs.Ytpgkfccfabnjdaa
