/-
  WHAT A SLICE OF uint64 IS IN MEMORY: 'Pts' (it can be read), 'Own' (the call made it itself), and small lemmas for the walks. Nothing of the program but its types' numbers is named here.
-/
import Derived.Test.YtgplbbmenmbaaaaRows
import Derived.Test.YtgplbbmenmbaaaaZm
import Derived.WalkKit
import Derived.ProofKit
import Derived.OpenShut
import Derived.Below
import Derived.Lib.Hide
import Derived.WalkSpells
import Derived.WalkSmall
import Derived.WalkLawsBesides
namespace Go.Proofs.Ytgplbbmenmbaaaa
open Go.RowKit

theorem ret_int {k : IntKind} {a b : Int} (h : a = b) : Ending.returned (.int k a) = .returned (.int k b) := by rw [h]
theorem ret_bool {a b : Bool} (h : a = b) : Ending.returned (.bool a) = .returned (.bool b) := by rw [h]

theorem heap_at (w : World) (o : Obj) (k : Nat) (h : k = w.heap.size) : (w.alloc o).heap[k]? = some o := by rw [h]; exact heap_alloc_new w o
theorem heap_past {w : World} (o : Obj) {k : Nat} {x : Obj} (h : w.heap[k]? = some x) : (w.alloc o).heap[k]? = some x := by
  rw [Below.heap_alloc w o k (Array.getElem?_eq_some_iff.1 h).1]; exact h
theorem below_drewN {B : Nat} {a w : World} (n : Nat) (h : Below B a w) : Below B a (w.drewN n) := ⟨h.os, h.tape, h.output, h.size, h.block⟩
theorem below_alloc (w : World) (o : Obj) : Below w.heap.size w (w.alloc o) := (Below.refl _ _).alloc (Nat.le_refl _) o
/-- one call behind the other -/
theorem Below.andThen {w a b : World} (h : Below w.heap.size w a) (k : Below a.heap.size a b) : Below w.heap.size w b := h.trans (k.mono h.size)

/-- a list's numbers as values -/
def vals (us : List Nat) : List Value := us.map fun (u : Nat) => Value.int .u64 (u : Int)
theorem vals_length (us : List Nat) : (vals us).length = us.length := by simp [vals]
theorem vals_get {us : List Nat} {k u : Nat} (h : us[k]? = some u) : (vals us)[k]? = some (.int .u64 (u : Int)) := by simp [vals, h]
theorem vals_one (us : List Nat) : ∀ u ∈ vals us, u.oneCell' = true := by
  intro u hu
  simp only [vals, List.mem_map] at hu
  obtain ⟨n, _, rfl⟩ := hu
  rfl

/-- THE SLICE AT ADDRESS A, AS LONG AS us, READS AS us; its cells lie below block B. -/
def Pts (w : World) (B : Nat) (A : Option Addr) (us : List Nat) : Prop :=
  Z.Ok us ∧ (us ≠ [] → ∃ b off, A = some ⟨b, off, none⟩ ∧ b < B ∧ ∀ (i u : Nat), us[i]? = some u → w.cell? ⟨b, off + i, none⟩ = some (.int .u64 (u : Int)))

theorem Pts.ok {w : World} {B : Nat} {A : Option Addr} {us : List Nat} (h : Pts w B A us) : Z.Ok us := h.1
theorem Pts.open_ {w : World} {B : Nat} {A : Option Addr} {us : List Nat} (h : Pts w B A us) (hn : us ≠ []) :
    ∃ b off, A = some ⟨b, off, none⟩ ∧ b < B ∧ ∀ (i u : Nat), us[i]? = some u → w.cell? ⟨b, off + i, none⟩ = some (.int .u64 (u : Int)) := h.2 hn
theorem Pts.keep {w w' : World} {B B' : Nat} {A : Option Addr} {us : List Nat} (h : Pts w B A us) (hB : B ≤ B') (hw : ∀ p : Addr, p.block < B → w'.cell? p = w.cell? p) : Pts w' B' A us := by
  refine ⟨h.1, fun hn => ?_⟩
  obtain ⟨b, off, rfl, hb, hc⟩ := h.2 hn
  exact ⟨b, off, rfl, by omega, fun i u hi => (hw _ hb).trans (hc i u hi)⟩
theorem Pts.below {w w' : World} {B B' : Nat} {A : Option Addr} {us : List Nat} (h : Pts w B A us) (hb : Below B w w') (hB : B ≤ B') : Pts w' B' A us := h.keep hB fun _ hp => hb.cell hp
theorem Pts.below' {w w' : World} {B C : Nat} {A : Option Addr} {us : List Nat} (h : Pts w B A us) (hb : Below C w w') (hC : B ≤ C) : Pts w' B A us := h.keep (Nat.le_refl _) fun _ hp => hb.cell (Nat.lt_of_lt_of_le hp hC)
theorem Pts.drew {w : World} {B : Nat} {A : Option Addr} {us : List Nat} (h : Pts w B A us) : Pts w.drew B A us := h
theorem Pts.nil (w : World) (B : Nat) (A : Option Addr) : Pts w B A [] := ⟨fun _ h => by simp at h, fun h => absurd rfl h⟩

theorem get_lt {α : Type} {us : List α} {k : Nat} (h : k < us.length) : ∃ u, us[k]? = some u := ⟨us[k], List.getElem?_eq_getElem h⟩
theorem lt_get {α : Type} {us : List α} {k : Nat} {u : α} (h : us[k]? = some u) : k < us.length := (List.getElem?_eq_some_iff.1 h).1

/-- THE SLICE VALUE v OWNS the numbers us: a row that the call made (blocks from base on). -/
def Own (w : World) (base : Nat) (v : Value) (us : List Nat) : Prop := Z.Ok us ∧ w.ownsRow base 34 1 v us.length (vals us)

theorem Own.ok {w : World} {base : Nat} {v : Value} {us : List Nat} (h : Own w base v us) : Z.Ok us := h.1
theorem Own.below {w w' : World} {base C : Nat} {v : Value} {us : List Nat} (h : Own w base v us) (hb : Below C w w') (hC : w.heap.size ≤ C) : Own w' base v us := by
  refine ⟨h.1, h.2.1, ?_⟩
  rcases h.2.2 with h2 | ⟨g, cap, cur, hv, hg, hh, r⟩
  · exact .inl h2
  · exact .inr ⟨g, cap, cur, hv, hg, (hb.block g (by have := (Array.getElem?_eq_some_iff.1 hh).1; omega)).trans hh, r⟩
theorem Own.drew {w : World} {base : Nat} {v : Value} {us : List Nat} (h : Own w base v us) : Own w.drew base v us := h
theorem Own.mono {w : World} {base base' : Nat} {v : Value} {us : List Nat} (h : Own w base v us) (hb : base' ≤ base) : Own w base' v us := by
  refine ⟨h.1, h.2.1, ?_⟩
  rcases h.2.2 with h2 | ⟨g, cap, cur, hv, hg, r⟩
  · exact .inl h2
  · exact .inr ⟨g, cap, cur, hv, by omega, r⟩
/-- what is owned can be read -/
theorem Own.pts {w : World} {base : Nat} {v : Value} {us : List Nat} (h : Own w base v us) : ∃ A c, v = .slice A us.length c ∧ Pts w w.heap.size A us := by
  rcases h.2.2 with ⟨hv, hn⟩ | ⟨g, cap, cur, hv, hg, hh, r⟩
  · have : us = [] := List.eq_nil_of_length_eq_zero hn
    subst this
    exact ⟨none, 0, hv, Pts.nil _ _ _⟩
  · refine ⟨_, cap, hv, h.1, fun _ => ⟨g, 0, rfl, (Array.getElem?_eq_some_iff.1 hh).1, fun i u hi => ?_⟩⟩
    subst hv
    rw [Nat.zero_add, World.ownsRow.cellAt h.2 i (by have := lt_get hi; omega)]
    exact vals_get hi

/-- an owned row that is not empty, by its block -/
theorem Own.row {w : World} {base : Nat} {v : Value} {us : List Nat} (h : Own w base v us) (hn : us ≠ []) :
    ∃ g cap, v = .slice (some ⟨g, 0, none⟩) us.length cap ∧ base ≤ g ∧ g < w.heap.size ∧ w.ownsRow base 34 1 (.slice (some ⟨g, 0, none⟩) us.length cap) us.length (vals us) := by
  have h2 := h.2
  rcases h.2.2 with ⟨hv, h0⟩ | ⟨g, cap, cur, hv, hg, hh, r⟩
  · exact absurd (List.eq_nil_of_length_eq_zero h0) hn
  · subst hv
    exact ⟨g, cap, rfl, hg, (Array.getElem?_eq_some_iff.1 hh).1, h2⟩

theorem vals_set (us : List Nat) (k u : Nat) : (vals us).set k (.int .u64 (u : Int)) = vals (us.set k u) := by simp [vals, List.map_set]

theorem info_u64 : (Try.prog.info? 34).map (fun i => (i.zero, i.size, i.bytes)) = some (some (.int .u64 0), 1, 8) := by kernel_rfl


/-- an argument of type []uint64, as the frame of a proof hands it over -/
theorem pts_of_row {w : World} {a : Option Addr} {len cap : Nat} {zs : List Int}
    (h : (a = none ∧ len = 0 ∧ cap = 0 ∧ zs = []) ∨ ∃ x, a = some x ∧ len ≤ cap ∧ cap ≤ maxLen ∧ zs.length = cap ∧ (∀ i, i < zs.length → w.cell? (x.add i) = some (.int .u64 (zs.getD i 0))) ∧ ∀ n ∈ zs, (Lit.int .u64 n).wf = true) :
    ∃ us : List Nat, us.length = len ∧ len ≤ maxLen ∧ Pts w w.heap.size a us := by
  rcases h with ⟨rfl, rfl, _, _⟩ | ⟨x, rfl, hlc, hcm, hz, hcell, hwf⟩
  · exact ⟨[], rfl, Nat.zero_le _, Pts.nil _ _ _⟩
  · have hb : ∀ n ∈ zs, 0 ≤ n ∧ n < 18446744073709551616 := fun n hn => by
      have := bounds_u64 (hwf n hn)
      omega
    refine ⟨(zs.take len).map Int.toNat, by simp; omega, by omega, ?_, ?_⟩
    · intro u hu
      simp only [List.mem_map] at hu
      obtain ⟨n, hn, rfl⟩ := hu
      have := hb n (List.mem_of_mem_take hn)
      omega
    · intro hne
      have hp : 0 < zs.length := by
        rcases Nat.eq_zero_or_pos zs.length with h0 | h0
        · have : zs = [] := List.eq_nil_of_length_eq_zero h0
          subst this
          simp at hne
        · exact h0
      obtain ⟨b, off, rfl, hc⟩ := ints_at hcell hp
      refine ⟨b, off, rfl, ?_, fun i u hi => ?_⟩
      · have := World.block_lt_of_cell? w _ (hc 0 hp)
        exact this
      · simp only [List.getElem?_map, Option.map_eq_some_iff] at hi
        obtain ⟨n, hn, rfl⟩ := hi
        rw [List.getElem?_take] at hn
        split at hn
        · obtain ⟨hlt, e⟩ := List.getElem?_eq_some_iff.1 hn
          rw [hc i hlt]
          have hb' := hb n (List.mem_of_getElem? hn)
          rw [List.getD_eq_getElem?_getD, hn]
          simp
          omega
        · cases hn

theorem run_append_nil {P : Program} (w : World) (base : Nat) (t ty e : TypeId) (i : TypeInfo) (size : Nat) (ht : P.underlying t = some (.slice e)) (hi : P.info? e = some i)
    (v : Value) (n : Nat) (xs : List Value) (hown : w.ownsRow base e size v n xs) (c : Nat) : (Builtin.append_ #[t, t] ty #[v, .slice none 0 c]).run P w = .ok v w := by
  rcases hown.2 with ⟨rfl, rfl⟩ | ⟨g, cap, cur, rfl, _, _, hnc, _⟩
  · simp [Builtin.append_, run_underlying ht, sizeOf, typeInfo, hi, Builtin.lenOf, Builtin.firstCells]
  · simp [Builtin.append_, run_underlying ht, sizeOf, typeInfo, hi, Builtin.lenOf, Builtin.firstCells, hnc, storeCells]
/-- append of whatever can be read onto a row of the call's own -/
theorem wpList_append_pts {w : World} {ops : Array Oper} {rest : List Oper} {o : Oper} {a : Act} {Q : Exit → Act → World → Prop} (hgd : o.guard = none) (s x : Operand)
    (ho : o.op = .call { callee := .builtin .append, args := #[s, x], argTypes := #[23, 23] }) (base : Nat) (v : Value) (vs us : List Nat) (hs : a.eval s = v) (hown : Own w base v vs)
    (B : Nat) (A : Option Addr) (c : Nat) (hx : a.eval x = .slice A us.length c) (hp : Pts w B A us) (hbytes : (vs.length + us.length) * 8 ≤ 140737488355328) (hbase : base ≤ w.heap.size)
    (h : ∀ v' w', Own w' base v' (vs ++ us) → w.grownBy w' v.ownBlock → (v' = .slice none 0 0 ↔ v = .slice none 0 0 ∧ us.length = 0) → wpList Try.prog ops Q rest (a.put o.dst v') w') : wpList Try.prog ops Q (o :: rest) a w := by
  obtain ⟨i0, hi0, hz0, hz1, hz2⟩ := info_parts info_u64
  have hok : Z.Ok (vs ++ us) := fun u hu => by
    rcases List.mem_append.1 hu with h1 | h1
    · exact hown.1 u h1
    · exact hp.1 u h1
  have hcat : vals (vs ++ us) = vals vs ++ vals us := by simp [vals]
  have hlen : (vs ++ us).length = vs.length + us.length := by simp
  rcases A with _ | ad
  · have hn : us = [] := by
      rcases Classical.em (us = []) with h0 | h0
      · exact h0
      · obtain ⟨b, off, hA, _⟩ := hp.2 h0
        cases hA
    subst hn
    refine wpList_plain hgd fun K hK => ?_
    have hrun := run_append_nil (P := Try.prog) w base 23 o.type 34 i0 1 Try.underlying23 hi0 v vs.length (vals vs) hown.2 c
    unfold Oper.wp
    simp [execOp, ho, resolve, invoke, builtin, hs, hx, hrun, Result.andThen]
    exact hK _ _ (h v w (by simpa using hown) (World.grownBy.refl w _) (by simp))
  · refine wpList_append_own w hgd s x 23 ho base 34 i0 (.int .u64 0) 1 8 Try.underlying23 hi0 hz0 hz1 hz2 rfl (by decide) v vs.length (vals vs) hs hown.2 ad us.length c (vals us) hx (by rw [vals_length]; omega) ?_ (vals_one us) (by unfold maxLen; omega) hbytes hbase ?_
    · intro j u hj
      have hne : us ≠ [] := by rintro rfl; simp [vals] at hj
      obtain ⟨b, off, hA, _, hc⟩ := hp.2 hne
      cases hA
      simp only [vals, List.getElem?_map, Option.map_eq_some_iff] at hj
      obtain ⟨n, hn, rfl⟩ := hj
      rw [Go.WideShapes.add_plain]
      exact hc j n hn
    · intro v' w' h1 h2 h3
      exact h v' w' ⟨hok, by rw [hlen, hcat]; exact h1⟩ h2 h3

theorem own_nil (w : World) : Own (w.alloc (.cells #[] 34)) w.heap.size (.slice (some ⟨w.heap.size, 0, none⟩) 0 0) [] :=
  ⟨fun _ h => by simp at h, World.ownsRow_made w #[] 0 (Nat.le_refl _) (by unfold maxLen; omega) (by simp)⟩
/-- 'append([]uint64{}, p...)': a copy of the call's own -/
theorem wpList_append_copy {w : World} {ops : Array Oper} {rest : List Oper} {o : Oper} {a : Act} {Q : Exit → Act → World → Prop} (hgd : o.guard = none) (s x : Operand)
    (ho : o.op = .call { callee := .builtin .append, args := #[s, x], argTypes := #[23, 23] }) (us : List Nat) (hs : a.eval s = .slice (some ⟨w.heap.size, 0, none⟩) 0 0)
    (B : Nat) (A : Option Addr) (c : Nat) (hx : a.eval x = .slice A us.length c) (hp : Pts w B A us) (hB : B ≤ w.heap.size) (hbytes : us.length * 8 ≤ 140737488355328)
    (h : ∀ A' c' w', Pts w' w'.heap.size A' us → Own w' w.heap.size (.slice A' us.length c') us → Below w.heap.size w w' → wpList Try.prog ops Q rest (a.put o.dst (.slice A' us.length c')) w') :
    wpList Try.prog ops Q (o :: rest) a (w.alloc (.cells #[] 34)) := by
  refine wpList_append_pts hgd s x ho w.heap.size _ [] us hs (own_nil w) B A c hx (hp.below' ((Below.refl w.heap.size w).alloc (Nat.le_refl _) _) hB) (by simp; omega) (by simp) ?_
  intro v2 w2 hown hgrow _
  rw [List.nil_append] at hown
  obtain ⟨A2, c2, rfl, hp2⟩ := hown.pts
  refine h A2 c2 w2 hp2 hown ?_
  exact ((Below.refl w.heap.size w).alloc (Nat.le_refl _) _).grown hgrow (by simp) (by intro k hk; simp [Value.ownBlock] at hk; omega)

end Go.Proofs.Ytgplbbmenmbaaaa
