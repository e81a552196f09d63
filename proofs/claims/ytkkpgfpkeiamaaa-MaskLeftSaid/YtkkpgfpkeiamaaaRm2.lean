/-
  CONTRACTS of package pantileref04 (the document's answers for layer 4), second part: Left.
-/
import Derived.Test.YtkkpgfpkeiamaaaRm1
import Derived.Maps.AppendAt
namespace Go.Proofs.Ytkkpgfpkeiamaaa
open Go.ChangeShapes Go.WideShapes Go.ChangeAt Go.RowKit

/-- a list's numbers as ints -/
def valsI (us : List Nat) : List Value := us.map fun (u : Nat) => Value.int .i64 (u : Int)
theorem valsI_length (us : List Nat) : (valsI us).length = us.length := by simp [valsI]
theorem valsI_get {us : List Nat} {k u : Nat} (h : us[k]? = some u) : (valsI us)[k]? = some (.int .i64 (u : Int)) := by simp [valsI, h]
theorem info_int : (Try.prog.info? 3).map (fun i => (i.zero, i.size, i.bytes)) = some (some (.int .i64 0), 1, 8) := by kernel_rfl
/-- THE SLICE VALUE v OWNS the ints us -/
def OwnI (w : World) (base : Nat) (v : Value) (us : List Nat) : Prop := w.ownsRow base 3 1 v us.length (valsI us)
theorem ownI_nil (w : World) : OwnI (w.alloc (.cells #[] 3)) w.heap.size (.slice (some ⟨w.heap.size, 0, none⟩) 0 0) [] :=
  World.ownsRow_made w #[] 0 (Nat.le_refl _) (by unfold maxLen; omega) (by simp)
theorem OwnI.below {w w' : World} {base C : Nat} {v : Value} {us : List Nat} (h : OwnI w base v us) (hb : Below C w w') (hC : w.heap.size ≤ C) : OwnI w' base v us := by
  refine ⟨h.1, ?_⟩
  rcases h.2 with h2 | ⟨g, cap, cur, hv, hg, hh, r⟩
  · exact .inl h2
  · exact .inr ⟨g, cap, cur, hv, hg, (hb.block g (by have := (Array.getElem?_eq_some_iff.1 hh).1; omega)).trans hh, r⟩
/-- 'append(v, y)' onto a row of ints of the call's own -/
theorem app_int {w : World} {ops : Array Oper} {rest : List Oper} {o : Oper} {a : Act} {Q : Exit → Act → World → Prop} (hgd : o.guard = none) (s x : Operand)
    (ho : o.op = .call { callee := .builtin .append, args := #[s, x], argTypes := #[43, 43] }) (base : Nat) (v : Value) (us : List Nat) (y : Nat) (hs : a.eval s = v) (hown : OwnI w base v us)
    {gb : Nat} (hx : a.eval x = .slice (some ⟨gb, 0, none⟩) 1 1) (hgb : gb = w.heap.size) (hn : us.length ≤ 100000) (hbase : base ≤ w.heap.size)
    (h : ∀ v' w', OwnI w' base v' (us ++ [y]) → (w.alloc (.cells #[.int .i64 (y : Int)] 3)).grownBy w' v.ownBlock → wpList Try.prog ops Q rest (a.put o.dst v') w') :
    wpList Try.prog ops Q (o :: rest) a (w.alloc (.cells #[.int .i64 (y : Int)] 3)) := by
  obtain ⟨i0, hi0, hz0, hz1, hz2⟩ := info_parts info_int
  subst hgb
  refine wpList_append_own _ hgd s x 43 ho base 3 i0 (.int .i64 0) 1 8 Try.underlying43 hi0 hz0 hz1 hz2 rfl (by decide) v us.length (valsI us) hs (hown.alloc _) ⟨w.heap.size, 0, none⟩ 1 1 [.int .i64 (y : Int)] hx rfl (cell_one_new _ _ _) (by intro u hu; simp at hu; subst hu; rfl) (by unfold maxLen; omega) (by omega) (by simp; omega) ?_
  intro v' w' h1 h2 _
  refine h v' w' ?_ h2
  unfold OwnI
  rw [show (us ++ [y]).length = us.length + 1 by simp, show valsI (us ++ [y]) = valsI us ++ [.int .i64 (y : Int)] by simp [valsI]]
  exact h1
/-- those of the first j addresses that are left -/
def leftTo (k lo hi j : Nat) : List Nat := (List.range j).filter (Mk.has k lo hi)
theorem leftTo_succ (k lo hi j : Nat) : leftTo k lo hi (j + 1) = if Mk.has k lo hi j = true then leftTo k lo hi j ++ [j] else leftTo k lo hi j := by
  unfold leftTo
  rw [List.range_succ, List.filter_append]
  rcases h : Mk.has k lo hi j with _ | _
  · simp [h]
  · simp [h]
theorem leftTo_length (k lo hi j : Nat) : (leftTo k lo hi j).length ≤ j := by
  have := List.length_filter_le (Mk.has k lo hi) (List.range j)
  rwa [List.length_range] at this

set_option maxRecDepth 100000 in
theorem r4left_c (k lo hi : Nat) (w : World) (hk1 : 1 ≤ k) (hk : k ≤ 16) (h3 : lo < 2 ^ k) (h4 : hi < 2 ^ k) :
    Calls Try.prog 19 #[.int .i64 (k : Int), .int .i64 (lo : Int), .int .i64 (hi : Int)] w fun e w' => ∃ v, e = .returned v ∧ OwnI w' w.heap.size v (Mk.left k lo hi) ∧ Below w.heap.size w w' := by
  have hp := pow16 hk
  obtain ⟨P, hP⟩ : ∃ P, 2 ^ k = P := ⟨_, rfl⟩
  have H3 := Lib.hid (And.intro h3 h4)
  have HP := Lib.hid hP
  rw [hP] at hp
  have Hleft : Hid (Mk.left k lo hi = leftTo k lo hi P) := Lib.hid (by rw [← hP]; rfl)
  clear h3 h4 hP
  have hown0 := ownI_nil w
  have hbel0 := below_alloc w (.cells #[] 3)
  go_enter Try.func19, Try.ntmps19
  go_wp2
  go_loopw [7, 8] (fun v i wr => ∃ j : Nat, j ≤ P ∧ i = .int .i64 j ∧ OwnI wr w.heap.size v (leftTo k lo hi j) ∧ Below w.heap.size w wr) (fun _ i _ => P - (intOf i).toNat)
  case atStart => exact ⟨0, Nat.zero_le _, rfl, hown0, hbel0⟩
  case round =>
    obtain ⟨j, hj, rfl, hrow, hbw⟩ := hrel
    clear hown0 hbel0
    have Hrow := Lib.hid hrow
    have hsz := hbw.size
    clear hrow
    by_cases hlt : j < P
    · have hjI : Hid (j < 2 ^ k) := Lib.hid (by rw [HP.out]; exact hlt)
      have hlen : Hid ((leftTo k lo hi j).length ≤ 100000) := Lib.hid (by have := leftTo_length k lo hi j; omega)
      obtain ⟨r, hr⟩ : ∃ r, Mk.has k lo hi j = r := ⟨_, rfl⟩
      have hst := leftTo_succ k lo hi j
      rw [hr] at hst
      have Hr := Lib.hid hr
      clear hr
      cases r
      · have Hst : Hid (leftTo k lo hi (j + 1) = leftTo k lo hi j) := Lib.hid (by simpa using hst)
        clear hst
        go_wp2_with (first
          | (go_at_call 21; refine (rpower_Q k P _ (by omega) HP.out).mono ?_; rintro e w' ⟨rfl, rfl⟩)
          | (go_at_call 20; refine (r4has_in k lo hi j _ false Hr.out hk1 hk H3.out.1 H3.out.2 hjI.out).mono ?_; rintro e w' ⟨rfl, rfl⟩))
        go_roundw
        case rel => exact ⟨j + 1, by omega, by go_num, by rw [Hst.out]; exact Hrow.out, hbw⟩
        case measure => simp [intOf]; omega
      · have Hst : Hid (leftTo k lo hi (j + 1) = leftTo k lo hi j ++ [j]) := Lib.hid (by simpa using hst)
        clear hst
        go_wp2_with (first
          | (go_at_call 21; refine (rpower_Q k P _ (by omega) HP.out).mono ?_; rintro e w' ⟨rfl, rfl⟩)
          | (go_at_call 20; refine (r4has_in k lo hi j _ true Hr.out hk1 hk H3.out.1 H3.out.2 hjI.out).mono ?_; rintro e w' ⟨rfl, rfl⟩)
          | (at_builtin; refine app_int rfl (.tmp 22) (.tmp 24) rfl w.heap.size _ (leftTo k lo hi j) j rfl Hrow.out rfl (by simp) hlen.out hsz ?_; intro v1 w1 hown1 hgrow1))
        go_roundw
        case rel => exact ⟨j + 1, by omega, by go_num, by rw [Hst.out]; exact hown1, (hbw.alloc hsz _).grown hgrow1 (by simp; omega) (fun q hq => (Hrow.out.lt q hq).1)⟩
        case measure => simp [intOf]; omega
    · have hfin : Hid (OwnI wr w.heap.size u7 (Mk.left k lo hi)) := Lib.hid (by rw [Hleft.out, show P = j by omega]; exact Hrow.out)
      go_wp2_with (go_at_call 21; refine (rpower_Q k P _ (by omega) HP.out).mono ?_; rintro e w' ⟨rfl, rfl⟩)
      go_ret
      exact ⟨_, rfl, hfin.out, hbw⟩
end Go.Proofs.Ytkkpgfpkeiamaaa
