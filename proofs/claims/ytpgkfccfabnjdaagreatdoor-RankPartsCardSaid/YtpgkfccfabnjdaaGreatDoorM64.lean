import Derived.Test.YtpgkfccfabnjdaaGreatDoorM06
import Derived.Test.YtpgkfccfabnjdaaGreatDoorM23
import Derived.Test.YtpgkfccfabnjdaaGreatDoorM28
import Derived.Test.YtpgkfccfabnjdaaGreatDoorM24
import Derived.Test.YtpgkfccfabnjdaaGreatDoorM30
import Derived.Test.YtpgkfccfabnjdaaGreatDoorM12
/-
  CONTRACTS of package rank, first part: a scope with one label inside a fence; kids and its iterator.
-/
namespace Go.Proofs.YtpgkfccfabnjdaaGreatDoor
open Go.RowKit Go.Shelf
open Tr (T S4 Ent)
attribute [local go_sem] Oper.semAt_some

theorem stepR_scope' {P : Program} {b : Frame} {a : Act} {k : List Item} {cs : List Frame} {w : World} {c : Code} : step P (lone (b.atR a (.code (.scope c) :: k)) cs w) = .next (lone (b.atR a (.code c :: .inScope c :: k)) cs w) :=
  step_lone_go (by simp [stepG, stepG.exec, Frame.atR])
theorem stepR_inScope' {P : Program} {b : Frame} {a : Act} {k : List Item} {cs : List Frame} {w : World} {c : Code} : step P (lone (b.atR a (.inScope c :: k)) cs w) = .next (lone (b.atR a k) cs w) :=
  step_lone_go (by simp [stepG, stepG.exec, Frame.atR])
theorem wpIn_scope_count {F : Fence} {n : Nat} {P : Program} {c rest : Code} {Q : Exit → Act → World → Prop} {a : Act} {w : World} (l : Nat) (J : Nat → Act → World → Prop) (hf : findLabel c l = some (Code.skip.seq rest))
    (first : (∀ m a w, J m a w → rest.wpIn F n P (Exit.jump l (fun a' w' => ∃ m, J m a' w') Q) a w) → c.wpIn F n P (Exit.jump l (fun a' w' => ∃ m, J m a' w') Q) a w)
    (pass : ∀ m a w, J m a w → rest.wpIn F n P (Exit.jump l (fun a' w' => ∃ m', m' < m ∧ J m' a' w') Q) a w) : (Code.scope c).wpIn F n P Q a w := by
  have weak : ∀ m a w, J m a w → rest.wpIn F n P (Exit.jump l (fun a' w' => ∃ m, J m a' w') Q) a w := fun m a w h => wpIn_mono (pass m a w h) (by
    intro e a' w' h'
    cases e <;> first | exact h' | exact ⟨h'.1, h'.2.imp fun m hm => hm.2⟩)
  intro b k cs hro hb hr
  have hg : gotoIn l (.inScope c :: k) = some (.code (Code.skip.seq rest) :: .inScope c :: k) := by simp [gotoIn, hf]
  have key : ∀ m a w, J m a w → ∃ e a' w', Q e a' w' ∧ ArrivesIn (Machine.fenced P F) P (lone (b.atR a (.code (Code.skip.seq rest) :: .inScope c :: k)) cs w) b k cs e a' w' := by
    intro m
    induction m using Nat.strongRecOn with
    | _ m ih =>
      intro a w hJ
      obtain ⟨e, a₁, w₁, hq, harr⟩ := (wpIn_seq (wpIn_skip (pass m a w hJ)) : (Code.skip.seq rest).wpIn F n P _ a w) b (.inScope c :: k) cs hro hb hr
      cases e with
      | normal => exact ⟨.normal, a₁, w₁, hq, StepsIn.trans harr (.one (fenced_calm hb hr rfl) stepR_inScope')⟩
      | exit id =>
        have hx : exitTo id (.inScope c :: k) = exitTo id k := by simp [exitTo]
        exact ⟨.exit id, a₁, w₁, hq, fun k' hk => harr.1 k' (by rw [hx]; exact hk), fun hr' hk => harr.2 hr' (by rw [hx]; exact hk)⟩
      | goto l' =>
        obtain ⟨rfl, m', hlt, hJ'⟩ := hq
        obtain ⟨e₂, a₂, w₂, hq₂, harr₂⟩ := ih m' hlt a₁ w₁ hJ'
        exact ⟨e₂, a₂, w₂, hq₂, .of_steps (harr.1 _ hg) harr₂⟩
      | ret => exact ⟨_, a₁, w₁, hq, harr⟩
      | panic ch => exact ⟨_, a₁, w₁, hq, harr⟩
      | outgrown => exact ⟨_, a₁, w₁, hq, harr⟩
  have h0 : (lone (b.atR a (.code (.scope c) :: k)) cs w).fenced P F := fenced_calm hb hr rfl
  obtain ⟨e, a₁, w₁, hq, harr⟩ := first weak b (.inScope c :: k) cs hro hb hr
  cases e with
  | normal => exact ⟨.normal, a₁, w₁, hq, .head h0 stepR_scope' (StepsIn.trans harr (.one (fenced_calm hb hr rfl) stepR_inScope'))⟩
  | exit id =>
    have hx : exitTo id (.inScope c :: k) = exitTo id k := by simp [exitTo]
    exact ⟨.exit id, a₁, w₁, hq, .of_steps (.one h0 stepR_scope') (show ArrivesIn (Machine.fenced P F) P (lone (b.atR a (.code c :: .inScope c :: k)) cs w) b k cs (.exit id) a₁ w₁ from ⟨fun k' hk => harr.1 k' (by rw [hx]; exact hk), fun hr' hk => harr.2 hr' (by rw [hx]; exact hk)⟩)⟩
  | goto l' =>
    obtain ⟨rfl, m, hJ'⟩ := hq
    obtain ⟨e₂, a₂, w₂, hq₂, harr₂⟩ := key m a₁ w₁ hJ'
    exact ⟨e₂, a₂, w₂, hq₂, .of_steps (.head h0 stepR_scope' (harr.1 _ hg)) harr₂⟩
  | ret => exact ⟨_, a₁, w₁, hq, .of_steps (.one h0 stepR_scope') harr⟩
  | panic ch => exact ⟨_, a₁, w₁, hq, .of_steps (.one h0 stepR_scope') harr⟩
  | outgrown => exact ⟨_, a₁, w₁, hq, .of_steps (.one h0 stepR_scope') harr⟩

/-! ### kids -/
theorem kids_c (x : Option Addr) (lo hi : Int) (w : World) :
    Calls Tryz.prog 115 #[.pointer x, .int .i64 lo, .int .i64 hi] w fun e w' => e = .returned (.func (.func 164) #[] #[.pointer (some ⟨w.heap.size + 1, 0, none⟩), .pointer (some ⟨w.heap.size, 0, none⟩), .pointer (some ⟨w.heap.size + 2, 0, none⟩)]) ∧
      w' = ((w.alloc (.cells #[.pointer x] 75)).alloc (.cells #[.int .i64 lo] 3)).alloc (.cells #[.int .i64 hi] 3) := by
  go_enter Tryz.func115, Tryz.ntmps115
  go_wp2
  go_ret
  exact ⟨rfl, rfl⟩
theorem idx_next {ks : List (Nat × T)} (hs : Sl.Srt ks) {j a : Nat} {s : T} (h : ks[j]? = some (a, s)) : Sl.idx ks ((a + 1 : Nat) : Int) = j + 1 := by
  have e1 : Sl.idx ks (a : Int) = j := Sl.idx_of hs h
  have e2 := Sl.idx_succ hs (a : Int)
  have e3 : Sl.has ks (a : Int) = true := by
    unfold Sl.has
    rw [Sl.get_of_mem hs (p := (a, s)) (List.mem_of_getElem? h)]
    rfl
  rw [e3, if_pos rfl, e1] at e2
  rw [← e2]
  congr 1
end Go.Proofs.YtpgkfccfabnjdaaGreatDoor

/-
  CONTRACTS of package rank, second part: the iterator of kids: the kids from the first one on, as far as their addresses are below 'to'.
-/
namespace Go.Proofs.YtpgkfccfabnjdaaGreatDoor
open Go.RowKit Go.Shelf
open Tr (T S4 Ent)
attribute [local go_sem] Oper.semAt_some

structure KidC (W : World) (B k gf gn gt to : Nat) (t : T) : Prop where
  c0 : W.cell? ⟨gf, 0, none⟩ = some (.int .i64 0)
  c1 : W.cell? ⟨gn, 0, none⟩ = some (.pointer (some ⟨t.blk, 0, none⟩))
  c2 : W.cell? ⟨gt, 0, none⟩ = some (.int .i64 (to : Int))
  nd : Node W B k t
  tz : Tz W
theorem idx_stop {ks : List (Nat × T)} {j to a : Nat} {s : T} (h : ks[j]? = some (a, s)) (hj : j ≤ Sl.idx ks (to : Int)) (hle : to ≤ a) : Sl.idx ks (to : Int) = j := by
  rcases Nat.lt_or_ge j (Sl.idx ks (to : Int)) with c | c
  · have := Sl.idx_below ks (to : Int) j (a, s) c h
    simp only at this
    omega
  · omega
theorem idx_more {ks : List (Nat × T)} (hs : Sl.Srt ks) {j to a : Nat} {s : T} (h : ks[j]? = some (a, s)) (hlt : a < to) : j + 1 ≤ Sl.idx ks (to : Int) := by
  rcases Nat.lt_or_ge j (Sl.idx ks (to : Int)) with c | c
  · exact c
  · have := Sl.idx_above hs (to : Int) c h
    simp only at this
    omega

set_option maxRecDepth 100000 in
set_option maxHeartbeats 4000000 in
theorem kids1_in (n : Nat) (L gf gn gt B k to : Nat) (t : T) (J Jx : Nat → World → Prop)
    (hJc : ∀ j W, J j W → KidC W B k gf gn gt to t) (hJd : ∀ j W i, J j W → J j (W.drewN i))
    (hY : ∀ j a s W, J j W → t.ks[j]? = some (a, s) → a < to → YieldAt Fence.wide (n - 1) Tryz.prog L #[.int .i64 (a : Int), .pointer (some ⟨s.blk, 0, none⟩)] W fun e W' =>
      (e = .returned (.bool true) ∧ J (j + 1) W') ∨ (e = .returned (.bool false) ∧ Jx j W'))
    (W : World) (h0 : J 0 W) :
    CallsIn Fence.wide n Tryz.prog 164 #[.func (Fn.yield L) #[] #[], .pointer (some ⟨gf, 0, none⟩), .pointer (some ⟨gn, 0, none⟩), .pointer (some ⟨gt, 0, none⟩)] W fun e W' => (∃ v, e = .returned v) ∧
      (J (Sl.idx t.ks (to : Int)) W' ∨ ∃ j a s, t.ks[j]? = some (a, s) ∧ a < to ∧ Jx j W') := by
  refine callsIn_of_wp Tryz.func164 rfl trivial ?_ rfl
  simp only [Tryz.ntmps164, List.size_toArray, List.length_cons, List.length_nil, Nat.reduceAdd, Nat.reduceSub, Array.replicate_succ, Array.replicate_zero, List.push_toArray, List.append_toArray, List.nil_append, List.cons_append]
  have hk0 := hJc 0 W h0
  obtain ⟨c0, c1, c2, hnd, htz⟩ := hk0
  have hsrt := hnd.1.srt
  have hl16 := hnd.1.lt16
  have HX := Lib.hid (And.intro hsrt (And.intro hl16 (And.intro h0 hnd.1.lt16)))
  have HJ := Lib.hid (And.intro hJc (And.intro hJd hY))
  clear hnd htz hsrt hl16 h0 hJc hJd hY
  refine wpIn_scope_count 0 (fun m a' w' => ∃ (nx j : Nat) (u4 u6 u7 u8 u9 u10 u11 u12 u13 u14 u15 u16 u17 u18 u19 u20 u21 u22 u23 u24 u25 u26 u27 u28 u29 u30 : Value),
      a' = { tmps := #[.func (Fn.yield L) #[] #[], .pointer (some ⟨gf, 0, none⟩), .pointer (some ⟨gn, 0, none⟩), .pointer (some ⟨gt, 0, none⟩), u4, .int .i64 (nx : Int), u6, u7, u8, u9, u10, u11, u12, u13, u14, u15, u16, u17, u18, u19, u20, u21, u22, u23, u24, u25, u26, u27, u28, u29, u30], defers := [] } ∧
      nx ≤ 65536 ∧ Sl.idx t.ks (nx : Int) = j ∧ j ≤ Sl.idx t.ks (to : Int) ∧ J j w' ∧ m + j = t.ks.length) rfl ?first ?pass
  case first =>
    intro hp
    have HP := Lib.hid hp
    clear hp
    gi_wp2
    refine wpIn_label ?_
    rename_i hK
    exact hK _ _ (HP.out t.ks.length _ _ ⟨0, 0, _, _, _, _, _, _, _, _, _, _, _, _, _, _, _, _, _, _, _, _, _, _, _, _, _, _, rfl, by omega, Sl.idx_zero _, Nat.zero_le _, HX.out.2.2.1, by omega⟩)
  case pass =>
    rintro m a' w' ⟨nx, j, u4, u6, u7, u8, u9, u10, u11, u12, u13, u14, u15, u16, u17, u18, u19, u20, u21, u22, u23, u24, u25, u26, u27, u28, u29, u30, rfl, hnx, hj, hjt, hJ, hm⟩
    clear c0 c1 c2
    obtain ⟨c0, c1, c2, hnd, htz⟩ := HJ.out.1 j w' hJ
    cases hx : t.ks[j]? with
    | none =>
      have HF := Lib.hid (nFrom_c hnd.2 htz (nx : Int) (by omega) (by omega) (0, none) (by rw [hj, hx]; rfl))
      have HR := Lib.hid (And.intro hJ (And.intro hjt hx))
      clear hnd htz hJ hj hjt hm hx
      gi_wp2_with (refine ⟨trivial, (fun h => by cases h), ?_⟩; (with_reducible refine (callsIn_wide.2 HF.out).mono ?_); rintro e w2 ⟨rfl, n2, rfl⟩)
      refine ⟨(fun f h => by cases h), ?_⟩
      gi_wp2
      simp only [Exit.jump]
      refine bodyPost_ret (results_none rfl _ _ _) rfl ?_
      have hle := Sl.idx_le t.ks (to : Int)
      exact ⟨⟨_, rfl⟩, .inl (by
        have h1 := HR.out.2.2
        have h2 := HR.out.2.1
        rw [List.getElem?_eq_none_iff] at h1
        rw [show Sl.idx t.ks (to : Int) = j by omega]
        exact HJ.out.2.1 j w' n2 HR.out.1)⟩
    | some y =>
      obtain ⟨a, s⟩ := y
      have ha16 := HX.out.2.1 (a, s) (List.mem_of_getElem? hx)
      have HF := Lib.hid (nFrom_c hnd.2 htz (nx : Int) (by omega) (by omega) (a, some ⟨s.blk, 0, none⟩) (by rw [hj, hx]; rfl))
      by_cases hlt : a < to
      · have d1 : decide ((to : Int) ≤ (a : Int)) = false := decide_eq_false (by omega)
        have d1' : decide (to ≤ a) = false := decide_eq_false (by omega)
        have HR := Lib.hid (And.intro hJ (And.intro hjt (And.intro hx (And.intro hj hm))))
        have HL := Lib.hid hlt
        clear hnd htz hJ hj hjt hm hx hlt
        gi_wp2_with (refine ⟨trivial, (fun h => by cases h), ?_⟩; (with_reducible refine (callsIn_wide.2 HF.out).mono ?_); rintro e w2 ⟨rfl, n2, rfl⟩; obtain ⟨fn, tmps, assign, body, hy, hR⟩ := HJ.out.2.2 j a s _ (HJ.out.2.1 j w' n2 HR.out.1) HR.out.2.2.1 HL.out)
        refine ⟨(fun h => by cases h), hR.mono ?_⟩
        rintro e W3 (⟨rfl, hJ3⟩ | ⟨rfl, hJx⟩)
        · clear hy hR
          have ha64 : (a : Int) + 1 ≤ 65536 := by omega
          gi_wp2
          refine wpIn_goto ?_
          obtain ⟨hJ1, hjt, hx, hj, hm⟩ := HR.out
          have hjl := (List.getElem?_eq_some_iff.1 hx).1
          refine ⟨rfl, t.ks.length - (j + 1), by omega, a + 1, j + 1, _, _, _, _, _, _, _, _, _, _, _, _, _, _, _, _, _, _, _, _, _, _, _, _, _, _, rfl, by omega, idx_next HX.out.1 hx, idx_more HX.out.1 hx HL.out, hJ3, by omega⟩
        · clear hy hR
          gi_wp2
          simp only [Exit.jump]
          refine bodyPost_ret (results_none rfl _ _ _) rfl ?_
          exact ⟨⟨_, rfl⟩, .inr ⟨j, a, s, HR.out.2.2.1, HL.out, hJx⟩⟩
      · have d1 : decide ((to : Int) ≤ (a : Int)) = true := decide_eq_true (by omega)
        have d1' : decide (to ≤ a) = true := decide_eq_true (by omega)
        have HR := Lib.hid (And.intro hJ (And.intro hjt (And.intro hx hj)))
        have HL := Lib.hid hlt
        clear hnd htz hJ hj hjt hm hx hlt
        gi_wp2_with (refine ⟨trivial, (fun h => by cases h), ?_⟩; (with_reducible refine (callsIn_wide.2 HF.out).mono ?_); rintro e w2 ⟨rfl, n2, rfl⟩)
        refine ⟨(fun f h => by cases h), ?_⟩
        gi_wp2
        simp only [Exit.jump]
        refine bodyPost_ret (results_none rfl _ _ _) rfl ?_
        obtain ⟨hJ1, hjt, hx, hj⟩ := HR.out
        exact ⟨⟨_, rfl⟩, .inl (by rw [idx_stop hx hjt (by have := HL.out; omega)]; exact HJ.out.2.1 j w' n2 hJ1)⟩
end Go.Proofs.YtpgkfccfabnjdaaGreatDoor

/-
  CONTRACTS of package rank, third part: refusal, isAhead, what guide.down does.
-/
namespace Go.Proofs.YtpgkfccfabnjdaaGreatDoor
open Go.ChangeShapes Go.WideShapes Go.ChangeAt Go.RowKit
open Tr (T S4 Ent)

/-! ### refusal -/
theorem kRef_dim {w : World} {b k : Nat} {r : Option Addr} (h : TreC w b k r) (A : Option Addr) (n c : Nat) (hn : n ≤ maxLen) (hne : n ≠ k) :
    Calls Tryz.prog 56 #[.pointer (some ⟨b, 0, none⟩), .slice A n c] w fun e w' => e = .returned (.int .i64 2) ∧ w = w' := by
  have HK := Lib.hid (tK_c h)
  by_cases hr : 1 ≤ n ∧ n ≤ 16
  · have H := Lib.hid (right_yes A n c w hr.1 hr.2)
    have e1 : ((n : Int) != (k : Int)) = true := by simp; omega
    clear hr hne hn h
    go_enter Tryz.func56, Tryz.ntmps56
    go_wp2_with (first
      | (go_at_call 116; refine H.out.mono ?_; rintro e w' ⟨rfl, rfl⟩)
      | (go_at_call 48; refine HK.out.mono ?_; rintro e w' ⟨rfl, rfl⟩))
    go_ret
    exact ⟨rfl, rfl⟩
  · have H := Lib.hid (right_no A n c w hn hr)
    clear hr hne hn h
    go_enter Tryz.func56, Tryz.ntmps56
    go_wp2_with (first
      | (go_at_call 116; refine H.out.mono ?_; rintro e w' ⟨rfl, rfl⟩)
      | (go_at_call 48; refine HK.out.mono ?_; rintro e w' ⟨rfl, rfl⟩))
    go_ret
    exact ⟨rfl, rfl⟩
theorem kRef_ok {w : World} {b k : Nat} {r : Option Addr} (h : TreC w b k r) (A : Option Addr) (n c : Nat) (h1 : 1 ≤ k) (h16 : k ≤ 16) (he : n = k) :
    Calls Tryz.prog 56 #[.pointer (some ⟨b, 0, none⟩), .slice A n c] w fun e w' => e = .returned (.int .i64 0) ∧ w = w' := by
  have HK := Lib.hid (tK_c h)
  subst he
  have H := Lib.hid (right_yes A n c w h1 h16)
  have e1 : ((n : Int) != (n : Int)) = false := by simp
  clear h1 h16 h
  go_enter Tryz.func56, Tryz.ntmps56
  go_wp2_with (first
    | (go_at_call 116; refine H.out.mono ?_; rintro e w' ⟨rfl, rfl⟩)
    | (go_at_call 48; refine HK.out.mono ?_; rintro e w' ⟨rfl, rfl⟩))
  go_ret
  exact ⟨rfl, rfl⟩

/-! ### isAhead -/
theorem isAhead_no (A : Option Addr) (n c : Nat) (w : World) (hn : n ≤ maxLen) :
    Calls Tryz.prog 58 #[.pointer none, .slice A n c] w fun e w' => e = .returned (.bool false) ∧ w = w' := by
  have H := Lib.hid (cmp_no none A 0 0 n c w (by unfold maxLen; omega) hn (by omega))
  clear hn
  go_enter Tryz.func58, Tryz.ntmps58
  go_wp2_with (first
    | (go_at_call 112; refine (nPrefix_nil _).mono ?_; rintro e w' ⟨rfl, rfl⟩)
    | (go_at_call 65; refine H.out.mono ?_; rintro e w' ⟨rfl, rfl⟩))
  go_ret
  exact ⟨rfl, rfl⟩
theorem isAhead_c {w : World} {B k : Nat} {t : T} (h : Node w B k t) (hB : B ≤ w.heap.size) {p : List Nat} {A : Option Addr} {c B' : Nat} (hp : Pts w B' A p) (hB' : B' ≤ w.heap.size) (hl : p.length = k) (r : Bool) (hr : decide (Z.cmp t.pre p < 0) = r) :
    Calls Tryz.prog 58 #[.pointer (some ⟨t.blk, 0, none⟩), .slice A p.length c] w fun e w' => e = .returned (.bool r) ∧ Below w.heap.size w w' := by
  obtain ⟨kp, hnd⟩ := h.2.nd
  have hlen := h.1.len
  have k1 := h.1.k1
  have k16 := h.1.k16
  have H1 := Lib.hid (nPrefix_c hnd hB (by intro e; rw [e] at hlen; simp at hlen; omega) (by omega))
  obtain ⟨s, hs⟩ : ∃ s, Z.cmp t.pre p = s := ⟨_, rfl⟩
  rw [hs] at hr
  have H2 : Hid (∀ w2 h2 d2, Own w2 w.heap.size (.slice (some ⟨h2, 0, none⟩) t.pre.length d2) t.pre → Below w.heap.size w w2 → Calls Tryz.prog 65 #[.slice (some ⟨h2, 0, none⟩) t.pre.length d2, .slice A p.length c] w2 fun e w' => e = .returned (.tuple #[.int .i64 s, .int .i64 0]) ∧ w2 = w') := Lib.hid fun w2 h2 d2 ho hb => by
    obtain ⟨A', c', hv, hp'⟩ := ho.pts
    simp only [Value.slice.injEq] at hv
    obtain ⟨rfl, -, rfl⟩ := hv
    have := cmp_yes (some ⟨h2, 0, none⟩) A d2 c t.pre p w2.heap.size w2 hp' ((hp.below' hb hB').keep (Nat.le_trans hB' hb.size) (fun _ _ => rfl)) (by omega) (by omega) (by omega)
    rw [hs] at this
    exact this
  clear hnd hlen k1 k16 hp hs hl h
  go_enter Tryz.func58, Tryz.ntmps58
  go_wp2_with (first
    | (go_at_call 112; refine H1.out.mono ?_; rintro e w2 ⟨h2, d2, rfl, ho, hb⟩; have H3 := Lib.hid (And.intro ho hb); clear ho hb)
    | (go_at_call 65; refine (H2.out _ _ _ H3.out.1 H3.out.2).mono ?_; rintro e w' ⟨rfl, rfl⟩))
  go_ret
  exact ⟨rfl, H3.out.2⟩

/-! ### guide.down -/
inductive WayS (St : List (T × Nat) → T → Nat → Prop) (o : Option T) : List (T × Nat) → Option T → Prop
  | start : WayS St o [] o
  | step {us : List (T × Nat)} {t : T} {a : Nat} (h : WayS St o us (some t)) (hl : t.lv ≠ 0) (hs : St us t a) : WayS St o ((t, a) :: us) (Sl.get t.ks (a : Int))
theorem get_kid {t s : T} {a : Nat} (h : Sl.get t.ks (a : Int) = some s) : (a, s) ∈ t.ks := by
  obtain ⟨n, hn, hm⟩ := Sl.get_mem _ _ _ h
  have : n = a := by omega
  subst this
  exact hm
theorem WayS.steps {St : List (T × Nat) → T → Nat → Prop} {o o' : Option T} {us : List (T × Nat)} (h : WayS St o us o') : (∀ s n, o' = some s → Tr.Steps o ((s, n) :: us)) ∧ (o' = none → Tr.Steps o us) := by
  induction h with
  | start => exact ⟨fun s n e => e, fun e => e⟩
  | @step us t a h hl hc ih =>
    have h1 := ih.1 t a rfl
    exact ⟨fun s n e => ⟨get_kid e, h1⟩, fun _ => h1⟩
theorem WayS.node {w : World} {B k : Nat} {St : List (T × Nat) → T → Nat → Prop} {o o' : Option T} {us : List (T × Nat)} (ho : NodeO w B k o) (h : WayS St o us o') : NodeO w B k o' ∧ ∀ x ∈ us, Node w B k x.1 := by
  induction h with
  | start => exact ⟨ho, fun x hx => by cases hx⟩
  | @step us t a h hl hc ih =>
    have ht := ih.1 t rfl
    refine ⟨fun s hs => ?_, fun x hx => ?_⟩
    · have hm := get_kid hs
      obtain ⟨g', l, pre, ks, rfl⟩ := Tr.ks_br hm
      exact ht.kid hm
    · rcases List.mem_cons.1 hx with rfl | hx
      · exact ht
      · exact ih.2 x hx
theorem WayS.len {k : Nat} {St : List (T × Nat) → T → Nat → Prop} {o o' : Option T} {us : List (T × Nat)} (h : WayS St o us o') (ho : ∀ t, o = some t → Tr.Wf k t) : us.length ≤ 64 ∧ ∀ t, o' = some t → t.lv + us.length ≤ 64 := by
  have hw : (∀ t, o' = some t → Tr.Wf k t) ∧ ∀ x ∈ us, Tr.Wf k x.1 := by
    induction h with
    | start => exact ⟨ho, fun x hx => by cases hx⟩
    | @step us t a h hl hc ih =>
      have ht := ih.1 t rfl
      refine ⟨fun s hs => (ht.sub (get_kid hs)).1, fun x hx => ?_⟩
      rcases List.mem_cons.1 hx with rfl | hx
      · exact ht
      · exact ih.2 x hx
  have hc := h.steps
  cases h with
  | start =>
    refine ⟨by simp, fun t e => ?_⟩
    have := Tr.steps_lv (hc.1 t 0 e) (fun x hx => by
      rcases List.mem_cons.1 hx with rfl | hx
      · exact hw.1 t e
      · exact hw.2 x hx)
    simpa using this
  | @step us t a h hl hs =>
    have h1 := Tr.steps_lv (h.steps.1 t a rfl) (fun x hx => by
      rcases List.mem_cons.1 hx with rfl | hx
      · exact hw.2 (t, a) List.mem_cons_self
      · exact hw.2 x (List.mem_cons_of_mem _ hx))
    refine ⟨by rw [List.length_cons]; omega, fun s e => ?_⟩
    have := Tr.steps_lv (hc.1 s 0 e) (fun x hx => by
      rcases List.mem_cons.1 hx with rfl | hx
      · exact hw.1 s e
      · exact hw.2 x hx)
    exact this
end Go.Proofs.YtpgkfccfabnjdaaGreatDoor

/-
  CONTRACTS of package rank, fourth part: guide.down, whoever tells the way. Laid by wip/gen39.py.
-/
namespace Go.Proofs.YtpgkfccfabnjdaaGreatDoor
open Go.ChangeShapes Go.WideShapes Go.ChangeAt Go.RowKit
open Tr (T S4 Ent)

def StopS (Off : List (T × Nat) → T → Prop) (us : List (T × Nat)) (o' : Option T) : Prop := ∀ t, o' = some t → t.lv = 0 ∨ Off us t

structure VisitR2 (fid g1 g2 B k : Nat) (o : Option T) (St : List (T × Nat) → T → Nat → Prop) (Off : List (T × Nat) → T → Prop) (Inv : List (T × Nat) → World → (Nat → Prop) → Prop) : Prop where
  ent : ∀ args w, (callFunc fid args).run Tryz.prog w = .ok (.enter fid args) w
  frame : ∀ us w w' F, Inv us w F → w.heap.size ≤ w'.heap.size → (∀ b, F b → w'.heap[b]? = w.heap[b]?) → Below B w w' → Inv us w' F
  inb : ∀ us w F, Inv us w F → ∀ b, F b → b < w.heap.size ∧ B ≤ b
  call : ∀ us w F t, Inv us w F → Node w B k t → B ≤ w.heap.size → us.length ≤ 64 → t.lv ≠ 0 → WayS St o us (some t) → Calls Tryz.prog fid #[.pointer (some ⟨t.blk, 0, none⟩), .pointer (some ⟨g1, 0, none⟩), .pointer (some ⟨g2, 0, none⟩)] w fun e w' =>
    ((∃ a : Nat, e = .returned (.tuple #[.int .i64 (a : Int), .bool true]) ∧ St us t a ∧ ∃ F', Inv ((t, a) :: us) w' F' ∧ (∀ b, F' b → F b ∨ w.heap.size ≤ b) ∧ Foot F w w') ∨
     (e = .returned (.tuple #[.int .i64 0, .bool false]) ∧ Off us t ∧ ∃ F', Inv us w' F' ∧ (∀ b, F' b → F b ∨ w.heap.size ≤ b) ∧ Foot F w w'))
set_option maxRecDepth 1000000 in
set_option maxHeartbeats 4000000 in
theorem kdownR2_c {fid g1 g2 B k : Nat} {o : Option T} {St : List (T × Nat) → T → Nat → Prop} {Off : List (T × Nat) → T → Prop} {Inv : List (T × Nat) → World → (Nat → Prop) → Prop} (hv : VisitR2 fid g1 g2 B k o St Off Inv) {w : World} {F : Nat → Prop} (hI : Inv [] w F) (hn : NodeO w B k o) (hB : B ≤ w.heap.size) :
    Calls Tryz.prog 120 #[.agg #[.func (.func fid) #[] #[.pointer (some ⟨g1, 0, none⟩), .pointer (some ⟨g2, 0, none⟩)]], .pointer (rootP o)] w fun e w' => ∃ us o', WayS St o us o' ∧ StopS Off us o' ∧
      e = .returned (.pointer (rootP o')) ∧ ∃ F', Inv us w' F' ∧ (∀ b, F' b → F b ∨ w.heap.size ≤ b) ∧ Foot F w w' := by
  have hent := hv.ent
  have HV := Lib.hid hv
  have HX := Lib.hid (And.intro hn hB)
  have hal := below_alloc w (.cells #[.func (.func fid) #[] #[.pointer (some ⟨g1, 0, none⟩), .pointer (some ⟨g2, 0, none⟩)]] 184)
  have hI0 := HV.out.frame _ _ (w.alloc (.cells #[.func (.func fid) #[] #[.pointer (some ⟨g1, 0, none⟩), .pointer (some ⟨g2, 0, none⟩)]] 184)) _ hI hal.size (fun b hb => hal.block b (HV.out.inb _ _ _ hI b hb).1) (hal.mono hB)
  have hx0 : (w.alloc (.cells #[.func (.func fid) #[] #[.pointer (some ⟨g1, 0, none⟩), .pointer (some ⟨g2, 0, none⟩)]] 184)).heap[w.heap.size]? = some (.cells #[.func (.func fid) #[] #[.pointer (some ⟨g1, 0, none⟩), .pointer (some ⟨g2, 0, none⟩)]] 184 (0, 0)) := heap_at w _ _ rfl
  have hF0 : ¬ F w.heap.size := fun h => by have := (HV.out.inb _ _ _ hI _ h).1; omega
  have H0 := Lib.hid (And.intro hI0 (And.intro hx0 (And.intro hF0 (And.intro (Foot.of_below (F := F) hal) hI))))
  clear hv hn hB hI hal hI0 hx0 hF0
  go_enter Tryz.func120, Tryz.ntmps120
  go_wp2_with fail
  refine wp_scope_count 0 (fun m a' w' => ∃ (us : List (T × Nat)) (o' : Option T) (F' : Nat → Prop) (u3 u5 u6 u7 u8 u9 u10 u11 u12 u13 u14 u15 u16 u17 u18 u19 u20 u21 u22 u23 : Value), a' = { tmps := #[.agg #[.func (.func fid) #[] #[.pointer (some ⟨g1, 0, none⟩), .pointer (some ⟨g2, 0, none⟩)]], .pointer (rootP o'), .pointer (some ⟨w.heap.size, 0, none⟩), u3, .pointer none, u5, u6, u7, u8, u9, u10, u11, u12, u13, u14, u15, u16, u17, u18, u19, u20, u21, u22, u23], defers := [] } ∧
      WayS St o us o' ∧ Inv us w' F' ∧ (∀ b, F' b → F b ∨ w.heap.size ≤ b) ∧ Foot F w w' ∧ w'.heap[w.heap.size]? = some (.cells #[.func (.func fid) #[] #[.pointer (some ⟨g1, 0, none⟩), .pointer (some ⟨g2, 0, none⟩)]] 184 (0, 0)) ∧ ¬ F' w.heap.size ∧ m + us.length = 65) rfl ?first ?pass
  case first =>
    intro hp
    refine wp_seq (wp_label (hp 65 _ _ ⟨[], o, F, _, _, _, _, _, _, _, _, _, _, _, _, _, _, _, _, _, _, _, _, rfl, .start, H0.out.1, fun b hb => .inl hb, H0.out.2.2.2.1, H0.out.2.1, H0.out.2.2.1, rfl⟩))
  case pass =>
    rintro m a' w' ⟨us, o', F', u3, u5, u6, u7, u8, u9, u10, u11, u12, u13, u14, u15, u16, u17, u18, u19, u20, u21, u22, u23, rfl, hway, hinv, hF', hfoot, hbox, hnF, hm⟩
    cases o' with
    | none =>
      have HR := Lib.hid (And.intro hway (And.intro hinv (And.intro hF' hfoot)))
      clear hway hinv hF' hfoot hbox hnF H0 hm
      simp only [rootP]
      go_wp2_with (go_at_call 111; refine (nLevel_nil _).mono ?_; rintro e w2 ⟨rfl, rfl⟩)
      simp only [Exit.jump]
      go_ret
      exact ⟨us, none, HR.out.1, fun t e => (by cases e), rfl, F', HR.out.2.1, HR.out.2.2.1, HR.out.2.2.2⟩
    | some t =>
      have hfo := hfoot.below HX.out.2 (fun b hb => (HV.out.inb [] w F H0.out.2.2.2.2 b hb).2)
      have hnt : Node w' B k t := (hway.node (HX.out.1.below hfo (Nat.le_refl _) (Nat.le_refl _))).1 t rfl
      have hBw := Nat.le_trans HX.out.2 hfo.size
      obtain ⟨kp, hnd⟩ := hnt.2.nd
      obtain ⟨lv, hlv⟩ : ∃ lv, levI t = lv := ⟨_, rfl⟩
      rw [hlv] at hnd
      have HL := Lib.hid hnd
      by_cases h0 : t.lv = 0
      · have d1 : decide (lv < 0) = true := decide_eq_true (by rw [← hlv]; simp only [levI, h0]; omega)
        have HR := Lib.hid (And.intro hway (And.intro hinv (And.intro hF' (And.intro hfoot h0))))
        clear hway hinv hF' hfoot hbox hnF H0 hnd hnt hlv h0 hm hBw hfo
        simp only [rootP]
        go_wp2_with (go_at_call 111; refine (nLevel_c HL.out).mono ?_; rintro e w2 ⟨rfl, rfl⟩)
        simp only [Exit.jump]
        go_ret
        exact ⟨us, some t, HR.out.1, fun s e => (by cases e; exact .inl HR.out.2.2.2.2), rfl, F', HR.out.2.1, HR.out.2.2.1, HR.out.2.2.2.1⟩
      · have d1 : decide (lv < 0) = false := decide_eq_false (by rw [← hlv]; simp only [levI]; omega)
        have hus := (hway.len (fun t e => (HX.out.1 t e).1)).1
        have HF := Lib.hid (HV.out.call us w' F' t hinv hnt hBw hus h0 hway)
        have hxlt : w.heap.size < w'.heap.size := (Array.getElem?_eq_some_iff.1 hbox).1
        have HK : Hid (∀ (a : Nat) w2, Below B w' w2 → Calls Tryz.prog 113 #[.pointer (some ⟨t.blk, 0, none⟩), .int .i64 (a : Int)] w2 fun e w3 => e = .returned (.pointer (rootP (Sl.get t.ks (a : Int)))) ∧ ∃ i, w3 = w2.drewN i) := Lib.hid fun a w2 hb2 =>
          nKid_c (hnt.below hb2 (Nat.le_refl _) (Nat.le_refl _)).2 (a : Int) _ (rootP_kid _)
        have HR := Lib.hid (And.intro hway (And.intro hinv (And.intro hF' (And.intro hfoot (And.intro hbox (And.intro hnF (And.intro hm (And.intro h0 (And.intro hBw hxlt)))))))))
        have q0 : w'.cell? ⟨w.heap.size, 0, none⟩ = some (.func (.func fid) #[] #[.pointer (some ⟨g1, 0, none⟩), .pointer (some ⟨g2, 0, none⟩)]) := by rw [cell_of_row w' _ _ _ _ (0, 0) hbox]; rfl
        clear hway hinv hF' hfoot hbox hnF H0 hnd hnt hlv h0 hm hBw hfo hus hxlt
        simp only [rootP]
        go_wp2_with (go_at_call 111; refine (nLevel_c HL.out).mono ?_; rintro e w2 ⟨rfl, rfl⟩)
        refine HF.out.mono ?_
        rintro e w2 (⟨a, rfl, hst, F2, hi2, hF2, hfo2⟩ | ⟨rfl, hoff, F2, hi2, hF2, hfo2⟩)
        · have HR2 := Lib.hid (And.intro hi2 (And.intro hF2 (And.intro hfo2 hst)))
          have hb2 : Below B w' w2 := hfo2.below HR.out.2.2.2.2.2.2.2.2.1 (fun b hb => (HV.out.inb _ _ _ HR.out.2.1 b hb).2)
          clear hi2 hF2 hfo2 q0 HF hst
          go_wp2_with (go_at_call 113; refine (HK.out a _ hb2).mono ?_; rintro e w3 ⟨rfl, n3, rfl⟩)
          go_step3
          obtain ⟨hway, hinv, hF', hfoot, hbox, hnF, hm, h0, hBw, hxlt⟩ := HR.out
          obtain ⟨hi2, hF2, hfo2, hst⟩ := HR2.out
          have hw2 : WayS St o ((t, a) :: us) (Sl.get t.ks (a : Int)) := .step hway h0 hst
          have hl2 := (hw2.len (fun t e => (HX.out.1 t e).1)).1
          rw [List.length_cons] at hl2
          refine ⟨rfl, m - 1, by omega, _, Sl.get t.ks (a : Int), F2, _, _, _, _, _, _, _, _, _, _, _, _, _, _, _, _, _, _, _, _, rfl, hw2, HV.out.frame _ w2 (w2.drewN n3) _ hi2 (Nat.le_refl _) (fun _ _ => rfl) (below_drewN n3 (Below.refl _ _)), fun b hb => ?_, (hfoot.trans hfo2 hF').drewN _, (hfo2.block _ hxlt hnF).trans hbox, fun hb => ?_, by rw [List.length_cons]; omega⟩
          · rcases hF2 b hb with hb | hb
            · exact hF' b hb
            · exact .inr (Nat.le_trans hfoot.size hb)
          · rcases hF2 _ hb with hb | hb
            · exact hnF hb
            · omega
        · have HR2 := Lib.hid (And.intro hi2 (And.intro hF2 (And.intro hfo2 hoff)))
          clear hi2 hF2 hfo2 q0 HF hoff HK
          go_wp2_with fail
          simp only [Exit.jump]
          go_ret
          obtain ⟨hway, hinv, hF', hfoot, hbox, hnF, hm, h0, hBw, hxlt⟩ := HR.out
          obtain ⟨hi2, hF2, hfo2, hoff⟩ := HR2.out
          refine ⟨us, some t, hway, fun s e => (by cases e; exact .inr hoff), rfl, F2, hi2, fun b hb => ?_, hfoot.trans hfo2 hF'⟩
          rcases hF2 b hb with hb | hb
          · exact hF' b hb
          · exact .inr (Nat.le_trans hfoot.size hb)
end Go.Proofs.YtpgkfccfabnjdaaGreatDoor

/-
  CONTRACTS of package rank, fifth part: wayTo.
-/
namespace Go.Proofs.YtpgkfccfabnjdaaGreatDoor
open Go.ChangeShapes Go.WideShapes Go.ChangeAt Go.RowKit
open Tr (T S4 Ent)

theorem infoStepK : (Tryz.prog.info? 100).map (fun i => (i.zero, i.size, i.bytes)) = some (some (.agg #[.pointer none, .int .i64 0]), 2, 16) := by kernel_rfl
structure WayM (w : World) (B g1 g2 : Nat) (A : Option Addr) (n c : Nat) (us : List (T × Nat)) (D : Option Addr) (d : Nat) : Prop where
  c1 : w.heap[g1]? = some (.cells #[.slice A n c] 23 (0, 0))
  c2 : w.heap[g2]? = some (.cells #[.slice D us.length d] 92 (0, 0))
  ge : B ≤ g1 ∧ B ≤ g2 ∧ g1 ≠ g2
  row : OwnL 100 2 StQ w B (.slice D us.length d) us.reverse
  ne : D.map (·.block) ≠ some g1 ∧ D.map (·.block) ≠ some g2
def WayF (g1 g2 : Nat) (D : Option Addr) : Nat → Prop := fun b => b = g1 ∨ b = g2 ∨ D.map (·.block) = some b
section
variable {w w' : World} {B g1 g2 : Nat} {A : Option Addr} {n c : Nat} {us : List (T × Nat)} {D : Option Addr} {d : Nat}
theorem WayM.lt (h : WayM w B g1 g2 A n c us D d) : ∀ b, WayF g1 g2 D b → b < w.heap.size ∧ B ≤ b := by
  rintro b (rfl | rfl | hb)
  · exact ⟨(Array.getElem?_eq_some_iff.1 h.c1).1, h.ge.1⟩
  · exact ⟨(Array.getElem?_eq_some_iff.1 h.c2).1, h.ge.2.1⟩
  · have := h.row.lt b (by rw [own_block]; exact hb)
    exact ⟨this.2, this.1⟩
theorem WayM.keep (h : WayM w B g1 g2 A n c us D d) (hk : ∀ b, WayF g1 g2 D b → w'.heap[b]? = w.heap[b]?) : WayM w' B g1 g2 A n c us D d :=
  ⟨(hk _ (.inl rfl)).trans h.c1, (hk _ (.inr (.inl rfl))).trans h.c2, h.ge, h.row.block fun q hq => hk q (.inr (.inr (by rw [own_block] at hq; exact hq))), h.ne⟩
theorem WayM.below (h : WayM w B g1 g2 A n c us D d) (hb : Below w.heap.size w w') : WayM w' B g1 g2 A n c us D d :=
  h.keep fun b hb' => hb.block b (h.lt b hb').1
end
set_option maxRecDepth 100000 in
set_option maxHeartbeats 2000000 in
theorem wayTo1_no {w : World} {B g1 g2 k : Nat} {A : Option Addr} {c : Nat} {us : List (T × Nat)} {D : Option Addr} {d : Nat} {p : List Nat} (h : WayM w B g1 g2 A p.length c us D d) {t : T} (hn : Node w B k t) (hp : Pts w B A p) (hl : p.length = k) (hc : Tr.covers t p = false) :
    Calls Tryz.prog 117 #[.pointer (some ⟨t.blk, 0, none⟩), .pointer (some ⟨g1, 0, none⟩), .pointer (some ⟨g2, 0, none⟩)] w fun e w' => e = .returned (.tuple #[.int .i64 0, .bool false]) ∧ w = w' := by
  obtain ⟨kp, hnd⟩ := hn.2.nd
  have hlen : t.pre.length = k := hn.1.len
  have HC := Lib.hid (nCovers_c hnd (by rw [hlen]; exact hn.1.k1) (by rw [hlen]; exact hn.1.k16) A p c hp (by rw [hlen, hl]) false hc)
  have q0 : w.cell? ⟨g1, 0, none⟩ = some (.slice A p.length c) := by rw [cell_of_row w _ _ _ _ (0, 0) h.c1]; rfl
  clear h hn hp hl hc hnd hlen
  go_enter Tryz.func117, Tryz.ntmps117
  go_wp2_with (go_at_call 118; refine HC.out.mono ?_; rintro e w2 ⟨rfl, rfl⟩)
  go_ret2
  exact ⟨rfl, rfl⟩
set_option maxRecDepth 100000 in
set_option maxHeartbeats 4000000 in
theorem wayTo1_yes {w : World} {B g1 g2 k : Nat} {A : Option Addr} {c : Nat} {us : List (T × Nat)} {D : Option Addr} {d : Nat} {p : List Nat} (h : WayM w B g1 g2 A p.length c us D d) (hus : us.length ≤ 64) {t : T} (hn : Node w B k t) (hB : B ≤ w.heap.size) (hp : Pts w B A p) (hl : p.length = k) (h0 : t.lv ≠ 0) (hc : Tr.covers t p = true) :
    Calls Tryz.prog 117 #[.pointer (some ⟨t.blk, 0, none⟩), .pointer (some ⟨g1, 0, none⟩), .pointer (some ⟨g2, 0, none⟩)] w fun e w' => e = .returned (.tuple #[.int .i64 (Z.addr p (t.lv - 1) : Int), .bool true]) ∧
      ∃ D' d', WayM w' B g1 g2 A p.length c ((t, Z.addr p (t.lv - 1)) :: us) D' d' ∧ (∀ b, WayF g1 g2 D' b → WayF g1 g2 D b ∨ w.heap.size ≤ b) ∧ Foot (WayF g1 g2 D) w w' := by
  obtain ⟨kp, hnd⟩ := hn.2.nd
  have hlen : t.pre.length = k := hn.1.len
  have k1 := hn.1.k1
  have k16 := hn.1.k16
  have h64 := hn.1.lv64
  obtain ⟨l, hl1⟩ : ∃ l, t.lv = l + 1 := ⟨t.lv - 1, by omega⟩
  have hlev : levI t = (l : Int) := by simp only [levI, hl1]; omega
  have HC := Lib.hid (nCovers_c hnd (by rw [hlen]; exact k1) (by rw [hlen]; exact k16) A p c hp (by rw [hlen, hl]) true hc)
  rw [hlev] at hnd
  have HL := Lib.hid fun i => nLevel_c (hnd.below (below_drewN i (Below.refl w.heap.size w)) hB (Nat.le_refl B))
  have HA := Lib.hid fun i => addr_yes A c p l B (w.drewN i) (hp.below' (below_drewN i (Below.refl w.heap.size w)) hB) (by omega) (by omega) (by omega)
  rw [show t.lv - 1 = l by omega]
  obtain ⟨a, ha⟩ : ∃ a, Z.addr p l = a := ⟨_, rfl⟩
  rw [ha] at HA ⊢
  have q0 : w.cell? ⟨g1, 0, none⟩ = some (.slice A p.length c) := by rw [cell_of_row w _ _ _ _ (0, 0) h.c1]; rfl
  have HX := Lib.hid (And.intro h (And.intro hus hB))
  clear h hus hn hp hl hc hnd hlen k1 k16 h64 hl1 hlev ha h0
  go_enter Tryz.func117, Tryz.ntmps117
  go_wp2_with (go_at_call 118; refine HC.out.mono ?_; rintro e w2 ⟨rfl, rfl⟩)
  go_quiet (first
    | (go_at_call 111; exact Calls.quiet_of_same ((HL.out _).mono fun e w' h => ⟨h.1, h.2.symm⟩))
    | (go_at_call 119; exact Calls.quiet_of_same ((HA.out _).mono fun e w' h => ⟨h.1, h.2.symm⟩)))
  obtain ⟨W1, hW1⟩ : ∃ W1, W1 = w.drewN nq := ⟨_, rfl⟩
  rw [← hW1]
  have hb1 : Below w.heap.size w W1 := by rw [hW1]; exact below_drewN nq (Below.refl _ _)
  have h1 := HX.out.1.below hb1
  have hs1 : W1.heap.size = w.heap.size := by rw [hW1]; rfl
  have c2 : W1.cell? ⟨g2, 0, none⟩ = some (.slice D us.length d) := by rw [cell_of_row W1 g2 _ _ _ (0, 0) h1.c2]; rfl
  have H1 := Lib.hid (And.intro h1 (And.intro hb1 hs1))
  clear h1 hb1 hW1 hs1 q0 HC HL HA
  go_wp2_with (at_builtin; refine wpList_append_list (Q := StQ) 92 100 (.agg #[.pointer none, .int .i64 0]) 16 Tryz.underlying92 infoStepK (by rfl) (by omega) (by omega) stQ_ok (by rfl) _ _ (by rfl) B (.slice D us.length d) us.reverse [(t, a)] (us.length + 1) (by simp) (by rfl) (by exact H1.out.1.row.below (below_alloc _ _) (Nat.le_refl _)) _ _ 1 1 (by rfl) (by rfl) (by exact lst_at stQ_ok #[.pointer (some ⟨t.blk, 0, none⟩), .int .i64 (a : Int)] (t, a) (by rfl) (by exact ⟨rfl, rfl⟩)) (by have := HX.out.2.1; omega) (by have := HX.out.2.2; have := H1.out.2.2; simp; omega) ?_; intro D5 d5 w5 hown5 hgrow5 hat5; have hg5 : w5.heap[g2]? = some (.cells #[.slice D us.length d] 92 (0, 0)) := (hgrow5.block g2 (by have := (H1.out.1.lt g2 (.inr (.inl rfl))).1; simp; omega) (fun e => H1.out.1.ne.2 (by rw [own_block] at e; exact e.symm))).trans ((Below.heap_alloc _ _ _ (H1.out.1.lt g2 (.inr (.inl rfl))).1).trans H1.out.1.c2); have hg6 : w5.heap[g1]? = some (.cells #[.slice A p.length c] 23 (0, 0)) := (hgrow5.block g1 (by have := (H1.out.1.lt g1 (.inl rfl)).1; simp; omega) (fun e => H1.out.1.ne.1 (by rw [own_block] at e; exact e.symm))).trans ((Below.heap_alloc _ _ _ (H1.out.1.lt g1 (.inl rfl)).1).trans H1.out.1.c1); have fz5 := frozen_of_row w5 g2 0 _ _ hg5; have cz5 : w5.cell? ⟨g2, 0, none⟩ = some (.slice D us.length d) := by { rw [cell_of_row w5 g2 _ _ _ (0, 0) hg5]; rfl }; have HG := Lib.hid (And.intro hown5 (And.intro hgrow5 (And.intro hat5 (And.intro hg5 hg6)))); clear hown5 hgrow5 hat5 hg5 hg6)
  go_ret2
  obtain ⟨hown5, hgrow5, hat5, hg5, hg6⟩ := HG.out
  obtain ⟨h, hl, hB⟩ := HX.out
  obtain ⟨h1, hb1, hs1⟩ := H1.out
  have hat : D5.map (·.block) = D.map (·.block) ∨ D5.map (·.block) = some (w.heap.size + 1) := by
    rcases hat5 with e | e
    · rw [own_block, own_block] at e; exact .inl e
    · rw [own_block] at e; exact .inr (e.trans (by simp [hs1]))
  have hl1 := (h.lt g1 (.inl rfl)).1
  have hl2 := (h.lt g2 (.inr (.inl rfl))).1
  have hne1 : D5.map (·.block) ≠ some g1 := by
    rcases hat with e | e
    · rw [e]; exact h.ne.1
    · rw [e]; intro e'; simp only [Option.some.injEq] at e'; omega
  have hne2 : D5.map (·.block) ≠ some g2 := by
    rcases hat with e | e
    · rw [e]; exact h.ne.2
    · rw [e]; intro e'; simp only [Option.some.injEq] at e'; omega
  have hfo : Foot (WayF g1 g2 D) w w5 := ((Foot.of_below (F := WayF g1 g2 D) hb1).trans (Foot.of_below (F := WayF g1 g2 D) (below_alloc W1 _)) (fun b hb => .inl hb)).trans (Foot.grown (F := WayF g1 g2 D) hgrow5 (fun q hq => .inr (.inr (by rw [own_block] at hq; exact hq)))) (fun b hb => .inl hb)
  refine ⟨rfl, D5, d5, ⟨(Below.heap_setCell _ _ _ _ h.ge.2.2).trans hg6, block_set hg5 _, h.ge, ?_, hne1, hne2⟩, fun b hb => ?_, hfo.trans (Foot.setCell w5 (F := WayF g1 g2 D) (a := ⟨g2, 0, none⟩) (.inr (.inl rfl)) _) (fun b hb => .inl hb)⟩
  · rw [← List.reverse_cons] at hown5
    exact hown5.block fun q hq => Below.heap_setCell _ _ _ _ (fun e => hne2 (by rw [own_block] at hq; rw [hq, e]))
  · rcases hb with rfl | rfl | hb
    · exact .inl (.inl rfl)
    · exact .inl (.inr (.inl rfl))
    · rcases hat with e | e
      · rw [e] at hb; exact .inl (.inr (.inr hb))
      · rw [e] at hb; simp only [Option.some.injEq] at hb; exact .inr (by omega)

/-! ### wayTo -/
def WaySt (p : List Nat) : List (T × Nat) → T → Nat → Prop := fun _ t a => Tr.covers t p = true ∧ a = Z.addr p (t.lv - 1)
def WayOff (p : List Nat) : List (T × Nat) → T → Prop := fun _ t => Tr.covers t p = false
def WayI (B g1 g2 : Nat) (A : Option Addr) (p : List Nat) (c : Nat) (us : List (T × Nat)) (w : World) (F : Nat → Prop) : Prop :=
  Pts w B A p ∧ ∃ D d, WayM w B g1 g2 A p.length c us D d ∧ ∀ b, F b ↔ WayF g1 g2 D b
theorem way_visit (B g1 g2 k : Nat) (A : Option Addr) (p : List Nat) (c : Nat) (o : Option T) (hl : p.length = k) : VisitR2 117 g1 g2 B k o (WaySt p) (WayOff p) (WayI B g1 g2 A p c) where
  ent := enters_of Tryz.func117 (by kernel_rfl) rfl
  frame := by
    rintro us w w' F ⟨hp, D, d, hm, hF⟩ _ hk hb
    exact ⟨hp.below' hb (Nat.le_refl _), D, d, hm.keep fun b h => hk b ((hF b).2 h), hF⟩
  inb := by
    rintro us w F ⟨hp, D, d, hm, hF⟩ b hb
    exact hm.lt b ((hF b).1 hb)
  call := by
    rintro us w F t ⟨hp, D, d, hm, hF⟩ hn hB hus h0 _
    cases hc : Tr.covers t p with
    | false =>
      refine (wayTo1_no hm hn hp hl hc).mono ?_
      rintro e w' ⟨rfl, rfl⟩
      exact .inr ⟨rfl, hc, F, ⟨hp, D, d, hm, hF⟩, fun b hb => .inl hb, Foot.of_below (Below.refl _ _)⟩
    | true =>
      refine (wayTo1_yes hm hus hn hB hp hl h0 hc).mono ?_
      rintro e w' ⟨rfl, D', d', hm', hin, hfo⟩
      have hfo' : Foot F w w' := ⟨hfo.os, hfo.tape, hfo.output, hfo.size, fun b hb hn => hfo.block b hb fun h => hn ((hF b).2 h)⟩
      refine .inl ⟨_, rfl, ⟨hc, rfl⟩, WayF g1 g2 D', ⟨hp.below' (hfo.below hB fun b hb => (hm.lt b hb).2) (Nat.le_refl _), D', d', hm', fun b => Iff.rfl⟩, fun b hb => ?_, hfo'⟩
      rcases hin b hb with h | h
      · exact .inl ((hF b).2 h)
      · exact .inr h
theorem way_of {p : List Nat} {o o' : Option T} {us : List (T × Nat)} (h : WayS (WaySt p) o us o') : Tr.Way p o us o' := by
  induction h with
  | start => exact .start
  | @step us t a h hl hs ih =>
    obtain ⟨hc, rfl⟩ := hs
    exact .step ih hl hc
theorem stop_of {p : List Nat} {o' : Option T} {us : List (T × Nat)} (h : StopS (WayOff p) us o') : Tr.Stop p o' := by
  cases o' with
  | none => trivial
  | some t => exact h t rfl
set_option maxRecDepth 1000000 in
set_option maxHeartbeats 4000000 in
theorem wayTo_c {w : World} {B k : Nat} {o : Option T} (hn : NodeO w B k o) (hB : B ≤ w.heap.size) {p : List Nat} {A : Option Addr} {c : Nat} (hp : Pts w B A p) (hl : p.length = k) :
    Calls Tryz.prog 57 #[.pointer (rootP o), .slice A p.length c] w fun e w' => ∃ us o' D d, Tr.Way p o us o' ∧ Tr.Stop p o' ∧
      e = .returned (.tuple #[.slice D us.length d, .pointer (rootP o')]) ∧ OwnL 100 2 StQ w' w.heap.size (.slice D us.length d) us.reverse ∧ Below w.heap.size w w' := by
  obtain ⟨W0, hW0⟩ : ∃ W0, W0 = (w.alloc (.cells #[.slice A p.length c] 23)).alloc (.cells #[.slice none 0 0] 92) := ⟨_, rfl⟩
  have hb0 : Below w.heap.size w W0 := by rw [hW0]; ((repeat (first | refine Below.drew ?_ | (with_reducible refine below_drewN _ ?_) | refine Below.alloc ?_ (by first | omega | (simp; done) | (simp; omega)) _ | refine Below.setCell ?_ (by first | omega | (simp; done) | (simp; omega)) _)); first | exact Below.refl _ _ | assumption | exact below_drewN _ (Below.refl _ _) | exact below_drewN _ (below_drewN _ (Below.refl _ _)))
  have hm0 : WayM W0 w.heap.size w.heap.size (w.heap.size + 1) A p.length c [] none 0 := ⟨by rw [hW0]; (first | (refine heap_at _ _ _ ?_; simp; done) | (refine heap_past _ (heap_at _ _ _ ?_); simp; done) | (refine heap_past _ (heap_past _ (heap_at _ _ _ ?_)); simp; done) | (refine heap_past _ (heap_past _ (heap_past _ (heap_at _ _ _ ?_))); simp; done)), by rw [hW0]; (first | (refine heap_at _ _ _ ?_; simp; done) | (refine heap_past _ (heap_at _ _ _ ?_); simp; done) | (refine heap_past _ (heap_past _ (heap_at _ _ _ ?_)); simp; done) | (refine heap_past _ (heap_past _ (heap_past _ (heap_at _ _ _ ?_))); simp; done)), ⟨Nat.le_refl _, by omega, by omega⟩, ownL_none _ _ _, ⟨by simp, by simp⟩⟩
  have HD := Lib.hid (kdownR2_c (way_visit w.heap.size w.heap.size (w.heap.size + 1) k A p c o hl) (w := W0) (F := WayF w.heap.size (w.heap.size + 1) none) ⟨(hp.below' hb0 hB).keep hB (fun _ _ => rfl), none, 0, hm0, fun b => Iff.rfl⟩ (hn.below hb0 hB hB) hb0.size)
  have H0 := Lib.hid hb0
  clear hn hB hp hl hm0 hb0
  go_enter Tryz.func57, Tryz.ntmps57
  go_upto_region 1 with fail
  rw [← hW0]
  clear hW0
  go_wp2_with (go_at_call 120; refine HD.out.mono ?_; rintro e w2 ⟨us, o', hway, hstop, rfl, F', ⟨hp2, D, d, hm2, hF2⟩, hF', hfo⟩; have c2 : w2.cell? ⟨w.heap.size + 1, 0, none⟩ = some (.slice D us.length d) := (by rw [cell_of_row w2 _ _ _ _ (0, 0) hm2.c2]; rfl); have f2 : w2.frozen? ⟨w.heap.size + 1, 0, none⟩ = false := frozen_of_row w2 _ _ _ _ hm2.c2; have H2 := Lib.hid (And.intro hway (And.intro hstop (And.intro hm2 hfo))); clear hway hstop hm2 hfo hp2 hF2 hF')
  have cS : (w2.setCell ⟨w.heap.size + 1, 0, none⟩ (.slice D us.length d)).cell? ⟨w.heap.size + 1, 0, none⟩ = some (.slice D us.length d) := World.cell?_setCell_same _ _ _ c2
  refine bodyPost_ret (v := .tuple #[.slice D us.length d, .pointer (rootP o')]) (by simp [results, Tryz.results57, go_sem, cS]) rfl ?_
  obtain ⟨hway, hstop, hm2, hfo⟩ := H2.out
  have hb2 := hfo.below H0.out.size (fun b hb => by
    rcases hb with rfl | rfl | hb
    · exact Nat.le_refl _
    · omega
    · cases hb)
  refine ⟨us, o', D, d, way_of hway, stop_of hstop, rfl, hm2.row.block fun q hq => Below.heap_setCell _ _ _ _ (fun e => hm2.ne.2 (by rw [own_block] at hq; rw [hq, e])), (H0.out.trans hb2).setCell (p := ⟨w.heap.size + 1, 0, none⟩) (by show w.heap.size ≤ w.heap.size + 1; omega) _⟩
end Go.Proofs.YtpgkfccfabnjdaaGreatDoor

/-
  CONTRACTS of package rank, sixth part: Of.
-/
namespace Go.Proofs.YtpgkfccfabnjdaaGreatDoor
open Go.RowKit Go.Shelf
open Tr (T S4 Ent)
attribute [local go_sem] Oper.semAt_some

def marksOf (rs : List Nat) : List Deferred := rs.map fun r => { target := .collected r, args := #[] }
theorem leaves_marks {F : Fence} {n : Nat} {P : Program} {fn : Func} {tmps : Array Value} {R : Ending → World → Prop} {b : Nat} : ∀ (rs : List Nat) (w : World), rs.Nodup → (∀ r ∈ rs, b ≤ r ∧ w.heap[r]? = some (.deferred (some []))) →
    (∀ w', Below b w w' → LeavesIn F n P fn tmps R [] .returning w') → LeavesInM F n P fn tmps R (marksOf rs) .returning w
  | [], w, _, _, h => h w (Below.refl _ _)
  | r :: rs, w, hn, hr, h => by
    obtain ⟨hn1, hn2⟩ := List.nodup_cons.1 hn
    have h1 := hr r List.mem_cons_self
    refine ⟨by simp, .inl ⟨r, _, rfl, run_takeDeferred h1.2, leaves_marks (b := b) rs _ hn2 (fun q hq => ?_) (fun w' hb => h w' ?_)⟩⟩
    · have h2 := hr q (List.mem_cons_of_mem _ hq)
      exact ⟨h2.1, (World.putObj_heap_other (fun e => hn1 (by rw [← e]; exact hq))).trans h2.2⟩
    · exact (below_putObj w _ h1.1).trans hb
structure OfI (w1 : World) (us : List (T × Nat)) (j : Nat) (rs : List Nat) (W : World) : Prop where
  cnt : W.heap[w1.heap.size]? = some (.cells #[.int .u64 ((Tr.foreR (us.drop (us.length - j))).length : Int)] 62 (0, 0))
  bel : Below w1.heap.size w1 W
  nd : rs.Nodup
  mks : ∀ r ∈ rs, w1.heap.size ≤ r ∧ W.heap[r]? = some (.deferred (some []))
theorem way_at {W : World} {base n d : Nat} {D : Option Addr} {L : List (T × Nat)} {ty : TypeId} (h : OwnL ty 2 StQ W base (.slice D n d) L) {j : Nat} {t : T} {a : Nat} (hx : L[j]? = some (t, a)) :
    ∃ q off, D = some ⟨q, off, none⟩ ∧ q < W.heap.size ∧ W.cell? ⟨q, off + j * 2, none⟩ = some (.pointer (some ⟨t.blk, 0, none⟩)) ∧ W.cell? ⟨q, off + j * 2 + 1, none⟩ = some (.int .i64 (a : Int)) := by
  obtain ⟨A', c', hv, hc, hl⟩ := OwnL.rd stQ_ok h
  obtain ⟨q, off, hA, hb, hq⟩ := hl (by rintro rfl; simp at hx)
  simp only [Value.slice.injEq] at hv
  obtain ⟨e0, e1⟩ := hq _ _ hx
  exact ⟨q, off, by rw [hv.1]; exact hA, hb, e0, e1⟩
theorem way_node_at {w : World} {B k : Nat} {o o' : Option T} {p : List Nat} {us : List (T × Nat)} (hn : NodeO w B k o) (h : Tr.Way p o us o') {j : Nat} {t : T} {a : Nat} (hx : us.reverse[j]? = some (t, a)) : Node w B k t :=
  way_nodes hn h (t, a) (List.mem_reverse.1 (List.mem_of_getElem? hx))
theorem foreR_step {us : List (T × Nat)} {j : Nat} {t : T} {a : Nat} (hx : us.reverse[j]? = some (t, a)) (hj : j < us.length) : us.drop (us.length - (j + 1)) = (t, a) :: us.drop (us.length - j) := by
  rw [List.getElem?_reverse hj] at hx
  obtain ⟨hl, he⟩ := List.getElem?_eq_some_iff.1 hx
  rw [show us.length - (j + 1) = us.length - 1 - j by omega, List.drop_eq_getElem_cons hl, he, show us.length - 1 - j + 1 = us.length - j by omega]
theorem way_part {p : List Nat} {o o' : Option T} {us : List (T × Nat)} (h : Tr.Way p o us o') : ∀ (m : Nat) (t : T) (a : Nat) (R : List (T × Nat)), us.drop m = (t, a) :: R → Tr.Way p o R (some t) := by
  induction h with
  | start => intro m t a R e; simp at e
  | @step us t h hl hc ih =>
    intro m t' a' R e
    cases m with
    | zero =>
      simp only [List.drop_zero, List.cons.injEq, Prod.mk.injEq] at e
      obtain ⟨⟨rfl, -⟩, rfl⟩ := e
      exact h
    | succ m => exact ih m t' a' R (by simpa using e)
theorem way_count {w : World} {B k : Nat} {o o' : Option T} {p : List Nat} {us : List (T × Nat)} (hn : NodeO w B k o) (h : Tr.Way p o us o') {j : Nat} {t : T} {a : Nat} (hx : us.reverse[j]? = some (t, a)) (hj : j < us.length) :
    (Tr.foreR (us.drop (us.length - j))).length + t.ents.length ≤ (Tr.entsO o).length := by
  have h1 := way_part h _ t a _ (foreR_step hx hj)
  have hw := h1.wf (k := k) (fun t e => (hn t e).1)
  have h2 := Tr.steps_all (h1.chain.1 t a rfl) (fun x hx => by
    rcases List.mem_cons.1 hx with rfl | hx
    · exact hw.1 t rfl
    · exact hw.2 x hx)
  have h3 := congrArg List.length h2
  simp only [List.length_append] at h3
  omega
theorem kids_count {ks : List (Nat × T)} {i a : Nat} {s : T} (hx : ks[i]? = some (a, s)) : (Tr.entsL (ks.take (i + 1))).length = (Tr.entsL (ks.take i)).length + s.ents.length ∧ (Tr.entsL (ks.take (i + 1))).length ≤ (Tr.entsL ks).length := by
  constructor
  · rw [List.take_add_one, hx, Tr.entsL_append]
    simp [Tr.entsL]
  · conv => rhs; rw [← List.take_append_drop (i + 1) ks, Tr.entsL_append, List.length_append]
    omega
theorem of_arith {x y : Nat} (h : x + y ≤ 100000000) : wrap64 (x : Int) = (x : Int) ∧ wrap64 ((x : Int) + (y : Int)) = (x : Int) + (y : Int) ∧ IntKind.u64.wrap ((x : Int) + (y : Int)) = (x : Int) + (y : Int) :=
  ⟨IntWalk.wrap64_in _ (by omega), IntWalk.wrap64_in _ (by omega), IntWalk.u64_in _ (by omega)⟩
theorem wpIn_calm {F : Fence} {n : Nat} {P : Program} {c : Code} {Q : Exit → Act → World → Prop} {a : Act} {w : World}
    (h : ∀ K : Act → World → Prop, (∀ a w, Q .normal a w → K a w) → c.wpIn F n P (Exit.then K fun _ _ _ => False) a w) : c.wpIn F n P Q a w :=
  wpIn_mono (h (Q .normal) fun _ _ q => q) (by
    intro e a w h
    cases e <;> first | exact h | exact h.elim)
theorem foot_put {F : Nat → Prop} (w : World) {l : Nat} (o : Obj) (h : F l) : Foot F w (w.putObj l o) := ⟨rfl, rfl, rfl, by simp, fun j _ hn => World.putObj_heap_other (fun e => hn (e ▸ h))⟩
def ofWorld (W : World) (t : T) (a : Nat) : World := (((W.alloc (.cells #[.pointer (some ⟨t.blk, 0, none⟩), .int .i64 (a : Int)] 100)).alloc (.cells #[.pointer (some ⟨t.blk, 0, none⟩)] 75)).alloc (.cells #[.int .i64 0] 3)).alloc (.cells #[.int .i64 (a : Int)] 3)
theorem ofWorld_size (W : World) (t : T) (a : Nat) : (ofWorld W t a).heap.size = W.heap.size + 4 := by simp [ofWorld]
structure OfJ (W1 : World) (R L : Nat) (r0 : Loop) (acc : Nat) (ks : List (Nat × T)) (i : Nat) (W : World) : Prop where
  foot : Foot (fun b => b = R ∨ b = L) W1 W
  cnt : W.heap[R]? = some (.cells #[.int .u64 ((acc + (Tr.entsL (ks.take i)).length : Nat) : Int)] 62 (0, 0))
  lp : W.heap[L]? = some (.loop r0)
theorem of_start (W : World) (t : T) (a : Nat) (r0 : Loop) : Below W.heap.size W (rangeWorld (ofWorld W t a) r0) ∧ (rangeWorld (ofWorld W t a) r0).heap[W.heap.size + 1]? = some (.cells #[.pointer (some ⟨t.blk, 0, none⟩)] 75) ∧
    (rangeWorld (ofWorld W t a) r0).heap[W.heap.size + 1 + 1]? = some (.cells #[.int .i64 0] 3) ∧ (rangeWorld (ofWorld W t a) r0).heap[W.heap.size + 1 + 2]? = some (.cells #[.int .i64 (a : Int)] 3) ∧
    (rangeWorld (ofWorld W t a) r0).heap[W.heap.size + 4]? = some (.deferred (some [])) ∧ (rangeWorld (ofWorld W t a) r0).heap[W.heap.size + 5]? = some (.loop r0) ∧ (rangeWorld (ofWorld W t a) r0).heap.size = W.heap.size + 6 := by
  refine ⟨((((((Below.refl _ W).alloc (Nat.le_refl _) _).alloc (by simp) _).alloc (by simp; omega) _).alloc (by simp; omega) _).alloc (by simp; omega) _).alloc (by simp; omega) _, hav_old (hav_old (hav_old (hav_old (hav_next (by simp))))), hav_old (hav_old (hav_old (hav_next (by simp)))), hav_old (hav_old (hav_next (by simp))), hav_old (hav_next (ofWorld_size ..)), hav_next (by rw [World.size_alloc, ofWorld_size]), by simp [rangeWorld, ofWorld_size]⟩
set_option maxRecDepth 1000000 in
set_option maxHeartbeats 4000000 in
theorem kOf_c {w : World} {B b k : Nat} {o : Option T} (ht : TreeAt w B b k o) (hB : B ≤ w.heap.size) (hT : ∀ w', Below w.heap.size w w' → Tz w') (hN : (Tr.entsO o).length ≤ 100000000) {p : List Nat} {A : Option Addr} {c : Nat} (hp : Pts w B A p) (hl : p.length = k) :
    Calls Tryz.prog 55 #[.pointer (some ⟨b, 0, none⟩), .slice A p.length c] w fun e w' => ∃ F1 F2, Tr.entsO o = F1 ++ F2 ∧ Ahead p F1 ∧ Past p F2 ∧ e = .returned (.tuple #[.int .i64 (F1.length : Int), .int .i64 0]) ∧ Below w.heap.size w w' := by
  obtain ⟨hbB, k1, k16, htc, hno⟩ := ht
  refine (callsIn_wide (n := 8)).1 ?_
  refine callsIn_of_wp_marks Tryz.func55 rfl trivial ?_ rfl
  simp only [Tryz.ntmps55, List.size_toArray, List.length_cons, List.length_nil, Nat.reduceAdd, Nat.reduceSub, Array.replicate_succ, Array.replicate_zero, List.push_toArray, List.append_toArray, List.nil_append, List.cons_append]
  have HR := Lib.hid (kRef_ok htc A p.length c k1 k16 hl)
  have HO := Lib.hid (tRoot_c htc)
  have HW := Lib.hid (wayTo_c (c := c) hno hB hp hl)
  have HX := Lib.hid (And.intro hno (And.intro hB (And.intro hT (And.intro hN (And.intro hp (And.intro hl (And.intro k1 k16)))))))
  clear hbB k1 k16 htc hno hB hT hN hp hl
  gi_wp2_with (refine ⟨trivial, ?_⟩; first
    | ((with_reducible refine (callsIn_wide.2 HR.out).mono ?_); rintro e w' ⟨rfl, rfl⟩)
    | ((with_reducible refine (callsIn_wide.2 HO.out).mono ?_); rintro e w' ⟨rfl, rfl⟩)
    | ((with_reducible refine (callsIn_wide.2 HW.out).mono ?_); rintro e w1 ⟨us, o', D, d, hway, hstop, rfl, hrow, hb1⟩; have H1 := Lib.hid (And.intro hway (And.intro hstop (And.intro hrow hb1))); clear hway hstop hrow hb1))
  have hl64 := (H1.out.1.len (fun t e => (HX.out.1 t e).1)).1
  have HW64 := Lib.hid hl64
  clear hl64
  refine wpIn_loop (fun a' W => ∃ (j : Nat) (rs : List Nat) (u11 u30 u31 u32 u33 u34 u35 u36 u37 u45 : Value), j ≤ us.length ∧ a' = { tmps := #[.pointer (some ⟨b, 0, none⟩), .slice A p.length c, undef, undef, .int .i64 0, .int .i64 0, .int .i64 0, .slice D us.length d, .pointer (rootP o'), .pointer (some ⟨w1.heap.size, 0, none⟩), undef, u11, undef, undef, .pointer (some ⟨b, 0, none⟩), .slice A p.length c, .int .i64 0, .int .i64 0, .bool false, undef, .tuple #[.slice D us.length d, .pointer (rootP o')], .pointer (some ⟨b, 0, none⟩), .pointer (rootP o), .slice A p.length c, .tuple #[.slice D us.length d, .pointer (rootP o')], .slice D us.length d, .pointer (rootP o'), .slice D us.length d, .int .i64 (us.length : Int), .int .i64 (j : Int), u30, u31, u32, u33, u34, u35, u36, u37, undef, undef, undef, undef, undef, undef, undef, u45, undef, undef, undef, undef, undef, undef, undef, undef, undef, undef], defers := marksOf rs } ∧ OfI w1 us j rs W) (fun a' _ => us.length - (intOf (a'.tmps.getD 29 undef)).toNat) ?start ?round
  case start =>
    refine ⟨0, [], _, _, _, _, _, _, _, _, _, _, Nat.zero_le _, rfl, ?_⟩
    refine ⟨?_, below_alloc _ _, List.nodup_nil, fun r hr => by cases hr⟩
    rw [Nat.sub_zero, List.drop_length]
    exact heap_at w1 _ _ rfl
  case round =>
    rintro a' W ⟨j, rs, u11, u30, u31, u32, u33, u34, u35, u36, u37, u45, hj, rfl, hI⟩
    have hrow := H1.out.2.2.1.below hI.bel (Nat.le_refl _)
    by_cases hlt : j < us.length
    · obtain ⟨x, hx⟩ := get_lt (us := us.reverse) (k := j) (by rw [List.length_reverse]; exact hlt)
      obtain ⟨t, a⟩ := x
      obtain ⟨q, off, hD, hq, e0, e1⟩ := way_at hrow hx
      subst hD
      have m1 : (0 : Int) ≤ (j : Int) := by omega
      have m2 : (j : Int) < (us.length : Int) := by omega
      have HI := Lib.hid (And.intro hI (And.intro hrow (And.intro hx hlt)))
      clear hI hrow hx hlt hj
      gi_wp2_with (refine ⟨trivial, ?_⟩; (with_reducible refine (callsIn_wide.2 (kids_c (some ⟨t.blk, 0, none⟩) 0 (a : Int) _)).mono ?_); rintro e w' ⟨rfl, rfl⟩)
      have hW6 := ofWorld_size W t a
      change Code.wpIn _ _ _ _ _ _ (ofWorld W t a)
      generalize hW : ofWorld W t a = W6 at *
      refine range_at rfl (by omega) (gf := 164) (lb := #[.pointer (some ⟨W.heap.size + 1 + 1, 0, none⟩), .pointer (some ⟨W.heap.size + 1, 0, none⟩), .pointer (some ⟨W.heap.size + 1 + 2, 0, none⟩)]) rfl trivial (enters_of Tryz.func164 (by kernel_rfl) rfl) ?_
      intro fn _
      generalize hr : recOf fn _ _ _ _ _ = r0
      obtain ⟨s1, s2, s3, s4, s5, s6, s7⟩ := of_start W t a r0
      rw [hW] at s1 s2 s3 s4 s5 s6 s7
      have hL : W6.heap.size + 1 = W.heap.size + 5 := by rw [hW6]
      rw [hL]
      obtain ⟨hI, hrow, hx, hlt⟩ := HI.out
      have hRW : w1.heap.size < W.heap.size := (Array.getElem?_eq_some_iff.1 hI.cnt).1
      have hw1 := H1.out.2.2.2.size
      have hbW1 : Below w.heap.size w (rangeWorld W6 r0) := H1.out.2.2.2.trans ((hI.bel.mono hw1).trans (s1.mono (by omega)))
      obtain ⟨acc, hacc⟩ : ∃ acc, (Tr.foreR (us.drop (us.length - j))).length = acc := ⟨_, rfl⟩
      have hcnt := hI.cnt
      rw [hacc] at hcnt
      have hnode : Node w B k t := way_node_at HX.out.1 H1.out.1 hx
      have hpath := way_count HX.out.1 H1.out.1 hx hlt
      rw [hacc] at hpath
      have hJ0 : OfJ (rangeWorld W6 r0) w1.heap.size (W.heap.size + 5) r0 acc t.ks 0 (rangeWorld W6 r0) := ⟨Foot.refl _ _, by rw [List.take_zero, Tr.entsL_nil, List.length_nil, Nat.add_zero]; exact (s1.block _ hRW).trans hcnt, s6⟩
      have hbJ : ∀ i W', OfJ (rangeWorld W6 r0) w1.heap.size (W.heap.size + 5) r0 acc t.ks i W' → Below w1.heap.size (rangeWorld W6 r0) W' := fun i W' h => h.foot.below (by omega) (by rintro b (rfl | rfl) <;> omega)
      refine (kids1_in 7 (W.heap.size + 5) (W.heap.size + 1 + 1) (W.heap.size + 1) (W.heap.size + 1 + 2) B k a t (fun i W' => OfJ (rangeWorld W6 r0) w1.heap.size (W.heap.size + 5) r0 acc t.ks i W') (fun _ _ => False) ?cells ?drawn ?round (rangeWorld W6 r0) hJ0).mono ?post
      case cells =>
        intro i W' h
        have hb := hbW1.trans ((hbJ i W' h).mono hw1)
        have hk : ∀ x v ty, (rangeWorld W6 r0).heap[x]? = some (.cells #[v] ty (0, 0)) → x ≠ w1.heap.size → x ≠ W.heap.size + 5 → W'.cell? ⟨x, 0, none⟩ = some v := fun x v ty hx h1 h2 => by
          have := (h.foot.block x (Array.getElem?_eq_some_iff.1 hx).1 (by rintro (e | e); exact h1 e; exact h2 e)).trans hx
          rw [cell_of_row W' x _ _ ty (0, 0) this]; rfl
        exact ⟨hk _ _ _ s3 (by omega) (by omega), hk _ _ _ s2 (by omega) (by omega), hk _ _ _ s4 (by omega) (by omega), hnode.below hb HX.out.2.1 (Nat.le_refl _), HX.out.2.2.1 _ hb⟩
      case drawn =>
        intro i W' m h
        exact ⟨h.foot.drewN m, h.cnt, h.lp⟩
      case round =>
        intro i a2 s W' hJ hi _
        refine (YieldAt.mono (?_ : YieldAt _ _ _ _ _ _ fun e W3 => e = .returned (.bool true) ∧ OfJ (rangeWorld W6 r0) w1.heap.size (W.heap.size + 5) r0 acc t.ks (i + 1) W3) fun e W3 h => .inl h)
        refine one_round (r := r0) (a1 := { tmps := #[.pointer (some ⟨b, 0, none⟩), .slice A p.length c, undef, undef, .int .i64 0, .int .i64 0, .int .i64 0, .slice (some ⟨q, off, none⟩) us.length d, .pointer (rootP o'), .pointer (some ⟨w1.heap.size, 0, none⟩), undef, .pointer (some ⟨W.heap.size, 0, none⟩), undef, .pointer (some ⟨s.blk, 0, none⟩), .pointer (some ⟨b, 0, none⟩), .slice A p.length c, .int .i64 0, .int .i64 0, .bool false, undef, .tuple #[.slice (some ⟨q, off, none⟩) us.length d, .pointer (rootP o')], .pointer (some ⟨b, 0, none⟩), .pointer (rootP o), .slice A p.length c, .tuple #[.slice (some ⟨q, off, none⟩) us.length d, .pointer (rootP o')], .slice (some ⟨q, off, none⟩) us.length d, .pointer (rootP o'), .slice (some ⟨q, off, none⟩) us.length d, .int .i64 (us.length : Int), .int .i64 (j : Int), .bool true, .pointer (some ⟨q, off + j * 2, none⟩), .agg #[.pointer (some ⟨t.blk, 0, none⟩), .int .i64 (a : Int)], .pointer (some ⟨W.heap.size, 0, none⟩), .pointer (some ⟨t.blk, 0, none⟩), .pointer (some ⟨W.heap.size, 1, none⟩), .int .i64 (a : Int), .func (.func 164) #[] #[.pointer (some ⟨W.heap.size + 1 + 1, 0, none⟩), .pointer (some ⟨W.heap.size + 1, 0, none⟩), .pointer (some ⟨W.heap.size + 1 + 2, 0, none⟩)], .int .i64 (a2 : Int), .pointer (some ⟨s.blk, 0, none⟩), undef, undef, undef, undef, undef, u45, undef, undef, undef, undef, undef, undef, undef, undef, undef, undef], defers := [] }) trivial hJ.lp (by rw [← hr]; rfl) (by rw [← hr]; rfl) ?assign ?body
        case assign =>
          intro K hK
          rw [← hr]
          simp only [recOf]
          gi_wp2
          exact hK
        case body =>
          have hl1 : (W'.putObj (W.heap.size + 5) (.loop { r0 with state := .busy })).heap[W.heap.size + 5]? = some (.loop { r0 with state := .busy }) := World.putObj_heap_same (Array.getElem?_eq_some_iff.1 hJ.lp).1
          have hb1 := congrArg Loop.body hr
          obtain ⟨R2, hR2⟩ : ∃ R2, R2 = { r0 with state := .busy } := ⟨_, rfl⟩
          rw [← hR2] at hl1
          refine wpIn_mono (body_eq hb1 (?walk : Code.wpIn _ _ _ _ (fun e _ W3 => match e with | .normal => W3.heap[W.heap.size + 5]? = some (.loop R2) ∧ W3.heap[w1.heap.size]? = some (.cells #[.int .u64 ((acc + (Tr.entsL (t.ks.take (i + 1))).length : Nat) : Int)] 62 (0, 0)) ∧ Foot (fun b => b = w1.heap.size ∨ b = W.heap.size + 5) (W'.putObj (W.heap.size + 5) (.loop R2)) W3 | _ => False) _ _)) ?conv
          case conv =>
            intro e a3 W3 hp
            cases e with
            | normal =>
              obtain ⟨p1, p2, p3⟩ := hp
              have hrr : ({ r0 with state := .ready, pending := none } : Loop) = r0 := by rw [← hr]; rfl
              refine ⟨by rw [← hR2]; exact p1, rfl, ?_, ?_, ?_⟩
              · exact ((hJ.foot.trans (foot_put W' _ (.inr rfl)) (fun b h => .inl h)).trans p3 (fun b h => .inl h)).trans (foot_put W3 _ (.inr rfl)) (fun b h => .inl h)
              · exact (World.putObj_heap_other (by omega)).trans p2
              · have := World.putObj_heap_same (w := W3) (o := .loop { r0 with state := .ready, pending := none }) (Array.getElem?_eq_some_iff.1 p1).1
                rw [hrr] at this ⊢
                exact this
            | ret => exact hp.elim
            | exit id => exact hp.elim
            | goto t => exact hp.elim
            | panic ch => exact hp.elim
            | outgrown => exact hp.elim
          case walk =>
          rw [← hR2]
          have hst : Foot (fun b => b = w1.heap.size ∨ b = W.heap.size + 5) W' (W'.putObj (W.heap.size + 5) (.loop R2)) := foot_put W' _ (.inr rfl)
          have hlR : (W'.putObj (W.heap.size + 5) (.loop R2)).heap[w1.heap.size]? = some (.cells #[.int .u64 ((acc + (Tr.entsL (t.ks.take i)).length : Nat) : Int)] 62 (0, 0)) := (World.putObj_heap_other (by omega)).trans hJ.cnt
          have hb := hbW1.trans ((hbJ i W' hJ).mono hw1)
          have hnP : Node (W'.putObj (W.heap.size + 5) (.loop R2)) w.heap.size k s := by
            have h1 := hnode.below (hb.trans ((below_putObj W' (.loop R2) (by omega : w.heap.size ≤ W.heap.size + 5)))) HX.out.2.1 HX.out.2.1
            have hm := List.mem_of_getElem? hi
            obtain ⟨g', l', pre', ks', rfl⟩ := Tr.ks_br hm
            exact h1.kid hm
          have hsz1 : W.heap.size + 6 ≤ W'.heap.size := by have := hJ.foot.size; omega
          generalize hW1 : W'.putObj (W.heap.size + 5) (.loop R2) = W1 at *
          have hs1 : W1.heap.size = W'.heap.size := by rw [← hW1]; simp
          simp only [recOf]
          obtain ⟨kp, hnd⟩ := hnP.2.nd
          have hcs := (kids_count hi).1
          have hcm := (kids_count hi).2
          have htot : acc + (Tr.entsL t.ks).length ≤ 100000000 := by
            have hm := List.mem_of_getElem? hi
            rw [← Tr.ents_ks hm]
            have := HX.out.2.2.2.1
            omega
          obtain ⟨x, hx0⟩ : ∃ x, acc + (Tr.entsL (t.ks.take i)).length = x := ⟨_, rfl⟩
          obtain ⟨y, hy0⟩ : ∃ y, s.ents.length = y := ⟨_, rfl⟩
          have hxy : acc + (Tr.entsL (t.ks.take (i + 1))).length = x + y := by omega
          rw [hxy]
          rw [hx0] at hlR
          obtain ⟨S, hS⟩ : ∃ S, Tr.sums s.ents = S := ⟨_, rfl⟩
          have hSc : S.c = y := by rw [← hS, Tr.sums_c, hy0]
          rw [hS] at hnd
          have HS := Lib.hid fun (w2 : World) (hb2 : Below W1.heap.size W1 w2) => nSums_c (hnd.below hb2 (by omega) (Nat.le_refl _)) (show w.heap.size ≤ w2.heap.size by have := hb2.size; omega)
          have HCl := Lib.hid fun (w2 : World) (hb2 : Below W1.heap.size W1 w2) => (hb2.block w1.heap.size (by omega)).trans hlR
          have HLl := Lib.hid fun (w2 : World) (hb2 : Below W1.heap.size W1 w2) => (hb2.block (W.heap.size + 5) (by omega)).trans hl1
          have hbb := Below.refl W1.heap.size W1
          have c0 : W1.cell? ⟨w1.heap.size, 0, none⟩ = some (.int .u64 (x : Int)) := by rw [cell_of_row W1 _ _ _ _ (0, 0) hlR]; rfl
          have hmx : Tryz.prog.follows .mixedOrders = true := by kernel_rfl
          have hwr : IntKind.u64.wrap ((x : Int) + (S.c : Int)) = ((x + y : Nat) : Int) := by rw [hSc, IntWalk.u64_in _ (by omega)]; omega
          have hszl : w1.heap.size < W1.heap.size := by omega
          have hRne : W.heap.size + 5 ≠ w1.heap.size := by omega
          clear hJ hi hb hb1 hW1 hr hR2 hst hnP hnd hcs hcm htot hx0 hy0 hxy hS hSc hlR hl1 hcnt hpath hJ0 hbJ hnode hI hrow hx hlt hRW hw1 hbW1 hL hW6 hW s1 s2 s3 s4 s5 s6 s7 e0 e1 hq m1 m2 hacc hsz1 hs1
          have hfld := sums_count
          gi_wp2
          gi_region_with_o (refine ⟨trivial, ?_⟩; (with_reducible refine (CallsIn.inRound (W.heap.size + 5) (callsIn_wide.2 (HS.out _ (by ((repeat (first | refine Below.drew ?_ | (with_reducible refine below_drewN _ ?_) | refine Below.alloc ?_ (by first | omega | (simp; done) | (simp; omega)) _ | refine Below.setCell ?_ (by first | omega | (simp; done) | (simp; omega)) _)); first | exact Below.refl _ _ | assumption | exact below_drewN _ (Below.refl _ _) | exact below_drewN _ (below_drewN _ (Below.refl _ _))))))).mono ?_); rintro e w2 ⟨rfl, hb2⟩; have hB2 := Below.trans (show Below W1.heap.size W1 _ by ((repeat (first | refine Below.drew ?_ | (with_reducible refine below_drewN _ ?_) | refine Below.alloc ?_ (by first | omega | (simp; done) | (simp; omega)) _ | refine Below.setCell ?_ (by first | omega | (simp; done) | (simp; omega)) _)); first | exact Below.refl _ _ | assumption | exact below_drewN _ (Below.refl _ _) | exact below_drewN _ (below_drewN _ (Below.refl _ _)))) (hb2.mono (Below.size (show Below W1.heap.size W1 _ by ((repeat (first | refine Below.drew ?_ | (with_reducible refine below_drewN _ ?_) | refine Below.alloc ?_ (by first | omega | (simp; done) | (simp; omega)) _ | refine Below.setCell ?_ (by first | omega | (simp; done) | (simp; omega)) _)); first | exact Below.refl _ _ | assumption | exact below_drewN _ (Below.refl _ _) | exact below_drewN _ (below_drewN _ (Below.refl _ _)))))); have q0 : w2.cell? ⟨w1.heap.size, 0, none⟩ = some (.int .u64 (x : Int)) := (by rw [cell_of_row w2 _ _ _ _ (0, 0) (HCl.out _ hB2)]; rfl); have q1 := frozen_of_row w2 w1.heap.size 0 _ _ (HCl.out _ hB2); clear hb2)
          all_goals (
            refine ⟨(Below.heap_setCell _ _ _ _ hRne).trans (HLl.out _ hB2), ?_, (Foot.of_below (F := fun b => b = w1.heap.size ∨ b = W.heap.size + 5) hB2).trans (Foot.setCell w2 (F := fun b => b = w1.heap.size ∨ b = W.heap.size + 5) (a := ⟨w1.heap.size, 0, none⟩) (.inl rfl) _) (fun b h => .inl h)⟩
            rw [heap_setCell_same w2 _ 0 _ _ _ (HCl.out _ hB2)]
            rfl)
      case post =>
        have hQ : Hid (r0.pending = none ∧ r0.state ≠ .busy) := Lib.hid (by rw [← hr]; exact ⟨rfl, by intro h; cases h⟩)
        rintro e W2 ⟨⟨v, rfl⟩, hJ'⟩
        have hJ := hJ'.resolve_right (by rintro ⟨_, _, _, _, _, h⟩; exact h)
        clear hJ'
        refine ⟨none, W2.putObj (W.heap.size + 5) (.loop { r0 with state := .exhausted }), by rw [← hQ.out.1]; exact run_endLoop hJ.lp hQ.out.2, ?_⟩
        have hI2 : OfI w1 us (j + 1) (W6.heap.size :: rs) (W2.putObj (W.heap.size + 5) (.loop { r0 with state := .exhausted })) := by
          have hlow : ∀ x, x < W.heap.size + 5 → x ≠ w1.heap.size → (W2.putObj (W.heap.size + 5) (.loop { r0 with state := .exhausted })).heap[x]? = (rangeWorld W6 r0).heap[x]? := fun x hx hne =>
            (World.putObj_heap_other (by omega)).trans (hJ.foot.block x (by omega) (by rintro (e | e) <;> omega))
          have hmk := hI.mks
          refine ⟨?_, (hI.bel.trans (s1.mono (by omega))).trans ((hbJ _ _ hJ).trans (below_putObj _ _ (by omega))), List.nodup_cons.2 ⟨fun hm => ?_, hI.nd⟩, fun r hr' => ?_⟩
          · rw [foreR_step hx hlt]
            refine (World.putObj_heap_other (by omega)).trans ?_
            have h1 := hJ.cnt
            rw [show Tr.foreR ((t, a) :: us.drop (us.length - j)) = Tr.foreR (us.drop (us.length - j)) ++ Tr.entsL (t.ks.take (Sl.idx t.ks (a : Int))) from rfl, List.length_append, hacc]
            exact h1
          · have h1 := (Array.getElem?_eq_some_iff.1 (hmk _ hm).2).1
            omega
          · rcases List.mem_cons.1 hr' with rfl | hr'
            · exact ⟨by omega, (hlow _ (by omega) (by omega)).trans (by rw [hW6]; exact s5)⟩
            · have h1 := hmk r hr'
              have h2 := (Array.getElem?_eq_some_iff.1 h1.2).1
              refine ⟨h1.1, (hlow _ (by omega) (fun e => ?_)).trans ((s1.block _ h2).trans h1.2)⟩
              have h3 := hI.cnt
              rw [← e, h1.2] at h3
              simp at h3
        generalize W2.putObj (W.heap.size + 5) (.loop { r0 with state := .exhausted }) = W3 at *
        simp only [marked]
        have hm5 : ({ target := Target.collected W6.heap.size, args := #[] } : Deferred) :: marksOf rs = marksOf (W6.heap.size :: rs) := rfl
        rw [hm5]
        have HI2 := Lib.hid (And.intro hI2 hlt)
        have hj64 : (j : Int) + 1 ≤ 64 := by have := HW64.out; omega
        clear hJ hI2 hQ hr hm5 hJ0 hbJ hnode hI hrow hx hlt hRW hw1 hbW1 hL hW6 hW s1 s2 s3 s4 s5 s6 s7 e0 e1 hq m1 m2 hacc hcnt hpath
        gi_wp2
        exact ⟨⟨j + 1, W6.heap.size :: rs, _, _, _, _, _, _, _, _, _, _, by have := HI2.out.2; omega, rfl, HI2.out.1⟩, by have := HI2.out.2; simp [intOf]; omega⟩
    · have hjl : j = us.length := by omega
      subst hjl
      have hb := H1.out.2.2.2.trans (hI.bel.mono H1.out.2.2.2.size)
      have hcnt := hI.cnt
      rw [Nat.sub_self, List.drop_zero] at hcnt
      have c0 : W.cell? ⟨w1.heap.size, 0, none⟩ = some (.int .u64 ((Tr.foreR us).length : Int)) := by rw [cell_of_row W _ _ _ _ (0, 0) hcnt]; rfl
      have d1 : decide ((us.length : Int) < (us.length : Int)) = false := decide_eq_false (by omega)
      have hp : Pts W w.heap.size A p := (HX.out.2.2.2.2.1.below' hb HX.out.2.1).keep HX.out.2.1 (fun _ _ => rfl)
      have hsd := H1.out.1.sides (k := k) HX.out.2.2.2.2.2.1 HX.out.2.2.2.2.1.1 (fun t e => (HX.out.1 t e).1)
      have hno' : NodeO w B k o' := way_node HX.out.1 H1.out.1
      have hlow : Hid (∀ F1 F2, Tr.entsO o = F1 ++ F2 → F1.length ≤ 100000000) := Lib.hid fun F1 F2 e => by
        have := HX.out.2.2.2.1
        rw [e, List.length_append] at this
        omega
      cases o' with
      | none =>
        have hsplit : Tr.entsO o = Tr.foreR us ++ Tr.aft us := by
          have hc := H1.out.1.chain.2 rfl
          have := Tr.bef_aft (k := k) hc (H1.out.1.wf (fun t e => (HX.out.1 t e).1)).2
          rw [way_bef H1.out.1] at this
          exact this.symm
        have hle := hlow.out _ _ hsplit
        have HA := Lib.hid (isAhead_no A p.length c W (by have := HX.out.2.2.2.2.2.1; have := HX.out.2.2.2.2.2.2.2; unfold maxLen; omega))
        have HE := Lib.hid (And.intro hI (And.intro hb (And.intro hsplit hsd)))
        obtain ⟨x, hx0⟩ : ∃ x, (Tr.foreR us).length = x := ⟨_, rfl⟩
        rw [hx0] at c0 hle
        have hxw : wrap64 (x : Int) = (x : Int) := IntWalk.wrap64_in _ (by omega)
        have HXX := Lib.hid hx0
        clear hI hb hsplit hsd hcnt hp hno' hlow hrow hj hlt hx0 hle
        simp only [rootP_no]
        gi_wp2_with (refine ⟨trivial, ?_⟩; (with_reducible refine (callsIn_wide.2 HA.out).mono ?_); rintro e w' ⟨rfl, rfl⟩)
        rw [hxw]
        show LeavesInM _ _ _ _ _ _ (marksOf rs) _ _
        refine leaves_marks (b := w.heap.size) rs _ HE.out.1.nd (fun r hr => ⟨Nat.le_trans H1.out.2.2.2.size (HE.out.1.mks r hr).1, (HE.out.1.mks r hr).2⟩) fun w' hb' => ?_
        exact ⟨.tuple #[.int .i64 ((x : Int)), .int .i64 0], by simp [results, Tryz.f55, go_sem], Tr.foreR us, Tr.aft us, HE.out.2.2.1, HE.out.2.2.2.1, fun e he => Nat.le_of_lt (HE.out.2.2.2.2.2 trivial e he), by rw [HXX.out], HE.out.2.1.trans hb'⟩
      | some t =>
        have hsplit : Tr.entsO o = Tr.foreR us ++ t.ents ++ Tr.aftR us := by
          have hw := H1.out.1.wf (fun t e => (HX.out.1 t e).1)
          exact (Tr.steps_all (H1.out.1.chain.1 t 0 rfl) (fun x hx => by
            rcases List.mem_cons.1 hx with rfl | hx
            · exact hw.1 t rfl
            · exact hw.2 x hx)).symm
        have hle := hlow.out _ _ hsplit
        rw [List.length_append] at hle
        have hnt0 := hno' t rfl
        have hnt := hnt0.below hb HX.out.2.1 (Nat.le_refl _)
        have hBW : B ≤ W.heap.size := Nat.le_trans HX.out.2.1 hb.size
        have hss := Tr.stop_side hnt0.1 HX.out.2.2.2.2.2.1 HX.out.2.2.2.2.1.1 H1.out.2.1
        have hmk : ∀ w', Below W.heap.size W w' → ∀ r ∈ rs, w'.heap[r]? = some (.deferred (some [])) := fun w' h r hr => (h.block r (Array.getElem?_eq_some_iff.1 (hI.mks r hr).2).1).trans (hI.mks r hr).2
        obtain ⟨r, hr⟩ : ∃ r, decide (Z.cmp t.pre p < 0) = r := ⟨_, rfl⟩
        have HA := Lib.hid (isAhead_c (c := c) hnt hBW hp hb.size HX.out.2.2.2.2.2.1 r hr)
        obtain ⟨kp, hnd⟩ := hnt.2.nd
        obtain ⟨S, hS⟩ : ∃ S, Tr.sums t.ents = S := ⟨_, rfl⟩
        have hSc : S.c = t.ents.length := by rw [← hS, Tr.sums_c]
        rw [hS] at hnd
        have HS := Lib.hid fun (w2 : World) (hb2 : Below W.heap.size W w2) => nSums_c (hnd.below hb2 hBW (Nat.le_refl B)) (Nat.le_trans hBW hb2.size)
        have hRW : w1.heap.size < W.heap.size := (Array.getElem?_eq_some_iff.1 hcnt).1
        have HCl := Lib.hid fun (w2 : World) (hb2 : Below W.heap.size W w2) => (hb2.block w1.heap.size hRW).trans hcnt
        have HE := Lib.hid (And.intro hI (And.intro hb (And.intro hsplit (And.intro hsd (And.intro hss (And.intro hmk (And.intro hSc hBW)))))))
        have HR := Lib.hid hr
        obtain ⟨x, hx0⟩ : ∃ x, (Tr.foreR us).length = x := ⟨_, rfl⟩
        rw [hx0] at c0 hle
        have HXX := Lib.hid hx0
        obtain ⟨y, hy0⟩ : ∃ y, S.c = y := ⟨_, rfl⟩
        have HYY := Lib.hid hy0
        rw [← hSc, hy0] at hle
        obtain ⟨hxw, hxw2, hxy⟩ := of_arith hle
        rw [← hy0] at hxy
        have hmx : Tryz.prog.follows .mixedOrders = true := by kernel_rfl
        have hfld := sums_count
        have hbb := Below.refl W.heap.size W
        clear hI hb hsplit hsd hss hcnt hp hno' hlow hrow hj hlt hx0 hle hnt0 hnt hBW hmk hnd hSc hS hr hy0 hRW d1
        have d1 : decide ((us.length : Int) < (us.length : Int)) = false := decide_eq_false (by omega)
        simp only [rootP_yes]
        cases r with
        | false =>
          gi_wp2_with (refine ⟨trivial, ?_⟩; (with_reducible refine (callsIn_wide.2 HA.out).mono ?_); rintro e w2 ⟨rfl, hb2⟩; have q0 : w2.cell? ⟨w1.heap.size, 0, none⟩ = some (.int .u64 (x : Int)) := (by rw [cell_of_row w2 _ _ _ _ (0, 0) (HCl.out _ hb2), HXX.out]; rfl))
          rw [hxw]
          show LeavesInM _ _ _ _ _ _ (marksOf rs) _ _
          refine leaves_marks (b := w.heap.size) rs _ HE.out.1.nd (fun r hr => ⟨Nat.le_trans H1.out.2.2.2.size (HE.out.1.mks r hr).1, HE.out.2.2.2.2.2.1 _ hb2 r hr⟩) fun w' hb' => ?_
          exact ⟨.tuple #[.int .i64 ((x : Int)), .int .i64 0], by simp [results, Tryz.f55, go_sem], Tr.foreR us, (t.ents ++ Tr.aftR us), (by rw [HE.out.2.2.1, List.append_assoc]), HE.out.2.2.2.1.1, (fun e he => by
            rcases List.mem_append.1 he with he | he
            · exact HE.out.2.2.2.2.1.2.1 (by have := of_decide_eq_false HR.out; omega) e he
            · exact Nat.le_of_lt (HE.out.2.2.2.1.2.1 ⟨t, rfl⟩ e he)), by rw [HXX.out], (HE.out.2.1.trans (hb2.mono HE.out.2.1.size)).trans hb'⟩
        | true =>
          gi_wp2_with (refine ⟨trivial, ?_⟩; (with_reducible refine (callsIn_wide.2 HA.out).mono ?_); rintro e w2 ⟨rfl, hb2⟩; have q0 : w2.cell? ⟨w1.heap.size, 0, none⟩ = some (.int .u64 (x : Int)) := (by rw [cell_of_row w2 _ _ _ _ (0, 0) (HCl.out _ hb2), HXX.out]; rfl))
          refine wpIn_calm (fun Q2 hQ2 => ?_)
          refine wpIn_wide.2 ?_
          go_region_with (go_at_call 101; refine (HS.out _ (by ((repeat (first | refine Below.drew ?_ | (with_reducible refine below_drewN _ ?_) | refine Below.alloc ?_ (by first | omega | (simp; done) | (simp; omega)) _ | refine Below.setCell ?_ (by first | omega | (simp; done) | (simp; omega)) _)); first | exact Below.refl _ _ | assumption | exact below_drewN _ (Below.refl _ _) | exact below_drewN _ (below_drewN _ (Below.refl _ _))))).mono ?_; rintro e w3 ⟨rfl, hb3⟩; have hB3 := Below.trans (show Below W.heap.size W _ by ((repeat (first | refine Below.drew ?_ | (with_reducible refine below_drewN _ ?_) | refine Below.alloc ?_ (by first | omega | (simp; done) | (simp; omega)) _ | refine Below.setCell ?_ (by first | omega | (simp; done) | (simp; omega)) _)); first | exact Below.refl _ _ | assumption | exact below_drewN _ (Below.refl _ _) | exact below_drewN _ (below_drewN _ (Below.refl _ _)))) (hb3.mono (Below.size (show Below W.heap.size W _ by ((repeat (first | refine Below.drew ?_ | (with_reducible refine below_drewN _ ?_) | refine Below.alloc ?_ (by first | omega | (simp; done) | (simp; omega)) _ | refine Below.setCell ?_ (by first | omega | (simp; done) | (simp; omega)) _)); first | exact Below.refl _ _ | assumption | exact below_drewN _ (Below.refl _ _) | exact below_drewN _ (below_drewN _ (Below.refl _ _)))))); have q2 : w3.cell? ⟨w1.heap.size, 0, none⟩ = some (.int .u64 (x : Int)) := (by rw [cell_of_row w3 _ _ _ _ (0, 0) (HCl.out _ hB3), HXX.out]; rfl); have q1 := frozen_of_row w3 w1.heap.size 0 _ _ (HCl.out _ hB3); clear hb3)
          all_goals refine hQ2 _ _ ?_
          all_goals clear hQ2
          all_goals gi_wp2
          all_goals (
            rw [HYY.out, hxw2]
            show LeavesInM _ _ _ _ _ _ (marksOf rs) _ _
            have hset : Below W.heap.size W w3 := hB3
            refine leaves_marks (b := w.heap.size) rs _ HE.out.1.nd (fun r hr => ⟨Nat.le_trans H1.out.2.2.2.size (HE.out.1.mks r hr).1, (Below.heap_setCell _ _ _ _ (fun e => ?_)).trans (HE.out.2.2.2.2.2.1 _ hset r hr)⟩) fun w' hb' => ?_
            · have h3 := HE.out.1.cnt
              have h4 := (HE.out.1.mks r hr).2
              rw [show r = w1.heap.size from e, h3] at h4
              simp at h4
            · refine ⟨.tuple #[.int .i64 ((x : Int) + (y : Int)), .int .i64 0], by simp [results, Tryz.f55, go_sem], Tr.foreR us ++ t.ents, Tr.aftR us, HE.out.2.2.1, fun e he => ?_, fun e he => Nat.le_of_lt (HE.out.2.2.2.1.2.1 ⟨t, rfl⟩ e he), ?_, ((HE.out.2.1.trans (hset.mono HE.out.2.1.size)).setCell (p := ⟨w1.heap.size, 0, none⟩) H1.out.2.2.2.size _).trans hb'⟩
              · rcases List.mem_append.1 he with he | he
                · exact HE.out.2.2.2.1.1 e he
                · exact HE.out.2.2.2.2.1.1 (of_decide_eq_true HR.out) e he
              · rw [List.length_append, HXX.out, ← HE.out.2.2.2.2.2.2.1, HYY.out]; rfl)
end Go.Proofs.YtpgkfccfabnjdaaGreatDoor

/-
  CONTRACTS of package rank, seventh part: Nth's closure. Laid by wip/gen40.py.
-/
namespace Go.Proofs.YtpgkfccfabnjdaaGreatDoor
open Go.RowKit Go.Shelf
open Tr (T S4 Ent)
attribute [local go_sem] Oper.semAt_some

theorem Foot.wide {F G : Nat → Prop} {w w' : World} (h : Foot F w w') (hF : ∀ b, F b → G b) : Foot G w w' := ⟨h.os, h.tape, h.output, h.size, fun k hk hn => h.block k hk fun c => hn (hF k c)⟩
end Go.Proofs.YtpgkfccfabnjdaaGreatDoor

/-
  CONTRACTS of package rank, eighth part: Nth.
-/
namespace Go.Proofs.YtpgkfccfabnjdaaGreatDoor
open Go.ChangeShapes Go.WideShapes Go.ChangeAt Go.RowKit
open Tr (T S4 Ent)

theorem get_at {ks : List (Nat × T)} (hs : Sl.Srt ks) {i a : Nat} {s : T} (h : ks[i]? = some (a, s)) : Sl.get ks (a : Int) = some s := Sl.get_of_mem hs (p := (a, s)) (List.mem_of_getElem? h)
end Go.Proofs.YtpgkfccfabnjdaaGreatDoor
