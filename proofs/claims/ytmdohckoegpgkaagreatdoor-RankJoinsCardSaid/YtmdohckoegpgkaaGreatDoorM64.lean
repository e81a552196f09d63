import Derived.Test.YtmdohckoegpgkaaGreatDoorM06
import Derived.Test.YtmdohckoegpgkaaGreatDoorM23
import Derived.Test.YtmdohckoegpgkaaGreatDoorM28
import Derived.Test.YtmdohckoegpgkaaGreatDoorM24
import Derived.Test.YtmdohckoegpgkaaGreatDoorM31
/-
  CONTRACTS of package rank, first part: a scope with one label inside a fence; kids and its iterator.
-/
namespace Go.Proofs.YtmdohckoegpgkaaGreatDoor
open Go.RowKit Go.Shelf
open Tr (T S4 Ent)
attribute [local go_sem] Oper.semAt_some

/-- A SCOPE IN WHICH THE RUN JUMPS BACK TO ONE LABEL, inside a fence: what holds at every jump, with a measure that every pass lowers. -/
theorem stepR_scope' {P : Program} {b : Frame} {a : Act} {k : List Item} {cs : List Frame} {w : World} {c : Code} : step P (lone (b.atR a (.code (.scope c) :: k)) cs w) = .next (lone (b.atR a (.code c :: .inScope c :: k)) cs w) :=
  step_lone_go (by simp [stepG, stepG.exec, Frame.atR])
theorem stepR_inScope' {P : Program} {b : Frame} {a : Act} {k : List Item} {cs : List Frame} {w : World} {c : Code} : step P (lone (b.atR a (.inScope c :: k)) cs w) = .next (lone (b.atR a k) cs w) :=
  step_lone_go (by simp [stepG, stepG.exec, Frame.atR])
theorem wpIn_scope_count {F : Fence} {n : Nat} {P : Program} {c rest : Code} {Q : Exit → Act → World → Prop} {a : Act} {w : World} (l : Nat) (J : Nat → Act → World → Prop) (hf : findLabel c l = some (Code.skip.seq rest))
    (first : (∀ m a w, J m a w → rest.wpIn F n P (Exit.jump l (fun a' w' => ∃ m, J m a' w') Q) a w) → c.wpIn F n P (Exit.jump l (fun a' w' => ∃ m, J m a' w') Q) a w)
    (pass : ∀ m a w, J m a w → rest.wpIn F n P (Exit.jump l (fun a' w' => ∃ m', m' < m ∧ J m' a' w') Q) a w) : (Code.scope c).wpIn F n P Q a w := by
  have weak : ∀ m a w, J m a w → rest.wpIn F n P (Exit.jump l (fun a' w' => ∃ m, J m a' w') Q) a w := fun m a w h => wpIn_mono (pass m a w h) (by
    intro e a' w' h'
    cases e <;> first | exact h' | exact ⟨h'.1, h'.2.imp fun m hm => hm.2⟩)
  intro b k cs hro hb hr
  have hg : gotoIn l (.inScope c :: k) = some (.code (Code.skip.seq rest) :: .inScope c :: k) := by simp [gotoIn, hf]
  have key : ∀ m a w, J m a w → ∃ e a' w', Q e a' w' ∧ ArrivesIn (Machine.fenced P F) P (lone (b.atR a (.code (Code.skip.seq rest) :: .inScope c :: k)) cs w) b k cs e a' w' := by
    intro m
    induction m using Nat.strongRecOn with
    | _ m ih =>
      intro a w hJ
      obtain ⟨e, a₁, w₁, hq, harr⟩ := (wpIn_seq (wpIn_skip (pass m a w hJ)) : (Code.skip.seq rest).wpIn F n P _ a w) b (.inScope c :: k) cs hro hb hr
      cases e with
      | normal => exact ⟨.normal, a₁, w₁, hq, StepsIn.trans harr (.one (fenced_calm hb hr rfl) stepR_inScope')⟩
      | exit id =>
        have hx : exitTo id (.inScope c :: k) = exitTo id k := by simp [exitTo]
        exact ⟨.exit id, a₁, w₁, hq, fun k' hk => harr.1 k' (by rw [hx]; exact hk), fun hr' hk => harr.2 hr' (by rw [hx]; exact hk)⟩
      | goto l' =>
        obtain ⟨rfl, m', hlt, hJ'⟩ := hq
        obtain ⟨e₂, a₂, w₂, hq₂, harr₂⟩ := ih m' hlt a₁ w₁ hJ'
        exact ⟨e₂, a₂, w₂, hq₂, .of_steps (harr.1 _ hg) harr₂⟩
      | ret => exact ⟨_, a₁, w₁, hq, harr⟩
      | panic ch => exact ⟨_, a₁, w₁, hq, harr⟩
      | outgrown => exact ⟨_, a₁, w₁, hq, harr⟩
  have h0 : (lone (b.atR a (.code (.scope c) :: k)) cs w).fenced P F := fenced_calm hb hr rfl
  obtain ⟨e, a₁, w₁, hq, harr⟩ := first weak b (.inScope c :: k) cs hro hb hr
  cases e with
  | normal => exact ⟨.normal, a₁, w₁, hq, .head h0 stepR_scope' (StepsIn.trans harr (.one (fenced_calm hb hr rfl) stepR_inScope'))⟩
  | exit id =>
    have hx : exitTo id (.inScope c :: k) = exitTo id k := by simp [exitTo]
    exact ⟨.exit id, a₁, w₁, hq, .of_steps (.one h0 stepR_scope') (show ArrivesIn (Machine.fenced P F) P (lone (b.atR a (.code c :: .inScope c :: k)) cs w) b k cs (.exit id) a₁ w₁ from ⟨fun k' hk => harr.1 k' (by rw [hx]; exact hk), fun hr' hk => harr.2 hr' (by rw [hx]; exact hk)⟩)⟩
  | goto l' =>
    obtain ⟨rfl, m, hJ'⟩ := hq
    obtain ⟨e₂, a₂, w₂, hq₂, harr₂⟩ := key m a₁ w₁ hJ'
    exact ⟨e₂, a₂, w₂, hq₂, .of_steps (.head h0 stepR_scope' (harr.1 _ hg)) harr₂⟩
  | ret => exact ⟨_, a₁, w₁, hq, .of_steps (.one h0 stepR_scope') harr⟩
  | panic ch => exact ⟨_, a₁, w₁, hq, .of_steps (.one h0 stepR_scope') harr⟩
  | outgrown => exact ⟨_, a₁, w₁, hq, .of_steps (.one h0 stepR_scope') harr⟩

/-! ### kids -/
theorem kids_c (x : Option Addr) (lo hi : Int) (w : World) :
    Calls Tryz.prog 100 #[.pointer x, .int .i64 lo, .int .i64 hi] w fun e w' => e = .returned (.func (.func 144) #[] #[.pointer (some ⟨w.heap.size + 1, 0, none⟩), .pointer (some ⟨w.heap.size, 0, none⟩), .pointer (some ⟨w.heap.size + 2, 0, none⟩)]) ∧
      w' = ((w.alloc (.cells #[.pointer x] 66)).alloc (.cells #[.int .i64 lo] 3)).alloc (.cells #[.int .i64 hi] 3) := by
  go_enter Tryz.func100, Tryz.ntmps100
  go_wp2
  go_ret
  exact ⟨rfl, rfl⟩
/-- the kid behind a kid -/
theorem idx_next {ks : List (Nat × T)} (hs : Sl.Srt ks) {j a : Nat} {s : T} (h : ks[j]? = some (a, s)) : Sl.idx ks ((a + 1 : Nat) : Int) = j + 1 := by
  have e1 : Sl.idx ks (a : Int) = j := Sl.idx_of hs h
  have e2 := Sl.idx_succ hs (a : Int)
  have e3 : Sl.has ks (a : Int) = true := by
    unfold Sl.has
    rw [Sl.get_of_mem hs (p := (a, s)) (List.mem_of_getElem? h)]
    rfl
  rw [e3, if_pos rfl, e1] at e2
  rw [← e2]
  congr 1
end Go.Proofs.YtmdohckoegpgkaaGreatDoor

/-
  CONTRACTS of package rank, second part: the iterator of kids: the kids from the first one on, as far as their addresses are below 'to'.
-/
namespace Go.Proofs.YtmdohckoegpgkaaGreatDoor
open Go.RowKit Go.Shelf
open Tr (T S4 Ent)
attribute [local go_sem] Oper.semAt_some

/-- the cells that the iterator holds -/
structure KidC (W : World) (B k gf gn gt to : Nat) (t : T) : Prop where
  c0 : W.cell? ⟨gf, 0, none⟩ = some (.int .i64 0)
  c1 : W.cell? ⟨gn, 0, none⟩ = some (.pointer (some ⟨t.blk, 0, none⟩))
  c2 : W.cell? ⟨gt, 0, none⟩ = some (.int .i64 (to : Int))
  nd : Node W B k t
  tz : Tz W
theorem idx_stop {ks : List (Nat × T)} {j to a : Nat} {s : T} (h : ks[j]? = some (a, s)) (hj : j ≤ Sl.idx ks (to : Int)) (hle : to ≤ a) : Sl.idx ks (to : Int) = j := by
  rcases Nat.lt_or_ge j (Sl.idx ks (to : Int)) with c | c
  · have := Sl.idx_below ks (to : Int) j (a, s) c h
    simp only at this
    omega
  · omega
theorem idx_more {ks : List (Nat × T)} (hs : Sl.Srt ks) {j to a : Nat} {s : T} (h : ks[j]? = some (a, s)) (hlt : a < to) : j + 1 ≤ Sl.idx ks (to : Int) := by
  rcases Nat.lt_or_ge j (Sl.idx ks (to : Int)) with c | c
  · exact c
  · have := Sl.idx_above hs (to : Int) c h
    simp only at this
    omega

set_option maxRecDepth 100000 in
set_option maxHeartbeats 4000000 in
theorem kids1_in (n : Nat) (L gf gn gt B k to : Nat) (t : T) (J Jx : Nat → World → Prop)
    (hJc : ∀ j W, J j W → KidC W B k gf gn gt to t) (hJd : ∀ j W i, J j W → J j (W.drewN i))
    (hY : ∀ j a s W, J j W → t.ks[j]? = some (a, s) → a < to → YieldAt Fence.wide (n - 1) Tryz.prog L #[.int .i64 (a : Int), .pointer (some ⟨s.blk, 0, none⟩)] W fun e W' =>
      (e = .returned (.bool true) ∧ J (j + 1) W') ∨ (e = .returned (.bool false) ∧ Jx j W'))
    (W : World) (h0 : J 0 W) :
    CallsIn Fence.wide n Tryz.prog 144 #[.func (Fn.yield L) #[] #[], .pointer (some ⟨gf, 0, none⟩), .pointer (some ⟨gn, 0, none⟩), .pointer (some ⟨gt, 0, none⟩)] W fun e W' => (∃ v, e = .returned v) ∧
      (J (Sl.idx t.ks (to : Int)) W' ∨ ∃ j a s, t.ks[j]? = some (a, s) ∧ a < to ∧ Jx j W') := by
  refine callsIn_of_wp Tryz.func144 rfl trivial ?_ rfl
  simp only [Tryz.ntmps144, List.size_toArray, List.length_cons, List.length_nil, Nat.reduceAdd, Nat.reduceSub, Array.replicate_succ, Array.replicate_zero, List.push_toArray, List.append_toArray, List.nil_append, List.cons_append]
  have hk0 := hJc 0 W h0
  obtain ⟨c0, c1, c2, hnd, htz⟩ := hk0
  have hsrt := hnd.1.srt
  have hl16 := hnd.1.lt16
  have HX := Lib.hid (And.intro hsrt (And.intro hl16 (And.intro h0 hnd.1.lt16)))
  have HJ := Lib.hid (And.intro hJc (And.intro hJd hY))
  clear hnd htz hsrt hl16 h0 hJc hJd hY
  refine wpIn_scope_count 0 (fun m a' w' => ∃ (nx j : Nat) (u4 u6 u7 u8 u9 u10 u11 u12 u13 u14 u15 u16 u17 u18 u19 u20 u21 u22 u23 u24 u25 u26 u27 u28 u29 u30 : Value),
      a' = { tmps := #[.func (Fn.yield L) #[] #[], .pointer (some ⟨gf, 0, none⟩), .pointer (some ⟨gn, 0, none⟩), .pointer (some ⟨gt, 0, none⟩), u4, .int .i64 (nx : Int), u6, u7, u8, u9, u10, u11, u12, u13, u14, u15, u16, u17, u18, u19, u20, u21, u22, u23, u24, u25, u26, u27, u28, u29, u30], defers := [] } ∧
      nx ≤ 65536 ∧ Sl.idx t.ks (nx : Int) = j ∧ j ≤ Sl.idx t.ks (to : Int) ∧ J j w' ∧ m + j = t.ks.length) rfl ?first ?pass
  case first =>
    intro hp
    have HP := Lib.hid hp
    clear hp
    gi_wp2
    refine wpIn_label ?_
    rename_i hK
    exact hK _ _ (HP.out t.ks.length _ _ ⟨0, 0, _, _, _, _, _, _, _, _, _, _, _, _, _, _, _, _, _, _, _, _, _, _, _, _, _, _, rfl, by omega, Sl.idx_zero _, Nat.zero_le _, HX.out.2.2.1, by omega⟩)
  case pass =>
    rintro m a' w' ⟨nx, j, u4, u6, u7, u8, u9, u10, u11, u12, u13, u14, u15, u16, u17, u18, u19, u20, u21, u22, u23, u24, u25, u26, u27, u28, u29, u30, rfl, hnx, hj, hjt, hJ, hm⟩
    clear c0 c1 c2
    obtain ⟨c0, c1, c2, hnd, htz⟩ := HJ.out.1 j w' hJ
    cases hx : t.ks[j]? with
    | none =>
      have HF := Lib.hid (nFrom_c hnd.2 htz (nx : Int) (by omega) (by omega) (0, none) (by rw [hj, hx]; rfl))
      have HR := Lib.hid (And.intro hJ (And.intro hjt hx))
      clear hnd htz hJ hj hjt hm hx
      gi_wp2_with (refine ⟨trivial, (fun h => by cases h), ?_⟩; (with_reducible refine (callsIn_wide.2 HF.out).mono ?_); rintro e w2 ⟨rfl, n2, rfl⟩)
      refine ⟨(fun f h => by cases h), ?_⟩
      gi_wp2
      simp only [Exit.jump]
      refine bodyPost_ret (results_none rfl _ _ _) rfl ?_
      have hle := Sl.idx_le t.ks (to : Int)
      exact ⟨⟨_, rfl⟩, .inl (by
        have h1 := HR.out.2.2
        have h2 := HR.out.2.1
        rw [List.getElem?_eq_none_iff] at h1
        rw [show Sl.idx t.ks (to : Int) = j by omega]
        exact HJ.out.2.1 j w' n2 HR.out.1)⟩
    | some y =>
      obtain ⟨a, s⟩ := y
      have ha16 := HX.out.2.1 (a, s) (List.mem_of_getElem? hx)
      have HF := Lib.hid (nFrom_c hnd.2 htz (nx : Int) (by omega) (by omega) (a, some ⟨s.blk, 0, none⟩) (by rw [hj, hx]; rfl))
      by_cases hlt : a < to
      · have d1 : decide ((to : Int) ≤ (a : Int)) = false := decide_eq_false (by omega)
        have d1' : decide (to ≤ a) = false := decide_eq_false (by omega)
        have HR := Lib.hid (And.intro hJ (And.intro hjt (And.intro hx (And.intro hj hm))))
        have HL := Lib.hid hlt
        clear hnd htz hJ hj hjt hm hx hlt
        gi_wp2_with (refine ⟨trivial, (fun h => by cases h), ?_⟩; (with_reducible refine (callsIn_wide.2 HF.out).mono ?_); rintro e w2 ⟨rfl, n2, rfl⟩; obtain ⟨fn, tmps, assign, body, hy, hR⟩ := HJ.out.2.2 j a s _ (HJ.out.2.1 j w' n2 HR.out.1) HR.out.2.2.1 HL.out)
        refine ⟨(fun h => by cases h), hR.mono ?_⟩
        rintro e W3 (⟨rfl, hJ3⟩ | ⟨rfl, hJx⟩)
        · clear hy hR
          have ha64 : (a : Int) + 1 ≤ 65536 := by omega
          gi_wp2
          refine wpIn_goto ?_
          obtain ⟨hJ1, hjt, hx, hj, hm⟩ := HR.out
          have hjl := (List.getElem?_eq_some_iff.1 hx).1
          refine ⟨rfl, t.ks.length - (j + 1), by omega, a + 1, j + 1, _, _, _, _, _, _, _, _, _, _, _, _, _, _, _, _, _, _, _, _, _, _, _, _, _, _, rfl, by omega, idx_next HX.out.1 hx, idx_more HX.out.1 hx HL.out, hJ3, by omega⟩
        · clear hy hR
          gi_wp2
          simp only [Exit.jump]
          refine bodyPost_ret (results_none rfl _ _ _) rfl ?_
          exact ⟨⟨_, rfl⟩, .inr ⟨j, a, s, HR.out.2.2.1, HL.out, hJx⟩⟩
      · have d1 : decide ((to : Int) ≤ (a : Int)) = true := decide_eq_true (by omega)
        have d1' : decide (to ≤ a) = true := decide_eq_true (by omega)
        have HR := Lib.hid (And.intro hJ (And.intro hjt (And.intro hx hj)))
        have HL := Lib.hid hlt
        clear hnd htz hJ hj hjt hm hx hlt
        gi_wp2_with (refine ⟨trivial, (fun h => by cases h), ?_⟩; (with_reducible refine (callsIn_wide.2 HF.out).mono ?_); rintro e w2 ⟨rfl, n2, rfl⟩)
        refine ⟨(fun f h => by cases h), ?_⟩
        gi_wp2
        simp only [Exit.jump]
        refine bodyPost_ret (results_none rfl _ _ _) rfl ?_
        obtain ⟨hJ1, hjt, hx, hj⟩ := HR.out
        exact ⟨⟨_, rfl⟩, .inl (by rw [idx_stop hx hjt (by have := HL.out; omega)]; exact HJ.out.2.1 j w' n2 hJ1)⟩
end Go.Proofs.YtmdohckoegpgkaaGreatDoor

/-
  CONTRACTS of package rank, third part: refusal, isAhead, what guide.down does.
-/
namespace Go.Proofs.YtmdohckoegpgkaaGreatDoor
open Go.ChangeShapes Go.WideShapes Go.ChangeAt Go.RowKit
open Tr (T S4 Ent)

/-! ### refusal -/
theorem kRef_ok {w : World} {b k : Nat} {r : Option Addr} (h : TreC w b k r) (A : Option Addr) (n c : Nat) (h1 : 1 ≤ k) (h16 : k ≤ 16) (he : n = k) :
    Calls Tryz.prog 49 #[.pointer (some ⟨b, 0, none⟩), .slice A n c] w fun e w' => e = .returned (.int .i64 0) ∧ w = w' := by
  have HK := Lib.hid (tK_c h)
  subst he
  have H := Lib.hid (right_yes A n c w h1 h16)
  have e1 : ((n : Int) != (n : Int)) = false := by simp
  clear h1 h16 h
  go_enter Tryz.func49, Tryz.ntmps49
  go_wp2_with (first
    | (go_at_call 101; refine H.out.mono ?_; rintro e w' ⟨rfl, rfl⟩)
    | (go_at_call 41; refine HK.out.mono ?_; rintro e w' ⟨rfl, rfl⟩))
  go_ret
  exact ⟨rfl, rfl⟩

/-! ### isAhead -/
theorem isAhead_no (A : Option Addr) (n c : Nat) (w : World) (hn : n ≤ maxLen) :
    Calls Tryz.prog 51 #[.pointer none, .slice A n c] w fun e w' => e = .returned (.bool false) ∧ w = w' := by
  have H := Lib.hid (cmp_no none A 0 0 n c w (by unfold maxLen; omega) hn (by omega))
  clear hn
  go_enter Tryz.func51, Tryz.ntmps51
  go_wp2_with (first
    | (go_at_call 98; refine (nPrefix_nil _).mono ?_; rintro e w' ⟨rfl, rfl⟩)
    | (go_at_call 57; refine H.out.mono ?_; rintro e w' ⟨rfl, rfl⟩))
  go_ret
  exact ⟨rfl, rfl⟩
theorem isAhead_c {w : World} {B k : Nat} {t : T} (h : Node w B k t) (hB : B ≤ w.heap.size) {p : List Nat} {A : Option Addr} {c B' : Nat} (hp : Pts w B' A p) (hB' : B' ≤ w.heap.size) (hl : p.length = k) (r : Bool) (hr : decide (Z.cmp t.pre p < 0) = r) :
    Calls Tryz.prog 51 #[.pointer (some ⟨t.blk, 0, none⟩), .slice A p.length c] w fun e w' => e = .returned (.bool r) ∧ Below w.heap.size w w' := by
  obtain ⟨kp, hnd⟩ := h.2.nd
  have hlen := h.1.len
  have k1 := h.1.k1
  have k16 := h.1.k16
  have H1 := Lib.hid (nPrefix_c hnd hB (by intro e; rw [e] at hlen; simp at hlen; omega) (by omega))
  obtain ⟨s, hs⟩ : ∃ s, Z.cmp t.pre p = s := ⟨_, rfl⟩
  rw [hs] at hr
  have H2 : Hid (∀ w2 h2 d2, Own w2 w.heap.size (.slice (some ⟨h2, 0, none⟩) t.pre.length d2) t.pre → Below w.heap.size w w2 → Calls Tryz.prog 57 #[.slice (some ⟨h2, 0, none⟩) t.pre.length d2, .slice A p.length c] w2 fun e w' => e = .returned (.tuple #[.int .i64 s, .int .i64 0]) ∧ w2 = w') := Lib.hid fun w2 h2 d2 ho hb => by
    obtain ⟨A', c', hv, hp'⟩ := ho.pts
    simp only [Value.slice.injEq] at hv
    obtain ⟨rfl, -, rfl⟩ := hv
    have := cmp_yes (some ⟨h2, 0, none⟩) A d2 c t.pre p w2.heap.size w2 hp' ((hp.below' hb hB').keep (Nat.le_trans hB' hb.size) (fun _ _ => rfl)) (by omega) (by omega) (by omega)
    rw [hs] at this
    exact this
  clear hnd hlen k1 k16 hp hs hl h
  go_enter Tryz.func51, Tryz.ntmps51
  go_wp2_with (first
    | (go_at_call 98; refine H1.out.mono ?_; rintro e w2 ⟨h2, d2, rfl, ho, hb⟩; have H3 := Lib.hid (And.intro ho hb); clear ho hb)
    | (go_at_call 57; refine (H2.out _ _ _ H3.out.1 H3.out.2).mono ?_; rintro e w' ⟨rfl, rfl⟩))
  go_ret
  exact ⟨rfl, H3.out.2⟩

/-! ### guide.down -/
/-- A WAY DOWN, whoever tells it: 'St us t a' says that behind us the way goes on at t's address a. -/
inductive WayS (St : List (T × Nat) → T → Nat → Prop) (o : Option T) : List (T × Nat) → Option T → Prop
  | start : WayS St o [] o
  | step {us : List (T × Nat)} {t : T} {a : Nat} (h : WayS St o us (some t)) (hl : t.lv ≠ 0) (hs : St us t a) : WayS St o ((t, a) :: us) (Sl.get t.ks (a : Int))
theorem get_kid {t s : T} {a : Nat} (h : Sl.get t.ks (a : Int) = some s) : (a, s) ∈ t.ks := by
  obtain ⟨n, hn, hm⟩ := Sl.get_mem _ _ _ h
  have : n = a := by omega
  subst this
  exact hm
theorem WayS.steps {St : List (T × Nat) → T → Nat → Prop} {o o' : Option T} {us : List (T × Nat)} (h : WayS St o us o') : (∀ s n, o' = some s → Tr.Steps o ((s, n) :: us)) ∧ (o' = none → Tr.Steps o us) := by
  induction h with
  | start => exact ⟨fun s n e => e, fun e => e⟩
  | @step us t a h hl hc ih =>
    have h1 := ih.1 t a rfl
    exact ⟨fun s n e => ⟨get_kid e, h1⟩, fun _ => h1⟩
theorem WayS.node {w : World} {B k : Nat} {St : List (T × Nat) → T → Nat → Prop} {o o' : Option T} {us : List (T × Nat)} (ho : NodeO w B k o) (h : WayS St o us o') : NodeO w B k o' ∧ ∀ x ∈ us, Node w B k x.1 := by
  induction h with
  | start => exact ⟨ho, fun x hx => by cases hx⟩
  | @step us t a h hl hc ih =>
    have ht := ih.1 t rfl
    refine ⟨fun s hs => ?_, fun x hx => ?_⟩
    · have hm := get_kid hs
      obtain ⟨g', l, pre, ks, rfl⟩ := Tr.ks_br hm
      exact ht.kid hm
    · rcases List.mem_cons.1 hx with rfl | hx
      · exact ht
      · exact ih.2 x hx
theorem WayS.len {k : Nat} {St : List (T × Nat) → T → Nat → Prop} {o o' : Option T} {us : List (T × Nat)} (h : WayS St o us o') (ho : ∀ t, o = some t → Tr.Wf k t) : us.length ≤ 64 ∧ ∀ t, o' = some t → t.lv + us.length ≤ 64 := by
  have hw : (∀ t, o' = some t → Tr.Wf k t) ∧ ∀ x ∈ us, Tr.Wf k x.1 := by
    induction h with
    | start => exact ⟨ho, fun x hx => by cases hx⟩
    | @step us t a h hl hc ih =>
      have ht := ih.1 t rfl
      refine ⟨fun s hs => (ht.sub (get_kid hs)).1, fun x hx => ?_⟩
      rcases List.mem_cons.1 hx with rfl | hx
      · exact ht
      · exact ih.2 x hx
  have hc := h.steps
  cases h with
  | start =>
    refine ⟨by simp, fun t e => ?_⟩
    have := Tr.steps_lv (hc.1 t 0 e) (fun x hx => by
      rcases List.mem_cons.1 hx with rfl | hx
      · exact hw.1 t e
      · exact hw.2 x hx)
    simpa using this
  | @step us t a h hl hs =>
    have h1 := Tr.steps_lv (h.steps.1 t a rfl) (fun x hx => by
      rcases List.mem_cons.1 hx with rfl | hx
      · exact hw.2 (t, a) List.mem_cons_self
      · exact hw.2 x (List.mem_cons_of_mem _ hx))
    refine ⟨by rw [List.length_cons]; omega, fun s e => ?_⟩
    have := Tr.steps_lv (hc.1 s 0 e) (fun x hx => by
      rcases List.mem_cons.1 hx with rfl | hx
      · exact hw.1 s e
      · exact hw.2 x hx)
    exact this
end Go.Proofs.YtmdohckoegpgkaaGreatDoor
