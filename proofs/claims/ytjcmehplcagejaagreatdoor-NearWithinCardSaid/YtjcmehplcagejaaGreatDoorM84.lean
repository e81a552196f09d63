import Derived.Test.YtjcmehplcagejaaGreatDoorM83
import Derived.Test.YtjcmehplcagejaaGreatDoorM51
import Derived.Test.YtjcmehplcagejaaGreatDoorM50
import Derived.Test.YtjcmehplcagejaaGreatDoorM05
/-
  CONTRACTS of package near: add.
-/
namespace Go.Proofs.YtjcmehplcagejaaGreatDoor
open Go.ChangeShapes Go.WideShapes Go.ChangeAt Go.RowKit Go.Shelf
open Tr (T S4 Ent)
attribute [local go_sem] Oper.semAt_some

/-- the blocks in which the queue's points may lie: neither the search's own, nor F -/
def Gq (F : Nat → Prop) (b0 g : Nat) (D : Option Addr) : Nat → Prop := fun b => b0 ≤ b ∧ b ≠ g ∧ D.map (·.block) ≠ some b ∧ ¬ F b
/-- A SEARCH: the queue, the point, the greatest distance, and who is told -/
structure Sea (W : World) (F : Nat → Prop) (b0 g k : Nat) (p : List Nat) (Ap : Option Addr) (cp most : Nat) (fv : Value) (D : Option Addr) (d : Nat) (qs : List T) : Prop where
  que : QueS W b0 g k (Gq F b0 g D) p D d qs (.slice Ap k cp) (.int .u64 (most : Int)) fv
  old : b0 ≤ W.heap.size
  glow : b0 ≤ g
  nF : ¬ F g
  nFD : ∀ b, D.map (·.block) = some b → ¬ F b
  inF : ∀ b, F b → b < W.heap.size
theorem Sea.keep {W W' : World} {F F' : Nat → Prop} {b0 g k : Nat} {p : List Nat} {Ap : Option Addr} {cp most : Nat} {fv : Value} {D : Option Addr} {d : Nat} {qs : List T} (h : Sea W F b0 g k p Ap cp most fv D d qs) (hs : W.heap.size ≤ W'.heap.size) (hb : ∀ b, b < W.heap.size → ¬ F b → W'.heap[b]? = W.heap[b]?)
    (hF : ∀ b, F' b → F b ∨ W.heap.size ≤ b) (hin : ∀ b, F' b → b < W'.heap.size) : Sea W' F' b0 g k p Ap cp most fv D d qs := by
  have hg := BoxS.lt h.que.box
  refine ⟨h.que.keep hs (hb g hg h.nF) (fun b hD => hb b (h.que.lt b hD).2 (h.nFD b hD)) (fun b hlt hG => ⟨hb b hlt hG.2.2.2, hG.1, hG.2.1, hG.2.2.1, fun hf => ?_⟩) (fun b hG => ⟨hG.2.1, hG.2.2.1⟩), Nat.le_trans h.old hs, h.glow, fun hf => ?_, fun b hD hf => ?_, hin⟩
  · rcases hF b hf with e | e
    · exact hG.2.2.2 e
    · omega
  · rcases hF g hf with e | e
    · exact h.nF e
    · omega
  · rcases hF b hf with e | e
    · exact h.nFD b hD e
    · have := (h.que.lt b hD).2; omega
theorem Sea.below {W W' : World} {F : Nat → Prop} {b0 g k : Nat} {p : List Nat} {Ap : Option Addr} {cp most : Nat} {fv : Value} {D : Option Addr} {d : Nat} {qs : List T} (h : Sea W F b0 g k p Ap cp most fv D d qs) (hb : Below W.heap.size W W') : Sea W' F b0 g k p Ap cp most fv D d qs :=
  h.keep hb.size (fun b hlt _ => hb.block b hlt) (fun _ hf => .inl hf) (fun b hf => Nat.lt_of_lt_of_le (h.inF b hf) hb.size)
theorem Sea.cells {W : World} {F : Nat → Prop} {b0 g k : Nat} {p : List Nat} {Ap : Option Addr} {cp most : Nat} {fv : Value} {D : Option Addr} {d : Nat} {qs : List T} (h : Sea W F b0 g k p Ap cp most fv D d qs) :
    W.cell? ⟨g, 0, none⟩ = some (.slice D qs.length d) ∧ W.cell? ⟨g, 1, none⟩ = some (.slice Ap k cp) ∧ W.cell? ⟨g, 2, none⟩ = some (.int .u64 (most : Int)) ∧ W.cell? ⟨g, 3, none⟩ = some fv := by
  have hb := h.que.box
  refine ⟨?_, ?_, ?_, ?_⟩ <;> (rw [cell_of_row W g _ _ _ (0, 0) hb]; rfl)
theorem own_ptsN {w : World} {base h n d : Nat} {p : List Nat} (ho : Own w base (.slice (some ⟨h, 0, none⟩) n d) p) : Pts w w.heap.size (some ⟨h, 0, none⟩) p ∧ n = p.length := by
  obtain ⟨A', c', hv, hp'⟩ := ho.pts
  simp only [Value.slice.injEq] at hv
  obtain ⟨rfl, rfl, rfl⟩ := hv
  exact ⟨hp', rfl⟩
/-- the blocks that a search writes -/
def SeaF (g : Nat) (D : Option Addr) : Nat → Prop := fun b => b = g ∨ D.map (·.block) = some b
/-- what becomes of a search that is given one node more -/
def Added (W : World) (F : Nat → Prop) (b0 g k : Nat) (p : List Nat) (Ap : Option Addr) (cp most : Nat) (fv : Value) (D : Option Addr) (t : T) (qs : List T) (w' : World) : Prop :=
  ∃ D' d' qs', qs'.Perm (if Nr.distT p t ≤ most then t :: qs else qs) ∧ Sea w' F b0 g k p Ap cp most fv D' d' qs' ∧ (∀ b, D'.map (·.block) = some b → D.map (·.block) = some b ∨ W.heap.size ≤ b) ∧ Foot (SeaF g D) W w'
theorem add_nil (g : Nat) (w : World) : Calls Tryz.prog 173 #[.pointer (some ⟨g, 0, none⟩), .pointer none] w fun e w' => e = .returned (.tuple #[]) ∧ w = w' := by
  go_enter Tryz.func173, Tryz.ntmps173
  go_wp2
  refine bodyPost_ret (v := .tuple #[]) (results_none rfl _ _ _) rfl ?_
  exact ⟨rfl, rfl⟩
set_option maxRecDepth 100000 in
set_option maxHeartbeats 4000000 in
theorem add_c {W : World} {F : Nat → Prop} {B b0 g k : Nat} {p : List Nat} {Ap : Option Addr} {cp most : Nat} {fv : Value} {D : Option Addr} {d : Nat} {qs : List T} (h : Sea W F b0 g k p Ap cp most fv D d qs) (hB : B ≤ b0) (hl : qs.length ≤ 900000000) (hp : Pts W B Ap p) (hpl : p.length = k) {t : T} (hn : Node W B k t) :
    Calls Tryz.prog 173 #[.pointer (some ⟨g, 0, none⟩), .pointer (some ⟨t.blk, 0, none⟩)] W fun e w' => e = .returned (.tuple #[]) ∧ Added W F b0 g k p Ap cp most fv D t qs w' := by
  obtain ⟨x, hx⟩ : ∃ x, Nr.distT p t = x := ⟨_, rfl⟩
  obtain ⟨kp, hnd⟩ := hn.2.nd
  have hlv : levI t = (t.lv : Int) - 1 := rfl
  rw [hlv] at hnd
  have hk1 := hn.1.k1
  have hk16 := hn.1.k16
  have hplen := hn.1.len
  have HX := Lib.hid (And.intro h (And.intro hB (And.intro hl (And.intro hp (And.intro hpl (And.intro hn hx))))))
  have HPf := Lib.hid (nPrefix_c hnd (Nat.le_trans hB h.old) (by intro e; rw [e] at hplen; simp at hplen; omega) (by omega))
  have HLv := Lib.hid fun (w2 : World) (hb : Below W.heap.size W w2) => nLevel_c (hnd.below hb (Nat.le_trans hB h.old) (Nat.le_refl _))
  have HK := Lib.hid (And.intro hk1 (And.intro hk16 hplen))
  obtain ⟨m, hm⟩ : ∃ m, t.pre.length = m := ⟨_, rfl⟩
  obtain ⟨lv, hlv⟩ : ∃ lv, t.lv = lv := ⟨_, rfl⟩
  rw [hm] at HPf
  rw [hlv] at HLv
  have HM := Lib.hid (And.intro hm hlv)
  clear h hB hl hp hpl hn hx hnd hk1 hk16 hplen hm hlv
  go_enter Tryz.func173, Tryz.ntmps173
  go_wp2_with fail
  refine HPf.out.mono ?_
  rintro e w2 ⟨hq, dq, rfl, ho2, hb2⟩
  have H2 := Lib.hid (And.intro ho2 hb2)
  clear ho2 hb2 HPf
  go_wp2_with fail
  refine (HLv.out _ H2.out.2).mono ?_
  rintro e w' ⟨rfl, rfl⟩
  have HC := bcell_own (some ⟨hq, 0, none⟩) dq lv t.pre w2.heap.size w2 (own_ptsN H2.out.1).1 (Nat.le_refl _) (by rw [HK.out.2.2]; exact HK.out.1) (by rw [HK.out.2.2]; exact HK.out.2.1) (by rw [← HM.out.2]; exact HX.out.2.2.2.2.2.1.1.lv64)
  rw [HM.out.1] at HC
  have HC := Lib.hid HC
  clear HLv
  go_wp2_with fail
  refine HC.out.mono ?_
  rintro e w3 ⟨gl, gh, rfl, hol, hoh, hb3⟩
  have H3 := Lib.hid (And.intro hol (And.intro hoh hb3))
  clear hol hoh hb3 HC
  go_wp2_with fail
  obtain ⟨hbw, hbox4⟩ : Below W.heap.size W (w3.alloc (.cells #[.slice (some ⟨gl, 0, none⟩) m m, .slice (some ⟨gh, 0, none⟩) m m] 25)) ∧ (w3.alloc (.cells #[.slice (some ⟨gl, 0, none⟩) m m, .slice (some ⟨gh, 0, none⟩) m m] 25)).heap[w3.heap.size]? = some (.cells #[.slice (some ⟨gl, 0, none⟩) m m, .slice (some ⟨gh, 0, none⟩) m m] 25 (0, 0)) := ⟨Below.andThen (Below.andThen H2.out.2 H3.out.2.2) (below_alloc _ _), heap_at w3 _ _ rfl⟩
  have hlo := own_ptsN (H3.out.1.below (below_alloc w3 (.cells #[.slice (some ⟨gl, 0, none⟩) m m, .slice (some ⟨gh, 0, none⟩) m m] 25)) (Nat.le_refl _))
  have hhi := own_ptsN (H3.out.2.1.below (below_alloc w3 (.cells #[.slice (some ⟨gl, 0, none⟩) m m, .slice (some ⟨gh, 0, none⟩) m m] 25)) (Nat.le_refl _))
  have hol := H3.out.1.below (below_alloc w3 (.cells #[.slice (some ⟨gl, 0, none⟩) m m, .slice (some ⟨gh, 0, none⟩) m m] 25)) (Nat.le_refl _)
  generalize hW4 : w3.alloc (.cells #[.slice (some ⟨gl, 0, none⟩) m m, .slice (some ⟨gh, 0, none⟩) m m] 25) = W4 at *
  have hgl : W.heap.size ≤ gl := by
    have h := H3.out.1.2.lt gl (by rw [own_block]; rfl)
    have := H2.out.2.size
    omega
  have hsea := HX.out.1.below hbw
  obtain ⟨-, s1, s2, -⟩ := hsea.cells
  obtain ⟨E, hE⟩ : ∃ E, w3.heap.size = E := ⟨_, rfl⟩
  rw [hE] at hbox4 ⊢
  have t0 : W4.cell? ⟨E, 0, none⟩ = some (.slice (some ⟨gl, 0, none⟩) m m) := by rw [cell_of_row W4 E _ _ _ (0, 0) hbox4]; rfl
  have t1 : W4.cell? ⟨E, 1, none⟩ = some (.slice (some ⟨gh, 0, none⟩) m m) := by rw [cell_of_row W4 E _ _ _ (0, 0) hbox4]; rfl
  have hcut : Z.cut t.pre lv = t.pre := by rw [← HM.out.2]; exact HX.out.2.2.2.2.2.1.1.cut_pre
  have hFB : Hid (∀ w', Below W4.heap.size W4 w' → Calls Tryz.prog 207 #[boxV (some ⟨gl, 0, none⟩) m m (some ⟨gh, 0, none⟩) m m, .slice Ap k cp] w' fun e w'' => e = .returned (.tuple #[.int .u64 (x : Int), .int .i64 0]) ∧ Below w'.heap.size w' w'') := Lib.hid fun w' hb => by
    have h := bfarBox_yes (some ⟨gl, 0, none⟩) (some ⟨gh, 0, none⟩) Ap m m cp (Z.cut t.pre lv) (Bx.cellHi t.pre lv) p w'.heap.size w' x (by rw [hcut, ← HM.out.2]; exact HX.out.2.2.2.2.2.2) (by rw [Z.cut_length]; exact Bx.cell_emp (Nat.le_refl _)) ((hlo.1.below' hb (Nat.le_refl _)).keep hb.size (fun _ _ => rfl)) ((hhi.1.below' hb (Nat.le_refl _)).keep hb.size (fun _ _ => rfl))
      ((HX.out.2.2.2.1.below' (Below.andThen hbw hb) (Nat.le_trans HX.out.2.1 HX.out.1.old)).keep (Nat.le_trans (Nat.le_trans HX.out.2.1 HX.out.1.old) (Below.andThen hbw hb).size) (fun _ _ => rfl)) (Nat.le_refl _) (by rw [← hlo.2, ← HM.out.1, HK.out.2.2]; exact HK.out.1) (by rw [← hlo.2, ← HM.out.1, HK.out.2.2]; exact HK.out.2.1) (by rw [← hlo.2, ← hhi.2]) (by rw [← hlo.2, ← HM.out.1, HK.out.2.2, HX.out.2.2.2.2.1])
    rw [← hlo.2, ← hhi.2, HX.out.2.2.2.2.1] at h
    exact h
  have HS4 := Lib.hid (And.intro hsea (And.intro hbw (And.intro hol (And.intro hgl (And.intro hcut hlo.2)))))
  have t0' : ∀ w', Below W4.heap.size W4 w' → w'.cell? ⟨E, 0, none⟩ = some (.slice (some ⟨gl, 0, none⟩) m m) := fun w' hb => (World.cell?_of_block (a := ⟨E, 0, none⟩) (hb.block E (Array.getElem?_eq_some_iff.1 hbox4).1)).trans t0
  have T0 := Lib.hid t0'
  clear hbw hbox4 hlo hhi hol hW4 hgl hsea hE hcut t0'
  go_region_with (go_at_call 207; refine (hFB.out _ (by ((repeat (first | refine Below.drew ?_ | (with_reducible refine below_drewN _ ?_) | refine Below.alloc ?_ (by first | omega | (simp; done) | (simp; omega)) _ | refine Below.setCell ?_ (by first | omega | (simp; done) | (simp; omega)) _)); first | exact Below.refl _ _ | assumption | exact below_drewN _ (Below.refl _ _) | exact below_drewN _ (below_drewN _ (Below.refl _ _))))).mono ?_; rintro e w5 ⟨rfl, hb5⟩; have H5 := Lib.hid hb5; clear hb5)
  all_goals (
    have hb45 : Below W4.heap.size W4 w5 := (Below.refl _ W4).drew.trans H5.out
    have hsea5 := HS4.out.1.below hb45
    obtain ⟨-, -, s2', -⟩ := hsea5.cells
    have t0' := T0.out w5 hb45
    have hb5 := Below.andThen HS4.out.2.1 hb45
    obtain ⟨h, hB, hl, hp, hpl, hn, hx⟩ := HX.out
    have hglt := BoxS.lt h.que.box
    have HB5 := Lib.hid (And.intro hb5 (And.intro hsea5 hglt))
    by_cases hxm : x ≤ most
    · have e1 : decide ((x : Int) ≤ (most : Int)) = true := decide_eq_true (by omega)
      have hol5 := HS4.out.2.2.1.below hb45 (Nat.le_refl _)
      rw [HS4.out.2.2.2.2.1] at hol5
      have hGq : Gq F b0 g D gl := ⟨Nat.le_trans h.old HS4.out.2.2.2.1, fun e => by have := HS4.out.2.2.2.1; omega, fun e => by have := (h.que.lt gl e).2; have := HS4.out.2.2.2.1; omega, fun hf => by have := h.inF gl hf; have := HS4.out.2.2.2.1; omega⟩
      have HPu := Lib.hid (hPush_c hsea5.que hsea5.old hl hpl hp.1 hn.1 (Own.ptsG hol5 hGq) (c := m) HM.out.1 hx)
      have HXm := Lib.hid hxm
      clear hb45 hsea5 hb5 h hB hl hp hpl hn hx hglt hxm hol5 hGq hFB
      go_wp2_with (go_at_call 208; refine HPu.out.mono ?_; rintro e w6 ⟨rfl, D', d', qs', hper, hqs, hD', hf⟩; have H6 := Lib.hid (And.intro hper (And.intro hqs (And.intro hD' hf))); clear hper hqs hD' hf)
      go_end0
      obtain ⟨h, hB, hl, hp, hpl, hn, hx⟩ := HX.out
      obtain ⟨hper, hqs, hD', hf⟩ := H6.out
      obtain ⟨hb5, hsea5, hglt⟩ := HB5.out
      have hs5 := hb5.size
      have hs6 := hf.size
      refine ⟨rfl, D', d', qs', by rw [if_pos (by rw [hx]; exact HXm.out)]; exact hper, ⟨hqs.keep (Nat.le_refl _) rfl (fun _ _ => rfl) (fun b _ hg => ⟨rfl, hg.1.1, hg.1.2.1, fun e => ?_, hg.1.2.2.2⟩) (fun b hg => ⟨hg.2.1, hg.2.2.1⟩), by have := h.old; omega, h.glow, h.nF, fun b hb hfb => ?_, fun b hfb => by have := h.inF b hfb; omega⟩, fun b hb => ?_, (Foot.of_below hb5).trans hf (fun b hb => .inl hb)⟩
      · rcases hD' b e with e' | e'
        · exact hg.1.2.2.1 e'
        · omega
      · rcases hD' b hb with e' | e'
        · exact h.nFD b e' hfb
        · have := h.inF b hfb; omega
      · rcases hD' b hb with e' | e'
        · exact .inl e'
        · exact .inr (by omega)
    · have e1 : decide ((x : Int) ≤ (most : Int)) = false := decide_eq_false (by omega)
      have HXm := Lib.hid hxm
      clear hb45 hsea5 hb5 h hB hl hp hpl hn hx hglt hxm hFB
      go_wp2_with fail
      go_end0
      obtain ⟨hb5, hsea5, hglt⟩ := HB5.out
      exact ⟨rfl, D, d, qs, by rw [if_neg (by rw [HX.out.2.2.2.2.2.2]; exact HXm.out)], hsea5, fun b hb => .inl hb, Foot.of_below hb5⟩)
end Go.Proofs.YtjcmehplcagejaaGreatDoor

/-
  SCOPES WITH SEVERAL LABELS (laws of the walk); the slots of through. Laid out of XWt, XWu.
-/
namespace Go.Proofs.YtjcmehplcagejaaGreatDoor
open Go.ChangeShapes Go.WideShapes Go.ChangeAt Go.RowKit
open Tr (T S4 Ent)

def jumpsN (J : Nat → Act → World → Prop) (Q : Exit → Act → World → Prop) : Exit → Act → World → Prop := fun e a w => match e with
  | .goto l => J l a w
  | e => Q e a w
theorem wp_scope_labelsN {P : Program} {c : Code} {Q : Exit → Act → World → Prop} {a : Act} {w : World} (rest : Nat → Code) (J : Nat → Nat → Act → World → Prop) (hf : ∀ l m a w, J l m a w → findLabel c l = some (rest l))
    (first : c.wp P (jumpsN (fun l a' w' => ∃ m, J l m a' w') Q) a w)
    (pass : ∀ l m a w, J l m a w → (rest l).wp P (jumpsN (fun l' a' w' => ∃ m', m' < m ∧ J l' m' a' w') Q) a w) : (Code.scope c).wp P Q a w := by
  intro b k cs
  have key : ∀ m l a w, J l m a w → ∃ e a' w', Q e a' w' ∧ Arrives P (lone (b.at a (.code (rest l) :: .inScope c :: k)) cs w) b k cs e a' w' := by
    intro m
    induction m using Nat.strongRecOn with
    | _ m ih =>
      intro l a w hJ
      obtain ⟨e, a₁, w₁, hq, harr⟩ := pass l m a w hJ b (.inScope c :: k) cs
      cases e with
      | normal => exact ⟨.normal, a₁, w₁, hq, Steps.trans harr (.one step_inScope)⟩
      | exit id => exact ⟨.exit id, a₁, w₁, hq, fun k' hk => harr k' (by simp [exitTo, hk])⟩
      | goto l' =>
        obtain ⟨m', hlt, hJ'⟩ := hq
        have hg : gotoIn l' (.inScope c :: k) = some (.code (rest l') :: .inScope c :: k) := by simp [gotoIn, hf l' m' _ _ hJ']
        obtain ⟨e₂, a₂, w₂, hq₂, harr₂⟩ := ih m' hlt l' a₁ w₁ hJ'
        exact ⟨e₂, a₂, w₂, hq₂, .of_steps (harr _ hg) harr₂⟩
      | ret => exact ⟨_, a₁, w₁, hq, harr⟩
      | panic ch => exact ⟨_, a₁, w₁, hq, harr⟩
      | outgrown => exact ⟨_, a₁, w₁, hq, harr⟩
  obtain ⟨e, a₁, w₁, hq, harr⟩ := first b (.inScope c :: k) cs
  cases e with
  | normal => exact ⟨.normal, a₁, w₁, hq, .head step_scope (Steps.trans harr (.one step_inScope))⟩
  | exit id => exact ⟨.exit id, a₁, w₁, hq, fun k' hk => .head step_scope (harr k' (by simp [exitTo, hk]))⟩
  | goto l =>
    obtain ⟨m, hJ'⟩ := hq
    have hg : gotoIn l (.inScope c :: k) = some (.code (rest l) :: .inScope c :: k) := by simp [gotoIn, hf l m _ _ hJ']
    obtain ⟨e₂, a₂, w₂, hq₂, harr₂⟩ := key m l a₁ w₁ hJ'
    exact ⟨e₂, a₂, w₂, hq₂, .of_steps (.head step_scope (harr _ hg)) harr₂⟩
  | ret => exact ⟨_, a₁, w₁, hq, .of_steps (.one step_scope) harr⟩
  | panic ch => exact ⟨_, a₁, w₁, hq, .of_steps (.one step_scope) harr⟩
  | outgrown => exact ⟨_, a₁, w₁, hq, .of_steps (.one step_scope) harr⟩
/-- less is left than was allowed -/
theorem jumpsN_le {P : Program} {c : Code} {Q : Exit → Act → World → Prop} {a : Act} {w : World} {J : Nat → Nat → Act → World → Prop} {m n : Nat} (h : c.wp P (jumpsN (fun l' a' w' => ∃ m', m' < m ∧ J l' m' a' w') Q) a w) (hm : m ≤ n) :
    c.wp P (jumpsN (fun l' a' w' => ∃ m', m' < n ∧ J l' m' a' w') Q) a w := Code.wp_mono (by
  intro e a' w' h'
  cases e <;> first | exact h' | (obtain ⟨m', h1, h2⟩ := h'; exact ⟨m', Nat.lt_of_lt_of_le h1 hm, h2⟩)) h
theorem jumpsN_any {P : Program} {c : Code} {Q : Exit → Act → World → Prop} {a : Act} {w : World} {J : Nat → Nat → Act → World → Prop} {m : Nat} (h : c.wp P (jumpsN (fun l' a' w' => ∃ m', m' < m ∧ J l' m' a' w') Q) a w) :
    c.wp P (jumpsN (fun l' a' w' => ∃ m', J l' m' a' w') Q) a w := Code.wp_mono (by
  intro e a' w' h'
  cases e <;> first | exact h' | (obtain ⟨m', h1, h2⟩ := h'; exact ⟨m', h2⟩)) h

/-- a scope with two labels; the way from the first runs on into the second -/
def J2N (J0 J1 : Nat → Act → World → Prop) : Nat → Nat → Act → World → Prop
  | 0 => J0
  | 1 => J1
  | _ => fun _ _ _ => False
theorem wp_scope_twoN {P : Program} {c r0 r1 : Code} {Q : Exit → Act → World → Prop} {a : Act} {w : World} (J0 J1 : Nat → Act → World → Prop)
    (h0 : findLabel c 0 = some (Code.skip.seq r0)) (h1 : findLabel c 1 = some (Code.skip.seq r1))
    (beside : ∀ m a w, J1 m a w → r1.wp P (jumpsN (fun l a' w' => ∃ m', m' < m ∧ J2N J0 J1 l m' a' w') Q) a w)
    (next : ∀ m, (∀ m' a w, m' ≤ m → J1 m' a w → r1.wp P (jumpsN (fun l a' w' => ∃ m', m' < m ∧ J2N J0 J1 l m' a' w') Q) a w) →
      ∀ a w, J0 m a w → r0.wp P (jumpsN (fun l a' w' => ∃ m', m' < m ∧ J2N J0 J1 l m' a' w') Q) a w)
    (first : (∀ m a w, J0 m a w → r0.wp P (jumpsN (fun l a' w' => ∃ m', J2N J0 J1 l m' a' w') Q) a w) → c.wp P (jumpsN (fun l a' w' => ∃ m', J2N J0 J1 l m' a' w') Q) a w) : (Code.scope c).wp P Q a w := by
  have nx : ∀ m a w, J0 m a w → r0.wp P (jumpsN (fun l a' w' => ∃ m', m' < m ∧ J2N J0 J1 l m' a' w') Q) a w :=
    fun m a w h => next m (fun m' a w hm h => jumpsN_le (beside m' a w h) hm) a w h
  refine wp_scope_labelsN (fun l => match l with | 0 => Code.skip.seq r0 | _ => Code.skip.seq r1) (J2N J0 J1) ?_ (first fun m a w h => jumpsN_any (nx m a w h)) ?_
  · intro l m a w h
    match l, h with
    | 0, _ => exact h0
    | 1, _ => exact h1
  · intro l m a w h
    match l, h with
    | 0, h => exact wp_seq (wp_skip (nx m a w h))
    | 1, h => exact wp_seq (wp_skip (beside m a w h))

/-- a row of slots, one by one -/
theorem slotsN_list (l : List Value) : l = (List.range l.length).map fun i => l.getD i undef := by
  apply List.ext_getElem
  · simp
  · intro i h1 h2
    simp only [List.getElem_map, List.getElem_range]
    rw [List.getD_eq_getElem?_getD, List.getElem?_eq_getElem h1]
    rfl
theorem slotsN_some {a : Array Value} {i : Nat} {x : Value} (h : a[i]? = some x) : a.toList.getD i undef = x := by
  rw [List.getD_eq_getElem?_getD, Array.getElem?_toList, h]
  rfl
theorem slotsN_arr {a : Array Value} {n : Nat} (h : a.size = n) : a = ((List.range n).map fun i => a.toList.getD i undef).toArray := by
  subst h
  have := slotsN_list a.toList
  rw [Array.length_toList] at this
  rw [← this]
structure SloA (a : Act) (x0 x1 : Value) : Prop where
  d : a.defers = []
  n : a.tmps.size = 61
  s0 : a.tmps[0]? = some x0
  s1 : a.tmps[1]? = some x1
theorem SloA.lit {a : Act} {x0 x1 : Value} (h : SloA a x0 x1) : ∃ V : Nat → Value, a = { tmps := #[x0, x1, V 2, V 3, V 4, V 5, V 6, V 7, V 8, V 9, V 10, V 11, V 12, V 13, V 14, V 15, V 16, V 17, V 18, V 19, V 20, V 21, V 22, V 23, V 24, V 25, V 26, V 27, V 28, V 29, V 30, V 31, V 32, V 33, V 34, V 35, V 36, V 37, V 38, V 39, V 40, V 41, V 42, V 43, V 44, V 45, V 46, V 47, V 48, V 49, V 50, V 51, V 52, V 53, V 54, V 55, V 56, V 57, V 58, V 59, V 60], defers := [] } := by
  refine ⟨fun i => a.tmps.toList.getD i undef, ?_⟩
  have e := slotsN_arr h.n
  obtain ⟨t, d⟩ := a
  have hd : d = [] := h.d
  have h0 := slotsN_some h.s0
  have h1 := slotsN_some h.s1
  simp only at h0 h1 e
  subst hd
  rw [← h0, ← h1]
  congr 1
structure SloB (a : Act) (x0 x1 x4 x8 x9 : Value) : Prop where
  d : a.defers = []
  n : a.tmps.size = 61
  s0 : a.tmps[0]? = some x0
  s1 : a.tmps[1]? = some x1
  s4 : a.tmps[4]? = some x4
  s8 : a.tmps[8]? = some x8
  s9 : a.tmps[9]? = some x9
theorem SloB.lit {a : Act} {x0 x1 x4 x8 x9 : Value} (h : SloB a x0 x1 x4 x8 x9) : ∃ V : Nat → Value, a = { tmps := #[x0, x1, V 2, V 3, x4, V 5, V 6, V 7, x8, x9, V 10, V 11, V 12, V 13, V 14, V 15, V 16, V 17, V 18, V 19, V 20, V 21, V 22, V 23, V 24, V 25, V 26, V 27, V 28, V 29, V 30, V 31, V 32, V 33, V 34, V 35, V 36, V 37, V 38, V 39, V 40, V 41, V 42, V 43, V 44, V 45, V 46, V 47, V 48, V 49, V 50, V 51, V 52, V 53, V 54, V 55, V 56, V 57, V 58, V 59, V 60], defers := [] } := by
  refine ⟨fun i => a.tmps.toList.getD i undef, ?_⟩
  have e := slotsN_arr h.n
  obtain ⟨t, d⟩ := a
  have hd : d = [] := h.d
  have h0 := slotsN_some h.s0
  have h1 := slotsN_some h.s1
  have h4 := slotsN_some h.s4
  have h8 := slotsN_some h.s8
  have h9 := slotsN_some h.s9
  simp only at h0 h1 h4 h8 h9 e
  subst hd
  rw [← h0, ← h1, ← h4, ← h8, ← h9]
  congr 1
end Go.Proofs.YtjcmehplcagejaaGreatDoor
