import Derived.Test.YtjcmehplcagejaaGreatDoorM84
import Derived.Test.YtjcmehplcagejaaGreatDoorM23
import Derived.Test.YtjcmehplcagejaaGreatDoorM64
import Derived.Test.YtjcmehplcagejaaGreatDoorM32
/-
  CONTRACTS of package near: through. Laid by wip/gen47.py.
-/
namespace Go.Proofs.YtjcmehplcagejaaGreatDoor
open Go.ChangeShapes Go.WideShapes Go.ChangeAt Go.RowKit Go.Shelf
open Tr (T S4 Ent)
attribute [local go_sem] Oper.semAt_some

namespace Nr
/-- how much there is to do -/
def we (L : List T) : Nat := (L.map fun t => 4 * t.ents.length - 3).sum
theorem we_nil : we [] = 0 := rfl
theorem we_cons (t : T) (L : List T) : we (t :: L) = (4 * t.ents.length - 3) + we L := by simp [we]
theorem we_perm {a b : List T} (h : a.Perm b) : we a = we b := (h.map _).sum_nat
theorem we_len {k : Nat} : ∀ {L : List T}, (∀ t ∈ L, Tr.Wf k t) → L.length ≤ we L
  | [], _ => Nat.le_refl _
  | t :: L, h => by
    have h1 := we_len (L := L) fun y hy => h y (List.mem_cons_of_mem _ hy)
    have h2 : 0 < t.ents.length := List.length_pos_iff.2 (h t List.mem_cons_self).ne
    rw [we_cons, List.length_cons]
    omega
theorem we_kids {k : Nat} : ∀ {ks : List (Nat × T)}, (∀ x ∈ ks, Tr.Wf k x.2) → we (ks.map (·.2)) + 3 * ks.length = 4 * (Tr.entsL ks).length
  | [], _ => rfl
  | x :: ks, h => by
    have h1 := we_kids (ks := ks) fun y hy => h y (List.mem_cons_of_mem _ hy)
    have h2 : 0 < x.2.ents.length := List.length_pos_iff.2 (h x List.mem_cons_self).ne
    rw [Tr.entsL_cons, List.length_append, List.length_cons, List.map_cons, we_cons]
    omega
/-- what is to be done with the kids from the jth on -/
def pend (ks : List (Nat × T)) (j : Nat) : Nat := we ((ks.drop j).map (·.2)) + (ks.length - j)
theorem pend_step {ks : List (Nat × T)} {j : Nat} {x : Nat × T} (h : ks[j]? = some x) : pend ks j = (4 * x.2.ents.length - 3) + 1 + pend ks (j + 1) := by
  obtain ⟨hj, rfl⟩ := List.getElem?_eq_some_iff.1 h
  unfold pend
  rw [List.drop_eq_getElem_cons hj, List.map_cons, we_cons]
  omega
theorem pend_br {k g l : Nat} {pre : List Nat} {ks : List (Nat × T)} (h : Tr.Wf k (.br g l pre ks)) (qs : List T) : we qs + pend ks 0 < we (.br g l pre ks :: qs) := by
  have h1 := we_kids fun x hx => h.kid hx
  have h2 : 2 ≤ ks.length := by cases h with | br _ _ _ _ _ _ h2 => exact h2
  unfold pend
  rw [we_cons, Tr.ents_br, List.drop_zero]
  omega
theorem putK_cons {p : List Nat} {most : Nat} {ks : List (Nat × T)} {j : Nat} {x : Nat × T} (h : ks[j]? = some x) : putK p most (ks.drop j) = (if distT p x.2 ≤ most then [x.2] else []) ++ putK p most (ks.drop (j + 1)) := by
  obtain ⟨hj, rfl⟩ := List.getElem?_eq_some_iff.1 h
  unfold putK
  rw [List.drop_eq_getElem_cons hj, List.map_cons, List.filter_cons]
  by_cases c : distT p ks[j].2 ≤ most
  · simp [c]
  · simp [c]
/-- a kid is put, or isn't -/
theorem St.kid {k : Nat} {p : List Nat} {most : Nat} {ks : List (Nat × T)} {j : Nat} {x : Nat × T} {qs qs' : List T} {N : List Ent} (h : St k p most (qs ++ putK p most (ks.drop j)) N) (hx : ks[j]? = some x) (hq : qs'.Perm (if distT p x.2 ≤ most then x.2 :: qs else qs)) : St k p most (qs' ++ putK p most (ks.drop (j + 1))) N ∧ we qs' ≤ we qs + (4 * x.2.ents.length - 3) := by
  rw [putK_cons hx] at h
  by_cases c : distT p x.2 ≤ most
  · rw [if_pos c] at h hq
    refine ⟨h.perm ?_, by rw [we_perm hq, we_cons]; omega⟩
    have h1 : (qs ++ ([x.2] ++ putK p most (ks.drop (j + 1)))).Perm ((x.2 :: qs) ++ putK p most (ks.drop (j + 1))) := by
      rw [← List.append_assoc]
      exact (List.perm_append_singleton x.2 qs).append_right _
    exact h1.trans (hq.symm.append_right _)
  · rw [if_neg c] at h hq
    exact ⟨h.perm ((hq.symm).append_right _), by rw [we_perm hq]; omega⟩
end Nr

/-- what becomes of whoever is told an entry: he goes on, or doesn't -/
def ToldN (F : Nat → Prop) (w : World) (hh : Nat) (On Off : (Nat → Prop) → World → Prop) (r : Ending) (w' : World) : Prop :=
  ∃ F' go, r = .returned (.bool go) ∧ (∀ b, F' b → F b ∨ w.heap.size ≤ b ∨ b = hh) ∧ Foot F w w' ∧ (if go = true then On F' w' else Off F' w')
/-- what a search has come to -/
def MetN (J Jx : Nat → (Nat → Prop) → World → Prop) (B : Nat) (F : Nat → Prop) (N : List Ent) (w w' : World) : Prop :=
  ∃ F' j, (∀ b, F' b → F b ∨ w.heap.size ≤ b) ∧ ((j = N.length ∧ J j F' w') ∨ Jx j F' w') ∧ Below B w w'

/-- whoever is told each entry: he tells whether to go on -/
structure MeetN2 (fid g1 g2 B : Nat) (p : List Nat) (N : List Ent) (J Jx : Nat → (Nat → Prop) → World → Prop) : Prop where
  ent : ∀ args w, (callFunc fid args).run Tryz.prog w = .ok (.enter fid args) w
  frame : ∀ j F w w', J j F w → w.heap.size ≤ w'.heap.size → (∀ b, F b → w'.heap[b]? = w.heap[b]?) → Below B w w' → J j F w'
  inb : ∀ j F w, J j F w → ∀ b, F b → b < w.heap.size ∧ B ≤ b
  call : ∀ j F w e (hh d n v x : Nat), J j F w → N[j]? = some e → PtsG w (fun b => b = hh) (some ⟨hh, 0, none⟩) e.1 → ¬ F hh → B ≤ hh → hh < w.heap.size → e.1.length = n → e.2 = v → Nr.dist p e.1 = x →
    Calls Tryz.prog fid #[.agg #[.slice (some ⟨hh, 0, none⟩) n d, .int .u64 (v : Int)], .int .u64 (x : Int), .pointer (some ⟨g1, 0, none⟩), .pointer (some ⟨g2, 0, none⟩)] w fun r w' => ToldN F w hh (J (j + 1)) (Jx (j + 1)) r w'
/-- between two nodes -/
structure NxI2 (J : Nat → (Nat → Prop) → World → Prop) (B b0 g k : Nat) (p : List Nat) (Ap : Option Addr) (cp most : Nat) (fv : Value) (N : List Ent) (M : Nat) (F : Nat → Prop) (w : World) (m : Nat) (w' : World) (F' : Nat → Prop) (D : Option Addr) (d : Nat) (qs : List T) (j : Nat) (P : List T) (R C : Nat) : Prop where
  me : J j F' w'
  sea : Sea w' F' b0 g k p Ap cp most fv D d qs
  st : Nr.St k p most (qs ++ P) (N.drop j)
  nd : ∀ t ∈ qs, Node w B k t
  mm : m = 2 * (Nr.we qs + R) + C
  jle : j ≤ N.length
  le : Nr.we qs + R ≤ M
  bel : Below B w w'
  inF : ∀ b, F' b → F b ∨ w.heap.size ≤ b
/-- between two kids of a node -/
structure BsI2 (J : Nat → (Nat → Prop) → World → Prop) (B b0 g k : Nat) (p : List Nat) (Ap : Option Addr) (cp most : Nat) (fv : Value) (N : List Ent) (M : Nat) (F : Nat → Prop) (w : World) (m : Nat) (w' : World) (F' : Nat → Prop) (D : Option Addr) (d : Nat) (qs : List T) (j E gb l i : Nat) (pre : List Nat) (ks : List (Nat × T)) (x1 x2 : Value) : Prop where
  nx : NxI2 J B b0 g k p Ap cp most fv N M F w m w' F' D d qs j (Nr.putK p most (ks.drop i)) (Nr.pend ks i) 1
  nt : Node w B k (.br gb l pre ks)
  blk : w'.heap[E]? = some (.cells #[.pointer (some ⟨gb, 0, none⟩), x1, x2] 240 (0, 0))
  out : ¬ F' E ∧ E ≠ g ∧ D.map (·.block) ≠ some E
section
variable {fid g1 g2 B b0 g k : Nat} {p : List Nat} {N : List Ent} {J Jx : Nat → (Nat → Prop) → World → Prop} {Ap : Option Addr} {cp most M : Nat}
/-- what holds behind a Pop, and when the node's place has been laid -/
theorem NxI2.popped (hv : MeetN2 fid g1 g2 B p N J Jx) {w w' w3 : World} {F F' : Nat → Prop} {fv : Value} {D : Option Addr} {d m j : Nat} {qs rest : List T} (h : NxI2 J B b0 g k p Ap cp most fv N M F w m w' F' D d qs j [] 0 0) (hB : B ≤ b0)
    (hque : QueS w3 b0 g k (Gq F' b0 g D) p D d rest (.slice Ap k cp) (.int .u64 (most : Int)) fv) (hfo : Foot (fun b => b = g ∨ D.map (·.block) = some b) w' w3) (ob : Obj) :
    J j F' (w3.alloc ob) ∧ Sea (w3.alloc ob) F' b0 g k p Ap cp most fv D d rest ∧ Below B w (w3.alloc ob) ∧ w'.heap.size ≤ w3.heap.size := by
  have hb3 : Below B w' w3 := hfo.below (Nat.le_trans hB h.sea.old) (fun b hb => by
    rcases hb with rfl | hb
    · exact Nat.le_trans hB h.sea.glow
    · exact Nat.le_trans hB (h.sea.que.lt b hb).1)
  have hs3 : Sea w3 F' b0 g k p Ap cp most fv D d rest := ⟨hque, Nat.le_trans h.sea.old hfo.size, h.sea.glow, h.sea.nF, h.sea.nFD, fun b hb => Nat.lt_of_lt_of_le (h.sea.inF b hb) hfo.size⟩
  have hal := below_alloc w3 ob
  have hin := hv.inb _ _ _ h.me
  have hBw : B ≤ w3.heap.size := Nat.le_trans (Nat.le_trans hB h.sea.old) hfo.size
  refine ⟨hv.frame _ _ _ _ h.me (Nat.le_trans hfo.size hal.size) (fun b hb => ?_) (hb3.trans (hal.mono hBw)), hs3.below hal, h.bel.trans (hb3.trans (hal.mono hBw)), hfo.size⟩
  have hlt := (hin b hb).1
  exact (hal.block b (Nat.lt_of_lt_of_le hlt hfo.size)).trans (hfo.block b hlt (fun e => by
    rcases e with rfl | e
    · exact h.sea.nF hb
    · exact h.sea.nFD b e hb))
set_option maxRecDepth 1000000 in
set_option maxHeartbeats 8000000 in
theorem through2_c (hv : MeetN2 fid g1 g2 B p N J Jx) {w : World} {F : Nat → Prop} (hJ : J 0 F w) {D : Option Addr} {d : Nat} (hS : Sea w F b0 g k p Ap cp most (.func (.func fid) #[] #[.pointer (some ⟨g1, 0, none⟩), .pointer (some ⟨g2, 0, none⟩)]) D d []) (hB : B ≤ b0) (hp : Pts w B Ap p) (hpl : p.length = k) (hT : ∀ w', Below B w w' → Tz w') {o : Option T} (ho : NodeO w B k o)
    (hN : N = (Nr.nearL p (Tr.entsO o)).filter fun e => decide (Nr.dist p e.1 ≤ most)) (hlen : (Tr.entsO o).length ≤ 100000000) :
    Calls Tryz.prog 135 #[.pointer (some ⟨g, 0, none⟩), .pointer (rootP o)] w fun e w' => e = .returned (.tuple #[]) ∧ MetN J Jx B F N w w' := by
  have hent := hv.ent
  have HV := Lib.hid hv
  have HX := Lib.hid (And.intro hJ (And.intro hS (And.intro hB (And.intro hp (And.intro hpl (And.intro hT (And.intro ho hlen)))))))
  have hstart : Calls Tryz.prog 173 #[.pointer (some ⟨g, 0, none⟩), .pointer (rootP o)] w fun e w' => e = .returned (.tuple #[]) ∧ ∃ m D' d' qs, NxI2 J B b0 g k p Ap cp most (.func (.func fid) #[] #[.pointer (some ⟨g1, 0, none⟩), .pointer (some ⟨g2, 0, none⟩)]) N 400000000 F w m w' F D' d' qs 0 [] 0 0 := by
    cases o with
    | none =>
      refine (add_nil g w).mono ?_
      rintro e w' ⟨rfl, rfl⟩
      have hN0 : N = [] := by rw [hN]; rfl
      exact ⟨rfl, _, D, d, [], hJ, hS, ⟨fun t ht => (by simp at ht), by rw [hN0]; exact List.Pairwise.nil, fun e => by rw [hN0]; simp, List.Pairwise.nil⟩, fun t ht => (by simp at ht), rfl, Nat.zero_le _, by rw [Nr.we_nil]; omega, Below.refl _ _, fun b hb => .inl hb⟩
    | some t =>
      have hnt := ho t rfl
      refine (add_c hS hB (by simp) hp hpl hnt).mono ?_
      rintro e w' ⟨rfl, D', d', qs', hper, hsea, hD', hf⟩
      have hbB : Below B w w' := hf.below (Nat.le_trans hB hS.old) (fun b hb => by
        rcases hb with rfl | hb
        · exact Nat.le_trans hB hS.glow
        · exact Nat.le_trans hB (hS.que.lt b hb).1)
      have hin := hv.inb _ _ _ hJ
      have hJ' := hv.frame 0 F w w' hJ hf.size (fun b hb => hf.block b (hin b hb).1 (fun e => by
        rcases e with rfl | e
        · exact hS.nF hb
        · exact hS.nFD b e hb)) hbB
      have hle : 4 * t.ents.length ≤ 400000000 := by have : (Tr.entsO (some t)).length = t.ents.length := rfl; omega
      by_cases hc : Nr.distT p t ≤ most
      · rw [if_pos hc] at hper
        have hst := Nr.st_one hnt.1 hpl hc
        refine ⟨rfl, _, D', d', qs', hJ', hsea, ?_, fun s hs => ?_, rfl, Nat.zero_le _, ?_, hbB, fun b hb => .inl hb⟩
        · rw [List.append_nil, List.drop_zero, hN]
          exact hst.perm hper.symm
        · rw [List.mem_singleton.1 (hper.mem_iff.1 hs)]; exact hnt
        · rw [Nr.we_perm hper, Nr.we_cons, Nr.we_nil]; omega
      · rw [if_neg hc] at hper
        have hN0 : N = [] := by rw [hN]; exact Nr.st_none hnt.1 hpl (by omega)
        have hq0 := hper.eq_nil
        subst hq0
        exact ⟨rfl, _, D', d', [], hJ', hsea, ⟨fun t ht => (by simp at ht), by rw [hN0]; exact List.Pairwise.nil, fun e => by rw [hN0]; simp, List.Pairwise.nil⟩, fun t ht => (by simp at ht), rfl, Nat.zero_le _, by rw [Nr.we_nil]; omega, hbB, fun b hb => .inl hb⟩
  have HS := Lib.hid hstart
  clear hv hJ hS hB hp hpl hT ho hN hlen hstart
  obtain ⟨ra, hra⟩ : ∃ ra, rootP o = ra := ⟨_, rfl⟩
  rw [hra] at HS ⊢
  clear hra
  go_enter Tryz.func135, Tryz.ntmps135
  go_wp2_with fail
  refine wp_scope_twoN (fun m a' w' => ∃ F' D' d' qs j, SloA a' (.pointer (some ⟨g, 0, none⟩)) (.pointer ra) ∧ NxI2 J B b0 g k p Ap cp most (.func (.func fid) #[] #[.pointer (some ⟨g1, 0, none⟩), .pointer (some ⟨g2, 0, none⟩)]) N 400000000 F w m w' F' D' d' qs j [] 0 0)
    (fun m a' w' => ∃ F' D' d' qs j E gb l i pre ks x1 x2, SloB a' (.pointer (some ⟨g, 0, none⟩)) (.pointer ra) (.pointer (some ⟨E, 0, none⟩)) (.int .i64 ((kidP (ks[i]?)).1 : Int)) (.pointer (kidP (ks[i]?)).2) ∧ BsI2 J B b0 g k p Ap cp most (.func (.func fid) #[] #[.pointer (some ⟨g1, 0, none⟩), .pointer (some ⟨g2, 0, none⟩)]) N 400000000 F w m w' F' D' d' qs j E gb l i pre ks x1 x2) rfl rfl ?beside ?next ?first
  case first =>
    intro hp
    have HP := Lib.hid hp
    clear hp
    go_wp2_with fail
    refine HS.out.mono ?_
    rintro e w1 ⟨rfl, m1, D1, d1, qs1, hI1⟩
    have HI1 := Lib.hid hI1
    clear hI1
    go_wp2_with fail
    refine wp_label ?_
    simp only [Exit.then]
    rename_i hK
    apply hK
    exact HP.out _ _ _ ⟨F, D1, d1, qs1, 0, ⟨rfl, rfl, rfl, rfl⟩, HI1.out⟩
  case next =>
    rintro m hbes a' w' ⟨F', D', d', qs, j, hs, hI⟩
    obtain ⟨V, rfl⟩ := hs.lit
    clear hs HS
    have HI := Lib.hid hI
    have HBs := Lib.hid hbes
    obtain ⟨c0, -, -, -⟩ := hI.sea.cells
    cases qs with
    | nil =>
      clear hI hbes
      simp only [List.length_nil] at c0
      go_wp2_with (go_at_call 174; refine (qLen_c _ _ _ _).mono ?_; rintro e w2 ⟨rfl, rfl⟩)
      simp only [jumpsN]
      refine bodyPost_ret (v := .tuple #[]) (results_none rfl _ _ _) rfl ?_
      have h := HI.out
      have he := h.st.empty
      have hl := congrArg List.length he
      rw [List.length_drop] at hl
      have hj : j = N.length := by have := h.jle; simp at hl; omega
      exact ⟨rfl, F', j, h.inF, .inl ⟨hj, h.me⟩, h.bel⟩
    | cons q0 qs =>
      have hlw := Nr.we_len (L := q0 :: qs) fun t ht => (HI.out.nd t ht).1
      have hle := HI.out.le
      have hpok := HX.out.2.2.2.1.1
      have HPop := Lib.hid (hPop_c hI.sea.que (by simp) (by omega) HX.out.2.2.2.2.1 hpok)
      obtain ⟨n, hn⟩ : ∃ n, (q0 :: qs).length = n + 1 := ⟨qs.length, rfl⟩
      rw [hn] at c0 hlw
      have hn9 : (n : Int) ≤ 400000000 := by omega
      have d0 : (((n + 1 : Nat) : Int) == 0) = false := by rw [beq_eq_false_iff_ne]; omega
      have hta := std_assert
      clear hI hbes hlw hle hpok hn
      go_wp2_with (first
        | (go_at_call 174; refine (qLen_c _ _ _ _).mono ?_; rintro e w2 ⟨rfl, rfl⟩)
        | (go_at_call 175; refine HPop.out.mono ?_; rintro e w3 ⟨t, rest, A, c, rfl, hper, hmin, hpt, hque, hfo⟩; have H3 := Lib.hid (And.intro hper (And.intro hmin (And.intro hpt (And.intro hque hfo)))); clear hper hmin hpt hque hfo))
      obtain ⟨hper, hmin, hpt, hque, hfo⟩ := H3.out
      obtain ⟨me4, sea4, bel4, hsz⟩ := HI.out.popped HV.out HX.out.2.2.1 hque hfo (.cells #[.pointer (some ⟨t.blk, 0, none⟩), .slice A t.pre.length c, .int .u64 (Nr.distT p t : Int)] 240)
      have hnt := HI.out.nd t (hper.mem_iff.2 List.mem_cons_self)
      have hblk := heap_at w3 (.cells #[.pointer (some ⟨t.blk, 0, none⟩), .slice A t.pre.length c, .int .u64 (Nr.distT p t : Int)] 240) _ rfl
      have hBw : B ≤ w.heap.size := Nat.le_trans HX.out.2.2.1 HX.out.2.1.old
      have hnt4 : Node (w3.alloc (.cells #[.pointer (some ⟨t.blk, 0, none⟩), .slice A t.pre.length c, .int .u64 (Nr.distT p t : Int)] 240)) B k t := hnt.below bel4 (Nat.le_refl _) (Nat.le_refl _)
      have hout : ¬ F' w3.heap.size ∧ w3.heap.size ≠ g ∧ D'.map (·.block) ≠ some w3.heap.size := ⟨fun hf => by have := HI.out.sea.inF _ hf; omega, fun e => by have := BoxS.lt HI.out.sea.que.box; omega, fun e => by have := (HI.out.sea.que.lt _ e).2; omega⟩
      generalize hW4 : w3.alloc (.cells #[.pointer (some ⟨t.blk, 0, none⟩), .slice A t.pre.length c, .int .u64 (Nr.distT p t : Int)] 240) = W4 at *
      obtain ⟨E, hE⟩ : ∃ E, w3.heap.size = E := ⟨_, rfl⟩
      have hElt : E < W4.heap.size := by rw [← hW4, ← hE]; simp
      rw [hE] at hblk hout hsz ⊢
      have H4 := Lib.hid (And.intro me4 (And.intro sea4 (And.intro bel4 (And.intro hnt (And.intro hnt4 (And.intro hblk (And.intro hout (And.intro hsz (And.intro hElt hBw)))))))))
      clear me4 sea4 bel4 hnt hblk hout hsz hW4 hper hmin hpt hque hfo hE hElt hBw HPop c0 d0 hn9 hta
      cases t with
      | ent gE q v =>
        have hst := (HI.out.st.perm ((List.append_nil _).symm ▸ H3.out.1)).ent HX.out.2.2.2.2.1 H3.out.2.1
        obtain ⟨N', hN1, hst'⟩ := hst
        have hlq : q.length = k := hnt4.1.len
        have hk1 := hnt4.1.k1
        have hk16 := hnt4.1.k16
        obtain ⟨kp, hnd⟩ := hnt4.2.nd
        have HE := Lib.hid (nEntry_ent hnd (Nat.le_trans H4.out.2.2.2.2.2.2.2.2.2 H4.out.2.2.1.size) (by intro e; rw [show (T.ent gE q v).pre = q from rfl] at e; rw [e] at hlq; simp at hlq; omega) (by show q.length ≤ _; omega))
        have hdx := Nr.distT_ent hnt4.1 HX.out.2.2.2.2.1
        obtain ⟨x, hx⟩ : ∃ x, Nr.dist p q = x := ⟨_, rfl⟩
        obtain ⟨n', hn'⟩ : ∃ n', q.length = n' := ⟨_, rfl⟩
        have HQ := Lib.hid (And.intro hN1 (And.intro hst' (And.intro hdx (And.intro hx hn'))))
        clear hnt4 hnd hN1 hst' hlq hk1 hk16 hdx
        have HE : Hid (Calls Tryz.prog 110 #[.pointer (some ⟨(T.ent gE q v).blk, 0, none⟩)] W4 fun e w' => ∃ h d, e = .returned (.tuple #[entryV (some ⟨h, 0, none⟩) n' d v, .bool true]) ∧ Own w' W4.heap.size (.slice (some ⟨h, 0, none⟩) n' d) q ∧ Below W4.heap.size W4 w') := by rw [← hn']; exact HE
        clear hx hn'
        refine HE.out.mono ?_
        rintro e w5 ⟨hh, dd, rfl, ho5, hb5⟩
        have H5 := Lib.hid (And.intro ho5 hb5)
        clear ho5 hb5 HE
        go_wp2_with fail
        have hb46 := Below.andThen H5.out.2 (below_alloc w5 (.cells #[.slice (some ⟨hh, 0, none⟩) n' dd, .int .u64 (v : Int)] 53))
        have hs6 := H4.out.2.1.below hb46
        have hE6 := (hb46.block E H4.out.2.2.2.2.2.2.2.2.1).trans H4.out.2.2.2.2.2.1
        have hen := heap_at w5 (.cells #[.slice (some ⟨hh, 0, none⟩) n' dd, .int .u64 (v : Int)] 53) _ rfl
        have ho6 := H5.out.1.below (below_alloc w5 (.cells #[.slice (some ⟨hh, 0, none⟩) n' dd, .int .u64 (v : Int)] 53)) (Nat.le_refl _)
        have hhE : W4.heap.size ≤ hh := (H5.out.1.2.lt hh (by rw [own_block]; rfl)).1
        have hhlt := (ho6.2.lt hh (by rw [own_block]; rfl)).2
        generalize hW6 : w5.alloc (.cells #[.slice (some ⟨hh, 0, none⟩) n' dd, .int .u64 (v : Int)] 53) = W6 at *
        obtain ⟨Z, hZ⟩ : ∃ Z, w5.heap.size = Z := ⟨_, rfl⟩
        rw [hZ] at hen ⊢
        obtain ⟨-, -, -, s3⟩ := hs6.cells
        have z0 : W6.cell? ⟨Z, 0, none⟩ = some (.slice (some ⟨hh, 0, none⟩) n' dd) := by rw [cell_of_row W6 Z _ _ _ (0, 0) hen]; rfl
        have z1 : W6.cell? ⟨Z, 1, none⟩ = some (.int .u64 (v : Int)) := by rw [cell_of_row W6 Z _ _ _ (0, 0) hen]; rfl
        have e2 : W6.cell? ⟨E, 2, none⟩ = some (.int .u64 (x : Int)) := by rw [cell_of_row W6 E _ _ _ (0, 0) hE6, HQ.out.2.2.1, HQ.out.2.2.2.1]; rfl
        have hin := HV.out.inb _ _ _ H4.out.1
        have hbB : Below B W4 W6 := hb46.mono (Nat.le_trans H4.out.2.2.2.2.2.2.2.2.2 H4.out.2.2.1.size)
        have hM : ∀ W7, Below W6.heap.size W6 W7 → Calls Tryz.prog fid #[.agg #[.slice (some ⟨hh, 0, none⟩) n' dd, .int .u64 (v : Int)], .int .u64 (x : Int), .pointer (some ⟨g1, 0, none⟩), .pointer (some ⟨g2, 0, none⟩)] W7 fun r w' => ToldN F' W7 hh (J (j + 1)) (Jx (j + 1)) r w' := fun W7 hb7 =>
          HV.out.call j F' W7 (q, v) hh dd n' v x (HV.out.frame _ _ _ _ H4.out.1 (Nat.le_trans hb46.size hb7.size) (fun b hb => (hb7.block b (Nat.lt_of_lt_of_le (hin b hb).1 hb46.size)).trans (hb46.block b (hin b hb).1)) (hbB.trans (hb7.mono (Nat.le_trans (Nat.le_trans H4.out.2.2.2.2.2.2.2.2.2 H4.out.2.2.1.size) hb46.size))))
            (by have := congrArg (fun L => L[0]?) HQ.out.1; simp only [List.getElem?_drop, Nat.add_zero, List.getElem?_cons_zero] at this; exact this) (Own.ptsG (ho6.below hb7 (Nat.le_refl _)) rfl) (fun hf => by have := (hin hh hf).1; omega) (Nat.le_trans (Nat.le_trans H4.out.2.2.2.2.2.2.2.2.2 H4.out.2.2.1.size) hhE) (Nat.lt_of_lt_of_le hhlt hb7.size) HQ.out.2.2.2.2 rfl HQ.out.2.2.2.1
        have HM := Lib.hid hM
        have H6 := Lib.hid (And.intro hb46 (And.intro hhE hbB))
        clear hs6 hE6 hen ho6 hhE hW6 hZ hin hbB hM hb46
        go_region_with (go_at_fn fid; refine (HM.out _ (by ((repeat (first | refine Below.drew ?_ | (with_reducible refine below_drewN _ ?_) | refine Below.alloc ?_ (by first | omega | (simp; done) | (simp; omega)) _ | refine Below.setCell ?_ (by first | omega | (simp; done) | (simp; omega)) _)); first | exact Below.refl _ _ | assumption | exact below_drewN _ (Below.refl _ _) | exact below_drewN _ (below_drewN _ (Below.refl _ _))))).mono ?_; rintro e w7 ⟨F2, go, rfl, hF2, hfo7, hgo⟩; have H7 := Lib.hid (And.intro hF2 (And.intro hfo7 hgo)); clear hF2 hfo7 hgo)
        all_goals (
          obtain ⟨hF2, hfo7, hgo⟩ := H7.out
          obtain ⟨me4, sea4, bel4, hnt, hnt4, hblk, hout, hsz, hElt, hBw⟩ := H4.out
          obtain ⟨hN1, hst', hdx, hx, hn'⟩ := HQ.out
          obtain ⟨hb46, hhE, hbB⟩ := H6.out
          have hB4 : B ≤ W4.heap.size := Nat.le_trans hBw bel4.size
          have hin := HV.out.inb _ _ _ me4
          have hfo : Foot F' W4 w7 := (Foot.of_below (by first | exact (hb46.drew) | exact hb46)).trans hfo7 (fun b hb => .inl hb)
          have hb47 : Below B W4 w7 := hfo.below hB4 (fun b hb => (hin b hb).2)
          have hF2' : ∀ b, F2 b → F' b ∨ W4.heap.size ≤ b := fun b hb => by
            rcases hF2 b hb with e | e | e
            · exact .inl e
            · have h6 := hb46.size; exact .inr (Nat.le_trans h6 e)
            · exact .inr (by omega)
          have hF0 : ∀ b, F2 b → F b ∨ w.heap.size ≤ b := fun b hb => by
            rcases hF2' b hb with e | e
            · exact HI.out.inF b e
            · exact .inr (Nat.le_trans bel4.size e)
          have hjl : j + 1 ≤ N.length := by
            have := congrArg List.length hN1
            rw [List.length_drop, List.length_cons] at this
            omega
          have HFin := Lib.hid (And.intro hF0 (And.intro hF2' (And.intro hjl (And.intro (bel4.trans hb47) (And.intro hfo hgo)))))
          clear hF2 hfo7 hgo me4 sea4 bel4 hnt hnt4 hblk hout hsz hElt hBw hN1 hst' hdx hx hn' hb46 hhE hbB hB4 hin hfo hb47 hF2' hF0 hjl H7 s3 z0 z1 e2 HM hent
          cases go with
          | true =>
            go_wp2_with fail
            go_step3
            obtain ⟨hF0, hF2', hjl, hbel, hfo, hgo⟩ := HFin.out
            have hgo : J (j + 1) F2 w7 := by simpa using hgo
            have hwe : Nr.we (q0 :: qs) = 1 + Nr.we rest := by rw [Nr.we_perm H3.out.1, Nr.we_cons, Tr.ents_ent]; rfl
            have hmm := HI.out.mm
            have hle := HI.out.le
            refine ⟨2 * Nr.we rest, by omega, F2, D', d', rest, j + 1, ⟨rfl, rfl, rfl, rfl⟩, hgo, H4.out.2.1.keep hfo.size hfo.block hF2' (fun b hb => (HV.out.inb _ _ _ hgo b hb).1), ?_, fun s hs => HI.out.nd s (H3.out.1.mem_iff.2 (List.mem_cons_of_mem _ hs)), by omega, hjl, by omega, hbel, hF0⟩
            rw [List.append_nil]
            have hd : N.drop (j + 1) = N' := by rw [← List.drop_drop, HQ.out.1]; rfl
            rw [hd]
            exact HQ.out.2.1
          | false =>
            go_wp2_with fail
            simp only [jumpsN]
            refine bodyPost_ret (v := .tuple #[]) (results_none rfl _ _ _) rfl ?_
            obtain ⟨hF0, hF2', hjl, hbel, hfo, hgo⟩ := HFin.out
            exact ⟨rfl, F2, j + 1, hF0, .inr (by simpa using hgo), hbel⟩)
      | br gb l pre ks =>
        have hst := (HI.out.st.perm (qs' := .br gb l pre ks :: rest) (by rw [List.append_nil]; exact H3.out.1)).br HX.out.2.2.2.2.1
        obtain ⟨hst', -⟩ := hst
        have hpend := Nr.pend_br hnt4.1 rest
        obtain ⟨kp, hnd⟩ := hnt4.2.nd
        have hlv : levI (T.br gb l pre ks) = (l : Int) := by show ((l + 1 : Nat) : Int) - 1 = l; omega
        rw [hlv] at hnd
        have HE := Lib.hid (nEntry_br hnd (Nat.le_trans H4.out.2.2.2.2.2.2.2.2.2 H4.out.2.2.1.size))
        have HQ := Lib.hid (And.intro hst' hpend)
        clear hnt4 hnd hst' hpend hlv
        refine HE.out.mono ?_
        rintro e w5 ⟨rfl, hb5⟩
        have hbB : Below B W4 w5 := hb5.mono (Nat.le_trans H4.out.2.2.2.2.2.2.2.2.2 H4.out.2.2.1.size)
        have H5 := Lib.hid (And.intro hb5 hbB)
        clear hb5 HE hbB
        have e0 : ∀ ob, (w5.alloc ob).cell? ⟨E, 0, none⟩ = some (.pointer (some ⟨gb, 0, none⟩)) := fun ob => by
          have hE6 := ((Below.andThen H5.out.1 (below_alloc w5 ob)).block E H4.out.2.2.2.2.2.2.2.2.1).trans H4.out.2.2.2.2.2.1
          rw [cell_of_row _ E _ _ _ (0, 0) hE6]; rfl
        go_wp2_with fail
        clear e0
        have hb46 := Below.andThen H5.out.1 (below_alloc w5 (.cells #[.slice none 0 0, .int .u64 0] 53))
        generalize hW6 : w5.alloc (.cells #[.slice none 0 0, .int .u64 0] 53) = W6 at *
        have hbB : Below B W4 W6 := hb46.mono (Nat.le_trans H4.out.2.2.2.2.2.2.2.2.2 H4.out.2.2.1.size)
        have hs6 := H4.out.2.1.below hb46
        have hE6 := (hb46.block E H4.out.2.2.2.2.2.2.2.2.1).trans H4.out.2.2.2.2.2.1
        have hFr := nFrom_c (H4.out.2.2.2.2.1.below hb46 (Nat.le_trans H4.out.2.2.2.2.2.2.2.2.2 H4.out.2.2.1.size) (Nat.le_refl _)).2 (HX.out.2.2.2.2.2.1 W6 (H4.out.2.2.1.trans hbB)) 0 (by omega) (by omega) (kidP (ks[0]?)) (by show kidP (ks[Sl.idx ks 0]?) = _; rw [Sl.idx_zero])
        have HFr : Hid (Calls Tryz.prog 128 #[.pointer (some ⟨gb, 0, none⟩), .int .i64 0] W6 fun e w' => e = .returned (atKid (kidP (ks[0]?)).1 (kidP (ks[0]?)).2) ∧ ∃ n, w' = W6.drewN n) := Lib.hid hFr
        obtain ⟨ka, hka⟩ : ∃ ka, (kidP (ks[0]?)).1 = ka := ⟨_, rfl⟩
        obtain ⟨kq, hkq⟩ : ∃ kq, (kidP (ks[0]?)).2 = kq := ⟨_, rfl⟩
        rw [hka, hkq] at HFr
        have H6 := Lib.hid (And.intro hs6 (And.intro hE6 (And.intro hbB (And.intro hb46 (And.intro hka hkq)))))
        clear hs6 hE6 hFr hb46 hbB hW6 hka hkq hent
        refine HFr.out.mono ?_
        rintro e w7 ⟨rfl, n7, rfl⟩
        go_wp2_with fail
        refine wp_label ?_
        simp only [Exit.then]
        rename_i hK
        apply hK
        obtain ⟨hs6, hE6, hbB, hb46, hka, hkq⟩ := H6.out
        have hb7 : Below W6.heap.size W6 (W6.drewN n7) := below_drewN n7 (Below.refl _ _)
        have hwe := Nr.we_perm H3.out.1
        have hmm := HI.out.mm
        have hle := HI.out.le
        have hpd := HQ.out.2
        have hin := HV.out.inb _ _ _ H4.out.1
        refine HBs.out (2 * (Nr.we rest + Nr.pend ks 0) + 1) _ _ (by omega) ⟨F', D', d', rest, j, E, gb, l, 0, pre, ks, _, _, ⟨rfl, rfl, rfl, rfl, rfl, by rw [hka]; rfl, by rw [hkq]; rfl⟩, ⟨⟨HV.out.frame _ _ _ _ H4.out.1 hb46.size (fun b hb => hb46.block b (hin b hb).1) (below_drewN n7 hbB), hs6.below hb7, ?_, fun s hs => HI.out.nd s (H3.out.1.mem_iff.2 (List.mem_cons_of_mem _ hs)), rfl, HI.out.jle, by omega, H4.out.2.2.1.trans (below_drewN n7 hbB), HI.out.inF⟩, H4.out.2.2.2.1, hE6, H4.out.2.2.2.2.2.2.1⟩⟩
        rw [List.drop_zero]
        exact HQ.out.1
  case beside =>
    rintro m a' w' ⟨F', D', d', qs, j, E, gb, l, i, pre, ks, x1, x2, hs, hI⟩
    obtain ⟨V, rfl⟩ := hs.lit
    clear hs HS
    have HI := Lib.hid hI
    have hsrt := hI.nt.1
    cases hk : ks[i]? with
    | none =>
      have hi : ks.length ≤ i := List.getElem?_eq_none_iff.1 hk
      have HK := Lib.hid hi
      clear hI hk hi hsrt hent
      simp only [kidP, Option.map_none, Option.getD_none]
      go_wp2_with fail
      go_step3
      have h := HI.out
      have hP : Nr.putK p most (ks.drop i) = [] := by rw [List.drop_of_length_le HK.out]; rfl
      have hst := h.nx.st
      rw [hP] at hst
      have hmm := h.nx.mm
      have hle := h.nx.le
      exact ⟨2 * Nr.we qs, by omega, F', D', d', qs, j, ⟨rfl, rfl, rfl, rfl⟩, ⟨h.nx.me, h.nx.sea, hst, h.nx.nd, by omega, h.nx.jle, by omega, h.nx.bel, h.nx.inF⟩⟩
    | some y =>
      obtain ⟨a, s⟩ := y
      have hBw : B ≤ w.heap.size := Nat.le_trans HX.out.2.2.1 HX.out.2.1.old
      have hns : Node w B k s := hI.nt.kid (List.mem_of_getElem? hk)
      have hlw := Nr.we_len (L := qs) fun t ht => (hI.nx.nd t ht).1
      have hle := hI.nx.le
      have hbel := hI.nx.bel
      have HA := Lib.hid (add_c hI.nx.sea HX.out.2.2.1 (by omega) (HX.out.2.2.2.1.below' hbel (Nat.le_refl _)) HX.out.2.2.2.2.1 (hns.below hbel (Nat.le_refl _) (Nat.le_refl _)))
      have ha16 : a < 65536 := by
        have hw := hI.nt.1
        cases hw with
        | br _ _ _ _ _ hw => exact hw.lt16 (a, s) (List.mem_of_getElem? hk)
      have HK := Lib.hid (And.intro hk (And.intro hns (And.intro hBw ha16)))
      have ha1 : (a : Int) ≤ 65536 := by omega
      have ha0 : (0 : Int) ≤ (a : Int) := by omega
      clear hI hk hns hBw hlw hle hbel ha16 hsrt hent
      simp only [kidP, Option.map_some, Option.getD_some]
      go_wp2_with fail
      refine HA.out.mono ?_
      rintro e w2 ⟨rfl, D2, d2, qs2, hper, hsea, hD2, hfo⟩
      have h := HI.out
      have hlt := (Array.getElem?_eq_some_iff.1 h.blk).1
      have hB' : B ≤ w'.heap.size := Nat.le_trans HK.out.2.2.1 h.nx.bel.size
      have hb2 : Below B w' w2 := hfo.below hB' (fun b hb => by
        rcases hb with rfl | hb
        · exact Nat.le_trans HX.out.2.2.1 h.nx.sea.glow
        · exact Nat.le_trans HX.out.2.2.1 (h.nx.sea.que.lt b hb).1)
      have hE2 := (hfo.block E hlt (fun e => by
        rcases e with e | e
        · exact h.out.2.1 e
        · exact h.out.2.2 e)).trans h.blk
      have e0 : w2.cell? ⟨E, 0, none⟩ = some (.pointer (some ⟨gb, 0, none⟩)) := by rw [cell_of_row w2 E _ _ _ (0, 0) hE2]; rfl
      have hidx : Sl.idx ks ((a : Int) + 1) = i + 1 := by
        have hsr : Sl.Srt ks := by
          cases h.nt.1 with
          | br _ _ _ _ _ hw => exact hw.srt
        have := idx_next hsr HK.out.1
        rw [show ((a + 1 : Nat) : Int) = (a : Int) + 1 by omega] at this
        exact this
      have hFr : Calls Tryz.prog 128 #[.pointer (some ⟨gb, 0, none⟩), .int .i64 ((a : Int) + 1)] w2 fun e w' => e = .returned (atKid (kidP (ks[i + 1]?)).1 (kidP (ks[i + 1]?)).2) ∧ ∃ n, w' = w2.drewN n := nFrom_c (h.nt.below (h.nx.bel.trans hb2) (Nat.le_refl _) (Nat.le_refl _)).2 (HX.out.2.2.2.2.2.1 w2 (h.nx.bel.trans hb2)) ((a : Int) + 1) (by omega) (by omega) (kidP (ks[i + 1]?)) (by show kidP (ks[Sl.idx ks ((a : Int) + 1)]?) = _; rw [hidx])
      obtain ⟨ka, hka⟩ : ∃ ka, (kidP (ks[i + 1]?)).1 = ka := ⟨_, rfl⟩
      obtain ⟨kq, hkq⟩ : ∃ kq, (kidP (ks[i + 1]?)).2 = kq := ⟨_, rfl⟩
      rw [hka, hkq] at hFr
      have HFr := Lib.hid hFr
      have H2 := Lib.hid (And.intro hper (And.intro hsea (And.intro hD2 (And.intro hfo (And.intro hb2 (And.intro hE2 (And.intro hka (And.intro hkq hlt))))))))
      clear hper hsea hD2 hfo h hlt hB' hb2 hE2 hidx hFr hka hkq HA
      go_wp2_with (go_at_call 128; refine HFr.out.mono ?_; rintro e w7 ⟨rfl, n7, rfl⟩)
      go_step3
      obtain ⟨hper, hsea, hD2, hfo, hb2, hE2, hka, hkq, hlt⟩ := H2.out
      have h := HI.out
      have hb7 : Below w2.heap.size w2 (w2.drewN n7) := below_drewN n7 (Below.refl _ _)
      obtain ⟨hst, hwe⟩ := h.nx.st.kid HK.out.1 hper
      have hpd := Nr.pend_step HK.out.1
      have hmm := h.nx.mm
      have hle := h.nx.le
      have hin := HV.out.inb _ _ _ h.nx.me
      refine ⟨2 * (Nr.we qs2 + Nr.pend ks (i + 1)) + 1, by omega, F', D2, d2, qs2, j, E, gb, l, i + 1, pre, ks, x1, x2, ⟨rfl, rfl, rfl, rfl, rfl, by rw [← hka]; rfl, by rw [← hkq]; rfl⟩, ⟨⟨HV.out.frame _ _ _ _ h.nx.me hfo.size (fun b hb => hfo.block b (hin b hb).1 (fun e => ?_)) (below_drewN n7 hb2), hsea.below hb7, hst, fun s' hs' => ?_, rfl, h.nx.jle, by omega, h.nx.bel.trans (below_drewN n7 hb2), h.nx.inF⟩, h.nt, hE2, h.out.1, h.out.2.1, fun e => ?_⟩⟩
      · rcases e with rfl | e
        · exact h.nx.sea.nF hb
        · exact h.nx.sea.nFD b e hb
      · have hm := hper.mem_iff.1 hs'
        split at hm
        · rcases List.mem_cons.1 hm with rfl | hm
          · exact HK.out.2.1
          · exact h.nx.nd s' hm
        · exact h.nx.nd s' hm
      · rcases hD2 E e with e' | e'
        · exact h.out.2.2 e'
        · omega
end

/-- whoever is told each entry: he tells whether to go on -/
structure MeetN1 (fid g1 B : Nat) (p : List Nat) (N : List Ent) (J Jx : Nat → (Nat → Prop) → World → Prop) : Prop where
  ent : ∀ args w, (callFunc fid args).run Tryz.prog w = .ok (.enter fid args) w
  frame : ∀ j F w w', J j F w → w.heap.size ≤ w'.heap.size → (∀ b, F b → w'.heap[b]? = w.heap[b]?) → Below B w w' → J j F w'
  inb : ∀ j F w, J j F w → ∀ b, F b → b < w.heap.size ∧ B ≤ b
  call : ∀ j F w e (hh d n v x : Nat), J j F w → N[j]? = some e → PtsG w (fun b => b = hh) (some ⟨hh, 0, none⟩) e.1 → ¬ F hh → B ≤ hh → hh < w.heap.size → e.1.length = n → e.2 = v → Nr.dist p e.1 = x →
    Calls Tryz.prog fid #[.agg #[.slice (some ⟨hh, 0, none⟩) n d, .int .u64 (v : Int)], .int .u64 (x : Int), .pointer (some ⟨g1, 0, none⟩)] w fun r w' => ToldN F w hh (J (j + 1)) (Jx (j + 1)) r w'
/-- between two nodes -/
structure NxI1 (J : Nat → (Nat → Prop) → World → Prop) (B b0 g k : Nat) (p : List Nat) (Ap : Option Addr) (cp most : Nat) (fv : Value) (N : List Ent) (M : Nat) (F : Nat → Prop) (w : World) (m : Nat) (w' : World) (F' : Nat → Prop) (D : Option Addr) (d : Nat) (qs : List T) (j : Nat) (P : List T) (R C : Nat) : Prop where
  me : J j F' w'
  sea : Sea w' F' b0 g k p Ap cp most fv D d qs
  st : Nr.St k p most (qs ++ P) (N.drop j)
  nd : ∀ t ∈ qs, Node w B k t
  mm : m = 2 * (Nr.we qs + R) + C
  jle : j ≤ N.length
  le : Nr.we qs + R ≤ M
  bel : Below B w w'
  inF : ∀ b, F' b → F b ∨ w.heap.size ≤ b
/-- between two kids of a node -/
structure BsI1 (J : Nat → (Nat → Prop) → World → Prop) (B b0 g k : Nat) (p : List Nat) (Ap : Option Addr) (cp most : Nat) (fv : Value) (N : List Ent) (M : Nat) (F : Nat → Prop) (w : World) (m : Nat) (w' : World) (F' : Nat → Prop) (D : Option Addr) (d : Nat) (qs : List T) (j E gb l i : Nat) (pre : List Nat) (ks : List (Nat × T)) (x1 x2 : Value) : Prop where
  nx : NxI1 J B b0 g k p Ap cp most fv N M F w m w' F' D d qs j (Nr.putK p most (ks.drop i)) (Nr.pend ks i) 1
  nt : Node w B k (.br gb l pre ks)
  blk : w'.heap[E]? = some (.cells #[.pointer (some ⟨gb, 0, none⟩), x1, x2] 240 (0, 0))
  out : ¬ F' E ∧ E ≠ g ∧ D.map (·.block) ≠ some E
section
variable {fid g1 B b0 g k : Nat} {p : List Nat} {N : List Ent} {J Jx : Nat → (Nat → Prop) → World → Prop} {Ap : Option Addr} {cp most M : Nat}
/-- what holds behind a Pop, and when the node's place has been laid -/
theorem NxI1.popped (hv : MeetN1 fid g1 B p N J Jx) {w w' w3 : World} {F F' : Nat → Prop} {fv : Value} {D : Option Addr} {d m j : Nat} {qs rest : List T} (h : NxI1 J B b0 g k p Ap cp most fv N M F w m w' F' D d qs j [] 0 0) (hB : B ≤ b0)
    (hque : QueS w3 b0 g k (Gq F' b0 g D) p D d rest (.slice Ap k cp) (.int .u64 (most : Int)) fv) (hfo : Foot (fun b => b = g ∨ D.map (·.block) = some b) w' w3) (ob : Obj) :
    J j F' (w3.alloc ob) ∧ Sea (w3.alloc ob) F' b0 g k p Ap cp most fv D d rest ∧ Below B w (w3.alloc ob) ∧ w'.heap.size ≤ w3.heap.size := by
  have hb3 : Below B w' w3 := hfo.below (Nat.le_trans hB h.sea.old) (fun b hb => by
    rcases hb with rfl | hb
    · exact Nat.le_trans hB h.sea.glow
    · exact Nat.le_trans hB (h.sea.que.lt b hb).1)
  have hs3 : Sea w3 F' b0 g k p Ap cp most fv D d rest := ⟨hque, Nat.le_trans h.sea.old hfo.size, h.sea.glow, h.sea.nF, h.sea.nFD, fun b hb => Nat.lt_of_lt_of_le (h.sea.inF b hb) hfo.size⟩
  have hal := below_alloc w3 ob
  have hin := hv.inb _ _ _ h.me
  have hBw : B ≤ w3.heap.size := Nat.le_trans (Nat.le_trans hB h.sea.old) hfo.size
  refine ⟨hv.frame _ _ _ _ h.me (Nat.le_trans hfo.size hal.size) (fun b hb => ?_) (hb3.trans (hal.mono hBw)), hs3.below hal, h.bel.trans (hb3.trans (hal.mono hBw)), hfo.size⟩
  have hlt := (hin b hb).1
  exact (hal.block b (Nat.lt_of_lt_of_le hlt hfo.size)).trans (hfo.block b hlt (fun e => by
    rcases e with rfl | e
    · exact h.sea.nF hb
    · exact h.sea.nFD b e hb))
set_option maxRecDepth 1000000 in
set_option maxHeartbeats 8000000 in
theorem through1_c (hv : MeetN1 fid g1 B p N J Jx) {w : World} {F : Nat → Prop} (hJ : J 0 F w) {D : Option Addr} {d : Nat} (hS : Sea w F b0 g k p Ap cp most (.func (.func fid) #[] #[.pointer (some ⟨g1, 0, none⟩)]) D d []) (hB : B ≤ b0) (hp : Pts w B Ap p) (hpl : p.length = k) (hT : ∀ w', Below B w w' → Tz w') {o : Option T} (ho : NodeO w B k o)
    (hN : N = (Nr.nearL p (Tr.entsO o)).filter fun e => decide (Nr.dist p e.1 ≤ most)) (hlen : (Tr.entsO o).length ≤ 100000000) :
    Calls Tryz.prog 135 #[.pointer (some ⟨g, 0, none⟩), .pointer (rootP o)] w fun e w' => e = .returned (.tuple #[]) ∧ MetN J Jx B F N w w' := by
  have hent := hv.ent
  have HV := Lib.hid hv
  have HX := Lib.hid (And.intro hJ (And.intro hS (And.intro hB (And.intro hp (And.intro hpl (And.intro hT (And.intro ho hlen)))))))
  have hstart : Calls Tryz.prog 173 #[.pointer (some ⟨g, 0, none⟩), .pointer (rootP o)] w fun e w' => e = .returned (.tuple #[]) ∧ ∃ m D' d' qs, NxI1 J B b0 g k p Ap cp most (.func (.func fid) #[] #[.pointer (some ⟨g1, 0, none⟩)]) N 400000000 F w m w' F D' d' qs 0 [] 0 0 := by
    cases o with
    | none =>
      refine (add_nil g w).mono ?_
      rintro e w' ⟨rfl, rfl⟩
      have hN0 : N = [] := by rw [hN]; rfl
      exact ⟨rfl, _, D, d, [], hJ, hS, ⟨fun t ht => (by simp at ht), by rw [hN0]; exact List.Pairwise.nil, fun e => by rw [hN0]; simp, List.Pairwise.nil⟩, fun t ht => (by simp at ht), rfl, Nat.zero_le _, by rw [Nr.we_nil]; omega, Below.refl _ _, fun b hb => .inl hb⟩
    | some t =>
      have hnt := ho t rfl
      refine (add_c hS hB (by simp) hp hpl hnt).mono ?_
      rintro e w' ⟨rfl, D', d', qs', hper, hsea, hD', hf⟩
      have hbB : Below B w w' := hf.below (Nat.le_trans hB hS.old) (fun b hb => by
        rcases hb with rfl | hb
        · exact Nat.le_trans hB hS.glow
        · exact Nat.le_trans hB (hS.que.lt b hb).1)
      have hin := hv.inb _ _ _ hJ
      have hJ' := hv.frame 0 F w w' hJ hf.size (fun b hb => hf.block b (hin b hb).1 (fun e => by
        rcases e with rfl | e
        · exact hS.nF hb
        · exact hS.nFD b e hb)) hbB
      have hle : 4 * t.ents.length ≤ 400000000 := by have : (Tr.entsO (some t)).length = t.ents.length := rfl; omega
      by_cases hc : Nr.distT p t ≤ most
      · rw [if_pos hc] at hper
        have hst := Nr.st_one hnt.1 hpl hc
        refine ⟨rfl, _, D', d', qs', hJ', hsea, ?_, fun s hs => ?_, rfl, Nat.zero_le _, ?_, hbB, fun b hb => .inl hb⟩
        · rw [List.append_nil, List.drop_zero, hN]
          exact hst.perm hper.symm
        · rw [List.mem_singleton.1 (hper.mem_iff.1 hs)]; exact hnt
        · rw [Nr.we_perm hper, Nr.we_cons, Nr.we_nil]; omega
      · rw [if_neg hc] at hper
        have hN0 : N = [] := by rw [hN]; exact Nr.st_none hnt.1 hpl (by omega)
        have hq0 := hper.eq_nil
        subst hq0
        exact ⟨rfl, _, D', d', [], hJ', hsea, ⟨fun t ht => (by simp at ht), by rw [hN0]; exact List.Pairwise.nil, fun e => by rw [hN0]; simp, List.Pairwise.nil⟩, fun t ht => (by simp at ht), rfl, Nat.zero_le _, by rw [Nr.we_nil]; omega, hbB, fun b hb => .inl hb⟩
  have HS := Lib.hid hstart
  clear hv hJ hS hB hp hpl hT ho hN hlen hstart
  obtain ⟨ra, hra⟩ : ∃ ra, rootP o = ra := ⟨_, rfl⟩
  rw [hra] at HS ⊢
  clear hra
  go_enter Tryz.func135, Tryz.ntmps135
  go_wp2_with fail
  refine wp_scope_twoN (fun m a' w' => ∃ F' D' d' qs j, SloA a' (.pointer (some ⟨g, 0, none⟩)) (.pointer ra) ∧ NxI1 J B b0 g k p Ap cp most (.func (.func fid) #[] #[.pointer (some ⟨g1, 0, none⟩)]) N 400000000 F w m w' F' D' d' qs j [] 0 0)
    (fun m a' w' => ∃ F' D' d' qs j E gb l i pre ks x1 x2, SloB a' (.pointer (some ⟨g, 0, none⟩)) (.pointer ra) (.pointer (some ⟨E, 0, none⟩)) (.int .i64 ((kidP (ks[i]?)).1 : Int)) (.pointer (kidP (ks[i]?)).2) ∧ BsI1 J B b0 g k p Ap cp most (.func (.func fid) #[] #[.pointer (some ⟨g1, 0, none⟩)]) N 400000000 F w m w' F' D' d' qs j E gb l i pre ks x1 x2) rfl rfl ?beside ?next ?first
  case first =>
    intro hp
    have HP := Lib.hid hp
    clear hp
    go_wp2_with fail
    refine HS.out.mono ?_
    rintro e w1 ⟨rfl, m1, D1, d1, qs1, hI1⟩
    have HI1 := Lib.hid hI1
    clear hI1
    go_wp2_with fail
    refine wp_label ?_
    simp only [Exit.then]
    rename_i hK
    apply hK
    exact HP.out _ _ _ ⟨F, D1, d1, qs1, 0, ⟨rfl, rfl, rfl, rfl⟩, HI1.out⟩
  case next =>
    rintro m hbes a' w' ⟨F', D', d', qs, j, hs, hI⟩
    obtain ⟨V, rfl⟩ := hs.lit
    clear hs HS
    have HI := Lib.hid hI
    have HBs := Lib.hid hbes
    obtain ⟨c0, -, -, -⟩ := hI.sea.cells
    cases qs with
    | nil =>
      clear hI hbes
      simp only [List.length_nil] at c0
      go_wp2_with (go_at_call 174; refine (qLen_c _ _ _ _).mono ?_; rintro e w2 ⟨rfl, rfl⟩)
      simp only [jumpsN]
      refine bodyPost_ret (v := .tuple #[]) (results_none rfl _ _ _) rfl ?_
      have h := HI.out
      have he := h.st.empty
      have hl := congrArg List.length he
      rw [List.length_drop] at hl
      have hj : j = N.length := by have := h.jle; simp at hl; omega
      exact ⟨rfl, F', j, h.inF, .inl ⟨hj, h.me⟩, h.bel⟩
    | cons q0 qs =>
      have hlw := Nr.we_len (L := q0 :: qs) fun t ht => (HI.out.nd t ht).1
      have hle := HI.out.le
      have hpok := HX.out.2.2.2.1.1
      have HPop := Lib.hid (hPop_c hI.sea.que (by simp) (by omega) HX.out.2.2.2.2.1 hpok)
      obtain ⟨n, hn⟩ : ∃ n, (q0 :: qs).length = n + 1 := ⟨qs.length, rfl⟩
      rw [hn] at c0 hlw
      have hn9 : (n : Int) ≤ 400000000 := by omega
      have d0 : (((n + 1 : Nat) : Int) == 0) = false := by rw [beq_eq_false_iff_ne]; omega
      have hta := std_assert
      clear hI hbes hlw hle hpok hn
      go_wp2_with (first
        | (go_at_call 174; refine (qLen_c _ _ _ _).mono ?_; rintro e w2 ⟨rfl, rfl⟩)
        | (go_at_call 175; refine HPop.out.mono ?_; rintro e w3 ⟨t, rest, A, c, rfl, hper, hmin, hpt, hque, hfo⟩; have H3 := Lib.hid (And.intro hper (And.intro hmin (And.intro hpt (And.intro hque hfo)))); clear hper hmin hpt hque hfo))
      obtain ⟨hper, hmin, hpt, hque, hfo⟩ := H3.out
      obtain ⟨me4, sea4, bel4, hsz⟩ := HI.out.popped HV.out HX.out.2.2.1 hque hfo (.cells #[.pointer (some ⟨t.blk, 0, none⟩), .slice A t.pre.length c, .int .u64 (Nr.distT p t : Int)] 240)
      have hnt := HI.out.nd t (hper.mem_iff.2 List.mem_cons_self)
      have hblk := heap_at w3 (.cells #[.pointer (some ⟨t.blk, 0, none⟩), .slice A t.pre.length c, .int .u64 (Nr.distT p t : Int)] 240) _ rfl
      have hBw : B ≤ w.heap.size := Nat.le_trans HX.out.2.2.1 HX.out.2.1.old
      have hnt4 : Node (w3.alloc (.cells #[.pointer (some ⟨t.blk, 0, none⟩), .slice A t.pre.length c, .int .u64 (Nr.distT p t : Int)] 240)) B k t := hnt.below bel4 (Nat.le_refl _) (Nat.le_refl _)
      have hout : ¬ F' w3.heap.size ∧ w3.heap.size ≠ g ∧ D'.map (·.block) ≠ some w3.heap.size := ⟨fun hf => by have := HI.out.sea.inF _ hf; omega, fun e => by have := BoxS.lt HI.out.sea.que.box; omega, fun e => by have := (HI.out.sea.que.lt _ e).2; omega⟩
      generalize hW4 : w3.alloc (.cells #[.pointer (some ⟨t.blk, 0, none⟩), .slice A t.pre.length c, .int .u64 (Nr.distT p t : Int)] 240) = W4 at *
      obtain ⟨E, hE⟩ : ∃ E, w3.heap.size = E := ⟨_, rfl⟩
      have hElt : E < W4.heap.size := by rw [← hW4, ← hE]; simp
      rw [hE] at hblk hout hsz ⊢
      have H4 := Lib.hid (And.intro me4 (And.intro sea4 (And.intro bel4 (And.intro hnt (And.intro hnt4 (And.intro hblk (And.intro hout (And.intro hsz (And.intro hElt hBw)))))))))
      clear me4 sea4 bel4 hnt hblk hout hsz hW4 hper hmin hpt hque hfo hE hElt hBw HPop c0 d0 hn9 hta
      cases t with
      | ent gE q v =>
        have hst := (HI.out.st.perm ((List.append_nil _).symm ▸ H3.out.1)).ent HX.out.2.2.2.2.1 H3.out.2.1
        obtain ⟨N', hN1, hst'⟩ := hst
        have hlq : q.length = k := hnt4.1.len
        have hk1 := hnt4.1.k1
        have hk16 := hnt4.1.k16
        obtain ⟨kp, hnd⟩ := hnt4.2.nd
        have HE := Lib.hid (nEntry_ent hnd (Nat.le_trans H4.out.2.2.2.2.2.2.2.2.2 H4.out.2.2.1.size) (by intro e; rw [show (T.ent gE q v).pre = q from rfl] at e; rw [e] at hlq; simp at hlq; omega) (by show q.length ≤ _; omega))
        have hdx := Nr.distT_ent hnt4.1 HX.out.2.2.2.2.1
        obtain ⟨x, hx⟩ : ∃ x, Nr.dist p q = x := ⟨_, rfl⟩
        obtain ⟨n', hn'⟩ : ∃ n', q.length = n' := ⟨_, rfl⟩
        have HQ := Lib.hid (And.intro hN1 (And.intro hst' (And.intro hdx (And.intro hx hn'))))
        clear hnt4 hnd hN1 hst' hlq hk1 hk16 hdx
        have HE : Hid (Calls Tryz.prog 110 #[.pointer (some ⟨(T.ent gE q v).blk, 0, none⟩)] W4 fun e w' => ∃ h d, e = .returned (.tuple #[entryV (some ⟨h, 0, none⟩) n' d v, .bool true]) ∧ Own w' W4.heap.size (.slice (some ⟨h, 0, none⟩) n' d) q ∧ Below W4.heap.size W4 w') := by rw [← hn']; exact HE
        clear hx hn'
        refine HE.out.mono ?_
        rintro e w5 ⟨hh, dd, rfl, ho5, hb5⟩
        have H5 := Lib.hid (And.intro ho5 hb5)
        clear ho5 hb5 HE
        go_wp2_with fail
        have hb46 := Below.andThen H5.out.2 (below_alloc w5 (.cells #[.slice (some ⟨hh, 0, none⟩) n' dd, .int .u64 (v : Int)] 53))
        have hs6 := H4.out.2.1.below hb46
        have hE6 := (hb46.block E H4.out.2.2.2.2.2.2.2.2.1).trans H4.out.2.2.2.2.2.1
        have hen := heap_at w5 (.cells #[.slice (some ⟨hh, 0, none⟩) n' dd, .int .u64 (v : Int)] 53) _ rfl
        have ho6 := H5.out.1.below (below_alloc w5 (.cells #[.slice (some ⟨hh, 0, none⟩) n' dd, .int .u64 (v : Int)] 53)) (Nat.le_refl _)
        have hhE : W4.heap.size ≤ hh := (H5.out.1.2.lt hh (by rw [own_block]; rfl)).1
        have hhlt := (ho6.2.lt hh (by rw [own_block]; rfl)).2
        generalize hW6 : w5.alloc (.cells #[.slice (some ⟨hh, 0, none⟩) n' dd, .int .u64 (v : Int)] 53) = W6 at *
        obtain ⟨Z, hZ⟩ : ∃ Z, w5.heap.size = Z := ⟨_, rfl⟩
        rw [hZ] at hen ⊢
        obtain ⟨-, -, -, s3⟩ := hs6.cells
        have z0 : W6.cell? ⟨Z, 0, none⟩ = some (.slice (some ⟨hh, 0, none⟩) n' dd) := by rw [cell_of_row W6 Z _ _ _ (0, 0) hen]; rfl
        have z1 : W6.cell? ⟨Z, 1, none⟩ = some (.int .u64 (v : Int)) := by rw [cell_of_row W6 Z _ _ _ (0, 0) hen]; rfl
        have e2 : W6.cell? ⟨E, 2, none⟩ = some (.int .u64 (x : Int)) := by rw [cell_of_row W6 E _ _ _ (0, 0) hE6, HQ.out.2.2.1, HQ.out.2.2.2.1]; rfl
        have hin := HV.out.inb _ _ _ H4.out.1
        have hbB : Below B W4 W6 := hb46.mono (Nat.le_trans H4.out.2.2.2.2.2.2.2.2.2 H4.out.2.2.1.size)
        have hM : ∀ W7, Below W6.heap.size W6 W7 → Calls Tryz.prog fid #[.agg #[.slice (some ⟨hh, 0, none⟩) n' dd, .int .u64 (v : Int)], .int .u64 (x : Int), .pointer (some ⟨g1, 0, none⟩)] W7 fun r w' => ToldN F' W7 hh (J (j + 1)) (Jx (j + 1)) r w' := fun W7 hb7 =>
          HV.out.call j F' W7 (q, v) hh dd n' v x (HV.out.frame _ _ _ _ H4.out.1 (Nat.le_trans hb46.size hb7.size) (fun b hb => (hb7.block b (Nat.lt_of_lt_of_le (hin b hb).1 hb46.size)).trans (hb46.block b (hin b hb).1)) (hbB.trans (hb7.mono (Nat.le_trans (Nat.le_trans H4.out.2.2.2.2.2.2.2.2.2 H4.out.2.2.1.size) hb46.size))))
            (by have := congrArg (fun L => L[0]?) HQ.out.1; simp only [List.getElem?_drop, Nat.add_zero, List.getElem?_cons_zero] at this; exact this) (Own.ptsG (ho6.below hb7 (Nat.le_refl _)) rfl) (fun hf => by have := (hin hh hf).1; omega) (Nat.le_trans (Nat.le_trans H4.out.2.2.2.2.2.2.2.2.2 H4.out.2.2.1.size) hhE) (Nat.lt_of_lt_of_le hhlt hb7.size) HQ.out.2.2.2.2 rfl HQ.out.2.2.2.1
        have HM := Lib.hid hM
        have H6 := Lib.hid (And.intro hb46 (And.intro hhE hbB))
        clear hs6 hE6 hen ho6 hhE hW6 hZ hin hbB hM hb46
        go_region_with (go_at_fn fid; refine (HM.out _ (by ((repeat (first | refine Below.drew ?_ | (with_reducible refine below_drewN _ ?_) | refine Below.alloc ?_ (by first | omega | (simp; done) | (simp; omega)) _ | refine Below.setCell ?_ (by first | omega | (simp; done) | (simp; omega)) _)); first | exact Below.refl _ _ | assumption | exact below_drewN _ (Below.refl _ _) | exact below_drewN _ (below_drewN _ (Below.refl _ _))))).mono ?_; rintro e w7 ⟨F2, go, rfl, hF2, hfo7, hgo⟩; have H7 := Lib.hid (And.intro hF2 (And.intro hfo7 hgo)); clear hF2 hfo7 hgo)
        all_goals (
          obtain ⟨hF2, hfo7, hgo⟩ := H7.out
          obtain ⟨me4, sea4, bel4, hnt, hnt4, hblk, hout, hsz, hElt, hBw⟩ := H4.out
          obtain ⟨hN1, hst', hdx, hx, hn'⟩ := HQ.out
          obtain ⟨hb46, hhE, hbB⟩ := H6.out
          have hB4 : B ≤ W4.heap.size := Nat.le_trans hBw bel4.size
          have hin := HV.out.inb _ _ _ me4
          have hfo : Foot F' W4 w7 := (Foot.of_below (by first | exact (hb46.drew) | exact hb46)).trans hfo7 (fun b hb => .inl hb)
          have hb47 : Below B W4 w7 := hfo.below hB4 (fun b hb => (hin b hb).2)
          have hF2' : ∀ b, F2 b → F' b ∨ W4.heap.size ≤ b := fun b hb => by
            rcases hF2 b hb with e | e | e
            · exact .inl e
            · have h6 := hb46.size; exact .inr (Nat.le_trans h6 e)
            · exact .inr (by omega)
          have hF0 : ∀ b, F2 b → F b ∨ w.heap.size ≤ b := fun b hb => by
            rcases hF2' b hb with e | e
            · exact HI.out.inF b e
            · exact .inr (Nat.le_trans bel4.size e)
          have hjl : j + 1 ≤ N.length := by
            have := congrArg List.length hN1
            rw [List.length_drop, List.length_cons] at this
            omega
          have HFin := Lib.hid (And.intro hF0 (And.intro hF2' (And.intro hjl (And.intro (bel4.trans hb47) (And.intro hfo hgo)))))
          clear hF2 hfo7 hgo me4 sea4 bel4 hnt hnt4 hblk hout hsz hElt hBw hN1 hst' hdx hx hn' hb46 hhE hbB hB4 hin hfo hb47 hF2' hF0 hjl H7 s3 z0 z1 e2 HM hent
          cases go with
          | true =>
            go_wp2_with fail
            go_step3
            obtain ⟨hF0, hF2', hjl, hbel, hfo, hgo⟩ := HFin.out
            have hgo : J (j + 1) F2 w7 := by simpa using hgo
            have hwe : Nr.we (q0 :: qs) = 1 + Nr.we rest := by rw [Nr.we_perm H3.out.1, Nr.we_cons, Tr.ents_ent]; rfl
            have hmm := HI.out.mm
            have hle := HI.out.le
            refine ⟨2 * Nr.we rest, by omega, F2, D', d', rest, j + 1, ⟨rfl, rfl, rfl, rfl⟩, hgo, H4.out.2.1.keep hfo.size hfo.block hF2' (fun b hb => (HV.out.inb _ _ _ hgo b hb).1), ?_, fun s hs => HI.out.nd s (H3.out.1.mem_iff.2 (List.mem_cons_of_mem _ hs)), by omega, hjl, by omega, hbel, hF0⟩
            rw [List.append_nil]
            have hd : N.drop (j + 1) = N' := by rw [← List.drop_drop, HQ.out.1]; rfl
            rw [hd]
            exact HQ.out.2.1
          | false =>
            go_wp2_with fail
            simp only [jumpsN]
            refine bodyPost_ret (v := .tuple #[]) (results_none rfl _ _ _) rfl ?_
            obtain ⟨hF0, hF2', hjl, hbel, hfo, hgo⟩ := HFin.out
            exact ⟨rfl, F2, j + 1, hF0, .inr (by simpa using hgo), hbel⟩)
      | br gb l pre ks =>
        have hst := (HI.out.st.perm (qs' := .br gb l pre ks :: rest) (by rw [List.append_nil]; exact H3.out.1)).br HX.out.2.2.2.2.1
        obtain ⟨hst', -⟩ := hst
        have hpend := Nr.pend_br hnt4.1 rest
        obtain ⟨kp, hnd⟩ := hnt4.2.nd
        have hlv : levI (T.br gb l pre ks) = (l : Int) := by show ((l + 1 : Nat) : Int) - 1 = l; omega
        rw [hlv] at hnd
        have HE := Lib.hid (nEntry_br hnd (Nat.le_trans H4.out.2.2.2.2.2.2.2.2.2 H4.out.2.2.1.size))
        have HQ := Lib.hid (And.intro hst' hpend)
        clear hnt4 hnd hst' hpend hlv
        refine HE.out.mono ?_
        rintro e w5 ⟨rfl, hb5⟩
        have hbB : Below B W4 w5 := hb5.mono (Nat.le_trans H4.out.2.2.2.2.2.2.2.2.2 H4.out.2.2.1.size)
        have H5 := Lib.hid (And.intro hb5 hbB)
        clear hb5 HE hbB
        have e0 : ∀ ob, (w5.alloc ob).cell? ⟨E, 0, none⟩ = some (.pointer (some ⟨gb, 0, none⟩)) := fun ob => by
          have hE6 := ((Below.andThen H5.out.1 (below_alloc w5 ob)).block E H4.out.2.2.2.2.2.2.2.2.1).trans H4.out.2.2.2.2.2.1
          rw [cell_of_row _ E _ _ _ (0, 0) hE6]; rfl
        go_wp2_with fail
        clear e0
        have hb46 := Below.andThen H5.out.1 (below_alloc w5 (.cells #[.slice none 0 0, .int .u64 0] 53))
        generalize hW6 : w5.alloc (.cells #[.slice none 0 0, .int .u64 0] 53) = W6 at *
        have hbB : Below B W4 W6 := hb46.mono (Nat.le_trans H4.out.2.2.2.2.2.2.2.2.2 H4.out.2.2.1.size)
        have hs6 := H4.out.2.1.below hb46
        have hE6 := (hb46.block E H4.out.2.2.2.2.2.2.2.2.1).trans H4.out.2.2.2.2.2.1
        have hFr := nFrom_c (H4.out.2.2.2.2.1.below hb46 (Nat.le_trans H4.out.2.2.2.2.2.2.2.2.2 H4.out.2.2.1.size) (Nat.le_refl _)).2 (HX.out.2.2.2.2.2.1 W6 (H4.out.2.2.1.trans hbB)) 0 (by omega) (by omega) (kidP (ks[0]?)) (by show kidP (ks[Sl.idx ks 0]?) = _; rw [Sl.idx_zero])
        have HFr : Hid (Calls Tryz.prog 128 #[.pointer (some ⟨gb, 0, none⟩), .int .i64 0] W6 fun e w' => e = .returned (atKid (kidP (ks[0]?)).1 (kidP (ks[0]?)).2) ∧ ∃ n, w' = W6.drewN n) := Lib.hid hFr
        obtain ⟨ka, hka⟩ : ∃ ka, (kidP (ks[0]?)).1 = ka := ⟨_, rfl⟩
        obtain ⟨kq, hkq⟩ : ∃ kq, (kidP (ks[0]?)).2 = kq := ⟨_, rfl⟩
        rw [hka, hkq] at HFr
        have H6 := Lib.hid (And.intro hs6 (And.intro hE6 (And.intro hbB (And.intro hb46 (And.intro hka hkq)))))
        clear hs6 hE6 hFr hb46 hbB hW6 hka hkq hent
        refine HFr.out.mono ?_
        rintro e w7 ⟨rfl, n7, rfl⟩
        go_wp2_with fail
        refine wp_label ?_
        simp only [Exit.then]
        rename_i hK
        apply hK
        obtain ⟨hs6, hE6, hbB, hb46, hka, hkq⟩ := H6.out
        have hb7 : Below W6.heap.size W6 (W6.drewN n7) := below_drewN n7 (Below.refl _ _)
        have hwe := Nr.we_perm H3.out.1
        have hmm := HI.out.mm
        have hle := HI.out.le
        have hpd := HQ.out.2
        have hin := HV.out.inb _ _ _ H4.out.1
        refine HBs.out (2 * (Nr.we rest + Nr.pend ks 0) + 1) _ _ (by omega) ⟨F', D', d', rest, j, E, gb, l, 0, pre, ks, _, _, ⟨rfl, rfl, rfl, rfl, rfl, by rw [hka]; rfl, by rw [hkq]; rfl⟩, ⟨⟨HV.out.frame _ _ _ _ H4.out.1 hb46.size (fun b hb => hb46.block b (hin b hb).1) (below_drewN n7 hbB), hs6.below hb7, ?_, fun s hs => HI.out.nd s (H3.out.1.mem_iff.2 (List.mem_cons_of_mem _ hs)), rfl, HI.out.jle, by omega, H4.out.2.2.1.trans (below_drewN n7 hbB), HI.out.inF⟩, H4.out.2.2.2.1, hE6, H4.out.2.2.2.2.2.2.1⟩⟩
        rw [List.drop_zero]
        exact HQ.out.1
  case beside =>
    rintro m a' w' ⟨F', D', d', qs, j, E, gb, l, i, pre, ks, x1, x2, hs, hI⟩
    obtain ⟨V, rfl⟩ := hs.lit
    clear hs HS
    have HI := Lib.hid hI
    have hsrt := hI.nt.1
    cases hk : ks[i]? with
    | none =>
      have hi : ks.length ≤ i := List.getElem?_eq_none_iff.1 hk
      have HK := Lib.hid hi
      clear hI hk hi hsrt hent
      simp only [kidP, Option.map_none, Option.getD_none]
      go_wp2_with fail
      go_step3
      have h := HI.out
      have hP : Nr.putK p most (ks.drop i) = [] := by rw [List.drop_of_length_le HK.out]; rfl
      have hst := h.nx.st
      rw [hP] at hst
      have hmm := h.nx.mm
      have hle := h.nx.le
      exact ⟨2 * Nr.we qs, by omega, F', D', d', qs, j, ⟨rfl, rfl, rfl, rfl⟩, ⟨h.nx.me, h.nx.sea, hst, h.nx.nd, by omega, h.nx.jle, by omega, h.nx.bel, h.nx.inF⟩⟩
    | some y =>
      obtain ⟨a, s⟩ := y
      have hBw : B ≤ w.heap.size := Nat.le_trans HX.out.2.2.1 HX.out.2.1.old
      have hns : Node w B k s := hI.nt.kid (List.mem_of_getElem? hk)
      have hlw := Nr.we_len (L := qs) fun t ht => (hI.nx.nd t ht).1
      have hle := hI.nx.le
      have hbel := hI.nx.bel
      have HA := Lib.hid (add_c hI.nx.sea HX.out.2.2.1 (by omega) (HX.out.2.2.2.1.below' hbel (Nat.le_refl _)) HX.out.2.2.2.2.1 (hns.below hbel (Nat.le_refl _) (Nat.le_refl _)))
      have ha16 : a < 65536 := by
        have hw := hI.nt.1
        cases hw with
        | br _ _ _ _ _ hw => exact hw.lt16 (a, s) (List.mem_of_getElem? hk)
      have HK := Lib.hid (And.intro hk (And.intro hns (And.intro hBw ha16)))
      have ha1 : (a : Int) ≤ 65536 := by omega
      have ha0 : (0 : Int) ≤ (a : Int) := by omega
      clear hI hk hns hBw hlw hle hbel ha16 hsrt hent
      simp only [kidP, Option.map_some, Option.getD_some]
      go_wp2_with fail
      refine HA.out.mono ?_
      rintro e w2 ⟨rfl, D2, d2, qs2, hper, hsea, hD2, hfo⟩
      have h := HI.out
      have hlt := (Array.getElem?_eq_some_iff.1 h.blk).1
      have hB' : B ≤ w'.heap.size := Nat.le_trans HK.out.2.2.1 h.nx.bel.size
      have hb2 : Below B w' w2 := hfo.below hB' (fun b hb => by
        rcases hb with rfl | hb
        · exact Nat.le_trans HX.out.2.2.1 h.nx.sea.glow
        · exact Nat.le_trans HX.out.2.2.1 (h.nx.sea.que.lt b hb).1)
      have hE2 := (hfo.block E hlt (fun e => by
        rcases e with e | e
        · exact h.out.2.1 e
        · exact h.out.2.2 e)).trans h.blk
      have e0 : w2.cell? ⟨E, 0, none⟩ = some (.pointer (some ⟨gb, 0, none⟩)) := by rw [cell_of_row w2 E _ _ _ (0, 0) hE2]; rfl
      have hidx : Sl.idx ks ((a : Int) + 1) = i + 1 := by
        have hsr : Sl.Srt ks := by
          cases h.nt.1 with
          | br _ _ _ _ _ hw => exact hw.srt
        have := idx_next hsr HK.out.1
        rw [show ((a + 1 : Nat) : Int) = (a : Int) + 1 by omega] at this
        exact this
      have hFr : Calls Tryz.prog 128 #[.pointer (some ⟨gb, 0, none⟩), .int .i64 ((a : Int) + 1)] w2 fun e w' => e = .returned (atKid (kidP (ks[i + 1]?)).1 (kidP (ks[i + 1]?)).2) ∧ ∃ n, w' = w2.drewN n := nFrom_c (h.nt.below (h.nx.bel.trans hb2) (Nat.le_refl _) (Nat.le_refl _)).2 (HX.out.2.2.2.2.2.1 w2 (h.nx.bel.trans hb2)) ((a : Int) + 1) (by omega) (by omega) (kidP (ks[i + 1]?)) (by show kidP (ks[Sl.idx ks ((a : Int) + 1)]?) = _; rw [hidx])
      obtain ⟨ka, hka⟩ : ∃ ka, (kidP (ks[i + 1]?)).1 = ka := ⟨_, rfl⟩
      obtain ⟨kq, hkq⟩ : ∃ kq, (kidP (ks[i + 1]?)).2 = kq := ⟨_, rfl⟩
      rw [hka, hkq] at hFr
      have HFr := Lib.hid hFr
      have H2 := Lib.hid (And.intro hper (And.intro hsea (And.intro hD2 (And.intro hfo (And.intro hb2 (And.intro hE2 (And.intro hka (And.intro hkq hlt))))))))
      clear hper hsea hD2 hfo h hlt hB' hb2 hE2 hidx hFr hka hkq HA
      go_wp2_with (go_at_call 128; refine HFr.out.mono ?_; rintro e w7 ⟨rfl, n7, rfl⟩)
      go_step3
      obtain ⟨hper, hsea, hD2, hfo, hb2, hE2, hka, hkq, hlt⟩ := H2.out
      have h := HI.out
      have hb7 : Below w2.heap.size w2 (w2.drewN n7) := below_drewN n7 (Below.refl _ _)
      obtain ⟨hst, hwe⟩ := h.nx.st.kid HK.out.1 hper
      have hpd := Nr.pend_step HK.out.1
      have hmm := h.nx.mm
      have hle := h.nx.le
      have hin := HV.out.inb _ _ _ h.nx.me
      refine ⟨2 * (Nr.we qs2 + Nr.pend ks (i + 1)) + 1, by omega, F', D2, d2, qs2, j, E, gb, l, i + 1, pre, ks, x1, x2, ⟨rfl, rfl, rfl, rfl, rfl, by rw [← hka]; rfl, by rw [← hkq]; rfl⟩, ⟨⟨HV.out.frame _ _ _ _ h.nx.me hfo.size (fun b hb => hfo.block b (hin b hb).1 (fun e => ?_)) (below_drewN n7 hb2), hsea.below hb7, hst, fun s' hs' => ?_, rfl, h.nx.jle, by omega, h.nx.bel.trans (below_drewN n7 hb2), h.nx.inF⟩, h.nt, hE2, h.out.1, h.out.2.1, fun e => ?_⟩⟩
      · rcases e with rfl | e
        · exact h.nx.sea.nF hb
        · exact h.nx.sea.nFD b e hb
      · have hm := hper.mem_iff.1 hs'
        split at hm
        · rcases List.mem_cons.1 hm with rfl | hm
          · exact HK.out.2.1
          · exact h.nx.nd s' hm
        · exact h.nx.nd s' hm
      · rcases hD2 E e with e' | e'
        · exact h.out.2.2 e'
        · omega
end
end Go.Proofs.YtjcmehplcagejaaGreatDoor
