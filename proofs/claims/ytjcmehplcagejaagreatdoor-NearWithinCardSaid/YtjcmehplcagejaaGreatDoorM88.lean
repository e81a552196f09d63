import Derived.Test.YtjcmehplcagejaaGreatDoorM86
import Derived.Test.YtjcmehplcagejaaGreatDoorM50
import Derived.Test.YtjcmehplcagejaaGreatDoorM16
/-
  CONTRACTS of the answers of layer 11: All.
-/
namespace Go.Proofs.YtjcmehplcagejaaGreatDoor
open Go.ChangeShapes Go.WideShapes Go.ChangeAt Go.RowKit Go.Shelf
open Tr (T S4 Ent)
attribute [local go_sem] Oper.semAt_some

theorem takeWhile_at {q : Ent → Bool} : ∀ {L : List Ent} {i : Nat}, (∀ j e, j < i → L[j]? = some e → q e = true) → i ≤ L.length → (∀ e, L[i]? = some e → q e = false) → L.takeWhile q = L.take i ∧ L.dropWhile q = L.drop i
  | [], i, _, hi, _ => by
    have : i = 0 := by simpa using hi
    subst this
    simp
  | a :: L, 0, _, _, h2 => by
    have := h2 a rfl
    simp [this]
  | a :: L, i + 1, h1, hi, h2 => by
    have ha := h1 0 a (by omega) rfl
    have ih := takeWhile_at (q := q) (L := L) (i := i) (fun j e hj he => h1 (j + 1) e (by omega) (by simpa using he)) (by simpa using hi) (fun e he => h2 e (by simpa using he))
    simp [ha, ih.1, ih.2]
/-- a row goes on where another one grows -/
theorem Lst.grown {α : Type} {n : Nat} {Q : (Nat → Option Value) → α → Prop} {w w' : World} {R : Nat} {yb : Nat} {row : Option Nat} {L : List α} (h : Lst n Q w R (some ⟨yb, 0, none⟩) L) (hg : w.grownBy w' row) (hR : yb < w.heap.size) (hne : row ≠ some yb) : Lst n Q w' R (some ⟨yb, 0, none⟩) L := by
  intro hn
  obtain ⟨b, off, hA, hb, hc⟩ := h hn
  cases hA
  refine ⟨yb, 0, rfl, hb, fun i a ha => ?_⟩
  have := hc i a ha
  have e : ∀ j, w'.cell? ⟨yb, 0 + i * n + j, none⟩ = w.cell? ⟨yb, 0 + i * n + j, none⟩ := fun j => World.cell?_of_block (a := ⟨yb, _, none⟩) (hg.block yb hR (fun e => hne e.symm))
  simp only [e]
  exact this
theorem Lst.later {α : Type} {n : Nat} {Q : (Nat → Option Value) → α → Prop} {w w' : World} {R C : Nat} {A : Option Addr} {L : List α} (hQ : QOk n Q) (h : Lst n Q w R A L) (hb : Below C w w') (hC : R ≤ C) : Lst n Q w' R A L := by
  intro hn
  obtain ⟨b, off, hA, hbR, hc⟩ := h hn
  exact ⟨b, off, hA, hbR, fun i a ha => hQ.ext _ _ _ (fun j _ => (hb.cell (p := ⟨b, _, none⟩) (Nat.lt_of_lt_of_le hbR hC)).symm) (hc i a ha)⟩
theorem ownL_next {base : Nat} {o : Obj} {Q : (Nat → Option Value) → Ent → Prop} (w : World) (hb : base ≤ w.heap.size) : OwnL 53 2 Q ((w.alloc o).alloc (.cells #[] 53)) base (.slice (some ⟨w.heap.size + 1, 0, none⟩) 0 0) [] := by
  have h := OwnL.mono (ownL_nil (Q := Q) (n := 2) 53 (w.alloc o)) (base' := base) (by simp; omega)
  rw [World.size_alloc] at h
  exact h
theorem insN_at {p : List Nat} {L O : List Ent} {e : Ent} {i a de : Nat} (he : L[i]? = some e) (hO : Nr.nearL p (L.take i) = O) (hd : Nr.dist p e.1 = de) (h1 : O.takeWhile (fun x => decide (Nr.dist p x.1 ≤ de)) = O.take a) (h2 : O.dropWhile (fun x => decide (Nr.dist p x.1 ≤ de)) = O.drop a) : Nr.nearL p (L.take (i + 1)) = O.take a ++ [e] ++ O.drop a := by
  rw [Nr.nearL_take p L he, hO]
  unfold Nr.insN
  rw [hd, h1, h2, List.append_assoc, List.singleton_append]
theorem own_cap {base m d : Nat} {Q : (Nat → Option Value) → Ent → Prop} {w : World} {D : Option Addr} {R : List Ent} (hm : R.length = m) (h : OwnL 53 2 Q w base (.slice D m d) R) : m ≤ d := by
  obtain ⟨A, c, hv, hc⟩ := h.slice
  simp only [Value.slice.injEq] at hv
  omega
theorem ownBlock_ge {v u : Value} {x n : Nat} (h : v.ownBlock = u.ownBlock ∨ v.ownBlock = some x) (hu : ∀ q, u.ownBlock = some q → n ≤ q) (hx : n ≤ x) : ∀ q, v.ownBlock = some q → n ≤ q := fun q hq => by
  rcases h with h | h
  · exact hu q (h.symm.trans hq)
  · rw [hq] at h
    cases h
    exact hx
set_option maxRecDepth 1000000 in
set_option maxHeartbeats 4000000 in
theorem rAll11_c {w : World} {A A' : Option Addr} {c c' k : Nat} {L : List Ent} {p : List Nat} (hz : Tr.ZS L) (hd : Tr.Dim k L) (h : Ents w w.heap.size A L) (hp : Pts w w.heap.size A' p) (hpl : p.length = k) (h1 : 1 ≤ k) (h16 : k ≤ 16) (hl : L.length ≤ 1000) :
    Calls Tryz.prog 26 #[.slice A L.length c, .slice A' k c'] w fun e w' => ∃ D d, e = .returned (.slice D L.length d) ∧ EntL w' w.heap.size w'.heap.size D (Nr.nearL p L) ∧ L.length ≤ d ∧ Below w.heap.size w w' := by
  have hspec := Nr.nearL_spec hpl hz hd
  have HX := Lib.hid (And.intro hz (And.intro hd (And.intro h (And.intro hp (And.intro hpl (And.intro h1 (And.intro h16 hl)))))))
  have HS := Lib.hid hspec
  obtain ⟨N, hN⟩ : ∃ N, L.length = N := ⟨_, rfl⟩
  have HN := Lib.hid hN
  rw [hN] at hl
  have hn9 : (N : Int) ≤ 1000 := by omega
  rw [hN]
  clear hspec hz hd h hp hpl h1 h16 hl hN
  go_enter Tryz.func26, Tryz.ntmps26
  go_wp2_with fail
  have hb0 := below_alloc w (.cells #[] 53)
  have ho0 : OwnL 53 2 (EntQ w w.heap.size) (w.alloc (.cells #[] 53)) w.heap.size (.slice (some ⟨w.heap.size, 0, none⟩) 0 0) [] := ownL_nil _ w
  go_loopw [5, 6] (fun u v wr => ∃ (i : Nat) (D : Option Addr) (d : Nat), u = .slice D i d ∧ v = .int .i64 (i : Int) ∧ i ≤ N ∧ i ≤ d ∧ OwnL 53 2 (EntQ w w.heap.size) wr w.heap.size (.slice D i d) (Nr.nearL p (L.take i)) ∧ Below w.heap.size w wr) (fun _ v _ => N - (intOf v).toNat)
  case atStart => exact ⟨0, _, 0, rfl, rfl, Nat.zero_le _, Nat.le_refl _, ho0, hb0⟩
  case round =>
    clear hb0 ho0
    obtain ⟨i, D, d, rfl, rfl, hi, hid, hown, hbe⟩ := hrel
    by_cases hlt : i < N
    · have e1 : decide ((i : Int) < (N : Int)) = true := decide_eq_true (by omega)
      have e1' : decide (i < N) = true := decide_eq_true hlt
      have hi9 : (i : Int) ≤ 1000 := by omega
      have H := Lib.hid (And.intro hi (And.intro hid (And.intro hown (And.intro hbe hlt))))
      clear hi hid hown hbe hlt
      obtain ⟨e, he⟩ := get_lt (us := L) (k := i) (by rw [HN.out]; exact H.out.2.2.2.2)
      have hde := HX.out.2.1 e (List.mem_of_getElem? he)
      have hOl : (Nr.nearL p (L.take i)).length = i := (HS.out i (by rw [HN.out]; exact H.out.1)).2.2
      obtain ⟨O, hO⟩ : ∃ O, Nr.nearL p (L.take i) = O := ⟨_, rfl⟩
      rw [hO] at hOl
      have hown : OwnL 53 2 (EntQ w w.heap.size) wr w.heap.size (.slice D i d) O := by have := H.out.2.2.1; rw [hO] at this; exact this
      have hdO : ∀ x ∈ O, x.1.length = k := fun x hx => by
        rw [← hO] at hx
        exact (HX.out.2.1 x (List.mem_of_mem_take (((HS.out i (by rw [HN.out]; exact H.out.1)).2.1 x).1 hx))).1
      obtain ⟨-, -, hEO⟩ := ownE_at (m := O.length) (by rw [hOl]; exact hown) H.out.2.2.2.1 (Nat.le_refl _)
      obtain ⟨ad, of, Ae, ce, hAe, -, v0, v1, pe, hlne, hve⟩ := (HX.out.2.2.1.below H.out.2.2.2.1 (Nat.le_refl _) H.out.2.2.2.1.size).at he
      subst hAe
      have HE := Lib.hid (And.intro he (And.intro hde (And.intro hO (And.intro hOl (And.intro hown (And.intro hdO (And.intro hEO (And.intro pe (And.intro hlne (And.intro hve (And.intro v0 v1)))))))))))
      obtain ⟨de, hdeq⟩ : ∃ de, Nr.dist p e.1 = de := ⟨_, rfl⟩
      have HDE := Lib.hid hdeq
      have m1 : (0 : Int) ≤ (i : Int) := by omega
      have m2 : (i : Int) < (N : Int) := by have := H.out.2.2.2.2; omega
      obtain ⟨ne, hne⟩ : ∃ ne, e.1.length = ne := ⟨_, rfl⟩
      have HNE := Lib.hid hne
      have hek : ne = k := by rw [← hne]; exact hde.1
      have HEK := Lib.hid hek
      clear he hde hOl hown hdO hEO pe hlne hve v0 v1 hdeq hne hek hO
      generalize wr = W4 at *
      go_wp2_with fail
      go_loopw [7] (fun u wr => ∃ a : Nat, u = .int .i64 (a : Int) ∧ a ≤ i ∧ (∀ j x, j < a → O[j]? = some x → Nr.dist p x.1 ≤ de) ∧ Below W4.heap.size W4 wr) (fun u _ => i - (intOf u).toNat)
      case atStart => exact ⟨0, rfl, Nat.zero_le _, fun j x hj => by omega, Below.refl _ _⟩
      case round =>
        obtain ⟨a, rfl, hai, hbef, hb3⟩ := hrel
        have ha9 : (a : Int) ≤ 1000 := by omega
        by_cases hlt : a < i
        · obtain ⟨x, hx⟩ := get_lt (us := O) (k := a) (by rw [HE.out.2.2.2.1]; exact hlt)
          obtain ⟨bo, oo, Ax, cx, hD, -, x0, -, px, -, -⟩ := (HE.out.2.2.2.2.2.2.1.ents (C := W4.heap.size) H.out.2.2.2.1.size (Nat.le_refl _)).at hx
          subst hD
          have f1 : decide ((a : Int) < (i : Int)) = true := decide_eq_true (by omega)
          have f1' : decide (a < i) = true := decide_eq_true hlt
          have n1 : (0 : Int) ≤ (a : Int) := by omega
          have n2 : (a : Int) < (i : Int) := by omega
          obtain ⟨dx, hdx⟩ : ∃ dx, Nr.dist p x.1 = dx := ⟨_, rfl⟩
          obtain ⟨nx, hnx⟩ : ∃ nx, x.1.length = nx := ⟨_, rfl⟩
          have hxk : x.1.length = k := HE.out.2.2.2.2.2.1 x (List.mem_of_getElem? hx)
          obtain ⟨bd, od, Aw, cw, hbd, hblt, y0⟩ : ∃ bd od Aw cw, (some (⟨bo, oo, none⟩ : Addr)) = some ⟨bd, od, none⟩ ∧ bd < W4.heap.size ∧ W4.cell? ⟨bd, od + a * 2, none⟩ = some (.slice Aw nx cw) ∧ Aw = Ax ∧ cw = cx := ⟨bo, oo, Ax, cx, rfl, by
            obtain ⟨b', o', -, -, hD', hlt', -⟩ := (HE.out.2.2.2.2.2.2.1.ents (C := W4.heap.size) H.out.2.2.2.1.size (Nat.le_refl _)).at hx
            cases hD'
            exact hlt', by rw [← hnx]; exact x0, rfl, rfl⟩
          cases hbd
          obtain ⟨y0, rfl, rfl⟩ := y0
          have hadlt : ad < W4.heap.size := by
            obtain ⟨b', o', -, -, hA', hlt', -⟩ := (HX.out.2.2.1.below H.out.2.2.2.1 (Nat.le_refl _) H.out.2.2.2.1.size).at HE.out.1
            cases hA'
            exact hlt'
          have z0 : ∀ w', Below wr.heap.size wr w' → w'.cell? ⟨bo, oo + a * 2, none⟩ = some (.slice Aw nx cw) := fun w' hb => ((Below.andThen hb3 hb).cell (p := ⟨bo, _, none⟩) hblt).trans y0
          have z1 : ∀ w', Below wr.heap.size wr w' → w'.cell? ⟨ad, of + i * 2, none⟩ = some (.slice Ae ne ce) := fun w' hb => ((Below.andThen hb3 hb).cell (p := ⟨ad, _, none⟩) hadlt).trans (by rw [← HNE.out]; exact HE.out.2.2.2.2.2.2.2.2.2.2.1)
          have HFx : Hid (∀ w', Below wr.heap.size wr w' → Calls Tryz.prog 28 #[.slice Aw nx cw, .slice A' k c'] w' fun e w'' => e = .returned (.int .u64 (dx : Int)) ∧ Below w'.heap.size w' w'') := Lib.hid fun w' hb => by
            have hbb := Below.andThen hb3 hb
            have h := r3far_c Aw A' cw c' x.1 p w'.heap.size w' dx (by rw [Nr.far_comm, hxk, ← HX.out.2.2.2.2.1]; exact hdx) ((px.below' hbb (Nat.le_refl _)).keep hbb.size (fun _ _ => rfl)) ((HX.out.2.2.2.1.below' (Below.andThen H.out.2.2.2.1 hbb) (Nat.le_refl _)).keep (Below.andThen H.out.2.2.2.1 hbb).size (fun _ _ => rfl)) (by rw [hxk]; exact HX.out.2.2.2.2.2.1) (by rw [hxk]; exact HX.out.2.2.2.2.2.2.1) (by rw [hxk, HX.out.2.2.2.2.1])
            rw [hnx, HX.out.2.2.2.2.1] at h
            exact h
          have HFe : Hid (∀ w', Below wr.heap.size wr w' → Calls Tryz.prog 28 #[.slice Ae ne ce, .slice A' k c'] w' fun e w'' => e = .returned (.int .u64 (de : Int)) ∧ Below w'.heap.size w' w'') := Lib.hid fun w' hb => by
            have hbb := Below.andThen hb3 hb
            have hek := HE.out.2.1.1
            have h := r3far_c Ae A' ce c' e.1 p w'.heap.size w' de (by rw [Nr.far_comm, hek, ← HX.out.2.2.2.2.1]; exact HDE.out) ((HE.out.2.2.2.2.2.2.2.1.below' hbb (Nat.le_refl _)).keep hbb.size (fun _ _ => rfl)) ((HX.out.2.2.2.1.below' (Below.andThen H.out.2.2.2.1 hbb) (Nat.le_refl _)).keep (Below.andThen H.out.2.2.2.1 hbb).size (fun _ _ => rfl)) (by rw [hek]; exact HX.out.2.2.2.2.2.1) (by rw [hek]; exact HX.out.2.2.2.2.2.2.1) (by rw [hek, HX.out.2.2.2.2.1])
            rw [HNE.out, HX.out.2.2.2.2.1] at h
            exact h
          obtain ⟨r, hr⟩ : ∃ r, decide ((dx : Int) ≤ (de : Int)) = r := ⟨_, rfl⟩
          have HR := Lib.hid (And.intro hx (And.intro hdx (And.intro hr (And.intro hai (And.intro hbef (And.intro hb3 hlt))))))
          have hb33 := Below.refl wr.heap.size wr
          clear hx hdx hr hai hbef hb3 hlt px x0 y0 hnx hxk hblt hadlt
          go_wp2_with fail
          go_region_held3 (fun w' => Below wr.heap.size wr w') (((repeat (first | refine Below.drew ?_ | (with_reducible refine below_drewN _ ?_) | refine Below.alloc ?_ (by first | omega | (simp; done) | (simp; omega)) _ | refine Below.setCell ?_ (by first | omega | (simp; done) | (simp; omega)) _)); first | exact Below.refl _ _ | assumption | exact below_drewN _ (Below.refl _ _) | exact below_drewN _ (below_drewN _ (Below.refl _ _))))
            ((go_at_call 28; first
              | ((with_reducible refine (HFx.out _ (show Below wr.heap.size wr _ by ((repeat (first | refine Below.drew ?_ | (with_reducible refine below_drewN _ ?_) | refine Below.alloc ?_ (by first | omega | (simp; done) | (simp; omega)) _ | refine Below.setCell ?_ (by first | omega | (simp; done) | (simp; omega)) _)); first | exact Below.refl _ _ | assumption | exact below_drewN _ (Below.refl _ _) | exact below_drewN _ (below_drewN _ (Below.refl _ _))))).mono ?_); rintro e' w' ⟨rfl, hb'⟩; have hbD := Below.trans (show Below wr.heap.size wr _ by ((repeat (first | refine Below.drew ?_ | (with_reducible refine below_drewN _ ?_) | refine Below.alloc ?_ (by first | omega | (simp; done) | (simp; omega)) _ | refine Below.setCell ?_ (by first | omega | (simp; done) | (simp; omega)) _)); first | exact Below.refl _ _ | assumption | exact below_drewN _ (Below.refl _ _) | exact below_drewN _ (below_drewN _ (Below.refl _ _)))) (hb'.mono (Below.size (show Below wr.heap.size wr _ by ((repeat (first | refine Below.drew ?_ | (with_reducible refine below_drewN _ ?_) | refine Below.alloc ?_ (by first | omega | (simp; done) | (simp; omega)) _ | refine Below.setCell ?_ (by first | omega | (simp; done) | (simp; omega)) _)); first | exact Below.refl _ _ | assumption | exact below_drewN _ (Below.refl _ _) | exact below_drewN _ (below_drewN _ (Below.refl _ _)))))); clear hb')
              | ((with_reducible refine (HFe.out _ (show Below wr.heap.size wr _ by ((repeat (first | refine Below.drew ?_ | (with_reducible refine below_drewN _ ?_) | refine Below.alloc ?_ (by first | omega | (simp; done) | (simp; omega)) _ | refine Below.setCell ?_ (by first | omega | (simp; done) | (simp; omega)) _)); first | exact Below.refl _ _ | assumption | exact below_drewN _ (Below.refl _ _) | exact below_drewN _ (below_drewN _ (Below.refl _ _))))).mono ?_); rintro e' w' ⟨rfl, hb'⟩; have hbD := Below.trans (show Below wr.heap.size wr _ by ((repeat (first | refine Below.drew ?_ | (with_reducible refine below_drewN _ ?_) | refine Below.alloc ?_ (by first | omega | (simp; done) | (simp; omega)) _ | refine Below.setCell ?_ (by first | omega | (simp; done) | (simp; omega)) _)); first | exact Below.refl _ _ | assumption | exact below_drewN _ (Below.refl _ _) | exact below_drewN _ (below_drewN _ (Below.refl _ _)))) (hb'.mono (Below.size (show Below wr.heap.size wr _ by ((repeat (first | refine Below.drew ?_ | (with_reducible refine below_drewN _ ?_) | refine Below.alloc ?_ (by first | omega | (simp; done) | (simp; omega)) _ | refine Below.setCell ?_ (by first | omega | (simp; done) | (simp; omega)) _)); first | exact Below.refl _ _ | assumption | exact below_drewN _ (Below.refl _ _) | exact below_drewN _ (below_drewN _ (Below.refl _ _)))))); clear hb')))
          by_cases hle : dx ≤ de
          · have d1 : decide (dx ≤ de) = true := decide_eq_true hle
            simp only [d1]
            clear d1
            go_wp2_with fail
            go_roundw
            case rel =>
              obtain ⟨hx, hdx, hr, hai, hbef, hb3, hlt⟩ := HR.out
              refine ⟨a + 1, by first | rfl | go_num, by omega, fun j y hj hy => ?_, Below.andThen hb3 (by assumption)⟩
              rcases Nat.lt_or_ge j a with hja | hja
              · exact hbef j y hja hy
              · have : j = a := by omega
                subst this
                rw [hx, Option.some.injEq] at hy
                rw [← hy, hdx]
                exact hle
            case measure =>
              have := HR.out.2.2.2.2.2.2
              show i - ((a : Int) + 1).toNat < i - (a : Int).toNat
              omega
          · have d1 : decide (dx ≤ de) = false := decide_eq_false hle
            have HT : Hid (O.takeWhile (fun x => decide (Nr.dist p x.1 ≤ de)) = O.take a ∧ O.dropWhile (fun x => decide (Nr.dist p x.1 ≤ de)) = O.drop a ∧ a ≤ i) := Lib.hid (by
              obtain ⟨hx, hdx, hr, hai, hbef, hb3, hlt⟩ := HR.out
              have h := takeWhile_at (q := fun x : Ent => decide (Nr.dist p x.1 ≤ de)) (L := O) (i := a) (fun j x hj he => decide_eq_true (hbef j x hj he)) (by rw [HE.out.2.2.2.1]; exact hai) (fun y he => by rw [hx, Option.some.injEq] at he; rw [← he, hdx]; exact d1)
              exact ⟨h.1, h.2, hai⟩)
            simp only [d1]
            clear d1 hle
            have HB3 : Hid (Below W4.heap.size W4 w') := Lib.hid (Below.andThen HR.out.2.2.2.2.2.1 (by assumption))
            clear HFx HFe
            go_wp2_with fail
            obtain ⟨W, hW⟩ : ∃ W, W = w' := ⟨_, rfl⟩
            have HWb : Hid (Below W4.heap.size W4 W) := Lib.hid (by rw [hW]; exact HB3.out)
            rw [← hW]
            clear hW HB3 f1 f1' z0 z1 HR
            generalize Value.pointer (some ⟨bo, oo + a * 2, none⟩) = g1
            generalize Value.slice Aw nx cw = g2
            generalize Value.int .u64 (dx : Int) = g3
            generalize Value.pointer (some ⟨ad, of + i * 2, none⟩) = g4
            generalize Value.slice Ae ne ce = g5
            generalize Value.int .u64 (de : Int) = g6
            generalize (some ⟨bo, oo, none⟩ : Option Addr) = D at H HE ⊢
            have hBw : w.heap.size ≤ W.heap.size := Nat.le_trans H.out.2.2.2.1.size HWb.out.size
            obtain ⟨Ah, hcut, hhi⟩ := lst_hi (Q := EntQ w w.heap.size) 30 53 Tryz.underlying30 infoE2 D i d a HT.out.2.2 H.out.2.1
            obtain ⟨Al, hcutl, hlo⟩ := lst_lo (Q := EntQ w w.heap.size) 30 53 Tryz.underlying30 infoE2 D i d a HT.out.2.2 H.out.2.1
            have hrd : ∀ W', Below W.heap.size W W' → Lst 2 (EntQ w w.heap.size) W' W4.heap.size D O := fun W' hb => by
              obtain ⟨A2, c2, hv, -, hl⟩ := OwnL.rd (entQ_ok w w.heap.size) HE.out.2.2.2.2.1
              simp only [Value.slice.injEq] at hv
              obtain ⟨rfl, -, -⟩ := hv
              exact hl.later (entQ_ok _ _) (Below.andThen HWb.out hb) (Nat.le_refl _)
            have HLs := Lib.hid (And.intro (fun W' (hb : Below W.heap.size W W') => hhi W' _ O HE.out.2.2.2.1 (hrd W' hb)) (fun W' (hb : Below W.heap.size W W') => hlo W' _ O HE.out.2.2.2.1 (hrd W' hb)))
            have hel : EntQ w w.heap.size (fun j => (#[Value.slice Ae ne ce, .int .u64 (e.2 : Int)] : Array Value)[j]?) e := by
              obtain ⟨b', o', A5, c5, hA5, -, u0, -, pu, hl5, hv5⟩ := HX.out.2.2.1.at HE.out.1
              cases hA5
              have hlt' : ad < w.heap.size := by
                obtain ⟨b', o', -, -, hA', hlt', -⟩ := HX.out.2.2.1.at HE.out.1
                cases hA'
                exact hlt'
              have hsame := (H.out.2.2.2.1.cell (p := ⟨ad, of + i * 2, none⟩) hlt').trans u0
              have hh := HE.out.2.2.2.2.2.2.2.2.2.2.1.symm.trans hsame
              simp only [Option.some.injEq, Value.slice.injEq, true_and] at hh
              obtain ⟨rfl, rfl⟩ := hh
              exact ⟨Ae, ce, by rw [← HNE.out]; rfl, rfl, pu, hl5, hv5⟩
            have hadlt : ad < W4.heap.size := by
              obtain ⟨b', o', -, -, hA', hlt', -⟩ := (HX.out.2.2.1.below H.out.2.2.2.1 (Nat.le_refl _) H.out.2.2.2.1.size).at HE.out.1
              cases hA'
              exact hlt'
            have hv0 : ∀ W', Below W.heap.size W W' → W'.cell? ⟨ad, of + i * 2, none⟩ = some (.slice Ae ne ce) := fun W' hb => ((Below.andThen HWb.out hb).cell (p := ⟨ad, _, none⟩) hadlt).trans (by rw [← HNE.out]; exact HE.out.2.2.2.2.2.2.2.2.2.2.1)
            have hv1 : ∀ W', Below W.heap.size W W' → W'.cell? ⟨ad, of + i * 2 + 1, none⟩ = some (.int .u64 (e.2 : Int)) := fun W' hb => ((Below.andThen HWb.out hb).cell (p := ⟨ad, _, none⟩) hadlt).trans HE.out.2.2.2.2.2.2.2.2.2.2.2
            have HV := Lib.hid (And.intro hv0 hv1)
            have k0 := hv0 W (Below.refl _ _)
            have k1 := hv1 W (Below.refl _ _)
            have k0a : ∀ ob, (W.alloc ob).cell? ⟨ad, of + i * 2, none⟩ = some (.slice Ae ne ce) := fun ob => hv0 _ (below_alloc W ob)
            have k1a : ∀ ob, (W.alloc ob).cell? ⟨ad, of + i * 2 + 1, none⟩ = some (.int .u64 (e.2 : Int)) := fun ob => hv1 _ (below_alloc W ob)
            have HEl := Lib.hid hel
            have HBw := Lib.hid hBw
            have hlen1 : (O.take a).length = a := by rw [List.length_take, HE.out.2.2.2.1]; have := HT.out.2.2; omega
            have hlen2 : (O.drop a).length = i - a := by rw [List.length_drop, HE.out.2.2.2.1]
            have HLL := Lib.hid (And.intro hlen1 (And.intro hlen2 (And.intro HT.out.2.2 H.out.2.2.2.2)))
            have hrefl := Below.refl W.heap.size W
            clear hhi hlo hrd hel hv0 hv1 hBw hlen1 hlen2 hadlt
            try go_wp2_with fail
            go_region_law ((first
              | (refine step_append_list (Q := EntQ w w.heap.size) 30 53 (.agg #[.slice none 0 0, .int .u64 0]) 32 Tryz.underlying30 infoE2 (by rfl) (by omega) (by omega) (entQ_ok w w.heap.size) (by rfl) _ _ (by rfl) w.heap.size _ [] (O.take a) a (by rw [HLL.out.1]; simp) (by rfl) (by first | exact (ownL_nil _ W).mono HBw.out | exact ((ownL_nil _ W).mono HBw.out).below (C := W.heap.size + 1) (by first | exact (Below.refl (W.heap.size + 1) (W.alloc (.cells #[] 53))).alloc (by simp) _ | exact ((Below.refl (W.heap.size + 1) (W.alloc (.cells #[] 53))).alloc (by simp) _).drew | exact ((Below.refl (W.heap.size + 1) (W.alloc (.cells #[] 53))).drew).alloc (by simp) _) (by simp) | exact ownL_next W HBw.out) W4.heap.size Ah a d HLL.out.1 (by rfl) (by exact HLs.out.1 _ (by ((repeat (first | refine Below.drew ?_ | (with_reducible refine below_drewN _ ?_) | refine Below.alloc ?_ (by first | omega | (simp; done) | (simp; omega)) _ | refine Below.setCell ?_ (by first | omega | (simp; done) | (simp; omega)) _)); first | exact Below.refl _ _ | assumption | exact below_drewN _ (Below.refl _ _) | exact below_drewN _ (below_drewN _ (Below.refl _ _))))) (by have := HLL.out.2.2; omega) (by have := HBw.out; simp; omega) ?_; intro D1 d1 w1 hown1 hgrow1 hat1; (first | (have hgr1 : World.grownBy _ w1 (some W.heap.size) := hgrow1) | (have hgr1 : World.grownBy _ w1 (some (W.heap.size + 1)) := hgrow1)); have hg1 : Below W.heap.size W w1 := Below.grown (show Below W.heap.size W _ from (by ((repeat (first | refine Below.drew ?_ | (with_reducible refine below_drewN _ ?_) | refine Below.alloc ?_ (by first | omega | (simp; done) | (simp; omega)) _ | refine Below.setCell ?_ (by first | omega | (simp; done) | (simp; omega)) _)); first | exact Below.refl _ _ | assumption | exact below_drewN _ (Below.refl _ _) | exact below_drewN _ (below_drewN _ (Below.refl _ _))))) hgr1 (by first | (simp; done) | (simp; omega)) (fun q hq => by simp at hq; omega); clear hgrow1; rw [List.nil_append] at hown1; have k0b := HV.out.1 w1 hg1; have k1b := HV.out.2 w1 hg1; have hq1 := ownBlock_ge (n := W.heap.size) hat1 (fun q hq => by first | (have h5 : some W.heap.size = some q := hq; simp at h5; omega) | (have h5 : some (W.heap.size + 1) = some q := hq; simp at h5; omega)) (Below.size (show Below W.heap.size W _ from (by ((repeat (first | refine Below.drew ?_ | (with_reducible refine below_drewN _ ?_) | refine Below.alloc ?_ (by first | omega | (simp; done) | (simp; omega)) _ | refine Below.setCell ?_ (by first | omega | (simp; done) | (simp; omega)) _)); first | exact Below.refl _ _ | assumption | exact below_drewN _ (Below.refl _ _) | exact below_drewN _ (below_drewN _ (Below.refl _ _)))))); clear hat1)
              | (refine step_append_list (Q := EntQ w w.heap.size) 30 53 (.agg #[.slice none 0 0, .int .u64 0]) 32 Tryz.underlying30 infoE2 (by rfl) (by omega) (by omega) (entQ_ok w w.heap.size) (by rfl) _ _ (by rfl) w.heap.size (.slice D1 a d1) (O.take a) [e] (a + 1) (by rw [HLL.out.1]; rfl) (by rfl) (by first | exact hown1 | exact hown1.below (below_alloc w1 _) (Nat.le_refl _) | exact hown1.below (below_alloc w1 _).drew (Nat.le_refl _) | exact hown1.below ((Below.refl _ w1).drew) (Nat.le_refl _)) (w1.heap.size + 1) _ 1 1 (by rfl) (by rfl) (by exact lst_at (entQ_ok w w.heap.size) _ e (by rfl) HEl.out) (by have := HLL.out.2.2; omega) (by have := HBw.out; have := hg1.size; first | omega | (simp; omega)) ?_; intro D2 d2 w2 hown2 hgrow2 hat2; have hg2 : Below W.heap.size W w2 := Below.grown (by first | exact hg1 | exact hg1.trans ((below_alloc w1 _).mono hg1.size) | exact hg1.drew | exact (hg1.trans ((below_alloc w1 _).mono hg1.size)).drew) hgrow2 (by have := hg1.size; first | omega | (simp; omega)) hq1; clear hgrow2 hat2)
              | (refine step_append_list (Q := EntQ w w.heap.size) 30 53 (.agg #[.slice none 0 0, .int .u64 0]) 32 Tryz.underlying30 infoE2 (by rfl) (by omega) (by omega) (entQ_ok w w.heap.size) (by rfl) _ _ (by rfl) w.heap.size (.slice D1 a d1) (O.take a) [e] (a + 1) (by rw [HLL.out.1]; rfl) (by rfl) (by first | exact hown1 | exact hown1.below (below_alloc w1 _) (Nat.le_refl _) | exact hown1.below (below_alloc w1 _).drew (Nat.le_refl _) | exact hown1.below ((Below.refl _ w1).drew) (Nat.le_refl _)) (W.heap.size + 1 + 1) _ 1 1 (by rfl) (by rfl) (by exact Lst.grown ((lst_next (w := W) (entQ_ok w w.heap.size) _ _ e (by rfl) HEl.out).later (C := W.heap.size + 1 + 1) (entQ_ok w w.heap.size) (by ((repeat (first | refine Below.drew ?_ | (with_reducible refine below_drewN _ ?_) | refine Below.alloc ?_ (by first | omega | (simp; done) | (simp; omega)) _ | refine Below.setCell ?_ (by first | omega | (simp; done) | (simp; omega)) _)); first | exact Below.refl _ _ | assumption | exact below_drewN _ (Below.refl _ _) | exact below_drewN _ (below_drewN _ (Below.refl _ _)))) (Nat.le_refl _)) hgr1 (by simp) (by simp)) (by have := HLL.out.2.2; omega) (by have := HBw.out; have := hg1.size; first | omega | (simp; omega)) ?_; intro D2 d2 w2 hown2 hgrow2 hat2; have hg2 : Below W.heap.size W w2 := Below.grown (by first | exact hg1 | exact hg1.trans ((below_alloc w1 _).mono hg1.size) | exact hg1.drew | exact (hg1.trans ((below_alloc w1 _).mono hg1.size)).drew) hgrow2 (by have := hg1.size; first | omega | (simp; omega)) hq1; clear hgrow2 hat2)
              | (refine step_append_list (Q := EntQ w w.heap.size) 30 53 (.agg #[.slice none 0 0, .int .u64 0]) 32 Tryz.underlying30 infoE2 (by rfl) (by omega) (by omega) (entQ_ok w w.heap.size) (by rfl) _ _ (by rfl) w.heap.size (.slice D1 a d1) (O.take a) [e] (a + 1) (by rw [HLL.out.1]; rfl) (by rfl) (by first | exact hown1 | exact hown1.below (below_alloc w1 _) (Nat.le_refl _) | exact hown1.below (below_alloc w1 _).drew (Nat.le_refl _) | exact hown1.below ((Below.refl _ w1).drew) (Nat.le_refl _)) (W.heap.size + 1) _ 1 1 (by rfl) (by rfl) (by exact Lst.grown ((lst_at (w := W) (entQ_ok w w.heap.size) _ e (by rfl) HEl.out).later (C := W.heap.size + 1) (entQ_ok w w.heap.size) (by ((repeat (first | refine Below.drew ?_ | (with_reducible refine below_drewN _ ?_) | refine Below.alloc ?_ (by first | omega | (simp; done) | (simp; omega)) _ | refine Below.setCell ?_ (by first | omega | (simp; done) | (simp; omega)) _)); first | exact Below.refl _ _ | assumption | exact below_drewN _ (Below.refl _ _) | exact below_drewN _ (below_drewN _ (Below.refl _ _)))) (Nat.le_refl _)) hgr1 (by first | omega | (simp; done) | (simp; omega)) (by simp)) (by have := HLL.out.2.2; omega) (by have := HBw.out; have := hg1.size; first | omega | (simp; omega)) ?_; intro D2 d2 w2 hown2 hgrow2 hat2; have hg2 : Below W.heap.size W w2 := Below.grown (by first | exact hg1 | exact hg1.trans ((below_alloc w1 _).mono hg1.size) | exact hg1.drew | exact (hg1.trans ((below_alloc w1 _).mono hg1.size)).drew) hgrow2 (by have := hg1.size; first | omega | (simp; omega)) hq1; clear hgrow2 hat2)))
            all_goals
              have HF := Lib.hid (And.intro hown2 hg2)
              clear hown1 hgr1 hg1 k0b k1b hq1 hown2 hg2
            clear k0 k1 k0a k1a
            all_goals go_wp2_with (at_builtin; refine wpList_append_list (Q := EntQ w w.heap.size) 30 53 (.agg #[.slice none 0 0, .int .u64 0]) 32 Tryz.underlying30 infoE2 (by rfl) (by omega) (by omega) (entQ_ok w w.heap.size) (by rfl) (.tmp 50) (.tmp 53) (by rfl) w.heap.size (.slice D2 (a + 1) d2) (O.take a ++ [e]) (O.drop a) (i + 1) (by rw [List.length_append, HLL.out.1, HLL.out.2.1]; have := HLL.out.2.2.1; simp; omega) (by rfl) (by exact HF.out.1) W4.heap.size Al (i - a) (d - a) HLL.out.2.1 (by rfl) (by exact HLs.out.2 _ HF.out.2) (by have := HLL.out.2.2.2; omega) (by have := HBw.out; have := HF.out.2.size; omega) ?_; intro D3 d3 w3 hown3 hgrow3 hat3; have hbb3 := Below.grown (Below.andThen (Below.andThen H.out.2.2.2.1 HWb.out) HF.out.2) hgrow3 (by have := HBw.out; have := HF.out.2.size; omega) (fun q hq => (HF.out.1.lt q hq).1); clear hgrow3 hat3)
            all_goals go_roundw
            all_goals first
              | exact ⟨i + 1, D3, d3, rfl, by first | rfl | go_num, by have := HLL.out.2.2.2; omega, own_cap (by rw [List.length_append, List.length_append, HLL.out.1, HLL.out.2.1]; have := HLL.out.2.2.1; simp; omega) hown3, by rw [insN_at HE.out.1 HE.out.2.2.1 HDE.out HT.out.1 HT.out.2.1]; exact hown3, hbb3⟩
              | (have := HLL.out.2.2.2; show N - ((i : Int) + 1).toNat < N - (i : Int).toNat; omega)
        · have f1 : decide ((a : Int) < (i : Int)) = false := decide_eq_false (by omega)
          have f1' : decide (a < i) = false := decide_eq_false hlt
          have hq : a = i := by omega
          have HT : Hid (O.takeWhile (fun x => decide (Nr.dist p x.1 ≤ de)) = O.take a ∧ O.dropWhile (fun x => decide (Nr.dist p x.1 ≤ de)) = O.drop a ∧ a ≤ i) := Lib.hid (by
            have h := takeWhile_at (q := fun x : Ent => decide (Nr.dist p x.1 ≤ de)) (L := O) (i := a) (fun j x hj he => decide_eq_true (hbef j x hj he)) (by rw [HE.out.2.2.2.1]; exact hai) (fun x he => by have := lt_get he; rw [HE.out.2.2.2.1] at this; omega)
            exact ⟨h.1, h.2, hai⟩)
          have HB3 := Lib.hid hb3
          clear hai hbef hlt hq
          clear hb3
          go_wp2_with fail
          go_quiet (fail)
          obtain ⟨W, hW⟩ : ∃ W, W = wr.drewN nq := ⟨_, rfl⟩
          have HWb : Hid (Below W4.heap.size W4 W) := Lib.hid (by rw [hW]; exact below_drewN nq HB3.out)
          rw [← hW]
          clear hW HB3 f1 f1'
          have hBw : w.heap.size ≤ W.heap.size := Nat.le_trans H.out.2.2.2.1.size HWb.out.size
          obtain ⟨Ah, hcut, hhi⟩ := lst_hi (Q := EntQ w w.heap.size) 30 53 Tryz.underlying30 infoE2 D i d a HT.out.2.2 H.out.2.1
          obtain ⟨Al, hcutl, hlo⟩ := lst_lo (Q := EntQ w w.heap.size) 30 53 Tryz.underlying30 infoE2 D i d a HT.out.2.2 H.out.2.1
          have hrd : ∀ W', Below W.heap.size W W' → Lst 2 (EntQ w w.heap.size) W' W4.heap.size D O := fun W' hb => by
            obtain ⟨A2, c2, hv, -, hl⟩ := OwnL.rd (entQ_ok w w.heap.size) HE.out.2.2.2.2.1
            simp only [Value.slice.injEq] at hv
            obtain ⟨rfl, -, -⟩ := hv
            exact hl.later (entQ_ok _ _) (Below.andThen HWb.out hb) (Nat.le_refl _)
          have HLs := Lib.hid (And.intro (fun W' (hb : Below W.heap.size W W') => hhi W' _ O HE.out.2.2.2.1 (hrd W' hb)) (fun W' (hb : Below W.heap.size W W') => hlo W' _ O HE.out.2.2.2.1 (hrd W' hb)))
          have hel : EntQ w w.heap.size (fun j => (#[Value.slice Ae ne ce, .int .u64 (e.2 : Int)] : Array Value)[j]?) e := by
            obtain ⟨b', o', A5, c5, hA5, -, u0, -, pu, hl5, hv5⟩ := HX.out.2.2.1.at HE.out.1
            cases hA5
            have hlt' : ad < w.heap.size := by
              obtain ⟨b', o', -, -, hA', hlt', -⟩ := HX.out.2.2.1.at HE.out.1
              cases hA'
              exact hlt'
            have hsame := (H.out.2.2.2.1.cell (p := ⟨ad, of + i * 2, none⟩) hlt').trans u0
            have hh := HE.out.2.2.2.2.2.2.2.2.2.2.1.symm.trans hsame
            simp only [Option.some.injEq, Value.slice.injEq, true_and] at hh
            obtain ⟨rfl, rfl⟩ := hh
            exact ⟨Ae, ce, by rw [← HNE.out]; rfl, rfl, pu, hl5, hv5⟩
          have hadlt : ad < W4.heap.size := by
            obtain ⟨b', o', -, -, hA', hlt', -⟩ := (HX.out.2.2.1.below H.out.2.2.2.1 (Nat.le_refl _) H.out.2.2.2.1.size).at HE.out.1
            cases hA'
            exact hlt'
          have hv0 : ∀ W', Below W.heap.size W W' → W'.cell? ⟨ad, of + i * 2, none⟩ = some (.slice Ae ne ce) := fun W' hb => ((Below.andThen HWb.out hb).cell (p := ⟨ad, _, none⟩) hadlt).trans (by rw [← HNE.out]; exact HE.out.2.2.2.2.2.2.2.2.2.2.1)
          have hv1 : ∀ W', Below W.heap.size W W' → W'.cell? ⟨ad, of + i * 2 + 1, none⟩ = some (.int .u64 (e.2 : Int)) := fun W' hb => ((Below.andThen HWb.out hb).cell (p := ⟨ad, _, none⟩) hadlt).trans HE.out.2.2.2.2.2.2.2.2.2.2.2
          have HV := Lib.hid (And.intro hv0 hv1)
          have k0 := hv0 W (Below.refl _ _)
          have k1 := hv1 W (Below.refl _ _)
          have k0a : ∀ ob, (W.alloc ob).cell? ⟨ad, of + i * 2, none⟩ = some (.slice Ae ne ce) := fun ob => hv0 _ (below_alloc W ob)
          have k1a : ∀ ob, (W.alloc ob).cell? ⟨ad, of + i * 2 + 1, none⟩ = some (.int .u64 (e.2 : Int)) := fun ob => hv1 _ (below_alloc W ob)
          have HEl := Lib.hid hel
          have HBw := Lib.hid hBw
          have hlen1 : (O.take a).length = a := by rw [List.length_take, HE.out.2.2.2.1]; have := HT.out.2.2; omega
          have hlen2 : (O.drop a).length = i - a := by rw [List.length_drop, HE.out.2.2.2.1]
          have HLL := Lib.hid (And.intro hlen1 (And.intro hlen2 (And.intro HT.out.2.2 H.out.2.2.2.2)))
          have hrefl := Below.refl W.heap.size W
          clear hhi hlo hrd hel hv0 hv1 hBw hlen1 hlen2 hadlt
          try go_wp2_with fail
          go_region_law ((first
            | (refine step_append_list (Q := EntQ w w.heap.size) 30 53 (.agg #[.slice none 0 0, .int .u64 0]) 32 Tryz.underlying30 infoE2 (by rfl) (by omega) (by omega) (entQ_ok w w.heap.size) (by rfl) _ _ (by rfl) w.heap.size _ [] (O.take a) a (by rw [HLL.out.1]; simp) (by rfl) (by first | exact (ownL_nil _ W).mono HBw.out | exact ((ownL_nil _ W).mono HBw.out).below (C := W.heap.size + 1) (by first | exact (Below.refl (W.heap.size + 1) (W.alloc (.cells #[] 53))).alloc (by simp) _ | exact ((Below.refl (W.heap.size + 1) (W.alloc (.cells #[] 53))).alloc (by simp) _).drew | exact ((Below.refl (W.heap.size + 1) (W.alloc (.cells #[] 53))).drew).alloc (by simp) _) (by simp) | exact ownL_next W HBw.out) W4.heap.size Ah a d HLL.out.1 (by rfl) (by exact HLs.out.1 _ (by ((repeat (first | refine Below.drew ?_ | (with_reducible refine below_drewN _ ?_) | refine Below.alloc ?_ (by first | omega | (simp; done) | (simp; omega)) _ | refine Below.setCell ?_ (by first | omega | (simp; done) | (simp; omega)) _)); first | exact Below.refl _ _ | assumption | exact below_drewN _ (Below.refl _ _) | exact below_drewN _ (below_drewN _ (Below.refl _ _))))) (by have := HLL.out.2.2; omega) (by have := HBw.out; simp; omega) ?_; intro D1 d1 w1 hown1 hgrow1 hat1; (first | (have hgr1 : World.grownBy _ w1 (some W.heap.size) := hgrow1) | (have hgr1 : World.grownBy _ w1 (some (W.heap.size + 1)) := hgrow1)); have hg1 : Below W.heap.size W w1 := Below.grown (show Below W.heap.size W _ from (by ((repeat (first | refine Below.drew ?_ | (with_reducible refine below_drewN _ ?_) | refine Below.alloc ?_ (by first | omega | (simp; done) | (simp; omega)) _ | refine Below.setCell ?_ (by first | omega | (simp; done) | (simp; omega)) _)); first | exact Below.refl _ _ | assumption | exact below_drewN _ (Below.refl _ _) | exact below_drewN _ (below_drewN _ (Below.refl _ _))))) hgr1 (by first | (simp; done) | (simp; omega)) (fun q hq => by simp at hq; omega); clear hgrow1; rw [List.nil_append] at hown1; have k0b := HV.out.1 w1 hg1; have k1b := HV.out.2 w1 hg1; have hq1 := ownBlock_ge (n := W.heap.size) hat1 (fun q hq => by first | (have h5 : some W.heap.size = some q := hq; simp at h5; omega) | (have h5 : some (W.heap.size + 1) = some q := hq; simp at h5; omega)) (Below.size (show Below W.heap.size W _ from (by ((repeat (first | refine Below.drew ?_ | (with_reducible refine below_drewN _ ?_) | refine Below.alloc ?_ (by first | omega | (simp; done) | (simp; omega)) _ | refine Below.setCell ?_ (by first | omega | (simp; done) | (simp; omega)) _)); first | exact Below.refl _ _ | assumption | exact below_drewN _ (Below.refl _ _) | exact below_drewN _ (below_drewN _ (Below.refl _ _)))))); clear hat1)
            | (refine step_append_list (Q := EntQ w w.heap.size) 30 53 (.agg #[.slice none 0 0, .int .u64 0]) 32 Tryz.underlying30 infoE2 (by rfl) (by omega) (by omega) (entQ_ok w w.heap.size) (by rfl) _ _ (by rfl) w.heap.size (.slice D1 a d1) (O.take a) [e] (a + 1) (by rw [HLL.out.1]; rfl) (by rfl) (by first | exact hown1 | exact hown1.below (below_alloc w1 _) (Nat.le_refl _) | exact hown1.below (below_alloc w1 _).drew (Nat.le_refl _) | exact hown1.below ((Below.refl _ w1).drew) (Nat.le_refl _)) (w1.heap.size + 1) _ 1 1 (by rfl) (by rfl) (by exact lst_at (entQ_ok w w.heap.size) _ e (by rfl) HEl.out) (by have := HLL.out.2.2; omega) (by have := HBw.out; have := hg1.size; first | omega | (simp; omega)) ?_; intro D2 d2 w2 hown2 hgrow2 hat2; have hg2 : Below W.heap.size W w2 := Below.grown (by first | exact hg1 | exact hg1.trans ((below_alloc w1 _).mono hg1.size) | exact hg1.drew | exact (hg1.trans ((below_alloc w1 _).mono hg1.size)).drew) hgrow2 (by have := hg1.size; first | omega | (simp; omega)) hq1; clear hgrow2 hat2)
            | (refine step_append_list (Q := EntQ w w.heap.size) 30 53 (.agg #[.slice none 0 0, .int .u64 0]) 32 Tryz.underlying30 infoE2 (by rfl) (by omega) (by omega) (entQ_ok w w.heap.size) (by rfl) _ _ (by rfl) w.heap.size (.slice D1 a d1) (O.take a) [e] (a + 1) (by rw [HLL.out.1]; rfl) (by rfl) (by first | exact hown1 | exact hown1.below (below_alloc w1 _) (Nat.le_refl _) | exact hown1.below (below_alloc w1 _).drew (Nat.le_refl _) | exact hown1.below ((Below.refl _ w1).drew) (Nat.le_refl _)) (W.heap.size + 1 + 1) _ 1 1 (by rfl) (by rfl) (by exact Lst.grown ((lst_next (w := W) (entQ_ok w w.heap.size) _ _ e (by rfl) HEl.out).later (C := W.heap.size + 1 + 1) (entQ_ok w w.heap.size) (by ((repeat (first | refine Below.drew ?_ | (with_reducible refine below_drewN _ ?_) | refine Below.alloc ?_ (by first | omega | (simp; done) | (simp; omega)) _ | refine Below.setCell ?_ (by first | omega | (simp; done) | (simp; omega)) _)); first | exact Below.refl _ _ | assumption | exact below_drewN _ (Below.refl _ _) | exact below_drewN _ (below_drewN _ (Below.refl _ _)))) (Nat.le_refl _)) hgr1 (by simp) (by simp)) (by have := HLL.out.2.2; omega) (by have := HBw.out; have := hg1.size; first | omega | (simp; omega)) ?_; intro D2 d2 w2 hown2 hgrow2 hat2; have hg2 : Below W.heap.size W w2 := Below.grown (by first | exact hg1 | exact hg1.trans ((below_alloc w1 _).mono hg1.size) | exact hg1.drew | exact (hg1.trans ((below_alloc w1 _).mono hg1.size)).drew) hgrow2 (by have := hg1.size; first | omega | (simp; omega)) hq1; clear hgrow2 hat2)
            | (refine step_append_list (Q := EntQ w w.heap.size) 30 53 (.agg #[.slice none 0 0, .int .u64 0]) 32 Tryz.underlying30 infoE2 (by rfl) (by omega) (by omega) (entQ_ok w w.heap.size) (by rfl) _ _ (by rfl) w.heap.size (.slice D1 a d1) (O.take a) [e] (a + 1) (by rw [HLL.out.1]; rfl) (by rfl) (by first | exact hown1 | exact hown1.below (below_alloc w1 _) (Nat.le_refl _) | exact hown1.below (below_alloc w1 _).drew (Nat.le_refl _) | exact hown1.below ((Below.refl _ w1).drew) (Nat.le_refl _)) (W.heap.size + 1) _ 1 1 (by rfl) (by rfl) (by exact Lst.grown ((lst_at (w := W) (entQ_ok w w.heap.size) _ e (by rfl) HEl.out).later (C := W.heap.size + 1) (entQ_ok w w.heap.size) (by ((repeat (first | refine Below.drew ?_ | (with_reducible refine below_drewN _ ?_) | refine Below.alloc ?_ (by first | omega | (simp; done) | (simp; omega)) _ | refine Below.setCell ?_ (by first | omega | (simp; done) | (simp; omega)) _)); first | exact Below.refl _ _ | assumption | exact below_drewN _ (Below.refl _ _) | exact below_drewN _ (below_drewN _ (Below.refl _ _)))) (Nat.le_refl _)) hgr1 (by first | omega | (simp; done) | (simp; omega)) (by simp)) (by have := HLL.out.2.2; omega) (by have := HBw.out; have := hg1.size; first | omega | (simp; omega)) ?_; intro D2 d2 w2 hown2 hgrow2 hat2; have hg2 : Below W.heap.size W w2 := Below.grown (by first | exact hg1 | exact hg1.trans ((below_alloc w1 _).mono hg1.size) | exact hg1.drew | exact (hg1.trans ((below_alloc w1 _).mono hg1.size)).drew) hgrow2 (by have := hg1.size; first | omega | (simp; omega)) hq1; clear hgrow2 hat2)))
          all_goals
            have HF := Lib.hid (And.intro hown2 hg2)
            clear hown1 hgr1 hg1 k0b k1b hq1 hown2 hg2
          clear k0 k1 k0a k1a
          all_goals go_wp2_with (at_builtin; refine wpList_append_list (Q := EntQ w w.heap.size) 30 53 (.agg #[.slice none 0 0, .int .u64 0]) 32 Tryz.underlying30 infoE2 (by rfl) (by omega) (by omega) (entQ_ok w w.heap.size) (by rfl) (.tmp 50) (.tmp 53) (by rfl) w.heap.size (.slice D2 (a + 1) d2) (O.take a ++ [e]) (O.drop a) (i + 1) (by rw [List.length_append, HLL.out.1, HLL.out.2.1]; have := HLL.out.2.2.1; simp; omega) (by rfl) (by exact HF.out.1) W4.heap.size Al (i - a) (d - a) HLL.out.2.1 (by rfl) (by exact HLs.out.2 _ HF.out.2) (by have := HLL.out.2.2.2; omega) (by have := HBw.out; have := HF.out.2.size; omega) ?_; intro D3 d3 w3 hown3 hgrow3 hat3; have hbb3 := Below.grown (Below.andThen (Below.andThen H.out.2.2.2.1 HWb.out) HF.out.2) hgrow3 (by have := HBw.out; have := HF.out.2.size; omega) (fun q hq => (HF.out.1.lt q hq).1); clear hgrow3 hat3)
          all_goals go_roundw
          all_goals first
            | exact ⟨i + 1, D3, d3, rfl, by first | rfl | go_num, by have := HLL.out.2.2.2; omega, own_cap (by rw [List.length_append, List.length_append, HLL.out.1, HLL.out.2.1]; have := HLL.out.2.2.1; simp; omega) hown3, by rw [insN_at HE.out.1 HE.out.2.2.1 HDE.out HT.out.1 HT.out.2.1]; exact hown3, hbb3⟩
            | (have := HLL.out.2.2.2; show N - ((i : Int) + 1).toNat < N - (i : Int).toNat; omega)
    · have e1 : decide ((i : Int) < (N : Int)) = false := decide_eq_false (by omega)
      have e1' : decide (i < N) = false := decide_eq_false hlt
      have hiN : i = N := by omega
      subst hiN
      have H := Lib.hid (And.intro hid (And.intro hown hbe))
      clear hi hid hown hbe hlt
      go_wp2_with fail
      go_ret
      obtain ⟨hid, hown, hbe⟩ := H.out
      rw [← HN.out, List.take_length, HN.out] at hown
      have hll : (Nr.nearL p L).length = i := by have := (HS.out L.length (Nat.le_refl _)).2.2; rw [List.take_length] at this; rw [this, HN.out]
      rw [← hll] at hown
      obtain ⟨e1, e2, e3⟩ := ownE_at (m := (Nr.nearL p L).length) hown hbe (Nat.le_refl _)
      exact ⟨D, d, rfl, e3, hid, hbe⟩
end Go.Proofs.YtjcmehplcagejaaGreatDoor
