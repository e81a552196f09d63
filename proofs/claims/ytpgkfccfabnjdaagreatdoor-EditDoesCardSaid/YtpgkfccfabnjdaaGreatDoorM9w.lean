import Derived.Test.YtpgkfccfabnjdaaGreatDoorM9v
import Derived.Test.YtpgkfccfabnjdaaGreatDoorM9q
import Derived.Test.YtpgkfccfabnjdaaGreatDoorM35
/-
  THE LAW EditDoes. Laid by wip/gen61.py.
-/
namespace Go.Proofs.YtpgkfccfabnjdaaGreatDoor
open Go.ChangeShapes Go.WideShapes Go.ChangeAt Go.RowKit
open Tr (T S4 Ent Chg Raw Pc)

def DoSt (w W : World) (C b k : Nat) (o : Option T) (D : Option Addr) (e M : Nat) (A : Option Addr) (L : List Raw) : Prop := Hand W C b k o D e M ∧ Below w.heap.size w W ∧ RwL W C A L
theorem DoSt.below {w W W' : World} {C b k : Nat} {o : Option T} {D : Option Addr} {e M : Nat} {A : Option Addr} {L : List Raw} (h : DoSt w W C b k o D e M A L) (hb : Below W.heap.size W W') : DoSt w W' C b k o D e M A L :=
  ⟨h.1.below hb, Below.andThen h.2.1 hb, h.2.2.below hb h.1.old (Nat.le_refl _)⟩
theorem DoSt.rw {w W : World} {C b k : Nat} {o : Option T} {D : Option Addr} {e M : Nat} {A : Option Addr} {L : List Raw} (h : DoSt w W C b k o D e M A L) : RwL W W.heap.size A L := h.2.2.keep h.1.old (fun _ _ => rfl)
theorem DoSt.tz {w W : World} {C b k : Nat} {o : Option T} {D : Option Addr} {e M : Nat} {A : Option Addr} {L : List Raw} (h : DoSt w W C b k o D e M A L) (hT : Tz w) : ∀ w', Below W.heap.size W w' → Tz w' := fun _ hb => (hT.on h.2.1).on hb
theorem is7_at {w : World} {b k : Nat} {o : Option T} {A : Option Addr} {c n : Nat} {E : List Ent} (h : TreeX w b k o) (hT : ∀ w', Below w.heap.size w w' → Tz w') (hE : Tr.entsO o = E) (hL : Ents w w.heap.size A E) (hn : E.length = n) (hc : n ≤ c) (hl : n ≤ 1000000) :
    Calls Tryz.prog 16 #[.pointer (some ⟨b, 0, none⟩), .int .i64 (k : Int), .slice A n c] w fun e w' => e = .returned (.bool true) ∧ Below w.heap.size w w' := by
  subst hE hn
  exact is7_c h.1 hT hL hc hl
theorem heavyC_each {m : Nat} {L : List Raw} (h : heavyC m L = false) : ∀ r ∈ L, r.1.length ≤ 1000000 := fun r hr => by
  simp only [heavyC, decide_eq_false_iff_not, not_or, not_exists, not_and] at h
  have := h.2 r hr
  omega
set_option maxRecDepth 100000 in
set_option maxHeartbeats 2000000 in
theorem editDoes_skip {w : World} {A A' : Option Addr} {c c' n n' : Nat} {l : List ActT} {L : List Raw} (k : Int) (hT : Tz w) (hA : ActsT w w.heap.size A l) (hL : RwL w w.heap.size A' L) (hn : l.length = n) (hn' : L.length = n') (hl : n ≤ maxLen) (hl' : n' ≤ maxLen) (r1 r2 b1 b2 : Bool) (hh : heavyA 30 l = r1) (hh' : heavyC 30 L = r2)
    (hb1 : decide (k < 1) = b1) (hb2 : decide (16 < k) = b2) (hor : (r1 || b1 || b2 || r2) = true) :
    Calls Tryz.prog 5 #[.int .i64 k, .slice A n c, .slice A' n' c'] w fun e w' => e = .returned (.bool true) ∧ Below w.heap.size w w' := by
  subst hn hn'
  have HX := Lib.hid (And.intro hA (And.intro hL (And.intro hl (And.intro hl' (And.intro hh (And.intro hh' hT))))))
  clear hA hL hl hl' hh hh' hT
  go_enter Tryz.func5, Tryz.ntmps5
  go_wp2_with fail
  refine (awake13_c w).mono ?_
  rintro e w1 ⟨rfl, hb1'⟩
  have HH := Lib.hid (rheavy7_c (c := c) (HX.out.1.below hb1' (Nat.le_refl _) (Nat.le_refl _)) HX.out.2.2.1 30 r1 HX.out.2.2.2.2.1)
  have HH' := Lib.hid (r13heavy (c := c') (HX.out.2.1.below hb1' (Nat.le_refl _) (Nat.le_refl _)) HX.out.2.2.2.1 30 r2 HX.out.2.2.2.2.2.1)
  have HB := Lib.hid hb1'
  clear hb1'
  go_wp2_with fail
  refine HH.out.mono ?_
  rintro e w' ⟨rfl, rfl⟩
  clear HH
  cases r1 with
  | true => (go_wp2_with fail); go_ret; exact ⟨rfl, HB.out⟩
  | false =>
    cases b1 with
    | true => (go_wp2_with fail); go_ret; exact ⟨rfl, HB.out⟩
    | false =>
      cases b2 with
      | true => (go_wp2_with fail); go_ret; exact ⟨rfl, HB.out⟩
      | false =>
        cases r2 with
        | false => cases hor
        | true =>
          go_wp2_with fail
          refine HH'.out.mono ?_
          rintro e w' ⟨rfl, rfl⟩
          go_wp2_with fail
          go_ret
          exact ⟨rfl, HB.out⟩
set_option maxRecDepth 1000000 in
set_option maxHeartbeats 4000000 in
theorem editDoes_form {w : World} {A A' : Option Addr} {c c' n n' : Nat} {l : List ActT} (k : Nat) (hT : Tz w) (hA : ActsT w w.heap.size A l) {L : List Raw} (hL : RwL w w.heap.size A' L) (hn : l.length = n) (hn' : L.length = n') (hh : heavyA 30 l = false) (hh' : heavyC 30 L = false) (h1 : 1 ≤ k) (h16 : k ≤ 16) (hR : ¬ Tr.RightP (k : Int) L) :
    Calls Tryz.prog 5 #[.int .i64 (k : Int), .slice A n c, .slice A' n' c'] w fun e w' => e = .returned (.bool true) ∧ Below w.heap.size w w' := by
  have hf := heavyA_few hh
  have hf' := heavyC_few hh'
  rw [hn] at hf
  have HX := Lib.hid (And.intro hA (And.intro hL (And.intro hh (And.intro hh' (And.intro hT (And.intro h1 (And.intro h16 (And.intro hn (And.intro hn' (And.intro hf hf'))))))))))
  have HQ := Lib.hid hR
  have d1 : decide ((k : Int) < 1) = false := decide_eq_false (by omega)
  have d2 : decide ((16 : Int) < (k : Int)) = false := decide_eq_false (by omega)
  have d2' : decide (16 < k) = false := decide_eq_false (by omega)
  have hn9 : (n : Int) ≤ 30 := by omega
  have hn9' : (n' : Int) ≤ 30 := by rw [hn'] at hf'; omega
  clear hT hA hL hn hn' hh hh' h1 h16 hR hf hf'
  go_enter Tryz.func5, Tryz.ntmps5
  go_wp2_with fail
  refine (awake13_c w).mono ?_
  rintro e w0 ⟨rfl, hb0⟩
  have HH := Lib.hid (rheavy7_c (c := c) (HX.out.1.below hb0 (Nat.le_refl _) (Nat.le_refl _)) (by have h := HX.out.2.2.2.2.2.2.2.2.2.1; have h2 := HX.out.2.2.2.2.2.2.2.1; unfold maxLen; omega) 30 false HX.out.2.2.1)
  have HH' := Lib.hid (r13heavy (c := c') (HX.out.2.1.below hb0 (Nat.le_refl _) (Nat.le_refl _)) (by have h := HX.out.2.2.2.2.2.2.2.2.2.2; unfold maxLen; omega) 30 false HX.out.2.2.2.1)
  have HG := Lib.hid (grown_c (w := w0) (c := c) HX.out.2.2.2.2.2.1 HX.out.2.2.2.2.2.2.1 (HX.out.1.below hb0 (Nat.le_refl _) hb0.size) (Nat.le_refl _) (by have h := HX.out.2.2.2.2.2.2.2.2.2.1; have h2 := HX.out.2.2.2.2.2.2.2.1; omega))
  rw [HX.out.2.2.2.2.2.2.2.1] at HH HG
  rw [HX.out.2.2.2.2.2.2.2.2.1] at HH'
  have HB0 := Lib.hid hb0
  clear hb0
  go_wp2_with fail
  refine HH.out.mono ?_
  rintro e w' ⟨rfl, rfl⟩
  clear HH
  go_wp2_with fail
  refine HH'.out.mono ?_
  rintro e w' ⟨rfl, rfl⟩
  clear HH'
  go_wp2_with fail
  refine HG.out.mono ?_
  rintro e w3 ⟨b, o, D, d, rfl, hd, hents, hb3⟩
  have hst : DoSt w w3 w0.heap.size b k o D d n A' L := ⟨hd, Below.andThen HB0.out hb3, (HX.out.2.1.below HB0.out (Nat.le_refl _) HB0.out.size).below hb3 (Nat.le_refl _) (Nat.le_refl _)⟩
  have HS3 := Lib.hid hst
  have HE := Lib.hid hents
  obtain ⟨N, hN⟩ : ∃ N, (Tr.entsO o).length = N := ⟨_, rfl⟩
  have HN := Lib.hid hN
  rw [hN]
  have hfew : N ≤ 30 := by have h := hd.few; rw [hN] at h; omega
  have HF := Lib.hid hfew
  clear hd hents hb3 hst hN hfew HG
  go_wp2_with fail
  refine (r13right (k : Int) (c := c') (n := n') HS3.out.rw (Nat.le_refl _) HX.out.2.2.2.2.2.2.2.2.1 (by omega) (r := false) (by simpa using HQ.out)).mono ?_
  rintro e w4 ⟨rfl, hb4⟩
  have HS4 := Lib.hid (HS3.out.below hb4)
  clear hb4
  go_wp2_with fail
  refine (ed_fits_form (c := c') (n := n') HS4.out.1.tree HS4.out.rw HX.out.2.2.2.2.2.2.2.2.1 (by omega) HQ.out).mono ?_
  rintro e w5 ⟨rfl, hb5⟩
  have HS5 := Lib.hid (HS4.out.below hb5)
  clear hb5
  go_wp2_with fail
  refine (ed_do_form (c := c') (n := n') HS5.out.1.tree HS5.out.rw HX.out.2.2.2.2.2.2.2.2.1 (by omega) HQ.out).mono ?_
  rintro e w6 ⟨rfl, hb6⟩
  have HS6 := Lib.hid (HS5.out.below hb6)
  clear hb6
  go_wp2_with fail
  refine (ed_right (k : Int) (c := c') (n := n') HS6.out.rw (Nat.le_refl _) HX.out.2.2.2.2.2.2.2.2.1 (by omega) (r := false) (by simpa using HQ.out)).mono ?_
  rintro e w7 ⟨rfl, hb7⟩
  have HS7 := Lib.hid (HS6.out.below hb7)
  clear hb7
  go_wp2_with fail
  refine (ed_undo (c := c') (n := n') HS7.out.rw HX.out.2.2.2.2.2.2.2.2.1 (by omega) (heavyC_each HX.out.2.2.2.1)).mono ?_
  rintro e w8 ⟨X8, x8, rfl, hu8, hb8⟩
  have HS8 := Lib.hid (HS7.out.below hb8)
  have HU8 := Lib.hid hu8
  clear hu8
  clear hb8
  go_wp2_with fail
  refine (rswapR_c (c := c') (n := n') HS8.out.rw HX.out.2.2.2.2.2.2.2.2.1 (by omega)).mono ?_
  rintro e w9 ⟨X9, x9, rfl, hu9, hb9⟩
  have HS9 := Lib.hid (HS8.out.below hb9)
  have HU9 := Lib.hid hu9
  have HV9 := Lib.hid (HU8.out.below hb9 (Nat.le_refl _) hb9.size)
  clear hu9
  clear hb9
  go_wp2_with fail
  refine (rsameR_c (n := n') HV9.out HU9.out (by rw [List.length_map]; exact HX.out.2.2.2.2.2.2.2.2.1) (by omega)).mono ?_
  rintro e w10 ⟨rfl, hb10⟩
  have HS10 := Lib.hid (HS9.out.below hb10)
  clear hb10
  go_wp2_with fail
  go_ret
  exact ⟨rfl, HS10.out.2.1⟩
set_option maxRecDepth 1000000 in
set_option maxHeartbeats 4000000 in
theorem editDoes_no {w : World} {A A' : Option Addr} {c c' n n' : Nat} {l : List ActT} (k : Nat) (hT : Tz w) (hA : ActsT w w.heap.size A l) {C : List Chg} (hL : RwL w w.heap.size A' (C.map Tr.rawC)) (hC : Tr.CL k C) (hn : l.length = n) (hn' : (C.map Tr.rawC).length = n') (hh : heavyA 30 l = false) (hh' : heavyC 30 (C.map Tr.rawC) = false) (h1 : 1 ≤ k) (h16 : k ≤ 16) (hF : ¬ Tr.FitsL (l.foldl (actE k) []) C) :
    Calls Tryz.prog 5 #[.int .i64 (k : Int), .slice A n c, .slice A' n' c'] w fun e w' => e = .returned (.bool true) ∧ Below w.heap.size w w' := by
  have hf := heavyA_few hh
  have hf' := heavyC_few hh'
  rw [hn] at hf
  have HX := Lib.hid (And.intro hA (And.intro hL (And.intro hh (And.intro hh' (And.intro hT (And.intro h1 (And.intro h16 (And.intro hn (And.intro hn' (And.intro hf hf'))))))))))
  have HQ := Lib.hid (And.intro hC hF)
  have d1 : decide ((k : Int) < 1) = false := decide_eq_false (by omega)
  have d2 : decide ((16 : Int) < (k : Int)) = false := decide_eq_false (by omega)
  have d2' : decide (16 < k) = false := decide_eq_false (by omega)
  have hn9 : (n : Int) ≤ 30 := by omega
  have hn9' : (n' : Int) ≤ 30 := by rw [hn'] at hf'; omega
  clear hT hA hL hn hn' hh hh' h1 h16 hC hF hf hf'
  go_enter Tryz.func5, Tryz.ntmps5
  go_wp2_with fail
  refine (awake13_c w).mono ?_
  rintro e w0 ⟨rfl, hb0⟩
  have HH := Lib.hid (rheavy7_c (c := c) (HX.out.1.below hb0 (Nat.le_refl _) (Nat.le_refl _)) (by have h := HX.out.2.2.2.2.2.2.2.2.2.1; have h2 := HX.out.2.2.2.2.2.2.2.1; unfold maxLen; omega) 30 false HX.out.2.2.1)
  have HH' := Lib.hid (r13heavy (c := c') (HX.out.2.1.below hb0 (Nat.le_refl _) (Nat.le_refl _)) (by have h := HX.out.2.2.2.2.2.2.2.2.2.2; unfold maxLen; omega) 30 false HX.out.2.2.2.1)
  have HG := Lib.hid (grown_c (w := w0) (c := c) HX.out.2.2.2.2.2.1 HX.out.2.2.2.2.2.2.1 (HX.out.1.below hb0 (Nat.le_refl _) hb0.size) (Nat.le_refl _) (by have h := HX.out.2.2.2.2.2.2.2.2.2.1; have h2 := HX.out.2.2.2.2.2.2.2.1; omega))
  rw [HX.out.2.2.2.2.2.2.2.1] at HH HG
  rw [HX.out.2.2.2.2.2.2.2.2.1] at HH'
  have HB0 := Lib.hid hb0
  clear hb0
  go_wp2_with fail
  refine HH.out.mono ?_
  rintro e w' ⟨rfl, rfl⟩
  clear HH
  go_wp2_with fail
  refine HH'.out.mono ?_
  rintro e w' ⟨rfl, rfl⟩
  clear HH'
  go_wp2_with fail
  refine HG.out.mono ?_
  rintro e w3 ⟨b, o, D, d, rfl, hd, hents, hb3⟩
  have hst : DoSt w w3 w0.heap.size b k o D d n A' (C.map Tr.rawC) := ⟨hd, Below.andThen HB0.out hb3, (HX.out.2.1.below HB0.out (Nat.le_refl _) HB0.out.size).below hb3 (Nat.le_refl _) (Nat.le_refl _)⟩
  have HS3 := Lib.hid hst
  have HE := Lib.hid hents
  obtain ⟨N, hN⟩ : ∃ N, (Tr.entsO o).length = N := ⟨_, rfl⟩
  have HN := Lib.hid hN
  rw [hN]
  have hfew : N ≤ 30 := by have h := hd.few; rw [hN] at h; omega
  have HF := Lib.hid hfew
  clear hd hents hb3 hst hN hfew HG
  have hnf : ¬ Tr.FitsL (Tr.entsO o) C := by rw [HE.out]; exact HQ.out.2
  have HNF := Lib.hid hnf
  clear hnf
  obtain ⟨z0, d0⟩ := entsO_zs (k := k) (o := o) HS3.out.1.wf
  have HZ := Lib.hid (And.intro z0 d0)
  clear z0 d0
  go_wp2_with fail
  refine (r13right (k : Int) (c := c') (n := n') HS3.out.rw (Nat.le_refl _) HX.out.2.2.2.2.2.2.2.2.1 (by omega) (r := true) (by simpa using HQ.out.1.right HX.out.2.2.2.2.2.1 HX.out.2.2.2.2.2.2.1)).mono ?_
  rintro e w4 ⟨rfl, hb4⟩
  have HS4 := Lib.hid (HS3.out.below hb4)
  clear hb4
  go_wp2_with fail
  refine (ed_fits (c := c') (n := n') HS4.out.1.tree HS4.out.rw HQ.out.1 (by have h := HX.out.2.2.2.2.2.2.2.2.1; rw [List.length_map] at h; exact h) (by omega) (r := false) (by simpa using HNF.out)).mono ?_
  rintro e w5 ⟨rfl, hb5⟩
  have HS5 := Lib.hid (HS4.out.below hb5)
  clear hb5
  go_wp2_with fail
  refine (ed_do_no (c := c') (n := n') HS5.out.1.tree HS5.out.rw HQ.out.1 (by have h := HX.out.2.2.2.2.2.2.2.2.1; rw [List.length_map] at h; exact h) (by omega) HNF.out).mono ?_
  rintro e w6 ⟨rfl, hb6⟩
  have HS6 := Lib.hid (HS5.out.below hb6)
  clear hb6
  go_wp2_with fail
  refine (ed_right (k : Int) (c := c') (n := n') HS6.out.rw (Nat.le_refl _) HX.out.2.2.2.2.2.2.2.2.1 (by omega) (r := true) (by simpa using HQ.out.1.right HX.out.2.2.2.2.2.1 HX.out.2.2.2.2.2.2.1)).mono ?_
  rintro e w7 ⟨rfl, hb7⟩
  have HS7 := Lib.hid (HS6.out.below hb7)
  clear hb7
  go_wp2_with fail
  refine (ed_undo (c := c') (n := n') HS7.out.rw HX.out.2.2.2.2.2.2.2.2.1 (by omega) (heavyC_each HX.out.2.2.2.1)).mono ?_
  rintro e w8 ⟨X8, x8, rfl, hu8, hb8⟩
  have HS8 := Lib.hid (HS7.out.below hb8)
  have HU8 := Lib.hid hu8
  clear hu8
  clear hb8
  go_wp2_with fail
  refine (rswapR_c (c := c') (n := n') HS8.out.rw HX.out.2.2.2.2.2.2.2.2.1 (by omega)).mono ?_
  rintro e w9 ⟨X9, x9, rfl, hu9, hb9⟩
  have HS9 := Lib.hid (HS8.out.below hb9)
  have HU9 := Lib.hid hu9
  have HV9 := Lib.hid (HU8.out.below hb9 (Nat.le_refl _) hb9.size)
  clear hu9
  clear hb9
  go_wp2_with fail
  refine (rsameR_c (n := n') HV9.out HU9.out (by rw [List.length_map]; exact HX.out.2.2.2.2.2.2.2.2.1) (by omega)).mono ?_
  rintro e w10 ⟨rfl, hb10⟩
  have HS10 := Lib.hid (HS9.out.below hb10)
  clear hb10
  go_wp2_with fail
  refine (r13fits_c (c := d) (c' := c') (n := n') HZ.out.1 HZ.out.2 HS10.out.1.list HN.out (by have := HF.out; omega) HS10.out.2.2 HQ.out.1 (by have h := HX.out.2.2.2.2.2.2.2.2.1; rw [List.length_map] at h; exact h) (by omega) HX.out.2.2.2.2.2.1 HX.out.2.2.2.2.2.2.1 (r := false) (by simpa using HNF.out)).mono ?_
  rintro e w' ⟨rfl, rfl⟩
  go_wp2_with fail
  go_ret
  exact ⟨rfl, HS10.out.2.1⟩
set_option maxRecDepth 1000000 in
set_option maxHeartbeats 4000000 in
theorem editDoes_yes {w : World} {A A' : Option Addr} {c c' n n' : Nat} {l : List ActT} (k : Nat) (hT : Tz w) (hA : ActsT w w.heap.size A l) {C : List Chg} (hL : RwL w w.heap.size A' (C.map Tr.rawC)) (hC : Tr.CL k C) (hn : l.length = n) (hn' : (C.map Tr.rawC).length = n') (hh : heavyA 30 l = false) (hh' : heavyC 30 (C.map Tr.rawC) = false) (h1 : 1 ≤ k) (h16 : k ≤ 16) (hF : Tr.FitsL (l.foldl (actE k) []) C) :
    Calls Tryz.prog 5 #[.int .i64 (k : Int), .slice A n c, .slice A' n' c'] w fun e w' => e = .returned (.bool true) ∧ Below w.heap.size w w' := by
  have hf := heavyA_few hh
  have hf' := heavyC_few hh'
  rw [hn] at hf
  have HX := Lib.hid (And.intro hA (And.intro hL (And.intro hh (And.intro hh' (And.intro hT (And.intro h1 (And.intro h16 (And.intro hn (And.intro hn' (And.intro hf hf'))))))))))
  have HQ := Lib.hid (And.intro hC hF)
  have d1 : decide ((k : Int) < 1) = false := decide_eq_false (by omega)
  have d2 : decide ((16 : Int) < (k : Int)) = false := decide_eq_false (by omega)
  have d2' : decide (16 < k) = false := decide_eq_false (by omega)
  have hn9 : (n : Int) ≤ 30 := by omega
  have hn9' : (n' : Int) ≤ 30 := by rw [hn'] at hf'; omega
  clear hT hA hL hn hn' hh hh' h1 h16 hC hF hf hf'
  go_enter Tryz.func5, Tryz.ntmps5
  go_wp2_with fail
  refine (awake13_c w).mono ?_
  rintro e w0 ⟨rfl, hb0⟩
  have HH := Lib.hid (rheavy7_c (c := c) (HX.out.1.below hb0 (Nat.le_refl _) (Nat.le_refl _)) (by have h := HX.out.2.2.2.2.2.2.2.2.2.1; have h2 := HX.out.2.2.2.2.2.2.2.1; unfold maxLen; omega) 30 false HX.out.2.2.1)
  have HH' := Lib.hid (r13heavy (c := c') (HX.out.2.1.below hb0 (Nat.le_refl _) (Nat.le_refl _)) (by have h := HX.out.2.2.2.2.2.2.2.2.2.2; unfold maxLen; omega) 30 false HX.out.2.2.2.1)
  have HG := Lib.hid (grown_c (w := w0) (c := c) HX.out.2.2.2.2.2.1 HX.out.2.2.2.2.2.2.1 (HX.out.1.below hb0 (Nat.le_refl _) hb0.size) (Nat.le_refl _) (by have h := HX.out.2.2.2.2.2.2.2.2.2.1; have h2 := HX.out.2.2.2.2.2.2.2.1; omega))
  rw [HX.out.2.2.2.2.2.2.2.1] at HH HG
  rw [HX.out.2.2.2.2.2.2.2.2.1] at HH'
  have HB0 := Lib.hid hb0
  clear hb0
  go_wp2_with fail
  refine HH.out.mono ?_
  rintro e w' ⟨rfl, rfl⟩
  clear HH
  go_wp2_with fail
  refine HH'.out.mono ?_
  rintro e w' ⟨rfl, rfl⟩
  clear HH'
  go_wp2_with fail
  refine HG.out.mono ?_
  rintro e w3 ⟨b, o, D, d, rfl, hd, hents, hb3⟩
  have hst : DoSt w w3 w0.heap.size b k o D d n A' (C.map Tr.rawC) := ⟨hd, Below.andThen HB0.out hb3, (HX.out.2.1.below HB0.out (Nat.le_refl _) HB0.out.size).below hb3 (Nat.le_refl _) (Nat.le_refl _)⟩
  have HS3 := Lib.hid hst
  have HE := Lib.hid hents
  obtain ⟨N, hN⟩ : ∃ N, (Tr.entsO o).length = N := ⟨_, rfl⟩
  have HN := Lib.hid hN
  rw [hN]
  have hfew : N ≤ 30 := by have h := hd.few; rw [hN] at h; omega
  have HF := Lib.hid hfew
  clear hd hents hb3 hst hN hfew HG
  have hnf : Tr.FitsL (Tr.entsO o) C := by rw [HE.out]; exact HQ.out.2
  have HNF := Lib.hid hnf
  obtain ⟨z0, d0⟩ := entsO_zs (k := k) (o := o) HS3.out.1.wf
  have HUF := Lib.hid (Tr.undo_fits z0 d0 HQ.out.1 hnf)
  have hdl := (Tr.doL_zd z0 d0 HQ.out.1).2.2
  rw [HN.out] at hdl
  have hCl : C.length = n' := (by have h := HX.out.2.2.2.2.2.2.2.2.1; rw [List.length_map] at h; exact h)
  rw [hCl] at hdl
  have HDL := Lib.hid hdl
  have HZ := Lib.hid (And.intro z0 d0)
  have hsw : (C.map Tr.rawC).map Tr.swapR = (C.map Tr.swapC).map Tr.rawC := by rw [List.map_map, List.map_map]; rfl
  have HSW := Lib.hid hsw
  clear hnf z0 d0 hdl hCl hsw
  go_wp2_with fail
  refine (r13right (k : Int) (c := c') (n := n') HS3.out.rw (Nat.le_refl _) HX.out.2.2.2.2.2.2.2.2.1 (by omega) (r := true) (by simpa using HQ.out.1.right HX.out.2.2.2.2.2.1 HX.out.2.2.2.2.2.2.1)).mono ?_
  rintro e w4 ⟨rfl, hb4⟩
  have HS4 := Lib.hid (HS3.out.below hb4)
  clear hb4
  go_wp2_with fail
  refine (ed_fits (c := c') (n := n') HS4.out.1.tree HS4.out.rw HQ.out.1 (by have h := HX.out.2.2.2.2.2.2.2.2.1; rw [List.length_map] at h; exact h) (by omega) (r := true) (by simpa using HNF.out)).mono ?_
  rintro e w5 ⟨rfl, hb5⟩
  have HS5 := Lib.hid (HS4.out.below hb5)
  clear hb5
  go_wp2_with fail
  refine (ed_do (c := c') (n := n') HS5.out.1.tree HS5.out.rw HQ.out.1 (by have h := HX.out.2.2.2.2.2.2.2.2.1; rw [List.length_map] at h; exact h) (by omega) (by rw [HN.out]; have := HF.out; omega) HNF.out).mono ?_
  rintro e w6 ⟨b2, o2, rfl, ht2, he2, hz2, hp2, hb6⟩
  have HS6 := Lib.hid (HS5.out.below hb6)
  have HT6 := Lib.hid ht2
  have HE2 := Lib.hid (And.intro he2 (And.intro hz2 (fun h => Nat.lt_of_lt_of_le HS5.out.1.tree.1.1 (hp2 h))))
  clear ht2 he2 hz2 hp2
  clear hb6
  go_wp2_with fail
  refine (ed_right (k : Int) (c := c') (n := n') HS6.out.rw (Nat.le_refl _) HX.out.2.2.2.2.2.2.2.2.1 (by omega) (r := true) (by simpa using HQ.out.1.right HX.out.2.2.2.2.2.1 HX.out.2.2.2.2.2.2.1)).mono ?_
  rintro e w7 ⟨rfl, hb7⟩
  have HS7 := Lib.hid (HS6.out.below hb7)
  have HT7 := Lib.hid (HT6.out.below hb7 (Nat.le_refl _))
  clear hb7
  go_wp2_with fail
  refine (ed_undo (c := c') (n := n') HS7.out.rw HX.out.2.2.2.2.2.2.2.2.1 (by omega) (heavyC_each HX.out.2.2.2.1)).mono ?_
  rintro e w8 ⟨X8, x8, rfl, hu8, hb8⟩
  have HS8 := Lib.hid (HS7.out.below hb8)
  have HU8 := Lib.hid hu8
  clear hu8
  have HT8 := Lib.hid (HT7.out.below hb8 (Nat.le_refl _))
  clear hb8
  go_wp2_with fail
  refine (rswapR_c (c := c') (n := n') HS8.out.rw HX.out.2.2.2.2.2.2.2.2.1 (by omega)).mono ?_
  rintro e w9 ⟨X9, x9, rfl, hu9, hb9⟩
  have HS9 := Lib.hid (HS8.out.below hb9)
  have HU9 := Lib.hid hu9
  have HV9 := Lib.hid (HU8.out.below hb9 (Nat.le_refl _) hb9.size)
  clear hu9
  have HT9 := Lib.hid (HT8.out.below hb9 (Nat.le_refl _))
  clear hb9
  go_wp2_with fail
  refine (rsameR_c (n := n') HV9.out HU9.out (by rw [List.length_map]; exact HX.out.2.2.2.2.2.2.2.2.1) (by omega)).mono ?_
  rintro e w10 ⟨rfl, hb10⟩
  have HS10 := Lib.hid (HS9.out.below hb10)
  have HT10 := Lib.hid (HT9.out.below hb10 (Nat.le_refl _))
  clear hb10
  go_wp2_with fail
  refine (r13fits_c (c := d) (c' := c') (n := n') HZ.out.1 HZ.out.2 HS10.out.1.list HN.out (by have := HF.out; omega) HS10.out.2.2 HQ.out.1 (by have h := HX.out.2.2.2.2.2.2.2.2.1; rw [List.length_map] at h; exact h) (by omega) HX.out.2.2.2.2.2.1 HX.out.2.2.2.2.2.2.1 (r := true) (by simpa using HNF.out)).mono ?_
  rintro e w' ⟨rfl, rfl⟩
  by_cases hz : n' = 0
  · subst hz
    have hbe := HE2.out.2.1 rfl
    subst hbe
    have hpe : ∀ w', (binOp .eql 29 (.pointer (some ⟨b2, 0, none⟩)) (.pointer (some ⟨b2, 0, none⟩))).run Tryz.prog w' = .ok (.bool true) w' := fun w' => tptr_eq w' _
    go_wp2_with fail
    refine (r13do_c (c := d) (c' := c') (n := 0) HZ.out.1 HZ.out.2 HS10.out.1.list (Nat.le_refl _) HS10.out.1.old HN.out (by have := HF.out; omega) (by have h := HS10.out.1.cap; rw [HN.out] at h; exact h) HS10.out.2.2 HQ.out.1 (by have h := HX.out.2.2.2.2.2.2.2.2.1; rw [List.length_map] at h; exact h) (by omega) HX.out.2.2.2.2.2.1 HX.out.2.2.2.2.2.2.1).mono ?_
    rintro e w11 ⟨D3, d3, N3, rfl, hl3, hE3, hc3, hb11⟩
    have HS11 := Lib.hid (HS10.out.below hb11)
    have HL3 := Lib.hid (And.intro hl3 (And.intro hE3 hc3))
    clear hl3 hE3 hc3
    have HT11 := Lib.hid (HT10.out.below hb11 (Nat.le_refl _))
    clear hb11
    go_wp2_with fail
    refine (is7_at (k := k) HT11.out (HS11.out.tz HX.out.2.2.2.2.1) HE2.out.1 (HL3.out.2.1.ents HS11.out.1.old (Nat.le_refl _)) HL3.out.1 HL3.out.2.2 (by rw [← HL3.out.1]; have h := HDL.out; have := HF.out; omega)).mono ?_
    rintro e w12 ⟨rfl, hb12⟩
    have HS12 := Lib.hid (HS11.out.below hb12)
    have HT12 := Lib.hid (HT11.out.below hb12 (Nat.le_refl _))
    clear hb12
    go_wp2_with fail
    refine (is7_at (k := k) HS12.out.1.tree (HS12.out.tz HX.out.2.2.2.2.1) rfl (HS12.out.1.list.ents HS12.out.1.old (Nat.le_refl _)) HN.out (by have h := HS12.out.1.cap; rw [HN.out] at h; exact h) (by have := HF.out; omega)).mono ?_
    rintro e w13 ⟨rfl, hb13⟩
    have HS13 := Lib.hid (HS12.out.below hb13)
    have HT13 := Lib.hid (HT12.out.below hb13 (Nat.le_refl _))
    clear hb13
    go_wp2_with fail
    refine (ed_undo (c := c') (n := 0) HS13.out.rw HX.out.2.2.2.2.2.2.2.2.1 (by omega) (heavyC_each HX.out.2.2.2.1)).mono ?_
    rintro e w14 ⟨X14, x14, rfl, hu14, hb14⟩
    have HS14 := Lib.hid (HS13.out.below hb14)
    have HU14 := Lib.hid hu14
    clear hu14
    have HT14 := Lib.hid (HT13.out.below hb14 (Nat.le_refl _))
    clear hb14
    have hu14 := HU14.out
    rw [HSW.out] at hu14
    go_wp2_with fail
    refine (ed_do (c := x14) (n := 0) HT14.out hu14 HQ.out.1.swap (by rw [List.length_map]; exact (by have h := HX.out.2.2.2.2.2.2.2.2.1; rw [List.length_map] at h; exact h)) (by omega) (by rw [HE2.out.1]; have h := HDL.out; have := HF.out; omega) (by rw [HE2.out.1]; exact HUF.out.1)).mono ?_
    rintro e w15 ⟨b4, o4, rfl, ht4, he4, -, -, hb15⟩
    have HS15 := Lib.hid (HS14.out.below hb15)
    have HT15 := Lib.hid ht4
    have HE4 := Lib.hid he4
    clear ht4 he4 hu14
    clear hb15
    go_wp2_with fail
    refine (is7_at (k := k) HT15.out (HS15.out.tz HX.out.2.2.2.2.1) (by rw [HE4.out, HE2.out.1]; exact HUF.out.2) (HS15.out.1.list.ents HS15.out.1.old (Nat.le_refl _)) HN.out (by have h := HS15.out.1.cap; rw [HN.out] at h; exact h) (by have := HF.out; omega)).mono ?_
    rintro e w16 ⟨rfl, hb16⟩
    have HS16 := Lib.hid (HS15.out.below hb16)
    clear hb16
    go_wp2_with fail
    go_ret
    exact ⟨rfl, HS16.out.2.1⟩
  · have hlt := HE2.out.2.2 (by omega)
    have hpe : (binOp .eql 29 (.pointer (some ⟨b2, 0, none⟩)) (.pointer (some ⟨b, 0, none⟩))).run Tryz.prog w10 = .ok (.bool false) w10 := tptr_ne HT10.out.2 HS10.out.1.tree.2 (by omega)
    have hn0 : ((n' : Int) == 0) = false := by rw [beq_eq_false_iff_ne]; omega
    have hn0' : (n' == 0) = false := by rw [beq_eq_false_iff_ne]; omega
    clear hz hlt
    go_wp2_with fail
    refine (r13do_c (c := d) (c' := c') (n := n') HZ.out.1 HZ.out.2 HS10.out.1.list (Nat.le_refl _) HS10.out.1.old HN.out (by have := HF.out; omega) (by have h := HS10.out.1.cap; rw [HN.out] at h; exact h) HS10.out.2.2 HQ.out.1 (by have h := HX.out.2.2.2.2.2.2.2.2.1; rw [List.length_map] at h; exact h) (by omega) HX.out.2.2.2.2.2.1 HX.out.2.2.2.2.2.2.1).mono ?_
    rintro e w11 ⟨D3, d3, N3, rfl, hl3, hE3, hc3, hb11⟩
    have HS11 := Lib.hid (HS10.out.below hb11)
    have HL3 := Lib.hid (And.intro hl3 (And.intro hE3 hc3))
    clear hl3 hE3 hc3
    have HT11 := Lib.hid (HT10.out.below hb11 (Nat.le_refl _))
    clear hb11
    go_wp2_with fail
    refine (is7_at (k := k) HT11.out (HS11.out.tz HX.out.2.2.2.2.1) HE2.out.1 (HL3.out.2.1.ents HS11.out.1.old (Nat.le_refl _)) HL3.out.1 HL3.out.2.2 (by rw [← HL3.out.1]; have h := HDL.out; have := HF.out; omega)).mono ?_
    rintro e w12 ⟨rfl, hb12⟩
    have HS12 := Lib.hid (HS11.out.below hb12)
    have HT12 := Lib.hid (HT11.out.below hb12 (Nat.le_refl _))
    clear hb12
    go_wp2_with fail
    refine (is7_at (k := k) HS12.out.1.tree (HS12.out.tz HX.out.2.2.2.2.1) rfl (HS12.out.1.list.ents HS12.out.1.old (Nat.le_refl _)) HN.out (by have h := HS12.out.1.cap; rw [HN.out] at h; exact h) (by have := HF.out; omega)).mono ?_
    rintro e w13 ⟨rfl, hb13⟩
    have HS13 := Lib.hid (HS12.out.below hb13)
    have HT13 := Lib.hid (HT12.out.below hb13 (Nat.le_refl _))
    clear hb13
    go_wp2_with fail
    refine (ed_undo (c := c') (n := n') HS13.out.rw HX.out.2.2.2.2.2.2.2.2.1 (by omega) (heavyC_each HX.out.2.2.2.1)).mono ?_
    rintro e w14 ⟨X14, x14, rfl, hu14, hb14⟩
    have HS14 := Lib.hid (HS13.out.below hb14)
    have HU14 := Lib.hid hu14
    clear hu14
    have HT14 := Lib.hid (HT13.out.below hb14 (Nat.le_refl _))
    clear hb14
    have hu14 := HU14.out
    rw [HSW.out] at hu14
    go_wp2_with fail
    refine (ed_do (c := x14) (n := n') HT14.out hu14 HQ.out.1.swap (by rw [List.length_map]; exact (by have h := HX.out.2.2.2.2.2.2.2.2.1; rw [List.length_map] at h; exact h)) (by omega) (by rw [HE2.out.1]; have h := HDL.out; have := HF.out; omega) (by rw [HE2.out.1]; exact HUF.out.1)).mono ?_
    rintro e w15 ⟨b4, o4, rfl, ht4, he4, -, -, hb15⟩
    have HS15 := Lib.hid (HS14.out.below hb15)
    have HT15 := Lib.hid ht4
    have HE4 := Lib.hid he4
    clear ht4 he4 hu14
    clear hb15
    go_wp2_with fail
    refine (is7_at (k := k) HT15.out (HS15.out.tz HX.out.2.2.2.2.1) (by rw [HE4.out, HE2.out.1]; exact HUF.out.2) (HS15.out.1.list.ents HS15.out.1.old (Nat.le_refl _)) HN.out (by have h := HS15.out.1.cap; rw [HN.out] at h; exact h) (by have := HF.out; omega)).mono ?_
    rintro e w16 ⟨rfl, hb16⟩
    have HS16 := Lib.hid (HS15.out.below hb16)
    clear hb16
    go_wp2_with fail
    go_ret
    exact ⟨rfl, HS16.out.2.1⟩
theorem editDoes_c {w : World} {A A' : Option Addr} {c c' : Nat} {l : List ActT} {L : List Raw} (k : Int) (hT : Tz w) (hA : ActsT w w.heap.size A l) (hl : l.length ≤ maxLen) (hL : RwL w w.heap.size A' L) (hl' : L.length ≤ maxLen) :
    Calls Tryz.prog 5 #[.int .i64 k, .slice A l.length c, .slice A' L.length c'] w fun e w' => e = .returned (.bool true) ∧ Below w.heap.size w w' := by
  by_cases h : (heavyA 30 l || decide (k < 1) || decide (16 < k) || heavyC 30 L) = true
  · exact editDoes_skip k hT hA hL rfl rfl hl hl' _ _ _ _ rfl rfl rfl rfl h
  · simp only [Bool.or_eq_true, decide_eq_true_eq, not_or, Bool.not_eq_true] at h
    obtain ⟨⟨⟨h1, h2⟩, h3⟩, h4⟩ := h
    obtain ⟨a, rfl⟩ : ∃ a : Nat, k = (a : Int) := ⟨k.toNat, by omega⟩
    by_cases hR : Tr.RightP (a : Int) L
    · obtain ⟨hm, hC⟩ := hR.cl hL.ok
      obtain ⟨C, hCe⟩ : ∃ C, L.map Tr.chgOf = C := ⟨_, rfl⟩
      rw [hCe] at hm hC
      subst hm
      by_cases hF : Tr.FitsL (l.foldl (actE a) []) C
      · exact editDoes_yes a hT hA hL hC rfl rfl h1 h4 (by omega) (by omega) hF
      · exact editDoes_no a hT hA hL hC rfl rfl h1 h4 (by omega) (by omega) hF
    · exact editDoes_form a hT hA hL rfl rfl h1 h4 (by omega) (by omega) hR
end Go.Proofs.YtpgkfccfabnjdaaGreatDoor
