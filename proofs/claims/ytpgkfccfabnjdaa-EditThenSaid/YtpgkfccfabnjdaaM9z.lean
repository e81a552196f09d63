import Derived.Test.YtpgkfccfabnjdaaM9v
import Derived.Test.YtpgkfccfabnjdaaM9y
import Derived.Test.YtpgkfccfabnjdaaM9s
/-
  THE LAW EditThen. Laid by wip/gen63.py.
-/
namespace Go.Proofs.Ytpgkfccfabnjdaa
open Go.ChangeShapes Go.WideShapes Go.ChangeAt Go.RowKit
open Tr (T S4 Ent Chg Raw Pc)

def EtS (w W : World) (X : List (Option Addr × List Raw)) : Prop := Below w.heap.size w W ∧ ∀ p ∈ X, RwL W W.heap.size p.1 p.2
theorem EtS.below {w W W' : World} {X : List (Option Addr × List Raw)} (h : EtS w W X) (hb : Below W.heap.size W W') : EtS w W' X := ⟨Below.andThen h.1 hb, fun p hp => (h.2 p hp).below hb (Nat.le_refl _) hb.size⟩
theorem EtS.add {w W : World} {X : List (Option Addr × List Raw)} (h : EtS w W X) {A : Option Addr} {L : List Raw} (hr : RwL W W.heap.size A L) : EtS w W ((A, L) :: X) := ⟨h.1, fun p hp => by
  rcases List.mem_cons.1 hp with e | e
  · subst e; exact hr
  · exact h.2 p e⟩
theorem EtS.get {w W : World} {X : List (Option Addr × List Raw)} (h : EtS w W X) (A : Option Addr) (L : List Raw) (hm : (A, L) ∈ X) : RwL W W.heap.size A L := h.2 _ hm
theorem few_max {L : List Raw} {n : Nat} (h : heavyC 30 L = false) (hn : L.length = n) : L.length ≤ maxLen ∧ n ≤ 30 := by
  have := heavyC_few h
  unfold maxLen
  omega

set_option maxRecDepth 100000 in
set_option maxHeartbeats 2000000 in
theorem editThen_skip {w : World} {A A' : Option Addr} {c c' n n' : Nat} {a b : List Raw} (k : Int) (hA : RwL w w.heap.size A a) (hA' : RwL w w.heap.size A' b) (hn : a.length = n) (hn' : b.length = n') (hl : n ≤ maxLen) (hl' : n' ≤ maxLen) (r1 r2 : Bool) (hh : heavyC 30 a = r1) (hh' : heavyC 30 b = r2) (hor : (r1 || r2) = true) :
    Calls Try.prog 3 #[.int .i64 k, .slice A n c, .slice A' n' c'] w fun e w' => e = .returned (.bool true) ∧ Below w.heap.size w w' := by
  subst hn hn'
  have HX := Lib.hid (And.intro hA (And.intro hA' (And.intro hl (And.intro hl' (And.intro hh hh')))))
  clear hA hA' hl hl' hh hh'
  go_enter Try.func3, Try.ntmps3
  go_wp2_with fail
  refine (awake13_c w).mono ?_
  rintro e w1 ⟨rfl, hb1'⟩
  have HH := Lib.hid (r13heavy (c := c) (HX.out.1.below hb1' (Nat.le_refl _) (Nat.le_refl _)) HX.out.2.2.1 30 r1 HX.out.2.2.2.2.1)
  have HH' := Lib.hid (r13heavy (c := c') (HX.out.2.1.below hb1' (Nat.le_refl _) (Nat.le_refl _)) HX.out.2.2.2.1 30 r2 HX.out.2.2.2.2.2)
  have HB := Lib.hid hb1'
  clear hb1'
  go_wp2_with fail
  refine HH.out.mono ?_
  rintro e w' ⟨rfl, rfl⟩
  clear HH
  cases r1 with
  | true => (go_wp2_with fail); go_ret; exact ⟨rfl, HB.out⟩
  | false =>
    cases r2 with
    | false => cases hor
    | true =>
      go_wp2_with fail
      refine HH'.out.mono ?_
      rintro e w' ⟨rfl, rfl⟩
      go_wp2_with fail
      go_ret
      exact ⟨rfl, HB.out⟩
set_option maxRecDepth 1000000 in
set_option maxHeartbeats 4000000 in
theorem editThen_form {w : World} {A A' : Option Addr} {c c' n n' : Nat} {a b : List Raw} (k : Int) (hA : RwL w w.heap.size A a) (hA' : RwL w w.heap.size A' b) (hn : a.length = n) (hn' : b.length = n') (hh : heavyC 30 a = false) (hh' : heavyC 30 b = false) (hR : ¬ (Tr.RightP k a ∧ Tr.RightP k b)) :
    Calls Try.prog 3 #[.int .i64 k, .slice A n c, .slice A' n' c'] w fun e w' => e = .returned (.bool true) ∧ Below w.heap.size w w' := by
  have HQ := Lib.hid hR
  clear hR
  have hm1 := few_max hh hn
  have hm2 := few_max hh' hn'
  have HX := Lib.hid (And.intro hA (And.intro hA' (And.intro hn (And.intro hn' (And.intro hh (And.intro hh' (And.intro hm1.1 hm2.1)))))))
  have hn9 : n ≤ 30 := hm1.2
  have hn9' : n' ≤ 30 := hm2.2
  clear hA hA' hn hn' hh hh' hm1 hm2
  go_enter Try.func3, Try.ntmps3
  go_wp2_with fail
  refine (awake13_c w).mono ?_
  rintro e w0 ⟨rfl, hb0⟩
  have HH := Lib.hid (r13heavy (c := c) (HX.out.1.below hb0 (Nat.le_refl _) (Nat.le_refl _)) HX.out.2.2.2.2.2.2.1 30 false HX.out.2.2.2.2.1)
  have HH' := Lib.hid (r13heavy (c := c') (HX.out.2.1.below hb0 (Nat.le_refl _) (Nat.le_refl _)) HX.out.2.2.2.2.2.2.2 30 false HX.out.2.2.2.2.2.1)
  rw [HX.out.2.2.1] at HH
  rw [HX.out.2.2.2.1] at HH'
  have HS0 : Hid (EtS w w0 [(A, a), (A', b)]) := Lib.hid (EtS.add (EtS.add ⟨hb0, fun p hp => (by cases hp)⟩ (HX.out.2.1.below hb0 (Nat.le_refl _) hb0.size)) (HX.out.1.below hb0 (Nat.le_refl _) hb0.size))
  clear hb0
  go_wp2_with fail
  refine HH.out.mono ?_
  rintro e w' ⟨rfl, rfl⟩
  clear HH
  go_wp2_with fail
  refine HH'.out.mono ?_
  rintro e w' ⟨rfl, rfl⟩
  clear HH'
  go_wp2_with fail
  refine (ed_then_form k (c := c) (c' := c') (HS0.out.get A a (by simp)) (HS0.out.get A' b (by simp)) HX.out.2.2.1 HX.out.2.2.2.1 (by omega) (by omega) HQ.out).mono ?_
  rintro e w1 ⟨rfl, hb1⟩
  have HS1 := Lib.hid (HS0.out.below hb1)
  clear hb1
  go_wp2_with fail
  refine (ed_apart_form k (c := c) (c' := c') (HS1.out.get A a (by simp)) (HS1.out.get A' b (by simp)) HX.out.2.2.1 HX.out.2.2.2.1 (by omega) (by omega) HQ.out).mono ?_
  rintro e w2 ⟨rfl, hb1⟩
  have HS2 := Lib.hid (HS1.out.below hb1)
  clear hb1
  go_wp2_with fail
  by_cases hra : Tr.RightP k a
  · refine (r13right k (c := c) (n := n) (HS2.out.get A a (by simp)) (Nat.le_refl _) HX.out.2.2.1 (by omega) (r := true) (by simpa using hra)).mono ?_
    rintro e w3 ⟨rfl, hb1⟩
    have HS3 := Lib.hid (HS2.out.below hb1)
    clear hb1
    go_wp2_with fail
    refine (r13right k (c := c') (n := n') (HS3.out.get A' b (by simp)) (Nat.le_refl _) HX.out.2.2.2.1 (by omega) (r := false) (by simpa using fun hrb => HQ.out ⟨hra, hrb⟩)).mono ?_
    rintro e w4 ⟨rfl, hb1⟩
    have HS4 := Lib.hid (HS3.out.below hb1)
    clear hb1
    go_wp2_with fail
    go_ret
    exact ⟨rfl, HS4.out.1⟩
  · refine (r13right k (c := c) (n := n) (HS2.out.get A a (by simp)) (Nat.le_refl _) HX.out.2.2.1 (by omega) (r := false) (by simpa using hra)).mono ?_
    rintro e w3 ⟨rfl, hb1⟩
    have HS3 := Lib.hid (HS2.out.below hb1)
    clear hb1
    go_wp2_with fail
    go_ret
    exact ⟨rfl, HS3.out.1⟩
set_option maxRecDepth 1000000 in
set_option maxHeartbeats 4000000 in
theorem editThen_no {w : World} {A A' : Option Addr} {c c' n n' : Nat} {a b : List Chg} (k : Nat) (hA : RwL w w.heap.size A (a.map Tr.rawC)) (hA' : RwL w w.heap.size A' (b.map Tr.rawC)) (hn : (a.map Tr.rawC).length = n) (hn' : (b.map Tr.rawC).length = n') (hc : n ≤ c) (hc' : n' ≤ c') (hh : heavyC 30 (a.map Tr.rawC) = false) (hh' : heavyC 30 (b.map Tr.rawC) = false) (k1 : 1 ≤ k) (k16 : k ≤ 16) (Ca : Tr.CL k a) (Cb : Tr.CL k b) (hf : (Tr.mz a b).all Tr.fitQ = false) :
    Calls Try.prog 3 #[.int .i64 (k : Int), .slice A n c, .slice A' n' c'] w fun e w' => e = .returned (.bool true) ∧ Below w.heap.size w w' := by
  have HL := Lib.hid (And.intro (show a.length = n by rw [← hn, List.length_map]) (show b.length = n' by rw [← hn', List.length_map]))
  have hap : (Tr.mz a b).all Tr.apQ = false := by
    cases h : (Tr.mz a b).all Tr.apQ with
    | false => rfl
    | true => rw [(Tr.thn_turn Ca Cb h).2.2] at hf; cases hf
  have HQ := Lib.hid (And.intro Ca (And.intro Cb (And.intro hf hap)))
  have HK := Lib.hid (And.intro k1 (And.intro k16 (And.intro hc hc')))
  clear Ca Cb hf hap k1 k16 hc hc'
  have hm1 := few_max hh hn
  have hm2 := few_max hh' hn'
  have HX := Lib.hid (And.intro hA (And.intro hA' (And.intro hn (And.intro hn' (And.intro hh (And.intro hh' (And.intro hm1.1 hm2.1)))))))
  have hn9 : n ≤ 30 := hm1.2
  have hn9' : n' ≤ 30 := hm2.2
  clear hA hA' hn hn' hh hh' hm1 hm2
  go_enter Try.func3, Try.ntmps3
  go_wp2_with fail
  refine (awake13_c w).mono ?_
  rintro e w0 ⟨rfl, hb0⟩
  have HH := Lib.hid (r13heavy (c := c) (HX.out.1.below hb0 (Nat.le_refl _) (Nat.le_refl _)) HX.out.2.2.2.2.2.2.1 30 false HX.out.2.2.2.2.1)
  have HH' := Lib.hid (r13heavy (c := c') (HX.out.2.1.below hb0 (Nat.le_refl _) (Nat.le_refl _)) HX.out.2.2.2.2.2.2.2 30 false HX.out.2.2.2.2.2.1)
  rw [HX.out.2.2.1] at HH
  rw [HX.out.2.2.2.1] at HH'
  have HS0 : Hid (EtS w w0 [(A, (a.map Tr.rawC)), (A', (b.map Tr.rawC))]) := Lib.hid (EtS.add (EtS.add ⟨hb0, fun p hp => (by cases hp)⟩ (HX.out.2.1.below hb0 (Nat.le_refl _) hb0.size)) (HX.out.1.below hb0 (Nat.le_refl _) hb0.size))
  clear hb0
  go_wp2_with fail
  refine HH.out.mono ?_
  rintro e w' ⟨rfl, rfl⟩
  clear HH
  go_wp2_with fail
  refine HH'.out.mono ?_
  rintro e w' ⟨rfl, rfl⟩
  clear HH'
  go_wp2_with fail
  refine (ed_then_no (c := c) (c' := c') HK.out.1 HK.out.2.1 (HS0.out.get A (a.map Tr.rawC) (by simp)) (HS0.out.get A' (b.map Tr.rawC) (by simp)) HQ.out.1 HQ.out.2.1 HL.out.1 HL.out.2 HK.out.2.2.1 HK.out.2.2.2 (by omega) (by omega) HQ.out.2.2.1).mono ?_
  rintro e w1 ⟨rfl, hb1⟩
  have HS1 := Lib.hid (HS0.out.below hb1)
  clear hb1
  go_wp2_with fail
  refine (ed_apart (c := c) (c' := c') HK.out.1 HK.out.2.1 (HS1.out.get A (a.map Tr.rawC) (by simp)) (HS1.out.get A' (b.map Tr.rawC) (by simp)) HQ.out.1 HQ.out.2.1 HL.out.1 HL.out.2 HK.out.2.2.1 HK.out.2.2.2 (by omega) (by omega) (r := false) HQ.out.2.2.2).mono ?_
  rintro e w2 ⟨rfl, hb1⟩
  have HS2 := Lib.hid (HS1.out.below hb1)
  clear hb1
  go_wp2_with fail
  refine (r13right (k : Int) (c := c) (n := n) (HS2.out.get A (a.map Tr.rawC) (by simp)) (Nat.le_refl _) HX.out.2.2.1 (by omega) (r := true) (by simpa using HQ.out.1.right HK.out.1 HK.out.2.1)).mono ?_
  rintro e w3 ⟨rfl, hb1⟩
  have HS3 := Lib.hid (HS2.out.below hb1)
  clear hb1
  go_wp2_with fail
  refine (r13right (k : Int) (c := c') (n := n') (HS3.out.get A' (b.map Tr.rawC) (by simp)) (Nat.le_refl _) HX.out.2.2.2.1 (by omega) (r := true) (by simpa using HQ.out.2.1.right HK.out.1 HK.out.2.1)).mono ?_
  rintro e w4 ⟨rfl, hb1⟩
  have HS4 := Lib.hid (HS3.out.below hb1)
  clear hb1
  go_wp2_with fail
  refine (r13apart_c (c := c) (c' := c') (HS4.out.get A (a.map Tr.rawC) (by simp)) (HS4.out.get A' (b.map Tr.rawC) (by simp)) (Nat.le_refl _) HQ.out.1 HQ.out.2.1 HL.out.1 HL.out.2 (by omega) (by omega) HK.out.2.1 (r := false) HQ.out.2.2.2).mono ?_
  rintro e w5 ⟨rfl, hb1⟩
  have HS5 := Lib.hid (HS4.out.below hb1)
  clear hb1
  go_wp2_with fail
  refine (r13then_c (c := c) (c' := c') (HS5.out.get A (a.map Tr.rawC) (by simp)) (HS5.out.get A' (b.map Tr.rawC) (by simp)) (Nat.le_refl _) HQ.out.1 HQ.out.2.1 HL.out.1 HL.out.2 (by omega) (by omega) HK.out.1 HK.out.2.1 (r := false) HQ.out.2.2.1).mono ?_
  rintro e w6 ⟨D, d, N, rfl, -, hb1⟩
  have HS6 := Lib.hid (HS5.out.below hb1)
  clear hb1
  go_wp2_with fail
  go_ret
  exact ⟨rfl, HS6.out.1⟩
set_option maxRecDepth 1000000 in
set_option maxHeartbeats 4000000 in
theorem editThen_yes {w : World} {A A' : Option Addr} {c c' n n' : Nat} {a b : List Chg} (k : Nat) (hA : RwL w w.heap.size A (a.map Tr.rawC)) (hA' : RwL w w.heap.size A' (b.map Tr.rawC)) (hn : (a.map Tr.rawC).length = n) (hn' : (b.map Tr.rawC).length = n') (hc : n ≤ c) (hc' : n' ≤ c') (hh : heavyC 30 (a.map Tr.rawC) = false) (hh' : heavyC 30 (b.map Tr.rawC) = false) (k1 : 1 ≤ k) (k16 : k ≤ 16) (Ca : Tr.CL k a) (Cb : Tr.CL k b) (hf : (Tr.mz a b).all Tr.fitQ = true) :
    Calls Try.prog 3 #[.int .i64 (k : Int), .slice A n c, .slice A' n' c'] w fun e w' => e = .returned (.bool true) ∧ Below w.heap.size w w' := by
  have HL := Lib.hid (And.intro (show a.length = n by rw [← hn, List.length_map]) (show b.length = n' by rw [← hn', List.length_map]))
  obtain ⟨r, hap⟩ : ∃ r, (Tr.mz a b).all Tr.apQ = r := ⟨_, rfl⟩
  obtain ⟨N, hN⟩ : ∃ N, (Tr.thn a b).length = N := ⟨_, rfl⟩
  have hb0 : (r != r) = false := by simp
  have hNl : N ≤ 60 := by
    have h1 := heavyC_few hh
    have h2 := heavyC_few hh'
    have h3 := Tr.mz_len a b
    have h4 : (Tr.thn a b).length ≤ (Tr.mz a b).length := List.length_filterMap_le _ _
    rw [List.length_map] at h1 h2
    omega
  have HQ := Lib.hid (And.intro Ca (And.intro Cb (And.intro hf (And.intro hap hN))))
  have HK := Lib.hid (And.intro k1 (And.intro k16 (And.intro hc hc')))
  clear Ca Cb hf hap k1 k16 hc hc' hN
  have hm1 := few_max hh hn
  have hm2 := few_max hh' hn'
  have HX := Lib.hid (And.intro hA (And.intro hA' (And.intro hn (And.intro hn' (And.intro hh (And.intro hh' (And.intro hm1.1 hm2.1)))))))
  have hn9 : n ≤ 30 := hm1.2
  have hn9' : n' ≤ 30 := hm2.2
  clear hA hA' hn hn' hh hh' hm1 hm2
  go_enter Try.func3, Try.ntmps3
  go_wp2_with fail
  refine (awake13_c w).mono ?_
  rintro e w0 ⟨rfl, hb0⟩
  have HH := Lib.hid (r13heavy (c := c) (HX.out.1.below hb0 (Nat.le_refl _) (Nat.le_refl _)) HX.out.2.2.2.2.2.2.1 30 false HX.out.2.2.2.2.1)
  have HH' := Lib.hid (r13heavy (c := c') (HX.out.2.1.below hb0 (Nat.le_refl _) (Nat.le_refl _)) HX.out.2.2.2.2.2.2.2 30 false HX.out.2.2.2.2.2.1)
  rw [HX.out.2.2.1] at HH
  rw [HX.out.2.2.2.1] at HH'
  have HS0 : Hid (EtS w w0 [(A, (a.map Tr.rawC)), (A', (b.map Tr.rawC))]) := Lib.hid (EtS.add (EtS.add ⟨hb0, fun p hp => (by cases hp)⟩ (HX.out.2.1.below hb0 (Nat.le_refl _) hb0.size)) (HX.out.1.below hb0 (Nat.le_refl _) hb0.size))
  clear hb0
  go_wp2_with fail
  refine HH.out.mono ?_
  rintro e w' ⟨rfl, rfl⟩
  clear HH
  go_wp2_with fail
  refine HH'.out.mono ?_
  rintro e w' ⟨rfl, rfl⟩
  clear HH'
  go_wp2_with fail
  have HT := Lib.hid (ed_then (c := c) (c' := c') HK.out.1 HK.out.2.1 (HS0.out.get A (a.map Tr.rawC) (by simp)) (HS0.out.get A' (b.map Tr.rawC) (by simp)) HQ.out.1 HQ.out.2.1 HL.out.1 HL.out.2 HK.out.2.2.1 HK.out.2.2.2 (by omega) (by omega) HQ.out.2.2.1)
  rw [HQ.out.2.2.2.2] at HT
  refine HT.out.mono ?_
  rintro e w1 ⟨D, d, rfl, hx, -, hb1⟩
  clear HT
  have HS1 := Lib.hid ((HS0.out.below hb1).add hx)
  clear hb1 hx
  go_wp2_with fail
  refine (ed_apart (c := c) (c' := c') HK.out.1 HK.out.2.1 (HS1.out.get A (a.map Tr.rawC) (by simp)) (HS1.out.get A' (b.map Tr.rawC) (by simp)) HQ.out.1 HQ.out.2.1 HL.out.1 HL.out.2 HK.out.2.2.1 HK.out.2.2.2 (by omega) (by omega) (r := r) HQ.out.2.2.2.1).mono ?_
  rintro e w2 ⟨rfl, hb1⟩
  have HS2 := Lib.hid (HS1.out.below hb1)
  clear hb1
  go_wp2_with fail
  refine (r13right (k : Int) (c := c) (n := n) (HS2.out.get A (a.map Tr.rawC) (by simp)) (Nat.le_refl _) HX.out.2.2.1 (by omega) (r := true) (by simpa using HQ.out.1.right HK.out.1 HK.out.2.1)).mono ?_
  rintro e w3 ⟨rfl, hb1⟩
  have HS3 := Lib.hid (HS2.out.below hb1)
  clear hb1
  go_wp2_with fail
  refine (r13right (k : Int) (c := c') (n := n') (HS3.out.get A' (b.map Tr.rawC) (by simp)) (Nat.le_refl _) HX.out.2.2.2.1 (by omega) (r := true) (by simpa using HQ.out.2.1.right HK.out.1 HK.out.2.1)).mono ?_
  rintro e w4 ⟨rfl, hb1⟩
  have HS4 := Lib.hid (HS3.out.below hb1)
  clear hb1
  go_wp2_with fail
  refine (r13apart_c (c := c) (c' := c') (HS4.out.get A (a.map Tr.rawC) (by simp)) (HS4.out.get A' (b.map Tr.rawC) (by simp)) (Nat.le_refl _) HQ.out.1 HQ.out.2.1 HL.out.1 HL.out.2 (by omega) (by omega) HK.out.2.1 (r := r) HQ.out.2.2.2.1).mono ?_
  rintro e w5 ⟨rfl, hb1⟩
  have HS5 := Lib.hid (HS4.out.below hb1)
  clear hb1
  go_wp2_with fail
  refine (r13then_c (c := c) (c' := c') (HS5.out.get A (a.map Tr.rawC) (by simp)) (HS5.out.get A' (b.map Tr.rawC) (by simp)) (Nat.le_refl _) HQ.out.1 HQ.out.2.1 HL.out.1 HL.out.2 (by omega) (by omega) HK.out.1 HK.out.2.1 (r := true) HQ.out.2.2.1).mono ?_
  rintro e w6 ⟨D2, d2, N2, rfl, hok, hb1⟩
  obtain ⟨hch, hN2⟩ := hok rfl
  have hNN : N2 = N := hN2.symm.trans HQ.out.2.2.2.2
  subst hNN
  have HS6 := Lib.hid ((HS5.out.below hb1).add hch.raw)
  clear hok hch hN2 hb1
  go_wp2_with fail
  cases hfb : (Tr.mz b a).all Tr.fitQ with
  | false =>
    have hrf : r = false := by
      cases r with
      | false => rfl
      | true => rw [(Tr.thn_turn HQ.out.1 HQ.out.2.1 HQ.out.2.2.2.1).1] at hfb; cases hfb
    subst hrf
    refine (ed_then_no (c := c') (c' := c) HK.out.1 HK.out.2.1 (HS6.out.get A' (b.map Tr.rawC) (by simp)) (HS6.out.get A (a.map Tr.rawC) (by simp)) HQ.out.2.1 HQ.out.1 HL.out.2 HL.out.1 HK.out.2.2.2 HK.out.2.2.1 (by omega) (by omega) hfb).mono ?_
    rintro e w7 ⟨rfl, hb1⟩
    have HS7 := Lib.hid (HS6.out.below hb1)
    clear hb1
    go_wp2_with fail
    refine (rsameR_c (n := N2) (HS7.out.get D ((Tr.thn a b).map Tr.rawC) (by simp)) (HS7.out.get D2 ((Tr.thn a b).map Tr.rawC) (by simp)) (by rw [List.length_map]; exact HQ.out.2.2.2.2) (by omega)).mono ?_
    rintro e w8 ⟨rfl, hb1⟩
    have HS8 := Lib.hid (HS7.out.below hb1)
    clear hb1
    go_wp2_with fail
    refine (ed_right (k : Int) (n := N2) (HS8.out.get D ((Tr.thn a b).map Tr.rawC) (by simp)) (Nat.le_refl _) (by rw [List.length_map]; exact HQ.out.2.2.2.2) (by omega) (r := true) (by simpa using (Tr.thn_cl HQ.out.1 HQ.out.2.1).right HK.out.1 HK.out.2.1)).mono ?_
    rintro e w9 ⟨rfl, hb1⟩
    have HS9 := Lib.hid (HS8.out.below hb1)
    clear hb1
    go_wp2_with fail
    go_ret
    exact ⟨rfl, HS9.out.1⟩
  | true =>
    cases r with
    | false =>
      refine (ed_then (c := c') (c' := c) HK.out.1 HK.out.2.1 (HS6.out.get A' (b.map Tr.rawC) (by simp)) (HS6.out.get A (a.map Tr.rawC) (by simp)) HQ.out.2.1 HQ.out.1 HL.out.2 HL.out.1 HK.out.2.2.2 HK.out.2.2.1 (by omega) (by omega) hfb).mono ?_
      rintro e w7 ⟨D3, d3, rfl, hy, -, hb1⟩
      have HS7 := Lib.hid (HS6.out.below hb1)
      clear hb1 hy
      go_wp2_with fail
      refine (rsameR_c (n := N2) (HS7.out.get D ((Tr.thn a b).map Tr.rawC) (by simp)) (HS7.out.get D2 ((Tr.thn a b).map Tr.rawC) (by simp)) (by rw [List.length_map]; exact HQ.out.2.2.2.2) (by omega)).mono ?_
      rintro e w8 ⟨rfl, hb1⟩
      have HS8 := Lib.hid (HS7.out.below hb1)
      clear hb1
      go_wp2_with fail
      refine (ed_right (k : Int) (n := N2) (HS8.out.get D ((Tr.thn a b).map Tr.rawC) (by simp)) (Nat.le_refl _) (by rw [List.length_map]; exact HQ.out.2.2.2.2) (by omega) (r := true) (by simpa using (Tr.thn_cl HQ.out.1 HQ.out.2.1).right HK.out.1 HK.out.2.1)).mono ?_
      rintro e w9 ⟨rfl, hb1⟩
      have HS9 := Lib.hid (HS8.out.below hb1)
      clear hb1
      go_wp2_with fail
      go_ret
      exact ⟨rfl, HS9.out.1⟩
    | true =>
      have ht := (Tr.thn_turn HQ.out.1 HQ.out.2.1 HQ.out.2.2.2.1).2.1
      have HT := Lib.hid (ed_then (c := c') (c' := c) HK.out.1 HK.out.2.1 (HS6.out.get A' (b.map Tr.rawC) (by simp)) (HS6.out.get A (a.map Tr.rawC) (by simp)) HQ.out.2.1 HQ.out.1 HL.out.2 HL.out.1 HK.out.2.2.2 HK.out.2.2.1 (by omega) (by omega) hfb)
      rw [ht, HQ.out.2.2.2.2] at HT
      refine HT.out.mono ?_
      rintro e w7 ⟨D3, d3, rfl, hy, -, hb1⟩
      clear HT ht
      have HS7 := Lib.hid ((HS6.out.below hb1).add hy)
      clear hb1 hy
      go_wp2_with fail
      refine (rsameR_c (n := N2) (HS7.out.get D ((Tr.thn a b).map Tr.rawC) (by simp)) (HS7.out.get D3 ((Tr.thn a b).map Tr.rawC) (by simp)) (by rw [List.length_map]; exact HQ.out.2.2.2.2) (by omega)).mono ?_
      rintro e w8 ⟨rfl, hb1⟩
      have HS8 := Lib.hid (HS7.out.below hb1)
      clear hb1
      go_wp2_with fail
      refine (rsameR_c (n := N2) (HS8.out.get D ((Tr.thn a b).map Tr.rawC) (by simp)) (HS8.out.get D2 ((Tr.thn a b).map Tr.rawC) (by simp)) (by rw [List.length_map]; exact HQ.out.2.2.2.2) (by omega)).mono ?_
      rintro e w9 ⟨rfl, hb1⟩
      have HS9 := Lib.hid (HS8.out.below hb1)
      clear hb1
      go_wp2_with fail
      refine (ed_right (k : Int) (n := N2) (HS9.out.get D ((Tr.thn a b).map Tr.rawC) (by simp)) (Nat.le_refl _) (by rw [List.length_map]; exact HQ.out.2.2.2.2) (by omega) (r := true) (by simpa using (Tr.thn_cl HQ.out.1 HQ.out.2.1).right HK.out.1 HK.out.2.1)).mono ?_
      rintro e w10 ⟨rfl, hb1⟩
      have HS10 := Lib.hid (HS9.out.below hb1)
      clear hb1
      go_wp2_with fail
      go_ret
      exact ⟨rfl, HS10.out.1⟩
theorem editThen_c {w : World} {A A' : Option Addr} {c c' : Nat} {a b : List Raw} (k : Int) (hA : RwL w w.heap.size A a) (hc : a.length ≤ c) (hl : a.length ≤ maxLen) (hA' : RwL w w.heap.size A' b) (hc' : b.length ≤ c') (hl' : b.length ≤ maxLen) :
    Calls Try.prog 3 #[.int .i64 k, .slice A a.length c, .slice A' b.length c'] w fun e w' => e = .returned (.bool true) ∧ Below w.heap.size w w' := by
  by_cases hs : (heavyC 30 a || heavyC 30 b) = true
  · exact editThen_skip k hA hA' rfl rfl hl hl' _ _ rfl rfl hs
  · have h1 : heavyC 30 a = false := by cases h : heavyC 30 a <;> simp_all
    have h2 : heavyC 30 b = false := by cases h : heavyC 30 b <;> simp_all
    by_cases hR : Tr.RightP k a ∧ Tr.RightP k b
    · obtain ⟨j, rfl⟩ : ∃ j : Nat, k = (j : Int) := ⟨k.toNat, by have := hR.1.1.1; omega⟩
      obtain ⟨ma, Ca⟩ := hR.1.cl hA.ok
      obtain ⟨mb, Cb⟩ := hR.2.cl hA'.ok
      have k1 : 1 ≤ j := by have := hR.1.1.1; omega
      have k16 : j ≤ 16 := by have := hR.1.1.2; omega
      clear hR hs
      generalize a.map Tr.chgOf = x at *
      generalize b.map Tr.chgOf = y at *
      subst ma
      subst mb
      cases hf : (Tr.mz x y).all Tr.fitQ with
      | true => exact editThen_yes j hA hA' rfl rfl hc hc' h1 h2 k1 k16 Ca Cb hf
      | false => exact editThen_no j hA hA' rfl rfl hc hc' h1 h2 k1 k16 Ca Cb hf
    · exact editThen_form k hA hA' rfl rfl h1 h2 hR
end Go.Proofs.Ytpgkfccfabnjdaa
