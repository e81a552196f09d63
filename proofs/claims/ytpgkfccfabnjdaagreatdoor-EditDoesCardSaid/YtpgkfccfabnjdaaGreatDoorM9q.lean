import Derived.Test.YtpgkfccfabnjdaaGreatDoorM9p
import Derived.Test.YtpgkfccfabnjdaaGreatDoorM13
import Derived.Test.YtpgkfccfabnjdaaGreatDoorM16
/-
  CONTRACTS of pantileref13.Heavy; of package edit, fourth part: Fits, Do.
-/
namespace Go.Proofs.YtpgkfccfabnjdaaGreatDoor
open Go.ChangeShapes Go.WideShapes Go.ChangeAt Go.RowKit
open Tr (T S4 Ent Chg Raw)

set_option maxRecDepth 100000 in
theorem r13heavy {w : World} {B : Nat} {A : Option Addr} {c : Nat} {L : List Raw} (h : RwL w B A L) (hl : L.length ≤ maxLen) (m : Nat) (r : Bool) (hr : decide (m < L.length ∨ ∃ e ∈ L, 40 < e.1.length) = r) :
    Calls Tryz.prog 22 #[.slice A L.length c, .int .i64 (m : Int)] w fun e w' => e = .returned (.bool r) ∧ w = w' := by
  have HX := Lib.hid (And.intro h hr)
  have hm : L.length ≤ 9223372036854775807 := by unfold maxLen at hl; omega
  clear h hr hl
  by_cases hbig : m < L.length
  · have d1 : decide ((m : Int) < (L.length : Int)) = true := decide_eq_true (by omega)
    have hrt : Hid (r = true) := Lib.hid (by rw [← HX.out.2]; exact decide_eq_true (.inl hbig))
    have d1' : decide (m < L.length) = true := decide_eq_true hbig
    go_enter Tryz.func22, Tryz.ntmps22
    go_wp2
    go_ret
    exact ⟨by rw [hrt.out]; rfl, rfl⟩
  · have d1 : decide ((m : Int) < (L.length : Int)) = false := decide_eq_false (by omega)
    have d1' : decide (m < L.length) = false := decide_eq_false hbig
    have HB := Lib.hid hbig
    go_enter Tryz.func22, Tryz.ntmps22
    go_wp2
    go_loopw [5] (fun i wr => ∃ j : Nat, j ≤ L.length ∧ i = .int .i64 j ∧ wr = w ∧ ∀ q e, q < j → L[q]? = some e → ¬ 40 < e.1.length) (fun i _ => L.length - (intOf i).toNat)
    case atStart => exact ⟨0, Nat.zero_le _, (by first | rfl | trivial), (by first | rfl | trivial), fun m e hm => by omega⟩
    case round =>
      obtain ⟨j, hj, rfl, rfl, hbe⟩ := hrel
      by_cases hlt : j < L.length
      · obtain ⟨e, he⟩ := get_lt hlt
        obtain ⟨b, off, A1, c1, hA, -, x0, -, -, -, -, -, -, -, -⟩ := HX.out.1.at he
        subst hA
        have m1 : (0 : Int) ≤ (j : Int) := by omega
        have m2 : (j : Int) < (L.length : Int) := by omega
        have HY := Lib.hid (And.intro he hbe)
        by_cases hc : 40 < e.1.length
        · have d2 : decide ((40 : Int) < (e.1.length : Int)) = true := decide_eq_true (by omega)
          have hrt : Hid (r = true) := Lib.hid (by rw [← HX.out.2]; exact decide_eq_true (.inr ⟨e, List.mem_of_getElem? he, hc⟩))
          clear he hbe hc
          go_wp2_with fail
          go_ret
          exact ⟨by rw [hrt.out]; rfl, rfl⟩
        · have d2 : decide ((40 : Int) < (e.1.length : Int)) = false := decide_eq_false (by omega)
          have hc := Lib.hid hc
          clear he hbe
          go_wp2_with fail
          go_roundw
          case rel =>
            refine ⟨j + 1, by omega, by go_num, (by first | rfl | trivial), fun q e' hq he' => ?_⟩
            by_cases c : q < j
            · exact HY.out.2 q e' c he'
            · have : q = j := by omega
              subst this
              rw [HY.out.1] at he'
              cases he'
              exact hc.out
          case measure => simp [intOf]; omega
      · have hrf : Hid (r = false) := Lib.hid (by
          rw [← HX.out.2]
          refine decide_eq_false ?_
          rintro (h | ⟨e, he, h40⟩)
          · exact HB.out h
          · obtain ⟨q, hq⟩ := List.mem_iff_getElem?.1 he
            exact hbe q e (by have := lt_get hq; omega) hq h40)
        clear hbe
        go_wp2_with fail
        go_ret
        exact ⟨by rw [hrf.out]; rfl, rfl⟩

def heavyC (m : Nat) (L : List Raw) : Bool := decide (m < L.length ∨ ∃ a ∈ L, 40 < a.1.length)
theorem heavyC_few {m : Nat} {L : List Raw} (h : heavyC m L = false) : L.length ≤ m := by
  simp only [heavyC, decide_eq_false_iff_not, not_or] at h
  omega

/-! ### Fits -/
theorem get_lastE {k : Nat} {o : Option T} (hwf : ∀ t, o = some t → Tr.Wf k t) {p : List Nat} (hp : p.length = k) (ho : Z.Ok p) : entO (Tr.pathT o p).getLast? = ((Tr.getE (Tr.entsO o) p).getD 0, (Tr.getE (Tr.entsO o) p).isSome) := by
  rcases Tr.path_chain hp ho 65 o (fun t e => ⟨hwf t e, by have := (hwf t e).lv64; omega⟩) with ⟨g, v0, L, h1, -, h3⟩ | ⟨h1, h2, h3⟩
  · rw [Tr.get_here hp ho hwf h3, show Tr.pathT o p = L ++ [.ent g p v0] from h1, List.getLast?_append]
    rfl
  · rw [Tr.get_none hp ho hwf h1 h2]
    rcases h3 with h3 | ⟨L, u, h3, h4⟩
    · rw [show Tr.pathT o p = [] from h3]; rfl
    · rw [show Tr.pathT o p = L ++ [u] from h3, List.getLast?_append]
      cases u with
      | ent g q v => exact h4.elim
      | br g l pre ks => rfl
theorem tGetE_c {w : World} {B b k : Nat} {o : Option T} (h : TreeAt w B b k o) (hB : B ≤ w.heap.size) {p : List Nat} {A : Option Addr} {c m : Nat} (hp : Pts w B A p) (hl : p.length = k) (hm : p.length = m) {g : Option Nat} (hg : Tr.getE (Tr.entsO o) p = g) :
    Calls Tryz.prog 68 #[.pointer (some ⟨b, 0, none⟩), .slice A m c] w fun e w' => e = .returned (.tuple #[.int .u64 ((g.getD 0 : Nat) : Int), .bool g.isSome, .int .i64 0]) ∧ Below w.heap.size w w' := by
  subst hm hg
  exact tGet_c h hB hp hl _ _ (get_lastE (nodeO_wf h.2.2.2.2) hl hp.1)
theorem opt_thing (x g : Option Nat) : (x.isSome == g.isSome && (((x.getD 0 : Nat) : Int) == ((g.getD 0 : Nat) : Int))) = decide (x = g) := by
  cases x with
  | none => cases g <;> simp
  | some a =>
    cases g with
    | none => simp
    | some b =>
      by_cases e : a = b
      · subst e; simp
      · rw [decide_eq_false (by simpa using e)]
        simp only [Option.isSome_some, Option.getD_some, beq_self_eq_true, Bool.true_and, beq_eq_false_iff_ne]
        omega
set_option maxRecDepth 100000 in
theorem ed_fits_form {w : World} {b k : Nat} {o : Option T} (ht : TreeX w b k o) {A : Option Addr} {c n : Nat} {L : List Raw} (h : RwL w w.heap.size A L) (hn : L.length = n) (hl : n ≤ 1000000000) (hr : ¬ Tr.RightP (k : Int) L) :
    Calls Tryz.prog 24 #[.pointer (some ⟨b, 0, none⟩), .slice A n c] w fun e w' => e = .returned (.tuple #[.bool false, .int .i64 9]) ∧ Below w.heap.size w w' := by
  have HK := Lib.hid (tK_c ht.1.2.2.2.1)
  have HR := Lib.hid (ed_right (k : Int) (c := c) h (Nat.le_refl _) hn hl (r := false) (by simpa using hr))
  clear ht h hn hl hr
  go_enter Tryz.func24, Tryz.ntmps24
  go_wp2_with (first
    | (go_at_call 48; refine HK.out.mono ?_; rintro e w' ⟨rfl, rfl⟩)
    | (go_at_call 26; refine HR.out.mono ?_; rintro e w2 ⟨rfl, hb2⟩; have H2 := Lib.hid hb2; clear hb2))
  go_ret2
  exact ⟨rfl, H2.out⟩
set_option maxRecDepth 1000000 in
set_option maxHeartbeats 4000000 in
theorem ed_fits {w : World} {b k : Nat} {o : Option T} (ht : TreeX w b k o) {A : Option Addr} {c n : Nat} {C : List Chg} (h : RwL w w.heap.size A (C.map Tr.rawC)) (hC : Tr.CL k C) (hn : C.length = n) (hl : n ≤ 1000000) {r : Bool} (hr : r = true ↔ Tr.FitsL (Tr.entsO o) C) :
    Calls Tryz.prog 24 #[.pointer (some ⟨b, 0, none⟩), .slice A n c] w fun e w' => e = .returned (.tuple #[.bool r, .int .i64 0]) ∧ Below w.heap.size w w' := by
  have HK := Lib.hid (tK_c ht.1.2.2.2.1)
  have HR := Lib.hid (ed_right (k : Int) (c := c) (n := n) h (Nat.le_refl _) (by rw [List.length_map]; exact hn) (by omega) (r := true) (by simpa using hC.right ht.1.2.1 ht.1.2.2.1))
  have HX := Lib.hid (And.intro ht (And.intro h (And.intro hC (And.intro hn hr))))
  have hn9 : (n : Int) ≤ 1000000 := by omega
  clear ht h hC hn hl hr
  go_enter Tryz.func24, Tryz.ntmps24
  go_wp2_with (first
    | (go_at_call 48; refine HK.out.mono ?_; rintro e w' ⟨rfl, rfl⟩)
    | (go_at_call 26; refine HR.out.mono ?_; rintro e w2 ⟨rfl, hb2⟩; have H2 := Lib.hid hb2; clear hb2))
  go_loopw [20] (fun v wr => ∃ (j : Nat), v = .int .i64 (j : Int) ∧ j ≤ n ∧ (∀ i c, i < j → C[i]? = some c → Tr.getE (Tr.entsO o) c.1 = c.2.1) ∧ Below w.heap.size w wr) (fun v _ => n - (intOf v).toNat)
  case atStart => exact ⟨0, rfl, Nat.zero_le _, fun i c hi => by omega, H2.out⟩
  case round =>
    obtain ⟨j, rfl, hj, hat, hbr⟩ := hrel
    by_cases hlt : j < n
    · obtain ⟨y, hy⟩ := get_lt (us := C) (k := j) (by rw [HX.out.2.2.2.1]; exact hlt)
      obtain ⟨q, off, P, pc, hA, hq, e0, e1, e2, e3, e4, pp, pl, -, -⟩ := (HX.out.2.1.below hbr (Nat.le_refl _) (Nat.le_refl _)).at (i := j) (r := Tr.rawC y) (by rw [List.getElem?_map, hy]; rfl)
      have hk := (HX.out.2.2.1.each y (List.mem_of_getElem? hy)).1
      obtain ⟨g, hg⟩ : ∃ g, Tr.getE (Tr.entsO o) y.1 = g := ⟨_, rfl⟩
      obtain ⟨m, hm⟩ : ∃ m, y.1.length = m := ⟨_, rfl⟩
      obtain ⟨d, hd⟩ : ∃ d, decide (y.2.1 = g) = d := ⟨_, rfl⟩
      have hot := opt_thing y.2.1 g
      rw [hd] at hot
      replace e0 : wr.cell? ⟨q, off + j * 5, none⟩ = some (.slice P m pc) := by rw [← hm]; exact e0
      replace e1 : wr.cell? ⟨q, off + j * 5 + 1, none⟩ = some (.bool y.2.1.isSome) := e1
      replace e2 : wr.cell? ⟨q, off + j * 5 + 2, none⟩ = some (.bool y.2.2.isSome) := e2
      replace e3 : wr.cell? ⟨q, off + j * 5 + 3, none⟩ = some (.int .u64 ((y.2.1.getD 0 : Nat) : Int)) := e3
      replace e4 : wr.cell? ⟨q, off + j * 5 + 4, none⟩ = some (.int .u64 ((y.2.2.getD 0 : Nat) : Int)) := e4
      obtain ⟨W1, hW1⟩ : ∃ W1, W1 = wr.alloc (.cells #[.slice P m pc, .bool y.2.1.isSome, .bool y.2.2.isSome, .int .u64 ((y.2.1.getD 0 : Nat) : Int), .int .u64 ((y.2.2.getD 0 : Nat) : Int)] 111) := ⟨_, rfl⟩
      have hb1 : Below wr.heap.size wr W1 := by rw [hW1]; exact below_alloc wr _
      have HG := Lib.hid (tGetE_c (c := pc) (HX.out.1.below (Below.andThen hbr hb1) (Nat.le_refl _)).1 (Nat.le_refl _) ((pp.below' hb1 hbr.size).keep (Below.andThen hbr hb1).size (fun _ _ => rfl)) hk hm hg)
      rw [hW1] at HG
      obtain ⟨s1, hs1⟩ : ∃ s, y.2.1.isSome = s := ⟨_, rfl⟩
      obtain ⟨s2, hs2⟩ : ∃ s, y.2.2.isSome = s := ⟨_, rfl⟩
      obtain ⟨v1, hv1⟩ : ∃ v, y.2.1.getD 0 = v := ⟨_, rfl⟩
      obtain ⟨v2, hv2⟩ : ∃ v, y.2.2.getD 0 = v := ⟨_, rfl⟩
      obtain ⟨s3, hs3⟩ : ∃ s, g.isSome = s := ⟨_, rfl⟩
      obtain ⟨v3, hv3⟩ : ∃ v, g.getD 0 = v := ⟨_, rfl⟩
      rw [hs1, hv1, hs3, hv3] at hot
      rw [hs1] at e1
      rw [hs2] at e2
      rw [hv1] at e3
      rw [hv2] at e4
      rw [hs1, hs2, hv1, hv2, hs3, hv3] at HG
      have hne : ∀ w2 : World, (binOp .neq 115 (.agg #[.bool s1, .int .u64 (v1 : Int)]) (.agg #[.bool s3, .int .u64 (v3 : Int)])).run Tryz.prog w2 = .ok (.bool (!d)) w2 := fun w2 => by rw [thing_neq, hot]
      have HH := Lib.hid fun w1 : World => ed_had P m pc s1 s2 v1 v2 w1
      have f1 : decide ((j : Int) < (n : Int)) = true := decide_eq_true (by omega)
      have f1' : decide (j < n) = true := decide_eq_true hlt
      have m1 : (0 : Int) ≤ (j : Int) := by omega
      have m2 : (j : Int) < (n : Int) := by omega
      have m3 : (j : Int) ≤ 1000000 := by omega
      have HY := Lib.hid (And.intro hy (And.intro hat (And.intro hbr (And.intro hg (And.intro hd hlt)))))
      subst hA
      clear hy hat hbr hg hd hm pp hlt hs1 hs2 hv1 hv2 hs3 hv3 hot hj pl hk hq hb1 hW1 W1
      cases d with
      | false =>
        go_wp2_with (first
          | (go_at_call 68; refine HG.out.mono ?_; rintro e w3 ⟨rfl, hb3⟩; have hrow3 := (hb3.block wr.heap.size (by simp)).trans (heap_at wr (.cells #[.slice P m pc, .bool s1, .bool s2, .int .u64 (v1 : Int), .int .u64 (v2 : Int)] 111) _ rfl); have z0 : w3.cell? ⟨wr.heap.size, 0, none⟩ = some (.slice P m pc) := (by rw [cell_of_row w3 _ _ _ _ (0, 0) hrow3]; rfl); have z1 : w3.cell? ⟨wr.heap.size, 1, none⟩ = some (.bool s1) := (by rw [cell_of_row w3 _ _ _ _ (0, 0) hrow3]; rfl); have z2 : w3.cell? ⟨wr.heap.size, 2, none⟩ = some (.bool s2) := (by rw [cell_of_row w3 _ _ _ _ (0, 0) hrow3]; rfl); have z3 : w3.cell? ⟨wr.heap.size, 3, none⟩ = some (.int .u64 (v1 : Int)) := (by rw [cell_of_row w3 _ _ _ _ (0, 0) hrow3]; rfl); have z4 : w3.cell? ⟨wr.heap.size, 4, none⟩ = some (.int .u64 (v2 : Int)) := (by rw [cell_of_row w3 _ _ _ _ (0, 0) hrow3]; rfl); have H3 := Lib.hid (Below.andThen (below_alloc wr _) hb3); clear hb3 hrow3)
          | (go_at_call 69; refine (HH.out _).mono ?_; rintro e w4 ⟨rfl, hb4⟩; have H4 := Lib.hid hb4; clear hb4 z0 z1 z2 z3 z4 e0 e1 e2 e3 e4))
        go_ret2
        have hrr : r = false := by
          have h1 := HX.out.2.2.2.2
          have h2 := HY.out.1
          have h3 := HY.out.2.2.2.1
          have h4 := HY.out.2.2.2.2.1
          cases r with
          | false => rfl
          | true => exact absurd (((h1.1 rfl) y (List.mem_of_getElem? h2)).symm.trans h3) (of_decide_eq_false h4)
        subst hrr
        exact ⟨rfl, HY.out.2.2.1.trans ((Below.andThen H3.out H4.out).mono HY.out.2.2.1.size)⟩
      | true =>
        go_wp2_with (first
          | (go_at_call 68; refine HG.out.mono ?_; rintro e w3 ⟨rfl, hb3⟩; have hrow3 := (hb3.block wr.heap.size (by simp)).trans (heap_at wr (.cells #[.slice P m pc, .bool s1, .bool s2, .int .u64 (v1 : Int), .int .u64 (v2 : Int)] 111) _ rfl); have z0 : w3.cell? ⟨wr.heap.size, 0, none⟩ = some (.slice P m pc) := (by rw [cell_of_row w3 _ _ _ _ (0, 0) hrow3]; rfl); have z1 : w3.cell? ⟨wr.heap.size, 1, none⟩ = some (.bool s1) := (by rw [cell_of_row w3 _ _ _ _ (0, 0) hrow3]; rfl); have z2 : w3.cell? ⟨wr.heap.size, 2, none⟩ = some (.bool s2) := (by rw [cell_of_row w3 _ _ _ _ (0, 0) hrow3]; rfl); have z3 : w3.cell? ⟨wr.heap.size, 3, none⟩ = some (.int .u64 (v1 : Int)) := (by rw [cell_of_row w3 _ _ _ _ (0, 0) hrow3]; rfl); have z4 : w3.cell? ⟨wr.heap.size, 4, none⟩ = some (.int .u64 (v2 : Int)) := (by rw [cell_of_row w3 _ _ _ _ (0, 0) hrow3]; rfl); have H3 := Lib.hid (Below.andThen (below_alloc wr _) hb3); clear hb3 hrow3)
          | (go_at_call 69; refine (HH.out _).mono ?_; rintro e w4 ⟨rfl, hb4⟩; have H4 := Lib.hid hb4; clear hb4 z0 z1 z2 z3 z4 e0 e1 e2 e3 e4))
        go_roundw
        case rel =>
          refine ⟨j + 1, by first | rfl | go_num, by have := HY.out.2.2.2.2.2; omega, fun i c hi hc => ?_, HY.out.2.2.1.trans ((Below.andThen H3.out H4.out).mono HY.out.2.2.1.size)⟩
          rcases Nat.lt_or_ge i j with h | h
          · exact HY.out.2.1 i c h hc
          · obtain rfl : i = j := by omega
            obtain rfl : y = c := Option.some.inj (HY.out.1.symm.trans hc)
            exact HY.out.2.2.2.1.trans (of_decide_eq_true HY.out.2.2.2.2.1).symm
        case measure =>
          have := HY.out.2.2.2.2.2
          show n - ((j : Int) + 1).toNat < n - (j : Int).toNat
          omega
    · have hjn : n = j := by omega
      subst hjn
      have f1 : decide ((n : Int) < (n : Int)) = false := decide_eq_false (by omega)
      have f1' : decide (n < n) = false := decide_eq_false (by omega)
      have HY := Lib.hid (And.intro hat hbr)
      clear hat hbr hlt hj
      go_wp2_with fail
      go_ret2
      have hrr := HX.out.2.2.2.2.2 fun c hc => by
        obtain ⟨i, hi⟩ := List.mem_iff_getElem?.1 hc
        exact HY.out.1 i c (by have := (List.getElem?_eq_some_iff.1 hi).1; have := HX.out.2.2.2.1; omega) hi
      subst hrr
      exact ⟨rfl, HY.out.2⟩
end Go.Proofs.YtpgkfccfabnjdaaGreatDoor

/-
  CONTRACTS of package edit, fifth part: Do.
-/
namespace Go.Proofs.YtpgkfccfabnjdaaGreatDoor
open Go.ChangeShapes Go.WideShapes Go.ChangeAt Go.RowKit
open Tr (T S4 Ent Chg Raw)

set_option maxRecDepth 100000 in
theorem ed_do_form {w : World} {b k : Nat} {o : Option T} (ht : TreeX w b k o) {A : Option Addr} {c n : Nat} {L : List Raw} (h : RwL w w.heap.size A L) (hn : L.length = n) (hl : n ≤ 1000000000) (hr : ¬ Tr.RightP (k : Int) L) :
    Calls Tryz.prog 25 #[.pointer (some ⟨b, 0, none⟩), .slice A n c] w fun e w' => e = .returned (.tuple #[.pointer none, .int .i64 9]) ∧ Below w.heap.size w w' := by
  have HF := Lib.hid (ed_fits_form (c := c) ht h hn hl hr)
  clear ht h hn hl hr
  go_enter Tryz.func25, Tryz.ntmps25
  go_wp2_with (go_at_call 24; refine HF.out.mono ?_; rintro e w2 ⟨rfl, hb2⟩; have H2 := Lib.hid hb2; clear hb2)
  go_ret2
  exact ⟨rfl, H2.out⟩
set_option maxRecDepth 100000 in
theorem ed_do_no {w : World} {b k : Nat} {o : Option T} (ht : TreeX w b k o) {A : Option Addr} {c n : Nat} {C : List Chg} (h : RwL w w.heap.size A (C.map Tr.rawC)) (hC : Tr.CL k C) (hn : C.length = n) (hl : n ≤ 1000000) (hr : ¬ Tr.FitsL (Tr.entsO o) C) :
    Calls Tryz.prog 25 #[.pointer (some ⟨b, 0, none⟩), .slice A n c] w fun e w' => e = .returned (.tuple #[.pointer none, .int .i64 7]) ∧ Below w.heap.size w w' := by
  have HF := Lib.hid (ed_fits (c := c) ht h hC hn hl (r := false) (by simpa using hr))
  clear ht h hC hn hl hr
  go_enter Tryz.func25, Tryz.ntmps25
  go_wp2_with (go_at_call 24; refine HF.out.mono ?_; rintro e w2 ⟨rfl, hb2⟩; have H2 := Lib.hid hb2; clear hb2)
  go_ret2
  exact ⟨rfl, H2.out⟩
theorem tPut_turn {w : World} {b k : Nat} {o : Option T} (h : TreeX w b k o) {p : List Nat} {A : Option Addr} {c m : Nat} (hp : Pts w w.heap.size A p) (hl : p.length = k) (hm : p.length = m) {v : Nat} (hv : v < 18446744073709551616) (hN : (Tr.entsO o).length ≤ 4611686018427387904) (hne : Tr.getE (Tr.entsO o) p ≠ some v) :
    Calls Tryz.prog 38 #[.pointer (some ⟨b, 0, none⟩), .slice A m c, .int .u64 (v : Int)] w fun e w' => ∃ (n : Nat) (o' : Option T), e = .returned (.tuple #[.pointer (some ⟨n, 0, none⟩), .int .i64 0]) ∧ TreeX w' n k o' ∧ w.heap.size ≤ n ∧ Tr.entsO o' = Tr.putE p v (Tr.entsO o) ∧ Below w.heap.size w w' := by
  subst hm
  refine (tPut_c h.1 (Nat.le_refl _) hp hl v hv hN).mono ?_
  rintro e w' (⟨h1, -, -⟩ | ⟨-, n, t, he, hto, hb⟩)
  · exact absurd h1 hne
  · exact ⟨n, some t, he, hto.1, hto.2.1, hto.2.2.1, hb⟩
theorem tDel_turn {w : World} {b k : Nat} {o : Option T} (h : TreeX w b k o) {p : List Nat} {A : Option Addr} {c m : Nat} (hp : Pts w w.heap.size A p) (hl : p.length = k) (hm : p.length = m) (hN : (Tr.entsO o).length ≤ 4611686018427387904) (hne : Tr.getE (Tr.entsO o) p ≠ none) :
    Calls Tryz.prog 70 #[.pointer (some ⟨b, 0, none⟩), .slice A m c] w fun e w' => ∃ (n : Nat) (o' : Option T), e = .returned (.tuple #[.pointer (some ⟨n, 0, none⟩), .int .i64 0]) ∧ TreeX w' n k o' ∧ w.heap.size ≤ n ∧ Tr.entsO o' = Tr.delE p (Tr.entsO o) ∧ Below w.heap.size w w' := by
  subst hm
  refine (tDel_c h.1 (Nat.le_refl _) hp hl hN).mono ?_
  rintro e w' (⟨h1, -, -⟩ | ⟨-, n, o', he, hto, hb⟩)
  · exact absurd h1 hne
  · exact ⟨n, o', he, hto.1, hto.2.1, hto.2.2.1, hb⟩
set_option maxRecDepth 1000000 in
set_option maxHeartbeats 4000000 in
theorem ed_do {w : World} {b k : Nat} {o : Option T} (ht : TreeX w b k o) {A : Option Addr} {c n : Nat} {C : List Chg} (h : RwL w w.heap.size A (C.map Tr.rawC)) (hC : Tr.CL k C) (hn : C.length = n) (hl : n ≤ 1000000) (hN : (Tr.entsO o).length ≤ 1000000) (hf : Tr.FitsL (Tr.entsO o) C) :
    Calls Tryz.prog 25 #[.pointer (some ⟨b, 0, none⟩), .slice A n c] w fun e w' => ∃ (b' : Nat) (o' : Option T), e = .returned (.tuple #[.pointer (some ⟨b', 0, none⟩), .int .i64 0]) ∧ TreeX w' b' k o' ∧ Tr.entsO o' = Tr.doL (Tr.entsO o) C ∧ (n = 0 → b' = b) ∧ (0 < n → w.heap.size ≤ b') ∧ Below w.heap.size w w' := by
  have HF := Lib.hid (ed_fits (c := c) ht h hC hn hl (r := true) (by simpa using hf))
  obtain ⟨z0, d0⟩ := entsO_zs (k := k) (o := o) fun t e => (ht.1.2.2.2.2 t e).1
  have HX := Lib.hid (And.intro ht (And.intro h (And.intro hC (And.intro hn (And.intro hN (And.intro hf (And.intro z0 (And.intro d0 hl))))))))
  have hn9 : (n : Int) ≤ 1000000 := by omega
  clear ht h hC hn hl hN hf z0 d0
  go_enter Tryz.func25, Tryz.ntmps25
  go_wp2_with (go_at_call 24; refine HF.out.mono ?_; rintro e w2 ⟨rfl, hb2⟩; have H2 := Lib.hid hb2; clear hb2)
  go_loopw [0, 23] (fun t v wr => ∃ (j b' : Nat) (o' : Option T), t = .pointer (some ⟨b', 0, none⟩) ∧ v = .int .i64 (j : Int) ∧ j ≤ n ∧ TreeX wr b' k o' ∧ Tr.entsO o' = Tr.doL (Tr.entsO o) (C.take j) ∧ (j = 0 → b' = b) ∧ (0 < j → w.heap.size ≤ b') ∧ Below w.heap.size w wr) (fun _ v _ => n - (intOf v).toNat)
  case atStart => exact ⟨0, b, o, rfl, rfl, Nat.zero_le _, HX.out.1.below H2.out (Nat.le_refl _), rfl, fun _ => rfl, fun h => by omega, H2.out⟩
  case round =>
    obtain ⟨j, b', o', rfl, rfl, hj, ht', he', hb0, hb1, hbr⟩ := hrel
    by_cases hlt : j < n
    · obtain ⟨y, hy⟩ := get_lt (us := C) (k := j) (by rw [HX.out.2.2.2.1]; exact hlt)
      obtain ⟨q, off, P, pc, hA, hq, e0, e1, e2, e3, e4, pp, pl, -, -⟩ := (HX.out.2.1.below hbr (Nat.le_refl _) (Nat.le_refl _)).at (i := j) (r := Tr.rawC y) (by rw [List.getElem?_map, hy]; rfl)
      have hey := HX.out.2.2.1.each y (List.mem_of_getElem? hy)
      have hk := hey.1
      obtain ⟨m, hm⟩ : ∃ m, y.1.length = m := ⟨_, rfl⟩
      replace e0 : wr.cell? ⟨q, off + j * 5, none⟩ = some (.slice P m pc) := by rw [← hm]; exact e0
      replace e1 : wr.cell? ⟨q, off + j * 5 + 1, none⟩ = some (.bool y.2.1.isSome) := e1
      replace e2 : wr.cell? ⟨q, off + j * 5 + 2, none⟩ = some (.bool y.2.2.isSome) := e2
      replace e3 : wr.cell? ⟨q, off + j * 5 + 3, none⟩ = some (.int .u64 ((y.2.1.getD 0 : Nat) : Int)) := e3
      replace e4 : wr.cell? ⟨q, off + j * 5 + 4, none⟩ = some (.int .u64 ((y.2.2.getD 0 : Nat) : Int)) := e4
      obtain ⟨s1, hs1⟩ : ∃ s, y.2.1.isSome = s := ⟨_, rfl⟩
      obtain ⟨v1, hv1⟩ : ∃ v, y.2.1.getD 0 = v := ⟨_, rfl⟩
      rw [hs1] at e1
      rw [hv1] at e3
      clear hs1 hv1
      have hgt : Tr.getE (Tr.entsO o') y.1 = y.2.1 := by rw [he', Tr.getE_half HX.out.2.2.2.2.2.2.1 HX.out.2.2.2.2.2.2.2.1 HX.out.2.2.1 hy]; exact HX.out.2.2.2.2.2.1 y (List.mem_of_getElem? hy)
      have hlen : (Tr.entsO o').length ≤ 4611686018427387904 := by
        have h1 := (Tr.doL_zd HX.out.2.2.2.2.2.2.1 HX.out.2.2.2.2.2.2.2.1 (HX.out.2.2.1.take j)).2.2
        rw [← he', List.length_take] at h1
        have := HX.out.2.2.2.2.1
        have := HX.out.2.2.2.2.2.2.2.2
        omega
      have hdo : Tr.doL (Tr.entsO o) (C.take (j + 1)) = Tr.doC (Tr.entsO o') y := by rw [Tr.doL_take hy, ← he']
      have f1 : decide ((j : Int) < (n : Int)) = true := decide_eq_true (by omega)
      have f1' : decide (j < n) = true := decide_eq_true hlt
      have m1 : (0 : Int) ≤ (j : Int) := by omega
      have m2 : (j : Int) < (n : Int) := by omega
      have m3 : (j : Int) ≤ 1000000 := by omega
      cases hnew : y.2.2 with
      | some v =>
        rw [hnew] at e2 e4
        replace e2 : wr.cell? ⟨q, off + j * 5 + 2, none⟩ = some (.bool true) := e2
        replace e4 : wr.cell? ⟨q, off + j * 5 + 4, none⟩ = some (.int .u64 (v : Int)) := e4
        obtain ⟨W1, hW1⟩ : ∃ W1, W1 = wr.alloc (.cells #[.slice P m pc, .bool s1, .bool true, .int .u64 (v1 : Int), .int .u64 (v : Int)] 111) := ⟨_, rfl⟩
        have hb2 : Below wr.heap.size wr W1 := by rw [hW1]; exact below_alloc wr _
        have hP := tPut_turn (p := y.1) (c := pc) (ht'.below hb2 (Nat.le_refl _)) ((pp.below' hb2 hbr.size).keep (Below.andThen hbr hb2).size (fun _ _ => rfl)) hk hm (hey.2.2.2.2 v hnew) hlen (by rw [hgt]; intro e; exact hey.2.2.1 (e.trans hnew.symm))
        have hdc : Tr.doC (Tr.entsO o') y = Tr.putE y.1 v (Tr.entsO o') := by unfold Tr.doC; rw [hnew]
        rw [hW1] at hP
        have HP := Lib.hid hP
        have HY := Lib.hid (And.intro hbr (And.intro (hdo.trans hdc) (And.intro hlt hbr.size)))
        subst hA
        clear hy hbr hey hk hm pp pl hq hgt hlen hdo hdc hnew hW1 hb2 hP W1 hlt hj ht' he' hb0 hb1
        go_wp2_with (go_at_call 38; refine HP.out.mono ?_; rintro e w3 ⟨b3, o3, rfl, ht3, hle3, he3, hb3⟩; have H3 := Lib.hid (And.intro ht3 (And.intro hle3 (And.intro he3 (Below.andThen (below_alloc wr _) hb3)))); clear ht3 hle3 he3 hb3)
        go_roundw
        case rel => exact ⟨j + 1, b3, o3, by first | rfl | trivial, by first | rfl | go_num, by have := HY.out.2.2.1; omega, H3.out.1, by rw [HY.out.2.1]; exact H3.out.2.2.1, fun h => by omega, fun _ => by have := H3.out.2.1; have := HY.out.2.2.2; simp only [World.size_alloc] at *; omega, HY.out.1.trans (H3.out.2.2.2.mono HY.out.2.2.2)⟩
        case measure =>
          have := HY.out.2.2.1
          show n - ((j : Int) + 1).toNat < n - (j : Int).toNat
          omega
      | none =>
        rw [hnew] at e2 e4
        replace e2 : wr.cell? ⟨q, off + j * 5 + 2, none⟩ = some (.bool false) := e2
        replace e4 : wr.cell? ⟨q, off + j * 5 + 4, none⟩ = some (.int .u64 0) := e4
        obtain ⟨W1, hW1⟩ : ∃ W1, W1 = wr.alloc (.cells #[.slice P m pc, .bool s1, .bool false, .int .u64 (v1 : Int), .int .u64 0] 111) := ⟨_, rfl⟩
        have hb2 : Below wr.heap.size wr W1 := by rw [hW1]; exact below_alloc wr _
        have hP := tDel_turn (p := y.1) (c := pc) (ht'.below hb2 (Nat.le_refl _)) ((pp.below' hb2 hbr.size).keep (Below.andThen hbr hb2).size (fun _ _ => rfl)) hk hm hlen (by rw [hgt]; intro e; exact hey.2.2.1 (e.trans hnew.symm))
        have hdc : Tr.doC (Tr.entsO o') y = Tr.delE y.1 (Tr.entsO o') := by unfold Tr.doC; rw [hnew]
        rw [hW1] at hP
        have HP := Lib.hid hP
        have HY := Lib.hid (And.intro hbr (And.intro (hdo.trans hdc) (And.intro hlt hbr.size)))
        subst hA
        clear hy hbr hey hk hm pp pl hq hgt hlen hdo hdc hnew hW1 hb2 hP W1 hlt hj ht' he' hb0 hb1
        go_wp2_with (go_at_call 70; refine HP.out.mono ?_; rintro e w3 ⟨b3, o3, rfl, ht3, hle3, he3, hb3⟩; have H3 := Lib.hid (And.intro ht3 (And.intro hle3 (And.intro he3 (Below.andThen (below_alloc wr _) hb3)))); clear ht3 hle3 he3 hb3)
        go_roundw
        case rel => exact ⟨j + 1, b3, o3, by first | rfl | trivial, by first | rfl | go_num, by have := HY.out.2.2.1; omega, H3.out.1, by rw [HY.out.2.1]; exact H3.out.2.2.1, fun h => by omega, fun _ => by have := H3.out.2.1; have := HY.out.2.2.2; simp only [World.size_alloc] at *; omega, HY.out.1.trans (H3.out.2.2.2.mono HY.out.2.2.2)⟩
        case measure =>
          have := HY.out.2.2.1
          show n - ((j : Int) + 1).toNat < n - (j : Int).toNat
          omega
    · have hjn : n = j := by omega
      subst hjn
      have f1 : decide ((n : Int) < (n : Int)) = false := decide_eq_false (by omega)
      have f1' : decide (n < n) = false := decide_eq_false (by omega)
      rw [show C.take n = C by rw [← HX.out.2.2.2.1, List.take_length]] at he'
      have HY := Lib.hid (And.intro ht' (And.intro he' (And.intro hb0 (And.intro hb1 hbr))))
      clear ht' he' hb0 hb1 hbr hlt hj
      go_wp2_with fail
      go_ret2
      exact ⟨b', o', rfl, HY.out.1, HY.out.2.1, HY.out.2.2.1, HY.out.2.2.2.1, HY.out.2.2.2.2⟩
end Go.Proofs.YtpgkfccfabnjdaaGreatDoor

/-
  CONTRACTS of package pantileref13, second part: Fits, Do.
-/
namespace Go.Proofs.YtpgkfccfabnjdaaGreatDoor
open Go.ChangeShapes Go.WideShapes Go.ChangeAt Go.RowKit
open Tr (T S4 Ent Chg Raw)

set_option maxRecDepth 1000000 in
set_option maxHeartbeats 4000000 in
theorem r13fits_c {w : World} {B R B' k N n c c' : Nat} {A A' : Option Addr} {L : List Ent} {C : List Chg} (zL : Tr.ZS L) (dL : Tr.Dim k L) (hE : EntL w B R A L) (hN : L.length = N) (hNl : N ≤ 1000000) (h : RwL w B' A' (C.map Tr.rawC)) (hC : Tr.CL k C) (hn : C.length = n) (hl : n ≤ 1000000) (h1 : 1 ≤ k) (h16 : k ≤ 16) {r : Bool} (hr : r = true ↔ Tr.FitsL L C) :
    Calls Tryz.prog 30 #[.slice A N c, .slice A' n c'] w fun e w' => e = .returned (.bool r) ∧ w = w' := by
  have HX := Lib.hid (And.intro zL (And.intro dL (And.intro hE (And.intro hN (And.intro hNl (And.intro h (And.intro hC (And.intro hn (And.intro h1 (And.intro h16 hr))))))))))
  have hn9 : (n : Int) ≤ 1000000 := by omega
  clear zL dL hE hN hNl h hC hn hl h1 h16 hr
  go_enter Tryz.func30, Tryz.ntmps30
  go_wp2_with fail
  go_loopw [5] (fun v wr => ∃ (j : Nat), v = .int .i64 (j : Int) ∧ j ≤ n ∧ (∀ i c, i < j → C[i]? = some c → Tr.getE L c.1 = c.2.1) ∧ wr = w) (fun v _ => n - (intOf v).toNat)
  case atStart => exact ⟨0, (by first | rfl | trivial), Nat.zero_le _, fun i c hi => by omega, (by first | rfl | trivial)⟩
  case round =>
    obtain ⟨j, rfl, hj, hat, rfl⟩ := hrel
    by_cases hlt : j < n
    · obtain ⟨zL, dL, hE, hN, hNl, h, hC, hn, h1, h16, hr⟩ := HX.out
      obtain ⟨y, hy⟩ := get_lt (us := C) (k := j) (by rw [hn]; exact hlt)
      obtain ⟨q, off, P, pc, hA, hq, e0, e1, e2, e3, e4, pp, pl, -, -⟩ := h.at (i := j) (r := Tr.rawC y) (by rw [List.getElem?_map, hy]; rfl)
      have hk := (hC.each y (List.mem_of_getElem? hy)).1
      obtain ⟨g, hg⟩ : ∃ g, Tr.getE L y.1 = g := ⟨_, rfl⟩
      have hG := rget6_c (p := y.1) (c := c) (c' := pc) zL dL hE pp hk h1 h16 (by omega) g hg
      obtain ⟨m, hm⟩ : ∃ m, y.1.length = m := ⟨_, rfl⟩
      replace e0 : wr.cell? ⟨q, off + j * 5, none⟩ = some (.slice P m pc) := by rw [← hm]; exact e0
      replace e1 : wr.cell? ⟨q, off + j * 5 + 1, none⟩ = some (.bool y.2.1.isSome) := e1
      replace e3 : wr.cell? ⟨q, off + j * 5 + 3, none⟩ = some (.int .u64 ((y.2.1.getD 0 : Nat) : Int)) := e3
      rw [hN, hm] at hG
      have f1 : decide ((j : Int) < (n : Int)) = true := decide_eq_true (by omega)
      have f1' : decide (j < n) = true := decide_eq_true hlt
      have m1 : (0 : Int) ≤ (j : Int) := by omega
      have m2 : (j : Int) < (n : Int) := by omega
      have m3 : (j : Int) ≤ 1000000 := by omega
      have HY := Lib.hid (And.intro hy (And.intro hat (And.intro hg hlt)))
      subst hA
      by_cases hd : y.2.1 = g
      · have HD := Lib.hid hd
        rw [← hd] at hG
        obtain ⟨s1, hs1⟩ : ∃ s, y.2.1.isSome = s := ⟨_, rfl⟩
        obtain ⟨v1, hv1⟩ : ∃ v, y.2.1.getD 0 = v := ⟨_, rfl⟩
        rw [hs1, hv1] at hG
        rw [hs1] at e1
        rw [hv1] at e3
        have b1 : (s1 != s1) = false := by simp
        have b3 : ((v1 : Int) != (v1 : Int)) = false := by simp
        have HG := Lib.hid hG
        clear hG hd hs1 hv1 hy hat hg hm hlt hk pp pl hq zL dL hE hN hNl h hC hn h1 h16 hr hj e2 e4
        go_wp2_with (go_at_call 75; refine HG.out.mono ?_; rintro e w' ⟨rfl, rfl⟩)
        go_roundw
        case rel =>
          refine ⟨j + 1, by first | rfl | go_num, by have := HY.out.2.2.2; omega, fun i c hi hc => ?_, by first | rfl | trivial⟩
          rcases Nat.lt_or_ge i j with h | h
          · exact HY.out.2.1 i c h hc
          · obtain rfl : i = j := by omega
            obtain rfl : y = c := Option.some.inj (HY.out.1.symm.trans hc)
            exact HY.out.2.2.1.trans HD.out.symm
        case measure =>
          have := HY.out.2.2.2
          show n - ((j : Int) + 1).toNat < n - (j : Int).toNat
          omega
      · have hrf : r = false := by
          cases r with
          | false => rfl
          | true => exact absurd (((hr.1 rfl) y (List.mem_of_getElem? hy)).symm.trans hg) hd
        subst hrf
        have hot := opt_thing y.2.1 g
        rw [decide_eq_false hd] at hot
        obtain ⟨s1, hs1⟩ : ∃ s, y.2.1.isSome = s := ⟨_, rfl⟩
        obtain ⟨v1, hv1⟩ : ∃ v, y.2.1.getD 0 = v := ⟨_, rfl⟩
        obtain ⟨s3, hs3⟩ : ∃ s, g.isSome = s := ⟨_, rfl⟩
        obtain ⟨v3, hv3⟩ : ∃ v, g.getD 0 = v := ⟨_, rfl⟩
        rw [hs1, hv1, hs3, hv3] at hot
        rw [hs3, hv3] at hG
        rw [hs1] at e1
        rw [hv1] at e3
        have HG := Lib.hid hG
        by_cases hss : s3 = s1
        · have b1 : (s1 != s1) = false := by simp
          subst hss
          have b3 : ((v3 : Int) != (v1 : Int)) = true := by
            rw [bne_iff_ne]
            intro e
            rw [e] at hot
            simp at hot
          have b3' : ((v3 : Int) == (v1 : Int)) = false := by rw [bne_iff_ne] at b3; rw [beq_eq_false_iff_ne]; exact b3
          clear hot hG hd hs1 hv1 hs3 hv3 hy hat hg hm hlt hk pp pl hq zL dL hE hN hNl h hC hn h1 h16 hr hj e2 e4
          go_wp2_with (go_at_call 75; refine HG.out.mono ?_; rintro e w' ⟨rfl, rfl⟩)
          go_ret
          exact ⟨rfl, rfl⟩
        · have b1 : (s3 != s1) = true := by rw [bne_iff_ne]; exact hss
          have b1' : (s3 == s1) = false := by rw [beq_eq_false_iff_ne]; exact hss
          clear hss hot hG hd hs1 hv1 hs3 hv3 hy hat hg hm hlt hk pp pl hq zL dL hE hN hNl h hC hn h1 h16 hr hj e2 e4
          go_wp2_with (go_at_call 75; refine HG.out.mono ?_; rintro e w' ⟨rfl, rfl⟩)
          go_ret
          exact ⟨rfl, rfl⟩
    · have hjn : n = j := by omega
      subst hjn
      have f1 : decide ((n : Int) < (n : Int)) = false := decide_eq_false (by omega)
      have f1' : decide (n < n) = false := decide_eq_false (by omega)
      have HY := Lib.hid hat
      clear hat hlt hj
      go_wp2_with fail
      go_ret
      have hrr := HX.out.2.2.2.2.2.2.2.2.2.2.2 fun c hc => by
        obtain ⟨i, hi⟩ := List.mem_iff_getElem?.1 hc
        exact HY.out i c (by have := (List.getElem?_eq_some_iff.1 hi).1; have := HX.out.2.2.2.2.2.2.2.1; omega) hi
      subst hrr
      exact ⟨rfl, rfl⟩
set_option maxRecDepth 1000000 in
set_option maxHeartbeats 4000000 in
theorem r13do_c {w : World} {B R k N n c c' : Nat} {A A' : Option Addr} {L : List Ent} {C : List Chg} (zL : Tr.ZS L) (dL : Tr.Dim k L) (hE : EntL w B R A L) (hR : R ≤ w.heap.size) (hB : B ≤ w.heap.size) (hN : L.length = N) (hNl : N ≤ 100000) (hc : N ≤ c) (h : RwL w B A' (C.map Tr.rawC)) (hC : Tr.CL k C) (hn : C.length = n) (hl : n ≤ 100000) (h1 : 1 ≤ k) (h16 : k ≤ 16) :
    Calls Tryz.prog 31 #[.slice A N c, .slice A' n c'] w fun e w' => ∃ D d N', e = .returned (.slice D N' d) ∧ (Tr.doL L C).length = N' ∧ EntL w' B w'.heap.size D (Tr.doL L C) ∧ N' ≤ d ∧ Below w.heap.size w w' := by
  have hE0 := EntL.below (R := R) hE (Below.refl w.heap.size w) hB hR hR
  have HX := Lib.hid (And.intro zL (And.intro dL (And.intro hB (And.intro hN (And.intro hNl (And.intro h (And.intro hC (And.intro hn (And.intro hl (And.intro h1 (And.intro h16 (And.intro hE0 hc))))))))))))
  have hn9 : (n : Int) ≤ 100000 := by omega
  clear zL dL hE hE0 hR hB hN hNl hc h hC hn hl h1 h16
  go_enter Tryz.func31, Tryz.ntmps31
  go_wp2_with fail
  go_loopw [0, 5] (fun u v wr => ∃ (j m : Nat) (D : Option Addr) (d : Nat), u = .slice D m d ∧ v = .int .i64 (j : Int) ∧ j ≤ n ∧ (Tr.doL L (C.take j)).length = m ∧ EntL wr B wr.heap.size D (Tr.doL L (C.take j)) ∧ m ≤ d ∧ Below w.heap.size w wr) (fun _ v _ => n - (intOf v).toNat)
  case atStart => exact ⟨0, N, A, c, rfl, rfl, Nat.zero_le _, HX.out.2.2.2.1, HX.out.2.2.2.2.2.2.2.2.2.2.2.1, HX.out.2.2.2.2.2.2.2.2.2.2.2.2, Below.refl _ _⟩
  case round =>
    obtain ⟨j, m, D, d, rfl, rfl, hj, hm, hE, hmd, hb⟩ := hrel
    by_cases hlt : j < n
    · obtain ⟨zL, dL, hB, hN, hNl, h, hC, hn, hl, h1, h16, -, -⟩ := HX.out
      obtain ⟨y, hy⟩ := get_lt (us := C) (k := j) (by rw [hn]; exact hlt)
      obtain ⟨q, off, P, pc, hA, hq, e0, e1, e2, e3, e4, pp, pl, -, -⟩ := (h.below hb hB (Nat.le_refl _)).at (i := j) (r := Tr.rawC y) (by rw [List.getElem?_map, hy]; rfl)
      have hey := hC.each y (List.mem_of_getElem? hy)
      obtain ⟨np, hnp⟩ : ∃ np, y.1.length = np := ⟨_, rfl⟩
      replace e0 : wr.cell? ⟨q, off + j * 5, none⟩ = some (.slice P np pc) := by rw [← hnp]; exact e0
      replace e2 : wr.cell? ⟨q, off + j * 5 + 2, none⟩ = some (.bool y.2.2.isSome) := e2
      replace e4 : wr.cell? ⟨q, off + j * 5 + 4, none⟩ = some (.int .u64 ((y.2.2.getD 0 : Nat) : Int)) := e4
      obtain ⟨z1, d1, l1⟩ := Tr.doL_zd zL dL (hC.take j)
      have hlt2 : (C.take j).length ≤ n := by rw [List.length_take]; omega
      have hdo := Tr.doL_take (L := L) hy
      have f1 : decide ((j : Int) < (n : Int)) = true := decide_eq_true (by omega)
      have f1' : decide (j < n) = true := decide_eq_true hlt
      have n1 : (0 : Int) ≤ (j : Int) := by omega
      have n2 : (j : Int) < (n : Int) := by omega
      have n3 : (j : Int) ≤ 100000 := by omega
      have hqr : q < wr.heap.size := Nat.lt_of_lt_of_le hq (Nat.le_trans hB hb.size)
      subst hA
      cases hnew : y.2.2 with
      | some v =>
        have hP := fun w1 (hb1 : Below wr.heap.size wr w1) => rput6_c (p := y.1) (c := d) (c' := pc) (w := w1) (R := wr.heap.size) z1 d1 (hE.below hb1 (Nat.le_trans hB hb.size) (Nat.le_refl _) (Nat.le_refl _)) (pp.below' hb1 (Nat.le_trans hB hb.size)) hey.1 h1 h16 (by omega) hb1.size (Nat.le_trans (Nat.le_trans hB hb.size) hb1.size) (by rw [hm]; exact hmd) v (hey.2.2.2.2 v hnew)
        have hdc : Tr.doL L (C.take (j + 1)) = Tr.putE y.1 v (Tr.doL L (C.take j)) := by rw [hdo]; unfold Tr.doC; rw [hnew]
        rw [← hdc, hm, hnp] at hP
        obtain ⟨m2, hm2⟩ : ∃ m2, (Tr.doL L (C.take (j + 1))).length = m2 := ⟨_, rfl⟩
        rw [hm2] at hP
        rw [hnew] at e2 e4
        replace e2 : wr.cell? ⟨q, off + j * 5 + 2, none⟩ = some (.bool true) := e2
        replace e4 : wr.cell? ⟨q, off + j * 5 + 4, none⟩ = some (.int .u64 (v : Int)) := e4
        have HP := Lib.hid hP
        have HE := Lib.hid (And.intro hb (And.intro hm2 hlt))
        have a0 : ∀ w', Below wr.heap.size wr w' → w'.cell? ⟨q, off + j * 5, none⟩ = some (.slice P np pc) := fun w' h => (h.cell (p := ⟨q, off + j * 5, none⟩) hqr).trans e0
        have a4 : ∀ w', Below wr.heap.size wr w' → w'.cell? ⟨q, off + j * 5 + 4, none⟩ = some (.int .u64 (v : Int)) := fun w' h => (h.cell (p := ⟨q, off + j * 5 + 4, none⟩) hqr).trans e4
        have hb0 : Below wr.heap.size wr wr := Below.refl _ _
        clear hP hb hm2 hlt hnp z1 d1 l1 hlt2 pp hey hE hm hmd hy zL dL hN hNl h hC hn hl h1 h16 hj hB hdo hdc hnew pl hq e1 e3
        go_wp2_with fail
        go_region_held3 (fun w' => Below wr.heap.size wr w') (((repeat (first | refine Below.drew ?_ | (with_reducible refine below_drewN _ ?_) | refine Below.alloc ?_ (by first | omega | (simp; done) | (simp; omega)) _ | refine Below.setCell ?_ (by first | omega | (simp; done) | (simp; omega)) _)); first | exact Below.refl _ _ | assumption | exact below_drewN _ (Below.refl _ _) | exact below_drewN _ (below_drewN _ (Below.refl _ _))))
          ((go_at_call 76; refine (HP.out _ (show Below wr.heap.size wr _ by ((repeat (first | refine Below.drew ?_ | (with_reducible refine below_drewN _ ?_) | refine Below.alloc ?_ (by first | omega | (simp; done) | (simp; omega)) _ | refine Below.setCell ?_ (by first | omega | (simp; done) | (simp; omega)) _)); first | exact Below.refl _ _ | assumption | exact below_drewN _ (Below.refl _ _) | exact below_drewN _ (below_drewN _ (Below.refl _ _))))).mono ?_; rintro e w2 ⟨D2, d2, rfl, hE2, hd2, hb2⟩; have hbD := Below.andThen (show Below wr.heap.size wr _ by ((repeat (first | refine Below.drew ?_ | (with_reducible refine below_drewN _ ?_) | refine Below.alloc ?_ (by first | omega | (simp; done) | (simp; omega)) _ | refine Below.setCell ?_ (by first | omega | (simp; done) | (simp; omega)) _)); first | exact Below.refl _ _ | assumption | exact below_drewN _ (Below.refl _ _) | exact below_drewN _ (below_drewN _ (Below.refl _ _)))) hb2; have H2 := Lib.hid (And.intro hE2 hd2); clear hE2 hd2 hb2))
        clear a0 a4 e0 e2 e4
        go_wp2_with fail
        go_roundw
        case rel => exact ⟨j + 1, m2, D2, d2, rfl, by first | rfl | go_num, by have := HE.out.2.2; omega, HE.out.2.1, H2.out.1, H2.out.2, HE.out.1.trans (hbD.mono HE.out.1.size)⟩
        case measure =>
          have := HE.out.2.2
          show n - ((j : Int) + 1).toNat < n - (j : Int).toNat
          omega
      | none =>
        have hP := rdel6_c (p := y.1) (c := d) (c' := pc) z1 d1 hE pp hey.1 h1 h16 (by omega) (Nat.le_refl _) (Nat.le_trans hB hb.size) (by rw [hm]; exact hmd)
        have hdc : Tr.doL L (C.take (j + 1)) = Tr.delE y.1 (Tr.doL L (C.take j)) := by rw [hdo]; unfold Tr.doC; rw [hnew]
        rw [← hdc, hm, hnp] at hP
        obtain ⟨m2, hm2⟩ : ∃ m2, (Tr.doL L (C.take (j + 1))).length = m2 := ⟨_, rfl⟩
        rw [hm2] at hP
        rw [hnew] at e2
        replace e2 : wr.cell? ⟨q, off + j * 5 + 2, none⟩ = some (.bool false) := e2
        have HP := Lib.hid hP
        have HE := Lib.hid (And.intro hb (And.intro hm2 hlt))
        clear hP hb hm2 hlt hnp z1 d1 l1 hlt2 pp hey hE hm hmd hy zL dL hN hNl h hC hn hl h1 h16 hj hB hdo hdc hnew pl hq e1 e3 e4
        go_wp2_with (go_at_call 77; refine HP.out.mono ?_; rintro e w2 ⟨D2, d2, rfl, hE2, hd2, hb2⟩; have H2 := Lib.hid (And.intro hE2 (And.intro hd2 (Below.andThen HE.out.1 hb2))); clear hE2 hd2 hb2)
        go_roundw
        case rel => exact ⟨j + 1, m2, D2, d2, rfl, by first | rfl | go_num, by have := HE.out.2.2; omega, HE.out.2.1, H2.out.1, H2.out.2.1, H2.out.2.2⟩
        case measure =>
          have := HE.out.2.2
          show n - ((j : Int) + 1).toNat < n - (j : Int).toNat
          omega
    · have hjn : n = j := by omega
      subst hjn
      have f1 : decide ((n : Int) < (n : Int)) = false := decide_eq_false (by omega)
      have f1' : decide (n < n) = false := decide_eq_false (by omega)
      rw [show C.take n = C by rw [← HX.out.2.2.2.2.2.2.2.1, List.take_length]] at hm hE
      have HR := Lib.hid (And.intro hm (And.intro hE (And.intro hmd hb)))
      clear hm hE hmd hb hlt hj
      go_wp2_with fail
      go_ret
      exact ⟨D, d, m, rfl, HR.out.1, HR.out.2.1, HR.out.2.2.1, HR.out.2.2.2⟩
end Go.Proofs.YtpgkfccfabnjdaaGreatDoor
