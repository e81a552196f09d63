import Derived.Test.YtpgkfccfabnjdaaGreatDoorM9p
import Derived.Test.YtpgkfccfabnjdaaGreatDoorM13
import Derived.Test.YtpgkfccfabnjdaaGreatDoorM16
/-
  CONTRACTS of pantileref13.Heavy; of package edit, fourth part: Fits, Do.
-/
namespace Go.Proofs.YtpgkfccfabnjdaaGreatDoor
open Go.ChangeShapes Go.WideShapes Go.ChangeAt Go.RowKit
open Tr (T S4 Ent Chg Raw)

/-! ### Fits -/
theorem get_lastE {k : Nat} {o : Option T} (hwf : ∀ t, o = some t → Tr.Wf k t) {p : List Nat} (hp : p.length = k) (ho : Z.Ok p) : entO (Tr.pathT o p).getLast? = ((Tr.getE (Tr.entsO o) p).getD 0, (Tr.getE (Tr.entsO o) p).isSome) := by
  rcases Tr.path_chain hp ho 65 o (fun t e => ⟨hwf t e, by have := (hwf t e).lv64; omega⟩) with ⟨g, v0, L, h1, -, h3⟩ | ⟨h1, h2, h3⟩
  · rw [Tr.get_here hp ho hwf h3, show Tr.pathT o p = L ++ [.ent g p v0] from h1, List.getLast?_append]
    rfl
  · rw [Tr.get_none hp ho hwf h1 h2]
    rcases h3 with h3 | ⟨L, u, h3, h4⟩
    · rw [show Tr.pathT o p = [] from h3]; rfl
    · rw [show Tr.pathT o p = L ++ [u] from h3, List.getLast?_append]
      cases u with
      | ent g q v => exact h4.elim
      | br g l pre ks => rfl
theorem tGetE_c {w : World} {B b k : Nat} {o : Option T} (h : TreeAt w B b k o) (hB : B ≤ w.heap.size) {p : List Nat} {A : Option Addr} {c m : Nat} (hp : Pts w B A p) (hl : p.length = k) (hm : p.length = m) {g : Option Nat} (hg : Tr.getE (Tr.entsO o) p = g) :
    Calls Tryz.prog 68 #[.pointer (some ⟨b, 0, none⟩), .slice A m c] w fun e w' => e = .returned (.tuple #[.int .u64 ((g.getD 0 : Nat) : Int), .bool g.isSome, .int .i64 0]) ∧ Below w.heap.size w w' := by
  subst hm hg
  exact tGet_c h hB hp hl _ _ (get_lastE (nodeO_wf h.2.2.2.2) hl hp.1)
theorem opt_thing (x g : Option Nat) : (x.isSome == g.isSome && (((x.getD 0 : Nat) : Int) == ((g.getD 0 : Nat) : Int))) = decide (x = g) := by
  cases x with
  | none => cases g <;> simp
  | some a =>
    cases g with
    | none => simp
    | some b =>
      by_cases e : a = b
      · subst e; simp
      · rw [decide_eq_false (by simpa using e)]
        simp only [Option.isSome_some, Option.getD_some, beq_self_eq_true, Bool.true_and, beq_eq_false_iff_ne]
        omega
set_option maxRecDepth 1000000 in
set_option maxHeartbeats 4000000 in
theorem ed_fits {w : World} {b k : Nat} {o : Option T} (ht : TreeX w b k o) {A : Option Addr} {c n : Nat} {C : List Chg} (h : RwL w w.heap.size A (C.map Tr.rawC)) (hC : Tr.CL k C) (hn : C.length = n) (hl : n ≤ 1000000) {r : Bool} (hr : r = true ↔ Tr.FitsL (Tr.entsO o) C) :
    Calls Tryz.prog 24 #[.pointer (some ⟨b, 0, none⟩), .slice A n c] w fun e w' => e = .returned (.tuple #[.bool r, .int .i64 0]) ∧ Below w.heap.size w w' := by
  have HK := Lib.hid (tK_c ht.1.2.2.2.1)
  have HR := Lib.hid (ed_right (k : Int) (c := c) (n := n) h (Nat.le_refl _) (by rw [List.length_map]; exact hn) (by omega) (r := true) (by simpa using hC.right ht.1.2.1 ht.1.2.2.1))
  have HX := Lib.hid (And.intro ht (And.intro h (And.intro hC (And.intro hn hr))))
  have hn9 : (n : Int) ≤ 1000000 := by omega
  clear ht h hC hn hl hr
  go_enter Tryz.func24, Tryz.ntmps24
  go_wp2_with (first
    | (go_at_call 48; refine HK.out.mono ?_; rintro e w' ⟨rfl, rfl⟩)
    | (go_at_call 26; refine HR.out.mono ?_; rintro e w2 ⟨rfl, hb2⟩; have H2 := Lib.hid hb2; clear hb2))
  go_loopw [20] (fun v wr => ∃ (j : Nat), v = .int .i64 (j : Int) ∧ j ≤ n ∧ (∀ i c, i < j → C[i]? = some c → Tr.getE (Tr.entsO o) c.1 = c.2.1) ∧ Below w.heap.size w wr) (fun v _ => n - (intOf v).toNat)
  case atStart => exact ⟨0, rfl, Nat.zero_le _, fun i c hi => by omega, H2.out⟩
  case round =>
    obtain ⟨j, rfl, hj, hat, hbr⟩ := hrel
    by_cases hlt : j < n
    · obtain ⟨y, hy⟩ := get_lt (us := C) (k := j) (by rw [HX.out.2.2.2.1]; exact hlt)
      obtain ⟨q, off, P, pc, hA, hq, e0, e1, e2, e3, e4, pp, pl, -, -⟩ := (HX.out.2.1.below hbr (Nat.le_refl _) (Nat.le_refl _)).at (i := j) (r := Tr.rawC y) (by rw [List.getElem?_map, hy]; rfl)
      have hk := (HX.out.2.2.1.each y (List.mem_of_getElem? hy)).1
      obtain ⟨g, hg⟩ : ∃ g, Tr.getE (Tr.entsO o) y.1 = g := ⟨_, rfl⟩
      obtain ⟨m, hm⟩ : ∃ m, y.1.length = m := ⟨_, rfl⟩
      obtain ⟨d, hd⟩ : ∃ d, decide (y.2.1 = g) = d := ⟨_, rfl⟩
      have hot := opt_thing y.2.1 g
      rw [hd] at hot
      replace e0 : wr.cell? ⟨q, off + j * 5, none⟩ = some (.slice P m pc) := by rw [← hm]; exact e0
      replace e1 : wr.cell? ⟨q, off + j * 5 + 1, none⟩ = some (.bool y.2.1.isSome) := e1
      replace e2 : wr.cell? ⟨q, off + j * 5 + 2, none⟩ = some (.bool y.2.2.isSome) := e2
      replace e3 : wr.cell? ⟨q, off + j * 5 + 3, none⟩ = some (.int .u64 ((y.2.1.getD 0 : Nat) : Int)) := e3
      replace e4 : wr.cell? ⟨q, off + j * 5 + 4, none⟩ = some (.int .u64 ((y.2.2.getD 0 : Nat) : Int)) := e4
      obtain ⟨W1, hW1⟩ : ∃ W1, W1 = wr.alloc (.cells #[.slice P m pc, .bool y.2.1.isSome, .bool y.2.2.isSome, .int .u64 ((y.2.1.getD 0 : Nat) : Int), .int .u64 ((y.2.2.getD 0 : Nat) : Int)] 111) := ⟨_, rfl⟩
      have hb1 : Below wr.heap.size wr W1 := by rw [hW1]; exact below_alloc wr _
      have HG := Lib.hid (tGetE_c (c := pc) (HX.out.1.below (Below.andThen hbr hb1) (Nat.le_refl _)).1 (Nat.le_refl _) ((pp.below' hb1 hbr.size).keep (Below.andThen hbr hb1).size (fun _ _ => rfl)) hk hm hg)
      rw [hW1] at HG
      obtain ⟨s1, hs1⟩ : ∃ s, y.2.1.isSome = s := ⟨_, rfl⟩
      obtain ⟨s2, hs2⟩ : ∃ s, y.2.2.isSome = s := ⟨_, rfl⟩
      obtain ⟨v1, hv1⟩ : ∃ v, y.2.1.getD 0 = v := ⟨_, rfl⟩
      obtain ⟨v2, hv2⟩ : ∃ v, y.2.2.getD 0 = v := ⟨_, rfl⟩
      obtain ⟨s3, hs3⟩ : ∃ s, g.isSome = s := ⟨_, rfl⟩
      obtain ⟨v3, hv3⟩ : ∃ v, g.getD 0 = v := ⟨_, rfl⟩
      rw [hs1, hv1, hs3, hv3] at hot
      rw [hs1] at e1
      rw [hs2] at e2
      rw [hv1] at e3
      rw [hv2] at e4
      rw [hs1, hs2, hv1, hv2, hs3, hv3] at HG
      have hne : ∀ w2 : World, (binOp .neq 115 (.agg #[.bool s1, .int .u64 (v1 : Int)]) (.agg #[.bool s3, .int .u64 (v3 : Int)])).run Tryz.prog w2 = .ok (.bool (!d)) w2 := fun w2 => by rw [thing_neq, hot]
      have HH := Lib.hid fun w1 : World => ed_had P m pc s1 s2 v1 v2 w1
      have f1 : decide ((j : Int) < (n : Int)) = true := decide_eq_true (by omega)
      have f1' : decide (j < n) = true := decide_eq_true hlt
      have m1 : (0 : Int) ≤ (j : Int) := by omega
      have m2 : (j : Int) < (n : Int) := by omega
      have m3 : (j : Int) ≤ 1000000 := by omega
      have HY := Lib.hid (And.intro hy (And.intro hat (And.intro hbr (And.intro hg (And.intro hd hlt)))))
      subst hA
      clear hy hat hbr hg hd hm pp hlt hs1 hs2 hv1 hv2 hs3 hv3 hot hj pl hk hq hb1 hW1 W1
      cases d with
      | false =>
        go_wp2_with (first
          | (go_at_call 68; refine HG.out.mono ?_; rintro e w3 ⟨rfl, hb3⟩; have hrow3 := (hb3.block wr.heap.size (by simp)).trans (heap_at wr (.cells #[.slice P m pc, .bool s1, .bool s2, .int .u64 (v1 : Int), .int .u64 (v2 : Int)] 111) _ rfl); have z0 : w3.cell? ⟨wr.heap.size, 0, none⟩ = some (.slice P m pc) := (by rw [cell_of_row w3 _ _ _ _ (0, 0) hrow3]; rfl); have z1 : w3.cell? ⟨wr.heap.size, 1, none⟩ = some (.bool s1) := (by rw [cell_of_row w3 _ _ _ _ (0, 0) hrow3]; rfl); have z2 : w3.cell? ⟨wr.heap.size, 2, none⟩ = some (.bool s2) := (by rw [cell_of_row w3 _ _ _ _ (0, 0) hrow3]; rfl); have z3 : w3.cell? ⟨wr.heap.size, 3, none⟩ = some (.int .u64 (v1 : Int)) := (by rw [cell_of_row w3 _ _ _ _ (0, 0) hrow3]; rfl); have z4 : w3.cell? ⟨wr.heap.size, 4, none⟩ = some (.int .u64 (v2 : Int)) := (by rw [cell_of_row w3 _ _ _ _ (0, 0) hrow3]; rfl); have H3 := Lib.hid (Below.andThen (below_alloc wr _) hb3); clear hb3 hrow3)
          | (go_at_call 69; refine (HH.out _).mono ?_; rintro e w4 ⟨rfl, hb4⟩; have H4 := Lib.hid hb4; clear hb4 z0 z1 z2 z3 z4 e0 e1 e2 e3 e4))
        go_ret2
        have hrr : r = false := by
          have h1 := HX.out.2.2.2.2
          have h2 := HY.out.1
          have h3 := HY.out.2.2.2.1
          have h4 := HY.out.2.2.2.2.1
          cases r with
          | false => rfl
          | true => exact absurd (((h1.1 rfl) y (List.mem_of_getElem? h2)).symm.trans h3) (of_decide_eq_false h4)
        subst hrr
        exact ⟨rfl, HY.out.2.2.1.trans ((Below.andThen H3.out H4.out).mono HY.out.2.2.1.size)⟩
      | true =>
        go_wp2_with (first
          | (go_at_call 68; refine HG.out.mono ?_; rintro e w3 ⟨rfl, hb3⟩; have hrow3 := (hb3.block wr.heap.size (by simp)).trans (heap_at wr (.cells #[.slice P m pc, .bool s1, .bool s2, .int .u64 (v1 : Int), .int .u64 (v2 : Int)] 111) _ rfl); have z0 : w3.cell? ⟨wr.heap.size, 0, none⟩ = some (.slice P m pc) := (by rw [cell_of_row w3 _ _ _ _ (0, 0) hrow3]; rfl); have z1 : w3.cell? ⟨wr.heap.size, 1, none⟩ = some (.bool s1) := (by rw [cell_of_row w3 _ _ _ _ (0, 0) hrow3]; rfl); have z2 : w3.cell? ⟨wr.heap.size, 2, none⟩ = some (.bool s2) := (by rw [cell_of_row w3 _ _ _ _ (0, 0) hrow3]; rfl); have z3 : w3.cell? ⟨wr.heap.size, 3, none⟩ = some (.int .u64 (v1 : Int)) := (by rw [cell_of_row w3 _ _ _ _ (0, 0) hrow3]; rfl); have z4 : w3.cell? ⟨wr.heap.size, 4, none⟩ = some (.int .u64 (v2 : Int)) := (by rw [cell_of_row w3 _ _ _ _ (0, 0) hrow3]; rfl); have H3 := Lib.hid (Below.andThen (below_alloc wr _) hb3); clear hb3 hrow3)
          | (go_at_call 69; refine (HH.out _).mono ?_; rintro e w4 ⟨rfl, hb4⟩; have H4 := Lib.hid hb4; clear hb4 z0 z1 z2 z3 z4 e0 e1 e2 e3 e4))
        go_roundw
        case rel =>
          refine ⟨j + 1, by first | rfl | go_num, by have := HY.out.2.2.2.2.2; omega, fun i c hi hc => ?_, HY.out.2.2.1.trans ((Below.andThen H3.out H4.out).mono HY.out.2.2.1.size)⟩
          rcases Nat.lt_or_ge i j with h | h
          · exact HY.out.2.1 i c h hc
          · obtain rfl : i = j := by omega
            obtain rfl : y = c := Option.some.inj (HY.out.1.symm.trans hc)
            exact HY.out.2.2.2.1.trans (of_decide_eq_true HY.out.2.2.2.2.1).symm
        case measure =>
          have := HY.out.2.2.2.2.2
          show n - ((j : Int) + 1).toNat < n - (j : Int).toNat
          omega
    · have hjn : n = j := by omega
      subst hjn
      have f1 : decide ((n : Int) < (n : Int)) = false := decide_eq_false (by omega)
      have f1' : decide (n < n) = false := decide_eq_false (by omega)
      have HY := Lib.hid (And.intro hat hbr)
      clear hat hbr hlt hj
      go_wp2_with fail
      go_ret2
      have hrr := HX.out.2.2.2.2.2 fun c hc => by
        obtain ⟨i, hi⟩ := List.mem_iff_getElem?.1 hc
        exact HY.out.1 i c (by have := (List.getElem?_eq_some_iff.1 hi).1; have := HX.out.2.2.2.1; omega) hi
      subst hrr
      exact ⟨rfl, HY.out.2⟩
end Go.Proofs.YtpgkfccfabnjdaaGreatDoor

/-
  CONTRACTS of package edit, fifth part: Do.
-/
namespace Go.Proofs.YtpgkfccfabnjdaaGreatDoor
open Go.ChangeShapes Go.WideShapes Go.ChangeAt Go.RowKit
open Tr (T S4 Ent Chg Raw)

theorem tPut_turn {w : World} {b k : Nat} {o : Option T} (h : TreeX w b k o) {p : List Nat} {A : Option Addr} {c m : Nat} (hp : Pts w w.heap.size A p) (hl : p.length = k) (hm : p.length = m) {v : Nat} (hv : v < 18446744073709551616) (hN : (Tr.entsO o).length ≤ 4611686018427387904) (hne : Tr.getE (Tr.entsO o) p ≠ some v) :
    Calls Tryz.prog 38 #[.pointer (some ⟨b, 0, none⟩), .slice A m c, .int .u64 (v : Int)] w fun e w' => ∃ (n : Nat) (o' : Option T), e = .returned (.tuple #[.pointer (some ⟨n, 0, none⟩), .int .i64 0]) ∧ TreeX w' n k o' ∧ w.heap.size ≤ n ∧ Tr.entsO o' = Tr.putE p v (Tr.entsO o) ∧ Below w.heap.size w w' := by
  subst hm
  refine (tPut_c h.1 (Nat.le_refl _) hp hl v hv hN).mono ?_
  rintro e w' (⟨h1, -, -⟩ | ⟨-, n, t, he, hto, hb⟩)
  · exact absurd h1 hne
  · exact ⟨n, some t, he, hto.1, hto.2.1, hto.2.2.1, hb⟩
theorem tDel_turn {w : World} {b k : Nat} {o : Option T} (h : TreeX w b k o) {p : List Nat} {A : Option Addr} {c m : Nat} (hp : Pts w w.heap.size A p) (hl : p.length = k) (hm : p.length = m) (hN : (Tr.entsO o).length ≤ 4611686018427387904) (hne : Tr.getE (Tr.entsO o) p ≠ none) :
    Calls Tryz.prog 70 #[.pointer (some ⟨b, 0, none⟩), .slice A m c] w fun e w' => ∃ (n : Nat) (o' : Option T), e = .returned (.tuple #[.pointer (some ⟨n, 0, none⟩), .int .i64 0]) ∧ TreeX w' n k o' ∧ w.heap.size ≤ n ∧ Tr.entsO o' = Tr.delE p (Tr.entsO o) ∧ Below w.heap.size w w' := by
  subst hm
  refine (tDel_c h.1 (Nat.le_refl _) hp hl hN).mono ?_
  rintro e w' (⟨h1, -, -⟩ | ⟨-, n, o', he, hto, hb⟩)
  · exact absurd h1 hne
  · exact ⟨n, o', he, hto.1, hto.2.1, hto.2.2.1, hb⟩
set_option maxRecDepth 1000000 in
set_option maxHeartbeats 4000000 in
theorem ed_do {w : World} {b k : Nat} {o : Option T} (ht : TreeX w b k o) {A : Option Addr} {c n : Nat} {C : List Chg} (h : RwL w w.heap.size A (C.map Tr.rawC)) (hC : Tr.CL k C) (hn : C.length = n) (hl : n ≤ 1000000) (hN : (Tr.entsO o).length ≤ 1000000) (hf : Tr.FitsL (Tr.entsO o) C) :
    Calls Tryz.prog 25 #[.pointer (some ⟨b, 0, none⟩), .slice A n c] w fun e w' => ∃ (b' : Nat) (o' : Option T), e = .returned (.tuple #[.pointer (some ⟨b', 0, none⟩), .int .i64 0]) ∧ TreeX w' b' k o' ∧ Tr.entsO o' = Tr.doL (Tr.entsO o) C ∧ (n = 0 → b' = b) ∧ (0 < n → w.heap.size ≤ b') ∧ Below w.heap.size w w' := by
  have HF := Lib.hid (ed_fits (c := c) ht h hC hn hl (r := true) (by simpa using hf))
  obtain ⟨z0, d0⟩ := entsO_zs (k := k) (o := o) fun t e => (ht.1.2.2.2.2 t e).1
  have HX := Lib.hid (And.intro ht (And.intro h (And.intro hC (And.intro hn (And.intro hN (And.intro hf (And.intro z0 (And.intro d0 hl))))))))
  have hn9 : (n : Int) ≤ 1000000 := by omega
  clear ht h hC hn hl hN hf z0 d0
  go_enter Tryz.func25, Tryz.ntmps25
  go_wp2_with (go_at_call 24; refine HF.out.mono ?_; rintro e w2 ⟨rfl, hb2⟩; have H2 := Lib.hid hb2; clear hb2)
  go_loopw [0, 23] (fun t v wr => ∃ (j b' : Nat) (o' : Option T), t = .pointer (some ⟨b', 0, none⟩) ∧ v = .int .i64 (j : Int) ∧ j ≤ n ∧ TreeX wr b' k o' ∧ Tr.entsO o' = Tr.doL (Tr.entsO o) (C.take j) ∧ (j = 0 → b' = b) ∧ (0 < j → w.heap.size ≤ b') ∧ Below w.heap.size w wr) (fun _ v _ => n - (intOf v).toNat)
  case atStart => exact ⟨0, b, o, rfl, rfl, Nat.zero_le _, HX.out.1.below H2.out (Nat.le_refl _), rfl, fun _ => rfl, fun h => by omega, H2.out⟩
  case round =>
    obtain ⟨j, b', o', rfl, rfl, hj, ht', he', hb0, hb1, hbr⟩ := hrel
    by_cases hlt : j < n
    · obtain ⟨y, hy⟩ := get_lt (us := C) (k := j) (by rw [HX.out.2.2.2.1]; exact hlt)
      obtain ⟨q, off, P, pc, hA, hq, e0, e1, e2, e3, e4, pp, pl, -, -⟩ := (HX.out.2.1.below hbr (Nat.le_refl _) (Nat.le_refl _)).at (i := j) (r := Tr.rawC y) (by rw [List.getElem?_map, hy]; rfl)
      have hey := HX.out.2.2.1.each y (List.mem_of_getElem? hy)
      have hk := hey.1
      obtain ⟨m, hm⟩ : ∃ m, y.1.length = m := ⟨_, rfl⟩
      replace e0 : wr.cell? ⟨q, off + j * 5, none⟩ = some (.slice P m pc) := by rw [← hm]; exact e0
      replace e1 : wr.cell? ⟨q, off + j * 5 + 1, none⟩ = some (.bool y.2.1.isSome) := e1
      replace e2 : wr.cell? ⟨q, off + j * 5 + 2, none⟩ = some (.bool y.2.2.isSome) := e2
      replace e3 : wr.cell? ⟨q, off + j * 5 + 3, none⟩ = some (.int .u64 ((y.2.1.getD 0 : Nat) : Int)) := e3
      replace e4 : wr.cell? ⟨q, off + j * 5 + 4, none⟩ = some (.int .u64 ((y.2.2.getD 0 : Nat) : Int)) := e4
      obtain ⟨s1, hs1⟩ : ∃ s, y.2.1.isSome = s := ⟨_, rfl⟩
      obtain ⟨v1, hv1⟩ : ∃ v, y.2.1.getD 0 = v := ⟨_, rfl⟩
      rw [hs1] at e1
      rw [hv1] at e3
      clear hs1 hv1
      have hgt : Tr.getE (Tr.entsO o') y.1 = y.2.1 := by rw [he', Tr.getE_half HX.out.2.2.2.2.2.2.1 HX.out.2.2.2.2.2.2.2.1 HX.out.2.2.1 hy]; exact HX.out.2.2.2.2.2.1 y (List.mem_of_getElem? hy)
      have hlen : (Tr.entsO o').length ≤ 4611686018427387904 := by
        have h1 := (Tr.doL_zd HX.out.2.2.2.2.2.2.1 HX.out.2.2.2.2.2.2.2.1 (HX.out.2.2.1.take j)).2.2
        rw [← he', List.length_take] at h1
        have := HX.out.2.2.2.2.1
        have := HX.out.2.2.2.2.2.2.2.2
        omega
      have hdo : Tr.doL (Tr.entsO o) (C.take (j + 1)) = Tr.doC (Tr.entsO o') y := by rw [Tr.doL_take hy, ← he']
      have f1 : decide ((j : Int) < (n : Int)) = true := decide_eq_true (by omega)
      have f1' : decide (j < n) = true := decide_eq_true hlt
      have m1 : (0 : Int) ≤ (j : Int) := by omega
      have m2 : (j : Int) < (n : Int) := by omega
      have m3 : (j : Int) ≤ 1000000 := by omega
      cases hnew : y.2.2 with
      | some v =>
        rw [hnew] at e2 e4
        replace e2 : wr.cell? ⟨q, off + j * 5 + 2, none⟩ = some (.bool true) := e2
        replace e4 : wr.cell? ⟨q, off + j * 5 + 4, none⟩ = some (.int .u64 (v : Int)) := e4
        obtain ⟨W1, hW1⟩ : ∃ W1, W1 = wr.alloc (.cells #[.slice P m pc, .bool s1, .bool true, .int .u64 (v1 : Int), .int .u64 (v : Int)] 111) := ⟨_, rfl⟩
        have hb2 : Below wr.heap.size wr W1 := by rw [hW1]; exact below_alloc wr _
        have hP := tPut_turn (p := y.1) (c := pc) (ht'.below hb2 (Nat.le_refl _)) ((pp.below' hb2 hbr.size).keep (Below.andThen hbr hb2).size (fun _ _ => rfl)) hk hm (hey.2.2.2.2 v hnew) hlen (by rw [hgt]; intro e; exact hey.2.2.1 (e.trans hnew.symm))
        have hdc : Tr.doC (Tr.entsO o') y = Tr.putE y.1 v (Tr.entsO o') := by unfold Tr.doC; rw [hnew]
        rw [hW1] at hP
        have HP := Lib.hid hP
        have HY := Lib.hid (And.intro hbr (And.intro (hdo.trans hdc) (And.intro hlt hbr.size)))
        subst hA
        clear hy hbr hey hk hm pp pl hq hgt hlen hdo hdc hnew hW1 hb2 hP W1 hlt hj ht' he' hb0 hb1
        go_wp2_with (go_at_call 38; refine HP.out.mono ?_; rintro e w3 ⟨b3, o3, rfl, ht3, hle3, he3, hb3⟩; have H3 := Lib.hid (And.intro ht3 (And.intro hle3 (And.intro he3 (Below.andThen (below_alloc wr _) hb3)))); clear ht3 hle3 he3 hb3)
        go_roundw
        case rel => exact ⟨j + 1, b3, o3, by first | rfl | trivial, by first | rfl | go_num, by have := HY.out.2.2.1; omega, H3.out.1, by rw [HY.out.2.1]; exact H3.out.2.2.1, fun h => by omega, fun _ => by have := H3.out.2.1; have := HY.out.2.2.2; simp only [World.size_alloc] at *; omega, HY.out.1.trans (H3.out.2.2.2.mono HY.out.2.2.2)⟩
        case measure =>
          have := HY.out.2.2.1
          show n - ((j : Int) + 1).toNat < n - (j : Int).toNat
          omega
      | none =>
        rw [hnew] at e2 e4
        replace e2 : wr.cell? ⟨q, off + j * 5 + 2, none⟩ = some (.bool false) := e2
        replace e4 : wr.cell? ⟨q, off + j * 5 + 4, none⟩ = some (.int .u64 0) := e4
        obtain ⟨W1, hW1⟩ : ∃ W1, W1 = wr.alloc (.cells #[.slice P m pc, .bool s1, .bool false, .int .u64 (v1 : Int), .int .u64 0] 111) := ⟨_, rfl⟩
        have hb2 : Below wr.heap.size wr W1 := by rw [hW1]; exact below_alloc wr _
        have hP := tDel_turn (p := y.1) (c := pc) (ht'.below hb2 (Nat.le_refl _)) ((pp.below' hb2 hbr.size).keep (Below.andThen hbr hb2).size (fun _ _ => rfl)) hk hm hlen (by rw [hgt]; intro e; exact hey.2.2.1 (e.trans hnew.symm))
        have hdc : Tr.doC (Tr.entsO o') y = Tr.delE y.1 (Tr.entsO o') := by unfold Tr.doC; rw [hnew]
        rw [hW1] at hP
        have HP := Lib.hid hP
        have HY := Lib.hid (And.intro hbr (And.intro (hdo.trans hdc) (And.intro hlt hbr.size)))
        subst hA
        clear hy hbr hey hk hm pp pl hq hgt hlen hdo hdc hnew hW1 hb2 hP W1 hlt hj ht' he' hb0 hb1
        go_wp2_with (go_at_call 70; refine HP.out.mono ?_; rintro e w3 ⟨b3, o3, rfl, ht3, hle3, he3, hb3⟩; have H3 := Lib.hid (And.intro ht3 (And.intro hle3 (And.intro he3 (Below.andThen (below_alloc wr _) hb3)))); clear ht3 hle3 he3 hb3)
        go_roundw
        case rel => exact ⟨j + 1, b3, o3, by first | rfl | trivial, by first | rfl | go_num, by have := HY.out.2.2.1; omega, H3.out.1, by rw [HY.out.2.1]; exact H3.out.2.2.1, fun h => by omega, fun _ => by have := H3.out.2.1; have := HY.out.2.2.2; simp only [World.size_alloc] at *; omega, HY.out.1.trans (H3.out.2.2.2.mono HY.out.2.2.2)⟩
        case measure =>
          have := HY.out.2.2.1
          show n - ((j : Int) + 1).toNat < n - (j : Int).toNat
          omega
    · have hjn : n = j := by omega
      subst hjn
      have f1 : decide ((n : Int) < (n : Int)) = false := decide_eq_false (by omega)
      have f1' : decide (n < n) = false := decide_eq_false (by omega)
      rw [show C.take n = C by rw [← HX.out.2.2.2.1, List.take_length]] at he'
      have HY := Lib.hid (And.intro ht' (And.intro he' (And.intro hb0 (And.intro hb1 hbr))))
      clear ht' he' hb0 hb1 hbr hlt hj
      go_wp2_with fail
      go_ret2
      exact ⟨b', o', rfl, HY.out.1, HY.out.2.1, HY.out.2.2.1, HY.out.2.2.2.1, HY.out.2.2.2.2⟩
end Go.Proofs.YtpgkfccfabnjdaaGreatDoor
