import Derived.Test.YtpgkfccfabnjdaaM95
import Derived.Test.YtpgkfccfabnjdaaM16
/-
  DIFF: the second way of law 12: pantileref12.Points, Change, Changes.
-/
namespace Go.Proofs.Ytpgkfccfabnjdaa
open Go.ChangeShapes Go.WideShapes Go.ChangeAt Go.RowKit
open Tr (T S4 Ent Sd Fl Chg)

set_option maxRecDepth 100000 in
set_option maxHeartbeats 2000000 in
theorem r12points_c {w : World} {L M : List Ent} {A A' : Option Addr} {B c c' n n' k : Nat} (zL : Tr.ZS L) (dL : Tr.Dim k L) (dM : Tr.Dim k M) (hA : Ents w B A L) (hA' : Ents w B A' M) (hB : B ≤ w.heap.size) (hn : L.length = n) (hn' : M.length = n') (hc : n ≤ c) (h1 : 1 ≤ k) (h16 : k ≤ 16) (hl : n + n' ≤ 100000) :
    Calls Try.prog 42 #[.slice A n c, .slice A' n' c'] w fun e w' => ∃ D d N, e = .returned (.slice D N d) ∧ (Tr.ptsU L M).length = N ∧ EntL w' B w'.heap.size D (Tr.ptsU L M) ∧ N ≤ d ∧ Below w.heap.size w w' := by
  have hA0 := EntL.below (R := B) hA (Below.refl B w) (Nat.le_refl _) (Nat.le_refl _) hB
  have HX := Lib.hid (And.intro zL (And.intro dL (And.intro dM (And.intro hA0 (And.intro hA' (And.intro hn (And.intro hn' (And.intro hc (And.intro h1 (And.intro h16 (And.intro hl hB)))))))))))
  have hn9 : (n' : Int) ≤ 100000 := by omega
  clear zL dL dM hA hA0 hA' hn hn' hc h1 h16 hl hB
  go_enter Try.func42, Try.ntmps42
  go_wp2_with fail
  go_loopw [0, 5] (fun u v wr => ∃ (j m : Nat) (D : Option Addr) (d : Nat), u = .slice D m d ∧ v = .int .i64 (j : Int) ∧ j ≤ n' ∧ (Tr.ptsU L (M.take j)).length = m ∧ EntL wr B wr.heap.size D (Tr.ptsU L (M.take j)) ∧ m ≤ d ∧ Below w.heap.size w wr) (fun _ v _ => n' - (intOf v).toNat)
  case atStart => exact ⟨0, n, A, c, rfl, rfl, Nat.zero_le _, HX.out.2.2.2.2.2.1, HX.out.2.2.2.1, HX.out.2.2.2.2.2.2.2.1, Below.refl _ _⟩
  case round =>
    obtain ⟨j, m, D, d, rfl, rfl, hj, hm, hE, hmd, hb⟩ := hrel
    by_cases hlt : j < n'
    · obtain ⟨e, he⟩ := get_lt (us := M) (k := j) (by rw [HX.out.2.2.2.2.2.2.1]; exact hlt)
      obtain ⟨zL, dL, dM, hA, hA', hn, hn', hc, h1, h16, hl, hB⟩ := HX.out
      have hde := dM e (List.mem_of_getElem? he)
      obtain ⟨b, off, P, pc, hAA, hbl, v0, -, pp, -, -⟩ := (EntL.below (R := B) hA' hb hB hB (Nat.le_refl _)).at he
      subst hAA
      obtain ⟨z1, d1, l1, -⟩ := Tr.ptsU_zs (M := M.take j) zL dL (fun x hx => dM x (List.mem_of_mem_take hx))
      have hlt2 : (M.take j).length ≤ n' := by rw [List.length_take]; omega
      obtain ⟨np, hnp⟩ : ∃ np, e.1.length = np := ⟨_, rfl⟩
      have hP := rput6_c (c := d) (c' := pc) z1 d1 hE pp hde.1 h1 h16 (by omega) (Nat.le_refl _) (Nat.le_trans hB hb.size) (by rw [hm]; exact hmd) 0 (by omega)
      rw [← Tr.ptsU_take he, hm, hnp] at hP
      obtain ⟨m2, hm2⟩ : ∃ m2, (Tr.ptsU L (M.take (j + 1))).length = m2 := ⟨_, rfl⟩
      rw [hm2] at hP
      rw [hnp] at v0
      have HP := Lib.hid hP
      have HE := Lib.hid (And.intro hb (And.intro hm2 hlt))
      have f1 : decide ((j : Int) < (n' : Int)) = true := decide_eq_true (by omega)
      have f1' : decide (j < n') = true := decide_eq_true hlt
      have n1 : (0 : Int) ≤ (j : Int) := by omega
      have n2 : (j : Int) < (n' : Int) := by omega
      have n3 : (j : Int) ≤ 100000 := by omega
      clear hP hb hm2 hlt hnp z1 d1 l1 hlt2 pp hde hE hm hmd he zL dL dM hA hA' hn hn' hc h1 h16 hl hj hbl hB
      go_wp2_with fail
      refine HP.out.mono ?_
      rintro e' w2 ⟨D2, d2, rfl, hE2, hd2, hb2⟩
      have H2 := Lib.hid (And.intro hE2 (And.intro hd2 (Below.andThen HE.out.1 hb2)))
      clear hE2 hd2 hb2 HP
      go_wp2_with fail
      go_roundw
      case rel => exact ⟨j + 1, m2, D2, d2, rfl, by first | rfl | go_num, by have := HE.out.2.2; omega, HE.out.2.1, H2.out.1, H2.out.2.1, H2.out.2.2⟩
      case measure =>
        have := HE.out.2.2
        show n' - ((j : Int) + 1).toNat < n' - (j : Int).toNat
        omega
    · have hjn : n' = j := by omega
      subst hjn
      have f1 : decide ((n' : Int) < (n' : Int)) = false := decide_eq_false (by omega)
      have f1' : decide (n' < n') = false := decide_eq_false (by omega)
      rw [show M.take n' = M by rw [← HX.out.2.2.2.2.2.2.1, List.take_length]] at hm hE
      have HR := Lib.hid (And.intro hm (And.intro hE (And.intro hmd hb)))
      clear hm hE hmd hb hlt hj
      go_wp2_with fail
      go_ret
      exact ⟨D, d, m, rfl, HR.out.1, HR.out.2.1, HR.out.2.2.1, HR.out.2.2.2⟩
set_option maxRecDepth 100000 in
set_option maxHeartbeats 2000000 in
theorem r12change_c {w : World} {L M : List Ent} {A A' P : Option Addr} {c c' n n' k np cp : Nat} {p : List Nat} (zL : Tr.ZS L) (dL : Tr.Dim k L) (zM : Tr.ZS M) (dM : Tr.Dim k M) (hA : Ents w w.heap.size A L) (hA' : Ents w w.heap.size A' M) (hn : L.length = n) (hn' : M.length = n') (h1 : 1 ≤ k) (h16 : k ≤ 16) (hl : n + n' ≤ 100000)
    (hp : Pts w w.heap.size P p) (hpl : p.length = k) (hnp : p.length = np) {g g' : Option Nat} (hg : Tr.getE L p = g) (hg' : Tr.getE M p = g') {r : Bool} (hr : r = decide (g ≠ g')) :
    Calls Try.prog 43 #[.slice A n c, .slice A' n' c', .slice P np cp] w fun e w' => e = .returned (.tuple #[.agg #[.slice P np cp, .bool g.isSome, .bool g'.isSome, .int .u64 ((g.getD 0 : Nat) : Int), .int .u64 ((g'.getD 0 : Nat) : Int)], .bool r]) ∧ Below w.heap.size w w' := by
  have hal := below_alloc w (.cells #[.slice none 0 0, .bool false, .bool false, .int .u64 0, .int .u64 0] 43)
  have HG1 := rget6_c (c := c) (c' := cp) zL dL (Ents.below hA hal (Nat.le_refl _) (Nat.le_refl _)) (hp.below' hal (Nat.le_refl _)) hpl h1 h16 (by omega) g hg
  have HG2 := rget6_c (c := c') (c' := cp) zM dM (Ents.below hA' hal (Nat.le_refl _) (Nat.le_refl _)) (hp.below' hal (Nat.le_refl _)) hpl h1 h16 (by omega) g' hg'
  rw [hn, hnp] at HG1
  rw [hn', hnp] at HG2
  have HG1 := Lib.hid HG1
  have HG2 := Lib.hid HG2
  have HB := Lib.hid hal
  clear zL dL zM dM hA hA' hn hn' h1 h16 hl hp hpl hnp hg hg' hal
  go_enter Try.func43, Try.ntmps43
  cases g with
  | none =>
    cases g' with
    | none =>
      have hr2 : r = false := by rw [hr]; simp
      clear hr
      subst hr2
      simp only [Option.isSome_none, Option.getD_none] at HG1 HG2 ⊢
      go_wp2_with fail
      refine HG1.out.mono ?_
      rintro e w' ⟨rfl, rfl⟩
      go_wp2_with fail
      refine HG2.out.mono ?_
      rintro e w' ⟨rfl, rfl⟩
      go_wp2_with fail
      refine bodyPost_ret (v := .tuple #[.agg #[.slice P np cp, .bool false, .bool false, .int .u64 0, .int .u64 0], .bool false]) (by simp [results, Try.results43, go_sem]) rfl ?_
      exact ⟨rfl, below_alloc w _⟩
    | some y =>
      have hr2 : r = true := by rw [hr]; simp
      clear hr
      subst hr2
      simp only [Option.isSome_none, Option.isSome_some, Option.getD_none, Option.getD_some] at HG1 HG2 ⊢
      go_wp2_with fail
      refine HG1.out.mono ?_
      rintro e w' ⟨rfl, rfl⟩
      go_wp2_with fail
      refine HG2.out.mono ?_
      rintro e w' ⟨rfl, rfl⟩
      go_wp2_with fail
      refine bodyPost_ret (v := .tuple #[.agg #[.slice P np cp, .bool false, .bool true, .int .u64 0, .int .u64 (y : Int)], .bool true]) (by simp [results, Try.results43, go_sem]) rfl ?_
      exact ⟨rfl, below_alloc w _⟩
  | some x =>
    cases g' with
    | none =>
      have hr2 : r = true := by rw [hr]; simp
      clear hr
      subst hr2
      simp only [Option.isSome_none, Option.isSome_some, Option.getD_none, Option.getD_some] at HG1 HG2 ⊢
      go_wp2_with fail
      refine HG1.out.mono ?_
      rintro e w' ⟨rfl, rfl⟩
      go_wp2_with fail
      refine HG2.out.mono ?_
      rintro e w' ⟨rfl, rfl⟩
      go_wp2_with fail
      refine bodyPost_ret (v := .tuple #[.agg #[.slice P np cp, .bool true, .bool false, .int .u64 (x : Int), .int .u64 0], .bool true]) (by simp [results, Try.results43, go_sem]) rfl ?_
      exact ⟨rfl, below_alloc w _⟩
    | some y =>
      by_cases hxy : x = y
      · subst hxy
        have hr2 : r = false := by rw [hr]; simp
        clear hr
        subst hr2
        simp only [Option.isSome_some, Option.getD_some] at HG1 HG2 ⊢
        go_wp2_with fail
        refine HG1.out.mono ?_
        rintro e w' ⟨rfl, rfl⟩
        go_wp2_with fail
        refine HG2.out.mono ?_
        rintro e w' ⟨rfl, rfl⟩
        go_wp2_with fail
        refine bodyPost_ret (v := .tuple #[.agg #[.slice P np cp, .bool true, .bool true, .int .u64 (x : Int), .int .u64 (x : Int)], .bool false]) (by simp [results, Try.results43, go_sem]) rfl ?_
        exact ⟨rfl, below_alloc w _⟩
      · have hr2 : r = true := by rw [hr]; simpa using hxy
        clear hr
        subst hr2
        have n1 : ((x : Int) != (y : Int)) = true := by rw [bne_iff_ne]; omega
        have n1' : ((x : Int) == (y : Int)) = false := by rw [beq_eq_false_iff_ne]; omega
        simp only [Option.isSome_some, Option.getD_some] at HG1 HG2 ⊢
        clear hxy
        go_wp2_with fail
        refine HG1.out.mono ?_
        rintro e w' ⟨rfl, rfl⟩
        go_wp2_with fail
        refine HG2.out.mono ?_
        rintro e w' ⟨rfl, rfl⟩
        go_wp2_with fail
        refine bodyPost_ret (v := .tuple #[.agg #[.slice P np cp, .bool true, .bool true, .int .u64 (x : Int), .int .u64 (y : Int)], .bool true]) (by simp [results, Try.results43, go_sem]) rfl ?_
        exact ⟨rfl, below_alloc w _⟩
end Go.Proofs.Ytpgkfccfabnjdaa

/-
  DIFF: pantileref12.Changes, Swapped.
-/
namespace Go.Proofs.Ytpgkfccfabnjdaa
open Go.ChangeShapes Go.WideShapes Go.ChangeAt Go.RowKit
open Tr (T S4 Ent Sd Fl Chg)

theorem filterMap_take {α β : Type} (f : α → Option β) {U : List α} {j : Nat} {e : α} (h : U[j]? = some e) : (U.take (j + 1)).filterMap f = (U.take j).filterMap f ++ (f e).toList := by
  rw [List.take_add_one, h, List.filterMap_append]
  cases hf : f e <;> simp [hf]
theorem ApI.later {w5 W W' : World} {base : Nat} {D : Nat → Prop} {V0 R : Option Addr} {n c : Nat} {L : List Chg} (h : ApI w5 base D V0 n R c L W) (hb : Below W.heap.size W W') : ApI w5 base D V0 n R c L W' :=
  ⟨h.row.below hb, h.foot.trans (Foot.of_below (F := fun b => V0.map (·.block) = some b) hb) (fun _ hb => .inl hb), h.at_, h.len⟩
theorem ptsG_of {w : World} {B : Nat} {A : Option Addr} {us : List Nat} (h : Pts w B A us) (hB : B ≤ w.heap.size) : PtsG w (fun b => b < B) A us :=
  ⟨h.1, fun hn => by obtain ⟨b, off, h1, h3, h4⟩ := h.2 hn; exact ⟨b, off, h1, h3, Nat.lt_of_lt_of_le h3 hB, h4⟩⟩
theorem getE_lt {k : Nat} {L : List Ent} (zL : Tr.ZS L) (dL : Tr.Dim k L) {p : List Nat} {g : Option Nat} (hp : p.length = k) (ho : Z.Ok p) (h : Tr.getE L p = g) : g.getD 0 < 18446744073709551616 := by
  cases g with
  | none => show 0 < _; omega
  | some v => exact (dL _ ((Tr.getE_iff zL dL hp ho).1 h)).2.2
set_option maxRecDepth 100000 in
set_option maxHeartbeats 4000000 in
theorem r12changes_c {w : World} {L M : List Ent} {A A' : Option Addr} {c c' n n' k : Nat} (zL : Tr.ZS L) (dL : Tr.Dim k L) (zM : Tr.ZS M) (dM : Tr.Dim k M) (hA : Ents w w.heap.size A L) (hA' : Ents w w.heap.size A' M) (hn : L.length = n) (hn' : M.length = n') (hc : n ≤ c) (h1 : 1 ≤ k) (h16 : k ≤ 16) (hl : n + n' ≤ 100000) {C : List Chg} (hC : Tr.chL L M = C) {N : Nat} (hN : C.length = N) :
    Calls Try.prog 26 #[.slice A n c, .slice A' n' c'] w fun e w' => ∃ D d, e = .returned (.slice D N d) ∧ Chs w' D C ∧ Below w.heap.size w w' := by
  have hal := below_alloc w (.cells #[] 43)
  have hmt := heap_at w (.cells #[] 43) _ rfl
  have HP := Lib.hid (r12points_c (w := w.alloc (.cells #[] 43)) (B := w.heap.size) (c := c) (c' := c') zL dL dM (Ents.below hA hal (Nat.le_refl _) (Nat.le_refl _)) (Ents.below hA' hal (Nat.le_refl _) (Nat.le_refl _)) hal.size hn hn' hc h1 h16 hl)
  have ho0 : OwnL 43 5 (ChG (w.alloc (.cells #[] 43)) fun b => b < w.heap.size) (w.alloc (.cells #[] 43)) w.heap.size (.slice (some ⟨w.heap.size, 0, none⟩) 0 0) [] := ownL_nil _ w
  obtain ⟨zU, dU, lU, -⟩ := Tr.ptsU_zs zL dL dM
  have HX := Lib.hid (And.intro zL (And.intro dL (And.intro zM (And.intro dM (And.intro hA (And.intro hA' (And.intro hn (And.intro hn' (And.intro h1 (And.intro h16 hl))))))))))
  have HC := Lib.hid (And.intro hC (And.intro hN (And.intro dU lU)))
  have HB0 := Lib.hid (And.intro hal (And.intro hmt ho0))
  clear zL dL zM dM hA hA' hn hn' hc h1 h16 hl hal hmt ho0 zU dU lU hC hN
  go_enter Try.func26, Try.ntmps26
  go_wp2_with fail
  refine HP.out.mono ?_
  rintro e w2 ⟨D2, d2, N2, rfl, hN2, hE2, hd2, hb2⟩
  have hB2 := Below.andThen HB0.out.1 hb2
  have hst : ApI w2 0 (fun b => b < w.heap.size) (some ⟨w.heap.size, 0, none⟩) 0 (some ⟨w.heap.size, 0, none⟩) 0 [] w2 := by
    refine ⟨⟨((HB0.out.2.2.mono (Nat.zero_le _)).below hb2 (Nat.le_refl _)).imp (ChG.step hb2.size fun b hlt hD => ⟨hb2.block b hlt, hD⟩), fun b hD => ⟨Nat.zero_le _, Nat.lt_of_lt_of_le hD hB2.size, fun e => ?_⟩⟩, Foot.of_below (Below.refl _ _), .inl rfl, rfl⟩
    simp only [Option.map_some, Option.some.injEq] at e
    omega
  have hmt2 := (hb2.block w.heap.size (by simp)).trans HB0.out.2.1
  have H2 := Lib.hid (And.intro hN2 (And.intro hE2 (And.intro hB2 hmt2)))
  have hn2 : (N2 : Int) ≤ 100000 := by have := HC.out.2.2.2; have := HX.out.2.2.2.2.2.2; omega
  have HS := Lib.hid hst
  clear hN2 hE2 hd2 hb2 hB2 hmt2 hst HP
  go_wp2_with fail
  go_loopw [5, 7] (fun u v wr => ∃ (j m : Nat) (D : Option Addr) (d : Nat), u = .slice D m d ∧ v = .int .i64 (j : Int) ∧ j ≤ N2 ∧ ApI w2 0 (fun b => b < w.heap.size) (some ⟨w.heap.size, 0, none⟩) m D d (((Tr.ptsU L M).take j).filterMap fun e => Tr.chgAt L M e.1) wr) (fun _ v _ => N2 - (intOf v).toNat)
  case atStart => exact ⟨0, 0, _, 0, rfl, rfl, Nat.zero_le _, HS.out⟩
  case round =>
    clear HS
    obtain ⟨j, m, D, d, rfl, rfl, hj, hI⟩ := hrel
    by_cases hlt : j < N2
    · obtain ⟨e, he⟩ := get_lt (us := Tr.ptsU L M) (k := j) (by rw [H2.out.1]; exact hlt)
      have hde := HC.out.2.2.1 e (List.mem_of_getElem? he)
      obtain ⟨b, off, P, pc, hAA, hbl, v0, -, pp, -, -⟩ := H2.out.2.1.at he
      have hbne : b ≠ w.heap.size := fun e => by
        subst e
        rw [cell_of_row w2 _ _ _ _ (0, 0) H2.out.2.2.2] at v0
        simp at v0
      subst hAA
      have hbw : Below w.heap.size w2 wr := hI.foot.below H2.out.2.2.1.size (fun b hb => by simp only [Option.map_some, Option.some.injEq] at hb; omega)
      have hBw := H2.out.2.2.1.trans hbw
      obtain ⟨np, hnp⟩ : ∃ np, e.1.length = np := ⟨_, rfl⟩
      rw [hnp] at v0
      have z0 : wr.cell? ⟨b, off + j * 2, none⟩ = some (.slice P np pc) := (World.cell?_of_block (a := ⟨b, _, none⟩) (hI.foot.block b hbl (fun e => hbne (by simp only [Option.map_some, Option.some.injEq] at e; exact e.symm)))).trans v0
      have ppw : Pts wr w.heap.size P e.1 := pp.below' hbw (Nat.le_refl _)
      obtain ⟨g, hg⟩ : ∃ g, Tr.getE L e.1 = g := ⟨_, rfl⟩
      obtain ⟨g', hg'⟩ : ∃ g', Tr.getE M e.1 = g' := ⟨_, rfl⟩
      obtain ⟨zL, dL, zM, dM, hA, hA', hn, hn', h1, h16, hl⟩ := HX.out
      obtain ⟨r, hr⟩ : ∃ r, r = decide (g ≠ g') := ⟨_, rfl⟩
      have HCh := Lib.hid (r12change_c (c := c) (c' := c') (cp := pc) zL dL zM dM (Ents.below hA hBw (Nat.le_refl _) hBw.size) (Ents.below hA' hBw (Nat.le_refl _) hBw.size) hn hn' h1 h16 hl (ppw.keep hBw.size (fun _ _ => rfl)) hde.1 hnp hg hg' hr)
      have hlt1 := getE_lt zL dL hde.1 hde.2.1 hg
      have hlt2 := getE_lt zM dM hde.1 hde.2.1 hg'
      have hfe : Tr.chgAt L M e.1 = if g = g' then none else some (e.1, g, g') := by unfold Tr.chgAt; rw [hg, hg']
      have hpg : PtsG wr (fun b => b < w.heap.size) P e.1 := ptsG_of ppw hBw.size
      have HE := Lib.hid (And.intro he (And.intro hfe (And.intro hr (And.intro hlt1 (And.intro hlt2 (And.intro hpg (And.intro hnp (And.intro hlt (show np ≤ 16 by rw [← hnp, hde.1]; exact h16)))))))))
      have HI := Lib.hid hI
      have f1 : decide ((j : Int) < (N2 : Int)) = true := decide_eq_true (by omega)
      have f1' : decide (j < N2) = true := decide_eq_true hlt
      have n1 : (0 : Int) ≤ (j : Int) := by omega
      have n2 : (j : Int) < (N2 : Int) := by omega
      have n3 : (j : Int) ≤ 100000 := by omega
      have hln := hI.len
      have hml : m ≤ j := by
        rw [← hln]
        exact Nat.le_trans (List.length_filterMap_le _ _) (by rw [List.length_take]; omega)
      have HM := Lib.hid (And.intro hln hml)
      clear hI hde hbl v0 pp hbne hbw hBw ppw hg hg' zL dL zM dM hA hA' hn hn' h1 h16 hl hr hlt1 hlt2 hfe hpg hnp hlt he hj hln hml
      obtain ⟨s1, hs1⟩ : ∃ s, g.isSome = s := ⟨_, rfl⟩
      obtain ⟨s2, hs2⟩ : ∃ s, g'.isSome = s := ⟨_, rfl⟩
      obtain ⟨v1, hv1⟩ : ∃ v, g.getD 0 = v := ⟨_, rfl⟩
      obtain ⟨v2, hv2⟩ : ∃ v, g'.getD 0 = v := ⟨_, rfl⟩
      rw [hs1, hs2, hv1, hv2] at HCh
      have HV := Lib.hid (And.intro hs1 (And.intro hs2 (And.intro hv1 hv2)))
      clear hs1 hs2 hv1 hv2
      go_wp2_with fail
      refine HCh.out.mono ?_
      rintro e' w3 ⟨rfl, hb3⟩
      have HB1 := Lib.hid (Below.andThen hb3 (below_alloc w3 (.cells #[.slice P np pc, .bool s1, .bool s2, .int .u64 (v1 : Int), .int .u64 (v2 : Int)] 43)))
      have HB2 := Lib.hid (Below.andThen HB1.out (below_alloc (w3.alloc (.cells #[.slice P np pc, .bool s1, .bool s2, .int .u64 (v1 : Int), .int .u64 (v2 : Int)] 43)) (.cells #[.slice P np pc, .bool s1, .bool s2, .int .u64 (v1 : Int), .int .u64 (v2 : Int)] 43)))
      clear hb3 HCh z0
      cases r with
      | false =>
        go_wp2_with fail
        go_roundw
        case rel =>
          refine ⟨j + 1, m, D, d, rfl, by first | rfl | go_num, by have := HE.out.2.2.2.2.2.2.2.1; omega, ?_⟩
          have hgg : g = g' := by have := HE.out.2.2.1; simpa using this
          rw [filterMap_take _ HE.out.1, HE.out.2.1, if_pos hgg, Option.toList_none, List.append_nil]
          exact HI.out.later HB1.out
        case measure =>
          have := HE.out.2.2.2.2.2.2.2.1
          show N2 - ((j : Int) + 1).toNat < N2 - (j : Int).toNat
          omega
      | true =>
        go_wp2_with (at_builtin; refine wpList_append_list (Q := ChG wr fun b => b < w.heap.size) 22 43 (.agg #[.slice none 0 0, .bool false, .bool false, .int .u64 0, .int .u64 0]) 48 Try.underlying22 infoChg (by rfl) (by omega) (by omega) (chG_ok _ _) (by rfl) _ _ (by rfl) 0 (.slice D m d) (((Tr.ptsU L M).take j).filterMap fun e => Tr.chgAt L M e.1) [((e.1, g, g') : Chg)] (m + 1) (by rw [HM.out.1]; rfl) (by rfl) (by exact HI.out.own HB2.out) _ _ 1 1 (by rfl) (by rfl) (by exact lst_next2 (chG_ok _ _) _ #[.slice P np pc, .bool s1, .bool s2, .int .u64 (v1 : Int), .int .u64 (v2 : Int)] ((e.1, g, g') : Chg) (by rfl) (by exact ⟨P, pc, by rw [← HE.out.2.2.2.2.2.2.1]; rfl, by rw [← HV.out.1]; rfl, by rw [← HV.out.2.1]; rfl, by rw [← HV.out.2.2.1]; rfl, by rw [← HV.out.2.2.2]; rfl, HE.out.2.2.2.2.2.1, by have := HE.out.2.2.2.2.2.2.2.2; rw [← HE.out.2.2.2.2.2.2.1] at this; unfold maxLen; show e.1.length ≤ _; omega, HE.out.2.2.2.1, HE.out.2.2.2.2.1⟩)) (by have := HM.out.2; have := HE.out.2.2.2.2.2.2.2.1; omega) (by omega) ?_; intro D5 d5 w6 hown5 hgrow5 hat5; have HN := Lib.hid (HI.out.step (Nat.zero_le _) HB2.out hown5 hgrow5 hat5); clear hown5 hgrow5 hat5)
        go_roundw
        case rel =>
          refine ⟨j + 1, m + 1, D5, d5, rfl, by first | rfl | go_num, by have := HE.out.2.2.2.2.2.2.2.1; omega, ?_⟩
          have hgg : g ≠ g' := by have := HE.out.2.2.1; simpa using this
          rw [filterMap_take _ HE.out.1, HE.out.2.1, if_neg hgg, Option.toList_some]
          exact HN.out
        case measure =>
          have := HE.out.2.2.2.2.2.2.2.1
          show N2 - ((j : Int) + 1).toNat < N2 - (j : Int).toNat
          omega
    · have hjn : N2 = j := by omega
      subst hjn
      have f1 : decide ((N2 : Int) < (N2 : Int)) = false := decide_eq_false (by omega)
      have f1' : decide (N2 < N2) = false := decide_eq_false (by omega)
      have hU : ((Tr.ptsU L M).take N2).filterMap (fun e => Tr.chgAt L M e.1) = C := by
        rw [show (Tr.ptsU L M).take N2 = Tr.ptsU L M by rw [← H2.out.1, List.take_length]]
        exact HC.out.1
      rw [hU] at hI
      have hmN : N = m := by rw [← HC.out.2.1]; exact hI.len
      subst hmN
      have hch : Chs wr D C := by
        have h := hI.row.row
        rw [HC.out.2.1] at h
        exact chG_own h
      have hbw : Below w.heap.size w2 wr := hI.foot.below H2.out.2.2.1.size (fun b hb => by simp only [Option.map_some, Option.some.injEq] at hb; omega)
      have HR := Lib.hid (And.intro hch (H2.out.2.2.1.trans hbw))
      clear hI hU hch hbw hlt hj
      go_wp2_with fail
      go_ret
      exact ⟨D, d, rfl, HR.out.1, HR.out.2⟩
end Go.Proofs.Ytpgkfccfabnjdaa
