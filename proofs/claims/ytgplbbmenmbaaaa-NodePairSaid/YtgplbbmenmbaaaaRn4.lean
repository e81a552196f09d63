/-
  CONTRACTS of package pantileref06, fourth part: Kids.
-/
import Derived.Test.YtgplbbmenmbaaaaRn2
import Derived.Test.YtgplbbmenmbaaaaTp
namespace Go.Proofs.Ytgplbbmenmbaaaa
open Go.ChangeShapes Go.WideShapes Go.ChangeAt Go.RowKit
open Tr (T S4 Ent)

/-- append of whatever can be read onto a row of the call's own, elements of any size -/
theorem wpList_append_wide {w : World} {ops : Array Oper} {rest : List Oper} {o : Oper} {a : Act} {Q : Exit → Act → World → Prop} (t e : TypeId) (z : Value) (sz : Nat) (hu : Try.prog.underlying t = some (.slice e)) (hinfo : (Try.prog.info? e).map (fun i => (i.zero, i.size, i.bytes)) = some (some z, 1, sz)) (hzc : z.cells.size = 1) (hsz : sz ≤ 1000)
    (hgd : o.guard = none) (s x : Operand) (ho : o.op = .call { callee := .builtin .append, args := #[s, x], argTypes := #[t, t] }) (base : Nat) (v : Value) (vs : List Value) (y : Value) (hs : a.eval s = v) (hown : OwnV e w base v vs)
    (B b : Nat) (hx : a.eval x = .slice (some ⟨b, 0, none⟩) 1 1) (hp : RdV w B (some ⟨b, 0, none⟩) [y]) (h1 : y.oneCell' = true) (hlen : vs.length ≤ 8000000000) (hbase : base ≤ w.heap.size)
    (h : ∀ v' w', OwnV e w' base v' (vs ++ [y]) → w.grownBy w' v.ownBlock → (v'.ownBlock = v.ownBlock ∨ v'.ownBlock = some w.heap.size) → wpList Try.prog ops Q rest (a.put o.dst v') w') : wpList Try.prog ops Q (o :: rest) a w := by
  obtain ⟨i0, hi0, hz0, hz1, hz2⟩ := info_parts hinfo
  have hb : (vs.length + 1) * sz ≤ 140737488355328 := Nat.le_trans (Nat.mul_le_mul (show vs.length + 1 ≤ 8000000001 by omega) hsz) (by omega)
  have hall : ∀ u ∈ vs ++ [y], u.oneCell' = true := fun u hu => by
    rcases List.mem_append.1 hu with h2 | h2
    · exact hown.1 u h2
    · rw [List.mem_singleton] at h2; rw [h2]; exact h1
  have hl : (vs ++ [y]).length = vs.length + 1 := by simp
  refine wpList_append_own_at w hgd s x t ho base e i0 z 1 sz hu hi0 hz0 hz1 hz2 hzc (by decide) v vs.length vs hs hown.2 ⟨b, 0, none⟩ 1 1 [y] hx (by simp) ?_ (fun u hu => by rw [List.mem_singleton] at hu; rw [hu]; exact h1) (by unfold maxLen; omega) hb hbase ?_
  · intro j u hj
    obtain ⟨b', off, hA, _, hc⟩ := hp (by simp)
    cases hA
    rw [Go.WideShapes.add_plain]
    exact hc j u hj
  · intro v' w' g1 g2 _ g4
    exact h v' w' ⟨hall, by rw [hl]; exact g1⟩ g2 g4
theorem infoE : (Try.prog.info? 22).map (fun i => (i.zero, i.size, i.bytes)) = some (some (.slice none 0 0), 1, 24) := by kernel_rfl

/-- the lists of the kids, each a part of the list of all -/
def kidV (b off c : Nat) (ks : List (Nat × T)) (m : Nat) : Value := .slice (some ⟨b, off + Tr.offK ks m * 2, none⟩) ((ks[m]?.map fun x => x.2.ents.length).getD 0) (c - Tr.offK ks m)
def kidsV (b off c : Nat) (ks : List (Nat × T)) (m : Nat) : List Value := (List.range m).map (kidV b off c ks)
theorem kidsV_succ (b off c : Nat) (ks : List (Nat × T)) (m : Nat) : kidsV b off c ks (m + 1) = kidsV b off c ks m ++ [kidV b off c ks m] := by simp [kidsV, List.range_succ]
theorem kidsV_length (b off c : Nat) (ks : List (Nat × T)) (m : Nat) : (kidsV b off c ks m).length = m := by simp [kidsV]
theorem kidsV_get (b off c : Nat) (ks : List (Nat × T)) {m i : Nat} (hi : i < m) : (kidsV b off c ks m)[i]? = some (kidV b off c ks i) := by simp [kidsV, hi]
theorem kidV_at (b off c : Nat) {ks : List (Nat × T)} {m : Nat} {x : Nat × T} (h : ks[m]? = some x) : kidV b off c ks m = .slice (some ⟨b, off + Tr.offK ks m * 2, none⟩) x.2.ents.length (c - Tr.offK ks m) := by simp [kidV, h]

/-- a part of a list of entries, as the language cuts it -/
theorem slice_lh (w : World) (b off n c i h : Nat) (h1 : i < h) (h2 : h ≤ n) (h3 : n ≤ c) :
    (Instr.sliceAt 22 (.slice (some ⟨b, off, none⟩) n c) (some (.int .i64 (i : Int))) (some (.int .i64 (h : Int))) none).run Try.prog w = .ok (.slice (some ⟨b, off + i * 2, none⟩) (h - i) (c - i)) w := by
  have ht : Try.prog.underlying 22 = some (.slice 36) := Try.underlying22
  have hel : Try.prog.elem 22 = 36 := by simp [Program.elem, ht]
  have hs : Try.prog.underlying 22 = some (.slice (Try.prog.elem 22)) := by rw [hel]; exact ht
  have hsz : ∀ w, (sizeOf 36).run Try.prog w = .ok 2 w := fun w => by
    have h : (Try.prog.info? 36).map (·.size) = some 2 := by kernel_rfl
    obtain ⟨i0, hi0, hz⟩ := Option.map_eq_some_iff.1 h
    simp [sizeOf, typeInfo, hi0, hz]
  rw [run_sliceAt_slice w _ _ _ _ _ hs, run_slice_lh w _ _ _ _ hs .i64 .i64 (i : Int) (h : Int) (by omega) (by omega) (by omega), hel, hsz]
  simp [Result.andThen, sliced]
  rw [if_neg (by omega), Go.WideShapes.add_plain]
set_option maxRecDepth 100000 in
set_option maxHeartbeats 4000000 in
theorem rkids_c {w : World} {B b off c k g l : Nat} {pre : List Nat} {ks : List (Nat × T)} (wf : Tr.Wf k (.br g l pre ks)) (h : Ents w B (some ⟨b, off, none⟩) (Tr.entsL ks)) (hB : B ≤ w.heap.size) (hc : (Tr.entsL ks).length ≤ c) (hl : (Tr.entsL ks).length ≤ 1000000) :
    Calls Try.prog 32 #[.slice (some ⟨b, off, none⟩) (Tr.entsL ks).length c] w fun e w' => ∃ A d, e = .returned (.slice A ks.length d) ∧ (∀ x, A = some x → w.heap.size ≤ x.block) ∧ RdV w' w'.heap.size A (kidsV b off c ks ks.length) ∧ Below w.heap.size w w' := by
  obtain ⟨e0, e1, i0, i1, k0, k1, o0, o1, hpart, -, hlen2⟩ := Tr.ends_part wf
  have HL := Lib.hid (rlevel_c (c := c) (h.below (below_alloc w (.cells #[] 22)) hB (Nat.le_refl _)) hl i0 i1 (by have := wf.k1; omega) (by have := wf.k16; omega) (by omega) (l : Int) hpart)
  have HX := Lib.hid (And.intro wf (And.intro h (And.intro hB (And.intro hc (And.intro wf.k1 wf.k16)))))
  have h63 : l ≤ 63 := by cases wf with | br _ _ _ _ h63 => exact h63
  have HO := Lib.hid (ownV_nil 22 w)
  have Hks : Hid (ks.length ≤ 65536) := Lib.hid (by cases wf with | br _ _ _ _ _ hw => exact hw.len16)
  obtain ⟨N, hN⟩ : ∃ N, (Tr.entsL ks).length = N := ⟨_, rfl⟩
  have HN := Lib.hid hN
  rw [hN] at hc hl hlen2 HL ⊢
  clear wf h hB hN i0 i1 k0 k1 o0 o1 hpart
  go_enter Try.func32, Try.ntmps32
  go_wp2_with fail
  refine HL.out.mono ?_
  rintro e w' ⟨rfl, nq, rfl⟩
  go_wp2_with fail
  go_loopw [3, 5, 6] (fun v fr i wr => ∃ m j : Nat, m ≤ ks.length ∧ fr = .int .i64 (Tr.offK ks m : Int) ∧ i = .int .i64 ((Tr.offK ks m + j : Nat) : Int) ∧ (∀ x, ks[m]? = some x → 1 ≤ j ∧ j ≤ x.2.ents.length) ∧ (m = ks.length → j = 1) ∧ OwnV 22 wr w.heap.size v (kidsV b off c ks m) ∧ Below w.heap.size w wr) (fun _ _ i _ => N + 2 - (intOf i).toNat)
  case atStart => exact ⟨0, 1, Nat.zero_le _, by rw [Tr.offK_zero]; rfl, by rw [Tr.offK_zero]; rfl, fun x hx => ⟨Nat.le_refl _, Tr.ents_pos' (HX.out.1.kid (List.mem_of_getElem? hx))⟩, fun _ => rfl, HO.out.below (below_drewN _ (Below.refl _ _)) (Nat.le_refl _), below_drewN _ (below_alloc _ _)⟩
  case round =>
    obtain ⟨m, j, hm, rfl, rfl, hj, hjl, hown, hbe⟩ := hrel
    have hsw := hbe.size
    obtain ⟨o, ho⟩ : ∃ o, Tr.offK ks m = o := ⟨_, rfl⟩
    obtain ⟨I, hI⟩ : ∃ I, o + j = I := ⟨_, rfl⟩
    rw [ho, hI]
    by_cases hlt : m < ks.length
    · obtain ⟨x, hx⟩ := get_lt hlt
      obtain ⟨hj1, hj2⟩ := hj x hx
      have hmem := List.mem_of_getElem? hx
      have hole := Tr.offK_le hx
      rw [HN.out, ho] at hole
      have hpos := Tr.ents_pos' (HX.out.1.kid hmem)
      obtain ⟨e0, he0⟩ := get_lt hpos
      have i0 := Tr.ents_at hx hpos
      rw [ho, he0, Nat.add_zero] at i0
      obtain ⟨b', off', A0, c0, hA, hb, x0, -, p0, -, -⟩ := HX.out.2.1.at i0
      simp only [Option.some.injEq, Addr.mk.injEq, and_true] at hA
      obtain ⟨rfl, rfl⟩ := hA
      have hent0 := (HX.out.1.kid hmem).entry (List.mem_of_getElem? he0)
      have a0 := Tr.kid_addr HX.out.1 hmem (List.mem_of_getElem? he0)
      have y0 : wr.cell? ⟨b, off + o * 2, none⟩ = some (.slice A0 e0.1.length c0) := (hbe.cell (p := ⟨b, off + o * 2, none⟩) (Nat.lt_of_lt_of_le hb HX.out.2.2.1)).trans x0
      have HA0 : Hid (∀ n, Calls Try.prog 17 #[.slice A0 e0.1.length c0, .int .i64 (l : Int)] (wr.drewN n) fun e w' => e = .returned (.int .i64 (x.1 : Int)) ∧ wr.drewN n = w') := Lib.hid fun n => by
        rw [← a0]; exact raddr_c A0 c0 e0.1 l B (wr.drewN n) (p0.below' (below_drewN n hbe) HX.out.2.2.1) (by rw [hent0.1]; exact HX.out.2.2.2.2.1) (by rw [hent0.1]; exact HX.out.2.2.2.2.2) h63
      have g1 : decide (I ≤ N) = true := decide_eq_true (by omega)
      have g1' : decide ((I : Int) ≤ (N : Int)) = true := decide_eq_true (by omega)
      have m1 : (0 : Int) ≤ (I : Int) := by omega
      have m2 : (0 : Int) ≤ (o : Int) := by omega
      have m3 : (o : Int) < (N : Int) := by omega
      have hsl : ∀ w, (Instr.sliceAt 22 (.slice (some ⟨b, off, none⟩) N c) (some (.int .i64 (o : Int))) (some (.int .i64 (I : Int))) none).run Try.prog w = .ok (.slice (some ⟨b, off + o * 2, none⟩) (I - o) (c - o)) w := fun w => slice_lh w b off N c o I (by omega) (by omega) (by omega)
      clear hj hjl x0 p0 a0 hent0 he0 i0 hpos hm
      by_cases hje : j = x.2.ents.length
      · have hnx := Tr.offK_succ hx
        rw [ho, ← hje, hI] at hnx
        have hIo : I - o = x.2.ents.length := by omega
        rw [hIo] at hsl
        have HS := Lib.hid (And.intro hnx (And.intro hx ho))
        have HR := Lib.hid (And.intro hown hbe)
        by_cases hla : m + 1 = ks.length
        · have hIN : I = N := by
            have := Tr.offK_all ks
            rw [← hla, hnx, HN.out] at this
            exact this
          subst hIN
          have g2 : ((I : Int) == (I : Int)) = true := by simp
          have Hsl := Lib.hid hsl
          clear hnx hx hown hbe ho hI hje hIo hole hj1 hj2 hsl
          have hsl := Hsl.out
          go_wp2_with fail
          go_quiet (fail)
          go_wp2_with (at_builtin; refine wpList_append_wide 70 22 (.slice none 0 0) 24 Try.underlying70 infoE rfl (by omega) rfl (.tmp 37) (.tmp 42) rfl w.heap.size u3 (kidsV b off c ks m) _ rfl (HR.out.1.below (show Below wr.heap.size wr _ by ((repeat (first | refine Below.drew ?_ | (with_reducible refine below_drewN _ ?_) | refine Below.alloc ?_ (by first | omega | (simp; done) | (simp; omega)) _ | refine Below.setCell ?_ (by first | omega | (simp; done) | (simp; omega)) _)); first | exact Below.refl _ _ | assumption | exact below_drewN _ (Below.refl _ _) | exact below_drewN _ (below_drewN _ (Below.refl _ _)))) (Nat.le_refl _)) _ _ rfl (rdV_one _ _ _) rfl (by rw [kidsV_length]; have := Hks.out; omega) (by have := hsw; first | omega | (simp; omega)) ?_; intro v1 w1 hown1 hgrow1 _; have hb1 := Below.grown (HR.out.2.trans (Below.mono (show Below wr.heap.size wr _ by ((repeat (first | refine Below.drew ?_ | (with_reducible refine below_drewN _ ?_) | refine Below.alloc ?_ (by first | omega | (simp; done) | (simp; omega)) _ | refine Below.setCell ?_ (by first | omega | (simp; done) | (simp; omega)) _)); first | exact Below.refl _ _ | assumption | exact below_drewN _ (Below.refl _ _) | exact below_drewN _ (below_drewN _ (Below.refl _ _)))) hsw)) hgrow1 (by have := hsw; first | omega | (simp; omega)) (fun q hq => (HR.out.1.lt q hq).1))
          go_roundw
          case rel => exact ⟨m + 1, 1, by omega, by rw [HS.out.1], by rw [HS.out.1]; go_num, fun y hy => ⟨Nat.le_refl _, Tr.ents_pos' (HX.out.1.kid (List.mem_of_getElem? hy))⟩, fun _ => rfl, by rw [kidsV_succ, kidV_at b off c HS.out.2.1, HS.out.2.2]; exact hown1, hb1⟩
          case measure => first | (simp [intOf]; done) | (simp [intOf]; omega)
        · have hlt2 : m + 1 < ks.length := by omega
          obtain ⟨y, hy⟩ := get_lt hlt2
          have hmy := List.mem_of_getElem? hy
          have hpos := Tr.ents_pos' (HX.out.1.kid hmy)
          obtain ⟨e1, he1⟩ := get_lt hpos
          have i1 := Tr.ents_at hy hpos
          rw [hnx, he1, Nat.add_zero] at i1
          have hIlt : I < N := by have := lt_get i1; rw [HN.out] at this; exact this
          obtain ⟨b', off', A1, c1, hA, -, x1, -, p1, -, -⟩ := HX.out.2.1.at i1
          simp only [Option.some.injEq, Addr.mk.injEq, and_true] at hA
          obtain ⟨rfl, rfl⟩ := hA
          have hent1 := (HX.out.1.kid hmy).entry (List.mem_of_getElem? he1)
          have a1 := Tr.kid_addr HX.out.1 hmy (List.mem_of_getElem? he1)
          have y1 : wr.cell? ⟨b, off + I * 2, none⟩ = some (.slice A1 e1.1.length c1) := (HR.out.2.cell (p := ⟨b, off + I * 2, none⟩) (Nat.lt_of_lt_of_le hb HX.out.2.2.1)).trans x1
          have HA1 : Hid (∀ n, Calls Try.prog 17 #[.slice A1 e1.1.length c1, .int .i64 (l : Int)] (wr.drewN n) fun e w' => e = .returned (.int .i64 (y.1 : Int)) ∧ wr.drewN n = w') := Lib.hid fun n => by
            rw [← a1]; exact raddr_c A1 c1 e1.1 l B (wr.drewN n) (p1.below' (below_drewN n HR.out.2) HX.out.2.2.1) (by rw [hent1.1]; exact HX.out.2.2.2.2.1) (by rw [hent1.1]; exact HX.out.2.2.2.2.2) h63
          have hne : x.1 < y.1 := by
            have hsrt : Sl.Srt ks := by cases HX.out.1 with | br _ _ _ _ _ hw => exact hw.srt
            exact Sl.srt_get hsrt hx hy (by omega)
          have g2 : ((I : Int) == (N : Int)) = false := by rw [beq_eq_false_iff_ne]; omega
          have g3 : ((y.1 : Int) != (x.1 : Int)) = true := by rw [bne_iff_ne]; omega
          have m4 : (I : Int) < (N : Int) := by omega
          have Hsl := Lib.hid hsl
          clear hnx hx hown hbe ho hI hje hIo hole hj1 hj2 hsl hy hmy hpos he1 i1 x1 p1 hent1 a1 hne
          have hsl := Hsl.out
          go_wp2_with fail
          go_quiet ((first
            | (go_at_call 17; with_reducible (exact Calls.quiet_of_same ((HA1.out _).mono fun e w' h => ⟨h.1, h.2.symm⟩)))
            | (go_at_call 17; with_reducible (exact Calls.quiet_of_same ((HA0.out _).mono fun e w' h => ⟨h.1, h.2.symm⟩)))))
          go_wp2_with (at_builtin; refine wpList_append_wide 70 22 (.slice none 0 0) 24 Try.underlying70 infoE rfl (by omega) rfl (.tmp 37) (.tmp 42) rfl w.heap.size u3 (kidsV b off c ks m) _ rfl (HR.out.1.below (show Below wr.heap.size wr _ by ((repeat (first | refine Below.drew ?_ | (with_reducible refine below_drewN _ ?_) | refine Below.alloc ?_ (by first | omega | (simp; done) | (simp; omega)) _ | refine Below.setCell ?_ (by first | omega | (simp; done) | (simp; omega)) _)); first | exact Below.refl _ _ | assumption | exact below_drewN _ (Below.refl _ _) | exact below_drewN _ (below_drewN _ (Below.refl _ _)))) (Nat.le_refl _)) _ _ rfl (rdV_one _ _ _) rfl (by rw [kidsV_length]; have := Hks.out; omega) (by have := hsw; first | omega | (simp; omega)) ?_; intro v1 w1 hown1 hgrow1 _; have hb1 := Below.grown (HR.out.2.trans (Below.mono (show Below wr.heap.size wr _ by ((repeat (first | refine Below.drew ?_ | (with_reducible refine below_drewN _ ?_) | refine Below.alloc ?_ (by first | omega | (simp; done) | (simp; omega)) _ | refine Below.setCell ?_ (by first | omega | (simp; done) | (simp; omega)) _)); first | exact Below.refl _ _ | assumption | exact below_drewN _ (Below.refl _ _) | exact below_drewN _ (below_drewN _ (Below.refl _ _)))) hsw)) hgrow1 (by have := hsw; first | omega | (simp; omega)) (fun q hq => (HR.out.1.lt q hq).1))
          go_roundw
          case rel => exact ⟨m + 1, 1, by omega, by rw [HS.out.1], by rw [HS.out.1]; go_num, fun y hy => ⟨Nat.le_refl _, Tr.ents_pos' (HX.out.1.kid (List.mem_of_getElem? hy))⟩, fun _ => rfl, by rw [kidsV_succ, kidV_at b off c HS.out.2.1, HS.out.2.2]; exact hown1, hb1⟩
          case measure => first | (simp [intOf]; done) | (simp [intOf]; omega)
      · have hjlt : j < x.2.ents.length := by omega
        obtain ⟨e1, he1⟩ := get_lt hjlt
        have i1 := Tr.ents_at hx hjlt
        rw [ho, hI, he1] at i1
        have hIlt : I < N := by have := lt_get i1; rw [HN.out] at this; exact this
        obtain ⟨b', off', A1, c1, hA, -, x1, -, p1, -, -⟩ := HX.out.2.1.at i1
        simp only [Option.some.injEq, Addr.mk.injEq, and_true] at hA
        obtain ⟨rfl, rfl⟩ := hA
        have hent1 := (HX.out.1.kid hmem).entry (List.mem_of_getElem? he1)
        have a1 := Tr.kid_addr HX.out.1 hmem (List.mem_of_getElem? he1)
        have y1 : wr.cell? ⟨b, off + I * 2, none⟩ = some (.slice A1 e1.1.length c1) := (hbe.cell (p := ⟨b, off + I * 2, none⟩) (Nat.lt_of_lt_of_le hb HX.out.2.2.1)).trans x1
        have HA1 : Hid (∀ n, Calls Try.prog 17 #[.slice A1 e1.1.length c1, .int .i64 (l : Int)] (wr.drewN n) fun e w' => e = .returned (.int .i64 (x.1 : Int)) ∧ wr.drewN n = w') := Lib.hid fun n => by
          rw [← a1]; exact raddr_c A1 c1 e1.1 l B (wr.drewN n) (p1.below' (below_drewN n hbe) HX.out.2.2.1) (by rw [hent1.1]; exact HX.out.2.2.2.2.1) (by rw [hent1.1]; exact HX.out.2.2.2.2.2) h63
        have g2 : ((I : Int) == (N : Int)) = false := by rw [beq_eq_false_iff_ne]; omega
        have g3 : ((x.1 : Int) != (x.1 : Int)) = false := by simp
        have m4 : (I : Int) < (N : Int) := by omega
        have HR := Lib.hid (And.intro hown (And.intro hbe (And.intro ho (And.intro hI (And.intro hx (And.intro hj1 hjlt))))))
        clear hx hown hbe ho hI hje hole hj1 hj2 hsl he1 i1 x1 p1 hent1 a1 hjlt
        go_wp2_with fail
        go_quiet ((first
          | (go_at_call 17; with_reducible (exact Calls.quiet_of_same ((HA1.out _).mono fun e w' h => ⟨h.1, h.2.symm⟩)))
          | (go_at_call 17; with_reducible (exact Calls.quiet_of_same ((HA0.out _).mono fun e w' h => ⟨h.1, h.2.symm⟩)))))
        go_wp2_with fail
        go_roundw
        case rel => exact ⟨m, j + 1, by omega, by rw [HR.out.2.2.1], by rw [HR.out.2.2.1, show o + (j + 1) = I + 1 by have := HR.out.2.2.2.1; omega]; go_num, fun z hz => by rw [HR.out.2.2.2.2.1] at hz; cases hz; have := HR.out.2.2.2.2.2; omega, fun hh => by omega, HR.out.1.below (below_drewN _ (Below.refl _ _)) (Nat.le_refl _), below_drewN _ HR.out.2.1⟩
        case measure => first | (simp [intOf]; done) | (simp [intOf]; omega)
    · have hme : m = ks.length := by omega
      subst hme
      have hj1 := hjl rfl
      subst hj1
      have hoN : o = N := by rw [← ho, Tr.offK_all, HN.out]
      subst hoN
      obtain ⟨Av, dv, hv, -, hrd⟩ := hown.rd
      rw [kidsV_length] at hv
      subst hv
      have hlo : ∀ x, Av = some x → w.heap.size ≤ x.block := fun x hx => (hown.lt x.block (by subst hx; rfl)).1
      have HR := Lib.hid (And.intro hrd (And.intro hbe hlo))
      clear hlo
      have g1 : decide (I ≤ o) = false := decide_eq_false (by omega)
      have g1' : decide ((I : Int) ≤ (o : Int)) = false := decide_eq_false (by omega)
      clear hown hrd hbe hj hjl ho hI
      go_wp2_with fail
      go_ret
      exact ⟨Av, dv, rfl, HR.out.2.2, HR.out.1, HR.out.2.1⟩
end Go.Proofs.Ytgplbbmenmbaaaa
