import Derived.Test.YtccefboifhfkdaaGreatDoorM29
import Derived.Test.YtccefboifhfkdaaGreatDoorM23
/-
  CONTRACTS of package walk: Back. Laid by wip/gen20.py.
-/
namespace Go.Proofs.YtccefboifhfkdaaGreatDoor
open Go.ChangeShapes Go.WideShapes Go.ChangeAt Go.RowKit
open Tr (T S4 Ent)

/-- the kid at the greatest address up to a -/
def upK (ks : List (Nat × T)) (a : Int) : Option (Nat × T) := if Sl.idx ks (a + 1) = 0 then none else ks[Sl.idx ks (a + 1) - 1]?
theorem upK_kid (ks : List (Nat × T)) (a : Int) : (Sn.upE (kidL ks) a).getD (0, none) = kidP (upK ks a) := by
  unfold Sn.upE upK
  rw [idx_kidL]
  split
  · rfl
  · rw [kidL, List.getElem?_map]
    cases ks[Sl.idx ks (a + 1) - 1]? <;> rfl
theorem nUpTo_k {w : World} {B k : Nat} {t : T} (h : Mem w B k t) (a : Int) (p : Nat × Option Addr) (hp : kidP (upK t.ks a) = p) :
    Calls Tryz.prog 46 #[.pointer (some ⟨t.blk, 0, none⟩), .int .i64 a] w fun e w' => e = .returned (atKid p.1 p.2) ∧ ∃ n, w' = w.drewN n := by
  subst hp
  cases h with
  | ent g q v hn => exact (nUpTo_ent hn a).mono fun e w' h => ⟨h.1, 0, h.2.symm⟩
  | br g l pre ks b hn ha hk => exact nUpTo_br hn ha a _ (upK_kid ks a)
theorem upK_at {ks : List (Nat × T)} {n : Nat} {y : Option (Nat × T)} (h : upK ks ((n : Int) - 1) = y) : (Sl.idx ks (n : Int) = 0 ∧ y = none) ∨ ∃ i, Sl.idx ks (n : Int) = i + 1 ∧ ks[i]? = y := by
  unfold upK at h
  rw [show (n : Int) - 1 + 1 = (n : Int) by omega] at h
  split at h
  · rename_i h0; exact .inl ⟨h0, h.symm⟩
  · exact .inr ⟨Sl.idx ks (n : Int) - 1, by omega, h⟩
theorem upK_mem {ks : List (Nat × T)} {n : Nat} {y : Nat × T} (h : upK ks ((n : Int) - 1) = some y) : y ∈ ks := by
  rcases upK_at h with ⟨_, e⟩ | ⟨i, _, e⟩
  · cases e
  · exact List.mem_of_getElem? e
theorem upK_none {ks : List (Nat × T)} {n : Nat} (h : upK ks ((n : Int) - 1) = none) : Sl.idx ks (n : Int) = 0 := by
  rcases upK_at h with ⟨e, _⟩ | ⟨i, e1, e⟩
  · exact e
  · have := Sl.idx_le ks (n : Int)
    rw [List.getElem?_eq_none_iff] at e
    omega
theorem upK_push {k n a : Nat} {t s : T} {R : List (T × Nat)} (hw : Tr.Wf k t) (h : upK t.ks ((n : Int) - 1) = some (a, s)) : Tr.bef ((s, 65536) :: (t, a) :: R) = Tr.bef ((t, n) :: R) ∧ Tr.aft ((s, 65536) :: (t, a) :: R) = Tr.aft ((t, n) :: R) := by
  rcases upK_at h with ⟨_, e⟩ | ⟨i, e1, e⟩
  · cases e
  · exact Tr.back_push hw e1 e
theorem upK_less {k n a : Nat} {t s : T} {R : List (T × Nat)} (hw : Tr.Wf k t) (h : upK t.ks ((n : Int) - 1) = some (a, s)) : Tr.mB ((s, 65536) :: (t, a) :: R) < Tr.mB ((t, n) :: R) := by
  rcases upK_at h with ⟨_, e⟩ | ⟨i, e1, e⟩
  · cases e
  · exact Tr.mB_push hw e1 e

set_option maxRecDepth 1000000 in
set_option maxHeartbeats 4000000 in
theorem back_c {w : World} {B g k : Nat} {kk : Int} {o : Option T} {S0 : List (T × Nat)} {D0 : Option Addr} {d0 : Nat} (h : CurAt w B g k kk o S0 D0 d0) (hT : ∀ w', Below B w w' → Tz w') :
    Calls Tryz.prog 24 #[.pointer (some ⟨g, 0, none⟩)] w fun e w' => ∃ S D d, CurAt w' B g k kk o S D d ∧ Foot (Cf g D0) w w' ∧ (∀ b, Cf g D b → Cf g D0 b ∨ w.heap.size ≤ b) ∧ Told w w' g D (Tr.bef S0).getLast? e ∧ Tr.bef S = (Tr.bef S0).dropLast ∧ Tr.aft S = (Tr.bef S0).getLast?.toList ++ Tr.aft S0 := by
  have hal := below_alloc w (.cells #[.slice none 0 0, .int .u64 0] 36)
  have H0 := Lib.hid (show Stp w B g k kk o S0 D0 Tr.mB (Tr.mB S0) S0 D0 d0 (w.alloc (.cells #[.slice none 0 0, .int .u64 0] 36)) from ⟨h.below hal, rfl, rfl, Foot.of_below hal, fun b hb => .inl hb, fun b hb => (h.mem.lt b hb).2, heap_at w _ _ rfl, rfl⟩)
  have HX := Lib.hid (And.intro h hT)
  clear h hT hal
  go_enter Tryz.func24, Tryz.ntmps24
  go_wp2_with fail
  refine wp_scope_count 0 (fun m a' w' => ∃ (S : List (T × Nat)) (D : Option Addr) (d : Nat) (u1 u4 u5 u6 u7 u8 u9 u10 u11 u12 u13 u14 u15 u16 u17 u18 u19 u20 u21 u22 u23 u24 u25 u26 u27 u28 u29 u30 u31 u32 u33 u34 u35 u36 u37 u38 u39 u40 u41 u42 u43 u44 u45 u46 u47 u48 u49 u50 u51 u52 u53 u54 u55 u56 u57 u58 u59 : Value),
      a' = { tmps := #[.pointer (some ⟨g, 0, none⟩), u1, .pointer (some ⟨w.heap.size, 0, none⟩), .bool false, u4, u5, u6, u7, u8, u9, u10, u11, u12, u13, u14, u15, u16, u17, u18, u19, u20, u21, u22, u23, u24, u25, u26, u27, u28, u29, u30, u31, u32, u33, u34, u35, u36, u37, u38, u39, u40, u41, u42, u43, u44, u45, u46, u47, u48, u49, u50, u51, u52, u53, u54, u55, u56, u57, u58, u59], defers := [] } ∧ Stp w B g k kk o S0 D0 Tr.mB m S D d w') rfl ?first ?pass
  case first =>
    intro hp
    refine wp_seq (wp_label (hp _ _ _ ⟨S0, D0, d0, _, _, _, _, _, _, _, _, _, _, _, _, _, _, _, _, _, _, _, _, _, _, _, _, _, _, _, _, _, _, _, _, _, _, _, _, _, _, _, _, _, _, _, _, _, _, _, _, _, _, _, _, _, _, _, _, _, rfl, H0.out⟩))
  case pass =>
    rintro m a' w' ⟨S, D, d, u1, u4, u5, u6, u7, u8, u9, u10, u11, u12, u13, u14, u15, u16, u17, u18, u19, u20, u21, u22, u23, u24, u25, u26, u27, u28, u29, u30, u31, u32, u33, u34, u35, u36, u37, u38, u39, u40, u41, u42, u43, u44, u45, u46, u47, u48, u49, u50, u51, u52, u53, u54, u55, u56, u57, u58, u59, rfl, hst⟩
    clear H0
    cases S with
    | nil =>
      obtain ⟨b0, b1, f0, f1⟩ := box_cells hst.box
      obtain ⟨r0, r1⟩ := res_cells hst.box (.slice none 0 0) (.int .u64 0)
      have HL := Lib.hid (last_none hst.cur.mem)
      have HS := Lib.hid hst
      clear hst
      go_wp2_with (go_at_call 55; refine HL.out.mono ?_; rintro e w2 ⟨rfl, rfl⟩)
      simp only [Exit.jump]
      refine bodyPost_ret (v := .tuple #[entryV none 0 0 0, .bool false]) (by simp [results, Tryz.results24, go_sem, r0, r1]) rfl ?_
      obtain ⟨z1, z2, z3⟩ := HS.out.res (.slice none 0 0) (.int .u64 0)
      have ha : Tr.aft S0 = [] := HS.out.aft.symm
      have hb : Tr.bef S0 = [] := HS.out.bef.symm
      refine ⟨[], D, d, z1, z2, z3, ?_, ?_, ?_⟩
      · rw [hb]; rfl
      · rw [hb]; rfl
      · rw [ha, hb]; rfl
    | cons x R =>
      obtain ⟨t, n⟩ := x
      obtain ⟨q, hD, hBq, hqs, hqg, hcap, -, -, -⟩ := hst.cur.mem.top
      subst hD
      have hlen := hst.cur.len
      have hnd := hst.cur.nodes (t, n) List.mem_cons_self
      have hn64 : n ≤ 65536 := hnd.2
      have hl65 : R.length ≤ 64 := by rw [List.length_cons] at hlen; omega
      have HB : Hid (∀ w2, Stp w B g k kk o S0 D0 Tr.mB m ((t, n) :: R) (some ⟨q, 0, none⟩) d w2 → Below B w w2 ∧ Node w2 B k t ∧ w2.cell? ⟨q, R.length * 2, none⟩ = some (.pointer (some ⟨t.blk, 0, none⟩)) ∧ w2.cell? ⟨q, R.length * 2 + 1, none⟩ = some (.int .i64 (n : Int)) ∧ w2.frozen? ⟨q, R.length * 2 + 1, none⟩ = false) := Lib.hid fun w2 h2 => by
        obtain ⟨q', hD', -, -, -, -, k0, k1, fz⟩ := h2.cur.mem.top
        simp only [Option.some.injEq, Addr.mk.injEq, and_true] at hD'
        subst hD'
        have hb : Below B w w2 := h2.foot.below HX.out.1.size fun b hb => (HX.out.1.mem.lt b hb).1
        exact ⟨hb, (h2.cur.nodes (t, n) List.mem_cons_self).1, k0, k1, fz⟩
      have HL : Hid (Calls Tryz.prog 55 #[.pointer (some ⟨g, 0, none⟩)] w' fun e w2 => e = .returned (.pointer (some ⟨q, R.length * 2, none⟩)) ∧ Stp w B g k kk o S0 D0 Tr.mB m ((t, n) :: R) (some ⟨q, 0, none⟩) d w2) := Lib.hid ((last_c hst.cur.mem (by omega)).mono fun e w2 ⟨he, i, hi⟩ => ⟨he, by rw [hi]; exact hst.drew i⟩)
      have hwf := hnd.1.1
      clear hst hnd hlen
      by_cases hent : t.lv = 0 ∧ 0 < n
      · obtain ⟨hlv, hn0⟩ := hent
        cases t with
        | br => exact absurd hlv (by simp [T.lv])
        | ent eb p v =>
          have hN : ∀ w2, Node w2 B k (.ent eb p v) → NdAt w2 B eb (-1) p v none (Tr.s1 v) := fun w2 h2 => by cases h2.2 with | ent _ _ _ h => exact h
          have hpl : p ≠ [] ∧ p.length ≤ 1000000 := by
            cases hwf with
            | ent _ _ _ k1 k16 hl ho hv => exact ⟨by intro e; rw [e] at hl; simp at hl; omega, by omega⟩
          have d1 : decide ((-1 : Int) < 0) = true := by decide
          have HP := Lib.hid hpl
          have hv64 : v < 18446744073709551616 := by cases hwf with | ent _ _ _ k1 k16 hl ho hv => exact hv
          clear hpl hwf hlv
          have e0 : decide ((0 : Int) < (n : Int)) = true := decide_eq_true (by omega)
          have e0n : decide (0 < n) = true := decide_eq_true (by omega)
          have HN0 := Lib.hid hn0
          clear hn0
          simp only [T.blk] at HL HB
          go_upto_region 6 with (first
            | (go_at_call 55; refine HL.out.mono ?_; rintro e w2 ⟨rfl, hst2⟩; have HS := Lib.hid hst2; obtain ⟨-, hnd2, k0, k1, fz⟩ := HB.out w2 hst2; clear hst2)
            | (go_at_call 56; refine (nLevel_c (hN _ hnd2)).mono ?_; rintro e w3 ⟨rfl, rfl⟩))
          have G := HS.out.cur.gap 0 (by omega)
          rw [show ((0 : Nat) : Int) = 0 from rfl] at G
          have St3 := HS.out.turn G.1 G.2 (fun _ hb => .inl hb)
          obtain ⟨W3, hW3⟩ : ∃ W3, W3 = w2.setCell ⟨q, R.length * 2 + 1, none⟩ (.int .i64 0) := ⟨_, rfl⟩
          have hk3 : W3.cell? ⟨q, R.length * 2, none⟩ = some (.pointer (some ⟨eb, 0, none⟩)) := by
            obtain ⟨q', hD', -, -, -, -, k0', -, -⟩ := St3.cur.mem.top
            simp only [Option.some.injEq, Addr.mk.injEq, and_true] at hD'
            subst hD'
            rw [hW3]; exact k0'
          rw [← hW3] at St3 ⊢
          have H3 := Lib.hid (And.intro St3 (And.intro (hN _ (St3.cur.nodes _ List.mem_cons_self).1) St3.cur.size))
          clear G St3 k0 k1 fz hnd2 hW3 HB HL
          go_wp2_with (go_at_call 45; refine (nEntry_ent H3.out.2.1 H3.out.2.2 HP.out.1 HP.out.2).mono ?_; rintro e w4 ⟨hh, dd, rfl, ho4, hb4⟩; have St4 := H3.out.1.below hb4; obtain ⟨b0, b1, f0, f1⟩ := box_cells St4.box; obtain ⟨r0, r1⟩ := res_cells St4.box (.slice (some ⟨hh, 0, none⟩) p.length dd) (.int .u64 (v : Int)); have H4 := Lib.hid (And.intro St4 ho4); clear St4 ho4 hb4)
          simp only [Exit.jump]
          refine bodyPost_ret (v := .tuple #[entryV (some ⟨hh, 0, none⟩) p.length dd v, .bool true]) (by simp [results, Tryz.results24, go_sem, r0, r1]) rfl ?_
          obtain ⟨z1, z2, z3⟩ := H4.out.1.res (.slice (some ⟨hh, 0, none⟩) p.length dd) (.int .u64 (v : Int))
          have ht := told_some (p := p) (v := v) H3.out.1 H4.out.2 (.slice (some ⟨hh, 0, none⟩) p.length dd) (.int .u64 (v : Int))
          have ha := HS.out.aft
          have hb := HS.out.bef
          have hn0 : n ≠ 0 := by have := HN0.out; omega
          have ha' : Tr.aft S0 = Tr.aftR R := by rw [← ha]; simp [Tr.aft, Tr.aftT, hn0]
          have hb' : Tr.bef S0 = Tr.foreR R ++ [(p, v)] := by rw [← hb]; simp [Tr.bef, Tr.fore, hn0]
          refine ⟨_, _, _, z1, z2, z3, ?_, ?_, ?_⟩
          · rw [hb', List.getLast?_append]; exact ht
          · rw [hb', List.dropLast_concat]; exact List.append_nil _
          · rw [ha', hb', List.getLast?_append]; rfl
      · obtain ⟨kx, hkx⟩ : ∃ kx, upK t.ks ((n : Int) - 1) = kx := ⟨_, rfl⟩
        obtain ⟨lv, hlv⟩ : ∃ lv, levI t = lv := ⟨_, rfl⟩
        have HLev : Hid (∀ w2, Node w2 B k t → Calls Tryz.prog 56 #[.pointer (some ⟨t.blk, 0, none⟩)] w2 fun e w3 => e = .returned (.int .i64 lv) ∧ w2 = w3) := Lib.hid fun w2 h2 => by
          obtain ⟨kp, h3⟩ := h2.2.nd
          rw [hlv] at h3
          exact nLevel_c h3
        have HFr : Hid (∀ w2, Stp w B g k kk o S0 D0 Tr.mB m ((t, n) :: R) (some ⟨q, 0, none⟩) d w2 → ∀ i, Calls Tryz.prog 46 #[.pointer (some ⟨t.blk, 0, none⟩), .int .i64 ((n : Int) - 1)] (w2.drewN i) fun e w3 => e = .returned (atKid (kidP kx).1 (kidP kx).2) ∧ ∃ j, w3 = (w2.drewN i).drewN j) := Lib.hid fun w2 h2 i =>
          nUpTo_k ((HB.out w2 h2).2.1.below (below_drewN i (Below.refl w2.heap.size w2)) h2.cur.size (Nat.le_refl _)).2 ((n : Int) - 1) _ (by rw [hkx])
        have HC := Lib.hid (And.intro hent (And.intro hkx (And.intro hlv hwf)))
        have hnI : (n : Int) ≤ 65536 := by omega
        have hn0I : (0 : Int) ≤ (n : Int) := by omega
        clear hent hkx hwf
        by_cases h0 : t.lv = 0
        · have d1 : decide (lv < 0) = true := decide_eq_true (by rw [← hlv]; simp only [levI, h0]; omega)
          have e0 : decide ((0 : Int) < (n : Int)) = false := decide_eq_false (fun e => HC.out.1 ⟨h0, by omega⟩)
          have e0n : decide (0 < n) = false := decide_eq_false (fun e => HC.out.1 ⟨h0, e⟩)
          clear hlv h0
          go_upto_region 7 with (first
            | (go_at_call 55; refine HL.out.mono ?_; rintro e w2 ⟨rfl, hst2⟩; have HS := Lib.hid hst2; obtain ⟨-, hnd2, k0, k1, fz⟩ := HB.out w2 hst2; clear hst2)
            | (go_at_call 56; refine (HLev.out _ hnd2).mono ?_; rintro e w3 ⟨rfl, rfl⟩))
          cases kx with
          | some y =>
            obtain ⟨a, s⟩ := y
            have HF2 : Hid (∀ i, Calls Tryz.prog 46 #[.pointer (some ⟨t.blk, 0, none⟩), .int .i64 ((n : Int) - 1)] (w2.drewN i) fun e w3 => e = .returned (atKid a (some ⟨s.blk, 0, none⟩)) ∧ ∃ j, w3 = (w2.drewN i).drewN j) := Lib.hid (HFr.out w2 HS.out)
            clear HFr
            go_quiet ((go_at_call 46; with_reducible exact Calls.quiet_of (HF2.out _)))
            have StW := HS.out.drew nq
            obtain ⟨-, -, k0', k1', fz'⟩ := HB.out _ StW
            have hmem : (a, s) ∈ t.ks := upK_mem HC.out.2.1
            have ha16 : a < 65536 := HC.out.2.2.2.lt16 _ hmem
            have G := StW.cur.gap a (by omega)
            obtain ⟨W, hW⟩ : ∃ W, W = w2.drewN nq := ⟨_, rfl⟩
            rw [← hW] at StW k0' k1' fz' G ⊢
            have HSW := Lib.hid (And.intro StW (And.intro hmem (And.intro ha16 G)))
            clear StW k0 k1 fz hW hnd2 HB HL HLev hmem ha16 G HF2
            go_upto_region 10 with fail
            obtain ⟨StW, hmem, ha16, G⟩ := HSW.out
            obtain ⟨W3, hW3⟩ : ∃ W3, W3 = W.setCell ⟨q, R.length * 2 + 1, none⟩ (.int .i64 (a : Int)) := ⟨_, rfl⟩
            rw [← hW3] at G ⊢
            have HST : Hid (Calls Tryz.prog 57 #[.pointer (some ⟨g, 0, none⟩), .pointer (some ⟨s.blk, 0, none⟩), .int .i64 65536] W3 fun e w' => e = .returned (.tuple #[]) ∧
                ∃ D' d', CurM w' B g kk (rootP o) ((s, 65536) :: (t, a) :: R) D' d' ∧ Foot (Cf g (some ⟨q, 0, none⟩)) W3 w' ∧ (∀ b, Cf g D' b → Cf g (some ⟨q, 0, none⟩) b ∨ W3.heap.size ≤ b)) := Lib.hid (step_c G.1.mem (by rw [List.length_cons]; omega) G.1.size s 65536)
            have HW3 := Lib.hid hW3
            clear k0' k1' fz' StW hmem ha16 G hW3
            go_wp2_with (go_at_call 57; refine HST.out.mono ?_; rintro e w5 ⟨rfl, D5, d5, hm5, hf5, hn5⟩)
            go_step3
            obtain ⟨StW, hmem, ha16, G⟩ := HSW.out
            rw [← HW3.out] at G
            have hP := upK_push (R := R) HC.out.2.2.2 HC.out.2.1
            have Stn := StW.next (CurAt.push G.1 hmem (by omega) hm5 hf5) hP.1 hP.2 (G.2.trans hf5 (fun b hb => .inl hb)) (fun b hb => (hn5 b hb).elim .inl (fun h => .inr (Nat.le_trans G.2.size h)))
            exact ⟨rfl, _, by rw [StW.cnt]; exact upK_less (R := R) HC.out.2.2.2 HC.out.2.1, _, D5, d5, _, _, _, _, _, _, _, _, _, _, _, _, _, _, _, _, _, _, _, _, _, _, _, _, _, _, _, _, _, _, _, _, _, _, _, _, _, _, _, _, _, _, _, _, _, _, _, _, _, _, _, _, _, _, _, _, _, rfl, Stn⟩
          | none =>
            have HF2 : Hid (∀ i, Calls Tryz.prog 46 #[.pointer (some ⟨t.blk, 0, none⟩), .int .i64 ((n : Int) - 1)] (w2.drewN i) fun e w3 => e = .returned (atKid 0 none) ∧ ∃ j, w3 = (w2.drewN i).drewN j) := Lib.hid (HFr.out w2 HS.out)
            clear HFr
            go_quiet ((go_at_call 46; with_reducible exact Calls.quiet_of (HF2.out _)))
            have StW := HS.out.drew nq
            obtain ⟨W, hW⟩ : ∃ W, W = w2.drewN nq := ⟨_, rfl⟩
            rw [← hW] at StW ⊢
            have HSW := Lib.hid StW
            clear StW k0 k1 fz hW hnd2 HB HL HLev HF2
            have hend : Hid (Tr.fore t n = []) := Lib.hid (Tr.fore_start (upK_none HC.out.2.1) (fun e0 => by have := HC.out.1; omega))
            cases R with
            | nil =>
              have HU := Lib.hid (up_no HSW.out.cur.mem (by simp))
              obtain ⟨b0, b1, f0, f1⟩ := box_cells HSW.out.box
              obtain ⟨r0, r1⟩ := res_cells HSW.out.box (.slice none 0 0) (.int .u64 0)
              go_wp2_with (go_at_call 58; refine HU.out.mono ?_; rintro e w5 ⟨rfl, rfl⟩)
              simp only [Exit.jump]
              refine bodyPost_ret (v := .tuple #[entryV none 0 0 0, .bool false]) (by simp [results, Tryz.results24, go_sem, r0, r1]) rfl ?_
              obtain ⟨z1, z2, z3⟩ := HSW.out.res (.slice none 0 0) (.int .u64 0)
              have ha : Tr.bef S0 = [] := by
                rw [← HSW.out.bef]
                show [] ++ Tr.fore t n = []
                rw [hend.out, List.append_nil]
              refine ⟨_, _, _, z1, z2, z3, ?_, ?_, ?_⟩
              · rw [ha]; rfl
              · rw [ha, HSW.out.bef]; rw [ha]; rfl
              · rw [ha, HSW.out.aft]; rfl
            | cons z R' =>
              obtain ⟨u, a⟩ := z
              have HU : Hid (Calls Tryz.prog 58 #[.pointer (some ⟨g, 0, none⟩)] W fun e w5 => e = .returned (.bool true) ∧ Stp w B g k kk o ((u, a) :: R') D0 Tr.mB (Tr.mB ((u, a) :: R')) ((u, a) :: R') (some ⟨q, 0, none⟩) d w5) := Lib.hid ((up_c HSW.out.cur.mem (by simp) (by omega)).mono fun e w5 ⟨he, i, hi⟩ => ⟨he, by
                have G5 := (HSW.out.drew i).cur.pop
                rw [← hi] at G5
                exact (HSW.out.drew i).turn G5.1 G5.2 (fun _ hb => .inl hb)⟩)
              have hup := HSW.out.cur.chain.up
              have hwu := (HSW.out.cur.nodes (u, a) (List.mem_cons_of_mem _ List.mem_cons_self)).1.1
              have HUP := Lib.hid (And.intro hup.1 hwu)
              clear hup hwu hl65 hcap
              go_wp2_with (go_at_call 58; refine HU.out.mono ?_; rintro e w5 ⟨rfl, hst5⟩; have H5 := Lib.hid hst5; clear hst5)
              go_step3
              have hP := Tr.back_pop (R := R') HUP.out.2 HUP.out.1 hend.out
              have St7 := H5.out.re (hP.1.trans HSW.out.bef) (hP.2.trans HSW.out.aft)
              exact ⟨rfl, _, by rw [HSW.out.cnt]; exact Tr.mB_pop, _, _, d, _, _, _, _, _, _, _, _, _, _, _, _, _, _, _, _, _, _, _, _, _, _, _, _, _, _, _, _, _, _, _, _, _, _, _, _, _, _, _, _, _, _, _, _, _, _, _, _, _, _, _, _, _, _, _, _, _, rfl, St7⟩
        · have d1 : decide (lv < 0) = false := decide_eq_false (by rw [← hlv]; simp only [levI]; omega)
          clear hlv h0
          go_upto_region 7 with (first
            | (go_at_call 55; refine HL.out.mono ?_; rintro e w2 ⟨rfl, hst2⟩; have HS := Lib.hid hst2; obtain ⟨-, hnd2, k0, k1, fz⟩ := HB.out w2 hst2; clear hst2)
            | (go_at_call 56; refine (HLev.out _ hnd2).mono ?_; rintro e w3 ⟨rfl, rfl⟩))
          cases kx with
          | some y =>
            obtain ⟨a, s⟩ := y
            have HF2 : Hid (∀ i, Calls Tryz.prog 46 #[.pointer (some ⟨t.blk, 0, none⟩), .int .i64 ((n : Int) - 1)] (w2.drewN i) fun e w3 => e = .returned (atKid a (some ⟨s.blk, 0, none⟩)) ∧ ∃ j, w3 = (w2.drewN i).drewN j) := Lib.hid (HFr.out w2 HS.out)
            clear HFr
            go_quiet ((go_at_call 46; with_reducible exact Calls.quiet_of (HF2.out _)))
            have StW := HS.out.drew nq
            obtain ⟨-, -, k0', k1', fz'⟩ := HB.out _ StW
            have hmem : (a, s) ∈ t.ks := upK_mem HC.out.2.1
            have ha16 : a < 65536 := HC.out.2.2.2.lt16 _ hmem
            have G := StW.cur.gap a (by omega)
            obtain ⟨W, hW⟩ : ∃ W, W = w2.drewN nq := ⟨_, rfl⟩
            rw [← hW] at StW k0' k1' fz' G ⊢
            have HSW := Lib.hid (And.intro StW (And.intro hmem (And.intro ha16 G)))
            clear StW k0 k1 fz hW hnd2 HB HL HLev hmem ha16 G HF2
            go_upto_region 10 with fail
            obtain ⟨StW, hmem, ha16, G⟩ := HSW.out
            obtain ⟨W3, hW3⟩ : ∃ W3, W3 = W.setCell ⟨q, R.length * 2 + 1, none⟩ (.int .i64 (a : Int)) := ⟨_, rfl⟩
            rw [← hW3] at G ⊢
            have HST : Hid (Calls Tryz.prog 57 #[.pointer (some ⟨g, 0, none⟩), .pointer (some ⟨s.blk, 0, none⟩), .int .i64 65536] W3 fun e w' => e = .returned (.tuple #[]) ∧
                ∃ D' d', CurM w' B g kk (rootP o) ((s, 65536) :: (t, a) :: R) D' d' ∧ Foot (Cf g (some ⟨q, 0, none⟩)) W3 w' ∧ (∀ b, Cf g D' b → Cf g (some ⟨q, 0, none⟩) b ∨ W3.heap.size ≤ b)) := Lib.hid (step_c G.1.mem (by rw [List.length_cons]; omega) G.1.size s 65536)
            have HW3 := Lib.hid hW3
            clear k0' k1' fz' StW hmem ha16 G hW3
            go_wp2_with (go_at_call 57; refine HST.out.mono ?_; rintro e w5 ⟨rfl, D5, d5, hm5, hf5, hn5⟩)
            go_step3
            obtain ⟨StW, hmem, ha16, G⟩ := HSW.out
            rw [← HW3.out] at G
            have hP := upK_push (R := R) HC.out.2.2.2 HC.out.2.1
            have Stn := StW.next (CurAt.push G.1 hmem (by omega) hm5 hf5) hP.1 hP.2 (G.2.trans hf5 (fun b hb => .inl hb)) (fun b hb => (hn5 b hb).elim .inl (fun h => .inr (Nat.le_trans G.2.size h)))
            exact ⟨rfl, _, by rw [StW.cnt]; exact upK_less (R := R) HC.out.2.2.2 HC.out.2.1, _, D5, d5, _, _, _, _, _, _, _, _, _, _, _, _, _, _, _, _, _, _, _, _, _, _, _, _, _, _, _, _, _, _, _, _, _, _, _, _, _, _, _, _, _, _, _, _, _, _, _, _, _, _, _, _, _, _, _, _, _, rfl, Stn⟩
          | none =>
            have HF2 : Hid (∀ i, Calls Tryz.prog 46 #[.pointer (some ⟨t.blk, 0, none⟩), .int .i64 ((n : Int) - 1)] (w2.drewN i) fun e w3 => e = .returned (atKid 0 none) ∧ ∃ j, w3 = (w2.drewN i).drewN j) := Lib.hid (HFr.out w2 HS.out)
            clear HFr
            go_quiet ((go_at_call 46; with_reducible exact Calls.quiet_of (HF2.out _)))
            have StW := HS.out.drew nq
            obtain ⟨W, hW⟩ : ∃ W, W = w2.drewN nq := ⟨_, rfl⟩
            rw [← hW] at StW ⊢
            have HSW := Lib.hid StW
            clear StW k0 k1 fz hW hnd2 HB HL HLev HF2
            have hend : Hid (Tr.fore t n = []) := Lib.hid (Tr.fore_start (upK_none HC.out.2.1) (fun e0 => by have := HC.out.1; omega))
            cases R with
            | nil =>
              have HU := Lib.hid (up_no HSW.out.cur.mem (by simp))
              obtain ⟨b0, b1, f0, f1⟩ := box_cells HSW.out.box
              obtain ⟨r0, r1⟩ := res_cells HSW.out.box (.slice none 0 0) (.int .u64 0)
              go_wp2_with (go_at_call 58; refine HU.out.mono ?_; rintro e w5 ⟨rfl, rfl⟩)
              simp only [Exit.jump]
              refine bodyPost_ret (v := .tuple #[entryV none 0 0 0, .bool false]) (by simp [results, Tryz.results24, go_sem, r0, r1]) rfl ?_
              obtain ⟨z1, z2, z3⟩ := HSW.out.res (.slice none 0 0) (.int .u64 0)
              have ha : Tr.bef S0 = [] := by
                rw [← HSW.out.bef]
                show [] ++ Tr.fore t n = []
                rw [hend.out, List.append_nil]
              refine ⟨_, _, _, z1, z2, z3, ?_, ?_, ?_⟩
              · rw [ha]; rfl
              · rw [ha, HSW.out.bef]; rw [ha]; rfl
              · rw [ha, HSW.out.aft]; rfl
            | cons z R' =>
              obtain ⟨u, a⟩ := z
              have HU : Hid (Calls Tryz.prog 58 #[.pointer (some ⟨g, 0, none⟩)] W fun e w5 => e = .returned (.bool true) ∧ Stp w B g k kk o ((u, a) :: R') D0 Tr.mB (Tr.mB ((u, a) :: R')) ((u, a) :: R') (some ⟨q, 0, none⟩) d w5) := Lib.hid ((up_c HSW.out.cur.mem (by simp) (by omega)).mono fun e w5 ⟨he, i, hi⟩ => ⟨he, by
                have G5 := (HSW.out.drew i).cur.pop
                rw [← hi] at G5
                exact (HSW.out.drew i).turn G5.1 G5.2 (fun _ hb => .inl hb)⟩)
              have hup := HSW.out.cur.chain.up
              have hwu := (HSW.out.cur.nodes (u, a) (List.mem_cons_of_mem _ List.mem_cons_self)).1.1
              have HUP := Lib.hid (And.intro hup.1 hwu)
              clear hup hwu hl65 hcap
              go_wp2_with (go_at_call 58; refine HU.out.mono ?_; rintro e w5 ⟨rfl, hst5⟩; have H5 := Lib.hid hst5; clear hst5)
              go_step3
              have hP := Tr.back_pop (R := R') HUP.out.2 HUP.out.1 hend.out
              have St7 := H5.out.re (hP.1.trans HSW.out.bef) (hP.2.trans HSW.out.aft)
              exact ⟨rfl, _, by rw [HSW.out.cnt]; exact Tr.mB_pop, _, _, d, _, _, _, _, _, _, _, _, _, _, _, _, _, _, _, _, _, _, _, _, _, _, _, _, _, _, _, _, _, _, _, _, _, _, _, _, _, _, _, _, _, _, _, _, _, _, _, _, _, _, _, _, _, _, _, _, _, rfl, St7⟩
end Go.Proofs.YtccefboifhfkdaaGreatDoor
