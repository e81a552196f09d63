import Derived.Test.YtmdohckoegpgkaaGreatDoorM64
import Derived.Test.YtmdohckoegpgkaaGreatDoorM28
/-
  CONTRACTS of package rank, fourth part: guide.down, whoever tells the way. Laid by wip/gen39.py.
-/
namespace Go.Proofs.YtmdohckoegpgkaaGreatDoor
open Go.ChangeShapes Go.WideShapes Go.ChangeAt Go.RowKit
open Tr (T S4 Ent)

/-- where such a way ends -/
def StopS (Off : List (T × Nat) → T → Prop) (us : List (T × Nat)) (o' : Option T) : Prop := ∀ t, o' = some t → t.lv = 0 ∨ Off us t

/-- whoever is asked at each node that is met: he tells the address at which the way goes on, or that it ends there -/
structure VisitR2 (fid g1 g2 B k : Nat) (o : Option T) (St : List (T × Nat) → T → Nat → Prop) (Off : List (T × Nat) → T → Prop) (Inv : List (T × Nat) → World → (Nat → Prop) → Prop) : Prop where
  ent : ∀ args w, (callFunc fid args).run Tryz.prog w = .ok (.enter fid args) w
  frame : ∀ us w w' F, Inv us w F → w.heap.size ≤ w'.heap.size → (∀ b, F b → w'.heap[b]? = w.heap[b]?) → Below B w w' → Inv us w' F
  inb : ∀ us w F, Inv us w F → ∀ b, F b → b < w.heap.size ∧ B ≤ b
  call : ∀ us w F t, Inv us w F → Node w B k t → B ≤ w.heap.size → us.length ≤ 64 → t.lv ≠ 0 → WayS St o us (some t) → Calls Tryz.prog fid #[.pointer (some ⟨t.blk, 0, none⟩), .pointer (some ⟨g1, 0, none⟩), .pointer (some ⟨g2, 0, none⟩)] w fun e w' =>
    ((∃ a : Nat, e = .returned (.tuple #[.int .i64 (a : Int), .bool true]) ∧ St us t a ∧ ∃ F', Inv ((t, a) :: us) w' F' ∧ (∀ b, F' b → F b ∨ w.heap.size ≤ b) ∧ Foot F w w') ∨
     (e = .returned (.tuple #[.int .i64 0, .bool false]) ∧ Off us t ∧ ∃ F', Inv us w' F' ∧ (∀ b, F' b → F b ∨ w.heap.size ≤ b) ∧ Foot F w w'))
set_option maxRecDepth 1000000 in
set_option maxHeartbeats 4000000 in
theorem kdownR2_c {fid g1 g2 B k : Nat} {o : Option T} {St : List (T × Nat) → T → Nat → Prop} {Off : List (T × Nat) → T → Prop} {Inv : List (T × Nat) → World → (Nat → Prop) → Prop} (hv : VisitR2 fid g1 g2 B k o St Off Inv) {w : World} {F : Nat → Prop} (hI : Inv [] w F) (hn : NodeO w B k o) (hB : B ≤ w.heap.size) :
    Calls Tryz.prog 105 #[.agg #[.func (.func fid) #[] #[.pointer (some ⟨g1, 0, none⟩), .pointer (some ⟨g2, 0, none⟩)]], .pointer (rootP o)] w fun e w' => ∃ us o', WayS St o us o' ∧ StopS Off us o' ∧
      e = .returned (.pointer (rootP o')) ∧ ∃ F', Inv us w' F' ∧ (∀ b, F' b → F b ∨ w.heap.size ≤ b) ∧ Foot F w w' := by
  have hent := hv.ent
  have HV := Lib.hid hv
  have HX := Lib.hid (And.intro hn hB)
  have hal := below_alloc w (.cells #[.func (.func fid) #[] #[.pointer (some ⟨g1, 0, none⟩), .pointer (some ⟨g2, 0, none⟩)]] 157)
  have hI0 := HV.out.frame _ _ (w.alloc (.cells #[.func (.func fid) #[] #[.pointer (some ⟨g1, 0, none⟩), .pointer (some ⟨g2, 0, none⟩)]] 157)) _ hI hal.size (fun b hb => hal.block b (HV.out.inb _ _ _ hI b hb).1) (hal.mono hB)
  have hx0 : (w.alloc (.cells #[.func (.func fid) #[] #[.pointer (some ⟨g1, 0, none⟩), .pointer (some ⟨g2, 0, none⟩)]] 157)).heap[w.heap.size]? = some (.cells #[.func (.func fid) #[] #[.pointer (some ⟨g1, 0, none⟩), .pointer (some ⟨g2, 0, none⟩)]] 157 (0, 0)) := heap_at w _ _ rfl
  have hF0 : ¬ F w.heap.size := fun h => by have := (HV.out.inb _ _ _ hI _ h).1; omega
  have H0 := Lib.hid (And.intro hI0 (And.intro hx0 (And.intro hF0 (And.intro (Foot.of_below (F := F) hal) hI))))
  clear hv hn hB hI hal hI0 hx0 hF0
  go_enter Tryz.func105, Tryz.ntmps105
  go_wp2_with fail
  refine wp_scope_count 0 (fun m a' w' => ∃ (us : List (T × Nat)) (o' : Option T) (F' : Nat → Prop) (u3 u5 u6 u7 u8 u9 u10 u11 u12 u13 u14 u15 u16 u17 u18 u19 u20 u21 u22 u23 : Value), a' = { tmps := #[.agg #[.func (.func fid) #[] #[.pointer (some ⟨g1, 0, none⟩), .pointer (some ⟨g2, 0, none⟩)]], .pointer (rootP o'), .pointer (some ⟨w.heap.size, 0, none⟩), u3, .pointer none, u5, u6, u7, u8, u9, u10, u11, u12, u13, u14, u15, u16, u17, u18, u19, u20, u21, u22, u23], defers := [] } ∧
      WayS St o us o' ∧ Inv us w' F' ∧ (∀ b, F' b → F b ∨ w.heap.size ≤ b) ∧ Foot F w w' ∧ w'.heap[w.heap.size]? = some (.cells #[.func (.func fid) #[] #[.pointer (some ⟨g1, 0, none⟩), .pointer (some ⟨g2, 0, none⟩)]] 157 (0, 0)) ∧ ¬ F' w.heap.size ∧ m + us.length = 65) rfl ?first ?pass
  case first =>
    intro hp
    refine wp_seq (wp_label (hp 65 _ _ ⟨[], o, F, _, _, _, _, _, _, _, _, _, _, _, _, _, _, _, _, _, _, _, _, rfl, .start, H0.out.1, fun b hb => .inl hb, H0.out.2.2.2.1, H0.out.2.1, H0.out.2.2.1, rfl⟩))
  case pass =>
    rintro m a' w' ⟨us, o', F', u3, u5, u6, u7, u8, u9, u10, u11, u12, u13, u14, u15, u16, u17, u18, u19, u20, u21, u22, u23, rfl, hway, hinv, hF', hfoot, hbox, hnF, hm⟩
    cases o' with
    | none =>
      have HR := Lib.hid (And.intro hway (And.intro hinv (And.intro hF' hfoot)))
      clear hway hinv hF' hfoot hbox hnF H0 hm
      simp only [rootP]
      go_wp2_with (go_at_call 97; refine (nLevel_nil _).mono ?_; rintro e w2 ⟨rfl, rfl⟩)
      simp only [Exit.jump]
      go_ret
      exact ⟨us, none, HR.out.1, fun t e => (by cases e), rfl, F', HR.out.2.1, HR.out.2.2.1, HR.out.2.2.2⟩
    | some t =>
      have hfo := hfoot.below HX.out.2 (fun b hb => (HV.out.inb [] w F H0.out.2.2.2.2 b hb).2)
      have hnt : Node w' B k t := (hway.node (HX.out.1.below hfo (Nat.le_refl _) (Nat.le_refl _))).1 t rfl
      have hBw := Nat.le_trans HX.out.2 hfo.size
      obtain ⟨kp, hnd⟩ := hnt.2.nd
      obtain ⟨lv, hlv⟩ : ∃ lv, levI t = lv := ⟨_, rfl⟩
      rw [hlv] at hnd
      have HL := Lib.hid hnd
      by_cases h0 : t.lv = 0
      · have d1 : decide (lv < 0) = true := decide_eq_true (by rw [← hlv]; simp only [levI, h0]; omega)
        have HR := Lib.hid (And.intro hway (And.intro hinv (And.intro hF' (And.intro hfoot h0))))
        clear hway hinv hF' hfoot hbox hnF H0 hnd hnt hlv h0 hm hBw hfo
        simp only [rootP]
        go_wp2_with (go_at_call 97; refine (nLevel_c HL.out).mono ?_; rintro e w2 ⟨rfl, rfl⟩)
        simp only [Exit.jump]
        go_ret
        exact ⟨us, some t, HR.out.1, fun s e => (by cases e; exact .inl HR.out.2.2.2.2), rfl, F', HR.out.2.1, HR.out.2.2.1, HR.out.2.2.2.1⟩
      · have d1 : decide (lv < 0) = false := decide_eq_false (by rw [← hlv]; simp only [levI]; omega)
        have hus := (hway.len (fun t e => (HX.out.1 t e).1)).1
        have HF := Lib.hid (HV.out.call us w' F' t hinv hnt hBw hus h0 hway)
        have hxlt : w.heap.size < w'.heap.size := (Array.getElem?_eq_some_iff.1 hbox).1
        have HK : Hid (∀ (a : Nat) w2, Below B w' w2 → Calls Tryz.prog 99 #[.pointer (some ⟨t.blk, 0, none⟩), .int .i64 (a : Int)] w2 fun e w3 => e = .returned (.pointer (rootP (Sl.get t.ks (a : Int)))) ∧ ∃ i, w3 = w2.drewN i) := Lib.hid fun a w2 hb2 =>
          nKid_c (hnt.below hb2 (Nat.le_refl _) (Nat.le_refl _)).2 (a : Int) _ (rootP_kid _)
        have HR := Lib.hid (And.intro hway (And.intro hinv (And.intro hF' (And.intro hfoot (And.intro hbox (And.intro hnF (And.intro hm (And.intro h0 (And.intro hBw hxlt)))))))))
        have q0 : w'.cell? ⟨w.heap.size, 0, none⟩ = some (.func (.func fid) #[] #[.pointer (some ⟨g1, 0, none⟩), .pointer (some ⟨g2, 0, none⟩)]) := by rw [cell_of_row w' _ _ _ _ (0, 0) hbox]; rfl
        clear hway hinv hF' hfoot hbox hnF H0 hnd hnt hlv h0 hm hBw hfo hus hxlt
        simp only [rootP]
        go_wp2_with (go_at_call 97; refine (nLevel_c HL.out).mono ?_; rintro e w2 ⟨rfl, rfl⟩)
        refine HF.out.mono ?_
        rintro e w2 (⟨a, rfl, hst, F2, hi2, hF2, hfo2⟩ | ⟨rfl, hoff, F2, hi2, hF2, hfo2⟩)
        · have HR2 := Lib.hid (And.intro hi2 (And.intro hF2 (And.intro hfo2 hst)))
          have hb2 : Below B w' w2 := hfo2.below HR.out.2.2.2.2.2.2.2.2.1 (fun b hb => (HV.out.inb _ _ _ HR.out.2.1 b hb).2)
          clear hi2 hF2 hfo2 q0 HF hst
          go_wp2_with (go_at_call 99; refine (HK.out a _ hb2).mono ?_; rintro e w3 ⟨rfl, n3, rfl⟩)
          go_step3
          obtain ⟨hway, hinv, hF', hfoot, hbox, hnF, hm, h0, hBw, hxlt⟩ := HR.out
          obtain ⟨hi2, hF2, hfo2, hst⟩ := HR2.out
          have hw2 : WayS St o ((t, a) :: us) (Sl.get t.ks (a : Int)) := .step hway h0 hst
          have hl2 := (hw2.len (fun t e => (HX.out.1 t e).1)).1
          rw [List.length_cons] at hl2
          refine ⟨rfl, m - 1, by omega, _, Sl.get t.ks (a : Int), F2, _, _, _, _, _, _, _, _, _, _, _, _, _, _, _, _, _, _, _, _, rfl, hw2, HV.out.frame _ w2 (w2.drewN n3) _ hi2 (Nat.le_refl _) (fun _ _ => rfl) (below_drewN n3 (Below.refl _ _)), fun b hb => ?_, (hfoot.trans hfo2 hF').drewN _, (hfo2.block _ hxlt hnF).trans hbox, fun hb => ?_, by rw [List.length_cons]; omega⟩
          · rcases hF2 b hb with hb | hb
            · exact hF' b hb
            · exact .inr (Nat.le_trans hfoot.size hb)
          · rcases hF2 _ hb with hb | hb
            · exact hnF hb
            · omega
        · have HR2 := Lib.hid (And.intro hi2 (And.intro hF2 (And.intro hfo2 hoff)))
          clear hi2 hF2 hfo2 q0 HF hoff HK
          go_wp2_with fail
          simp only [Exit.jump]
          go_ret
          obtain ⟨hway, hinv, hF', hfoot, hbox, hnF, hm, h0, hBw, hxlt⟩ := HR.out
          obtain ⟨hi2, hF2, hfo2, hoff⟩ := HR2.out
          refine ⟨us, some t, hway, fun s e => (by cases e; exact .inr hoff), rfl, F2, hi2, fun b hb => ?_, hfoot.trans hfo2 hF'⟩
          rcases hF2 b hb with hb | hb
          · exact hF' b hb
          · exact .inr (Nat.le_trans hfoot.size hb)
end Go.Proofs.YtmdohckoegpgkaaGreatDoor

/-
  CONTRACTS of package rank, fifth part: wayTo.
-/
namespace Go.Proofs.YtmdohckoegpgkaaGreatDoor
open Go.ChangeShapes Go.WideShapes Go.ChangeAt Go.RowKit
open Tr (T S4 Ent)

theorem infoStepK : (Tryz.prog.info? 91).map (fun i => (i.zero, i.size, i.bytes)) = some (some (.agg #[.pointer none, .int .i64 0]), 2, 16) := by kernel_rfl
/-- what wayTo keeps: the point in block g1, the way in g2 -/
structure WayM (w : World) (B g1 g2 : Nat) (A : Option Addr) (n c : Nat) (us : List (T × Nat)) (D : Option Addr) (d : Nat) : Prop where
  c1 : w.heap[g1]? = some (.cells #[.slice A n c] 23 (0, 0))
  c2 : w.heap[g2]? = some (.cells #[.slice D us.length d] 83 (0, 0))
  ge : B ≤ g1 ∧ B ≤ g2 ∧ g1 ≠ g2
  row : OwnL 91 2 StQ w B (.slice D us.length d) us.reverse
  ne : D.map (·.block) ≠ some g1 ∧ D.map (·.block) ≠ some g2
def WayF (g1 g2 : Nat) (D : Option Addr) : Nat → Prop := fun b => b = g1 ∨ b = g2 ∨ D.map (·.block) = some b
section
variable {w w' : World} {B g1 g2 : Nat} {A : Option Addr} {n c : Nat} {us : List (T × Nat)} {D : Option Addr} {d : Nat}
theorem WayM.lt (h : WayM w B g1 g2 A n c us D d) : ∀ b, WayF g1 g2 D b → b < w.heap.size ∧ B ≤ b := by
  rintro b (rfl | rfl | hb)
  · exact ⟨(Array.getElem?_eq_some_iff.1 h.c1).1, h.ge.1⟩
  · exact ⟨(Array.getElem?_eq_some_iff.1 h.c2).1, h.ge.2.1⟩
  · have := h.row.lt b (by rw [own_block]; exact hb)
    exact ⟨this.2, this.1⟩
theorem WayM.keep (h : WayM w B g1 g2 A n c us D d) (hk : ∀ b, WayF g1 g2 D b → w'.heap[b]? = w.heap[b]?) : WayM w' B g1 g2 A n c us D d :=
  ⟨(hk _ (.inl rfl)).trans h.c1, (hk _ (.inr (.inl rfl))).trans h.c2, h.ge, h.row.block fun q hq => hk q (.inr (.inr (by rw [own_block] at hq; exact hq))), h.ne⟩
theorem WayM.below (h : WayM w B g1 g2 A n c us D d) (hb : Below w.heap.size w w') : WayM w' B g1 g2 A n c us D d :=
  h.keep fun b hb' => hb.block b (h.lt b hb').1
end
set_option maxRecDepth 100000 in
set_option maxHeartbeats 2000000 in
theorem wayTo1_no {w : World} {B g1 g2 k : Nat} {A : Option Addr} {c : Nat} {us : List (T × Nat)} {D : Option Addr} {d : Nat} {p : List Nat} (h : WayM w B g1 g2 A p.length c us D d) {t : T} (hn : Node w B k t) (hp : Pts w B A p) (hl : p.length = k) (hc : Tr.covers t p = false) :
    Calls Tryz.prog 102 #[.pointer (some ⟨t.blk, 0, none⟩), .pointer (some ⟨g1, 0, none⟩), .pointer (some ⟨g2, 0, none⟩)] w fun e w' => e = .returned (.tuple #[.int .i64 0, .bool false]) ∧ w = w' := by
  obtain ⟨kp, hnd⟩ := hn.2.nd
  have hlen : t.pre.length = k := hn.1.len
  have HC := Lib.hid (nCovers_c hnd (by rw [hlen]; exact hn.1.k1) (by rw [hlen]; exact hn.1.k16) A p c hp (by rw [hlen, hl]) false hc)
  have q0 : w.cell? ⟨g1, 0, none⟩ = some (.slice A p.length c) := by rw [cell_of_row w _ _ _ _ (0, 0) h.c1]; rfl
  clear h hn hp hl hc hnd hlen
  go_enter Tryz.func102, Tryz.ntmps102
  go_wp2_with (go_at_call 103; refine HC.out.mono ?_; rintro e w2 ⟨rfl, rfl⟩)
  go_ret2
  exact ⟨rfl, rfl⟩
set_option maxRecDepth 100000 in
set_option maxHeartbeats 4000000 in
theorem wayTo1_yes {w : World} {B g1 g2 k : Nat} {A : Option Addr} {c : Nat} {us : List (T × Nat)} {D : Option Addr} {d : Nat} {p : List Nat} (h : WayM w B g1 g2 A p.length c us D d) (hus : us.length ≤ 64) {t : T} (hn : Node w B k t) (hB : B ≤ w.heap.size) (hp : Pts w B A p) (hl : p.length = k) (h0 : t.lv ≠ 0) (hc : Tr.covers t p = true) :
    Calls Tryz.prog 102 #[.pointer (some ⟨t.blk, 0, none⟩), .pointer (some ⟨g1, 0, none⟩), .pointer (some ⟨g2, 0, none⟩)] w fun e w' => e = .returned (.tuple #[.int .i64 (Z.addr p (t.lv - 1) : Int), .bool true]) ∧
      ∃ D' d', WayM w' B g1 g2 A p.length c ((t, Z.addr p (t.lv - 1)) :: us) D' d' ∧ (∀ b, WayF g1 g2 D' b → WayF g1 g2 D b ∨ w.heap.size ≤ b) ∧ Foot (WayF g1 g2 D) w w' := by
  obtain ⟨kp, hnd⟩ := hn.2.nd
  have hlen : t.pre.length = k := hn.1.len
  have k1 := hn.1.k1
  have k16 := hn.1.k16
  have h64 := hn.1.lv64
  obtain ⟨l, hl1⟩ : ∃ l, t.lv = l + 1 := ⟨t.lv - 1, by omega⟩
  have hlev : levI t = (l : Int) := by simp only [levI, hl1]; omega
  have HC := Lib.hid (nCovers_c hnd (by rw [hlen]; exact k1) (by rw [hlen]; exact k16) A p c hp (by rw [hlen, hl]) true hc)
  rw [hlev] at hnd
  have HL := Lib.hid fun i => nLevel_c (hnd.below (below_drewN i (Below.refl w.heap.size w)) hB (Nat.le_refl B))
  have HA := Lib.hid fun i => addr_yes A c p l B (w.drewN i) (hp.below' (below_drewN i (Below.refl w.heap.size w)) hB) (by omega) (by omega) (by omega)
  rw [show t.lv - 1 = l by omega]
  obtain ⟨a, ha⟩ : ∃ a, Z.addr p l = a := ⟨_, rfl⟩
  rw [ha] at HA ⊢
  have q0 : w.cell? ⟨g1, 0, none⟩ = some (.slice A p.length c) := by rw [cell_of_row w _ _ _ _ (0, 0) h.c1]; rfl
  have HX := Lib.hid (And.intro h (And.intro hus hB))
  clear h hus hn hp hl hc hnd hlen k1 k16 h64 hl1 hlev ha h0
  go_enter Tryz.func102, Tryz.ntmps102
  go_wp2_with (go_at_call 103; refine HC.out.mono ?_; rintro e w2 ⟨rfl, rfl⟩)
  go_quiet (first
    | (go_at_call 97; exact Calls.quiet_of_same ((HL.out _).mono fun e w' h => ⟨h.1, h.2.symm⟩))
    | (go_at_call 104; exact Calls.quiet_of_same ((HA.out _).mono fun e w' h => ⟨h.1, h.2.symm⟩)))
  obtain ⟨W1, hW1⟩ : ∃ W1, W1 = w.drewN nq := ⟨_, rfl⟩
  rw [← hW1]
  have hb1 : Below w.heap.size w W1 := by rw [hW1]; exact below_drewN nq (Below.refl _ _)
  have h1 := HX.out.1.below hb1
  have hs1 : W1.heap.size = w.heap.size := by rw [hW1]; rfl
  have c2 : W1.cell? ⟨g2, 0, none⟩ = some (.slice D us.length d) := by rw [cell_of_row W1 g2 _ _ _ (0, 0) h1.c2]; rfl
  have H1 := Lib.hid (And.intro h1 (And.intro hb1 hs1))
  clear h1 hb1 hW1 hs1 q0 HC HL HA
  go_wp2_with (at_builtin; refine wpList_append_list (Q := StQ) 83 91 (.agg #[.pointer none, .int .i64 0]) 16 Tryz.underlying83 infoStepK (by rfl) (by omega) (by omega) stQ_ok (by rfl) _ _ (by rfl) B (.slice D us.length d) us.reverse [(t, a)] (us.length + 1) (by simp) (by rfl) (by exact H1.out.1.row.below (below_alloc _ _) (Nat.le_refl _)) _ _ 1 1 (by rfl) (by rfl) (by exact lst_at stQ_ok #[.pointer (some ⟨t.blk, 0, none⟩), .int .i64 (a : Int)] (t, a) (by rfl) (by exact ⟨rfl, rfl⟩)) (by have := HX.out.2.1; omega) (by have := HX.out.2.2; have := H1.out.2.2; simp; omega) ?_; intro D5 d5 w5 hown5 hgrow5 hat5; have hg5 : w5.heap[g2]? = some (.cells #[.slice D us.length d] 83 (0, 0)) := (hgrow5.block g2 (by have := (H1.out.1.lt g2 (.inr (.inl rfl))).1; simp; omega) (fun e => H1.out.1.ne.2 (by rw [own_block] at e; exact e.symm))).trans ((Below.heap_alloc _ _ _ (H1.out.1.lt g2 (.inr (.inl rfl))).1).trans H1.out.1.c2); have hg6 : w5.heap[g1]? = some (.cells #[.slice A p.length c] 23 (0, 0)) := (hgrow5.block g1 (by have := (H1.out.1.lt g1 (.inl rfl)).1; simp; omega) (fun e => H1.out.1.ne.1 (by rw [own_block] at e; exact e.symm))).trans ((Below.heap_alloc _ _ _ (H1.out.1.lt g1 (.inl rfl)).1).trans H1.out.1.c1); have fz5 := frozen_of_row w5 g2 0 _ _ hg5; have cz5 : w5.cell? ⟨g2, 0, none⟩ = some (.slice D us.length d) := by { rw [cell_of_row w5 g2 _ _ _ (0, 0) hg5]; rfl }; have HG := Lib.hid (And.intro hown5 (And.intro hgrow5 (And.intro hat5 (And.intro hg5 hg6)))); clear hown5 hgrow5 hat5 hg5 hg6)
  go_ret2
  obtain ⟨hown5, hgrow5, hat5, hg5, hg6⟩ := HG.out
  obtain ⟨h, hl, hB⟩ := HX.out
  obtain ⟨h1, hb1, hs1⟩ := H1.out
  have hat : D5.map (·.block) = D.map (·.block) ∨ D5.map (·.block) = some (w.heap.size + 1) := by
    rcases hat5 with e | e
    · rw [own_block, own_block] at e; exact .inl e
    · rw [own_block] at e; exact .inr (e.trans (by simp [hs1]))
  have hl1 := (h.lt g1 (.inl rfl)).1
  have hl2 := (h.lt g2 (.inr (.inl rfl))).1
  have hne1 : D5.map (·.block) ≠ some g1 := by
    rcases hat with e | e
    · rw [e]; exact h.ne.1
    · rw [e]; intro e'; simp only [Option.some.injEq] at e'; omega
  have hne2 : D5.map (·.block) ≠ some g2 := by
    rcases hat with e | e
    · rw [e]; exact h.ne.2
    · rw [e]; intro e'; simp only [Option.some.injEq] at e'; omega
  have hfo : Foot (WayF g1 g2 D) w w5 := ((Foot.of_below (F := WayF g1 g2 D) hb1).trans (Foot.of_below (F := WayF g1 g2 D) (below_alloc W1 _)) (fun b hb => .inl hb)).trans (Foot.grown (F := WayF g1 g2 D) hgrow5 (fun q hq => .inr (.inr (by rw [own_block] at hq; exact hq)))) (fun b hb => .inl hb)
  refine ⟨rfl, D5, d5, ⟨(Below.heap_setCell _ _ _ _ h.ge.2.2).trans hg6, block_set hg5 _, h.ge, ?_, hne1, hne2⟩, fun b hb => ?_, hfo.trans (Foot.setCell w5 (F := WayF g1 g2 D) (a := ⟨g2, 0, none⟩) (.inr (.inl rfl)) _) (fun b hb => .inl hb)⟩
  · rw [← List.reverse_cons] at hown5
    exact hown5.block fun q hq => Below.heap_setCell _ _ _ _ (fun e => hne2 (by rw [own_block] at hq; rw [hq, e]))
  · rcases hb with rfl | rfl | hb
    · exact .inl (.inl rfl)
    · exact .inl (.inr (.inl rfl))
    · rcases hat with e | e
      · rw [e] at hb; exact .inl (.inr (.inr hb))
      · rw [e] at hb; simp only [Option.some.injEq] at hb; exact .inr (by omega)

/-! ### wayTo -/
def WaySt (p : List Nat) : List (T × Nat) → T → Nat → Prop := fun _ t a => Tr.covers t p = true ∧ a = Z.addr p (t.lv - 1)
def WayOff (p : List Nat) : List (T × Nat) → T → Prop := fun _ t => Tr.covers t p = false
def WayI (B g1 g2 : Nat) (A : Option Addr) (p : List Nat) (c : Nat) (us : List (T × Nat)) (w : World) (F : Nat → Prop) : Prop :=
  Pts w B A p ∧ ∃ D d, WayM w B g1 g2 A p.length c us D d ∧ ∀ b, F b ↔ WayF g1 g2 D b
theorem way_visit (B g1 g2 k : Nat) (A : Option Addr) (p : List Nat) (c : Nat) (o : Option T) (hl : p.length = k) : VisitR2 102 g1 g2 B k o (WaySt p) (WayOff p) (WayI B g1 g2 A p c) where
  ent := enters_of Tryz.func102 (by kernel_rfl) rfl
  frame := by
    rintro us w w' F ⟨hp, D, d, hm, hF⟩ _ hk hb
    exact ⟨hp.below' hb (Nat.le_refl _), D, d, hm.keep fun b h => hk b ((hF b).2 h), hF⟩
  inb := by
    rintro us w F ⟨hp, D, d, hm, hF⟩ b hb
    exact hm.lt b ((hF b).1 hb)
  call := by
    rintro us w F t ⟨hp, D, d, hm, hF⟩ hn hB hus h0 _
    cases hc : Tr.covers t p with
    | false =>
      refine (wayTo1_no hm hn hp hl hc).mono ?_
      rintro e w' ⟨rfl, rfl⟩
      exact .inr ⟨rfl, hc, F, ⟨hp, D, d, hm, hF⟩, fun b hb => .inl hb, Foot.of_below (Below.refl _ _)⟩
    | true =>
      refine (wayTo1_yes hm hus hn hB hp hl h0 hc).mono ?_
      rintro e w' ⟨rfl, D', d', hm', hin, hfo⟩
      have hfo' : Foot F w w' := ⟨hfo.os, hfo.tape, hfo.output, hfo.size, fun b hb hn => hfo.block b hb fun h => hn ((hF b).2 h)⟩
      refine .inl ⟨_, rfl, ⟨hc, rfl⟩, WayF g1 g2 D', ⟨hp.below' (hfo.below hB fun b hb => (hm.lt b hb).2) (Nat.le_refl _), D', d', hm', fun b => Iff.rfl⟩, fun b hb => ?_, hfo'⟩
      rcases hin b hb with h | h
      · exact .inl ((hF b).2 h)
      · exact .inr h
theorem way_of {p : List Nat} {o o' : Option T} {us : List (T × Nat)} (h : WayS (WaySt p) o us o') : Tr.Way p o us o' := by
  induction h with
  | start => exact .start
  | @step us t a h hl hs ih =>
    obtain ⟨hc, rfl⟩ := hs
    exact .step ih hl hc
theorem stop_of {p : List Nat} {o' : Option T} {us : List (T × Nat)} (h : StopS (WayOff p) us o') : Tr.Stop p o' := by
  cases o' with
  | none => trivial
  | some t => exact h t rfl
set_option maxRecDepth 1000000 in
set_option maxHeartbeats 4000000 in
theorem wayTo_c {w : World} {B k : Nat} {o : Option T} (hn : NodeO w B k o) (hB : B ≤ w.heap.size) {p : List Nat} {A : Option Addr} {c : Nat} (hp : Pts w B A p) (hl : p.length = k) :
    Calls Tryz.prog 50 #[.pointer (rootP o), .slice A p.length c] w fun e w' => ∃ us o' D d, Tr.Way p o us o' ∧ Tr.Stop p o' ∧
      e = .returned (.tuple #[.slice D us.length d, .pointer (rootP o')]) ∧ OwnL 91 2 StQ w' w.heap.size (.slice D us.length d) us.reverse ∧ Below w.heap.size w w' := by
  obtain ⟨W0, hW0⟩ : ∃ W0, W0 = (w.alloc (.cells #[.slice A p.length c] 23)).alloc (.cells #[.slice none 0 0] 83) := ⟨_, rfl⟩
  have hb0 : Below w.heap.size w W0 := by rw [hW0]; ((repeat (first | refine Below.drew ?_ | (with_reducible refine below_drewN _ ?_) | refine Below.alloc ?_ (by first | omega | (simp; done) | (simp; omega)) _ | refine Below.setCell ?_ (by first | omega | (simp; done) | (simp; omega)) _)); first | exact Below.refl _ _ | assumption | exact below_drewN _ (Below.refl _ _) | exact below_drewN _ (below_drewN _ (Below.refl _ _)))
  have hm0 : WayM W0 w.heap.size w.heap.size (w.heap.size + 1) A p.length c [] none 0 := ⟨by rw [hW0]; (first | (refine heap_at _ _ _ ?_; simp; done) | (refine heap_past _ (heap_at _ _ _ ?_); simp; done) | (refine heap_past _ (heap_past _ (heap_at _ _ _ ?_)); simp; done) | (refine heap_past _ (heap_past _ (heap_past _ (heap_at _ _ _ ?_))); simp; done)), by rw [hW0]; (first | (refine heap_at _ _ _ ?_; simp; done) | (refine heap_past _ (heap_at _ _ _ ?_); simp; done) | (refine heap_past _ (heap_past _ (heap_at _ _ _ ?_)); simp; done) | (refine heap_past _ (heap_past _ (heap_past _ (heap_at _ _ _ ?_))); simp; done)), ⟨Nat.le_refl _, by omega, by omega⟩, ownL_none _ _ _, ⟨by simp, by simp⟩⟩
  have HD := Lib.hid (kdownR2_c (way_visit w.heap.size w.heap.size (w.heap.size + 1) k A p c o hl) (w := W0) (F := WayF w.heap.size (w.heap.size + 1) none) ⟨(hp.below' hb0 hB).keep hB (fun _ _ => rfl), none, 0, hm0, fun b => Iff.rfl⟩ (hn.below hb0 hB hB) hb0.size)
  have H0 := Lib.hid hb0
  clear hn hB hp hl hm0 hb0
  go_enter Tryz.func50, Tryz.ntmps50
  go_upto_region 1 with fail
  rw [← hW0]
  clear hW0
  go_wp2_with (go_at_call 105; refine HD.out.mono ?_; rintro e w2 ⟨us, o', hway, hstop, rfl, F', ⟨hp2, D, d, hm2, hF2⟩, hF', hfo⟩; have c2 : w2.cell? ⟨w.heap.size + 1, 0, none⟩ = some (.slice D us.length d) := (by rw [cell_of_row w2 _ _ _ _ (0, 0) hm2.c2]; rfl); have f2 : w2.frozen? ⟨w.heap.size + 1, 0, none⟩ = false := frozen_of_row w2 _ _ _ _ hm2.c2; have H2 := Lib.hid (And.intro hway (And.intro hstop (And.intro hm2 hfo))); clear hway hstop hm2 hfo hp2 hF2 hF')
  have cS : (w2.setCell ⟨w.heap.size + 1, 0, none⟩ (.slice D us.length d)).cell? ⟨w.heap.size + 1, 0, none⟩ = some (.slice D us.length d) := World.cell?_setCell_same _ _ _ c2
  refine bodyPost_ret (v := .tuple #[.slice D us.length d, .pointer (rootP o')]) (by simp [results, Tryz.results50, go_sem, cS]) rfl ?_
  obtain ⟨hway, hstop, hm2, hfo⟩ := H2.out
  have hb2 := hfo.below H0.out.size (fun b hb => by
    rcases hb with rfl | rfl | hb
    · exact Nat.le_refl _
    · omega
    · cases hb)
  refine ⟨us, o', D, d, way_of hway, stop_of hstop, rfl, hm2.row.block fun q hq => Below.heap_setCell _ _ _ _ (fun e => hm2.ne.2 (by rw [own_block] at hq; rw [hq, e])), (H0.out.trans hb2).setCell (p := ⟨w.heap.size + 1, 0, none⟩) (by show w.heap.size ≤ w.heap.size + 1; omega) _⟩
end Go.Proofs.YtmdohckoegpgkaaGreatDoor
