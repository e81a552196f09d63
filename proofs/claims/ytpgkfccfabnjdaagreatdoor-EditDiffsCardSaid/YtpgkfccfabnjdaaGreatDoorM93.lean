import Derived.Test.YtpgkfccfabnjdaaGreatDoorM92
import Derived.Test.YtpgkfccfabnjdaaGreatDoorM30
import Derived.Test.YtpgkfccfabnjdaaGreatDoorM64
/-
  CONTRACTS of package diff, fifth part: rows of changes ('ChRow'), appendChanges.
-/
namespace Go.Proofs.YtpgkfccfabnjdaaGreatDoor
open Go.ChangeShapes Go.WideShapes Go.ChangeAt Go.RowKit
open Tr (T S4 Ent Sd Fl Chg)

def ChG (w : World) (G : Nat → Prop) (f : Nat → Option Value) (c : Chg) : Prop :=
  ∃ A n, f 0 = some (.slice A c.1.length n) ∧ f 1 = some (.bool c.2.1.isSome) ∧ f 2 = some (.bool c.2.2.isSome) ∧ f 3 = some (.int .u64 ((c.2.1.getD 0 : Nat) : Int)) ∧ f 4 = some (.int .u64 ((c.2.2.getD 0 : Nat) : Int)) ∧
    PtsG w G A c.1 ∧ c.1.length ≤ maxLen ∧ c.2.1.getD 0 < 18446744073709551616 ∧ c.2.2.getD 0 < 18446744073709551616
theorem chG_ok (w : World) (G : Nat → Prop) : QOk 5 (ChG w G) where
  ext := by
    rintro f g a h ⟨A, c, h0, h1, h2, h3, h4, r⟩
    exact ⟨A, c, (h 0 (by omega)).symm.trans h0, (h 1 (by omega)).symm.trans h1, (h 2 (by omega)).symm.trans h2, (h 3 (by omega)).symm.trans h3, (h 4 (by omega)).symm.trans h4, r⟩
  has := by
    rintro f a ⟨A, c, h0, h1, h2, h3, h4, r⟩ j hj
    match j, hj with
    | 0, _ => exact ⟨_, h0, rfl⟩
    | 1, _ => exact ⟨_, h1, rfl⟩
    | 2, _ => exact ⟨_, h2, rfl⟩
    | 3, _ => exact ⟨_, h3, rfl⟩
    | 4, _ => exact ⟨_, h4, rfl⟩
theorem ChG.step {w w' : World} {G G' : Nat → Prop} (hs : w.heap.size ≤ w'.heap.size) (hk : ∀ b, b < w.heap.size → G b → w'.heap[b]? = w.heap[b]? ∧ G' b) : ∀ f e, ChG w G f e → ChG w' G' f e := by
  rintro f e ⟨A, c, h0, h1, h2, h3, h4, h5, r⟩
  exact ⟨A, c, h0, h1, h2, h3, h4, h5.step hs hk, r⟩
theorem infoChg : (Tryz.prog.info? 111).map (fun i => (i.zero, i.size, i.bytes)) = some (some (.agg #[.slice none 0 0, .bool false, .bool false, .int .u64 0, .int .u64 0]), 5, 48) := by kernel_rfl
structure ChRow (w : World) (base : Nat) (D : Nat → Prop) (V : Option Addr) (c : Nat) (L : List Chg) : Prop where
  row : OwnL 111 5 (ChG w D) w base (.slice V L.length c) L
  dom : ∀ b, D b → base ≤ b ∧ b < w.heap.size ∧ V.map (·.block) ≠ some b
theorem ChRow.lt {w : World} {base : Nat} {D : Nat → Prop} {V : Option Addr} {c : Nat} {L : List Chg} (h : ChRow w base D V c L) : ∀ b, V.map (·.block) = some b → base ≤ b ∧ b < w.heap.size := fun b hb => h.row.lt b (by rw [own_block]; exact hb)
theorem ChRow.frame {w w' : World} {base : Nat} {D : Nat → Prop} {V : Option Addr} {c : Nat} {L : List Chg} (h : ChRow w base D V c L) (hs : w.heap.size ≤ w'.heap.size) (hb : ∀ b, (V.map (·.block) = some b ∨ D b) → w'.heap[b]? = w.heap[b]?) : ChRow w' base D V c L :=
  ⟨(h.row.block fun q hq => hb q (.inl (by rw [own_block] at hq; exact hq))).imp (ChG.step hs fun b _ hD => ⟨hb b (.inr hD), hD⟩), fun b hD => ⟨(h.dom b hD).1, Nat.lt_of_lt_of_le (h.dom b hD).2.1 hs, (h.dom b hD).2.2⟩⟩
theorem ChRow.below {w w' : World} {base : Nat} {D : Nat → Prop} {V : Option Addr} {c : Nat} {L : List Chg} (h : ChRow w base D V c L) (hb : Below w.heap.size w w') : ChRow w' base D V c L :=
  h.frame hb.size fun b hb' => hb.block b (by
    rcases hb' with e | e
    · exact (h.lt b e).2
    · exact (h.dom b e).2.1)
theorem ChRow.wide {w w' : World} {base : Nat} {D : Nat → Prop} {V : Option Addr} {c : Nat} {L : List Chg} (h : ChRow w base D V c L) (hB : base ≤ w.heap.size) (hb : Below w.heap.size w w') : ChRow w' base (fun b => D b ∨ (w.heap.size ≤ b ∧ b < w'.heap.size)) V c L := by
  refine ⟨OwnL.imp (h.below hb).row (ChG.step (Nat.le_refl _) fun b _ hD => ⟨rfl, .inl hD⟩), fun b hD => ?_⟩
  rcases hD with hD | hD
  · have := h.dom b hD
    exact ⟨this.1, Nat.lt_of_lt_of_le this.2.1 hb.size, this.2.2⟩
  · exact ⟨by omega, hD.2, fun e => by have := (h.lt b e).2; omega⟩
theorem ChRow.app {w w2 w5 : World} {base m : Nat} {D : Nat → Prop} {V V' : Option Addr} {c c' : Nat} {L : List Chg} {x : Chg} (h : ChRow w base D V c L) (_hB : base ≤ w.heap.size) (hb : Below w.heap.size w w2) (hm : (L ++ [x]).length = m)
    (hown : OwnL 111 5 (ChG w D) w5 base (.slice V' m c') (L ++ [x])) (hgr : w2.grownBy w5 (Value.slice V L.length c).ownBlock) (hat : (Value.slice V' m c').ownBlock = (Value.slice V L.length c).ownBlock ∨ (Value.slice V' m c').ownBlock = some w2.heap.size) :
    ChRow w5 base D V' c' (L ++ [x]) ∧ Foot (fun b => V.map (·.block) = some b) w w5 ∧ (V'.map (·.block) = V.map (·.block) ∨ ∃ q, V'.map (·.block) = some q ∧ w.heap.size ≤ q) := by
  subst hm
  rw [own_block, own_block] at hat
  rw [own_block] at hgr
  have s2 := hb.size
  have hk : ∀ b, b < w2.heap.size → V.map (·.block) ≠ some b → w5.heap[b]? = w2.heap[b]? := fun b hb' hn => hgr.block b hb' (fun e => hn e.symm)
  refine ⟨⟨hown.imp (ChG.step (Nat.le_trans s2 hgr.size) fun b hlt hD => ⟨(hk b (Nat.lt_of_lt_of_le hlt s2) (h.dom b hD).2.2).trans (hb.block b hlt), hD⟩), fun b hD => ?_⟩, ⟨hgr.os.trans hb.os, hgr.tape.trans hb.tape, hgr.output.trans hb.output, Nat.le_trans s2 hgr.size, fun b hlt hn => (hk b (by omega) hn).trans (hb.block b hlt)⟩, ?_⟩
  · have := h.dom b hD
    refine ⟨this.1, Nat.lt_of_lt_of_le this.2.1 (Nat.le_trans s2 hgr.size), ?_⟩
    rcases hat with e | e
    · rw [e]; exact this.2.2
    · rw [e]; intro e'; simp only [Option.some.injEq] at e'; omega
  · rcases hat with e | e
    · exact .inl e
    · exact .inr ⟨_, e, s2⟩
theorem NewE.pick {base : Nat} {w : World} {A : Option Addr} {c : Nat} {L : List Ent} (h : NewE base w A c L) {j : Nat} {e : Ent} (he : L[j]? = some e) : ∃ b off P n, A = some ⟨b, off, none⟩ ∧ base ≤ b ∧ b < w.heap.size ∧
    (∀ W : World, W.heap[b]? = w.heap[b]? → W.cell? ⟨b, off + j * 2, none⟩ = some (.slice P e.1.length n) ∧ W.cell? ⟨b, off + j * 2 + 1, none⟩ = some (.int .u64 (e.2 : Int))) ∧ PtsG w (fun b => base ≤ b) P e.1 ∧ e.1.length ≤ maxLen ∧ e.2 < 18446744073709551616 := by
  have hlt := OwnL.lt h
  obtain ⟨A', c', hv, -, hl⟩ := OwnL.rd (entG_ok _ _) h
  simp only [Value.slice.injEq] at hv
  obtain ⟨rfl, -, -⟩ := hv
  obtain ⟨b, off, rfl, h2, h3⟩ := hl (by rintro rfl; simp at he)
  obtain ⟨P, n, h4, h5, h6, h7, h8⟩ := h3 j e he
  refine ⟨b, off, P, n, rfl, (hlt b rfl).1, h2, fun W hW => ⟨?_, ?_⟩, h6.step (Nat.le_refl _) (fun b _ hG => ⟨rfl, hG.1⟩), h7, h8⟩
  · exact (World.cell?_of_block (a := ⟨b, off + j * 2, none⟩) hW).trans h4
  · exact (World.cell?_of_block (a := ⟨b, off + j * 2 + 1, none⟩) hW).trans h5
def fromE (e : Ent) : Chg := (e.1, some e.2, none)
def toE (e : Ent) : Chg := (e.1, none, some e.2)
structure ApI (w5 : World) (base : Nat) (D : Nat → Prop) (V0 : Option Addr) (n : Nat) (R : Option Addr) (c : Nat) (L : List Chg) (W : World) : Prop where
  row : ChRow W base D R c L
  foot : Foot (fun b => V0.map (·.block) = some b) w5 W
  at_ : R.map (·.block) = V0.map (·.block) ∨ ∃ q, R.map (·.block) = some q ∧ w5.heap.size ≤ q
  len : L.length = n
theorem ApI.step {w5 w2 w6 W : World} {base : Nat} {D : Nat → Prop} {V0 R R' : Option Addr} {n c c' : Nat} {L : List Chg} {x : Chg} (h : ApI w5 base D V0 n R c L W) (hB : base ≤ w5.heap.size) (hb : Below W.heap.size W w2)
    (hown : OwnL 111 5 (ChG W D) w6 base (.slice R' (n + 1) c') (L ++ [x])) (hgr : w2.grownBy w6 (Value.slice R n c).ownBlock) (hat : (Value.slice R' (n + 1) c').ownBlock = (Value.slice R n c).ownBlock ∨ (Value.slice R' (n + 1) c').ownBlock = some w2.heap.size) :
    ApI w5 base D V0 (n + 1) R' c' (L ++ [x]) w6 := by
  have hl := h.len
  subst hl
  obtain ⟨h1, h2, h3⟩ := h.row.app (Nat.le_trans hB h.foot.size) hb (by simp) hown hgr hat
  have hs := h.foot.size
  refine ⟨h1, h.foot.trans h2 fun b hb' => ?_, ?_, by simp⟩
  · rcases h.at_ with e | ⟨q, e, hq⟩
    · rw [e] at hb'; exact .inl hb'
    · rw [e] at hb'
      simp only [Option.some.injEq] at hb'
      subst hb'
      exact .inr hq
  · rcases h3 with e | ⟨q, e, hq⟩
    · rw [e]; exact h.at_
    · exact .inr ⟨q, e, Nat.le_trans hs hq⟩
theorem ptsG_kept {w5 W : World} {D : Nat → Prop} {P : Option Addr} {us : List Nat} {b0 : Nat} {V0 : Option Addr} (h : PtsG w5 (fun b => b0 ≤ b) P us) (hf : Foot (fun b => V0.map (·.block) = some b) w5 W) (hV : ∀ b, V0.map (·.block) = some b → b < b0) (hD : ∀ b, b0 ≤ b → b < w5.heap.size → D b) : PtsG W D P us :=
  h.step hf.size fun b hlt hG => ⟨hf.block b hlt (fun e => by have := hV b e; omega), hD b hG hlt⟩
theorem ApI.own {w5 W w2 : World} {base : Nat} {D : Nat → Prop} {V0 R : Option Addr} {n c : Nat} {L : List Chg} (h : ApI w5 base D V0 n R c L W) (hb : Below W.heap.size W w2) : OwnL 111 5 (ChG W D) w2 base (.slice R n c) L := by
  have hl := h.len
  subst hl
  exact h.row.row.below hb (Nat.le_refl _)
theorem ApI.start {w1 w5 : World} {base : Nat} {D : Nat → Prop} {V : Option Addr} {n c : Nat} {L : List Chg} (h : ChRow w1 base D V c L) (hn : L.length = n) (hB : base ≤ w1.heap.size) (hb : Below w1.heap.size w1 w5) : ApI w5 base (fun b => D b ∨ (w1.heap.size ≤ b ∧ b < w5.heap.size)) V n V c L w5 :=
  ⟨h.wide hB hb, Foot.of_below (Below.refl _ _), .inl rfl, hn⟩
theorem map_take {α β : Type} (f : α → β) {X : List α} {j : Nat} {e : α} (h : X[j]? = some e) (L : List β) : L ++ (X.take (j + 1)).map f = L ++ (X.take j).map f ++ [f e] := by
  rw [List.take_add_one, h]
  simp
set_option maxRecDepth 1000000 in
set_option maxHeartbeats 8000000 in
theorem appendCh_c {w : World} {base B k : Nat} {D : Nat → Prop} {V : Option Addr} {c : Nat} {L : List Chg} (h : ChRow w base D V c L) (hbase : base ≤ w.heap.size) {x y : Option T} (hx : NodeO w B k x) (hy : NodeO w B k y) (hBb : B ≤ base) (hT : ∀ w', Below B w w' → Tz w')
    {X Y : List Ent} (hX : Tr.entsO x = X) (hY : Tr.entsO y = Y) {nx ny nl : Nat} (hnx : X.length = nx) (hny : Y.length = ny) (hnl : L.length = nl) (hN : nx + ny + nl ≤ 100000000) {r1 r2 : Bool} (h1 : (entO x).2 = r1) (h2 : (entO y).2 = r2) (hor : (r1 && r2) = false) :
    Calls Tryz.prog 80 #[.slice V nl c, .pointer (rootP x), .pointer (rootP y)] w fun e w' => ∃ V' c' D', e = .returned (.slice V' (nl + nx + ny) c') ∧ ChRow w' base D' V' c' (L ++ X.map fromE ++ Y.map toE) ∧
      (∀ b, D' b → D b ∨ w.heap.size ≤ b) ∧ (∀ b, V'.map (·.block) = some b → V.map (·.block) = some b ∨ w.heap.size ≤ b) ∧ Foot (fun b => V.map (·.block) = some b) w w' := by
  have hB : B ≤ w.heap.size := Nat.le_trans hBb hbase
  have HEx := nEntry_o hx hB
  have HEy := Lib.hid fun (w1 : World) (hb : Below w.heap.size w w1) => nEntry_o (hy.below hb hB (Nat.le_refl _)) (Nat.le_trans hB hb.size)
  have HAx : Hid (∀ w1, Below w.heap.size w w1 → Calls Tryz.prog 139 #[.pointer (rootP x)] w1 fun e w' => ∃ A c, e = .returned (.slice A nx c) ∧ nx ≤ c ∧ NewE w1.heap.size w' A c X ∧ Below w1.heap.size w1 w') := Lib.hid fun w1 hb => by
    have hh := allN_c (w := w1) (hx.below hb hB (Nat.le_refl _)) (Nat.le_trans hB hb.size) (fun w' h' => hT w' ((hb.mono hB).trans h')) (by rw [hX, hnx]; omega)
    rw [hX, hnx] at hh
    exact hh
  have HAy : Hid (∀ w1, Below B w w1 → B ≤ w1.heap.size → Calls Tryz.prog 139 #[.pointer (rootP y)] w1 fun e w' => ∃ A c, e = .returned (.slice A ny c) ∧ ny ≤ c ∧ NewE w1.heap.size w' A c Y ∧ Below w1.heap.size w1 w') := Lib.hid fun w1 hb hs => by
    have hh := allN_c (w := w1) (hy.below hb (Nat.le_refl _) (Nat.le_refl _)) hs (fun w' h' => hT w' (hb.trans h')) (by rw [hY, hny]; omega)
    rw [hY, hny] at hh
    exact hh
  obtain ⟨v1, hv1⟩ : ∃ v, (entO x).1 = v := ⟨_, rfl⟩
  obtain ⟨v2, hv2⟩ : ∃ v, (entO y).1 = v := ⟨_, rfl⟩
  obtain ⟨px, hpx⟩ : ∃ p, rootP x = p := ⟨_, rfl⟩
  obtain ⟨py, hpy⟩ : ∃ p, rootP y = p := ⟨_, rfl⟩
  rw [h1, hv1, hpx] at HEx
  rw [h2, hv2, hpy] at HEy
  rw [hpx] at HAx ⊢
  rw [hpy] at HAy ⊢
  have HEx := Lib.hid HEx
  have HH := Lib.hid (And.intro h (And.intro hbase (And.intro hBb (And.intro hnx (And.intro hny (And.intro hnl hN))))))
  have hn9 : (nx : Int) ≤ 100000000 := by omega
  have hn8 : (ny : Int) ≤ 100000000 := by omega
  have hn7 : (nl : Int) ≤ 100000000 := by omega
  clear h hbase hx hy hB hBb hT hX hY hnx hny hnl hN h1 h2 hv1 hv2 hpx hpy
  go_enter Tryz.func80, Tryz.ntmps80
  go_wp2_with fail
  refine HEx.out.mono ?_
  rintro e w1 ⟨A1, n1, c1, rfl, hb1⟩
  have H1 := Lib.hid hb1
  clear hb1 HEx
  go_wp2_with fail
  refine (HEy.out _ (H1.out.trans ((below_alloc w1 _).mono H1.out.size))).mono ?_
  rintro e w2 ⟨A2, n2, c2, rfl, hb2⟩
  have H2 : Hid (Below w.heap.size w w2) := Lib.hid ((H1.out.trans ((below_alloc w1 _).mono H1.out.size)).trans (hb2.mono (by have := H1.out.size; simp; omega)))
  clear hb2 HEy H1
  obtain ⟨W2, hW2⟩ : ∃ W2, W2 = w2.alloc (.cells #[.slice A2 n2 c2, .int .u64 (v2 : Int)] 73) := ⟨_, rfl⟩
  have HW2 : Hid (Below w.heap.size w W2) := Lib.hid (by rw [hW2]; exact H2.out.trans ((below_alloc w2 _).mono H2.out.size))
  clear H2
  go_upto_region 3 with fail
  rw [← hW2]
  clear hW2
  go_cut [28] from 25 (fun v wx => v = Value.bool false ∧ wx = W2)
  case first =>
    cases r1 <;> cases r2
    all_goals first
      | (exfalso; exact Bool.noConfusion hor)
      | (go_wp2_with fail; go_meet; exact ⟨rfl, rfl⟩)
  case rest =>
  obtain ⟨rfl, hwc⟩ := hcut
  rw [hwc]
  clear hwc hor
  go_wp2_with fail
  refine (HAx.out W2 HW2.out).mono ?_
  rintro e w3 ⟨Ax, cx, rfl, hcx, hnew, hb3⟩
  have hst := ApI.start (HH.out.1.below HW2.out) HH.out.2.2.2.2.2.1 (Nat.le_trans HH.out.2.1 HW2.out.size) hb3
  have H3 := Lib.hid (And.intro hnew (And.intro hb3 (And.intro hcx HW2.out)))
  have HS := Lib.hid hst
  clear hnew hb3 hcx HAx hst HW2
  go_wp2_with fail
  go_loopw [0, 42] (fun u v wr => ∃ (j : Nat) (R : Option Addr) (d : Nat), u = .slice R (nl + j) d ∧ v = .int .i64 (j : Int) ∧ j ≤ nx ∧ ApI w3 base (fun b => D b ∨ (W2.heap.size ≤ b ∧ b < w3.heap.size)) V (nl + j) R d (L ++ (X.take j).map fromE) wr) (fun _ v _ => nx - (intOf v).toNat)
  case atStart => exact ⟨0, V, c, rfl, rfl, Nat.zero_le _, by simpa using HS.out⟩
  case round =>
    clear HS
    obtain ⟨j, R, d, rfl, rfl, hj, hI⟩ := hrel
    by_cases hlt : j < nx
    · obtain ⟨e, he⟩ := get_lt (us := X) (k := j) (by rw [HH.out.2.2.2.1]; exact hlt)
      obtain ⟨b, off, P, n, hA, hb1, hb2, hcl, hpt, hlm, hv⟩ := H3.out.1.pick he
      subst hA
      have hVlt : ∀ q, V.map (·.block) = some q → q < W2.heap.size := fun q hq => Nat.lt_of_lt_of_le (HH.out.1.lt q hq).2 H3.out.2.2.2.size
      obtain ⟨z0, z1⟩ := hcl wr (hI.foot.block b hb2 (fun e => by have := hVlt b e; omega))
      have hpw := ptsG_kept (D := fun b => D b ∨ (W2.heap.size ≤ b ∧ b < w3.heap.size)) hpt hI.foot hVlt (fun b h1 h2 => .inr ⟨h1, h2⟩)
      obtain ⟨m, hm⟩ : ∃ m, e.1.length = m := ⟨_, rfl⟩
      rw [hm] at z0 hlm
      have f1 : decide ((j : Int) < (nx : Int)) = true := decide_eq_true (by omega)
      have f1' : decide (j < nx) = true := decide_eq_true hlt
      have n1 : (0 : Int) ≤ (j : Int) := by omega
      have n2 : (j : Int) < (nx : Int) := by omega
      have n3 : (j : Int) ≤ 100000000 := by omega
      have hsz : base ≤ wr.heap.size := Nat.le_trans HH.out.2.1 (Nat.le_trans H3.out.2.2.2.size (Nat.le_trans H3.out.2.1.size hI.foot.size))
      have hl0 := hI.len
      have HI := Lib.hid hI
      have HE := Lib.hid (And.intro he (And.intro hpw (And.intro hlm (And.intro hv (And.intro hm (And.intro hlt (And.intro hl0 hsz)))))))
      clear hI he hpw hlm hv hm hlt hcl hpt hVlt hb1 hb2 hj hl0 hsz
      have HB2 := Lib.hid (Below.andThen (below_alloc wr (.cells #[.slice P m n, .int .u64 (e.2 : Int)] 73)) (below_alloc (wr.alloc (.cells #[.slice P m n, .int .u64 (e.2 : Int)] 73)) (.cells #[.slice P m n, .bool true, .bool false, .int .u64 (e.2 : Int), .int .u64 0] 111)))
      go_wp2_with (at_builtin; refine wpList_append_list (Q := ChG wr fun b => D b ∨ (W2.heap.size ≤ b ∧ b < w3.heap.size)) 44 111 (.agg #[.slice none 0 0, .bool false, .bool false, .int .u64 0, .int .u64 0]) 48 Tryz.underlying44 infoChg (by rfl) (by omega) (by omega) (chG_ok _ _) (by rfl) _ _ (by rfl) base (.slice R (nl + j) d) (L ++ (X.take j).map fromE) [fromE e] (nl + j + 1) (by rw [HE.out.2.2.2.2.2.2.1]; rfl) (by rfl) (by exact HI.out.own HB2.out) _ _ 1 1 (by rfl) (by rfl) (by exact lst_next2 (chG_ok _ _) _ #[.slice P m n, .bool true, .bool false, .int .u64 (e.2 : Int), .int .u64 0] (fromE e) (by rfl) (by exact ⟨P, n, by rw [← HE.out.2.2.2.2.1]; rfl, rfl, rfl, rfl, rfl, HE.out.2.1, by have := HE.out.2.2.1; rw [← HE.out.2.2.2.2.1] at this; exact this, HE.out.2.2.2.1, by show 0 < _; omega⟩)) (by have := HH.out.2.2.2.2.2.2; have := HE.out.2.2.2.2.2.1; omega) (by have := HE.out.2.2.2.2.2.2.2; have := HB2.out.size; omega) ?_; intro D5 d5 w6 hown5 hgrow5 hat5; have HN := Lib.hid (HI.out.step (Nat.le_trans HH.out.2.1 (Nat.le_trans H3.out.2.2.2.size H3.out.2.1.size)) HB2.out hown5 hgrow5 hat5); clear hown5 hgrow5 hat5)
      go_roundw
      case rel => exact ⟨j + 1, D5, d5, rfl, by first | rfl | go_num, by have := HE.out.2.2.2.2.2.1; omega, by rw [map_take fromE HE.out.1]; exact HN.out⟩
      case measure =>
        have := HE.out.2.2.2.2.2.1
        show nx - ((j : Int) + 1).toNat < nx - (j : Int).toNat
        omega
    · have hjn : nx = j := by omega
      subst hjn
      have f1 : decide ((nx : Int) < (nx : Int)) = false := decide_eq_false (by omega)
      have f1' : decide (nx < nx) = false := decide_eq_false (by omega)
      have hI : ApI w3 base (fun b => D b ∨ (W2.heap.size ≤ b ∧ b < w3.heap.size)) V (nl + nx) R d (L ++ X.map fromE) wr := by
        rw [show X.take nx = X by rw [← HH.out.2.2.2.1, List.take_length]] at hI
        exact hI
      have hVB : ∀ q, V.map (·.block) = some q → B ≤ q ∧ q < w.heap.size := fun q hq => ⟨Nat.le_trans HH.out.2.2.1 (HH.out.1.lt q hq).1, (HH.out.1.lt q hq).2⟩
      have hf3 : Foot (fun b => V.map (·.block) = some b) w wr := (Foot.of_below (F := fun b => V.map (·.block) = some b) (Below.andThen H3.out.2.2.2 H3.out.2.1)).trans hI.foot (fun b hb => .inl hb)
      have hBw : B ≤ w.heap.size := Nat.le_trans HH.out.2.2.1 HH.out.2.1
      have hBr := hf3.below hBw (fun b hb => (hVB b hb).1)
      have HQ := Lib.hid (And.intro hI (And.intro hf3 (And.intro hBr (Nat.le_trans hBw hf3.size))))
      clear hI hVB hf3 hBw hBr hlt hj
      generalize wr = wa at *
      go_wp2_with fail
      refine (HAy.out wa HQ.out.2.2.1 HQ.out.2.2.2).mono ?_
      rintro e w5 ⟨Ay, cy, rfl, hcy, hnew, hb5⟩
      have hsr : base ≤ wa.heap.size := Nat.le_trans HH.out.2.1 HQ.out.2.1.size
      have hst := ApI.start HQ.out.1.row HQ.out.1.len hsr hb5
      have H5 := Lib.hid (And.intro hnew (And.intro hb5 (And.intro hcy hsr)))
      have HS := Lib.hid hst
      clear hnew hb5 hcy HAy hst hsr
      go_wp2_with fail
      go_loopw [0, 58] (fun u v wr => ∃ (j : Nat) (R2 : Option Addr) (d2 : Nat), u = .slice R2 (nl + nx + j) d2 ∧ v = .int .i64 (j : Int) ∧ j ≤ ny ∧ ApI w5 base (fun b => (D b ∨ (W2.heap.size ≤ b ∧ b < w3.heap.size)) ∨ (wa.heap.size ≤ b ∧ b < w5.heap.size)) R (nl + nx + j) R2 d2 (L ++ X.map fromE ++ (Y.take j).map toE) wr) (fun _ v _ => ny - (intOf v).toNat)
      case atStart => exact ⟨0, R, d, rfl, rfl, Nat.zero_le _, by simpa using HS.out⟩
      case round =>
        clear HS
        obtain ⟨j, R2, d2, rfl, rfl, hj, hI⟩ := hrel
        by_cases hlt : j < ny
        · obtain ⟨e, he⟩ := get_lt (us := Y) (k := j) (by rw [HH.out.2.2.2.2.1]; exact hlt)
          obtain ⟨b, off, P, n, hA, hb1, hb2, hcl, hpt, hlm, hv⟩ := H5.out.1.pick he
          subst hA
          have hVlt : ∀ q, R.map (·.block) = some q → q < wa.heap.size := fun q hq => (HQ.out.1.row.lt q hq).2
          obtain ⟨z0, z1⟩ := hcl wr (hI.foot.block b hb2 (fun e => by have := hVlt b e; omega))
          have hpw := ptsG_kept (D := fun b => (D b ∨ (W2.heap.size ≤ b ∧ b < w3.heap.size)) ∨ (wa.heap.size ≤ b ∧ b < w5.heap.size)) hpt hI.foot hVlt (fun b h1 h2 => .inr ⟨h1, h2⟩)
          obtain ⟨m, hm⟩ : ∃ m, e.1.length = m := ⟨_, rfl⟩
          rw [hm] at z0 hlm
          have g1 : decide ((j : Int) < (ny : Int)) = true := decide_eq_true (by omega)
          have g1' : decide (j < ny) = true := decide_eq_true hlt
          have n1 : (0 : Int) ≤ (j : Int) := by omega
          have n2 : (j : Int) < (ny : Int) := by omega
          have n3 : (j : Int) ≤ 100000000 := by omega
          have hsz : base ≤ wr.heap.size := Nat.le_trans H5.out.2.2.2 (Nat.le_trans H5.out.2.1.size hI.foot.size)
          have hl0 := hI.len
          have HI := Lib.hid hI
          have HE := Lib.hid (And.intro he (And.intro hpw (And.intro hlm (And.intro hv (And.intro hm (And.intro hlt (And.intro hl0 hsz)))))))
          clear hI he hpw hlm hv hm hlt hcl hpt hVlt hb1 hb2 hj hl0 hsz
          have HB2 := Lib.hid (Below.andThen (below_alloc wr (.cells #[.slice P m n, .int .u64 (e.2 : Int)] 73)) (below_alloc (wr.alloc (.cells #[.slice P m n, .int .u64 (e.2 : Int)] 73)) (.cells #[.slice P m n, .bool false, .bool true, .int .u64 0, .int .u64 (e.2 : Int)] 111)))
          go_wp2_with (at_builtin; refine wpList_append_list (Q := ChG wr fun b => (D b ∨ (W2.heap.size ≤ b ∧ b < w3.heap.size)) ∨ (wa.heap.size ≤ b ∧ b < w5.heap.size)) 44 111 (.agg #[.slice none 0 0, .bool false, .bool false, .int .u64 0, .int .u64 0]) 48 Tryz.underlying44 infoChg (by rfl) (by omega) (by omega) (chG_ok _ _) (by rfl) _ _ (by rfl) base (.slice R2 (nl + nx + j) d2) (L ++ X.map fromE ++ (Y.take j).map toE) [toE e] (nl + nx + j + 1) (by rw [HE.out.2.2.2.2.2.2.1]; rfl) (by rfl) (by exact HI.out.own HB2.out) _ _ 1 1 (by rfl) (by rfl) (by exact lst_next2 (chG_ok _ _) _ #[.slice P m n, .bool false, .bool true, .int .u64 0, .int .u64 (e.2 : Int)] (toE e) (by rfl) (by exact ⟨P, n, by rw [← HE.out.2.2.2.2.1]; rfl, rfl, rfl, rfl, rfl, HE.out.2.1, by have := HE.out.2.2.1; rw [← HE.out.2.2.2.2.1] at this; exact this, by show 0 < _; omega, HE.out.2.2.2.1⟩)) (by have := HH.out.2.2.2.2.2.2; have := HE.out.2.2.2.2.2.1; omega) (by have := HE.out.2.2.2.2.2.2.2; have := HB2.out.size; omega) ?_; intro D5 d5 w6 hown5 hgrow5 hat5; have HN := Lib.hid (HI.out.step (Nat.le_trans H5.out.2.2.2 H5.out.2.1.size) HB2.out hown5 hgrow5 hat5); clear hown5 hgrow5 hat5)
          go_roundw
          case rel => exact ⟨j + 1, D5, d5, rfl, by first | rfl | go_num, by have := HE.out.2.2.2.2.2.1; omega, by rw [map_take toE HE.out.1]; exact HN.out⟩
          case measure =>
            have := HE.out.2.2.2.2.2.1
            show ny - ((j : Int) + 1).toNat < ny - (j : Int).toNat
            omega
        · have hjn : ny = j := by omega
          subst hjn
          have g1 : decide ((ny : Int) < (ny : Int)) = false := decide_eq_false (by omega)
          have g1' : decide (ny < ny) = false := decide_eq_false (by omega)
          have hI : ApI w5 base (fun b => (D b ∨ (W2.heap.size ≤ b ∧ b < w3.heap.size)) ∨ (wa.heap.size ≤ b ∧ b < w5.heap.size)) R (nl + nx + ny) R2 d2 (L ++ X.map fromE ++ Y.map toE) wr := by
            rw [show Y.take ny = Y by rw [← HH.out.2.2.2.2.1, List.take_length]] at hI
            exact hI
          have HI := Lib.hid hI
          clear hI hlt hj
          go_wp2_with fail
          go_ret
          have hs1 := H3.out.2.2.2.size
          have hs3 := H3.out.2.1.size
          have hs5 := H5.out.2.1.size
          have hsq := HQ.out.1.foot.size
          have hRb : ∀ b, R.map (·.block) = some b → V.map (·.block) = some b ∨ w.heap.size ≤ b := fun b hb => by
            rcases HQ.out.1.at_ with e | ⟨q, e, hq⟩
            · rw [e] at hb; exact .inl hb
            · rw [e] at hb
              simp only [Option.some.injEq] at hb
              subst hb
              exact .inr (by omega)
          refine ⟨R2, d2, _, rfl, by have h := HI.out.row; exact h, fun b hb => ?_, fun b hb => ?_, ?_⟩
          · rcases hb with (hb | hb) | hb
            · exact .inl hb
            · exact .inr (by omega)
            · exact .inr (by have := hb.1; omega)
          · rcases HI.out.at_ with e | ⟨q, e, hq⟩
            · rw [e] at hb; exact hRb b hb
            · rw [e] at hb
              simp only [Option.some.injEq] at hb
              subst hb
              exact .inr (by omega)
          · exact (HQ.out.2.1.trans (Foot.of_below (F := fun b => V.map (·.block) = some b) H5.out.2.1) (fun b hb => .inl hb)).trans HI.out.foot hRb
end Go.Proofs.YtpgkfccfabnjdaaGreatDoor

/-
  CONTRACTS of package diff, sixth part: appendChanges of two entries; who is told by Changes, Count, Same, Steps.
-/
namespace Go.Proofs.YtpgkfccfabnjdaaGreatDoor
open Go.ChangeShapes Go.WideShapes Go.ChangeAt Go.RowKit
open Tr (T S4 Ent Sd Fl Chg)

theorem entS_c {w : World} {B k g v m : Nat} {p : List Nat} (h : Node w B k (.ent g p v)) (hB : B ≤ w.heap.size) (hm : p.length = m) :
    Calls Tryz.prog 108 #[.pointer (some ⟨g, 0, none⟩)] w fun e w' => ∃ h d, e = .returned (.tuple #[entryV (some ⟨h, 0, none⟩) m d v, .bool true]) ∧ Own w' w.heap.size (.slice (some ⟨h, 0, none⟩) m d) p ∧ Below w.heap.size w w' := by
  have hl : p.length = k := h.1.len
  have h1 := h.1.k1
  have h16 := h.1.k16
  obtain ⟨kp, hnd⟩ := h.2.nd
  have hh := nEntry_ent hnd hB (by intro e; rw [show (T.ent g p v).pre = p from rfl] at e; rw [e] at hl; simp at hl; omega) (by show p.length ≤ _; omega)
  rw [← hm]
  exact hh
set_option maxRecDepth 1000000 in
set_option maxHeartbeats 8000000 in
theorem appendTwo_c {w : World} {base B k : Nat} {D : Nat → Prop} {V : Option Addr} {c : Nat} {L : List Chg} (h : ChRow w base D V c L) (hbase : base ≤ w.heap.size) {g g' v u : Nat} {p : List Nat} (hx : Node w B k (.ent g p v)) (hy : Node w B k (.ent g' p u)) (hBb : B ≤ base)
    {nl : Nat} (hnl : L.length = nl) (hN : nl ≤ 100000000) :
    Calls Tryz.prog 80 #[.slice V nl c, .pointer (some ⟨g, 0, none⟩), .pointer (some ⟨g', 0, none⟩)] w fun e w' => ∃ V' c' D', e = .returned (.slice V' (nl + 1) c') ∧ ChRow w' base D' V' c' (L ++ [(p, some v, some u)]) ∧
      (∀ b, D' b → D b ∨ w.heap.size ≤ b) ∧ (∀ b, V'.map (·.block) = some b → V.map (·.block) = some b ∨ w.heap.size ≤ b) ∧ Foot (fun b => V.map (·.block) = some b) w w' := by
  have hB : B ≤ w.heap.size := Nat.le_trans hBb hbase
  obtain ⟨m, hm⟩ : ∃ m, p.length = m := ⟨_, rfl⟩
  have hv := (hx.1.dim (p, v) (by rw [Tr.ents_ent]; exact List.mem_singleton.2 rfl)).2.2
  have hu := (hy.1.dim (p, u) (by rw [Tr.ents_ent]; exact List.mem_singleton.2 rfl)).2.2
  have hk : m ≤ 16 := by have h1 := hx.1.len; have h2 := hx.1.k16; rw [show (T.ent g p v).pre = p from rfl, hm] at h1; omega
  have HEx := Lib.hid (entS_c hx hB hm)
  have HEy := Lib.hid fun (w1 : World) (hb : Below w.heap.size w w1) => entS_c (hy.below hb hB (Nat.le_refl _)) (Nat.le_trans hB hb.size) hm
  have HH := Lib.hid (And.intro h (And.intro hbase (And.intro hm (And.intro hv (And.intro hu (And.intro hnl (And.intro hN hk)))))))
  have hn7 : (nl : Int) ≤ 100000000 := by omega
  clear h hbase hx hy hB hBb hm hv hu hnl hN hk
  go_enter Tryz.func80, Tryz.ntmps80
  go_wp2_with fail
  refine HEx.out.mono ?_
  rintro e w1 ⟨h1, d1, rfl, ho1, hb1⟩
  have H1 := Lib.hid hb1
  clear hb1 HEx ho1
  go_wp2_with fail
  refine (HEy.out _ (H1.out.trans ((below_alloc w1 _).mono H1.out.size))).mono ?_
  rintro e w2 ⟨h2, d2, rfl, ho2, hb2⟩
  obtain ⟨W2, hW2⟩ : ∃ W2, W2 = w2.alloc (.cells #[.slice (some ⟨h2, 0, none⟩) m d2, .int .u64 (u : Int)] 73) := ⟨_, rfl⟩
  have hbW : Below w2.heap.size w2 W2 := by rw [hW2]; exact below_alloc w2 _
  have hmk := heap_at w1 (.cells #[.slice (some ⟨h1, 0, none⟩) m d1, .int .u64 (v : Int)] 73) _ rfl
  have hmk2 := ((Below.andThen hb2 hbW).block w1.heap.size (by simp)).trans hmk
  have hmk3 : W2.heap[w2.heap.size]? = some (.cells #[.slice (some ⟨h2, 0, none⟩) m d2, .int .u64 (u : Int)] 73 (0, 0)) := by rw [hW2]; exact heap_at w2 _ _ rfl
  have z1 : W2.cell? ⟨w1.heap.size, 1, none⟩ = some (.int .u64 (v : Int)) := by rw [cell_of_row W2 _ _ _ _ (0, 0) hmk2]; rfl
  have y0 : W2.cell? ⟨w2.heap.size, 0, none⟩ = some (.slice (some ⟨h2, 0, none⟩) m d2) := by rw [cell_of_row W2 _ _ _ _ (0, 0) hmk3]; rfl
  have y1 : W2.cell? ⟨w2.heap.size, 1, none⟩ = some (.int .u64 (u : Int)) := by rw [cell_of_row W2 _ _ _ _ (0, 0) hmk3]; rfl
  have hBW : Below w.heap.size w W2 := (H1.out.trans ((below_alloc w1 _).mono H1.out.size)).trans ((Below.andThen hb2 hbW).mono (by have := H1.out.size; simp; omega))
  have ho3 := ho2.below hbW (Nat.le_refl _)
  have hlt := ho3.2.lt h2 (by rw [own_block]; rfl)
  have hpt : PtsG W2 (fun b => D b ∨ (w.heap.size ≤ b ∧ b < W2.heap.size)) (some ⟨h2, 0, none⟩) p := ho3.ptsG (.inr ⟨by have h3 := hlt.1; have h4 := H1.out.size; simp at h3; omega, hlt.2⟩)
  have HR := Lib.hid (And.intro (HH.out.1.wide HH.out.2.1 hBW) (And.intro hBW hpt))
  clear hb2 hbW hmk hmk2 hmk3 hBW ho2 ho3 hlt hpt HEy
  go_upto_region 3 with fail
  rw [← hW2]
  clear hW2 H1
  have HB2 := Lib.hid (below_alloc W2 (.cells #[.slice (some ⟨h2, 0, none⟩) m d2, .bool true, .bool true, .int .u64 (v : Int), .int .u64 (u : Int)] 111))
  go_wp2_with (at_builtin; refine wpList_append_list (Q := ChG W2 fun b => D b ∨ (w.heap.size ≤ b ∧ b < W2.heap.size)) 44 111 (.agg #[.slice none 0 0, .bool false, .bool false, .int .u64 0, .int .u64 0]) 48 Tryz.underlying44 infoChg (by rfl) (by omega) (by omega) (chG_ok _ _) (by rfl) _ _ (by rfl) base (.slice V nl c) L [(p, some v, some u)] (nl + 1) (by rw [HH.out.2.2.2.2.2.1]; rfl) (by rfl) (by have hh := HR.out.1.row; rw [HH.out.2.2.2.2.2.1] at hh; exact hh.below HB2.out (Nat.le_refl _)) _ _ 1 1 (by rfl) (by rfl) (by exact lst_at (chG_ok _ _) #[.slice (some ⟨h2, 0, none⟩) m d2, .bool true, .bool true, .int .u64 (v : Int), .int .u64 (u : Int)] ((p, some v, some u) : Chg) (by rfl) (by exact ⟨some ⟨h2, 0, none⟩, d2, by rw [← HH.out.2.2.1]; rfl, rfl, rfl, rfl, rfl, HR.out.2.2, by have := HH.out.2.2.2.2.2.2.2; have := HH.out.2.2.1; unfold maxLen; show p.length ≤ _; omega, HH.out.2.2.2.1, HH.out.2.2.2.2.1⟩)) (by have := HH.out.2.2.2.2.2.2.1; omega) (by have := HH.out.2.1; have := HR.out.2.1.size; have := HB2.out.size; omega) ?_; intro D5 d5 w6 hown5 hgrow5 hat5; have HN := Lib.hid (And.intro hown5 (And.intro hgrow5 hat5)); clear hown5 hgrow5 hat5)
  go_ret
  obtain ⟨hown5, hgrow5, hat5⟩ := HN.out
  have hs := HR.out.2.1.size
  have hl := HH.out.2.2.2.2.2.1
  subst hl
  obtain ⟨r1, r2, r3⟩ := HR.out.1.app (Nat.le_trans HH.out.2.1 hs) HB2.out (by simp) hown5 hgrow5 hat5
  refine ⟨D5, d5, _, rfl, r1, fun b hb => ?_, fun b hb => ?_, (Foot.of_below (F := fun b => V.map (·.block) = some b) HR.out.2.1).trans r2 (fun b hb => .inl hb)⟩
  · rcases hb with hb | hb
    · exact .inl hb
    · exact .inr hb.1
  · rcases r3 with e | ⟨q, e, hq⟩
    · rw [e] at hb; exact .inl hb
    · rw [e] at hb
      simp only [Option.some.injEq] at hb
      subst hb
      exact .inr (by omega)
end Go.Proofs.YtpgkfccfabnjdaaGreatDoor

/-
  CONTRACTS of package diff, seventh part: who is told by Changes, Count, Same, Steps.
-/
namespace Go.Proofs.YtpgkfccfabnjdaaGreatDoor
open Go.ChangeShapes Go.WideShapes Go.ChangeAt Go.RowKit
open Tr (T S4 Ent Sd Fl Chg)

theorem appendTell_c {w : World} {base B k : Nat} {D : Nat → Prop} {V : Option Addr} {c : Nat} {L : List Chg} (h : ChRow w base D V c L) (hbase : base ≤ w.heap.size) {x y : Option T} (hx : NodeO w B k x) (hy : NodeO w B k y) (hBb : B ≤ base) (hT : ∀ w', Below B w w' → Tz w') (ht : TellOk x y)
    {nl : Nat} (hnl : L.length = nl) (hN : nl + (Tr.chO x y).length ≤ 100000000) :
    Calls Tryz.prog 80 #[.slice V nl c, .pointer (rootP x), .pointer (rootP y)] w fun e w' => ∃ V' c' D', e = .returned (.slice V' (L ++ Tr.chO x y).length c') ∧ ChRow w' base D' V' c' (L ++ Tr.chO x y) ∧
      (∀ b, D' b → D b ∨ w.heap.size ≤ b) ∧ (∀ b, V'.map (·.block) = some b → V.map (·.block) = some b ∨ w.heap.size ≤ b) ∧ Foot (fun b => V.map (·.block) = some b) w w' := by
  obtain ⟨zx, dx⟩ := entsO_zs (k := k) (o := x) fun t e => (hx t e).1
  obtain ⟨zy, dy⟩ := entsO_zs (k := k) (o := y) fun t e => (hy t e).1
  have key : Tr.chO x y = (Tr.entsO x).map fromE ++ (Tr.entsO y).map toE → ((entO x).2 && (entO y).2) = false →
      Calls Tryz.prog 80 #[.slice V nl c, .pointer (rootP x), .pointer (rootP y)] w fun e w' => ∃ V' c' D', e = .returned (.slice V' (L ++ Tr.chO x y).length c') ∧ ChRow w' base D' V' c' (L ++ Tr.chO x y) ∧
      (∀ b, D' b → D b ∨ w.heap.size ≤ b) ∧ (∀ b, V'.map (·.block) = some b → V.map (·.block) = some b ∨ w.heap.size ≤ b) ∧ Foot (fun b => V.map (·.block) = some b) w w' := by
    intro hch hor
    have hlen : (L ++ Tr.chO x y).length = nl + (Tr.entsO x).length + (Tr.entsO y).length := by rw [hch]; simp [hnl]; omega
    have hlen2 : (Tr.chO x y).length = (Tr.entsO x).length + (Tr.entsO y).length := by rw [hch]; simp
    refine (appendCh_c (c := c) h hbase hx hy hBb hT rfl rfl rfl rfl hnl (by omega) rfl rfl hor).mono ?_
    rintro e w' ⟨V', c', D', he, h1, h2⟩
    refine ⟨V', c', D', by rw [he, hlen], ?_, h2⟩
    rw [hch, ← List.append_assoc]
    exact h1
  rcases ht with ⟨rfl, h0⟩ | ⟨h0, rfl⟩ | ⟨g, g', p, v, u, rfl, rfl, hne⟩
  · exact key (by rw [show (Tr.entsO none : List Ent) = [] from rfl, List.map_nil, List.nil_append]; exact Tr.chL_to zy dy) (by rfl)
  · exact key (by rw [show (Tr.entsO none : List Ent) = [] from rfl, List.map_nil, List.append_nil]; exact Tr.chL_from zx dx) (by cases (entO x).2 <;> rfl)
  · have hp := dx (p, v) (by rw [show Tr.entsO (some (T.ent g p v)) = [(p, v)] by simp [Tr.entsO, Tr.ents_ent]]; exact List.mem_singleton.2 rfl)
    have hq := dy (p, u) (by rw [show Tr.entsO (some (T.ent g' p u)) = [(p, u)] by simp [Tr.entsO, Tr.ents_ent]]; exact List.mem_singleton.2 rfl)
    have hch : Tr.chO (some (T.ent g p v)) (some (T.ent g' p u)) = [(p, some v, some u)] := by
      have e := Tr.chL_one hp.1 hp.2.1 hp.2.2 hq.2.2 hne
      rw [← e]
      simp [Tr.chO, Tr.entsO, Tr.ents_ent]
    rw [hch] at hN ⊢
    refine (appendTwo_c (c := c) h hbase (hx _ rfl) (hy _ rfl) hBb hnl (by omega)).mono ?_
    rintro e w' ⟨V', c', D', he, h1⟩
    exact ⟨V', c', D', by rw [he]; simp [hnl], h1⟩

/-! ### Changes -/
def ChInv (h base : Nat) (us : List Chg) (w : World) (F : Nat → Prop) : Prop :=
  ∃ (V : Option Addr) (c : Nat) (D : Nat → Prop), w.heap[h]? = some (.cells #[.slice V us.length c] 44 (0, 0)) ∧ ChRow w base D V c us ∧ base ≤ w.heap.size ∧ F = fun b => b = h ∨ V.map (·.block) = some b ∨ D b
set_option maxRecDepth 100000 in
set_option maxHeartbeats 4000000 in
theorem chg1_visit {B k h base M : Nat} (hB : B ≤ h) (hh : h < base) (hM : M ≤ 100000000) : VisitD 79 #[.pointer (some ⟨h, 0, none⟩)] B k M true (ChInv h base) where
  ent := enters_of Tryz.func79 (by kernel_rfl) rfl
  frame := by
    rintro us w w' F ⟨V, c, D, h1, h2, h3, rfl⟩ hs hb
    exact ⟨V, c, D, (hb h (.inl rfl)).trans h1, h2.frame hs (fun b hb' => hb b (.inr hb')), Nat.le_trans h3 hs, rfl⟩
  inb := by
    rintro us w F ⟨V, c, D, h1, h2, h3, rfl⟩ b (rfl | hb | hb)
    · exact ⟨(Array.getElem?_eq_some_iff.1 h1).1, hB⟩
    · have := h2.lt b hb
      exact ⟨this.2, by omega⟩
    · have := h2.dom b hb
      exact ⟨this.2.1, by omega⟩
  call := by
    rintro us w F x y ⟨V, c, D, h1, h2, h3, rfl⟩ hx hy hBw hT ht hlen
    have HA := Lib.hid (appendTell_c (c := c) h2 h3 hx hy (by omega) hT ht rfl (by omega))
    have c0 : w.cell? ⟨h, 0, none⟩ = some (.slice V us.length c) := by rw [cell_of_row w h _ _ _ (0, 0) h1]; rfl
    have HX := Lib.hid (And.intro h1 (And.intro h2 (And.intro h3 (And.intro hB hh))))
    rw [show (#[.pointer (rootP x), .pointer (rootP y)] ++ #[.pointer (some ⟨h, 0, none⟩)] : Array Value) = #[.pointer (rootP x), .pointer (rootP y), .pointer (some ⟨h, 0, none⟩)] from rfl]
    obtain ⟨N, hN⟩ : ∃ N, (us ++ Tr.chO x y).length = N := ⟨_, rfl⟩
    have HN := Lib.hid hN
    rw [hN] at HA
    obtain ⟨nl, hnl⟩ : ∃ nl, us.length = nl := ⟨_, rfl⟩
    rw [hnl] at HA c0
    obtain ⟨px, hpx⟩ : ∃ p, rootP x = p := ⟨_, rfl⟩
    obtain ⟨py, hpy⟩ : ∃ p, rootP y = p := ⟨_, rfl⟩
    rw [hpx, hpy] at HA ⊢
    clear h1 h2 h3 hx hy hBw hT ht hlen hM hB hh hN hnl hpx hpy
    go_enter Tryz.func79, Tryz.ntmps79
    go_wp2_with fail
    refine HA.out.mono ?_
    rintro e w1 ⟨V', c', D', rfl, g1, g2, g3, g4⟩
    obtain ⟨h1, h2, h3, hB, hh⟩ := HX.out
    have hV : ¬ V.map (·.block) = some h := fun e => by have := h2.lt h e; omega
    have hg := (g4.block h (Array.getElem?_eq_some_iff.1 h1).1 hV).trans h1
    have c1 : w1.cell? ⟨h, 0, none⟩ = some (.slice V us.length c) := by rw [cell_of_row w1 h _ _ _ (0, 0) hg]; rfl
    have z1 := frozen_of_row w1 h 0 _ _ hg
    have HG := Lib.hid (And.intro g1 (And.intro g2 (And.intro g3 (And.intro g4 hg))))
    clear h1 h2 h3 hB hh hV g1 g2 g3 g4 hg HA
    go_wp2_with fail
    go_ret
    obtain ⟨g1, g2, g3, g4, hg⟩ := HG.out
    obtain ⟨h1, h2, h3, hB, hh⟩ := HX.out
    have hsame := heap_setCell_same w1 h 0 _ _ (.slice V' N c') hg
    have hne : ∀ b, (V'.map (·.block) = some b ∨ D' b) → b ≠ h := fun b hb e => by
      subst e
      rcases hb with hb | hb
      · have := g1.lt b hb; omega
      · have := (g1.dom b hb).1; omega
    refine ⟨rfl, fun b => b = h ∨ V'.map (·.block) = some b ∨ D' b, ⟨V', c', D', by rw [hsame, HN.out]; rfl, g1.frame (by simp) (fun b hb => Below.heap_setCell _ _ _ _ (hne b hb)), by have := g4.size; simp; omega, rfl⟩, fun b hb => ?_, ?_⟩
    · rcases hb with rfl | hb | hb
      · exact .inl (.inl rfl)
      · rcases g3 b hb with e | e
        · exact .inl (.inr (.inl e))
        · exact .inr e
      · rcases g2 b hb with e | e
        · exact .inl (.inr (.inr e))
        · exact .inr e
    · have g5 : Foot (fun b => b = h ∨ V.map (·.block) = some b ∨ D b) w w1 := ⟨g4.os, g4.tape, g4.output, g4.size, fun b hb hn => g4.block b hb (fun e => hn (.inr (.inl e)))⟩
      exact g5.trans (Foot.setCell w1 (F := fun b => b = h ∨ V.map (·.block) = some b ∨ D b) (a := ⟨h, 0, none⟩) (.inl rfl) _) (fun b hb => .inl hb)

/-! ### Same, Steps -/
def SmInv (h : Nat) (us : List Chg) (w : World) (F : Nat → Prop) : Prop := w.heap[h]? = some (.cells #[.bool us.isEmpty] 4 (0, 0)) ∧ F = fun b => b = h
set_option maxRecDepth 100000 in
theorem same1_visit {B k h M : Nat} (hB : B ≤ h) : VisitD 81 #[.pointer (some ⟨h, 0, none⟩)] B k M false (SmInv h) where
  ent := enters_of Tryz.func81 (by kernel_rfl) rfl
  frame := by
    rintro us w w' F ⟨h1, rfl⟩ hs hb
    exact ⟨(hb h rfl).trans h1, rfl⟩
  inb := by
    rintro us w F ⟨h1, rfl⟩ b rfl
    exact ⟨(Array.getElem?_eq_some_iff.1 h1).1, hB⟩
  call := by
    rintro us w F x y ⟨h1, rfl⟩ hx hy hBw hT ht hlen
    have hne := tell_ne hx hy ht
    have c0 : w.cell? ⟨h, 0, none⟩ = some (.bool us.isEmpty) := by rw [cell_of_row w h _ _ _ (0, 0) h1]; rfl
    have z0 := frozen_of_row w h 0 _ _ h1
    rw [show (#[.pointer (rootP x), .pointer (rootP y)] ++ #[.pointer (some ⟨h, 0, none⟩)] : Array Value) = #[.pointer (rootP x), .pointer (rootP y), .pointer (some ⟨h, 0, none⟩)] from rfl]
    have HX := Lib.hid (And.intro h1 hne)
    clear h1 hx hy hBw hT ht hlen hne
    go_enter Tryz.func81, Tryz.ntmps81
    go_wp2_with fail
    go_ret
    obtain ⟨h1, hne⟩ := HX.out
    refine ⟨rfl, fun b => b = h, ⟨?_, rfl⟩, fun b hb => .inl hb, Foot.setCell w (F := fun b => b = h) (a := ⟨h, 0, none⟩) rfl _⟩
    rw [heap_setCell_same w h 0 _ _ (.bool false) h1]
    have : (us ++ Tr.chO x y).isEmpty = false := by
      cases hq : us ++ Tr.chO x y with
      | nil => exact absurd (List.append_eq_nil_iff.1 hq).2 hne
      | cons => rfl
    rw [this]
    rfl
end Go.Proofs.YtpgkfccfabnjdaaGreatDoor
