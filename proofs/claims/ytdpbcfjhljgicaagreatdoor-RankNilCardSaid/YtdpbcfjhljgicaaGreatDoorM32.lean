import Derived.Test.YtdpbcfjhljgicaaGreatDoorM31
import Derived.Test.YtdpbcfjhljgicaaGreatDoorM16
/-
  CONTRACTS of package walk: Seek. Laid by wip/gen24.py.
-/
namespace Go.Proofs.YtdpbcfjhljgicaaGreatDoor
open Go.ChangeShapes Go.WideShapes Go.ChangeAt Go.RowKit
open Tr (T S4 Ent)

theorem rootP_no : rootP none = none := rfl
theorem rootP_yes (t : T) : rootP (some t) = some ⟨t.blk, 0, none⟩ := rfl
/-- all of a list ahead of a point; none ahead of it -/
def Ahead (p : List Nat) (L : List Ent) : Prop := ∀ e ∈ L, Tr.key e.1 < Tr.key p
def Past (p : List Nat) (L : List Ent) : Prop := ∀ e ∈ L, Tr.key p ≤ Tr.key e.1
theorem CurM.none0 {w : World} {B g : Nat} {kk : Int} {r : Option Addr} {S : List (T × Nat)} {d : Nat} (h : CurM w B g kk r S none d) : S = [] ∧ d = 0 := by
  obtain ⟨vs, h1, h2⟩ := h.stk
  rcases h2.2 with ⟨hv, hn⟩ | ⟨q, cap, cur, hv, r⟩
  · simp only [Value.slice.injEq] at hv
    exact ⟨List.eq_nil_of_length_eq_zero (by simpa using hn), hv.2.2⟩
  · simp at hv
theorem CurM.cut {w : World} {B g : Nat} {kk : Int} {r : Option Addr} {S : List (T × Nat)} {D : Option Addr} {d : Nat} (h : CurM w B g kk r S D d) :
    CurM (w.setCell ⟨g, 2, none⟩ (.slice D 0 d)) B g kk r [] D d := by
  have h7 := OwnL.take stQ_ok h.stk 0 (Nat.zero_le _)
  rw [List.take_zero] at h7
  exact ⟨block_set h.blk _, h.gB, h7.block fun q hq => Below.heap_setCell _ _ _ _ (fun e => h.ne (by rw [own_block] at hq; rw [hq, e])), h.ne⟩
theorem cut_run (w : World) (D : Option Addr) (n d : Nat) (h : (D = none ∧ n = 0 ∧ d = 0) ∨ ∃ q, D = some ⟨q, 0, none⟩ ∧ n ≤ d) :
    (Instr.sliceAt 177 (.slice D n d) none (some (.int .i64 0)) none).run Tryz.prog w = .ok (.slice D 0 d) w := by
  rcases h with ⟨rfl, rfl, rfl⟩ | ⟨q, rfl, hnd⟩
  · kernel_rfl
  · exact step_top w q 0 n d 0 (Nat.zero_le _) hnd
/-- what a way down leaves on a cursor -/
def SeekI (B g : Nat) (kk : Int) (r : Option Addr) (us : List (T × Nat)) (w : World) (F : Nat → Prop) : Prop := us.length ≤ 65 ∧ ∃ D d, CurM w B g kk r us D d ∧ F = Cf g D
theorem seek_visit (B g k : Nat) (kk : Int) (r : Option Addr) : VisitB 121 g B k (SeekI B g kk r) where
  ent := enters_of Tryz.func121 (by kernel_rfl) rfl
  frame := by
    rintro us w w' F ⟨hl, D, d, hc, rfl⟩ _ hk _
    exact ⟨hl, D, d, hc.keep hk, rfl⟩
  inb := by
    rintro us w F ⟨hl, D, d, hc, rfl⟩ b hb
    exact ⟨(hc.lt b hb).2, (hc.lt b hb).1⟩
  call := by
    rintro us w F t a ⟨hl, D, d, hc, rfl⟩ hn hB hus _ _
    refine (step_c hc (by omega) hB t a).mono ?_
    rintro e w' ⟨rfl, D', d', hc', hf, hn'⟩
    exact ⟨rfl, Cf g D', ⟨by rw [List.length_cons]; omega, D', d', hc', rfl⟩, hn', hf⟩
theorem way_addr {p : List Nat} {o o' : Option T} {us : List (T × Nat)} (hp : p.length ≤ 16) (h : Tr.Way p o us o') : ∀ x ∈ us, x.2 ≤ 65536 := by
  induction h with
  | start => intro x hx; cases hx
  | @step us t h hl hc ih =>
    intro x hx
    rcases List.mem_cons.1 hx with rfl | hx
    · exact Nat.le_of_lt (Nat.lt_of_lt_of_le (Z.addr_bound p _) (Nat.pow_le_pow_right (n := 2) (by omega) hp))
    · exact ih x hx
theorem way_bef {p : List Nat} {o o' : Option T} {us : List (T × Nat)} (h : Tr.Way p o us o') : Tr.bef us = Tr.foreR us := by
  cases h with
  | start => rfl
  | @step us t h hl hc =>
    cases t with
    | ent => exact absurd rfl hl
    | br g l pre ks => rfl
set_option maxRecDepth 1000000 in
set_option maxHeartbeats 4000000 in
theorem seek_c {w : World} {B g k : Nat} {o : Option T} {S0 : List (T × Nat)} {D0 : Option Addr} {d0 : Nat} (h : CurAt w B g k (k : Int) o S0 D0 d0) (hn : NodeO w B k o) {p : List Nat} {A : Option Addr} {c : Nat} (hp : Pts w B A p) (hl : p.length = k) (h1 : 1 ≤ k) (h16 : k ≤ 16) :
    Calls Tryz.prog 71 #[.pointer (some ⟨g, 0, none⟩), .slice A p.length c] w fun e w' => e = .returned (.int .i64 0) ∧ ∃ S D d, CurAt w' B g k (k : Int) o S D d ∧ Foot (Cf g D0) w w' ∧ (∀ b, Cf g D b → Cf g D0 b ∨ w.heap.size ≤ b) ∧
      Ahead p (Tr.bef S) ∧ Past p (Tr.aft S) := by
  have HI := Lib.hid (isPoint_c A p.length c k w (by unfold maxLen; omega) h16 true (decide_eq_true ⟨by omega, hl⟩))
  obtain ⟨c0, c1, c2, f2⟩ := h.mem.cells
  have hcut : (D0 = none ∧ S0.length = 0 ∧ d0 = 0) ∨ ∃ q, D0 = some ⟨q, 0, none⟩ ∧ S0.length ≤ d0 := by
    cases D0 with
    | none => obtain ⟨h5, h6⟩ := h.mem.none0; exact .inl ⟨rfl, by rw [h5]; rfl, h6⟩
    | some a =>
      obtain ⟨vs, h5, h6⟩ := h.mem.stk
      rcases h6.2 with ⟨hv, hn⟩ | ⟨q, cap, cur, hv, hge, hh, hnc, r⟩
      · simp at hv
      · simp only [Value.slice.injEq, Option.some.injEq] at hv
        obtain ⟨rfl, -, rfl⟩ := hv
        exact .inr ⟨q, rfl, by simpa using hnc⟩
  have hst := fun w => cut_run w D0 S0.length d0 hcut
  have hent := enters_of Tryz.func121 (by kernel_rfl) rfl
  have HX := Lib.hid (And.intro h (And.intro hn (And.intro hp (And.intro hl (And.intro h1 h16)))))
  have hroot : (w.setCell ⟨g, 2, none⟩ (.slice D0 0 d0)).cell? ⟨g, 1, none⟩ = some (.pointer (rootP o)) := h.mem.cut.cells.2.1
  have hfc : Foot (Cf g D0) w (w.setCell ⟨g, 2, none⟩ (.slice D0 0 d0)) := foot_cell w _ _ _ (.inl rfl)
  have hbc : Below B w (w.setCell ⟨g, 2, none⟩ (.slice D0 0 d0)) := hfc.below h.size fun b hb => (h.mem.lt b hb).1
  have HD := Lib.hid (wdownB_c (seek_visit B g k (k : Int) (rootP o)) (w := w.setCell ⟨g, 2, none⟩ (.slice D0 0 d0)) (F := Cf g D0) (o := o) ⟨by simp, D0, d0, h.mem.cut, rfl⟩ (hn.below hbc (Nat.le_refl _) (Nat.le_refl _)) (by simpa using h.size) (hp.below' hbc (Nat.le_refl _)) (c := c) hl h1 h16)
  have HF := Lib.hid hfc
  clear h hcut hn hp hl h1 h16 hfc hbc
  go_enter Tryz.func71, Tryz.ntmps71
  go_upto_region 7 with (first
    | (go_at_call 120; refine HI.out.mono ?_; rintro e w' ⟨rfl, rfl⟩)
    | (go_at_call 122; refine HD.out.mono ?_; rintro e w2 ⟨us, o', hway, hstop, rfl, F', hI', hF', hfo⟩))
  obtain ⟨hlen, D, d, hcm, rfl⟩ := hI'
  have hfw : Foot (Cf g D0) w w2 := HF.out.trans hfo (fun b hb => .inl hb)
  have hfar : ∀ b, Cf g D b → Cf g D0 b ∨ w.heap.size ≤ b := fun b hb => by
    rcases hF' b hb with hb | hb
    · exact .inl hb
    · exact .inr (by simpa using hb)
  have hbw : Below B w w2 := hfw.below HX.out.1.size fun b hb => (HX.out.1.mem.lt b hb).1
  have hnd : ∀ x ∈ us, Node w2 B k x.1 ∧ x.2 ≤ 65536 := fun x hx => ⟨(way_nodes HX.out.2.1 hway x hx).below hbw (Nat.le_refl _) (Nat.le_refl _), way_addr (by have := HX.out.2.2.2.1; have := HX.out.2.2.2.2.2; omega) hway x hx⟩
  have hsz : B ≤ w2.heap.size := Nat.le_trans HX.out.1.size hfw.size
  have HW := Lib.hid (hway.sides (k := k) HX.out.2.2.2.1 HX.out.2.2.1.1 (fun t e => (HX.out.2.1 t e).1))
  cases o' with
  | none =>
    have HM := Lib.hid (And.intro hcm (And.intro hfw (And.intro hfar (And.intro hnd (And.intro hsz hway)))))
    clear hcm hfw hfar hnd hsz hway hbw hstop hF' hfo HI HD c0 c1 c2 f2 hst hroot hlen
    simp only [rootP_no]
    go_wp2_with fail
    go_ret
    obtain ⟨hcm, hfw, hfar, hnd, hsz, hway⟩ := HM.out
    refine ⟨rfl, us, D, ⟨d, ⟨hcm, hway.chain.2 rfl, hnd, hsz⟩⟩, hfw, hfar, ?_, ?_⟩
    · rw [way_bef hway]; exact HW.out.1
    · exact fun e he => Nat.le_of_lt (HW.out.2.2 (by first | rfl | trivial) e he)
  | some s =>
    have hns0 := way_node HX.out.2.1 hway s rfl
    have hns := hns0.below hbw (Nat.le_refl _) (Nat.le_refl _)
    obtain ⟨sd, hsd⟩ : ∃ sd, Z.cmp s.pre p = sd := ⟨_, rfl⟩
    have HZ := Lib.hid (Tr.stop_side hns0.1 HX.out.2.2.2.1 HX.out.2.2.1.1 hstop)
    rw [hsd] at HZ
    have HSd := Lib.hid (side_c (c := c) hns hsz (HX.out.2.2.1.below' hbw (Nat.le_refl _)) hsz HX.out.2.2.2.1 sd hsd)
    have HM := Lib.hid (And.intro hcm (And.intro hlen (And.intro (And.intro hfw (And.intro hfar hsz)) (And.intro hnd (And.intro hway (And.intro hstop hns))))))
    clear hcm hfw hfar hnd hsz hway hbw hstop hF' hfo HI HD c0 c1 c2 f2 hst hroot hlen hns hns0 hsd
    simp only [rootP_yes]
    by_cases hsg : sd < 0
    · have d1 : decide (sd < 0) = true := decide_eq_true hsg
      have HSt : Hid (∀ w3, Below w2.heap.size w2 w3 → Calls Tryz.prog 121 #[.pointer (some ⟨g, 0, none⟩), .pointer (some ⟨s.blk, 0, none⟩), .int .i64 65536] w3 fun e w' => e = .returned (.tuple #[]) ∧
          ∃ D' d', CurM w' B g (k : Int) (rootP o) ((s, 65536) :: us) D' d' ∧ Foot (Cf g D) w3 w' ∧ (∀ b, Cf g D' b → Cf g D b ∨ w3.heap.size ≤ b)) := Lib.hid fun w3 hb => step_c (HM.out.1.below hb) (by have := HM.out.2.1; omega) (Nat.le_trans HM.out.2.2.1.2.2 hb.size) s 65536
      have HC := Lib.hid hsg
      clear hsg
      go_wp2_with (first
        | (go_at_call 123; refine HSd.out.mono ?_; rintro e w3 ⟨rfl, hb3⟩; have H3 := Lib.hid hb3; clear hb3)
        | (go_at_call 121; refine (HSt.out _ H3.out).mono ?_; rintro e w5 ⟨rfl, D5, d5, hm5, hf5, hn5⟩))
      go_ret
      obtain ⟨hcm, hlen, ⟨hfw, hfar, hsz⟩, hnd, hway, hstop, hns⟩ := HM.out
      have hf25 : Foot (Cf g D) w2 w5 := (Foot.of_below (F := Cf g D) H3.out).trans hf5 (fun b hb => .inl hb)
      have hb25 : Below B w2 w5 := hf25.below hsz fun b hb => (hcm.lt b hb).1
      refine ⟨rfl, (s, 65536) :: us, D5, d5, ⟨hm5, hway.chain.1 s 65536 rfl, fun x hx => ?_, Nat.le_trans hsz hf25.size⟩, hfw.trans hf25 hfar, fun b hb => ?_, ?_, ?_⟩
      · rcases List.mem_cons.1 hx with rfl | hx
        · exact ⟨hns.below hb25 (Nat.le_refl _) (Nat.le_refl _), by show 65536 ≤ 65536; omega⟩
        · exact ⟨(hnd x hx).1.below hb25 (Nat.le_refl _) (Nat.le_refl _), (hnd x hx).2⟩
      · rcases hn5 b hb with hb | hb
        · exact hfar b hb
        · exact .inr (Nat.le_trans hfw.size (Nat.le_trans H3.out.size hb))
      · intro e he
        simp only [Tr.bef, (Tr.fore_top hns.1).1, List.mem_append] at he
        rcases he with he | he
        · exact (HW.out.1 e he)
        · exact (HZ.out.1 HC.out e he)
      · intro e he
        simp only [Tr.aft, (Tr.fore_top hns.1).2, List.nil_append] at he
        exact Nat.le_of_lt (HW.out.2.1 ⟨s, rfl⟩ e he)
    · have d1 : decide (sd < 0) = false := decide_eq_false hsg
      have HSt : Hid (∀ w3, Below w2.heap.size w2 w3 → Calls Tryz.prog 121 #[.pointer (some ⟨g, 0, none⟩), .pointer (some ⟨s.blk, 0, none⟩), .int .i64 0] w3 fun e w' => e = .returned (.tuple #[]) ∧
          ∃ D' d', CurM w' B g (k : Int) (rootP o) ((s, 0) :: us) D' d' ∧ Foot (Cf g D) w3 w' ∧ (∀ b, Cf g D' b → Cf g D b ∨ w3.heap.size ≤ b)) := Lib.hid fun w3 hb => step_c (HM.out.1.below hb) (by have := HM.out.2.1; omega) (Nat.le_trans HM.out.2.2.1.2.2 hb.size) s 0
      have HC := Lib.hid hsg
      clear hsg
      go_wp2_with (first
        | (go_at_call 123; refine HSd.out.mono ?_; rintro e w3 ⟨rfl, hb3⟩; have H3 := Lib.hid hb3; clear hb3)
        | (go_at_call 121; refine (HSt.out _ H3.out).mono ?_; rintro e w5 ⟨rfl, D5, d5, hm5, hf5, hn5⟩))
      go_ret
      obtain ⟨hcm, hlen, ⟨hfw, hfar, hsz⟩, hnd, hway, hstop, hns⟩ := HM.out
      have hf25 : Foot (Cf g D) w2 w5 := (Foot.of_below (F := Cf g D) H3.out).trans hf5 (fun b hb => .inl hb)
      have hb25 : Below B w2 w5 := hf25.below hsz fun b hb => (hcm.lt b hb).1
      refine ⟨rfl, (s, 0) :: us, D5, d5, ⟨hm5, hway.chain.1 s 0 rfl, fun x hx => ?_, Nat.le_trans hsz hf25.size⟩, hfw.trans hf25 hfar, fun b hb => ?_, ?_, ?_⟩
      · rcases List.mem_cons.1 hx with rfl | hx
        · exact ⟨hns.below hb25 (Nat.le_refl _) (Nat.le_refl _), by show 0 ≤ 65536; omega⟩
        · exact ⟨(hnd x hx).1.below hb25 (Nat.le_refl _) (Nat.le_refl _), (hnd x hx).2⟩
      · rcases hn5 b hb with hb | hb
        · exact hfar b hb
        · exact .inr (Nat.le_trans hfw.size (Nat.le_trans H3.out.size hb))
      · intro e he
        simp only [Tr.bef, (Tr.fore_zero s).1, List.append_nil] at he
        exact (HW.out.1 e he)
      · intro e he
        simp only [Tr.aft, (Tr.fore_zero s).2, List.mem_append] at he
        rcases he with he | he
        · exact HZ.out.2.1 (by have := HC.out; omega) e he
        · exact Nat.le_of_lt (HW.out.2.1 ⟨s, rfl⟩ e he)
end Go.Proofs.YtdpbcfjhljgicaaGreatDoor

/-
  CONTRACTS of package walk: All, a list that grows while a cursor moves. Laid by wip/gen23.py.
-/
namespace Go.Proofs.YtdpbcfjhljgicaaGreatDoor
open Go.ChangeShapes Go.WideShapes Go.ChangeAt Go.RowKit
open Tr (T S4 Ent)

/-- a point in memory, in one of the blocks G -/
def PtsG (w : World) (G : Nat → Prop) (A : Option Addr) (us : List Nat) : Prop :=
  Z.Ok us ∧ (us ≠ [] → ∃ b off, A = some ⟨b, off, none⟩ ∧ G b ∧ b < w.heap.size ∧ ∀ (i u : Nat), us[i]? = some u → w.cell? ⟨b, off + i, none⟩ = some (.int .u64 (u : Int)))
theorem PtsG.pts {w : World} {G : Nat → Prop} {A : Option Addr} {us : List Nat} (h : PtsG w G A us) : Pts w w.heap.size A us :=
  ⟨h.1, fun hn => by obtain ⟨b, off, h1, _, h3, h4⟩ := h.2 hn; exact ⟨b, off, h1, h3, h4⟩⟩
theorem PtsG.step {w w' : World} {G G' : Nat → Prop} {A : Option Addr} {us : List Nat} (h : PtsG w G A us) (hs : w.heap.size ≤ w'.heap.size) (hk : ∀ b, b < w.heap.size → G b → w'.heap[b]? = w.heap[b]? ∧ G' b) : PtsG w' G' A us :=
  ⟨h.1, fun hn => by
    obtain ⟨b, off, h1, h2, h3, h4⟩ := h.2 hn
    obtain ⟨h5, h6⟩ := hk b h3 h2
    exact ⟨b, off, h1, h6, by omega, fun i u hu => (World.cell?_of_block (a := ⟨b, off + i, none⟩) h5).trans (h4 i u hu)⟩⟩
theorem Own.ptsG {w : World} {base h n d : Nat} {us : List Nat} {G : Nat → Prop} (ho : Own w base (.slice (some ⟨h, 0, none⟩) n d) us) (hG : G h) : PtsG w G (some ⟨h, 0, none⟩) us := by
  obtain ⟨A, c, hv, hp⟩ := ho.pts
  simp only [Value.slice.injEq] at hv
  obtain ⟨rfl, -, -⟩ := hv
  refine ⟨hp.1, fun hn => ?_⟩
  obtain ⟨b, off, h1, h2, h3⟩ := hp.2 hn
  simp only [Option.some.injEq, Addr.mk.injEq, and_true] at h1
  obtain ⟨rfl, rfl⟩ := h1
  exact ⟨h, 0, rfl, hG, h2, h3⟩
def EntG (w : World) (G : Nat → Prop) (f : Nat → Option Value) (e : Ent) : Prop :=
  ∃ A c, f 0 = some (.slice A e.1.length c) ∧ f 1 = some (.int .u64 (e.2 : Int)) ∧ PtsG w G A e.1 ∧ e.1.length ≤ maxLen ∧ e.2 < 18446744073709551616
theorem entG_ok (w : World) (G : Nat → Prop) : QOk 2 (EntG w G) where
  ext := by
    rintro f g a h ⟨A, c, h0, h1, r⟩
    exact ⟨A, c, by rw [← h 0 (by omega)]; exact h0, by rw [← h 1 (by omega)]; exact h1, r⟩
  has := by
    rintro f a ⟨A, c, h0, h1, r⟩ j hj
    match j, hj with
    | 0, _ => exact ⟨_, h0, rfl⟩
    | 1, _ => exact ⟨_, h1, rfl⟩
theorem EntG.step {w w' : World} {G G' : Nat → Prop} (hs : w.heap.size ≤ w'.heap.size) (hk : ∀ b, b < w.heap.size → G b → w'.heap[b]? = w.heap[b]? ∧ G' b) : ∀ f e, EntG w G f e → EntG w' G' f e := by
  rintro f e ⟨A, c, h0, h1, h2, r⟩
  exact ⟨A, c, h0, h1, h2.step hs hk, r⟩
/-- the blocks that neither a list nor a cursor writes to -/
def Fr (w0 : Nat) (R : Option Addr) (g : Nat) (D : Option Addr) : Nat → Prop := fun b => R.map (·.block) ≠ some b ∧ ¬ Cf g D b ∧ w0 ≤ b
/-- what the variable of a round holds -/
def CurE (w : World) (G : Nat → Prop) (eb : Nat) (x : Option Ent) : Prop := match x with
  | none => w.heap[eb]? = some (.cells #[.slice none 0 0, .int .u64 0] 54 (0, 0))
  | some y => ∃ P n, w.heap[eb]? = some (.cells #[.slice P y.1.length n, .int .u64 (y.2 : Int)] 54 (0, 0)) ∧ PtsG w G P y.1
/-- A LIST THAT GROWS BY WHAT A CURSOR TELLS -/
structure AllI (w : World) (g k : Nat) (kk : Int) (o : Option T) (L1 : List Ent) (x : Option Ent) (S : List (T × Nat)) (D : Option Addr) (d : Nat) (R : Option Addr) (c : Nat) (eb : Nat) (wr : World) : Prop where
  cur : CurAt wr w.heap.size g k kk o S D d
  whole : L1 ++ (x.toList ++ Tr.aft S) = Tr.entsO o
  stop : x = none → Tr.aft S = []
  row : OwnL 54 2 (EntG wr (Fr w.heap.size R g D)) wr w.heap.size (.slice R L1.length c) L1
  rg : ∀ b, R.map (·.block) = some b → ¬ Cf g D b ∧ b ≠ eb
  ent : CurE wr (Fr w.heap.size R g D) eb x
  ebn : ¬ Cf g D eb ∧ w.heap.size ≤ eb
  bel : Below w.heap.size w wr
/-- behind the append of a round -/
structure AllM (w : World) (g k : Nat) (kk : Int) (o : Option T) (L1 : List Ent) (S : List (T × Nat)) (D : Option Addr) (d : Nat) (R : Option Addr) (c : Nat) (eb : Nat) (P : Option Addr) (n nn v : Nat) (wr : World) : Prop where
  cur : CurAt wr w.heap.size g k kk o S D d
  whole : L1 ++ Tr.aft S = Tr.entsO o
  row : OwnL 54 2 (EntG wr (Fr w.heap.size R g D)) wr w.heap.size (.slice R L1.length c) L1
  rg : ∀ b, R.map (·.block) = some b → ¬ Cf g D b
  blk : wr.heap[eb]? = some (.cells #[.slice P n nn, .int .u64 (v : Int)] 54 (0, 0))
  bel : Below w.heap.size w wr
theorem AllI.app {w : World} {g k : Nat} {kk : Int} {o : Option T} {L1 : List Ent} {y : Ent} {S : List (T × Nat)} {D : Option Addr} {d : Nat} {R : Option Addr} {c eb : Nat} {wr w5 : World} {P : Option Addr} {nn d5 : Nat} {D5 : Option Addr} {ob : Obj} {M : Nat}
    (h : AllI w g k kk o L1 (some y) S D d R c eb wr) (hblk : wr.heap[eb]? = some (.cells #[.slice P y.1.length nn, .int .u64 (y.2 : Int)] 54 (0, 0)))
    (hown : OwnL 54 2 (EntG wr (Fr w.heap.size R g D)) w5 w.heap.size (.slice D5 M d5) (L1 ++ [y])) (hM : M = (L1 ++ [y]).length) (hgr : (wr.alloc ob).grownBy w5 (Value.slice R L1.length c).ownBlock)
    (hat : (Value.slice D5 M d5).ownBlock = (Value.slice R L1.length c).ownBlock ∨ (Value.slice D5 M d5).ownBlock = some (wr.alloc ob).heap.size) :
    AllM w g k kk o (L1 ++ [y]) S D d D5 d5 eb P y.1.length nn y.2 w5 := by
  subst hM
  rw [own_block, own_block] at hat
  rw [own_block] at hgr
  have hsz : (wr.alloc ob).heap.size = wr.heap.size + 1 := by simp
  have hs5 : wr.heap.size ≤ w5.heap.size := Nat.le_trans (by omega) hgr.size
  have hb : ∀ b, b < wr.heap.size → R.map (·.block) ≠ some b → w5.heap[b]? = wr.heap[b]? := fun b hb hn => (hgr.block b (by omega) (fun e => hn e.symm)).trans (Below.heap_alloc _ _ _ hb)
  have hebw := (Array.getElem?_eq_some_iff.1 hblk).1
  have hR : ∀ b, R.map (·.block) = some b → w.heap.size ≤ b := fun b hb => (h.row.lt b (by rw [own_block]; exact hb)).1
  have hbel : Below w.heap.size wr w5 := ⟨hgr.os, hgr.tape, hgr.output, hs5, fun b hb' => hb b (Nat.lt_of_lt_of_le hb' h.bel.size) (fun e => by have := hR b e; omega)⟩
  refine ⟨h.cur.keep hbel fun b hb' => hb b (h.cur.mem.lt b hb').2 (fun e => (h.rg b e).1 hb'), ?_, ?_, fun b hb' => ?_, ?_, h.bel.trans hbel⟩
  · rw [← h.whole]; simp
  · refine hown.imp (EntG.step hs5 fun b hb' hG => ⟨hb b hb' hG.1, ?_, hG.2⟩)
    rcases hat with e | e
    · rw [e]; exact hG.1
    · rw [e]; intro e'; simp only [Option.some.injEq] at e'; omega
  · rcases hat with e | e
    · rw [e] at hb'; exact (h.rg b hb').1
    · rw [e] at hb'; simp only [Option.some.injEq] at hb'; intro hc; have := (h.cur.mem.lt b hc).2; omega
  · rw [hb eb hebw (fun e => (h.rg eb e).2 rfl)]; exact hblk
theorem AllM.lt {w : World} {g k : Nat} {kk : Int} {o : Option T} {L1 : List Ent} {S : List (T × Nat)} {D : Option Addr} {d : Nat} {R : Option Addr} {c eb : Nat} {P : Option Addr} {n nn v : Nat} {wr : World} (h : AllM w g k kk o L1 S D d R c eb P n nn v wr) : ∀ b, R.map (·.block) = some b → w.heap.size ≤ b ∧ b < wr.heap.size := fun b hb => h.row.lt b (by rw [own_block]; exact hb)
/-- what a move tells, as values -/
def Telt (w w' : World) (g : Nat) (D : Option Addr) (x : Option Ent) (P : Option Addr) (n dd v : Nat) : Prop := match x with
  | none => P = none ∧ n = 0 ∧ dd = 0 ∧ v = 0
  | some y => n = y.1.length ∧ v = y.2 ∧ ∃ hh, P = some ⟨hh, 0, none⟩ ∧ Own w' w.heap.size (.slice P n dd) y.1 ∧ ¬ Cf g D hh
theorem next_any {w : World} {B g k : Nat} {kk : Int} {o : Option T} {S0 : List (T × Nat)} {D0 : Option Addr} {d0 : Nat} (h : CurAt w B g k kk o S0 D0 d0) (hT : ∀ w', Below B w w' → Tz w') (x : Option Ent) (hx : (Tr.aft S0).head? = x) (r : Bool) (hr : x.isSome = r) :
    Calls Tryz.prog 72 #[.pointer (some ⟨g, 0, none⟩)] w fun e w' => ∃ (P : Option Addr) (n dd v : Nat), e = .returned (.tuple #[.agg #[.slice P n dd, .int .u64 (v : Int)], .bool r]) ∧
      ∃ S D d, CurAt w' B g k kk o S D d ∧ Foot (Cf g D0) w w' ∧ (∀ b, Cf g D b → Cf g D0 b ∨ w.heap.size ≤ b) ∧ Telt w w' g D x P n dd v ∧ Tr.bef S = Tr.bef S0 ++ (Tr.aft S0).take 1 ∧ Tr.aft S = (Tr.aft S0).drop 1 := by
  refine (next_c h hT).mono ?_
  rintro e w' ⟨S, D, d, h1, h2, h3, h4, h5, h6⟩
  rw [hx] at h4
  subst hr
  cases x with
  | none => exact ⟨none, 0, 0, 0, h4, S, D, d, h1, h2, h3, ⟨rfl, rfl, rfl, rfl⟩, h5, h6⟩
  | some y =>
    obtain ⟨hh, dd, h7, h8, h9⟩ := h4
    exact ⟨_, _, dd, _, h7, S, D, d, h1, h2, h3, ⟨rfl, rfl, hh, rfl, h8, h9⟩, h5, h6⟩
theorem next_some {w : World} {B g k : Nat} {kk : Int} {o : Option T} {S0 : List (T × Nat)} {D0 : Option Addr} {d0 : Nat} (h : CurAt w B g k kk o S0 D0 d0) (hT : ∀ w', Below B w w' → Tz w') {y : Ent} {L : List Ent} (ha : Tr.aft S0 = y :: L) :
    Calls Tryz.prog 72 #[.pointer (some ⟨g, 0, none⟩)] w fun e w' => ∃ hh dd, e = .returned (.tuple #[entryV (some ⟨hh, 0, none⟩) y.1.length dd y.2, .bool true]) ∧
      ∃ S D d, CurAt w' B g k kk o S D d ∧ Foot (Cf g D0) w w' ∧ (∀ b, Cf g D b → Cf g D0 b ∨ w.heap.size ≤ b) ∧ Own w' w.heap.size (.slice (some ⟨hh, 0, none⟩) y.1.length dd) y.1 ∧ ¬ Cf g D hh ∧ Tr.bef S = Tr.bef S0 ++ [y] ∧ Tr.aft S = L := by
  refine (next_c h hT).mono ?_
  rintro e w' ⟨S, D, d, h1, h2, h3, h4, h5, h6⟩
  rw [ha] at h4 h5 h6
  obtain ⟨hh, dd, h7, h8, h9⟩ := h4
  exact ⟨hh, dd, h7, S, D, d, h1, h2, h3, h8, h9, h5, h6⟩
theorem AllI.start {w w2 w3 w4 : World} {ob : Obj} {g k : Nat} {kk : Int} {o : Option T} {D0 : Option Addr} {x : Option Ent} {S : List (T × Nat)} {D : Option Addr} {d c : Nat} {P : Option Addr} {n dd v : Nat}
    (hrow : OwnL 54 2 (EntG (w4.alloc (.cells #[.slice P n dd, .int .u64 (v : Int)] 54)) (Fr w.heap.size (some ⟨w2.heap.size, 0, none⟩) g D)) (w2.alloc ob) w.heap.size (.slice (some ⟨w2.heap.size, 0, none⟩) 0 c) [])
    (h2 : Below w.heap.size w w2) (h3 : Below (w2.alloc ob).heap.size (w2.alloc ob) w3) (hg3 : ∀ b, Cf g D0 b → (w2.alloc ob).heap.size ≤ b) (hc : CurAt w4 w.heap.size g k kk o S D d) (hf : Foot (Cf g D0) w3 w4) (hr : ∀ b, Cf g D b → Cf g D0 b ∨ w3.heap.size ≤ b)
    (ht : Telt w3 w4 g D x P n dd v) (hw : [] ++ (x.toList ++ Tr.aft S) = Tr.entsO o) (hs : x = none → Tr.aft S = []) :
    AllI w g k kk o [] x S D d (some ⟨w2.heap.size, 0, none⟩) c w4.heap.size (w4.alloc (.cells #[.slice P n dd, .int .u64 (v : Int)] 54)) := by
  have hal := below_alloc w4 (.cells #[.slice P n dd, .int .u64 (v : Int)] 54)
  have hs2 : (w2.alloc ob).heap.size = w2.heap.size + 1 := by simp
  have q2 := h2.size
  have q3 := h3.size
  have q4 := hf.size
  have hlt : w2.heap.size < w3.heap.size := by omega
  have hnc : ¬ Cf g D w2.heap.size := fun hb => by
    rcases hr _ hb with hb | hb
    · have := hg3 _ hb; omega
    · omega
  have h34 : Below w.heap.size w3 w4 := hf.below (by omega) fun b hb => by have := hg3 b hb; omega
  have hww : Below w.heap.size w (w4.alloc (.cells #[.slice P n dd, .int .u64 (v : Int)] 54)) :=
    h2.trans (((below_alloc w2 ob).mono h2.size).trans ((h3.mono (by omega)).trans (h34.trans (hal.mono (by omega)))))
  have hb4 : (w4.alloc (.cells #[.slice P n dd, .int .u64 (v : Int)] 54)).heap[w2.heap.size]? = (w2.alloc ob).heap[w2.heap.size]? := by
    rw [hal.block _ (by omega), hf.block _ hlt (fun hb => by have := hg3 _ hb; omega), h3.block _ (by omega)]
  refine ⟨hc.below hal, hw, hs, hrow.block fun q hq => ?_, fun b hb => ?_, ?_, ⟨fun hb => ?_, ?_⟩, hww⟩
  · simp only [Value.ownBlock, Option.some.injEq] at hq; subst hq; exact hb4
  · simp only [Option.map_some, Option.some.injEq] at hb
    subst hb
    exact ⟨hnc, by omega⟩
  · cases x with
    | none =>
      obtain ⟨rfl, rfl, rfl, rfl⟩ := ht
      exact heap_at w4 _ _ rfl
    | some y =>
      obtain ⟨rfl, rfl, hh, rfl, ho, hn⟩ := ht
      have hh1 := (ho.2.lt hh rfl).1
      refine ⟨_, _, heap_at w4 _ _ rfl, (Own.ptsG (G := Fr w.heap.size (some ⟨w2.heap.size, 0, none⟩) g D) ho ⟨?_, hn, by omega⟩).step hal.size (fun b hb hG => ⟨hal.block b hb, hG⟩)⟩
      intro e
      simp only [Option.map_some, Option.some.injEq] at e
      omega
  · have := (hc.mem.lt _ hb).2; omega
  · omega
/-- the next round -/
theorem AllM.next {w : World} {g k : Nat} {kk : Int} {o : Option T} {L1 : List Ent} {S : List (T × Nat)} {D : Option Addr} {d : Nat} {R : Option Addr} {c eb : Nat} {P : Option Addr} {n nn v : Nat} {w5 : World} (h : AllM w g k kk o L1 S D d R c eb P n nn v w5)
    {x : Option Ent} {S' : List (T × Nat)} {D' : Option Addr} {d' : Nat} {P' : Option Addr} {n' dd' v' : Nat} {w7 : World} {y z : Value} (hc : CurAt w7 w.heap.size g k kk o S' D' d') (hf : Foot (Cf g D) (w5.alloc (.cells #[y, z] 54)) w7) (hr : ∀ b, Cf g D' b → Cf g D b ∨ (w5.alloc (.cells #[y, z] 54)).heap.size ≤ b)
    (ht : Telt (w5.alloc (.cells #[y, z] 54)) w7 g D' x P' n' dd' v') (hx : (Tr.aft S).head? = x) (ha : Tr.aft S' = (Tr.aft S).drop 1) :
    AllI w g k kk o L1 x S' D' d' R c w5.heap.size ((w7.setCell ⟨w5.heap.size, 0, none⟩ (.slice P' n' dd')).setCell ⟨w5.heap.size, 1, none⟩ (.int .u64 (v' : Int))) := by
  have hal := below_alloc w5 (.cells #[y, z] 54)
  have hs : (w5.alloc (.cells #[y, z] 54)).heap.size = w5.heap.size + 1 := by simp
  have q7 := hf.size
  have hnc : ¬ Cf g D w5.heap.size := fun hb => by have := (h.cur.mem.lt _ hb).2; omega
  have hnc' : ¬ Cf g D' w5.heap.size := fun hb => by
    rcases hr _ hb with hb | hb
    · exact hnc hb
    · omega
  have hset : ∀ b, b ≠ w5.heap.size → ((w7.setCell ⟨w5.heap.size, 0, none⟩ (.slice P' n' dd')).setCell ⟨w5.heap.size, 1, none⟩ (.int .u64 (v' : Int))).heap[b]? = w7.heap[b]? := fun b hb =>
    (Below.heap_setCell _ _ _ _ hb).trans (Below.heap_setCell _ _ _ _ hb)
  have hsz : ((w7.setCell ⟨w5.heap.size, 0, none⟩ (.slice P' n' dd')).setCell ⟨w5.heap.size, 1, none⟩ (.int .u64 (v' : Int))).heap.size = w7.heap.size := by simp
  have hbl : w7.heap[w5.heap.size]? = some (.cells #[y, z] 54 (0, 0)) := (hf.block _ (by omega) hnc).trans (heap_at w5 _ _ rfl)
  have q5 := h.bel.size
  have h57 : Below w.heap.size w5 w7 := (hal.mono q5).trans (hf.below (by omega) fun b hb => (h.cur.mem.lt b hb).1)
  have h78 : Below w.heap.size w7 ((w7.setCell ⟨w5.heap.size, 0, none⟩ (.slice P' n' dd')).setCell ⟨w5.heap.size, 1, none⟩ (.int .u64 (v' : Int))) := ((Below.refl _ _).setCell (p := ⟨w5.heap.size, 0, none⟩) q5 _).setCell (p := ⟨w5.heap.size, 1, none⟩) q5 _
  have hold : ∀ b, b < w5.heap.size → ¬ Cf g D b → ((w7.setCell ⟨w5.heap.size, 0, none⟩ (.slice P' n' dd')).setCell ⟨w5.heap.size, 1, none⟩ (.int .u64 (v' : Int))).heap[b]? = w5.heap[b]? := fun b hb hn => by
    rw [hset b (by omega), hf.block b (by omega) hn, hal.block b hb]
  have hfr : ∀ b, b < w5.heap.size → ¬ Cf g D b → ¬ Cf g D' b := fun b hb hn hc => by
    rcases hr b hc with hb' | hb'
    · exact hn hb'
    · omega
  refine ⟨hc.keep h78 fun b hb => hset b (fun e => hnc' (e ▸ hb)), ?_, fun e => ?_, ?_, fun b hb => ?_, ?_, ⟨hnc', q5⟩, h.bel.trans (h57.trans h78)⟩
  · rw [← h.whole, ha, ← hx]
    cases Tr.aft S <;> rfl
  · rw [ha]
    cases hS : Tr.aft S with
    | nil => rfl
    | cons a l => rw [hS, e] at hx; cases hx
  · refine (h.row.block fun q hq => ?_).imp (EntG.step (by omega) fun b hb hG => ⟨hold b hb hG.2.1, hG.1, hfr b hb hG.2.1, hG.2.2⟩)
    rw [own_block] at hq
    exact hold q (h.lt q hq).2 (h.rg q hq)
  · exact ⟨hfr b (h.lt b hb).2 (h.rg b hb), by have := (h.lt b hb).2; omega⟩
  · cases x with
    | none =>
      obtain ⟨rfl, rfl, rfl, rfl⟩ := ht
      exact block_set (block_set hbl _) _
    | some u =>
      obtain ⟨rfl, rfl, hh, rfl, ho, hn⟩ := ht
      have hh1 := (ho.2.lt hh rfl).1
      refine ⟨_, _, block_set (block_set hbl _) _, (Own.ptsG (G := Fr w.heap.size R g D') (own_set (own_set ho (a := ⟨w5.heap.size, 0, none⟩) (fun e => ?_) _) (a := ⟨w5.heap.size, 1, none⟩) (fun e => ?_) _) ⟨fun e => ?_, hn, by omega⟩)⟩
      · simp only [Value.ownBlock, Option.some.injEq] at e; omega
      · simp only [Value.ownBlock, Option.some.injEq] at e; omega
      · have := (h.lt hh e).2; omega
def lenV : Value → Nat
  | .slice _ n _ => n
  | _ => 0

end Go.Proofs.YtdpbcfjhljgicaaGreatDoor

/-
  CONTRACTS of package walk: From, UpTo. Laid by wip/gen25.py.
-/
namespace Go.Proofs.YtdpbcfjhljgicaaGreatDoor
open Go.ChangeShapes Go.WideShapes Go.ChangeAt Go.RowKit
open Tr (T S4 Ent)

/-- an answer as values: none, or the entry x in new memory -/
def TelE (w w' : World) (x : Option Ent) (P : Option Addr) (n dd v : Nat) : Prop := match x with
  | none => P = none ∧ n = 0 ∧ dd = 0 ∧ v = 0
  | some y => n = y.1.length ∧ v = y.2 ∧ ∃ hh, P = some ⟨hh, 0, none⟩ ∧ Own w' w.heap.size (.slice P n dd) y.1
/-! ### the nearest node beside the way -/
end Go.Proofs.YtdpbcfjhljgicaaGreatDoor
