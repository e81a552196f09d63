/-
  CONTRACTS of package slots, seventh part: spread.
-/
import Derived.Test.YtgplbbmenmbaaaaS5n
import Derived.Deep.RegionHeld
import Derived.Deep.Cut
import Derived.BigRegion
namespace Go.Proofs.Ytgplbbmenmbaaaa.Sn
open Go.ChangeShapes Go.WideShapes Go.ChangeAt Go.RowKit

/-- dense slots that are being made: the variable in block g, the slots in p, their cells in c -/
def Spm (w : World) (B g p c k m : Nat) (M : Al) : Prop :=
  (B ≤ g ∧ B ≤ p ∧ B ≤ c ∧ g ≠ p ∧ g ≠ c ∧ p ≠ c) ∧ p < w.heap.size ∧ w.cell? ⟨g, 0, none⟩ = some (.pointer (some ⟨p, 0, none⟩)) ∧ w.cell? ⟨p, 0, none⟩ = some (.int .i64 (k : Int)) ∧ w.cell? ⟨p, 1, none⟩ = some (.int .u64 (Sl.mask M : Int)) ∧
    w.cell? ⟨p, 2, none⟩ = some (.slice none 0 0) ∧ w.cell? ⟨p, 3, none⟩ = some (.slice (some ⟨c, 0, none⟩) m m) ∧ w.frozen? ⟨p, 1, none⟩ = false ∧ OwnV 29 w B (.slice (some ⟨c, 0, none⟩) m m) (elV (Sl.row none m M))
theorem Spm.drew {w : World} {B g p c k m : Nat} {M : Al} (h : Spm w B g p c k m M) : Spm w.drew B g p c k m M := h
theorem spm_step {w : World} {B g p c k m a : Nat} {M : Al} (x : Option Addr) (srt : Sl.Srt M) (h : Spm w B g p c k m M) :
    Spm ((w.setCell ⟨p, 1, none⟩ (.int .u64 ((Sl.mask M ||| 2 ^ a : Nat) : Int))).setCell ⟨c, a, none⟩ (Value.pointer (x))) B g p c k m (Sl.put a x M) ∧ Below B w ((w.setCell ⟨p, 1, none⟩ (.int .u64 ((Sl.mask M ||| 2 ^ a : Nat) : Int))).setCell ⟨c, a, none⟩ (Value.pointer (x))) := by
  obtain ⟨⟨b1, b2, b3, n1, n2, n3⟩, hlt, h1, h2, h3, h4, h5, h6, h7⟩ := h
  have e : ∀ q : Addr, q.block ≠ c → q ≠ ⟨p, 1, none⟩ → ((w.setCell ⟨p, 1, none⟩ (.int .u64 ((Sl.mask M ||| 2 ^ a : Nat) : Int))).setCell ⟨c, a, none⟩ (Value.pointer (x))).cell? q = w.cell? q := fun q hq hp => by
    rw [World.cell?_setCell_other _ _ _ _ (fun e => hq (by rw [← e])), World.cell?_setCell_other _ _ _ _ (Ne.symm hp)]
  refine ⟨⟨⟨b1, b2, b3, n1, n2, n3⟩, by simpa using hlt, ?_, ?_, ?_, ?_, ?_, ?_, ?_⟩, (((Below.refl B w).setCell (p := ⟨p, 1, none⟩) b2 _).setCell (p := ⟨c, a, none⟩) b3 _)⟩
  · rw [e _ n2 (by simp)]; exact h1
  · rw [e _ n3 (by simp)]; exact h2
  · rw [World.cell?_setCell_other _ _ _ _ (by simp), World.cell?_setCell_same _ _ _ h3, Sl.mask_put srt]
  · rw [e _ n3 (by simp)]; exact h4
  · rw [e _ n3 (by simp)]; exact h5
  · rw [frozen_set, frozen_set]; exact h6
  · have o1 := ownV_store h7 (a := ⟨p, 1, none⟩) (by simpa [Value.ownBlock] using Ne.symm n3) (.int .u64 ((Sl.mask M ||| 2 ^ a : Nat) : Int))
    have hl : (elV (Sl.row none m M)).length = m := by rw [elV_length, Sl.row_length]
    have o2 := o1.2
    rw [hl] at o2
    have o3 := (o2.stored a (Value.pointer (x))).1
    have hr : (elV (Sl.row none m M)).set a (Value.pointer (x)) = elV (Sl.row none m (Sl.put a x M)) := by
      rw [Sl.row_put srt]
      simp [elV, List.map_set]
    rw [hr] at o3
    refine ⟨elV_one _, ?_⟩
    rw [elV_length, Sl.row_length]
    exact o3
set_option maxRecDepth 100000 in
theorem spread1_c {w : World} {B g p c k m a : Nat} {M : Al} (x : Option Addr) (srt : Sl.Srt M) (h : Spm w B g p c k m M) (hm : m ≤ 64) (ha : a < m) (hlt : Sl.mask M < 18446744073709551616) :
    Calls Try.prog 75 #[.int .i64 (a : Int), (Value.pointer (x)), .pointer (some ⟨g, 0, none⟩)] w fun e w' => e = .returned (.tuple #[]) ∧ Spm w' B g p c k m (Sl.put a x M) ∧ Below B w w' := by
  have hst := spm_step (a := a) x srt h
  obtain ⟨⟨b1, b2, b3, n1, n2, n3⟩, _, h1, h2, h3, h4, h5, h6, h7⟩ := h
  have hl : (elV (Sl.row none m M)).length = m := by rw [elV_length, Sl.row_length]
  have o2 := h7.2
  rw [hl] at o2
  have hfr := o2.frozenAt a
  obtain ⟨y, hy⟩ : ∃ y, w.cell? ⟨c, a, none⟩ = some y := by
    rw [o2.cellAt a (by omega)]
    exact get_lt (by rw [hl]; exact ha)
  have hp : 2 ^ a < 18446744073709551616 := Nat.lt_of_lt_of_le (Nat.pow_lt_pow_right (by omega) (show a < 64 by omega)) (by omega)
  have hw : IntKind.u64.wrap (2 ^ a) = ((2 ^ a : Nat) : Int) := by
    rw [show (2 : Int) ^ a = ((2 ^ a : Nat) : Int) by simp]
    generalize 2 ^ a = P at *
    rw [IntKind.wrap_u64]; omega
  have hor := bits_or_u64_nat (Sl.mask M) (2 ^ a) hlt hp
  have k1 : (0 : Int) ≤ (a : Int) := by omega
  have k2 : (a : Int) < (m : Int) := by omega
  have n1' := Ne.symm n1
  have n2' := Ne.symm n2
  have n3' := Ne.symm n3
  have Hst := Lib.hid hst
  generalize Sl.mask M ||| 2 ^ a = q at *
  generalize 2 ^ a = P at *
  clear hst h7 o2 hl srt b1 b2 b3 hp hlt
  go_enter Try.func75, Try.ntmps75
  go_wp2_with fail
  go_region
  go_wp2_with fail
  go_end0
  exact ⟨rfl, Hst.out.1.drew, Hst.out.2.drew⟩

/-! ### spread -/
theorem put_last {M : Al} {a : Nat} {x : Option Addr} (h : Sl.Srt (M ++ [(a, x)])) : Sl.put a x M = M ++ [(a, x)] := by
  induction M with
  | nil => rfl
  | cons p M ih =>
    have := h.head (a, x) (by simp)
    simp only [Sl.put, List.cons_append]
    rw [if_pos this, ih h.tail]
theorem srt_take {L : Al} (h : Sl.Srt L) (j : Nat) : Sl.Srt (L.take j) := List.Pairwise.sublist (List.take_sublist j L) h
theorem take_put {L : Al} (h : Sl.Srt L) {j : Nat} {p : Nat × Option Addr} (hp : L[j]? = some p) : Sl.put p.1 p.2 (L.take j) = L.take (j + 1) := by
  obtain ⟨h1, h2⟩ := List.getElem?_eq_some_iff.1 hp
  have e : L.take (j + 1) = L.take j ++ [(p.1, p.2)] := by rw [List.take_succ_eq_append_getElem h1, h2]
  rw [e]
  refine put_last ?_
  rw [← e]
  exact srt_take h _
theorem spm_new {w : World} {B g p c k m : Nat} {Zs : Array Value} (hz : Zs = (elV (Sl.row none m [])).toArray) (hm : m ≤ 64) (b : B ≤ g ∧ B ≤ p ∧ B ≤ c ∧ g ≠ p ∧ g ≠ c ∧ p ≠ c) (hg : w.heap[g]? = some (.cells #[.pointer (some ⟨p, 0, none⟩)] 54 (0, 0)))
    (hp : w.heap[p]? = some (.cells #[.int .i64 (k : Int), .int .u64 0, .slice none 0 0, .slice (some ⟨c, 0, none⟩) m m] 81 (0, 0))) (hc : w.heap[c]? = some (.cells Zs 29 (0, 0))) : Spm w B g p c k m [] := by
  refine ⟨b, (Array.getElem?_eq_some_iff.1 hp).1, ?_, ?_, ?_, ?_, ?_, ?_, elV_one _, ?_⟩
  · rw [cell_of_row w g _ _ _ (0, 0) hg]; rfl
  · rw [cell_of_row w p _ _ _ (0, 0) hp]; rfl
  · rw [cell_of_row w p _ _ _ (0, 0) hp]; rfl
  · rw [cell_of_row w p _ _ _ (0, 0) hp]; rfl
  · rw [cell_of_row w p _ _ _ (0, 0) hp]; rfl
  · exact frozen_of_row w p _ _ _ hp
  · have hl : (elV (Sl.row none m ([] : Al))).length = m := by rw [elV_length, Sl.row_length]
    rw [hl]
    refine ⟨by rw [hl]; omega, .inr ⟨c, m, Zs, rfl, b.2.2.1, hc, Nat.le_refl _, by unfold maxLen; omega, by rw [hz]; simp [hl], ?_⟩⟩
    rw [hz, Nat.mul_one]
    exact List.take_of_length_le (by rw [hl]; exact Nat.le_refl _)
set_option maxRecDepth 100000 in
theorem sSpread_c {w : World} {B b k : Nat} {L : Al} {d : Bool} (wf : Sl.Wf k L) (h : Rp w B b k L d) (hB : B ≤ w.heap.size) (hk : k ≤ 6) (hL : L ≠ []) :
    Calls Try.prog 71 #[.pointer (some ⟨b, 0, none⟩)] w fun e w' => ∃ p, e = .returned (.pointer (some ⟨p, 0, none⟩)) ∧ De w' w'.heap.size p k L ∧ Below w.heap.size w w' := by
  obtain ⟨i0, hi0, hz0, hz1, hz2⟩ := info_parts Cn.info
  have h1 := rp_k h
  have hp2 : 2 ^ k ≤ 2 ^ 6 := Nat.pow_le_pow_right (n := 2) (by omega) hk
  have hp0 := Nat.two_pow_pos k
  have hw : wrap64 (2 ^ k) = ((2 ^ k : Nat) : Int) := by
    rw [show (2 : Int) ^ k = ((2 ^ k : Nat) : Int) by simp]; exact IntWalk.wrap64_in _ (by omega)
  have Hlt := Lib.hid wf.lt
  obtain ⟨m, hmm⟩ : ∃ m, 2 ^ k = m := ⟨_, rfl⟩
  have Hmm := Lib.hid hmm
  rw [hmm] at hp2 hp0 hw
  have hmk : ∀ (w : World), (Instr.makeSlice 26 (.int .i64 (m : Int)) (.int .i64 (m : Int))).run Try.prog w = .ok (.slice (some ⟨w.heap.size, 0, none⟩) m m) (w.alloc (.cells (madeCells (Value.cells (Value.pointer none)) (m * 1)) 29)) := by
    intro w
    have h := run_make (P := Try.prog) w 26 29 i0 (Value.pointer none) Cn.und hi0 hz0 .i64 .i64 (m : Int) (m : Int) (by omega) (by omega) (by rw [hz2]; omega) (by omega)
    rw [hz1] at h
    simpa using h
  have HZ : Hid (madeCells (Value.cells (Value.pointer none)) (m * 1) = (elV (Sl.row none m ([] : Al))).toArray) := Lib.hid (by
    apply Array.toList_inj.1
    rw [Nat.mul_one]
    refine (toList_madeCells_one (Value.pointer none) m).trans ?_
    apply List.ext_getElem?
    intro i
    simp only [elV, Sl.row, List.getElem?_map, List.getElem?_replicate, Sl.get]
    by_cases hi : i < m <;> simp [hi])
  generalize madeCells (Value.cells (Value.pointer none)) (m * 1) = Zs at *
  have Hw := Lib.hid (And.intro wf h)
  have HL := Lib.hid hL
  have hk7 : (k : Int) ≤ 6 := by omega
  have hw2 : IntKind.i64.wrap (2 ^ k) = (m : Int) := by
    rw [show (2 : Int) ^ k = ((2 ^ k : Nat) : Int) by simp, hmm]; exact IntWalk.i64_in _ (by omega)
  have hbB : b < w.heap.size := by have := rp_lt h; omega
  have q0 : ∀ w', Below w.heap.size w w' → w'.cell? ⟨b, 0, none⟩ = some (.int .i64 (k : Int)) := fun w' hb => (hb.cell (p := ⟨b, 0, none⟩) hbB).trans h1
  clear wf h hi0 hz0 hz1 hz2 hmm hL
  go_enter Try.func71, Try.ntmps71
  go_upto_region 1 with fail
  go_cut [3] from 4 (fun v wx => ∃ g p c, v = .pointer (some ⟨g, 0, none⟩) ∧ Spm wx w.heap.size g p c k m [] ∧ Below w.heap.size w wx)
  case first =>
    go_region_held (fun w' => Below w.heap.size w w') (((repeat (first | refine Below.drew ?_ | refine Below.alloc ?_ (by first | omega | (simp; done) | (simp; omega)) _ | refine Below.setCell ?_ (by first | omega | (simp; done) | (simp; omega)) _)); first | exact Below.refl _ _ | assumption | exact below_drewN _ (Below.refl _ _))) (fail)
    all_goals (
      go_wp2_with fail
      go_meet
      refine ⟨_, _, _, rfl, spm_new HZ.out (by omega) ?_ (by (first | (refine heap_at _ _ _ ?_; simp; done) | (refine heap_past _ (heap_at _ _ _ ?_); simp; done) | (refine heap_past _ (heap_past _ (heap_at _ _ _ ?_)); simp; done) | (refine heap_past _ (heap_past _ (heap_past _ (heap_at _ _ _ ?_))); simp; done))) (by (first | (refine heap_at _ _ _ ?_; simp; done) | (refine heap_past _ (heap_at _ _ _ ?_); simp; done) | (refine heap_past _ (heap_past _ (heap_at _ _ _ ?_)); simp; done) | (refine heap_past _ (heap_past _ (heap_past _ (heap_at _ _ _ ?_))); simp; done))) (by (first | (refine heap_at _ _ _ ?_; simp; done) | (refine heap_past _ (heap_at _ _ _ ?_); simp; done) | (refine heap_past _ (heap_past _ (heap_at _ _ _ ?_)); simp; done) | (refine heap_past _ (heap_past _ (heap_past _ (heap_at _ _ _ ?_))); simp; done))), by ((repeat (first | refine Below.drew ?_ | refine Below.alloc ?_ (by first | omega | (simp; done) | (simp; omega)) _ | refine Below.setCell ?_ (by first | omega | (simp; done) | (simp; omega)) _)); first | exact Below.refl _ _ | assumption | exact below_drewN _ (Below.refl _ _))⟩
      refine ⟨?_, ?_, ?_, ?_, ?_, ?_⟩ <;> omega)
  case rest =>
  obtain ⟨g, p, c, rfl, hsp, hbx⟩ := hcut
  have Hsp := Lib.hid (And.intro hsp hbx)
  clear hmk hw hw2 q0 h1 hsp hbx
  go_wp2_with fail
  refine (sEach_c Hw.out.1 (Hw.out.2.below Hsp.out.2 hB (Nat.le_refl _)) 75 g (fun j wr => Spm wr w.heap.size g p c k m (L.take j) ∧ Below w.heap.size wc wr)
    (enters_at Try.func75 (by kernel_rfl) rfl) ⟨Hsp.out.1, Below.refl _ _⟩ (fun j wr h => h.2.mono hB) ?_).mono ?_
  · rintro j q wr hq ⟨hl, hb⟩
    have hlt : q.1 < m := by rw [← Hmm.out]; exact Hlt.out q (List.mem_of_getElem? hq)
    have hmk : Sl.mask (L.take j) < 2 ^ 64 := Sl.mask_lt (fun r hr => by have := Hw.out.1.lt64 hk r (List.mem_of_mem_take hr); exact this)
    refine (spread1_c (a := q.1) q.2 (srt_take Hw.out.1.srt j) hl (by omega) hlt (by omega)).mono ?_
    rintro e w2 ⟨rfl, hl2, hb2⟩
    rw [take_put Hw.out.1.srt hq] at hl2
    exact ⟨rfl, hl2, hb.trans hb2⟩
  · rintro e w2 ⟨rfl, hl2, hb2⟩
    rw [List.take_of_length_le (Nat.le_refl _)] at hl2
    obtain ⟨_, r0, r1, r2, r3, r4, r5, _, r6⟩ := hl2
    have Hr := Lib.hid (And.intro r0 (And.intro r2 (And.intro r3 (And.intro r4 (And.intro r5 r6)))))
    have hfin := Lib.hid (Hsp.out.2.trans hb2)
    clear r0 r2 r3 r4 r5 r6 hb2
    go_wp2_with fail
    go_ret
    refine ⟨p, rfl, ⟨Hr.out.1, hk, HL.out, .slice none 0 0, some ⟨c, 0, none⟩, m, Hr.out.2.1, Hr.out.2.2.1, Hr.out.2.2.2.1, by rw [Hmm.out]; exact Hr.out.2.2.2.2.1, by rw [Hmm.out]; exact Nat.le_refl _, ⟨none, 0, 0, rfl⟩, ?_⟩, hfin.out⟩
    rw [Hmm.out]
    exact Hr.out.2.2.2.2.2.rd_at
end Go.Proofs.Ytgplbbmenmbaaaa.Sn
