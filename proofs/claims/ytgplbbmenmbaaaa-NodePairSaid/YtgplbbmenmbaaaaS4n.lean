/-
  CONTRACTS of package slots, fifth part: each, whatever function is told; Places, All.
-/
import Derived.Test.YtgplbbmenmbaaaaS2n
import Derived.Test.YtgplbbmenmbaaaaCcn
import Derived.Shelf.Abstract
namespace Go.Proofs.Ytgplbbmenmbaaaa.Sn
open Go.ChangeShapes Go.WideShapes Go.ChangeAt Go.RowKit

theorem enters_at {fid : Nat} {fn : Func} {c : Code} (hf : Try.prog.funcs[fid]? = some fn) (hname : (fn.name == "runtime.NumGoroutine") = false) (hb : fn.body = some c) : ∀ args w, (callFunc fid args).run Try.prog w = .ok (.enter fid args) w :=
  fun args w => enters_of hf hname hb args w
theorem sEach_nil (f : Value) (w : World) : Calls Try.prog 55 #[.pointer none, f] w fun e w' => e = .returned (.tuple #[]) ∧ w = w' := by
  go_enter Try.func55, Try.ntmps55
  go_wp2
  refine bodyPost_ret (results_none rfl _ _ _) rfl ?_
  exact ⟨rfl, rfl⟩
set_option maxRecDepth 100000 in
set_option maxHeartbeats 1000000 in
theorem sEach_sp {w : World} {B b k : Nat} {L : Al} (wf : Sl.Wf k L) (h : Sp w B b k L) (fid g : Nat) (Inv : Nat → World → Prop)
    (he : ∀ args w, (callFunc fid args).run Try.prog w = .ok (.enter fid args) w) (h0 : Inv 0 w) (hkeep : ∀ j wr, Inv j wr → Below B w wr)
    (H : ∀ j p wr, L[j]? = some p → Inv j wr → Calls Try.prog fid #[.int .i64 (p.1 : Int), (Value.pointer (p.2)), .pointer (some ⟨g, 0, none⟩)] wr fun e w' => e = .returned (.tuple #[]) ∧ Inv (j + 1) w') :
    Calls Try.prog 55 #[.pointer (some ⟨b, 0, none⟩), .func (.func fid) #[] #[.pointer (some ⟨g, 0, none⟩)]] w fun e w' => e = .returned (.tuple #[]) ∧ Inv L.length w' := by
  have Hs := Lib.hid h
  obtain ⟨hbB, A, c, C, c', c0, c1, c2, c3, c4, c5, hA, hC⟩ := h
  have hlen := wf.len16
  have HH := Lib.hid (And.intro hkeep H)
  have H0 := Lib.hid h0
  have Hr := Lib.hid (And.intro hA hC)
  have Hw := Lib.hid wf
  have Hc := Lib.hid c2
  clear hkeep H h0 hA hC wf
  go_enter Try.func55, Try.ntmps55
  go_wp2_with fail
  go_loopw [13] (fun i wr => ∃ j : Nat, j ≤ L.length ∧ i = .int .i64 j ∧ Inv j wr) (fun i _ => L.length - (intOf i).toNat)
  case atStart => exact ⟨0, Nat.zero_le _, rfl, H0.out⟩
  case round =>
    obtain ⟨j, hj, rfl, hi⟩ := hrel
    have Hi := Lib.hid hi
    have hbel := HH.out.1 j _ hi
    clear hi c0 c1 c2 c3
    by_cases hlt : j < L.length
    · obtain ⟨p, hp⟩ := get_lt hlt
      have hp16 := Hw.out.lt16 p (List.mem_of_getElem? hp)
      have hrA := (Hr.out.1.below hbel (Nat.le_refl _) (Nat.le_refl _)).at (u16V_get (Sl.keys_get hp))
      have hrC := (Hr.out.2.below hbel (Nat.le_refl _) (Nat.le_refl _)).at (elV_get (Sl.things_get hp))
      obtain ⟨pb, po, hAA, hpb, hcell⟩ := hrA
      obtain ⟨qb, qo, hCC, hqb, hcell'⟩ := hrC
      subst hAA hCC
      have c2 := (hbel.cell (p := ⟨b, 2, none⟩) hbB).trans Hc.out
      have HD := Lib.hid (sDense_c (d := false) (Hs.out.below hbel (Nat.le_refl _) (Nat.le_refl _)))
      have Hp := Lib.hid hp
      clear hp hbel
      go_wp2_with (first
        | (go_at_call 38; refine HD.out.mono ?_; rintro e w' ⟨rfl, rfl⟩)
        | (go_at_fn fid; refine (HH.out.2 j p _ Hp.out Hi.out).mono ?_; rintro e w2 ⟨rfl, hi2⟩; have Hi2 := Lib.hid hi2; clear hi2))
      go_roundw
      case rel => exact ⟨j + 1, by omega, by go_num, Hi2.out⟩
      case measure => simp [intOf]; omega
    · have hjn : j = L.length := by omega
      subst hjn
      go_wp2_with fail
      go_end0
      exact ⟨rfl, Hi.out⟩

set_option maxRecDepth 100000 in
set_option maxHeartbeats 1000000 in
theorem sEach_de {w : World} {B b k : Nat} {L : Al} (wf : Sl.Wf k L) (h : De w B b k L) (fid g : Nat) (Inv : Nat → World → Prop)
    (he : ∀ args w, (callFunc fid args).run Try.prog w = .ok (.enter fid args) w) (h0 : Inv 0 w) (hkeep : ∀ j wr, Inv j wr → Below B w wr)
    (H : ∀ j p wr, L[j]? = some p → Inv j wr → Calls Try.prog fid #[.int .i64 (p.1 : Int), (Value.pointer (p.2)), .pointer (some ⟨g, 0, none⟩)] wr fun e w' => e = .returned (.tuple #[]) ∧ Inv (j + 1) w') :
    Calls Try.prog 55 #[.pointer (some ⟨b, 0, none⟩), .func (.func fid) #[] #[.pointer (some ⟨g, 0, none⟩)]] w fun e w' => e = .returned (.tuple #[]) ∧ Inv L.length w' := by
  have Hs := Lib.hid h
  obtain ⟨hbB, hk, hL, P, C, c', c0, c1, c2, c3, c4, c5, hC⟩ := h
  have hp2 : 2 ^ k ≤ 2 ^ 6 := Nat.pow_le_pow_right (n := 2) (by omega) hk
  have hm := Sl.mask_lt (wf.lt64 hk)
  have hall : Sl.idx L ((2 ^ k : Nat) : Int) = L.length := Sl.idx_all (fun p hp => by have := wf.lt p hp; omega)
  have h0' : Sl.idx L ((0 : Nat) : Int) = 0 := Sl.idx_zero L
  have hrow := fun i (hi : i < 2 ^ k) => Sl.row_get none L hi
  obtain ⟨m, hmm⟩ : ∃ m, 2 ^ k = m := ⟨_, rfl⟩
  rw [hmm] at c3 hp2 hall hC hrow
  have HH := Lib.hid (And.intro hkeep H)
  have H0 := Lib.hid h0
  have Hr := Lib.hid (And.intro hC hrow)
  have Hw := Lib.hid (And.intro wf hm)
  have Hc := Lib.hid c1
  have Hall := Lib.hid (And.intro hall h0')
  clear hkeep H h0 hC wf hall h0' hrow hmm hm hL hk c5
  go_enter Try.func55, Try.ntmps55
  go_wp2_with fail
  go_loopw [13] (fun i wr => ∃ j : Nat, j ≤ m ∧ i = .int .i64 j ∧ Inv (Sl.idx L (j : Int)) wr) (fun i _ => m - (intOf i).toNat)
  case atStart => exact ⟨0, Nat.zero_le _, rfl, by rw [Hall.out.2]; exact H0.out⟩
  case round =>
    obtain ⟨j, hj, rfl, hi⟩ := hrel
    have Hi := Lib.hid hi
    have hbel := HH.out.1 _ _ hi
    clear hi c0 c1 c2 c3
    by_cases hlt : j < m
    · have hsucc := Sl.idx_succ Hw.out.1.srt (j : Int)
      rw [show ((j : Int) + 1) = ((j + 1 : Nat) : Int) by omega] at hsucc
      have hbit := bit_and_one (Sl.mask L) j (by have := Hw.out.2; omega)
      rw [Sl.mask_testBit] at hbit
      have hrC := (Hr.out.1.below hbel (Nat.le_refl _) (Nat.le_refl _)).at (elV_get (Hr.out.2 j hlt))
      obtain ⟨qb, qo, hCC, hqb, hcell'⟩ := hrC
      subst hCC
      have c1 := (hbel.cell (p := ⟨b, 1, none⟩) hbB).trans Hc.out
      have HD := Lib.hid (sDense_c (d := true) (Hs.out.below hbel (Nat.le_refl _) (Nat.le_refl _)))
      have hj64 : j < 64 := by omega
      clear hbel
      cases hg : Sl.get L (j : Int) with
      | none =>
        have hh : Sl.has L (j : Int) = false := by simp [Sl.has, hg]
        rw [hh] at hsucc hbit
        have hbit' : (bits .and .u64 ((Sl.mask L : Int) / 2 ^ j) 1 == 1) = false := by simpa using hbit
        have Hs2 := Lib.hid hsucc
        clear hg hh hsucc hbit
        go_wp2_with (go_at_call 38; refine HD.out.mono ?_; rintro e w' ⟨rfl, rfl⟩)
        go_roundw
        case rel => exact ⟨j + 1, by omega, by go_num, by rw [Hs2.out]; exact Hi.out⟩
        case measure => simp [intOf]; omega
      | some v =>
        obtain ⟨n, hn, hp⟩ := Sl.get_at Hw.out.1.srt hg
        have hnj : n = j := by omega
        subst hnj
        have hh : Sl.has L (n : Int) = true := by simp [Sl.has, hg]
        rw [hh] at hsucc hbit
        have hbit' : (bits .and .u64 ((Sl.mask L : Int) / 2 ^ n) 1 == 1) = true := by simpa using hbit
        have Hs2 := Lib.hid hsucc
        have Hp := Lib.hid hp
        rw [hg] at hcell'
        clear hg hh hsucc hbit hp hn
        go_wp2_with (first
          | (go_at_call 38; refine HD.out.mono ?_; rintro e w' ⟨rfl, rfl⟩)
          | (go_at_fn fid; refine (HH.out.2 _ (n, v) _ Hp.out Hi.out).mono ?_; rintro e w2 ⟨rfl, hi2⟩; have Hi2 := Lib.hid hi2; clear hi2))
        go_roundw
        case rel => exact ⟨n + 1, by omega, by go_num, by rw [Hs2.out]; exact Hi2.out⟩
        case measure => simp [intOf]; omega
    · have hjn : j = m := by omega
      subst hjn
      go_wp2_with fail
      go_end0
      exact ⟨rfl, by have := Hi.out; rw [Hall.out.1] at this; exact this⟩
theorem sEach_c {w : World} {B b k : Nat} {L : Al} {d : Bool} (wf : Sl.Wf k L) (h : Rp w B b k L d) (fid g : Nat) (Inv : Nat → World → Prop)
    (he : ∀ args w, (callFunc fid args).run Try.prog w = .ok (.enter fid args) w) (h0 : Inv 0 w) (hkeep : ∀ j wr, Inv j wr → Below B w wr)
    (H : ∀ j p wr, L[j]? = some p → Inv j wr → Calls Try.prog fid #[.int .i64 (p.1 : Int), (Value.pointer (p.2)), .pointer (some ⟨g, 0, none⟩)] wr fun e w' => e = .returned (.tuple #[]) ∧ Inv (j + 1) w') :
    Calls Try.prog 55 #[.pointer (some ⟨b, 0, none⟩), .func (.func fid) #[] #[.pointer (some ⟨g, 0, none⟩)]] w fun e w' => e = .returned (.tuple #[]) ∧ Inv L.length w' := by
  cases d
  · exact sEach_sp wf h fid g Inv he h0 hkeep H
  · exact sEach_de wf h fid g Inv he h0 hkeep H
end Go.Proofs.Ytgplbbmenmbaaaa.Sn
