/-
  CONTRACTS of package pantileref01 (the document's answers for layer 1): each call returns what the plain functions of 'Zm' say.
-/
import Derived.Test.YtdejnkihofhjoaaDoorBase
namespace Go.Proofs.YtdejnkihofhjoaaDoor
open Go.ChangeShapes Go.WideShapes Go.ChangeAt Go.RowKit

/-! ### Same -/
theorem rsame_len (A A' : Option Addr) (n c n' c' : Nat) (w : World) (hn : n ≠ n') :
    Calls Tryd.prog 31 #[.slice A n c, .slice A' n' c'] w fun e w' => e = .returned (.bool false) ∧ Below w.heap.size w w' := by
  have hb : ((n : Int) != (n' : Int)) = true := by rw [bne_iff_ne]; omega
  go_enter Tryd.func31, Tryd.ntmps31
  go_wp2
  go_ret
  exact ⟨rfl, Below.refl _ _⟩
theorem rsame_c (A A' : Option Addr) (c c' : Nat) (us vs : List Nat) (B : Nat) (w : World) (hp : Pts w B A us) (hq : Pts w B A' vs) (hB : B ≤ w.heap.size) (hm : us.length ≤ maxLen) :
    Calls Tryd.prog 31 #[.slice A us.length c, .slice A' vs.length c'] w fun e w' => e = .returned (.bool (decide (us = vs))) ∧ Below w.heap.size w w' := by
  by_cases hlen : us.length = vs.length
  case neg =>
    refine (rsame_len A A' _ c _ c' w hlen).mono fun e w' ⟨he, hw⟩ => ⟨?_, hw⟩
    rw [he, decide_eq_false (by rintro rfl; exact hlen rfl)]
  have hb : ((us.length : Int) != (vs.length : Int)) = false := by rw [hlen]; simp
  unfold maxLen at hm
  by_cases hn : us = []
  · subst hn
    obtain rfl : vs = [] := List.eq_nil_of_length_eq_zero (by simpa using hlen.symm)
    clear hlen hb
    go_enter Tryd.func31, Tryd.ntmps31
    go_wp2
    refine wp_loop_rounds 1 ?_
    rw [rounds_succ]
    go_wp2
    go_ret
    exact ⟨rfl, Below.refl _ _⟩
  obtain ⟨b, off, rfl, hb1, hc⟩ := hp.open_ hn
  obtain ⟨b', off', rfl, hb2, hc'⟩ := hq.open_ (by rintro rfl; simp at hlen; exact hn hlen)
  have hok := hp.ok
  have hok' := hq.ok
  have Hlen := Lib.hid hlen
  clear hp hq hlen hn
  go_enter Tryd.func31, Tryd.ntmps31
  go_wp2
  go_loopw [5] (fun i wr => ∃ k : Nat, k ≤ us.length ∧ i = .int .i64 k ∧ us.take k = vs.take k ∧ Below w.heap.size w wr) (fun i _ => us.length - (intOf i).toNat)
  case atStart => exact ⟨0, Nat.zero_le _, rfl, rfl, Below.refl _ _⟩
  case round =>
    obtain ⟨k, hk, rfl, htake, hbw⟩ := hrel
    have Htake := Lib.hid htake
    clear htake
    by_cases hlt : k < us.length
    · have hlt' : k < vs.length := by have := Hlen.out; omega
      obtain ⟨u, hu⟩ := get_lt hlt
      obtain ⟨v, hv⟩ := get_lt hlt'
      have hcell := (hbw.cell (p := ⟨b, off + k, none⟩) (Nat.lt_of_lt_of_le hb1 hB)).trans (hc k u hu)
      have hcell' := (hbw.cell (p := ⟨b', off' + k, none⟩) (Nat.lt_of_lt_of_le hb2 hB)).trans (hc' k v hv)
      have Hu := Lib.hid hu
      have Hv := Lib.hid hv
      clear hc hu hok hc' hv hok'
      by_cases huv : u = v
      · have hd : ((u : Int) != (v : Int)) = false := by rw [huv]; simp
        have Huv := Lib.hid huv
        clear huv
        go_wp2
        go_region
        all_goals go_wp2
        all_goals go_roundw
        case rel =>
          refine ⟨k + 1, by omega, by go_num, ?_, hbw.drew⟩
          rw [Z.take_snoc us k hlt, Z.take_snoc vs k hlt', Htake.out, (List.getElem?_eq_some_iff.1 Hu.out).2, (List.getElem?_eq_some_iff.1 Hv.out).2, Huv.out]
        case measure => simp [intOf]; omega
      · have hd : ((u : Int) != (v : Int)) = true := by rw [bne_iff_ne]; omega
        have hfin : Hid (decide (us = vs) = false) := by
          refine decide_eq_false ?_
          rintro rfl
          have h1 := Hu.out
          rw [Hv.out] at h1
          injection h1 with h1
          exact huv h1.symm
        clear huv
        go_wp2
        go_region
        all_goals go_wp2
        all_goals go_ret
        all_goals exact ⟨by rw [hfin.out]; rfl, hbw.drew⟩
    · have hfin : Hid (decide (us = vs) = true) := by
        refine decide_eq_true ?_
        have h := Htake.out
        rwa [List.take_of_length_le (by omega), List.take_of_length_le (by have := Hlen.out; omega)] at h
      clear hc hok hc' hok'
      go_wp2
      go_ret
      exact ⟨by rw [hfin.out]; rfl, hbw⟩


/-! ### Cut -/
/-- the bits from k on, summed up -/
def bitSum (u : Nat) (l : Nat) : Nat → Nat
  | 0 => 0
  | n + 1 => bitSum u l n + Z.bit u (l + n) * 2 ^ (l + n)
theorem bitSum_cut (u l : Nat) : ∀ n, bitSum u l n + Z.cutN u (l + n) = Z.cutN u l
  | 0 => by simp [bitSum]
  | n + 1 => by
    have h := bitSum_cut u l n
    have s := Z.cutN_succ u (l + n)
    simp only [bitSum]
    rw [show l + (n + 1) = l + n + 1 by omega]
    omega
theorem bitSum_le (u l n : Nat) : bitSum u l n ≤ u := by
  have h := bitSum_cut u l n
  have := Z.cutN_le u l
  omega
theorem bitSum_all (u l n : Nat) (hu : u < 18446744073709551616) (h : 64 ≤ l + n) : bitSum u l n = Z.cutN u l := by
  have h1 := bitSum_cut u l n
  rw [Z.cutN_high u (l + n) (Nat.lt_of_lt_of_le hu (by have := Nat.pow_le_pow_right (n := 2) (by omega) h; omega))] at h1
  omega
theorem sum_step (u l n : Nat) (hu : u < 18446744073709551616) :
    IntKind.u64.wrap ((bitSum u l n : Int) + IntKind.u64.wrap ((Z.bit u (l + n) : Int) * 2 ^ (l + n))) = (bitSum u l (n + 1) : Int) := by
  have h1 := bitSum_le u l (n + 1)
  have e0 : bitSum u l (n + 1) = bitSum u l n + Z.bit u (l + n) * 2 ^ (l + n) := rfl
  rw [show (Z.bit u (l + n) : Int) * 2 ^ (l + n) = ((Z.bit u (l + n) * 2 ^ (l + n) : Nat) : Int) by simp]
  have e1 : IntKind.u64.wrap ((Z.bit u (l + n) * 2 ^ (l + n) : Nat) : Int) = ((Z.bit u (l + n) * 2 ^ (l + n) : Nat) : Int) := IntWalk.u64_in _ ⟨Int.natCast_nonneg _, by omega⟩
  rw [e1, IntWalk.u64_in _ ⟨by omega, by omega⟩, e0]
  omega

theorem rplace_bits (u a l : Nat) (hu : u < 18446744073709551616) (hl : l ≤ 63) :
    IntKind.u64.wrap ((Z.cutN u (l + 1) : Int) + IntKind.u64.wrap ((a : Int) % 2 * 2 ^ l)) = ((Z.cutN u (l + 1) + a % 2 * 2 ^ l : Nat) : Int) := by
  have hb : a % 2 < 2 := Nat.mod_lt _ (by omega)
  have hlt := Z.placeN_lt u l _ hu (by omega) hb
  rw [show (a : Int) % 2 = ((a % 2 : Nat) : Int) by simp]
  generalize a % 2 = d at *
  rw [show (d : Int) * 2 ^ l = ((d * 2 ^ l : Nat) : Int) by simp]
  have e2 : IntKind.u64.wrap ((d * 2 ^ l : Nat) : Int) = ((d * 2 ^ l : Nat) : Int) := IntWalk.u64_in _ ⟨Int.natCast_nonneg _, by omega⟩
  rw [e2, IntWalk.u64_in _ ⟨by omega, by omega⟩]
  omega
end Go.Proofs.YtdejnkihofhjoaaDoor
