import Derived.Test.YtpgkfccfabnjdaaM01
import Derived.Test.YtpgkfccfabnjdaaMLen
/-
  CONTRACTS of package zbits (the program's code): each call returns what the plain functions of 'Zm' say.
-/
namespace Go.Proofs.Ytpgkfccfabnjdaa
open Go.ChangeShapes Go.WideShapes Go.ChangeAt Go.RowKit

theorem and_one (x : Nat) (hx : x < 18446744073709551616) : bits .and .u64 (x : Int) 1 = ((x % 2 : Nat) : Int) := by
  have h := bits_and_u64_nat x 1 hx (by omega)
  rw [Nat.and_one_is_mod] at h
  exact h
theorem or_i64 (a b : Nat) (ha : a < 9223372036854775808) (hb : b < 9223372036854775808) : bits .or .i64 (a : Int) (b : Int) = ((a ||| b : Nat) : Int) := by
  have hx : a ||| b < 2 ^ 63 := Nat.or_lt_two_pow (by omega) (by omega)
  have h1 : (BitVec.ofInt 64 (a : Int)).toNat = a := by
    rw [BitVec.ofInt_natCast, BitVec.toNat_ofNat]; exact Nat.mod_eq_of_lt (by omega)
  have h2 : (BitVec.ofInt 64 (b : Int)).toNat = b := by
    rw [BitVec.ofInt_natCast, BitVec.toNat_ofNat]; exact Nat.mod_eq_of_lt (by omega)
  show IntKind.i64.wrap ((BitVec.ofInt 64 (a : Int) ||| BitVec.ofInt 64 (b : Int)).toNat : Int) = _
  rw [BitVec.toNat_or, h1, h2, IntKind.wrap_i64]
  omega
theorem shr_cast (u l : Nat) : (u : Int) / 2 ^ l = ((u / 2 ^ l : Nat) : Int) := by simp
theorem bit_and (u l : Nat) (hu : u < 18446744073709551616) : bits .and .u64 ((u : Int) / 2 ^ l) 1 = (Z.bit u l : Int) := by
  rw [shr_cast, and_one _ (Nat.lt_of_le_of_lt (Nat.div_le_self _ _) hu)]; rfl
theorem addr_step (a u l : Nat) (ha : a < 65536) (hu : u < 18446744073709551616) :
    bits .or .i64 ((a : Int) * 2) (wrap64 (bits .and .u64 ((u : Int) / 2 ^ l) 1)) = ((2 * a + Z.bit u l : Nat) : Int) := by
  have hb := Z.bit_lt u l
  rw [bit_and u l hu, IntWalk.wrap64_in _ (by omega), show (a : Int) * 2 = ((2 * a : Nat) : Int) by omega, or_i64 _ _ (by omega) (by omega)]
  congr 1
  have e : 2 * a ||| Z.bit u l = 2 * a + Z.bit u l := by
    have := Nat.two_pow_add_eq_or_of_lt (i := 1) (b := Z.bit u l) (by simpa using hb) a
    simpa using this.symm
  exact e

theorem right_c (A : Option Addr) (n c : Nat) (w : World) (hn : n ≤ maxLen) :
    Calls Try.prog 62 #[.slice A n c] w fun e w' => e = .returned (.bool (decide (1 ≤ n ∧ n ≤ 16))) ∧ w = w' := by
  unfold maxLen at hn
  go_enter Try.func62, Try.ntmps62
  go_wp2
  all_goals go_ret
  all_goals refine ⟨ret_bool ?_, rfl⟩
  all_goals rw [Bool.eq_iff_iff]
  all_goals simp
  all_goals omega
theorem right_yes (A : Option Addr) (n c : Nat) (w : World) (h1 : 1 ≤ n) (h16 : n ≤ 16) :
    Calls Try.prog 62 #[.slice A n c] w fun e w' => e = .returned (.bool true) ∧ w = w' :=
  (right_c A n c w (by unfold maxLen; omega)).mono fun _ _ ⟨he, hw⟩ => ⟨by rw [he, decide_eq_true ⟨h1, h16⟩], hw⟩
theorem right_no (A : Option Addr) (n c : Nat) (w : World) (hn : n ≤ maxLen) (h : ¬ (1 ≤ n ∧ n ≤ 16)) :
    Calls Try.prog 62 #[.slice A n c] w fun e w' => e = .returned (.bool false) ∧ w = w' :=
  (right_c A n c w hn).mono fun _ _ ⟨he, hw⟩ => ⟨by rw [he, decide_eq_false h], hw⟩

theorem addrAt_c (A : Option Addr) (c : Nat) (us : List Nat) (l B : Nat) (w : World) (hp : Pts w B A us) (h1 : 1 ≤ us.length) (h16 : us.length ≤ 16) (hl : l ≤ 63) :
    Calls Try.prog 61 #[.slice A us.length c, .int .i64 (l : Int)] w fun e w' => e = .returned (.int .i64 (Z.addr us l : Int)) ∧ w = w' := by
  obtain ⟨b, off, rfl, hb, hc⟩ := hp.open_ (by intro h; simp [h] at h1)
  have hok := hp.ok
  clear hp
  go_enter Try.func61, Try.ntmps61
  go_wp2
  go_loop [5, 7, 10] (fun a _ i => ∃ k : Nat, k ≤ us.length ∧ i = .int .i64 k ∧ a = .int .i64 (Z.addr (us.take k) l : Int)) (fun _ _ i => us.length - (intOf i).toNat)
  case atStart => exact ⟨0, Nat.zero_le _, rfl, rfl⟩
  case round =>
    obtain ⟨k, hk, rfl, rfl⟩ := hrel
    have hbd := Z.addr_le (us.take k) l 16 (by simp; omega)
    by_cases hlt : k < us.length
    · obtain ⟨u, hu⟩ := get_lt hlt
      have hcell := hc k u hu
      have hu64 := hok u (List.mem_of_getElem? hu)
      have hst : Hid (bits .or .i64 ((Z.addr (us.take k) l : Int) * 2) (wrap64 (bits .and .u64 ((u : Int) / 2 ^ l) 1)) = (Z.addr (us.take (k + 1)) l : Int)) := by
        show _ = _
        rw [addr_step _ _ _ (by omega) hu64, Z.addr_take us l k hlt]
        rw [(List.getElem?_eq_some_iff.1 hu).2]
      clear hc hu hok
      go_wp2
      go_round
      case rel => exact ⟨k + 1, by omega, by go_num, by rw [hst.out]⟩
      case measure => simp [intOf]; omega
    · go_wp2
      go_ret
      exact ⟨ret_int (by rw [List.take_of_length_le (by omega)]), rfl⟩


theorem xor_step (x u v : Nat) (hx : x < 18446744073709551616) (hu : u < 18446744073709551616) (hv : v < 18446744073709551616) :
    bits .or .u64 (x : Int) (bits .xor .u64 (u : Int) (v : Int)) = ((x ||| (u ^^^ v) : Nat) : Int) := by
  rw [bits_xor_u64_nat u v hu hv]
  have h : u ^^^ v < 2 ^ 64 := Nat.xor_lt_two_pow (by omega) (by omega)
  exact bits_or_u64_nat x _ hx (by omega)

theorem partLevel_c (A A' : Option Addr) (c c' : Nat) (us vs : List Nat) (B : Nat) (w : World) (hp : Pts w B A us) (hq : Pts w B A' vs) (h1 : 1 ≤ us.length) (h16 : us.length ≤ 16) (hlen : us.length = vs.length) :
    Calls Try.prog 60 #[.slice A us.length c, .slice A' vs.length c'] w fun e w' => e = .returned (.int .i64 (Z.part us vs)) ∧ w = w' := by
  obtain ⟨b, off, rfl, hb, hc⟩ := hp.open_ (by intro h; simp [h] at h1)
  obtain ⟨b', off', rfl, hb', hc'⟩ := hq.open_ (by rintro rfl; simp at hlen; simp [hlen] at h1)
  have hok := hp.ok
  have hok' := hq.ok
  have h2 : vs.length ≤ 16 := by omega
  have Hlen := Lib.hid hlen
  clear hp hq hlen
  go_enter Try.func60, Try.ntmps60
  go_wp2
  go_loop [5, 6, 7, 10] (fun a _ _ i => ∃ k : Nat, k ≤ us.length ∧ i = .int .i64 k ∧ a = .int .u64 (Z.orx (us.take k) (vs.take k) : Int)) (fun _ _ _ i => us.length - (intOf i).toNat)
  case atStart => exact ⟨0, Nat.zero_le _, rfl, rfl⟩
  case round =>
    obtain ⟨k, hk, rfl, rfl⟩ := hrel
    by_cases hlt : k < us.length
    · have hlt' : k < vs.length := by have := Hlen.out; omega
      obtain ⟨u, hu⟩ := get_lt hlt
      obtain ⟨v, hv⟩ := get_lt hlt'
      have hcell := hc k u hu
      have hcell' := hc' k v hv
      have hst : Hid (bits .or .u64 (Z.orx (us.take k) (vs.take k) : Int) (bits .xor .u64 (u : Int) (v : Int)) = (Z.orx (us.take (k + 1)) (vs.take (k + 1)) : Int)) := by
        show _ = _
        have hb1 : Z.orx (us.take k) (vs.take k) < 18446744073709551616 := Z.orx_lt (fun x hx => hok x (List.mem_of_mem_take hx)) (fun x hx => hok' x (List.mem_of_mem_take hx))
        rw [xor_step _ _ _ hb1 (hok u (List.mem_of_getElem? hu)) (hok' v (List.mem_of_getElem? hv)), Z.orx_take us vs Hlen.out k hlt hlt', (List.getElem?_eq_some_iff.1 hu).2, (List.getElem?_eq_some_iff.1 hv).2]
      clear hc hu hok hc' hv hok'
      go_wp2
      go_round
      case rel => exact ⟨k + 1, by omega, by go_num, by rw [hst.out]⟩
      case measure => simp [intOf]; omega
    · have hx := Z.orx_lt hok hok'
      have he : Z.orx (us.take k) (vs.take k) = Z.orx us vs := by
        rw [List.take_of_length_le (by omega), List.take_of_length_le (by have := Hlen.out; omega)]
      have hpt : Z.part us vs = (Lib.bitLen (Z.orx us vs) : Int) - 1 := rfl
      have hbl := Lib.bitLen_le (Z.orx us vs) 64 (by omega) (by omega)
      rw [← he] at hpt hbl hx
      generalize Z.orx (us.take k) (vs.take k) = X at *
      clear he hc hok hc' hok'
      have Hpt := Lib.hid hpt
      clear hpt
      go_wp2_with (go_at_call 77; refine (len64_c _ _ (by omega) (by omega)).mono ?_; rintro e w' ⟨rfl, rfl⟩)
      go_ret
      exact ⟨ret_int (by rw [Hpt.out]), rfl⟩

theorem alike_c (A A' : Option Addr) (n c n' c' : Nat) (w : World) (hn : n ≤ maxLen) (_hn' : n' ≤ maxLen) :
    Calls Try.prog 59 #[.slice A n c, .slice A' n' c'] w fun e w' => e = .returned (.bool (decide ((1 ≤ n ∧ n ≤ 16) ∧ n = n'))) ∧ w = w' := by
  by_cases h : 1 ≤ n ∧ n ≤ 16
  · obtain ⟨h1, h2⟩ := h
    unfold maxLen at hn
    go_enter Try.func59, Try.ntmps59
    go_wp2_with (go_at_call 62; refine (right_yes _ _ _ _ h1 h2).mono ?_; rintro e w' ⟨rfl, rfl⟩)
    all_goals go_ret
    all_goals refine ⟨ret_bool ?_, rfl⟩
    all_goals rw [Bool.eq_iff_iff]
    all_goals simp
    all_goals omega
  · have Hn := Lib.hid hn
    have H := Lib.hid h
    clear h
    unfold maxLen at hn
    go_enter Try.func59, Try.ntmps59
    go_wp2_with (go_at_call 62; refine (right_no _ _ _ _ Hn.out H.out).mono ?_; rintro e w' ⟨rfl, rfl⟩)
    all_goals go_ret
    all_goals refine ⟨ret_bool ?_, rfl⟩
    have := H.out
    rw [Bool.eq_iff_iff]
    simp
    omega
theorem alike_yes (A A' : Option Addr) (n c n' c' : Nat) (w : World) (h1 : 1 ≤ n) (h16 : n ≤ 16) (h : n = n') :
    Calls Try.prog 59 #[.slice A n c, .slice A' n' c'] w fun e w' => e = .returned (.bool true) ∧ w = w' :=
  (alike_c A A' n c n' c' w (by unfold maxLen; omega) (by unfold maxLen; omega)).mono fun _ _ ⟨he, hw⟩ => ⟨by rw [he, decide_eq_true ⟨⟨h1, h16⟩, h⟩], hw⟩
theorem cmp_yes (A A' : Option Addr) (c c' : Nat) (us vs : List Nat) (B : Nat) (w : World) (hp : Pts w B A us) (hq : Pts w B A' vs) (h1 : 1 ≤ us.length) (h16 : us.length ≤ 16) (hlen : us.length = vs.length) :
    Calls Try.prog 44 #[.slice A us.length c, .slice A' vs.length c'] w fun e w' => e = .returned (.tuple #[.int .i64 (Z.cmp us vs), .int .i64 0]) ∧ w = w' := by
  have H := Lib.hid hlen
  have h2 : 1 ≤ vs.length := by omega
  have h26 : vs.length ≤ 16 := by omega
  rcases Z.part_spec hlen hp.ok hq.ok with ⟨e, r⟩ | ⟨l, hl, e, _, _⟩
  · have hfin : Hid (Z.cmp us vs = 0) := by show _ = _; subst r; exact Z.cmp_same us hp.ok
    have He := Lib.hid e
    clear hlen e r
    go_enter Try.func44, Try.ntmps44
    go_wp2_with (first | (go_at_call 59; refine (alike_yes _ _ _ _ _ _ _ h1 h16 H.out).mono ?_; rintro e w' ⟨rfl, rfl⟩) | (go_at_call 60; refine (partLevel_c _ _ _ _ us vs B _ hp hq h1 h16 H.out).mono ?_; rintro e w' ⟨rfl, rfl⟩; rw [He.out]))
    go_ret2
    exact ⟨by rw [hfin.out]; rfl, rfl⟩
  · have hfin := Lib.hid (Z.cmp_at e)
    have He := Lib.hid e
    clear hlen e
    have hl' : l ≤ 63 := by omega
    go_enter Try.func44, Try.ntmps44
    go_wp2_with (first | (go_at_call 59; refine (alike_yes _ _ _ _ _ _ _ h1 h16 H.out).mono ?_; rintro e w' ⟨rfl, rfl⟩) | (go_at_call 60; refine (partLevel_c _ _ _ _ us vs B _ hp hq h1 h16 H.out).mono ?_; rintro e w' ⟨rfl, rfl⟩; rw [He.out]) | (go_at_call 61; with_reducible (refine (addrAt_c _ _ us l B _ hp h1 h16 hl').mono ?_); rintro e w' ⟨rfl, rfl⟩) | (go_at_call 61; with_reducible (refine (addrAt_c _ _ vs l B _ hq h2 h26 hl').mono ?_); rintro e w' ⟨rfl, rfl⟩))
    all_goals go_ret2
    all_goals refine ⟨?_, rfl⟩
    all_goals rw [hfin.out]
    all_goals first | (rw [if_pos (by assumption)]; rfl) | (rw [if_neg (by assumption)]; rfl)

/-! ### Addr -/
/-! ### Cut -/
/-! ### Cut -/
end Go.Proofs.Ytpgkfccfabnjdaa

/-
  CONTRACTS of package pantileref01 (the document's answers for layer 1): each call returns what the plain functions of 'Zm' say.
-/
namespace Go.Proofs.Ytpgkfccfabnjdaa
open Go.ChangeShapes Go.WideShapes Go.ChangeAt Go.RowKit

theorem rbit_c (u l : Nat) (w : World) (_hu : u < 18446744073709551616) (hl : l ≤ 63) :
    Calls Try.prog 57 #[.int .u64 (u : Int), .int .i64 (l : Int)] w fun e w' => e = .returned (.int .i64 (Z.bit u l : Int)) ∧ w = w' := by
  have hb := Z.bit_lt u l
  have hfin : Hid (wrap64 (((u : Int) / 2 ^ l).tmod 2) = (Z.bit u l : Int)) := by
    show _ = _
    rw [show (u : Int) / 2 ^ l = ((u / 2 ^ l : Nat) : Int) by simp, Int.tmod_eq_emod_of_nonneg (Int.natCast_nonneg _), show ((u / 2 ^ l : Nat) : Int) % 2 = (Z.bit u l : Int) by unfold Z.bit; simp]
    exact IntWalk.wrap64_in _ (by omega)
  go_enter Try.func57, Try.ntmps57
  go_wp2
  go_ret
  exact ⟨ret_int (by rw [hfin.out]), rfl⟩

theorem raddr_c (A : Option Addr) (c : Nat) (us : List Nat) (l B : Nat) (w : World) (hp : Pts w B A us) (h1 : 1 ≤ us.length) (h16 : us.length ≤ 16) (hl : l ≤ 63) :
    Calls Try.prog 39 #[.slice A us.length c, .int .i64 (l : Int)] w fun e w' => e = .returned (.int .i64 (Z.addr us l : Int)) ∧ w = w' := by
  obtain ⟨b, off, rfl, hb, hc⟩ := hp.open_ (by intro h; simp [h] at h1)
  have hok := hp.ok
  clear hp
  go_enter Try.func39, Try.ntmps39
  go_wp2
  go_loop [5, 6] (fun a i => ∃ k : Nat, k ≤ us.length ∧ i = .int .i64 k ∧ a = .int .i64 (Z.addr (us.take k) l : Int)) (fun _ i => us.length - (intOf i).toNat)
  case atStart => exact ⟨0, Nat.zero_le _, rfl, rfl⟩
  case round =>
    obtain ⟨k, hk, rfl, rfl⟩ := hrel
    have hbd := Z.addr_le (us.take k) l 16 (by simp; omega)
    by_cases hlt : k < us.length
    · obtain ⟨u, hu⟩ := get_lt hlt
      have hcell := hc k u hu
      have hu64 := hok u (List.mem_of_getElem? hu)
      have hbit := Z.bit_lt u l
      have hst : Hid (2 * (Z.addr (us.take k) l : Int) + (Z.bit u l : Int) = (Z.addr (us.take (k + 1)) l : Int)) := by
        show _ = _
        rw [Z.addr_take us l k hlt, (List.getElem?_eq_some_iff.1 hu).2]
        simp
      clear hc hu hok
      go_wp2_with (go_at_call 57; refine (rbit_c u l _ hu64 hl).mono ?_; rintro e w' ⟨rfl, rfl⟩)
      go_round
      case rel => exact ⟨k + 1, by omega, by go_num, by rw [hst.out]⟩
      case measure => simp [intOf]; omega
    · go_wp2
      go_ret
      exact ⟨ret_int (by rw [List.take_of_length_le (by omega)]), rfl⟩

theorem rpart_c (A A' : Option Addr) (c c' : Nat) (us vs : List Nat) (B : Nat) (w : World) (hp : Pts w B A us) (hq : Pts w B A' vs) (h1 : 1 ≤ us.length) (h16 : us.length ≤ 16) (hlen : us.length = vs.length) :
    Calls Try.prog 38 #[.slice A us.length c, .slice A' vs.length c'] w fun e w' => e = .returned (.int .i64 (Z.part us vs)) ∧ w = w' := by
  have h2 : 1 ≤ vs.length := by omega
  have h26 : vs.length ≤ 16 := by omega
  have Hlen := Lib.hid hlen
  clear hlen
  go_enter Try.func38, Try.ntmps38
  go_wp2
  go_loop [5] (fun i => ∃ k : Nat, k ≤ 64 ∧ i = .int .i64 ((k : Int) - 1) ∧ ∀ m, k ≤ m → Z.addr us m = Z.addr vs m) (fun i => (intOf i + 1).toNat)
  case atStart => exact ⟨64, by omega, rfl, fun m hm => by rw [Z.addr_high hp.ok m hm, Z.addr_high hq.ok m hm]⟩
  case round =>
    obtain ⟨k, hk, rfl, hsame⟩ := hrel
    have Hs := Lib.hid hsame
    clear hsame
    by_cases h0 : k = 0
    · have hfin : Hid (Z.part us vs = -1) := by
        show _ = _
        subst h0
        have e := Z.points_eq Hlen.out hp.ok hq.ok (fun l _ => Hs.out l (Nat.zero_le _))
        subst e
        exact Z.part_same us hp.ok
      subst h0
      go_wp2
      go_ret
      exact ⟨ret_int (by rw [hfin.out]), rfl⟩
    · obtain ⟨j, rfl⟩ : ∃ j, k = j + 1 := ⟨k - 1, by omega⟩
      clear h0
      rw [show (((j + 1 : Nat) : Int) - 1) = (j : Int) by omega]
      by_cases hd : Z.addr us j = Z.addr vs j
      · have Hd := Lib.hid hd
        have hb : ((Z.addr us j : Int) != (Z.addr vs j : Int)) = false := by rw [hd]; simp
        clear hd
        go_wp2_with (first | (go_at_call 39; with_reducible (refine (raddr_c _ _ us j B _ hp h1 h16 (by omega)).mono ?_); rintro e w' ⟨rfl, rfl⟩) | (go_at_call 39; with_reducible (refine (raddr_c _ _ vs j B _ hq h2 h26 (by omega)).mono ?_); rintro e w' ⟨rfl, rfl⟩))
        go_round
        case rel => exact ⟨j, by omega, rfl, fun m hm => by
          rcases Nat.eq_or_lt_of_le hm with e | e
          · rw [← e]; exact Hd.out
          · exact Hs.out m (by omega)⟩
        case measure => simp [intOf]
      · have hfin : Hid (Z.part us vs = (j : Int)) := Lib.hid (Z.part_eq Hlen.out hp.ok hq.ok j hd (fun m hm _ => Hs.out m (by omega)))
        have hb : ((Z.addr us j : Int) != (Z.addr vs j : Int)) = true := by rw [bne_iff_ne]; omega
        clear hd
        go_wp2_with (first | (go_at_call 39; with_reducible (refine (raddr_c _ _ us j B _ hp h1 h16 (by omega)).mono ?_); rintro e w' ⟨rfl, rfl⟩) | (go_at_call 39; with_reducible (refine (raddr_c _ _ vs j B _ hq h2 h26 (by omega)).mono ?_); rintro e w' ⟨rfl, rfl⟩))
        go_ret
        exact ⟨ret_int (by rw [hfin.out]), rfl⟩

theorem rcmp_c (A A' : Option Addr) (c c' : Nat) (us vs : List Nat) (B : Nat) (w : World) (hp : Pts w B A us) (hq : Pts w B A' vs) (h1 : 1 ≤ us.length) (h16 : us.length ≤ 16) (hlen : us.length = vs.length) :
    Calls Try.prog 22 #[.slice A us.length c, .slice A' vs.length c'] w fun e w' => e = .returned (.int .i64 (Z.cmp us vs)) ∧ w = w' := by
  have H := Lib.hid hlen
  have h2 : 1 ≤ vs.length := by omega
  have h26 : vs.length ≤ 16 := by omega
  rcases Z.part_spec hlen hp.ok hq.ok with ⟨e, r⟩ | ⟨l, hl, e, _, _⟩
  · have hfin : Hid (Z.cmp us vs = 0) := by show _ = _; subst r; exact Z.cmp_same us hp.ok
    have He := Lib.hid e
    clear hlen e r
    go_enter Try.func22, Try.ntmps22
    go_wp2_with (go_at_call 38; refine (rpart_c _ _ _ _ us vs B _ hp hq h1 h16 H.out).mono ?_; rintro e w' ⟨rfl, rfl⟩; rw [He.out])
    go_ret
    exact ⟨by rw [hfin.out]; rfl, rfl⟩
  · have hfin := Lib.hid (Z.cmp_at e)
    have He := Lib.hid e
    clear hlen e
    have hl' : l ≤ 63 := by omega
    go_enter Try.func22, Try.ntmps22
    go_wp2_with (first | (go_at_call 38; refine (rpart_c _ _ _ _ us vs B _ hp hq h1 h16 H.out).mono ?_; rintro e w' ⟨rfl, rfl⟩; rw [He.out]) | (go_at_call 39; with_reducible (refine (raddr_c _ _ us l B _ hp h1 h16 hl').mono ?_); rintro e w' ⟨rfl, rfl⟩) | (go_at_call 39; with_reducible (refine (raddr_c _ _ vs l B _ hq h2 h26 hl').mono ?_); rintro e w' ⟨rfl, rfl⟩))
    all_goals go_ret
    all_goals refine ⟨?_, rfl⟩
    all_goals rw [hfin.out]
    all_goals first | (rw [if_pos (by assumption)]; rfl) | (rw [if_neg (by assumption)]; rfl)

/-! ### Same -/
theorem rsame_len (A A' : Option Addr) (n c n' c' : Nat) (w : World) (hn : n ≠ n') :
    Calls Try.prog 28 #[.slice A n c, .slice A' n' c'] w fun e w' => e = .returned (.bool false) ∧ Below w.heap.size w w' := by
  have hb : ((n : Int) != (n' : Int)) = true := by rw [bne_iff_ne]; omega
  go_enter Try.func28, Try.ntmps28
  go_wp2
  go_ret
  exact ⟨rfl, Below.refl _ _⟩
theorem rsame_c (A A' : Option Addr) (c c' : Nat) (us vs : List Nat) (B : Nat) (w : World) (hp : Pts w B A us) (hq : Pts w B A' vs) (hB : B ≤ w.heap.size) (hm : us.length ≤ maxLen) :
    Calls Try.prog 28 #[.slice A us.length c, .slice A' vs.length c'] w fun e w' => e = .returned (.bool (decide (us = vs))) ∧ Below w.heap.size w w' := by
  by_cases hlen : us.length = vs.length
  case neg =>
    refine (rsame_len A A' _ c _ c' w hlen).mono fun e w' ⟨he, hw⟩ => ⟨?_, hw⟩
    rw [he, decide_eq_false (by rintro rfl; exact hlen rfl)]
  have hb : ((us.length : Int) != (vs.length : Int)) = false := by rw [hlen]; simp
  unfold maxLen at hm
  by_cases hn : us = []
  · subst hn
    obtain rfl : vs = [] := List.eq_nil_of_length_eq_zero (by simpa using hlen.symm)
    clear hlen hb
    go_enter Try.func28, Try.ntmps28
    go_wp2
    refine wp_loop_rounds 1 ?_
    rw [rounds_succ]
    go_wp2
    go_ret
    exact ⟨rfl, Below.refl _ _⟩
  obtain ⟨b, off, rfl, hb1, hc⟩ := hp.open_ hn
  obtain ⟨b', off', rfl, hb2, hc'⟩ := hq.open_ (by rintro rfl; simp at hlen; exact hn hlen)
  have hok := hp.ok
  have hok' := hq.ok
  have Hlen := Lib.hid hlen
  clear hp hq hlen hn
  go_enter Try.func28, Try.ntmps28
  go_wp2
  go_loopw [5] (fun i wr => ∃ k : Nat, k ≤ us.length ∧ i = .int .i64 k ∧ us.take k = vs.take k ∧ Below w.heap.size w wr) (fun i _ => us.length - (intOf i).toNat)
  case atStart => exact ⟨0, Nat.zero_le _, rfl, rfl, Below.refl _ _⟩
  case round =>
    obtain ⟨k, hk, rfl, htake, hbw⟩ := hrel
    have Htake := Lib.hid htake
    clear htake
    by_cases hlt : k < us.length
    · have hlt' : k < vs.length := by have := Hlen.out; omega
      obtain ⟨u, hu⟩ := get_lt hlt
      obtain ⟨v, hv⟩ := get_lt hlt'
      have hcell := (hbw.cell (p := ⟨b, off + k, none⟩) (Nat.lt_of_lt_of_le hb1 hB)).trans (hc k u hu)
      have hcell' := (hbw.cell (p := ⟨b', off' + k, none⟩) (Nat.lt_of_lt_of_le hb2 hB)).trans (hc' k v hv)
      have Hu := Lib.hid hu
      have Hv := Lib.hid hv
      clear hc hu hok hc' hv hok'
      by_cases huv : u = v
      · have hd : ((u : Int) != (v : Int)) = false := by rw [huv]; simp
        have Huv := Lib.hid huv
        clear huv
        go_wp2
        go_region
        all_goals go_wp2
        all_goals go_roundw
        case rel =>
          refine ⟨k + 1, by omega, by go_num, ?_, hbw.drew⟩
          rw [Z.take_snoc us k hlt, Z.take_snoc vs k hlt', Htake.out, (List.getElem?_eq_some_iff.1 Hu.out).2, (List.getElem?_eq_some_iff.1 Hv.out).2, Huv.out]
        case measure => simp [intOf]; omega
      · have hd : ((u : Int) != (v : Int)) = true := by rw [bne_iff_ne]; omega
        have hfin : Hid (decide (us = vs) = false) := by
          refine decide_eq_false ?_
          rintro rfl
          have h1 := Hu.out
          rw [Hv.out] at h1
          injection h1 with h1
          exact huv h1.symm
        clear huv
        go_wp2
        go_region
        all_goals go_wp2
        all_goals go_ret
        all_goals exact ⟨by rw [hfin.out]; rfl, hbw.drew⟩
    · have hfin : Hid (decide (us = vs) = true) := by
        refine decide_eq_true ?_
        have h := Htake.out
        rwa [List.take_of_length_le (by omega), List.take_of_length_le (by have := Hlen.out; omega)] at h
      clear hc hok hc' hok'
      go_wp2
      go_ret
      exact ⟨by rw [hfin.out]; rfl, hbw⟩


/-! ### Cut -/
end Go.Proofs.Ytpgkfccfabnjdaa
