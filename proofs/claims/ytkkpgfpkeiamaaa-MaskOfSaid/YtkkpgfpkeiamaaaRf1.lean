/-
  CONTRACTS of package pantileref01 (the document's answers for layer 1): each call returns what the plain functions of 'Zm' say.
-/
import Derived.Test.YtkkpgfpkeiamaaaBase
namespace Go.Proofs.Ytkkpgfpkeiamaaa
open Go.ChangeShapes Go.WideShapes Go.ChangeAt Go.RowKit

theorem rright_c (A : Option Addr) (n c : Nat) (w : World) (hn : n ≤ maxLen) :
    Calls Try.prog 36 #[.slice A n c] w fun e w' => e = .returned (.bool (decide (1 ≤ n ∧ n ≤ 16))) ∧ w = w' := by
  unfold maxLen at hn
  go_enter Try.func36, Try.ntmps36
  go_wp2
  all_goals go_ret
  all_goals refine ⟨ret_bool ?_, rfl⟩
  all_goals rw [Bool.eq_iff_iff]
  all_goals simp
  all_goals omega
theorem rright_yes (A : Option Addr) (n c : Nat) (w : World) (h1 : 1 ≤ n) (h16 : n ≤ 16) :
    Calls Try.prog 36 #[.slice A n c] w fun e w' => e = .returned (.bool true) ∧ w = w' :=
  (rright_c A n c w (by unfold maxLen; omega)).mono fun _ _ ⟨he, hw⟩ => ⟨by rw [he, decide_eq_true ⟨h1, h16⟩], hw⟩
theorem rright_no (A : Option Addr) (n c : Nat) (w : World) (hn : n ≤ maxLen) (h : ¬ (1 ≤ n ∧ n ≤ 16)) :
    Calls Try.prog 36 #[.slice A n c] w fun e w' => e = .returned (.bool false) ∧ w = w' :=
  (rright_c A n c w hn).mono fun _ _ ⟨he, hw⟩ => ⟨by rw [he, decide_eq_false h], hw⟩

theorem rbit_c (u l : Nat) (w : World) (_hu : u < 18446744073709551616) (hl : l ≤ 63) :
    Calls Try.prog 39 #[.int .u64 (u : Int), .int .i64 (l : Int)] w fun e w' => e = .returned (.int .i64 (Z.bit u l : Int)) ∧ w = w' := by
  have hb := Z.bit_lt u l
  have hfin : Hid (wrap64 (((u : Int) / 2 ^ l).tmod 2) = (Z.bit u l : Int)) := by
    show _ = _
    rw [show (u : Int) / 2 ^ l = ((u / 2 ^ l : Nat) : Int) by simp, Int.tmod_eq_emod_of_nonneg (Int.natCast_nonneg _), show ((u / 2 ^ l : Nat) : Int) % 2 = (Z.bit u l : Int) by unfold Z.bit; simp]
    exact IntWalk.wrap64_in _ (by omega)
  go_enter Try.func39, Try.ntmps39
  go_wp2
  go_ret
  exact ⟨ret_int (by rw [hfin.out]), rfl⟩

theorem rpower_c (n : Nat) (w : World) (hn : n ≤ 40) :
    Calls Try.prog 21 #[.int .i64 (n : Int)] w fun e w' => e = .returned (.int .u64 ((2 ^ n : Nat) : Int)) ∧ w = w' := by
  go_enter Try.func21, Try.ntmps21
  go_wp2
  go_loop [3, 4] (fun a i => ∃ k : Nat, k ≤ n ∧ i = .int .i64 k ∧ a = .int .u64 ((2 ^ k : Nat) : Int)) (fun _ i => n - (intOf i).toNat)
  case atStart => exact ⟨0, Nat.zero_le _, rfl, rfl⟩
  case round =>
    obtain ⟨k, hk, rfl, rfl⟩ := hrel
    have hp : 2 ^ k ≤ 2 ^ 40 := Nat.pow_le_pow_right (by omega) (by omega)
    have hst : Hid (2 * ((2 ^ k : Nat) : Int) = ((2 ^ (k + 1) : Nat) : Int)) := by
      show _ = _
      rw [Nat.pow_succ]; omega
    have hex : Hid (∀ m, m = k → 2 ^ k = 2 ^ m) := Lib.hid (fun m h => by rw [h])
    generalize 2 ^ k = P at *
    by_cases hlt : k < n
    · go_wp2
      go_round
      case rel => exact ⟨k + 1, by omega, by go_num, by rw [hst.out]⟩
      case measure => simp [intOf]; omega
    · go_wp2
      go_ret
      exact ⟨by rw [hex.out n (by omega)]; rfl, rfl⟩

theorem ralike_c (A A' : Option Addr) (n c n' c' : Nat) (w : World) (hn : n ≤ maxLen) :
    Calls Try.prog 28 #[.slice A n c, .slice A' n' c'] w fun e w' => e = .returned (.bool (decide ((1 ≤ n ∧ n ≤ 16) ∧ n = n'))) ∧ w = w' := by
  by_cases h : 1 ≤ n ∧ n ≤ 16
  · obtain ⟨h1, h2⟩ := h
    unfold maxLen at hn
    go_enter Try.func28, Try.ntmps28
    go_wp2_with (go_at_call 36; refine (rright_yes _ _ _ _ h1 h2).mono ?_; rintro e w' ⟨rfl, rfl⟩)
    all_goals go_ret
    all_goals refine ⟨ret_bool ?_, rfl⟩
    all_goals rw [Bool.eq_iff_iff]
    all_goals simp
    all_goals omega
  · have Hn := Lib.hid hn
    have H := Lib.hid h
    clear h
    unfold maxLen at hn
    go_enter Try.func28, Try.ntmps28
    go_wp2_with (go_at_call 36; refine (rright_no _ _ _ _ Hn.out H.out).mono ?_; rintro e w' ⟨rfl, rfl⟩)
    all_goals go_ret
    all_goals refine ⟨ret_bool ?_, rfl⟩
    have := H.out
    rw [Bool.eq_iff_iff]
    simp
    omega
theorem ralike_yes (A A' : Option Addr) (n c n' c' : Nat) (w : World) (h1 : 1 ≤ n) (h16 : n ≤ 16) (h : n = n') :
    Calls Try.prog 28 #[.slice A n c, .slice A' n' c'] w fun e w' => e = .returned (.bool true) ∧ w = w' :=
  (ralike_c A A' n c n' c' w (by unfold maxLen; omega)).mono fun _ _ ⟨he, hw⟩ => ⟨by rw [he, decide_eq_true ⟨⟨h1, h16⟩, h⟩], hw⟩
theorem ralike_no (A A' : Option Addr) (n c n' c' : Nat) (w : World) (hn : n ≤ maxLen) (h : ¬ ((1 ≤ n ∧ n ≤ 16) ∧ n = n')) :
    Calls Try.prog 28 #[.slice A n c, .slice A' n' c'] w fun e w' => e = .returned (.bool false) ∧ w = w' :=
  (ralike_c A A' n c n' c' w hn).mono fun _ _ ⟨he, hw⟩ => ⟨by rw [he, decide_eq_false h], hw⟩

/-! ### Same -/
/-! ### Cut -/
/-- the bits from k on, summed up -/
def bitSum (u : Nat) (l : Nat) : Nat → Nat
  | 0 => 0
  | n + 1 => bitSum u l n + Z.bit u (l + n) * 2 ^ (l + n)
theorem bitSum_cut (u l : Nat) : ∀ n, bitSum u l n + Z.cutN u (l + n) = Z.cutN u l
  | 0 => by simp [bitSum]
  | n + 1 => by
    have h := bitSum_cut u l n
    have s := Z.cutN_succ u (l + n)
    simp only [bitSum]
    rw [show l + (n + 1) = l + n + 1 by omega]
    omega
theorem bitSum_le (u l n : Nat) : bitSum u l n ≤ u := by
  have h := bitSum_cut u l n
  have := Z.cutN_le u l
  omega
theorem bitSum_all (u l n : Nat) (hu : u < 18446744073709551616) (h : 64 ≤ l + n) : bitSum u l n = Z.cutN u l := by
  have h1 := bitSum_cut u l n
  rw [Z.cutN_high u (l + n) (Nat.lt_of_lt_of_le hu (by have := Nat.pow_le_pow_right (n := 2) (by omega) h; omega))] at h1
  omega
theorem sum_step (u l n : Nat) (hu : u < 18446744073709551616) :
    IntKind.u64.wrap ((bitSum u l n : Int) + IntKind.u64.wrap ((Z.bit u (l + n) : Int) * 2 ^ (l + n))) = (bitSum u l (n + 1) : Int) := by
  have h1 := bitSum_le u l (n + 1)
  have e0 : bitSum u l (n + 1) = bitSum u l n + Z.bit u (l + n) * 2 ^ (l + n) := rfl
  rw [show (Z.bit u (l + n) : Int) * 2 ^ (l + n) = ((Z.bit u (l + n) * 2 ^ (l + n) : Nat) : Int) by simp]
  have e1 : IntKind.u64.wrap ((Z.bit u (l + n) * 2 ^ (l + n) : Nat) : Int) = ((Z.bit u (l + n) * 2 ^ (l + n) : Nat) : Int) := IntWalk.u64_in _ ⟨Int.natCast_nonneg _, by omega⟩
  rw [e1, IntWalk.u64_in _ ⟨by omega, by omega⟩, e0]
  omega

set_option maxRecDepth 100000 in
theorem rcut_c (A : Option Addr) (c : Nat) (us : List Nat) (l B : Nat) (w : World) (hp : Pts w B A us) (hB : B ≤ w.heap.size) (h1 : 1 ≤ us.length) (h16 : us.length ≤ 16) (hl : l ≤ 64) :
    Calls Try.prog 34 #[.slice A us.length c, .int .i64 ((l : Int) - 1)] w fun e w' => ∃ v, e = .returned v ∧ Own w' w.heap.size v (Z.cut us l) ∧ Below w.heap.size w w' := by
  obtain ⟨b, off, rfl, hb, hc⟩ := hp.open_ (by intro h; simp [h] at h1)
  have hok := hp.ok
  clear hp
  obtain ⟨i0, hi0, hz0, hz1, hz2⟩ := info_parts info_u64
  go_enter Try.func34, Try.ntmps34
  go_wp2
  have hown0 : (w.alloc (.cells #[] 47)).ownsRow w.heap.size 47 1 (.slice (some ⟨w.heap.size, 0, none⟩) 0 0) 0 [] := World.ownsRow_made w #[] 0 (Nat.le_refl _) (by unfold maxLen; omega) (by simp)
  have hbel0 : Below w.heap.size w (w.alloc (.cells #[] 47)) := (Below.refl _ _).alloc (Nat.le_refl _) _
  go_loopw [5, 6, 7, 8] (fun v i _ _ wr => ∃ j : Nat, j ≤ us.length ∧ i = .int .i64 j ∧ wr.ownsRow w.heap.size 47 1 v j ((vals (Z.cut us l)).take j) ∧ Below w.heap.size w wr) (fun _ i _ _ _ => us.length - (intOf i).toNat)
  case atStart => exact ⟨0, Nat.zero_le _, rfl, by simpa using hown0, hbel0⟩
  case round =>
    obtain ⟨j, hj, rfl, hrow, hbw⟩ := hrel
    clear hown0 hbel0
    by_cases hlt : j < us.length
    · obtain ⟨u, hu⟩ := get_lt hlt
      have hcell := (hbw.cell (p := ⟨b, off + j, none⟩) (Nat.lt_of_lt_of_le hb hB)).trans (hc j u hu)
      have hu64 := hok u (List.mem_of_getElem? hu)
      have hget : Hid ((vals (Z.cut us l))[j]? = some (.int .u64 (Z.cutN u l : Int))) := Lib.hid (vals_get (by simp [Z.cut, hu]))
      have Hrow := Lib.hid hrow
      clear hc hok hrow hu
      go_wp2
      go_loop [7, 8] (fun c k => ∃ m : Nat, l + m ≤ 64 ∧ k = .int .i64 ((l + m : Nat) : Int) ∧ c = .int .u64 (bitSum u l m : Int)) (fun _ k => 64 - (intOf k).toNat)
      case atStart => exact ⟨0, by omega, rfl, rfl⟩
      case round =>
        obtain ⟨m, hm, rfl, rfl⟩ := hrel
        by_cases hlt2 : l + m < 64
        · have hbt := Z.bit_lt u (l + m)
          have hst := Lib.hid (sum_step u l m hu64)
          go_wp2_with (go_at_call 39; refine (rbit_c u (l + m) _ hu64 (by omega)).mono ?_; rintro e w' ⟨rfl, rfl⟩)
          go_round
          case rel => exact ⟨m + 1, by omega, by go_num, by rw [hst.out]⟩
          case measure => simp [intOf]; omega
        · rw [bitSum_all u l m hu64 (by omega)]
          go_wp2_with (at_builtin; refine wpList_append_own _ rfl (.tmp 33) (.tmp 35) 22 rfl w.heap.size 47 i0 (.int .u64 0) 1 8 Try.underlying22 hi0 hz0 hz1 hz2 rfl (by decide) u5 j _ rfl (Hrow.out.alloc _) ⟨wr.heap.size, 0, none⟩ 1 1 [.int .u64 (Z.cutN u l : Int)] rfl rfl (cell_one_new _ _ _) (by intro x hx; simp at hx; subst hx; rfl) (by unfold maxLen; omega) (by omega) (by have := hbw.size; simp; omega) ?_; intro v1 w1 hown1 hgrow1 _)
          go_roundw
          case rel =>
            refine ⟨j + 1, by omega, by go_num, ?_, (hbw.alloc (by have := hbw.size; omega) _).grown hgrow1 (by have := hbw.size; simp; omega) (fun k hk => (Hrow.out.lt k hk).1)⟩
            have hj' : j < (vals (Z.cut us l)).length := by rw [vals_length, Z.cut_length]; exact hlt
            rw [Z.take_snoc _ j hj', show (vals (Z.cut us l))[j] = .int .u64 (Z.cutN u l : Int) from (List.getElem?_eq_some_iff.1 hget.out).2]
            exact hown1
          case measure => simp [intOf]; omega
    · have hkeep : Hid (Own wr w.heap.size u5 (Z.cut us l)) := by
        refine ⟨Z.cut_ok hok l, ?_⟩
        rw [Z.cut_length]
        obtain rfl : j = us.length := by omega
        rw [List.take_of_length_le (by rw [vals_length, Z.cut_length]; omega)] at hrow
        exact hrow
      clear hc hok hrow
      go_wp2
      go_ret
      exact ⟨_, rfl, hkeep.out, hbw⟩

theorem rcut_lev (A : Option Addr) (c : Nat) (us : List Nat) (l B : Nat) (w : World) (hp : Pts w B A us) (hB : B ≤ w.heap.size) (h1 : 1 ≤ us.length) (h16 : us.length ≤ 16) (hl : l ≤ 63) :
    Calls Try.prog 34 #[.slice A us.length c, .int .i64 (l : Int)] w fun e w' => ∃ v, e = .returned v ∧ Own w' w.heap.size v (Z.cut us (l + 1)) ∧ Below w.heap.size w w' := by
  have h := rcut_c A c us (l + 1) B w hp hB h1 h16 (by omega)
  rw [show ((l + 1 : Nat) : Int) - 1 = (l : Int) by omega] at h
  exact h
theorem rcut_all (A : Option Addr) (c : Nat) (us : List Nat) (B : Nat) (w : World) (hp : Pts w B A us) (hB : B ≤ w.heap.size) (h1 : 1 ≤ us.length) (h16 : us.length ≤ 16) :
    Calls Try.prog 34 #[.slice A us.length c, .int .i64 (-1)] w fun e w' => ∃ v, e = .returned v ∧ Own w' w.heap.size v (Z.cut us 0) ∧ Below w.heap.size w w' := rcut_c A c us 0 B w hp hB h1 h16 (by omega)
theorem rpower_P (n P : Nat) (w : World) (hn : n ≤ 40) (hP : 2 ^ n = P) :
    Calls Try.prog 21 #[.int .i64 (n : Int)] w fun e w' => e = .returned (.int .u64 (P : Int)) ∧ w = w' := by
  subst hP; exact rpower_c n w hn
theorem rcut_row (A : Option Addr) (c : Nat) (us : List Nat) (l B : Nat) (w : World) (hp : Pts w B A us) (hB : B ≤ w.heap.size) (h1 : 1 ≤ us.length) (h16 : us.length ≤ 16) (hl : l ≤ 63) :
    Calls Try.prog 34 #[.slice A us.length c, .int .i64 (l : Int)] w fun e w' => ∃ g cap, e = .returned (.slice (some ⟨g, 0, none⟩) us.length cap) ∧ w.heap.size ≤ g ∧ g < w'.heap.size ∧
      w'.ownsRow w.heap.size 47 1 (.slice (some ⟨g, 0, none⟩) us.length cap) us.length (vals (Z.cut us (l + 1))) ∧ Below w.heap.size w w' := by
  have h := rcut_c A c us (l + 1) B w hp hB h1 h16 (by omega)
  rw [show ((l + 1 : Nat) : Int) - 1 = (l : Int) by omega] at h
  refine h.mono fun e w' ⟨v, he, ho, hb⟩ => ?_
  obtain ⟨g, cap, hv, h2, h3, h4⟩ := ho.row (by intro h; have := congrArg List.length h; rw [Z.cut_length] at this; simp at this; simp [this] at h1)
  rw [Z.cut_length] at hv h4
  exact ⟨g, cap, by rw [he, hv], h2, h3, h4, hb⟩

theorem rplace_bits (u a l : Nat) (hu : u < 18446744073709551616) (hl : l ≤ 63) :
    IntKind.u64.wrap ((Z.cutN u (l + 1) : Int) + IntKind.u64.wrap ((a : Int) % 2 * 2 ^ l)) = ((Z.cutN u (l + 1) + a % 2 * 2 ^ l : Nat) : Int) := by
  have hb : a % 2 < 2 := Nat.mod_lt _ (by omega)
  have hlt := Z.placeN_lt u l _ hu (by omega) hb
  rw [show (a : Int) % 2 = ((a % 2 : Nat) : Int) by simp]
  generalize a % 2 = d at *
  rw [show (d : Int) * 2 ^ l = ((d * 2 ^ l : Nat) : Int) by simp]
  have e2 : IntKind.u64.wrap ((d * 2 ^ l : Nat) : Int) = ((d * 2 ^ l : Nat) : Int) := IntWalk.u64_in _ ⟨Int.natCast_nonneg _, by omega⟩
  rw [e2, IntWalk.u64_in _ ⟨by omega, by omega⟩]
  omega
set_option maxRecDepth 100000 in
theorem rplace_c (A : Option Addr) (c : Nat) (us : List Nat) (l a B : Nat) (w : World) (hp : Pts w B A us) (hB : B ≤ w.heap.size) (h1 : 1 ≤ us.length) (h16 : us.length ≤ 16) (hl : l ≤ 63) (ha : a < 2 ^ us.length) :
    Calls Try.prog 23 #[.slice A us.length c, .int .i64 (l : Int), .int .i64 (a : Int)] w fun e w' => ∃ v, e = .returned v ∧ Own w' w.heap.size v (Z.place us l a) ∧ Below w.heap.size w w' := by
  have Hok := Lib.hid hp.ok
  have hal : a < 65536 := by
    have hp : 2 ^ us.length ≤ 2 ^ 16 := Nat.pow_le_pow_right (by omega) h16
    omega
  clear ha
  go_enter Try.func23, Try.ntmps23
  go_wp2_with (go_at_call 34; refine (rcut_row _ _ us l B _ hp hB h1 h16 hl).mono ?_; rintro e w1 ⟨g, cap, rfl, hgb, hgl, hown, hbel⟩)
  clear hp
  go_loopw [2, 8] (fun d i wr => ∃ j x : Nat, j ≤ us.length ∧ i = .int .i64 ((j : Int) - 1) ∧ x = a / 2 ^ (us.length - j) ∧ d = .int .i64 (x : Int) ∧ wr.ownsRow w.heap.size 47 1 (.slice (some ⟨g, 0, none⟩) us.length cap) us.length ((vals (Z.cut us (l + 1))).take j ++ (vals (Z.place us l a)).drop j) ∧ Below w.heap.size w wr) (fun _ i _ => (intOf i + 1).toNat)
  case atStart => exact ⟨us.length, a, by omega, by go_num, by simp, rfl, by
    rw [List.take_of_length_le (by rw [vals_length, Z.cut_length]; omega), List.drop_of_length_le (by rw [vals_length, Z.place_length]; omega), List.append_nil]
    exact hown, hbel⟩
  case round =>
    obtain ⟨j, x, hj, rfl, hx, rfl, hrow, hbw⟩ := hrel
    have hx16 : x < 65536 := by rw [hx]; exact Nat.lt_of_le_of_lt (Nat.div_le_self _ _) hal
    have Hx := Lib.hid hx
    clear hown hbel hx
    by_cases h0 : j = 0
    · have hkeep : Hid (Own wr w.heap.size (.slice (some ⟨g, 0, none⟩) us.length cap) (Z.place us l a)) := by
        refine ⟨Z.place_ok Hok.out l a (by omega), ?_⟩
        rw [Z.place_length]
        subst h0
        simpa using hrow
      subst h0
      clear hrow
      go_wp2
      go_ret
      exact ⟨_, rfl, hkeep.out, hbw⟩
    · obtain ⟨k, rfl⟩ : ∃ k, j = k + 1 := ⟨j - 1, by omega⟩
      clear h0
      rw [show (((k + 1 : Nat) : Int) - 1) = (k : Int) by omega]
      have hlt : k < us.length := by omega
      obtain ⟨u, hu⟩ := get_lt hlt
      have hx : wr.cell? ⟨g, k, none⟩ = some (.int .u64 (Z.cutN u (l + 1) : Int)) := by
        rw [hrow.cellAt k (by omega), Z.mix_get _ _ _ (by rw [vals_length, Z.cut_length]; omega), if_pos (by omega)]
        exact vals_get (by simp [Z.cut, hu])
      have hfr := hrow.frozenAt k
      have Hrow := Lib.hid hrow
      have Hu := Lib.hid hu
      clear hrow hu
      go_wp2
      go_region
      all_goals go_wp2
      go_roundw
      case rel =>
        have hu := Hu.out
        have hok := Hok.out
        have hxe := Hx.out
        rw [rplace_bits u x l (hok u (List.mem_of_getElem? hu)) hl]
        refine ⟨k, x / 2, by omega, rfl, ?_, by go_num, ?_, (hbw.setCell hgb _).drew⟩
        · rw [hxe, show us.length - k = us.length - (k + 1) + 1 by omega, Nat.pow_succ, Nat.div_div_eq_div_mul]
        · rw [← Z.set_back' _ (vals (Z.place us l a)) (by rw [vals_length, vals_length, Z.place_length, Z.cut_length]) k (.int .u64 ((Z.cutN u (l + 1) + x % 2 * 2 ^ l : Nat) : Int)) (vals_get (by
            obtain ⟨h, e⟩ := List.getElem?_eq_some_iff.1 hu
            rw [List.getElem?_eq_getElem (by rw [Z.place_length]; exact h), Z.place_get us l a k _ h, e, hxe, show us.length - 1 - k = us.length - (k + 1) by omega]
            rfl))]
          exact (Hrow.out.stored k _).1.drew
      case measure => simp [intOf]
end Go.Proofs.Ytkkpgfpkeiamaaa
