import Derived.Test.YtpgkfccfabnjdaaGreatDoorM03
import Derived.Test.YtpgkfccfabnjdaaGreatDoorMLen
import Derived.Test.YtpgkfccfabnjdaaGreatDoorM05
/-
  CONTRACTS of package slots, twelfth part: From, UpTo.
-/
namespace Go.Proofs.YtpgkfccfabnjdaaGreatDoor.Sn
open Go.ChangeShapes Go.WideShapes Go.ChangeAt Go.RowKit

def tell (o : Option (Nat × Option Addr)) : Value := match o with
  | some p => .tuple #[.int .i64 (p.1 : Int), (Value.pointer (p.2)), .bool true]
  | none => none3
def upE (L : Al) (a : Int) : Option (Nat × Option Addr) := if Sl.idx L (a + 1) = 0 then none else L[Sl.idx L (a + 1) - 1]?
theorem sAt_any {w : World} {B b k : Nat} {L : Al} (wf : Sl.Wf k L) (h : Sp w B b k L) (i : Nat) :
    Calls Tryz.prog 199 #[.pointer (some ⟨b, 0, none⟩), .int .i64 (i : Int)] w fun e w' => e = .returned (tell L[i]?) ∧ ∃ n, w' = w.drewN n := by
  rcases hp : L[i]? with _ | p
  · obtain ⟨_, A, c, C, c', _, _, _, h3, _⟩ := id h
    refine (sAt_high h3 i (List.getElem?_eq_none_iff.1 hp)).mono ?_
    rintro e w' ⟨rfl, rfl⟩
    exact ⟨rfl, 0, rfl⟩
  · exact sAt_sp wf h i p hp
theorem sFrom_nil (a : Int) (w : World) : Calls Tryz.prog 169 #[.pointer none, .int .i64 a] w fun e w' => e = .returned none3 ∧ w = w' := by
  go_enter Tryz.func169, Tryz.ntmps169
  go_wp2_with (first
    | (go_at_call 154; refine (sDense_nil _).mono ?_; rintro e w' ⟨rfl, rfl⟩)
    | (go_at_call 200; refine (sSearch_nil _ _).mono ?_; rintro e w' ⟨rfl, rfl⟩)
    | (go_at_call 199; refine (sAt_nil _ _).mono ?_; rintro e w' ⟨rfl, rfl⟩))
  go_ret3
  exact ⟨rfl, rfl⟩
theorem sUpTo_nil (a : Int) (w : World) : Calls Tryz.prog 168 #[.pointer none, .int .i64 a] w fun e w' => e = .returned none3 ∧ w = w' := by
  go_enter Tryz.func168, Tryz.ntmps168
  go_wp2_with (first
    | (go_at_call 154; refine (sDense_nil _).mono ?_; rintro e w' ⟨rfl, rfl⟩)
    | (go_at_call 200; refine (sSearch_nil _ _).mono ?_; rintro e w' ⟨rfl, rfl⟩)
    | (go_at_call 199; refine (sAt_nil _ _).mono ?_; rintro e w' ⟨rfl, rfl⟩))
  go_ret3
  exact ⟨rfl, rfl⟩
theorem tell_form (o : Option (Nat × Option Addr)) : ∃ x y z, tell o = .tuple #[.int .i64 x, (Value.pointer (y)), .bool z] := by
  cases o with
  | none => exact ⟨0, none, false, rfl⟩
  | some p => exact ⟨_, p.2, true, rfl⟩
theorem sFrom_sp {w : World} {B b k : Nat} {L : Al} (wf : Sl.Wf k L) (h : Sp w B b k L) (a : Int) :
    Calls Tryz.prog 169 #[.pointer (some ⟨b, 0, none⟩), .int .i64 a] w fun e w' => e = .returned (tell L[Sl.idx L a]?) ∧ ∃ n, w' = w.drewN n := by
  obtain ⟨x, y, z, hT⟩ := tell_form L[Sl.idx L a]?
  have H1 := Lib.hid (sDense_c (d := false) h)
  have H2 := Lib.hid (sSearch_c wf h a)
  have H3 := Lib.hid (fun n => sAt_any (w := w.drewN n) wf h (Sl.idx L a))
  rw [hT] at H3
  have HT := Lib.hid hT
  clear wf h hT
  go_enter Tryz.func169, Tryz.ntmps169
  go_wp2_with (first
    | (go_at_call 154; refine H1.out.mono ?_; rintro e w' ⟨rfl, rfl⟩)
    | (go_at_call 200; refine H2.out.mono ?_; rintro e w' ⟨rfl, n, rfl⟩)
    | (go_at_call 199; refine (H3.out n).mono ?_; rintro e w' ⟨rfl, m, rfl⟩))
  go_ret3
  exact ⟨by rw [HT.out]; rfl, _, rfl⟩
/-! ### dense -/
theorem sAt_row {w : World} {B b k : Nat} {L : Al} (wf : Sl.Wf k L) (h : De w B b k L) (p : Nat × Option Addr) (hp : p ∈ L) :
    Calls Tryz.prog 199 #[.pointer (some ⟨b, 0, none⟩), .int .i64 (p.1 : Int)] w fun e w' => e = .returned (tell (some p)) ∧ ∃ n, w' = w.drewN n :=
  sAt_de h p.1 p.2 (Sl.row_some (wf.lt p hp) (Sl.get_of_mem wf.srt hp))
theorem from_at {w : World} {B b k : Nat} {L : Al} (wf : Sl.Wf k L) (h : De w B b k L) (f t : Nat) (ht : Lib.ctz 64 (Z.cutN (Sl.mask L) f) = t) :
    Calls Tryz.prog 199 #[.pointer (some ⟨b, 0, none⟩), .int .i64 (t : Int)] w fun e w' => e = .returned (tell L[Sl.idx L (f : Int)]?) ∧ ∃ n, w' = w.drewN n := by
  have h64 := wf.lt64 h.2.1
  rcases hp : L[Sl.idx L (f : Int)]? with _ | p
  · obtain ⟨_, hk, _, P, C, c', _, _, _, h3, _⟩ := id h
    have hle : L.length ≤ Sl.idx L (f : Int) := List.getElem?_eq_none_iff.1 hp
    rw [Sl.from_none wf.srt hle] at ht
    have e64 : t = 64 := by rw [← ht]; rfl
    subst e64
    have hp2 : 2 ^ k ≤ 2 ^ 6 := Nat.pow_le_pow_right (n := 2) (by omega) hk
    refine (sAt_high h3 64 (by omega)).mono ?_
    rintro e w' ⟨rfl, rfl⟩
    exact ⟨rfl, 0, rfl⟩
  · rw [Sl.from_some wf.srt h64 hp] at ht
    subst ht
    exact sAt_row wf h p (List.mem_of_getElem? hp)
set_option maxRecDepth 100000 in
theorem sFrom_de {w : World} {B b k : Nat} {L : Al} (wf : Sl.Wf k L) (h : De w B b k L) (hT : Tz w) (a : Int) (hlo : -9223372036854775808 ≤ a) (hhi : a ≤ 9223372036854775807) :
    Calls Tryz.prog 169 #[.pointer (some ⟨b, 0, none⟩), .int .i64 a] w fun e w' => e = .returned (tell L[Sl.idx L a]?) ∧ ∃ n, w' = w.drewN n := by
  have H1 := Lib.hid (sDense_c (d := true) h)
  have hm := Sl.mask_lt (wf.lt64 h.2.1)
  obtain ⟨_, hk, _, P, C, c', _, c1, _, _, _⟩ := id h
  by_cases ha : a < 64
  · -- the shift is less than the word
    obtain ⟨f, hf⟩ : ∃ f : Nat, max a 0 = (f : Int) := ⟨(max a 0).toNat, by omega⟩
    have hidx : Sl.idx L a = Sl.idx L (f : Int) := by
      by_cases hn : a < 0
      · have e0 : f = 0 := by omega
        subst e0
        rw [show ((0 : Nat) : Int) = 0 from rfl, Sl.idx_zero]
        refine Sl.idx_uniq _ _ _ (Nat.zero_le _) (fun j p hj => absurd hj (by omega)) (fun p _ => by omega)
      · rw [show a = (f : Int) by omega]
    have hf64 : f < 64 := by omega
    obtain ⟨t, ht⟩ : ∃ t, Lib.ctz 64 (Z.cutN (Sl.mask L) f) = t := ⟨_, rfl⟩
    obtain ⟨x, y, z, hTl⟩ := tell_form L[Sl.idx L (f : Int)]?
    have H3 := Lib.hid (fun n => from_at (w := w.drewN n) wf h f t ht)
    rw [hTl] at H3
    have hcl := Nat.lt_of_le_of_lt (Z.cutN_le (Sl.mask L) f) hm
    have H2 := Lib.hid (fun n => tz64_c (Z.cutN (Sl.mask L) f) hcl (w.drewN n) hT t ht)
    have hcut : IntKind.u64.wrap ((Sl.mask L : Int) / 2 ^ f * 2 ^ f) = (Z.cutN (Sl.mask L) f : Int) := by
      have e : ((Sl.mask L : Int) / 2 ^ f * 2 ^ f) = ((Z.cutN (Sl.mask L) f : Nat) : Int) := by
        unfold Z.cutN
        simp
      rw [e, IntKind.wrap_u64]
      omega
    have HT := Lib.hid (And.intro hidx hTl)
    clear wf h hT ht hTl hidx hcl hk
    go_enter Tryz.func169, Tryz.ntmps169
    go_wp2_with (first
      | (go_at_call 154; refine H1.out.mono ?_; rintro e w' ⟨rfl, rfl⟩))
    refine (H2.out 0).mono ?_
    rintro e w' ⟨rfl, rfl⟩
    go_wp2_with fail
    refine (H3.out 0).mono ?_
    rintro e w' ⟨rfl, m, rfl⟩
    go_wp2_with fail
    go_ret3
    exact ⟨by rw [HT.out.1, HT.out.2]; rfl, _, rfl⟩
  · have hmax : max a 0 = a := by omega
    have hmin : min a.toNat 64 = 64 := by omega
    have h0a : 0 ≤ a := by omega
    have hz : (Sl.mask L : Int) / 18446744073709551616 = 0 := by omega
    have hz2 : (Sl.mask L : Int) / 2 ^ 64 = 0 := by omega
    have hend : L.length ≤ Sl.idx L a := by rw [Sl.idx_all (fun p hp => by have := wf.lt64 hk p hp; omega)]; exact Nat.le_refl _
    have hTl : Hid (L[Sl.idx L a]? = none) := Lib.hid (List.getElem?_eq_none hend)
    have hp2 : 2 ^ k ≤ 2 ^ 6 := Nat.pow_le_pow_right (n := 2) (by omega) hk
    have H3 : Hid (∀ n, Calls Tryz.prog 199 #[.pointer (some ⟨b, 0, none⟩), .int .i64 64] (w.drewN n) fun e w' => e = .returned none3 ∧ w.drewN n = w') := Lib.hid (fun n => by
      obtain ⟨_, _, _, P, C, c', _, _, _, h3, _⟩ := id h
      exact sAt_high (w := w.drewN n) h3 64 (by omega))
    clear wf h hT hend hk hp2
    go_enter Tryz.func169, Tryz.ntmps169
    go_wp2_with (first
      | (go_at_call 154; refine H1.out.mono ?_; rintro e w' ⟨rfl, rfl⟩))
    refine (tz64_zero _).mono ?_
    rintro e w' ⟨rfl, rfl⟩
    go_wp2_with fail
    refine (H3.out 0).mono ?_
    rintro e w' ⟨rfl, rfl⟩
    go_wp2_with fail
    go_ret3
    exact ⟨by rw [hTl.out]; rfl, 0, rfl⟩
theorem sFrom_c {w : World} {B b k : Nat} {L : Al} {d : Bool} (wf : Sl.Wf k L) (h : Rp w B b k L d) (hT : Tz w) (a : Int) (hlo : -9223372036854775808 ≤ a) (hhi : a ≤ 9223372036854775807) :
    Calls Tryz.prog 169 #[.pointer (some ⟨b, 0, none⟩), .int .i64 a] w fun e w' => e = .returned (tell L[Sl.idx L a]?) ∧ ∃ n, w' = w.drewN n := by
  cases d
  · exact sFrom_sp wf h a
  · exact sFrom_de wf h hT a hlo hhi

/-! ### UpTo -/
theorem sUpTo_sp {w : World} {B b k : Nat} {L : Al} (wf : Sl.Wf k L) (h : Sp w B b k L) (a : Int) :
    Calls Tryz.prog 168 #[.pointer (some ⟨b, 0, none⟩), .int .i64 a] w fun e w' => e = .returned (tell (upE L a)) ∧ ∃ n, w' = w.drewN n := by
  obtain ⟨x, y, z, hT⟩ := tell_form (upE L a)
  have hsu := Sl.idx_succ wf.srt a
  have hle := Sl.idx_le L a
  have hlen := wf.len16
  have H1 := Lib.hid (sDense_c (d := false) h)
  obtain ⟨i, hi⟩ : ∃ i, Sl.idx L a = i := ⟨_, rfl⟩
  rcases hr : Sl.has L a with _ | _
  · have H2 := Lib.hid (sSearch_hid wf h a i false hi hr)
    rw [hr, hi] at hsu
    have H3 : Hid (∀ n, Calls Tryz.prog 199 #[.pointer (some ⟨b, 0, none⟩), .int .i64 ((i : Int) - 1)] (w.drewN n) fun e w' => e = .returned (tell (upE L a)) ∧ ∃ m, w' = (w.drewN n).drewN m) := Lib.hid (fun n => by
      unfold upE
      rw [hsu]
      rcases Nat.eq_zero_or_pos i with e | e
      · subst e
        rw [if_pos (by simp)]
        refine (sAt_low b _ _ (by omega)).mono ?_
        rintro e w' ⟨rfl, rfl⟩
        exact ⟨rfl, 0, rfl⟩
      · have ei : ((i : Int) - 1) = ((i - 1 : Nat) : Int) := by omega
        rw [ei]
        simp only [Bool.false_eq_true, if_false, Nat.add_zero]
        rw [if_neg (by omega)]
        exact sAt_any (w := w.drewN n) wf h (i - 1))
    rw [hT] at H3
    have HT := Lib.hid hT
    have hi2 : (i : Int) ≤ 65536 := by omega
    clear wf h hT hsu hi hr hle
    go_enter Tryz.func168, Tryz.ntmps168
    go_wp2_with (first
      | (go_at_call 154; refine H1.out.mono ?_; rintro e w' ⟨rfl, rfl⟩)
      | (go_at_call 200; refine H2.out.mono ?_; rintro e w' ⟨rfl, n, rfl⟩)
      | (go_at_call 199; refine (H3.out n).mono ?_; rintro e w' ⟨rfl, m, rfl⟩))
    go_ret3
    exact ⟨by rw [HT.out]; rfl, _, rfl⟩
  · have H2 := Lib.hid (sSearch_hid wf h a i true hi hr)
    rw [hr, hi] at hsu
    have H3 : Hid (∀ n, Calls Tryz.prog 199 #[.pointer (some ⟨b, 0, none⟩), .int .i64 (i : Int)] (w.drewN n) fun e w' => e = .returned (tell (upE L a)) ∧ ∃ m, w' = (w.drewN n).drewN m) := Lib.hid (fun n => by
      unfold upE
      rw [hsu]
      simp only [if_true]
      rw [if_neg (by omega), Nat.add_sub_cancel]
      exact sAt_any (w := w.drewN n) wf h i)
    rw [hT] at H3
    have HT := Lib.hid hT
    clear wf h hT hsu hi hr hle
    go_enter Tryz.func168, Tryz.ntmps168
    go_wp2_with (first
      | (go_at_call 154; refine H1.out.mono ?_; rintro e w' ⟨rfl, rfl⟩)
      | (go_at_call 200; refine H2.out.mono ?_; rintro e w' ⟨rfl, n, rfl⟩)
      | (go_at_call 199; refine (H3.out n).mono ?_; rintro e w' ⟨rfl, m, rfl⟩))
    go_ret3
    exact ⟨by rw [HT.out]; rfl, _, rfl⟩
theorem upTo_at {w : World} {B b k : Nat} {L : Al} (wf : Sl.Wf k L) (h : De w B b k L) (u t : Nat) (ht : Lib.bitLen (Sl.mask L &&& (2 ^ u - 1)) = t) (a : Int) (hu : Sl.idx L (a + 1) = Sl.idx L (u : Int)) :
    Calls Tryz.prog 199 #[.pointer (some ⟨b, 0, none⟩), .int .i64 ((t : Int) - 1)] w fun e w' => e = .returned (tell (upE L a)) ∧ ∃ n, w' = w.drewN n := by
  have h64 := wf.lt64 h.2.1
  unfold upE
  rw [hu]
  rcases Nat.eq_zero_or_pos (Sl.idx L (u : Int)) with e | e
  · rw [Sl.upTo_none wf.srt e] at ht
    have e0 : t = 0 := by rw [← ht]; exact Z.bitLen_zero
    subst e0
    rw [if_pos e]
    refine (sAt_low b _ _ (by omega)).mono ?_
    rintro e w' ⟨rfl, rfl⟩
    exact ⟨rfl, 0, rfl⟩
  · have hle := Sl.idx_le L (u : Int)
    obtain ⟨p, hp⟩ := get_lt (us := L) (k := Sl.idx L (u : Int) - 1) (by omega)
    rw [Sl.upTo_some wf.srt h64 (i := Sl.idx L (u : Int) - 1) (by omega) hp] at ht
    subst ht
    rw [if_neg (by omega), hp, show ((p.1 + 1 : Nat) : Int) - 1 = (p.1 : Int) by omega]
    exact sAt_row wf h p (List.mem_of_getElem? hp)
theorem ones_shift (l : Nat) (hl : l ≤ 63) : (18446744073709551615 : Int) / 2 ^ (63 - l) = ((2 ^ (l + 1) - 1 : Nat) : Int) := by
  have h1 : (2 : Nat) ^ 64 = 2 ^ (63 - l) * 2 ^ (l + 1) := by rw [← Nat.pow_add]; congr 1; omega
  have hp := Nat.two_pow_pos (63 - l)
  have hq := Nat.two_pow_pos (l + 1)
  have h2 : (18446744073709551615 : Nat) / 2 ^ (63 - l) = 2 ^ (l + 1) - 1 := by
    have e : (18446744073709551615 : Nat) = (2 ^ (63 - l) - 1) + 2 ^ (63 - l) * (2 ^ (l + 1) - 1) := by
      rw [Nat.mul_sub, ← h1]
      have : 2 ^ (63 - l) ≤ 2 ^ 64 := by rw [h1]; exact Nat.le_mul_of_pos_right _ hq
      omega
    rw [e, Nat.add_mul_div_left _ _ hp, Nat.div_eq_of_lt (by omega)]
    omega
  rw [← h2]
  simp
set_option maxRecDepth 100000 in
theorem sUpTo_de {w : World} {B b k : Nat} {L : Al} (wf : Sl.Wf k L) (h : De w B b k L) (a : Int) :
    Calls Tryz.prog 168 #[.pointer (some ⟨b, 0, none⟩), .int .i64 a] w fun e w' => e = .returned (tell (upE L a)) ∧ ∃ n, w' = w.drewN n := by
  have H1 := Lib.hid (sDense_c (d := true) h)
  have hm := Sl.mask_lt (wf.lt64 h.2.1)
  obtain ⟨_, hk, _, P, C, c', _, c1, _, _, _⟩ := id h
  obtain ⟨x, y, z, hTl⟩ := tell_form (upE L a)
  by_cases ha : a < 0
  · have hmax : max a (-1) = -1 := by omega
    have hu : Sl.idx L (a + 1) = Sl.idx L ((0 : Nat) : Int) := by
      rw [show ((0 : Nat) : Int) = 0 from rfl, Sl.idx_zero]
      exact Sl.idx_uniq _ _ _ (Nat.zero_le _) (fun j p hj => absurd hj (by omega)) (fun p _ => by omega)
    have H3 := Lib.hid (fun n => upTo_at (w := w.drewN n) wf h 0 0 (by rw [Nat.pow_zero, Nat.sub_self, Nat.and_zero]; exact Z.bitLen_zero) a hu)
    rw [hTl] at H3
    rw [show ((0 : Nat) : Int) - 1 = -1 from rfl] at H3
    have hand : bits .and .u64 (Sl.mask L : Int) 0 = 0 := by
      have := bits_and_u64_nat (Sl.mask L) 0 (by omega) (by omega)
      rw [Nat.and_zero] at this
      exact this
    have H2 := Lib.hid (fun w => len64_c 0 w (by omega) (by omega))
    have HT := Lib.hid hTl
    clear wf h hTl hk hu
    go_enter Tryz.func168, Tryz.ntmps168
    go_wp2_with (first
      | (go_at_call 154; refine H1.out.mono ?_; rintro e w' ⟨rfl, rfl⟩))
    rw [show (18446744073709551615 : Int) / 2 ^ (63 - min (-1 : Int) 63).toNat = 0 by rw [show (63 - min (-1 : Int) 63).toNat = 64 from rfl]; rfl, hand]
    refine (H2.out _).mono ?_
    rintro e w' ⟨rfl, rfl⟩
    rw [show (Int.toNat 0) = 0 from rfl, Z.bitLen_zero]
    go_wp2_with fail
    refine (H3.out 0).mono ?_
    rintro e w' ⟨rfl, m, rfl⟩
    go_wp2_with fail
    go_ret3
    exact ⟨by rw [HT.out]; rfl, _, rfl⟩
  · obtain ⟨l, hl⟩ : ∃ l : Nat, min a 63 = (l : Int) := ⟨(min a 63).toNat, by omega⟩
    have hmax : max a (-1) = a := by omega
    have hl63 : l ≤ 63 := by omega
    have hto : (63 - (l : Int)).toNat = 63 - l := by omega
    have hu : Sl.idx L (a + 1) = Sl.idx L ((l + 1 : Nat) : Int) := by
      by_cases hs : a ≤ 63
      · rw [show a + 1 = ((l + 1 : Nat) : Int) by omega]
      · rw [Sl.idx_all (fun p hp => by have := wf.lt64 hk p hp; omega), Sl.idx_all (fun p hp => by have := wf.lt64 hk p hp; omega)]
    obtain ⟨t, ht⟩ : ∃ t, Lib.bitLen (Sl.mask L &&& (2 ^ (l + 1) - 1)) = t := ⟨_, rfl⟩
    have H3 := Lib.hid (fun n => upTo_at (w := w.drewN n) wf h (l + 1) t ht a hu)
    rw [hTl] at H3
    have hle : Sl.mask L &&& (2 ^ (l + 1) - 1) ≤ Sl.mask L := Nat.and_le_left
    have hp1 : 2 ^ (l + 1) ≤ 2 ^ 64 := Nat.pow_le_pow_right (by omega) (by omega)
    have hand := bits_and_u64_nat (Sl.mask L) (2 ^ (l + 1) - 1) (by omega) (by omega)
    have hsh := ones_shift l hl63
    have H2 := Lib.hid (fun w => len64_c ((Sl.mask L &&& (2 ^ (l + 1) - 1) : Nat) : Int) w (by omega) (by omega))
    have HT := Lib.hid (And.intro hTl ht)
    have ht64 : (t : Int) ≤ 64 := by
      have hx : Sl.mask L &&& (2 ^ (l + 1) - 1) < 2 ^ 64 := by omega
      by_cases e0 : Sl.mask L &&& (2 ^ (l + 1) - 1) = 0
      · rw [e0, Z.bitLen_zero] at ht; omega
      · obtain ⟨q, h1, h2, _⟩ := Z.bitLen_top _ hx e0
        omega
    generalize Sl.mask L &&& (2 ^ (l + 1) - 1) = v at *
    generalize 2 ^ (l + 1) - 1 = u at *
    clear wf h hTl hk hu ht ha
    go_enter Tryz.func168, Tryz.ntmps168
    go_wp2_with (first
      | (go_at_call 154; refine H1.out.mono ?_; rintro e w' ⟨rfl, rfl⟩))
    refine (H2.out _).mono ?_
    rintro e w' ⟨rfl, rfl⟩
    rw [Int.toNat_natCast, HT.out.2]
    go_wp2_with fail
    refine (H3.out 0).mono ?_
    rintro e w' ⟨rfl, m, rfl⟩
    go_wp2_with fail
    go_ret3
    exact ⟨by rw [HT.out.1]; rfl, _, rfl⟩
theorem sUpTo_c {w : World} {B b k : Nat} {L : Al} {d : Bool} (wf : Sl.Wf k L) (h : Rp w B b k L d) (a : Int) :
    Calls Tryz.prog 168 #[.pointer (some ⟨b, 0, none⟩), .int .i64 a] w fun e w' => e = .returned (tell (upE L a)) ∧ ∃ n, w' = w.drewN n := by
  cases d
  · exact sUpTo_sp wf h a
  · exact sUpTo_de wf h a
end Go.Proofs.YtpgkfccfabnjdaaGreatDoor.Sn

/-
  CONTRACTS of package node, eighth part: From, UpTo.
-/
namespace Go.Proofs.YtpgkfccfabnjdaaGreatDoor
open Go.ChangeShapes Go.WideShapes Go.ChangeAt Go.RowKit
open Tr (T S4)

abbrev atKid (n : Nat) (p : Option Addr) : Value := .tuple #[.int .i64 (n : Int), .pointer p]
theorem nFrom_nil (a : Int) (w : World) : Calls Tryz.prog 126 #[.pointer none, .int .i64 a] w fun e w' => e = .returned (atKid 0 none) ∧ w = w' := by
  go_enter Tryz.func126, Tryz.ntmps126
  go_wp2
  go_ret2
  exact ⟨rfl, rfl⟩
theorem nUpTo_nil (a : Int) (w : World) : Calls Tryz.prog 125 #[.pointer none, .int .i64 a] w fun e w' => e = .returned (atKid 0 none) ∧ w = w' := by
  go_enter Tryz.func125, Tryz.ntmps125
  go_wp2
  go_ret2
  exact ⟨rfl, rfl⟩
theorem nFrom_ent {w : World} {B g : Nat} {lev : Int} {pre : List Nat} {v : Nat} {s : S4} (h : NdAt w B g lev pre v none s) (a : Int) :
    Calls Tryz.prog 126 #[.pointer (some ⟨g, 0, none⟩), .int .i64 a] w fun e w' => e = .returned (atKid 0 none) ∧ w = w' := by
  obtain ⟨-, -, -, -, h3, -⟩ := h
  go_enter Tryz.func126, Tryz.ntmps126
  go_wp2_with (go_at_call 169; refine (Sn.sFrom_nil a _).mono ?_; rintro e w' ⟨rfl, rfl⟩)
  go_ret2
  exact ⟨rfl, rfl⟩
theorem nUpTo_ent {w : World} {B g : Nat} {lev : Int} {pre : List Nat} {v : Nat} {s : S4} (h : NdAt w B g lev pre v none s) (a : Int) :
    Calls Tryz.prog 125 #[.pointer (some ⟨g, 0, none⟩), .int .i64 a] w fun e w' => e = .returned (atKid 0 none) ∧ w = w' := by
  obtain ⟨-, -, -, -, h3, -⟩ := h
  go_enter Tryz.func125, Tryz.ntmps125
  go_wp2_with (go_at_call 168; refine (Sn.sUpTo_nil a _).mono ?_; rintro e w' ⟨rfl, rfl⟩)
  go_ret2
  exact ⟨rfl, rfl⟩
theorem nFrom_br {w : World} {B B' g b k : Nat} {lev : Int} {pre : List Nat} {v : Nat} {s : S4} {L : Sn.Al} (h : NdAt w B g lev pre v (some ⟨b, 0, none⟩) s) (ha : Sn.At w B' b k L) (hT : Tz w) (a : Int) (hlo : -9223372036854775808 ≤ a) (hhi : a ≤ 9223372036854775807) (p : Nat × Option Addr) (hp : (L[Sl.idx L a]?).getD (0, none) = p) :
    Calls Tryz.prog 126 #[.pointer (some ⟨g, 0, none⟩), .int .i64 a] w fun e w' => e = .returned (atKid p.1 p.2) ∧ ∃ n, w' = w.drewN n := by
  obtain ⟨-, -, -, -, h3, -⟩ := h
  have H0 := Sn.sFrom_c ha.1 ha.2 hT a hlo hhi
  obtain ⟨r, hr⟩ : ∃ r, Sn.tell L[Sl.idx L a]? = .tuple #[.int .i64 (p.1 : Int), .pointer p.2, .bool r] := by
    cases hx : L[Sl.idx L a]? with
    | none => rw [hx] at hp; subst hp; exact ⟨false, rfl⟩
    | some q => rw [hx] at hp; subst hp; exact ⟨true, rfl⟩
  rw [hr] at H0
  have H := Lib.hid H0
  clear ha hp hr H0 hT
  go_enter Tryz.func126, Tryz.ntmps126
  go_wp2_with (go_at_call 169; refine H.out.mono ?_; rintro e w' ⟨rfl, n, rfl⟩)
  go_ret2
  exact ⟨rfl, _, rfl⟩
theorem nUpTo_br {w : World} {B B' g b k : Nat} {lev : Int} {pre : List Nat} {v : Nat} {s : S4} {L : Sn.Al} (h : NdAt w B g lev pre v (some ⟨b, 0, none⟩) s) (ha : Sn.At w B' b k L) (a : Int) (p : Nat × Option Addr) (hp : (Sn.upE L a).getD (0, none) = p) :
    Calls Tryz.prog 125 #[.pointer (some ⟨g, 0, none⟩), .int .i64 a] w fun e w' => e = .returned (atKid p.1 p.2) ∧ ∃ n, w' = w.drewN n := by
  obtain ⟨-, -, -, -, h3, -⟩ := h
  have H0 := Sn.sUpTo_c ha.1 ha.2 a
  obtain ⟨r, hr⟩ : ∃ r, Sn.tell (Sn.upE L a) = .tuple #[.int .i64 (p.1 : Int), .pointer p.2, .bool r] := by
    cases hx : Sn.upE L a with
    | none => rw [hx] at hp; subst hp; exact ⟨false, rfl⟩
    | some q => rw [hx] at hp; subst hp; exact ⟨true, rfl⟩
  rw [hr] at H0
  have H := Lib.hid H0
  clear ha hp hr H0
  go_enter Tryz.func125, Tryz.ntmps125
  go_wp2_with (go_at_call 168; refine H.out.mono ?_; rintro e w' ⟨rfl, n, rfl⟩)
  go_ret2
  exact ⟨rfl, _, rfl⟩
end Go.Proofs.YtpgkfccfabnjdaaGreatDoor
