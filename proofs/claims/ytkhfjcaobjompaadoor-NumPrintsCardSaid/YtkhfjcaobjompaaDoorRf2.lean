/-
  CONTRACTS of package pantileref02 (the document's answers for layer 2), first part: numbers and names: each call returns what the plain functions of 'Nm' and 'Nm2' say.
-/
import Derived.Test.YtkhfjcaobjompaaDoorRdy
namespace Go.Proofs.YtkhfjcaobjompaaDoor
open Go.ChangeShapes Go.WideShapes Go.ChangeAt Go.RowKit

theorem conv_one (w : World) (x : Int) (c : UInt8) (hx : x = (c.toNat : Int)) :
    (convert 55 9 (.slice (some ⟨w.heap.size, 0, none⟩) 1 1)).run Tryd.prog (w.alloc (.cells #[.int .u8 x] 5)) = .ok (.string (str [c])) (w.alloc (.cells #[.int .u8 x] 5)) := by
  exact run_convert_bytes_back (P := Tryd.prog) (w.alloc (.cells #[.int .u8 x] 5)) 55 9 5 ⟨w.heap.size, 0, none⟩ 1 [c] Tryd.underlying55 Tryd.underlying5 Tryd.underlying9 (fun j hj => by
    have : j = 0 := by simpa using hj
    subst this
    rw [Lib.add_plain, World.cell?_alloc_new]
    simp [hx])
theorem str_app (a b : List UInt8) : str a ++ str b = str (a ++ b) := by
  apply ByteArray.ext
  simp [str]
/-- the digit d as a byte -/
def dgt (d : Nat) : UInt8 := UInt8.ofNat (48 + d)
theorem dgt_nat {d : Nat} (h : d < 10) : (dgt d).toNat = 48 + d := T.dg_toNat d h
theorem dec_len {u : Nat} (h : u < 18446744073709551616) : (Lib.decDigits u).length ≤ 20 := by
  rw [Lib.decDigits_length]
  by_cases h1 : 1 ≤ u
  · have := Lib.numDigits_eq u h1 h; split at this <;> omega
  · have : u = 0 := by omega
    subst this
    rw [Lib.nDigits_small (by omega)]
    omega
theorem dec_step {v : Nat} (h : 9 < v) (l : List UInt8) : Lib.decDigits v ++ l = Lib.decDigits (v / 10) ++ (dgt (v % 10) :: l) := by
  rw [Lib.decDigits, dif_neg (by omega), List.append_assoc]
  rfl
theorem dec_last {v : Nat} (h : ¬ 9 < v) (l : List UInt8) : Lib.decDigits v ++ l = dgt v :: l := by
  rw [Lib.decDigits, dif_pos (by omega)]
  rfl
set_option maxRecDepth 100000 in
theorem rnumber_c (u : Nat) (hu : u < 18446744073709551616) (w : World) :
    Calls Tryd.prog 18 #[.int .u64 (u : Int)] w fun e w' => e = .returned (.string (str (Lib.decDigits u))) ∧ Below w.heap.size w w' := by
  go_enter Tryd.func18, Tryd.ntmps18
  go_wp2
  go_loopw [0, 3] (fun x y wr => ∃ (v : Nat) (l : List UInt8), x = .int .u64 (v : Int) ∧ y = .string (str l) ∧ v < 18446744073709551616 ∧ Lib.decDigits u = Lib.decDigits v ++ l ∧ Below w.heap.size w wr) (fun x _ _ => (intOf x).toNat)
  case atStart => exact ⟨u, [], rfl, rfl, hu, by simp, Below.refl _ _⟩
  case round =>
    obtain ⟨v, l, rfl, rfl, hv, hd, hb⟩ := hrel
    have HB := Lib.hid hb
    have hlen : l.length ≤ 20 := by
      have h1 := dec_len hu
      rw [hd, List.length_append] at h1
      omega
    clear hb
    by_cases h9 : 9 < v
    · rw [dec_step h9] at hd
      have HD := Lib.hid hd
      have hcv := conv_one wr (48 + (v : Int) % 10) (dgt (v % 10)) (by rw [dgt_nat (by omega)]; omega)
      clear hd
      go_wp2
      go_roundw
      case rel => exact ⟨v / 10, dgt (v % 10) :: l, by go_num, by rw [str_app]; rfl, by omega, HD.out, HB.out.alloc HB.out.size _⟩
      case measure => simp [intOf]; omega
    · rw [dec_last h9] at hd
      have HD := Lib.hid hd
      have hcv := conv_one wr (48 + (v : Int)) (dgt v) (by rw [dgt_nat (by omega)]; omega)
      clear hd
      go_wp2
      go_ret
      exact ⟨by rw [HD.out, str_app]; rfl, HB.out.alloc HB.out.size _⟩
/-- one digit more: it fits, or it doesn't -/
theorem val_step (l : List UInt8) (k : Nat) (c : UInt8) (hc : l[k]? = some c) : T.val 0 (l.take (k + 1)) = T.val 0 (l.take k) * 10 + (c.toNat - 48) := by
  rw [List.take_add_one, hc]
  exact T.val_snoc 0 _ c
theorem val_over (l : List UInt8) (k : Nat) (h : ¬ T.val 0 (l.take k) < 18446744073709551616) : ¬ T.val 0 l < 18446744073709551616 := by
  have h1 := T.val_ge (l.drop k) (T.val 0 (l.take k))
  rw [← T.val_append, List.take_append_drop] at h1
  omega
/-- what ReadNumber's first test asks -/
def headBad (l : List UInt8) : Prop := l = [] ∨ (1 < l.length ∧ l.head? = some 48)
theorem head_num {l : List UInt8} (h : ¬ headBad l) : T.numText l = l.all T.isD := by
  unfold T.numText
  rcases hl : l with _ | ⟨c, r⟩
  · exact absurd (.inl hl) h
  · have : ((c :: r) == [48] || ((c :: r) != [] && (c :: r).head? != some 48)) = true := by
      rcases r with _ | ⟨d, r⟩
      · simp [Classical.em]
      · have h2 : ¬ c = 48 := fun e => h (.inr (by rw [hl, e]; simp))
        simp [h2]
    rw [this, Bool.and_true]
theorem head_bad {l : List UInt8} (h : headBad l) : T.rdNum l = (0, 8) := by
  have : T.numText l = false := by
    unfold T.numText
    rcases h with rfl | ⟨h1, h2⟩
    · rfl
    · rcases l with _ | ⟨c, r⟩
      · simp at h1
      · rcases r with _ | ⟨d, r⟩
        · simp at h1
        · simp at h2
          subst h2
          simp
  unfold T.rdNum
  rw [this]
  rfl
theorem rn_bad {l : List UInt8} {c : UInt8} (hm : c ∈ l) (hc : T.isD c = false) : T.rdNum l = (0, 8) := by
  unfold T.rdNum
  have : T.numText l = false := by
    unfold T.numText
    have : l.all T.isD = false := by
      rw [List.all_eq_false]
      exact ⟨c, hm, by rw [hc]; simp⟩
    rw [this, Bool.false_and]
  rw [this]
  rfl
theorem rn_long {l : List UInt8} (h : T.numText l = true) (hv : ¬ T.val 0 l < 18446744073709551616) : T.rdNum l = (0, 11) := by
  unfold T.rdNum
  rw [if_pos h, if_neg hv]
theorem rn_ok {l : List UInt8} (h : T.numText l = true) (hv : T.val 0 l < 18446744073709551616) : T.rdNum l = (T.val 0 l, 0) := by
  unfold T.rdNum
  rw [if_pos h, if_pos hv]
theorem byte_get' (s : ByteArray) (pos : Nat) (h : pos < s.size) : s.data.toList[pos]? = some (s[pos]'h) := by
  have hl : pos < s.data.toList.length := by simpa using h
  rw [List.getElem?_eq_getElem hl]
  rfl
theorem head_get (s : ByteArray) (h : 0 < s.size) : s.data.toList.head? = some (s[0]'h) := by
  rw [List.head?_eq_getElem?]
  exact byte_get' s 0 h

theorem rreadNumber_head (s : ByteArray) (w : World) (hs : s.size < 4294967281) (h : headBad s.data.toList) :
    Calls Tryd.prog 7 #[.string s] w fun e w' => e = .returned (.tuple #[.int .u64 0, .int .i64 8]) ∧ w = w' := by
  rcases h with h | ⟨h1, h2⟩
  · have h0 : s.size = 0 := by have := congrArg List.length h; simpa using this
    clear h
    go_enter Tryd.func7, Tryd.ntmps7
    go_wp2
    go_ret2
    exact ⟨rfl, rfl⟩
  · have h3 : 1 < s.size := by simpa using h1
    have h4 : 0 < s.size := by omega
    rw [head_get s h4] at h2
    have h5 : ((s[0]'h4).toNat : Int) = 48 := by
      have := Option.some.inj h2
      rw [this]; rfl
    have h6 : ((s.size : Int) == 0) = false := by rw [beq_eq_false_iff_ne]; omega
    clear h1 h2
    go_enter Tryd.func7, Tryd.ntmps7
    go_wp2
    go_ret2
    exact ⟨rfl, rfl⟩
theorem rreadNumber_main (s : ByteArray) (w : World) (hs : s.size < 4294967281) (h0 : 0 < s.size) (hc : s.size = 1 ∨ (1 < s.size ∧ (s[0]'h0).toNat ≠ 48)) (hn : T.numText s.data.toList = s.data.toList.all T.isD) :
    Calls Tryd.prog 7 #[.string s] w fun e w' => e = .returned (.tuple #[.int .u64 ((T.rdNum s.data.toList).1 : Int), .int .i64 ((T.rdNum s.data.toList).2 : Int)]) ∧ w = w' := by
  have hz : ((s.size : Int) == 0) = false := by rw [beq_eq_false_iff_ne]; omega
  have Hn := Lib.hid hn
  clear hn
  rcases hc with h1 | ⟨h1, h2⟩
  all_goals first
    | (have h3 : decide (1 < (s.size : Int)) = false := by rw [decide_eq_false_iff_not]; omega)
    | (have h3 : (((s[0]'h0).toNat : Int) == 48) = false := by rw [beq_eq_false_iff_ne]; omega)
  all_goals go_enter Tryd.func7, Tryd.ntmps7
  all_goals go_wp2
  all_goals clear h3 hz
  all_goals try clear h2
  all_goals
    clear h1
    go_loop [4] (fun i => ∃ k : Nat, k ≤ s.size ∧ i = .int .i64 k ∧ (s.data.toList.take k).all T.isD = true) (fun i => s.size - (intOf i).toNat)
    case atStart => exact ⟨0, Nat.zero_le _, rfl, by simp⟩
    case round =>
      obtain ⟨k, hk, rfl, hall⟩ := hrel
      by_cases hlt : k < s.size
      · have hb := byte_get' s k hlt
        by_cases hd : T.isD (s[k]'hlt) = true
        · obtain ⟨g1, g2⟩ := (T.isD_iff _).1 hd
          have hall' : Hid ((s.data.toList.take (k + 1)).all T.isD = true) := by
            show _ = _
            rw [List.take_add_one, hb, List.all_append, hall]
            simpa using hd
          have f1 : decide (((s[k]'hlt).toNat : Int) < 48) = false := by rw [decide_eq_false_iff_not]; omega
          have f2 : decide (57 < ((s[k]'hlt).toNat : Int)) = false := by rw [decide_eq_false_iff_not]; omega
          clear hall hd hb g1 g2
          go_wp2
          go_round
          case rel => exact ⟨k + 1, by omega, by go_num, hall'.out⟩
          case measure => simp [intOf]; omega
        · have hd' : T.isD (s[k]'hlt) = false := by simpa using hd
          have hr := Lib.hid (rn_bad (List.mem_of_getElem? hb) hd')
          have hcase : ((s[k]'hlt).toNat : Int) < 48 ∨ (48 ≤ ((s[k]'hlt).toNat : Int) ∧ 57 < ((s[k]'hlt).toNat : Int)) := by
            have := mt (T.isD_iff _).2 hd
            omega
          clear hall hd hb hd'
          rcases hcase with g1 | ⟨g0, g1⟩
          · go_wp2
            go_ret2
            exact ⟨by rw [hr.out]; rfl, rfl⟩
          · go_wp2
            go_ret2
            exact ⟨by rw [hr.out]; rfl, rfl⟩
      · have hfull : s.data.toList.all T.isD = true := by rw [List.take_of_length_le (by simp; omega)] at hall; exact hall
        have Hnum := Lib.hid (Hn.out.trans hfull)
        clear hall hfull
        go_wp2
        clear hlt hk
        go_loop [5, 6] (fun u i => ∃ k : Nat, k ≤ s.size ∧ i = .int .i64 k ∧ u = .int .u64 (T.val 0 (s.data.toList.take k) : Int) ∧ T.val 0 (s.data.toList.take k) < 18446744073709551616) (fun _ i => s.size - (intOf i).toNat)
        case atStart => exact ⟨0, Nat.zero_le _, rfl, rfl, by simp [T.val]⟩
        case round =>
          obtain ⟨k, hk, rfl, rfl, hv⟩ := hrel
          by_cases hlt : k < s.size
          · have hb := byte_get' s k hlt
            have hd := List.all_eq_true.1 (T.numText_all Hnum.out) _ (List.mem_of_getElem? hb)
            obtain ⟨g1, g2⟩ := (T.isD_iff _).1 hd
            have hst := val_step s.data.toList k (s[k]'hlt) hb
            obtain ⟨V, hV⟩ : ∃ V, T.val 0 (s.data.toList.take k) = V := ⟨_, rfl⟩
            obtain ⟨c, hcc⟩ : ∃ c, (s[k]'hlt).toNat = c := ⟨_, rfl⟩
            rw [hV, hcc] at hst
            rw [hcc] at g1 g2
            rw [hV] at hv ⊢
            have hcI : ((s[k]'hlt).toNat : Int) = c := by rw [hcc]
            by_cases hbig : V * 10 + (c - 48) < 18446744073709551616
            · have f : decide ((18446744073709551615 - ((c : Int) - 48)) / 10 < (V : Int)) = false := by rw [decide_eq_false_iff_not]; omega
              have hst' := Lib.hid hst
              clear hd hst hV hb hcc
              go_wp2
              go_round
              case rel => exact ⟨k + 1, by omega, by go_num, by rw [hst'.out]; congr 1; omega, by rw [hst'.out]; exact hbig⟩
              case measure => simp [intOf]; omega
            · have f : decide ((18446744073709551615 - ((c : Int) - 48)) / 10 < (V : Int)) = true := by rw [decide_eq_true_eq]; omega
              have hr : Hid (T.rdNum s.data.toList = (0, 11)) := Lib.hid (rn_long Hnum.out (val_over _ (k + 1) (by rw [hst]; exact hbig)))
              clear hd hst hV hb hcc hbig
              go_wp2
              go_ret2
              exact ⟨by rw [hr.out]; rfl, rfl⟩
          · have he : s.data.toList.take k = s.data.toList := List.take_of_length_le (by simp; omega)
            rw [he] at hv ⊢
            have hr := Lib.hid (rn_ok Hnum.out hv)
            clear he hv
            go_wp2
            go_ret2
            exact ⟨by rw [hr.out]; rfl, rfl⟩
theorem rreadNumber_c (s : ByteArray) (w : World) (hs : s.size < 4294967281) :
    Calls Tryd.prog 7 #[.string s] w fun e w' => e = .returned (.tuple #[.int .u64 ((T.rdNum s.data.toList).1 : Int), .int .i64 ((T.rdNum s.data.toList).2 : Int)]) ∧ w = w' := by
  by_cases h : headBad s.data.toList
  · rw [head_bad h]
    exact rreadNumber_head s w hs h
  · have h0 : 0 < s.size := by
      rcases Nat.eq_zero_or_pos s.size with g | g
      · exact absurd (.inl (List.eq_nil_of_length_eq_zero (by simpa using g))) h
      · exact g
    refine rreadNumber_main s w hs h0 ?_ (head_num h)
    by_cases h1 : s.size = 1
    · exact .inl h1
    · refine .inr ⟨by omega, fun e => h (.inr ⟨by simp; omega, ?_⟩)⟩
      rw [head_get s h0]
      congr 1
      exact UInt8.toNat_inj.1 e

theorem rname_c (s : ByteArray) (w : World) (hs : s.size < 4294967281) :
    Calls Tryd.prog 14 #[.string s] w fun e w' => e = .returned (.bool (T.isName s.data.toList)) ∧ w = w' := by
  go_enter Tryd.func14, Tryd.ntmps14
  go_wp2
  go_loop [3] (fun i => ∃ k : Nat, k ≤ s.size ∧ i = .int .i64 k ∧ ∀ i, i < k → T.nameAt s.data.toList i = true) (fun i => s.size - (intOf i).toNat)
  case atStart => exact ⟨0, Nat.zero_le _, rfl, fun i h => absurd h (Nat.not_lt_zero _)⟩
  case round =>
    obtain ⟨k, hk, rfl, hall⟩ := hrel
    have Hall := Lib.hid hall
    clear hall
    by_cases hlt : k < s.size
    · have hat := T.nameAt_some (byte_get' s k hlt)
      have hbad : Hid (T.nameAt s.data.toList k = false → T.isName s.data.toList = false) := Lib.hid (fun h => T.isName_bad (by simpa using hlt) h)
      have hgood : Hid (T.nameAt s.data.toList k = true → ∀ i, i < k + 1 → T.nameAt s.data.toList i = true) := Lib.hid (fun h i hi => by
        rcases Nat.lt_or_ge i k with g | g
        · exact Hall.out i g
        · rw [show i = k by omega]; exact h)
      obtain ⟨c, hcc⟩ : ∃ c, s[k]'hlt = c := ⟨_, rfl⟩
      rw [hcc] at hat
      have hcI : ((s[k]'hlt).toNat : Int) = (c.toNat : Int) := by rw [hcc]
      clear hcc
      obtain ⟨x, hx⟩ : ∃ x, c.toNat = x := ⟨_, rfl⟩
      rw [hx] at hcI
      have hL : T.isL c = decide (97 ≤ x ∧ x ≤ 122) := by unfold T.isL; rw [hx]; simp
      have hD : T.isD c = decide (48 ≤ x ∧ x ≤ 57) := by unfold T.isD; rw [hx]; simp
      have hM : (c == 45) = decide (x = 45) := by
        rw [Bool.eq_iff_iff]
        simp only [beq_iff_eq, decide_eq_true_eq]
        exact ⟨fun e => by rw [← hx, e]; rfl, fun e => UInt8.toNat_inj.1 (by rw [hx, e]; rfl)⟩
      rw [hL, hD, hM] at hat
      have Hat := Lib.hid hat
      clear hat hL hD hM
      by_cases hl : 97 ≤ x ∧ x ≤ 122
      · obtain ⟨l1, l2⟩ := hl
        have f1 : decide (97 ≤ (x : Int)) = true := by rw [decide_eq_true_eq]; omega
        have f2 : decide ((x : Int) ≤ 122) = true := by rw [decide_eq_true_eq]; omega
        have hg := Lib.hid (hgood.out (by rw [Hat.out]; simp [l1, l2]))
        go_wp2
        go_round
        case rel => exact ⟨k + 1, by omega, by go_num, hg.out⟩
        case measure => simp [intOf]; omega
      · have hbase : T.nameAt s.data.toList k = (k != 0 && (decide (48 ≤ x ∧ x ≤ 57) || decide (x = 45))) := by rw [Hat.out, decide_eq_false hl, Bool.false_or]
        have Hbase := Lib.hid hbase
        clear hbase
        have hcase : (k = 0 ∧ x < 97) ∨ (k = 0 ∧ 122 < x) ∨ (k ≠ 0 ∧ x = 45) ∨ (k ≠ 0 ∧ x ≠ 45 ∧ 48 ≤ x ∧ x ≤ 57) ∨ (k ≠ 0 ∧ x ≠ 45 ∧ x < 48) ∨ (k ≠ 0 ∧ x ≠ 45 ∧ 57 < x ∧ x < 97) ∨ (k ≠ 0 ∧ x ≠ 45 ∧ 122 < x) := by omega
        clear hl
        rcases hcase with ⟨rfl, h1⟩ | ⟨rfl, h1⟩ | ⟨h0, rfl⟩ | ⟨h0, h45, h1, h2⟩ | ⟨h0, h45, h1⟩ | ⟨h0, h45, h1, h2⟩ | ⟨h0, h45, h1⟩
        · have f1 : decide (97 ≤ (x : Int)) = false := by rw [decide_eq_false_iff_not]; omega
          have hb := Lib.hid (hbad.out (by rw [Hbase.out]; rfl))
          go_wp2
          go_ret
          exact ⟨ret_bool hb.out.symm, rfl⟩
        · have f1 : decide (97 ≤ (x : Int)) = true := by rw [decide_eq_true_eq]; omega
          have f2 : decide ((x : Int) ≤ 122) = false := by rw [decide_eq_false_iff_not]; omega
          have hb := Lib.hid (hbad.out (by rw [Hbase.out]; rfl))
          go_wp2
          go_ret
          exact ⟨ret_bool hb.out.symm, rfl⟩
        · have hz : ((k : Int) == 0) = false := by rw [beq_eq_false_iff_ne]; omega
          have hg := Lib.hid (hgood.out (by rw [Hbase.out]; simp [h0]))
          clear h0
          go_wp2
          go_round
          case rel => exact ⟨k + 1, by omega, by go_num, hg.out⟩
          case measure => simp [intOf]; omega
        · have hz : ((k : Int) == 0) = false := by rw [beq_eq_false_iff_ne]; omega
          have hm : ((x : Int) != 45) = true := by rw [bne_iff_ne]; omega
          have f1 : decide (97 ≤ (x : Int)) = false := by rw [decide_eq_false_iff_not]; omega
          have f3 : decide ((x : Int) < 48) = false := by rw [decide_eq_false_iff_not]; omega
          have f4 : decide (57 < (x : Int)) = false := by rw [decide_eq_false_iff_not]; omega
          have hg := Lib.hid (hgood.out (by rw [Hbase.out]; simp [h0, h1, h2]))
          clear h0 h45
          go_wp2
          go_round
          case rel => exact ⟨k + 1, by omega, by go_num, hg.out⟩
          case measure => simp [intOf]; omega
        · have hz : ((k : Int) == 0) = false := by rw [beq_eq_false_iff_ne]; omega
          have hm : ((x : Int) != 45) = true := by rw [bne_iff_ne]; omega
          have f1 : decide (97 ≤ (x : Int)) = false := by rw [decide_eq_false_iff_not]; omega
          have f3 : decide ((x : Int) < 48) = true := by rw [decide_eq_true_eq]; omega
          have hb := Lib.hid (hbad.out (by rw [Hbase.out, decide_eq_false h45, decide_eq_false (show ¬ (48 ≤ x ∧ x ≤ 57) by omega)]; simp))
          clear h0 h45
          go_wp2
          go_ret
          exact ⟨ret_bool hb.out.symm, rfl⟩
        · have hz : ((k : Int) == 0) = false := by rw [beq_eq_false_iff_ne]; omega
          have hm : ((x : Int) != 45) = true := by rw [bne_iff_ne]; omega
          have f1 : decide (97 ≤ (x : Int)) = false := by rw [decide_eq_false_iff_not]; omega
          have f3 : decide ((x : Int) < 48) = false := by rw [decide_eq_false_iff_not]; omega
          have f4 : decide (57 < (x : Int)) = true := by rw [decide_eq_true_eq]; omega
          have hb := Lib.hid (hbad.out (by rw [Hbase.out, decide_eq_false h45, decide_eq_false (show ¬ (48 ≤ x ∧ x ≤ 57) by omega)]; simp))
          clear h0 h45
          go_wp2
          go_ret
          exact ⟨ret_bool hb.out.symm, rfl⟩
        · have hz : ((k : Int) == 0) = false := by rw [beq_eq_false_iff_ne]; omega
          have hm : ((x : Int) != 45) = true := by rw [bne_iff_ne]; omega
          have f1 : decide (97 ≤ (x : Int)) = true := by rw [decide_eq_true_eq]; omega
          have f2 : decide ((x : Int) ≤ 122) = false := by rw [decide_eq_false_iff_not]; omega
          have f3 : decide ((x : Int) < 48) = false := by rw [decide_eq_false_iff_not]; omega
          have f4 : decide (57 < (x : Int)) = true := by rw [decide_eq_true_eq]; omega
          have hb := Lib.hid (hbad.out (by rw [Hbase.out, decide_eq_false h45, decide_eq_false (show ¬ (48 ≤ x ∧ x ≤ 57) by omega)]; simp))
          clear h0 h45
          go_wp2
          go_ret
          exact ⟨ret_bool hb.out.symm, rfl⟩
    · have he : T.isName s.data.toList = decide (1 ≤ s.size ∧ s.size ≤ 32) := by
        rw [T.isName_all (fun i hi => Hall.out i (by simp at hi; omega))]
        simp
      have He := Lib.hid he
      clear he
      go_wp2
      all_goals go_ret
      all_goals refine ⟨ret_bool ?_, rfl⟩
      all_goals rw [He.out, Bool.eq_iff_iff]
      all_goals simp
      all_goals omega
end Go.Proofs.YtkhfjcaobjompaaDoor
