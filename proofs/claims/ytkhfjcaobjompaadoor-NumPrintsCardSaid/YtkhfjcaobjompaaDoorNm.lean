/-
  PLAIN MATHEMATICS of layer 2: texts as lists of bytes: numbers, points, boxes and names, as they are read and as they are printed; what is printed is read, and what is read is printed as it was. Nothing of the program is named here.
-/
import Derived.Test.YtkhfjcaobjompaaDoorZm
import Derived.Lib.ItoaNum
import Derived.Lib.ParseIntB
import Derived.Lib.LastIndexLaws
import Derived.Lib.Join
namespace Go.Proofs.YtkhfjcaobjompaaDoor.T
open Go

/-! ### Numbers -/
def isD (c : UInt8) : Bool := decide (48 ≤ c.toNat) && decide (c.toNat ≤ 57)
theorem isD_iff (c : UInt8) : isD c = true ↔ 48 ≤ c.toNat ∧ c.toNat ≤ 57 := by simp [isD]
def numText (l : List UInt8) : Bool := l.all isD && (l == [48] || (l != [] && l.head? != some 48))
def val (acc : Nat) (l : List UInt8) : Nat := l.foldl (fun a c => a * 10 + (c.toNat - 48)) acc
/-- the number whose text l is, and the code -/
def rdNum (l : List UInt8) : Nat × Nat :=
  if numText l = true then (if val 0 l < 18446744073709551616 then (val 0 l, 0) else (0, 11)) else (0, 8)

theorem head_app {α : Type} {l m : List α} (h : l ≠ []) : (l ++ m).head? = l.head? := by
  cases l with
  | nil => exact absurd rfl h
  | cons x r => rfl
theorem val_nil (a : Nat) : val a [] = a := rfl
theorem val_cons (a : Nat) (c : UInt8) (l : List UInt8) : val a (c :: l) = val (a * 10 + (c.toNat - 48)) l := by unfold val; rw [List.foldl_cons]
theorem val_snoc (a : Nat) (l : List UInt8) (c : UInt8) : val a (l ++ [c]) = val a l * 10 + (c.toNat - 48) := by simp [val, List.foldl_append]
theorem val_append (a : Nat) (l m : List UInt8) : val a (l ++ m) = val (val a l) m := by simp [val, List.foldl_append]
theorem val_ge : ∀ (l : List UInt8) (a : Nat), a ≤ val a l
  | [], a => Nat.le_refl a
  | c :: l, a => by
    rw [val_cons]
    have := val_ge l (a * 10 + (c.toNat - 48))
    omega
theorem numText_all {l : List UInt8} (h : numText l = true) : l.all isD = true := by
  unfold numText at h
  simp only [Bool.and_eq_true] at h
  exact h.1
theorem numText_ne {l : List UInt8} (h : numText l = true) : l ≠ [] := by
  rintro rfl
  simp [numText] at h
theorem numText_iff (l : List UInt8) : numText l = true ↔ l.all isD = true ∧ (l = [48] ∨ (l ≠ [] ∧ l.head? ≠ some 48)) := by
  simp [numText]
theorem parse_digits : ∀ (l : List UInt8) (acc : Nat), l.all isD = true → acc < 18446744073709551616 →
    Lib.parseUintM 18446744073709551615 acc l = if val acc l < 18446744073709551616 then .ok (val acc l) else .range
  | [], acc, _, ha => by simp [Lib.parseUintM, val_nil, ha]
  | c :: l, acc, h, ha => by
    simp only [List.all_cons, Bool.and_eq_true] at h
    obtain ⟨h1, h2⟩ := (isD_iff c).1 h.1
    have hge := val_ge l (acc * 10 + (c.toNat - 48))
    rw [Lib.parseUintM, if_pos ⟨h1, h2⟩, val_cons]
    by_cases g : 1844674407370955162 ≤ acc
    · rw [if_pos g, if_neg (by omega)]
    · rw [if_neg g]
      by_cases g2 : 18446744073709551615 < acc * 10 + (c.toNat - 48)
      · rw [if_pos g2, if_neg (by omega)]
      · rw [if_neg g2]
        exact parse_digits l _ h.2 (by omega)
theorem parse_num {l : List UInt8} (h : numText l = true) : Lib.parseUintB 64 l = if val 0 l < 18446744073709551616 then .ok (val 0 l) else .range := by
  unfold Lib.parseUintB
  rw [if_neg (numText_ne h)]
  exact parse_digits l 0 (numText_all h) (by omega)
theorem rdNum_lt (l : List UInt8) : (rdNum l).1 < 18446744073709551616 := by
  unfold rdNum
  split
  · split
    · assumption
    · simp
  · simp
theorem rdNum_code (l : List UInt8) : (rdNum l).2 = 0 ∨ (rdNum l).2 = 8 ∨ (rdNum l).2 = 11 := by
  unfold rdNum
  split
  · split <;> simp
  · simp
theorem rdNum_bad {l : List UInt8} (h : (rdNum l).2 ≠ 0) : (rdNum l).1 = 0 := by
  unfold rdNum at h ⊢
  split
  · split
    · rename_i h1 h2
      rw [if_pos h1, if_pos h2] at h
      exact absurd rfl h
    · rfl
  · rfl
theorem rdNum_zero {l : List UInt8} (h : (rdNum l).2 = 0) : numText l = true ∧ val 0 l < 18446744073709551616 ∧ (rdNum l).1 = val 0 l := by
  unfold rdNum at h ⊢
  split
  · rename_i h1
    rw [if_pos h1] at h
    split
    · rename_i h2
      exact ⟨h1, h2, rfl⟩
    · rename_i h2
      rw [if_neg h2] at h
      simp at h
  · rename_i h1
    rw [if_neg h1] at h
    simp at h

theorem dg_toNat (d : Nat) (h : d < 10) : (UInt8.ofNat (48 + d)).toNat = 48 + d := by
  rw [UInt8.toNat_ofNat']
  omega
theorem dec_val (u : Nat) : val 0 (Lib.decDigits u) = u := by
  induction u using Nat.strongRecOn with
  | ind u ih =>
    rw [Lib.decDigits]
    split
    · rename_i h
      rw [val_cons, val_nil, dg_toNat u h]
      omega
    · rename_i h
      rw [val_snoc, ih (u / 10) (by omega), dg_toNat (u % 10) (by omega)]
      omega
theorem dec_ne (u : Nat) : Lib.decDigits u ≠ [] := by
  rw [Lib.decDigits]
  split <;> simp
theorem dec_all (u : Nat) : (Lib.decDigits u).all isD = true := by
  induction u using Nat.strongRecOn with
  | ind u ih =>
    rw [Lib.decDigits]
    split
    · rename_i h
      simp only [List.all_cons, List.all_nil, Bool.and_true]
      rw [isD_iff, dg_toNat u h]
      omega
    · rename_i h
      rw [List.all_append, ih (u / 10) (by omega)]
      simp only [List.all_cons, List.all_nil, Bool.and_true, Bool.true_and]
      rw [isD_iff, dg_toNat (u % 10) (by omega)]
      omega
theorem dec_head (u : Nat) (h0 : 0 < u) : (Lib.decDigits u).head? ≠ some 48 := by
  induction u using Nat.strongRecOn with
  | ind u ih =>
    rw [Lib.decDigits]
    split
    · rename_i h
      simp only [List.head?_cons, ne_eq, Option.some.injEq]
      intro e
      have := congrArg UInt8.toNat e
      rw [dg_toNat u h] at this
      have : (48 : UInt8).toNat = 48 := rfl
      omega
    · rename_i h
      have hne := dec_ne (u / 10)
      rw [head_app hne]
      exact ih (u / 10) (by omega) (by omega)
theorem dec_num (u : Nat) : numText (Lib.decDigits u) = true := by
  rw [numText_iff]
  refine ⟨dec_all u, ?_⟩
  by_cases h : u = 0
  · subst h
    exact .inl (by rw [Lib.decDigits]; simp)
  · exact .inr ⟨dec_ne u, dec_head u (by omega)⟩
theorem rdNum_dec (u : Nat) (h : u < 18446744073709551616) : rdNum (Lib.decDigits u) = (u, 0) := by
  unfold rdNum
  rw [if_pos (dec_num u), dec_val, if_pos h]
theorem ofNat_dg {c : UInt8} (h : isD c = true) : UInt8.ofNat (48 + (c.toNat - 48)) = c := by
  obtain ⟨h1, h2⟩ := (isD_iff c).1 h
  rw [show 48 + (c.toNat - 48) = c.toNat by omega]
  exact UInt8.ofNat_toNat
theorem dec_back : ∀ (n : Nat) (l : List UInt8), l.length = n → l.all isD = true → l ≠ [] → l.head? ≠ some 48 → 0 < val 0 l ∧ Lib.decDigits (val 0 l) = l
  | 0, l, hn, _, hne, _ => absurd (List.eq_nil_of_length_eq_zero hn) hne
  | n + 1, l, hn, ha, hne, hh => by
    obtain ⟨p, c, rfl⟩ : ∃ p c, l = p ++ [c] := ⟨l.dropLast, l.getLast hne, (List.dropLast_concat_getLast hne).symm⟩
    rw [List.all_append] at ha
    simp only [List.all_cons, List.all_nil, Bool.and_true, Bool.and_eq_true] at ha
    obtain ⟨h1, h2⟩ := (isD_iff c).1 ha.2
    rw [val_snoc]
    by_cases hp : p = []
    · subst hp
      have h48 : c.toNat ≠ 48 := by
        intro e
        apply hh
        simp only [List.nil_append, List.head?_cons]
        congr 1
        exact UInt8.toNat_inj.1 e
      rw [val_nil, Lib.decDigits, dif_pos (by omega)]
      refine ⟨by omega, ?_⟩
      rw [show 48 + (0 * 10 + (c.toNat - 48)) = 48 + (c.toNat - 48) by omega, ofNat_dg ha.2]
      rfl
    · rw [head_app hp] at hh
      obtain ⟨i1, i2⟩ := dec_back n p (by simpa using hn) ha.1 hp hh
      refine ⟨by omega, ?_⟩
      rw [Lib.decDigits, dif_neg (by omega), show (val 0 p * 10 + (c.toNat - 48)) / 10 = val 0 p by omega, show (val 0 p * 10 + (c.toNat - 48)) % 10 = c.toNat - 48 by omega, i2, ofNat_dg ha.2]
theorem dec_of_num {l : List UInt8} (h : numText l = true) : Lib.decDigits (val 0 l) = l := by
  obtain ⟨ha, hc⟩ := (numText_iff l).1 h
  rcases hc with rfl | ⟨hne, hh⟩
  · decide +kernel
  · exact (dec_back _ l rfl ha hne hh).2

/-! ### Lists by commas -/
def split (c : UInt8) : List UInt8 → List (List UInt8)
  | [] => [[]]
  | b :: r => if b = c then [] :: split c r else
      match split c r with
      | [] => [[b]]
      | p :: ps => (b :: p) :: ps
theorem split_ne (c : UInt8) (l : List UInt8) : split c l ≠ [] := by
  cases l with
  | nil => simp [split]
  | cons b r =>
    unfold split
    split
    · simp
    · split <;> simp
theorem split_none (c : UInt8) : ∀ (l : List UInt8), (∀ b ∈ l, b ≠ c) → split c l = [l]
  | [], _ => rfl
  | b :: r, h => by
    unfold split
    rw [if_neg (h b (List.mem_cons_self ..)), split_none c r (fun x hx => h x (List.mem_cons_of_mem _ hx))]
theorem split_at (c : UInt8) : ∀ (a r : List UInt8), (∀ b ∈ a, b ≠ c) → split c (a ++ c :: r) = a :: split c r
  | [], r, _ => by
    show split c (c :: r) = _
    rw [split, if_pos rfl]
  | b :: a, r, h => by
    show split c (b :: (a ++ c :: r)) = _
    rw [split, if_neg (h b (List.mem_cons_self ..)), split_at c a r (fun x hx => h x (List.mem_cons_of_mem _ hx))]
theorem join_cons2 (x y : List UInt8) (r : List (List UInt8)) (c : UInt8) : Lib.join (x :: y :: r) [c] = x ++ c :: Lib.join (y :: r) [c] := by
  rw [Lib.join_cons, Lib.join_cons]
  simp [Lib.joinTail]
theorem join_split (c : UInt8) : ∀ (l : List UInt8), Lib.join (split c l) [c] = l
  | [] => by simp [split, Lib.join_one]
  | b :: r => by
    have ih := join_split c r
    unfold split
    split
    · rename_i h
      subst h
      obtain ⟨p, ps, e⟩ := List.exists_cons_of_ne_nil (split_ne b r)
      rw [e] at ih ⊢
      rw [join_cons2, ih]
      rfl
    · split
      · rename_i e
        exact absurd e (split_ne c r)
      · rename_i p ps e
        rw [e] at ih
        cases ps with
        | nil => rw [Lib.join_one] at ih ⊢; rw [ih]
        | cons q ps => rw [join_cons2] at ih ⊢; rw [← ih]; rfl
theorem split_join (c : UInt8) : ∀ (ps : List (List UInt8)), ps ≠ [] → (∀ p ∈ ps, ∀ b ∈ p, b ≠ c) → split c (Lib.join ps [c]) = ps
  | [], h, _ => absurd rfl h
  | [p], _, h => by rw [Lib.join_one]; exact split_none c p (h p (List.mem_cons_self ..))
  | p :: q :: ps, _, h => by
    rw [join_cons2, split_at c p _ (h p (List.mem_cons_self ..)), split_join c (q :: ps) (by simp) (fun x hx => h x (List.mem_cons_of_mem _ hx))]
theorem split_length_le (c : UInt8) : ∀ (l : List UInt8), (split c l).length ≤ l.length + 1
  | [] => by simp [split]
  | b :: r => by
    have ih := split_length_le c r
    unfold split
    split
    · simp; omega
    · split
      · simp
      · rename_i p ps e
        rw [e] at ih
        simp at ih ⊢; omega

/-! ### Points -/
def rdParts : List (List UInt8) → List Nat × Nat
  | [] => ([], 0)
  | p :: ps => if (rdNum p).2 = 0 then (if (rdParts ps).2 = 0 then ((rdNum p).1 :: (rdParts ps).1, 0) else ([], (rdParts ps).2)) else ([], (rdNum p).2)
def nums (ps : List (List UInt8)) : List Nat := ps.map fun p => (rdNum p).1
def AllOk (ps : List (List UInt8)) : Prop := ∀ p ∈ ps, (rdNum p).2 = 0
/-- the point whose text l is, and the code -/
def rdPoint (l : List UInt8) : List Nat × Nat :=
  if (rdParts (split 44 l)).2 = 0 ∧ 16 < (rdParts (split 44 l)).1.length then ([], 2) else rdParts (split 44 l)
theorem rdParts_ok : ∀ (ps : List (List UInt8)), AllOk ps → rdParts ps = (nums ps, 0)
  | [], _ => rfl
  | p :: ps, h => by
    have ih := rdParts_ok ps (fun x hx => h x (List.mem_cons_of_mem _ hx))
    rw [rdParts, if_pos (h p (List.mem_cons_self ..)), ih, if_pos rfl]
    rfl
theorem rdParts_bad : ∀ (pre : List (List UInt8)) (p : List UInt8) (post : List (List UInt8)), AllOk pre → (rdNum p).2 ≠ 0 → rdParts (pre ++ p :: post) = ([], (rdNum p).2)
  | [], p, post, _, hp => by
    show rdParts (p :: post) = _
    rw [rdParts, if_neg hp]
  | q :: pre, p, post, h, hp => by
    have ih := rdParts_bad pre p post (fun x hx => h x (List.mem_cons_of_mem _ hx)) hp
    show rdParts (q :: (pre ++ p :: post)) = _
    rw [rdParts, if_pos (h q (List.mem_cons_self ..)), ih, if_neg hp]
theorem rdParts_zero : ∀ (ps : List (List UInt8)), (rdParts ps).2 = 0 → AllOk ps
  | [], _ => fun _ h => by simp at h
  | p :: ps, h => by
    rw [rdParts] at h
    split at h
    · rename_i h1
      split at h
      · rename_i h2
        intro x hx
        rcases List.mem_cons.1 hx with rfl | hx
        · exact h1
        · exact rdParts_zero ps h2 x hx
      · rename_i h2
        exact absurd h h2
    · rename_i h1
      exact absurd h h1
theorem rdParts_err {ps : List (List UInt8)} (h : (rdParts ps).2 ≠ 0) : (rdParts ps).1 = [] := by
  cases ps with
  | nil => rfl
  | cons p ps =>
    rw [rdParts] at h ⊢
    split
    · rename_i h1
      rw [if_pos h1] at h
      split
      · rename_i h2
        rw [if_pos h2] at h
        exact absurd rfl h
      · rfl
    · rfl
theorem rdPoint_ok {l : List UInt8} (h : AllOk (split 44 l)) (h16 : (split 44 l).length ≤ 16) : rdPoint l = (nums (split 44 l), 0) := by
  unfold rdPoint
  rw [rdParts_ok _ h, if_neg (by simp [nums]; omega)]
theorem rdPoint_many {l : List UInt8} (h : AllOk (split 44 l)) (h16 : 16 < (split 44 l).length) : rdPoint l = ([], 2) := by
  unfold rdPoint
  rw [rdParts_ok _ h, if_pos ⟨rfl, by simpa [nums] using h16⟩]
theorem rdPoint_bad {l p : List UInt8} {pre post : List (List UInt8)} (h : split 44 l = pre ++ p :: post) (ho : AllOk pre) (hp : (rdNum p).2 ≠ 0) : rdPoint l = ([], (rdNum p).2) := by
  unfold rdPoint
  rw [h, rdParts_bad pre p post ho hp, if_neg (by simp)]
theorem nums_ok (ps : List (List UInt8)) : Z.Ok (nums ps) := by
  intro u hu
  simp only [nums, List.mem_map] at hu
  obtain ⟨p, _, rfl⟩ := hu
  exact rdNum_lt p
/-- what a point's text is -/
def ptText (us : List Nat) : List UInt8 := Lib.join (us.map Lib.decDigits) [44]
theorem dec_of_ok {p : List UInt8} (h : (rdNum p).2 = 0) : Lib.decDigits (rdNum p).1 = p := by
  obtain ⟨h1, _, h3⟩ := rdNum_zero h
  rw [h3, dec_of_num h1]
theorem rdPoint_spec {l : List UInt8} (h : (rdPoint l).2 = 0) :
    1 ≤ (rdPoint l).1.length ∧ (rdPoint l).1.length ≤ 16 ∧ Z.Ok (rdPoint l).1 ∧ ptText (rdPoint l).1 = l := by
  have hnn : (rdParts (split 44 l)).2 = 0 := by
    unfold rdPoint at h
    split at h
    · rename_i h1; exact h1.1
    · exact h
  have hok := rdParts_zero _ hnn
  have hlen : (split 44 l).length ≤ 16 := by
    rcases Nat.lt_or_ge 16 (split 44 l).length with h1 | h1
    · rw [rdPoint_many hok h1] at h; simp at h
    · exact h1
  rw [rdPoint_ok hok hlen]
  have hne := split_ne 44 l
  have : 1 ≤ (split 44 l).length := by
    rcases Nat.eq_zero_or_pos (split 44 l).length with h0 | h0
    · exact absurd (List.eq_nil_of_length_eq_zero h0) hne
    · exact h0
  refine ⟨by simpa [nums] using this, by simpa [nums] using hlen, nums_ok _, ?_⟩
  unfold ptText nums
  rw [List.map_map]
  have e : (split 44 l).map (Lib.decDigits ∘ fun p => (rdNum p).1) = split 44 l := by
    conv => rhs; rw [← List.map_id (split 44 l)]
    exact List.map_congr_left fun p hp => dec_of_ok (hok p hp)
  rw [e]
  exact join_split 44 l
theorem digit_ne {c b : UInt8} (hb : isD b = true) (hc : isD c = false) : b ≠ c := by
  rintro rfl
  rw [hb] at hc
  cases hc
theorem dec_no (u : Nat) (c : UInt8) (hc : isD c = false) : ∀ b ∈ Lib.decDigits u, b ≠ c := fun b hb => digit_ne (List.all_eq_true.1 (dec_all u) b hb) hc
theorem split_pt {us : List Nat} (hne : us ≠ []) : split 44 (ptText us) = us.map Lib.decDigits := by
  unfold ptText
  refine split_join 44 _ (by simpa using hne) ?_
  intro p hp
  simp only [List.mem_map] at hp
  obtain ⟨u, _, rfl⟩ := hp
  exact dec_no u 44 (by decide)
theorem rdPoint_pt {us : List Nat} (h1 : 1 ≤ us.length) (h16 : us.length ≤ 16) (hok : Z.Ok us) : rdPoint (ptText us) = (us, 0) := by
  have hne : us ≠ [] := by rintro rfl; simp at h1
  have e := split_pt hne
  rw [rdPoint_ok (by
    rw [e]
    intro p hp
    simp only [List.mem_map] at hp
    obtain ⟨u, hu, rfl⟩ := hp
    rw [rdNum_dec u (hok u hu)]) (by rw [e]; simpa using h16), e]
  unfold nums
  rw [List.map_map]
  have : us.map ((fun p => (rdNum p).1) ∘ Lib.decDigits) = us := by
    conv => rhs; rw [← List.map_id us]
    exact List.map_congr_left fun u hu => by simp [rdNum_dec u (hok u hu)]
  rw [this]

theorem rdPoint_err {l : List UInt8} (h : (rdPoint l).2 ≠ 0) : (rdPoint l).1 = [] := by
  unfold rdPoint at h ⊢
  split
  · rfl
  · rename_i h1
    rw [if_neg h1] at h
    exact rdParts_err h
theorem rdPoint_lt (l : List UInt8) : Z.Ok (rdPoint l).1 ∧ (rdPoint l).1.length ≤ 16 := by
  by_cases h : (rdPoint l).2 = 0
  · obtain ⟨_, h2, h3, _⟩ := rdPoint_spec h
    exact ⟨h3, h2⟩
  · rw [rdPoint_err h]
    exact ⟨fun _ h => by simp at h, by simp⟩

end Go.Proofs.YtkhfjcaobjompaaDoor.T
