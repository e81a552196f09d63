/-
  SLOTS IN MEMORY ('Sp': sparse, 'De': dense), and CONTRACTS of package slots, first part: K, Dense, Len, isAddr, New.
-/
import Derived.Test.YtgplbbmenmbaaaaVr
import Derived.Test.YtgplbbmenmbaaaaBi
import Derived.Test.YtgplbbmenmbaaaaSm
namespace Go.Proofs.Ytgplbbmenmbaaaa.Sn
open Go.ChangeShapes Go.WideShapes Go.ChangeAt Go.RowKit

abbrev Al := List (Nat × Option Addr)
def elV (xs : List (Option Addr)) : List Value := xs.map fun x => (Value.pointer (x))
def u16V (ks : List Nat) : List Value := ks.map fun (k : Nat) => Value.int .u16 (k : Int)
theorem elV_length (xs : List (Option Addr)) : (elV xs).length = xs.length := by simp [elV]
theorem u16V_length (ks : List Nat) : (u16V ks).length = ks.length := by simp [u16V]
theorem elV_get {xs : List (Option Addr)} {i : Nat} {x : Option Addr} (h : xs[i]? = some x) : (elV xs)[i]? = some (Value.pointer (x)) := by simp [elV, h]
theorem u16V_get {ks : List Nat} {i k : Nat} (h : ks[i]? = some k) : (u16V ks)[i]? = some (.int .u16 (k : Int)) := by simp [u16V, h]
theorem elV_one (xs : List (Option Addr)) : ∀ u ∈ elV xs, u.oneCell' = true := by
  intro u hu
  simp only [elV, List.mem_map] at hu
  obtain ⟨n, _, rfl⟩ := hu
  rfl
theorem u16V_one (ks : List Nat) : ∀ u ∈ u16V ks, u.oneCell' = true := by
  intro u hu
  simp only [u16V, List.mem_map] at hu
  obtain ⟨n, _, rfl⟩ := hu
  rfl

/-- SPARSE SLOTS IN BLOCK b: a cell for each thing. -/
def Sp (w : World) (B b k : Nat) (L : Al) : Prop :=
  b < B ∧ ∃ A c C c', w.cell? ⟨b, 0, none⟩ = some (.int .i64 (k : Int)) ∧ w.cell? ⟨b, 1, none⟩ = some (.int .u64 0) ∧
    w.cell? ⟨b, 2, none⟩ = some (.slice A L.length c) ∧ w.cell? ⟨b, 3, none⟩ = some (.slice C L.length c') ∧ L.length ≤ c ∧ L.length ≤ c' ∧
    RdV w B A (u16V (Sl.keys L)) ∧ RdV w B C (elV (Sl.things L))
/-- DENSE SLOTS IN BLOCK b: a cell for each address. -/
def De (w : World) (B b k : Nat) (L : Al) : Prop :=
  b < B ∧ k ≤ 6 ∧ L ≠ [] ∧ ∃ P C c', w.cell? ⟨b, 0, none⟩ = some (.int .i64 (k : Int)) ∧ w.cell? ⟨b, 1, none⟩ = some (.int .u64 (Sl.mask L : Int)) ∧
    w.cell? ⟨b, 2, none⟩ = some P ∧ w.cell? ⟨b, 3, none⟩ = some (.slice C (2 ^ k) c') ∧ 2 ^ k ≤ c' ∧ (∃ A n c, P = .slice A n c) ∧ RdV w B C (elV (Sl.row none (2 ^ k) L))
def Rp (w : World) (B b k : Nat) (L : Al) : Bool → Prop
  | false => Sp w B b k L
  | true => De w B b k L
/-- slots as they are kept -/
def At (w : World) (B b k : Nat) (L : Al) : Prop := Sl.Wf k L ∧ Rp w B b k L (Sl.dense k L)
theorem Sp.below {w w' : World} {B B' C b k : Nat} {L : Al} (h : Sp w B b k L) (hb : Below C w w') (hC : B ≤ C) (hB : B ≤ B') : Sp w' B' b k L := by
  obtain ⟨h0, A, c, D, c', h1, h2, h3, h4, h5, h6, h7, h8⟩ := h
  exact ⟨by omega, A, c, D, c', (hb.cell (p := ⟨b, 0, none⟩) (by show b < C; omega)).trans h1, (hb.cell (p := ⟨b, 1, none⟩) (by show b < C; omega)).trans h2, (hb.cell (p := ⟨b, 2, none⟩) (by show b < C; omega)).trans h3, (hb.cell (p := ⟨b, 3, none⟩) (by show b < C; omega)).trans h4, h5, h6, h7.below hb hC hB, h8.below hb hC hB⟩
theorem De.below {w w' : World} {B B' C b k : Nat} {L : Al} (h : De w B b k L) (hb : Below C w w') (hC : B ≤ C) (hB : B ≤ B') : De w' B' b k L := by
  obtain ⟨h0, hk, hL, P, D, c', h1, h2, h3, h4, h5, h6, h7⟩ := h
  exact ⟨by omega, hk, hL, P, D, c', (hb.cell (p := ⟨b, 0, none⟩) (by show b < C; omega)).trans h1, (hb.cell (p := ⟨b, 1, none⟩) (by show b < C; omega)).trans h2, (hb.cell (p := ⟨b, 2, none⟩) (by show b < C; omega)).trans h3, (hb.cell (p := ⟨b, 3, none⟩) (by show b < C; omega)).trans h4, h5, h6, h7.below hb hC hB⟩
theorem Rp.below {w w' : World} {B B' C b k : Nat} {L : Al} {d : Bool} (h : Rp w B b k L d) (hb : Below C w w') (hC : B ≤ C) (hB : B ≤ B') : Rp w' B' b k L d := by
  cases d
  · exact Sp.below h hb hC hB
  · exact De.below h hb hC hB
theorem At.below {w w' : World} {B B' C b k : Nat} {L : Al} (h : At w B b k L) (hb : Below C w w') (hC : B ≤ C) (hB : B ≤ B') : At w' B' b k L := ⟨h.1, h.2.below hb hC hB⟩
theorem Sp.drew {w : World} {B b k : Nat} {L : Al} (h : Sp w B b k L) : Sp w.drew B b k L := h
theorem De.drew {w : World} {B b k : Nat} {L : Al} (h : De w B b k L) : De w.drew B b k L := h

/-! ### K, Dense -/
theorem rp_k {w : World} {B b k : Nat} {L : Al} {d : Bool} (h : Rp w B b k L d) : w.cell? ⟨b, 0, none⟩ = some (.int .i64 (k : Int)) := by
  cases d
  · obtain ⟨_, _, _, _, _, h1, _⟩ := h; exact h1
  · obtain ⟨_, _, _, _, _, _, h1, _⟩ := h; exact h1
theorem rp_lt {w : World} {B b k : Nat} {L : Al} {d : Bool} (h : Rp w B b k L d) : b < B := by
  cases d
  · exact h.1
  · exact h.1
theorem sDense_nil (w : World) : Calls Try.prog 38 #[.pointer none] w fun e w' => e = .returned (.bool false) ∧ w = w' := by
  go_enter Try.func38, Try.ntmps38
  go_wp2
  go_ret
  exact ⟨rfl, rfl⟩
theorem sDense_c {w : World} {B b k : Nat} {L : Al} {d : Bool} (h : Rp w B b k L d) :
    Calls Try.prog 38 #[.pointer (some ⟨b, 0, none⟩)] w fun e w' => e = .returned (.bool d) ∧ w = w' := by
  cases d
  · obtain ⟨_, _, _, _, _, _, h1, _⟩ := h
    go_enter Try.func38, Try.ntmps38
    go_wp2
    go_ret
    exact ⟨rfl, rfl⟩
  · obtain ⟨_, _, hL, _, _, _, _, h1, _⟩ := h
    have hne := Sl.mask_pos hL
    have hn : ((Sl.mask L : Int) != 0) = true := by rw [bne_iff_ne]; omega
    clear hne
    go_enter Try.func38, Try.ntmps38
    go_wp2
    go_ret
    exact ⟨rfl, rfl⟩
theorem sLen_nil (w : World) : Calls Try.prog 45 #[.pointer none] w fun e w' => e = .returned (.int .i64 0) ∧ w = w' := by
  go_enter Try.func45, Try.ntmps45
  go_wp2
  go_ret
  exact ⟨rfl, rfl⟩
theorem sLen_c {w : World} {B b k : Nat} {L : Al} {d : Bool} (wf : Sl.Wf k L) (h : Rp w B b k L d) :
    Calls Try.prog 45 #[.pointer (some ⟨b, 0, none⟩)] w fun e w' => e = .returned (.int .i64 (L.length : Int)) ∧ w = w' := by
  have h0 := sDense_c h
  cases d
  · obtain ⟨_, _, _, _, _, _, h1, h2, _⟩ := h
    have hl := wf.len16
    have H0 := Lib.hid h0
    clear h0 wf
    go_enter Try.func45, Try.ntmps45
    go_wp2_with (go_at_call 38; refine H0.out.mono ?_; rintro e w' ⟨rfl, rfl⟩)
    go_ret
    exact ⟨rfl, rfl⟩
  · obtain ⟨_, hk, _, _, _, _, _, h1, _⟩ := h
    have hm := Sl.mask_lt (wf.lt64 hk)
    have hones : Hid (Pc.ones 64 (Sl.mask L) = L.length) := Lib.hid (Sl.ones_len wf.srt (wf.lt64 hk))
    have H0 := Lib.hid h0
    clear h0 wf hk
    go_enter Try.func45, Try.ntmps45
    go_wp2_with (first
      | (go_at_call 38; refine H0.out.mono ?_; rintro e w' ⟨rfl, rfl⟩)
      | (go_at_call 63; refine (ones64_any (Sl.mask L) _ (by omega)).mono ?_; rintro e w' ⟨rfl, rfl⟩))
    go_ret
    exact ⟨by rw [hones.out]; rfl, rfl⟩

/-! ### isAddr -/
/-- is a number an address? -/
def isA (k : Nat) (a : Int) : Bool := decide (0 ≤ a) && decide (a < ((2 ^ k : Nat) : Int))
theorem isA_true {k : Nat} {a : Int} (h : isA k a = true) : ∃ n : Nat, a = (n : Int) ∧ n < 2 ^ k := by
  simp only [isA, Bool.and_eq_true, decide_eq_true_eq] at h
  exact ⟨a.toNat, by omega, by omega⟩
theorem isA_nat {k n : Nat} (h : n < 2 ^ k) : isA k (n : Int) = true := by
  simp only [isA, Bool.and_eq_true, decide_eq_true_eq]
  omega
theorem isA_not {k : Nat} {a : Int} (h : isA k a = false) : a < 0 ∨ ((2 ^ k : Nat) : Int) ≤ a := by
  simp only [isA, Bool.and_eq_false_iff, decide_eq_false_iff_not] at h
  omega
theorem has_isA {k : Nat} {L : Al} (wf : Sl.Wf k L) {a : Int} (h : isA k a = false) : Sl.get L a = none := by
  cases e : Sl.get L a with
  | none => rfl
  | some v =>
    obtain ⟨n, hn, hm⟩ := Sl.get_mem L a v e
    have := wf.lt _ hm
    rw [hn, isA_nat this] at h
    cases h
set_option maxRecDepth 100000 in
theorem sIsAddr_c {w : World} {B b k : Nat} {L : Al} {d : Bool} (k1 : 1 ≤ k) (k16 : k ≤ 16) (h : Rp w B b k L d) (a : Int) (r : Bool) (hr : isA k a = r) :
    Calls Try.prog 59 #[.pointer (some ⟨b, 0, none⟩), .int .i64 a] w fun e w' => e = .returned (.bool r) ∧ w = w' := by
  have h1 := rp_k h
  have hp : 2 ^ k ≤ 65536 := Nat.pow_le_pow_right (n := 2) (by omega) k16
  have hp0 := Nat.two_pow_pos k
  have hw : wrap64 (2 ^ k) = ((2 ^ k : Nat) : Int) := by
    rw [show (2 : Int) ^ k = ((2 ^ k : Nat) : Int) by simp]; exact IntWalk.wrap64_in _ (by omega)
  obtain ⟨P, hP⟩ : ∃ P, 2 ^ k = P := ⟨_, rfl⟩
  unfold isA at hr
  rw [hP] at hw hr hp hp0
  clear h hP
  by_cases c : 0 ≤ a
  · have d1 : decide (0 ≤ a) = true := decide_eq_true c
    rw [d1, Bool.true_and] at hr
    have Hr := Lib.hid hr
    clear hr c
    go_enter Try.func59, Try.ntmps59
    go_wp2
    all_goals go_ret
    all_goals exact ⟨by rw [← Hr.out]; rfl, rfl⟩
  · have d1 : decide (0 ≤ a) = false := decide_eq_false c
    rw [d1, Bool.false_and] at hr
    subst hr
    clear c
    go_enter Try.func59, Try.ntmps59
    go_wp2
    all_goals go_ret
    all_goals exact ⟨rfl, rfl⟩

/-! ### New -/
theorem sNew_no (k : Int) (w : World) (h : k < 1 ∨ 16 < k) :
    Calls Try.prog 23 #[.int .i64 k] w fun e w' => e = .returned (.tuple #[.pointer none, .int .i64 3]) ∧ w = w' := by
  by_cases c : k < 1
  · have d1 : decide (k < 1) = true := decide_eq_true c
    clear c h
    go_enter Try.func23, Try.ntmps23
    go_wp2
    go_ret2
    exact ⟨rfl, rfl⟩
  · have d1 : decide (k < 1) = false := decide_eq_false c
    have d2 : decide (16 < k) = true := decide_eq_true (by omega)
    clear c h
    go_enter Try.func23, Try.ntmps23
    go_wp2
    go_ret2
    exact ⟨rfl, rfl⟩
/-- what a block holds that was just made -/
theorem cells4 (w : World) (x y z u : Value) (t : TypeId) : (w.alloc (.cells #[x, y, z, u] t)).cell? ⟨w.heap.size, 0, none⟩ = some x ∧ (w.alloc (.cells #[x, y, z, u] t)).cell? ⟨w.heap.size, 1, none⟩ = some y ∧ (w.alloc (.cells #[x, y, z, u] t)).cell? ⟨w.heap.size, 2, none⟩ = some z ∧ (w.alloc (.cells #[x, y, z, u] t)).cell? ⟨w.heap.size, 3, none⟩ = some u :=
  ⟨by rw [World.cell?_alloc_new]; rfl, by rw [World.cell?_alloc_new]; rfl, by rw [World.cell?_alloc_new]; rfl, by rw [World.cell?_alloc_new]; rfl⟩
theorem sp_new (w : World) (k : Nat) : Sp (w.alloc (.cells #[.int .i64 (k : Int), .int .u64 0, .slice none 0 0, .slice none 0 0] 81)) (w.heap.size + 1) w.heap.size k [] := by
  obtain ⟨h0, h1, h2, h3⟩ := cells4 w (.int .i64 (k : Int)) (.int .u64 0) (.slice none 0 0) (.slice none 0 0) 81
  exact ⟨by omega, none, 0, none, 0, h0, h1, h2, h3, Nat.le_refl _, Nat.le_refl _, RdV.nil _ _ _, RdV.nil _ _ _⟩
theorem sNew_yes (k : Nat) (w : World) (h1 : 1 ≤ k) (h2 : k ≤ 16) :
    Calls Try.prog 23 #[.int .i64 (k : Int)] w fun e w' => ∃ b, e = .returned (.tuple #[.pointer (some ⟨b, 0, none⟩), .int .i64 0]) ∧ At w' w'.heap.size b k [] ∧ Below w.heap.size w w' := by
  have d1 : decide ((k : Int) < 1) = false := decide_eq_false (by omega)
  have d2 : decide ((16 : Int) < (k : Int)) = false := decide_eq_false (by omega)
  have Hs := Lib.hid (sp_new w k)
  have hb := below_alloc w (.cells #[.int .i64 (k : Int), .int .u64 0, .slice none 0 0, .slice none 0 0] 81)
  have Hw : Hid (Sl.Wf k ([] : Al)) := Lib.hid (Sl.Wf.nil h1 h2)
  clear h1 h2
  go_enter Try.func23, Try.ntmps23
  go_wp2
  go_ret2
  refine ⟨w.heap.size, rfl, ⟨Hw.out, ?_⟩, hb⟩
  have : Sl.dense k ([] : Al) = false := by simp [Sl.dense]
  rw [this, World.size_alloc]
  exact Hs.out
end Go.Proofs.Ytgplbbmenmbaaaa.Sn
