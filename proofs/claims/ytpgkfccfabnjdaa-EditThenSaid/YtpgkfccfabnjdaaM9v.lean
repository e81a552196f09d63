import Derived.Test.YtpgkfccfabnjdaaM9u
import Derived.Test.YtpgkfccfabnjdaaM9s
import Derived.Test.YtpgkfccfabnjdaaM26
import Derived.Test.YtpgkfccfabnjdaaM9p
import Derived.Test.YtpgkfccfabnjdaaM95
/-
  EDIT: awake of law 13.
-/
namespace Go.Proofs.Ytpgkfccfabnjdaa
open Go.ChangeShapes Go.WideShapes Go.ChangeAt Go.RowKit
open Tr (T S4 Ent Chg Raw Pc)

theorem pts_40 (w : World) : Pts (w.alloc (.cells #[.int .u64 4, .int .u64 0] 40)) (w.alloc (.cells #[.int .u64 4, .int .u64 0] 40)).heap.size (some ⟨w.heap.size, 0, none⟩) [4, 0] :=
  pts_list (t := 40) (by intro u hu; simp at hu; omega) (heap_at w _ _ rfl)
theorem one_row {W : World} {B g : Nat} (hp : Pts W B (some ⟨g, 0, none⟩) [4, 0]) (hB : B ≤ W.heap.size) (h s : Bool) (o v : Nat) (ho : o < 1000) (hv : v < 1000) :
    RwL (W.alloc (.cells #[.slice (some ⟨g, 0, none⟩) 2 2, .bool h, .bool s, .int .u64 (o : Int), .int .u64 (v : Int)] 43)) (W.heap.size + 1) (some ⟨W.heap.size, 0, none⟩) [([4, 0], (h, o), (s, v))] := by
  have hal := below_alloc W (.cells #[.slice (some ⟨g, 0, none⟩) 2 2, .bool h, .bool s, .int .u64 (o : Int), .int .u64 (v : Int)] 43)
  have hrow := heap_at W (.cells #[.slice (some ⟨g, 0, none⟩) 2 2, .bool h, .bool s, .int .u64 (o : Int), .int .u64 (v : Int)] 43) _ rfl
  have hcell : ∀ (q : Nat), (W.alloc (.cells #[.slice (some ⟨g, 0, none⟩) 2 2, .bool h, .bool s, .int .u64 (o : Int), .int .u64 (v : Int)] 43)).cell? ⟨W.heap.size, q, none⟩ = (#[.slice (some ⟨g, 0, none⟩) 2 2, .bool h, .bool s, .int .u64 (o : Int), .int .u64 (v : Int)] : Array Value)[q]? := fun q => by rw [cell_of_row _ _ _ _ _ (0, 0) hrow]
  intro _
  refine ⟨W.heap.size, 0, rfl, by omega, fun i c hi => ?_⟩
  match i, hi with
  | 0, hi =>
    obtain rfl : ([4, 0], (h, o), (s, v)) = c := Option.some.inj hi
    exact ⟨some ⟨g, 0, none⟩, 2, hcell 0, hcell 1, hcell 2, hcell 3, hcell 4, (hp.below' hal hB).keep (by omega) (fun _ _ => rfl), by unfold maxLen; show 2 ≤ _; omega, by show o < _; omega, by show v < _; omega⟩
  | i + 1, hi => simp at hi
def exA : Chg := ([4, 0], none, some 3)
def exB : Chg := ([4, 0], some 3, some 5)
def exC : Chg := ([4, 0], some 5, none)
def exD : Chg := ([4, 0], none, some 5)
theorem ex_cl {c : Chg} (h1 : c.1 = [4, 0]) (h2 : c.2.1 ≠ c.2.2) (h3 : ∀ v, c.2.1 = some v → v < 1000) (h4 : ∀ v, c.2.2 = some v → v < 1000) : Tr.CL 2 [c] :=
  ⟨List.pairwise_singleton _ _, fun d hd => by
    obtain rfl : d = c := List.mem_singleton.1 hd
    exact ⟨by rw [h1]; rfl, by rw [h1]; intro x hx; simp at hx; omega, h2, fun v hv => by have := h3 v hv; omega, fun v hv => by have := h4 v hv; omega⟩⟩
theorem cl_A : Tr.CL 2 [exA] := ex_cl rfl (by decide) (by intro v h; cases h) (by intro v h; cases h; decide)
theorem cl_B : Tr.CL 2 [exB] := ex_cl rfl (by decide) (by intro v h; cases h; decide) (by intro v h; cases h; decide)
theorem cl_C : Tr.CL 2 [exC] := ex_cl rfl (by decide) (by intro v h; cases h; decide) (by intro v h; cases h)
theorem cl_D : Tr.CL 2 [exD] := ex_cl rfl (by decide) (by intro v h; cases h) (by intro v h; cases h; decide)
theorem mz_AB : Tr.mz [exA] [exB] = [(some exA, some exB)] := by rw [Tr.mz_b (show Tr.key exA.1 = Tr.key exB.1 from rfl), Tr.mz_nil_l]; rfl
theorem mz_DC : Tr.mz [exD] [exC] = [(some exD, some exC)] := by rw [Tr.mz_b (show Tr.key exD.1 = Tr.key exC.1 from rfl), Tr.mz_nil_l]; rfl
theorem thn_AB : Tr.thn [exA] [exB] = [exD] := by unfold Tr.thn; rw [mz_AB]; rfl
theorem thn_DC : Tr.thn [exD] [exC] = [] := by unfold Tr.thn; rw [mz_DC]; rfl
set_option maxRecDepth 100000 in
set_option maxHeartbeats 1000000 in
theorem awake13_c (w : World) : Calls Try.prog 5 #[] w fun e w' => e = .returned (.bool true) ∧ Below w.heap.size w w' := by
  obtain ⟨W1, hW1⟩ : ∃ W1, W1 = w.alloc (.cells #[.int .u64 4, .int .u64 0] 40) := ⟨_, rfl⟩
  have hp1 : Pts W1 W1.heap.size (some ⟨w.heap.size, 0, none⟩) [4, 0] := by rw [hW1]; exact pts_40 w
  have hb1 : Below w.heap.size w W1 := by rw [hW1]; exact below_alloc w _
  obtain ⟨W2, hW2⟩ : ∃ W2, W2 = W1.alloc (.cells #[.slice (some ⟨w.heap.size, 0, none⟩) 2 2, .bool false, .bool true, .int .u64 0, .int .u64 3] 43) := ⟨_, rfl⟩
  have hr2 : RwL W2 (W1.heap.size + 1) (some ⟨W1.heap.size, 0, none⟩) [Tr.rawC exA] := by rw [hW2]; exact one_row hp1 (Nat.le_refl _) false true 0 3 (by decide) (by decide)
  have hb2 : Below W1.heap.size W1 W2 := by rw [hW2]; exact below_alloc W1 _
  have hs2 : W2.heap.size = W1.heap.size + 1 := by rw [hW2]; simp
  have hp2 := hp1.below' hb2 (Nat.le_refl _)
  obtain ⟨W3, hW3⟩ : ∃ W3, W3 = W2.alloc (.cells #[.slice (some ⟨w.heap.size, 0, none⟩) 2 2, .bool true, .bool true, .int .u64 3, .int .u64 5] 43) := ⟨_, rfl⟩
  have hr3 : RwL W3 (W2.heap.size + 1) (some ⟨W2.heap.size, 0, none⟩) [Tr.rawC exB] := by rw [hW3]; exact one_row hp2 hb2.size true true 3 5 (by decide) (by decide)
  have hb3 : Below W2.heap.size W2 W3 := by rw [hW3]; exact below_alloc W2 _
  have hs3 : W3.heap.size = W2.heap.size + 1 := by rw [hW3]; simp
  have hT1 := ed_then (w := W3) (k := 2) (by decide) (by decide) (c := 1) (c' := 1) (n := 1) (n' := 1) (a := [exA]) (b := [exB]) (hr2.below hb3 (by omega) (by omega)) (hr3.below (Below.refl W3.heap.size W3) (by omega) (by omega)) cl_A cl_B rfl rfl (Nat.le_refl _) (Nat.le_refl _) (by decide) (by decide) (by rw [mz_AB]; rfl)
  rw [thn_AB] at hT1
  have HT1 := Lib.hid hT1
  have HP := Lib.hid (And.intro (hp2.below' hb3 hb2.size) (And.intro (Below.andThen hb1 (Below.andThen hb2 hb3)) (And.intro hs2 hs3)))
  have a1 : W1.heap.size = w.heap.size + 1 := by rw [hW1]; simp
  rw [hs2, a1] at HT1
  clear hT1 hr2 hr3 hp1 hp2 hb1 hb2 hb3
  go_enter Try.func5, Try.ntmps5
  go_wp2_with fail
  rw [← hW1, ← hW2, ← hW3]
  clear hW1 hW2 hW3 hs2 hs3 a1
  refine HT1.out.mono ?_
  rintro e W4 ⟨D, d, rfl, hr4, hd4, hb4⟩
  have hp4 := HP.out.1.below' hb4 (Nat.le_trans (by have := HP.out.2.2; omega) (Nat.le_refl _))
  obtain ⟨W5, hW5⟩ : ∃ W5, W5 = W4.alloc (.cells #[.slice (some ⟨w.heap.size, 0, none⟩) 2 2, .bool true, .bool false, .int .u64 5, .int .u64 0] 43) := ⟨_, rfl⟩
  have hr5 : RwL W5 (W4.heap.size + 1) (some ⟨W4.heap.size, 0, none⟩) [Tr.rawC exC] := by rw [hW5]; exact one_row hp4 (Nat.le_trans (by have := HP.out.2.2; omega) hb4.size) true false 5 0 (by decide) (by decide)
  have hb5 : Below W4.heap.size W4 W5 := by rw [hW5]; exact below_alloc W4 _
  have hs5 : W5.heap.size = W4.heap.size + 1 := by rw [hW5]; simp
  have hT2 := ed_then (w := W5) (k := 2) (by decide) (by decide) (c := d) (c' := 1) (n := 1) (n' := 1) (a := [exD]) (b := [exC]) (hr4.below hb5 (Nat.le_refl _) hb5.size) (hr5.below (Below.refl W5.heap.size W5) (by omega) (by omega)) cl_D cl_C rfl rfl hd4 (Nat.le_refl _) (by decide) (by decide) (by rw [mz_DC]; rfl)
  rw [thn_DC] at hT2
  have HT2 := Lib.hid hT2
  have H5 := Lib.hid (And.intro (hp4.below' hb5 (Nat.le_trans (by have := HP.out.2.2; omega) hb4.size)) (And.intro (Below.andThen HP.out.2.1 (Below.andThen hb4 hb5)) (And.intro (hr4.below hb5 (Nat.le_refl _) hb5.size) (show W1.heap.size ≤ W5.heap.size by have h1 := HP.out.2.2; have h2 := hb4.size; omega))))
  clear hT2 hr5 hp4 hb4 hb5 hr4 hd4 HT1
  go_wp2_with fail
  rw [← hW5]
  clear hW5 hs5
  refine HT2.out.mono ?_
  rintro e W6 ⟨D2, d2, rfl, -, -, hb6⟩
  have hp6 := H5.out.1.below' hb6 H5.out.2.2.2
  obtain ⟨W7, hW7⟩ : ∃ W7, W7 = W6.alloc (.cells #[.slice (some ⟨w.heap.size, 0, none⟩) 2 2, .bool false, .bool true, .int .u64 0, .int .u64 5] 43) := ⟨_, rfl⟩
  have hr7 : RwL W7 (W6.heap.size + 1) (some ⟨W6.heap.size, 0, none⟩) [Tr.rawC exD] := by rw [hW7]; exact one_row hp6 (Nat.le_trans H5.out.2.2.2 hb6.size) false true 0 5 (by decide) (by decide)
  have hb7 : Below W6.heap.size W6 W7 := by rw [hW7]; exact below_alloc W6 _
  have hs7 : W7.heap.size = W6.heap.size + 1 := by rw [hW7]; simp
  have HS := Lib.hid (rsameR_c (w := W7) (L := [Tr.rawC exD]) (c := d) (c' := 1) (n := 1) (H5.out.2.2.1.below (Below.andThen hb6 hb7) (Nat.le_refl _) (Below.andThen hb6 hb7).size) (hr7.below (Below.refl W7.heap.size W7) (by omega) (by omega)) rfl (by decide))
  have H7 := Lib.hid (Below.andThen H5.out.2.1 (Below.andThen hb6 hb7))
  clear hr7 hb7 hs7 hp6 hb6 HT2
  go_wp2_with fail
  rw [← hW7]
  clear hW7
  refine HS.out.mono ?_
  rintro e W8 ⟨rfl, hb8⟩
  have H8 := Lib.hid (Below.andThen H7.out hb8)
  clear hb8 HS
  go_wp2_with fail
  go_ret
  exact ⟨rfl, H8.out⟩
end Go.Proofs.Ytpgkfccfabnjdaa

/-
  EDIT: the changes that diff tells, as they lie in memory.
-/
namespace Go.Proofs.Ytpgkfccfabnjdaa
open Go.ChangeShapes Go.WideShapes Go.ChangeAt Go.RowKit
open Tr (T S4 Ent Chg Raw)

theorem Chs.raw {w : World} {A : Option Addr} {C : List Chg} (h : Chs w A C) : RwL w w.heap.size A (C.map Tr.rawC) := by
  intro hn
  obtain ⟨b, off, hA, hb, hq⟩ := h (fun e => hn (by rw [e]; rfl))
  refine ⟨b, off, hA, hb, fun i r hr => ?_⟩
  rw [List.getElem?_map] at hr
  obtain ⟨c, hc, rfl⟩ := Option.map_eq_some_iff.1 hr
  exact hq i c hc
end Go.Proofs.Ytpgkfccfabnjdaa
