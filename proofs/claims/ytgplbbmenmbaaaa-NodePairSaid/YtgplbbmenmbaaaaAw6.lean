/-
  THE CONTRACT of pantilelaw06.awake: the chapter's example is met: it returns true.
-/
import Derived.Test.YtgplbbmenmbaaaaTn7
import Derived.Test.YtgplbbmenmbaaaaRn1
import Derived.LaidEqlPtr
namespace Go.Proofs.Ytgplbbmenmbaaaa
open Go.ChangeShapes Go.WideShapes Go.ChangeAt Go.RowKit
open Tr (T S4 Ent)

/-- one node is itself -/
theorem ptr_eq (w : World) (a : Addr) : (binOp .eql 29 (.pointer (some a)) (.pointer (some a))).run Try.prog w = .ok (.bool true) w := by
  have h : (Try.prog.info? 58).isSome = true := by kernel_rfl
  obtain ⟨j, hj⟩ := Option.isSome_iff_exists.1 h
  exact run_eql_ptr_same w a Try.underlying29 hj
theorem ptr_ne (w : World) (a : Addr) : (binOp .neq 29 (.pointer (some a)) (.pointer (some a))).run Try.prog w = .ok (.bool false) w := by
  have h : (Try.prog.info? 58).isSome = true := by kernel_rfl
  obtain ⟨j, hj⟩ := Option.isSome_iff_exists.1 h
  have h2 : ∀ d : Nat, (Op.equalIn (d + 1) 29 (.pointer (some a)) (.pointer (some a))).run Try.prog w = .ok true w := fun d => by
    simp [Op.equalIn, run_underlying Try.underlying29, sizeOf, typeInfo, hj, run_sameAddr_same]
  simp only [binOp]
  simp [Op.equal, Op.maxDepth, h2 9999]
theorem pts_list {w : World} {g : Nat} {t : TypeId} {us : List Nat} (ho : Z.Ok us) (h : w.heap[g]? = some (.cells (vals us).toArray t (0, 0))) : Pts w w.heap.size (some ⟨g, 0, none⟩) us := by
  refine ⟨ho, fun _ => ⟨g, 0, rfl, (Array.getElem?_eq_some_iff.1 h).1, fun i u hu => ?_⟩⟩
  rw [Nat.zero_add, cell_of_row w g _ _ t (0, 0) h]
  simpa using vals_get hu
theorem rdI_list {w : World} {g : Nat} {t : TypeId} {ks : List Nat} (h : w.heap[g]? = some (.cells (Sn.intV ks).toArray t (0, 0))) : RdV w w.heap.size (some ⟨g, 0, none⟩) (Sn.intV ks) := by
  intro _
  refine ⟨g, 0, rfl, (Array.getElem?_eq_some_iff.1 h).1, fun i u hu => ?_⟩
  rw [Nat.zero_add, cell_of_row w g _ _ t (0, 0) h]
  simpa using hu
set_option maxRecDepth 100000 in
set_option maxHeartbeats 1000000 in
theorem awake6_c (w : World) : Calls Try.prog 4 #[] w fun e w' => e = .returned (.bool true) ∧ Below w.heap.size w w' := by
  go_enter Try.func4, Try.ntmps4
  go_wp2_with fail
  refine (nLeaf_c [4, 0] _ 2 _ 1 _ (Nat.le_refl _) (pts_list (g := w.heap.size) (t := 34) (us := [4, 0]) (by intro u hu; simp at hu; omega) (heap_at _ _ _ rfl)) (by decide) (by decide) (by decide)).mono ?_
  rintro e w1 ⟨g1, rfl, hn1, hg1, hb1⟩
  have N1 := Lib.hid hn1
  have B1 := Lib.hid (Below.andThen (below_alloc w _) hb1)
  clear hn1 hb1 hg1
  go_wp2_with fail
  have hb1' := below_alloc w1 (.cells #[.int .u64 7, .int .u64 3] 34)
  have N1 := Lib.hid (N1.out.below hb1' (Nat.le_refl _) (Nat.le_succ _))
  have B1 := Lib.hid (Below.andThen B1.out hb1')
  clear hb1'
  refine (nLeaf_c [7, 3] _ 2 _ 2 _ (Nat.le_refl _) (pts_list (g := w1.heap.size) (t := 34) (us := [7, 3]) (by intro u hu; simp at hu; omega) (heap_at _ _ _ rfl)) (by decide) (by decide) (by decide)).mono ?_
  rintro e w2 ⟨g2, rfl, hn2, hg2, hb2⟩
  have N2 := Lib.hid hn2
  have N1 := Lib.hid (N1.out.below hb2 (by simp) (by have := hb2.size; simp at this; omega : w1.heap.size + 1 ≤ w2.heap.size))
  have B2 := Lib.hid (Below.andThen B1.out hb2)
  clear hn2 hb2 hg2
  go_wp2_with fail
  refine (nPair_c (k := 2) (l := 1) (a := .ent g1 [4, 0] 1) (b := .ent g2 [7, 3] 2) N1.out N2.out (Nat.le_refl _) (show Z.part [4, 0] [7, 3] = ((1 : Nat) : Int) by decide +kernel) (show 0 ≤ 1 by decide) (show 0 ≤ 1 by decide) (by rw [Tr.ents_ent, Tr.ents_ent]; decide)).mono ?_
  rintro e w3 ⟨g3, rfl, hn3, -, hb3⟩
  have hks : (Sl.put (Z.addr (T.ent g2 [7, 3] 2).pre 1) (T.ent g2 [7, 3] 2) (Sl.put (Z.addr (T.ent g1 [4, 0] 1).pre 1) (T.ent g1 [4, 0] 1) [])) = [(0, .ent g1 [4, 0] 1), (3, .ent g2 [7, 3] 2)] := rfl
  rw [hks, show Z.cut (T.ent g1 [4, 0] 1).pre (1 + 1) = [4, 0] from rfl] at hn3
  have N3 := Lib.hid hn3
  have B3 := Lib.hid (Below.andThen B2.out hb3)
  clear hn3 hb3 hks
  have HS : Hid (Calls Try.prog 20 #[.pointer (some ⟨g3, 0, none⟩)] w3 fun e w' => ShapeAt w' e 1 [4, 0] [0, 3] false 0 ∧ Below w3.heap.size w3 w') := Lib.hid (nShape_c N3.out (Nat.le_refl _))
  go_wp2_with fail
  refine HS.out.mono ?_
  rintro e w4 ⟨⟨A4, c4, A4', c4', rfl, hp4, hr4⟩, hb4⟩
  have P4 := Lib.hid (And.intro hp4 hr4)
  have N3 := Lib.hid (N3.out.below hb4 (Nat.le_refl _) hb4.size)
  have B4 := Lib.hid (Below.andThen B3.out hb4)
  clear hp4 hr4 hb4 HS
  go_wp2_with fail
  have b5 := below_alloc w4 (.cells #[.int .u64 4, .int .u64 0] 34)
  have b6 := below_alloc (w4.alloc (.cells #[.int .u64 4, .int .u64 0] 34)) (.cells #[.int .i64 0, .int .i64 3] 3)
  have b56 := Below.andThen b5 b6
  have N3 := Lib.hid (N3.out.below b56 (Nat.le_refl _) b56.size)
  have B5 := Lib.hid (Below.andThen B4.out b56)
  have p5 : Pts ((w4.alloc (.cells #[.int .u64 4, .int .u64 0] 34)).alloc (.cells #[.int .i64 0, .int .i64 3] 3)) ((w4.alloc (.cells #[.int .u64 4, .int .u64 0] 34)).alloc (.cells #[.int .i64 0, .int .i64 3] 3)).heap.size (some ⟨w4.heap.size, 0, none⟩) [4, 0] :=
    pts_list (t := 34) (by intro u hu; simp at hu; omega) (by (first | (refine heap_at _ _ _ ?_; simp; done) | (refine heap_past _ (heap_at _ _ _ ?_); simp; done) | (refine heap_past _ (heap_past _ (heap_at _ _ _ ?_)); simp; done) | (refine heap_past _ (heap_past _ (heap_past _ (heap_at _ _ _ ?_))); simp; done)))
  have r5 : RdV ((w4.alloc (.cells #[.int .u64 4, .int .u64 0] 34)).alloc (.cells #[.int .i64 0, .int .i64 3] 3)) ((w4.alloc (.cells #[.int .u64 4, .int .u64 0] 34)).alloc (.cells #[.int .i64 0, .int .i64 3] 3)).heap.size (some ⟨w4.heap.size + 1, 0, none⟩) (Sn.intV [0, 3]) :=
    rdI_list (t := 3) (by (first | (refine heap_at _ _ _ ?_; simp; done) | (refine heap_past _ (heap_at _ _ _ ?_); simp; done) | (refine heap_past _ (heap_past _ (heap_at _ _ _ ?_)); simp; done) | (refine heap_past _ (heap_past _ (heap_past _ (heap_at _ _ _ ?_))); simp; done)))
  refine (rsameShape_c 1 A4 c4 A4' c4' (some ⟨w4.heap.size, 0, none⟩) 2 (some ⟨w4.heap.size + 1, 0, none⟩) 2 [4, 0] [0, 3] false 0 ((P4.out.1.below' b56 (Nat.le_refl _)).keep b56.size (fun _ _ => rfl)) p5 (P4.out.2.below b56 (Nat.le_refl _) b56.size) r5 (Nat.le_refl _) (by decide) (by decide)).mono ?_
  rintro e w7 ⟨rfl, hb7⟩
  have N7 := Lib.hid (N3.out.below hb7 (Nat.le_refl _) hb7.size)
  have B7 := Lib.hid (Below.andThen B5.out hb7)
  clear b5 b6 b56 p5 r5 hb7
  have hpe := ptr_eq
  go_wp2_with fail
  refine (nKid_c N7.out.2 0 (some ⟨g1, 0, none⟩) rfl).mono ?_
  rintro e w8 ⟨rfl, n, rfl⟩
  go_wp2_with fail
  refine (nKid_c (N7.out.below (below_drewN n (Below.refl w7.heap.size w7)) (by have := B7.out.size; omega) (Nat.le_refl _)).2 3 (some ⟨g2, 0, none⟩) rfl).mono ?_
  rintro e w9 ⟨rfl, m, rfl⟩
  go_wp2_with fail
  go_ret
  exact ⟨rfl, below_drewN _ B7.out⟩
end Go.Proofs.Ytgplbbmenmbaaaa
