/-
  CONTRACTS of package slots, third part: Clone, withCell, withoutCell.
-/
import Derived.Test.YtgplbbmenmbaaaaS2n
import Derived.Test.YtgplbbmenmbaaaaCcn
import Derived.Test.YtgplbbmenmbaaaaCch
import Derived.Deep.RegionHeld
import Derived.Lib.SliceRun
namespace Go.Proofs.Ytgplbbmenmbaaaa.Sn
open Go.ChangeShapes Go.WideShapes Go.ChangeAt Go.RowKit

set_option maxRecDepth 100000 in
theorem clone_c (xs : List (Option Addr)) (A : Option Addr) (c B : Nat) (w : World) (hB : B ≤ w.heap.size) (hA : RdV w B A (elV xs)) (hne : xs ≠ []) (hl : xs.length ≤ 1000000) :
    Calls Try.prog 62 #[.slice A xs.length c] w fun e w' => ∃ g d, e = .returned (.slice (some ⟨g, 0, none⟩) xs.length d) ∧ OwnV 29 w' w.heap.size (.slice (some ⟨g, 0, none⟩) xs.length d) (elV xs) ∧ Below w.heap.size w w' := by
  have Hne : Hid (elV xs ≠ []) := Lib.hid (by intro h; apply hne; simpa [elV] using h)
  obtain ⟨b, off, hAA, hb, _⟩ := hA (by intro h; apply hne; simpa [elV] using h)
  subst hAA
  have Hh := Lib.hid hA
  have Hl := Lib.hid hl
  have Ho := Lib.hid (ownV_nil 29 w)
  have hq : ∀ (w : World) (a : Option Addr) (n c n' c' : Nat), (binOp .eql 26 (.slice a n c) (.slice none n' c')).run Try.prog w = .ok (.bool a.isNone) w := fun w a n c n' c' => Lib.run_eql_slice_nil w _ _ a n c n' c' Cn.und
  clear hA hl hne
  go_enter Try.func62, Try.ntmps62
  go_wp2_with (at_builtin; refine wpList_append_vals 26 29 (Value.pointer none) 8 Cn.und Cn.info rfl (by omega) rfl (.tmp 5) (.tmp 6) rfl w.heap.size _ [] (elV xs) rfl Ho.out B _ _ c (elV_length xs) rfl (Hh.out.below (below_alloc _ _) hB (Nat.le_refl _)) (elV_one xs) (by have := Hl.out; rw [elV_length]; simp; omega) (by simp) ?_; intro v2 w2 hown2 hgrow2 _)
  go_ret
  rw [List.nil_append] at hown2
  obtain ⟨g, d, hv⟩ := hown2.row Hne.out
  rw [elV_length] at hv
  subst hv
  exact ⟨g, d, rfl, hown2, ((Below.refl w.heap.size w).alloc (Nat.le_refl _) _).grown hgrow2 (by simp) (fun q hq => (Ho.out.lt q hq).1)⟩

theorem sp_make (w : World) (k base base' : Nat) (v1 v2 : Value) (L : Al) (o1 : OwnV 101 w base v1 (u16V (Sl.keys L))) (o2 : OwnV 29 w base' v2 (elV (Sl.things L))) :
    Sp (w.alloc (.cells #[.int .i64 (k : Int), .int .u64 0, v1, v2] 81)) (w.heap.size + 1) w.heap.size k L := by
  obtain ⟨A, c, hv1, l1, r1⟩ := o1.rd
  obtain ⟨C, c', hv2, l2, r2⟩ := o2.rd
  rw [u16V_length, Sl.keys_length] at hv1 l1
  rw [elV_length, Sl.things_length] at hv2 l2
  subst hv1 hv2
  obtain ⟨h0, h1, h2, h3⟩ := cells4 w (.int .i64 (k : Int)) (.int .u64 0) (.slice A L.length c) (.slice C L.length c') 81
  have hb := below_alloc w (.cells #[.int .i64 (k : Int), .int .u64 0, .slice A L.length c, .slice C L.length c'] 81)
  exact ⟨by omega, A, c, C, c', h0, h1, h2, h3, l1, l2, r1.below hb (Nat.le_refl _) (by omega), r2.below hb (Nat.le_refl _) (by omega)⟩
theorem keys_cut (L : Al) (i : Nat) : (u16V (Sl.keys L)).take i ++ (u16V (Sl.keys L)).drop (i + 1) = u16V (Sl.keys (L.take i ++ L.drop (i + 1))) := by
  simp [u16V, Sl.keys, List.map_append, List.map_take, List.map_drop]
theorem things_cut (L : Al) (i : Nat) : (elV (Sl.things L)).take i ++ (elV (Sl.things L)).drop (i + 1) = elV (Sl.things (L.take i ++ L.drop (i + 1))) := by
  simp [elV, Sl.things, List.map_append, List.map_take, List.map_drop]
end Go.Proofs.Ytgplbbmenmbaaaa.Sn
