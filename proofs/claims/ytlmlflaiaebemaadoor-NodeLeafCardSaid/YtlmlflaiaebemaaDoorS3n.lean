/-
  CONTRACTS of package slots, third part: Clone, withCell, withoutCell.
-/
import Derived.Test.YtlmlflaiaebemaaDoorS2n
import Derived.Test.YtlmlflaiaebemaaDoorCcn
import Derived.Test.YtlmlflaiaebemaaDoorCch
import Derived.Deep.RegionHeld
import Derived.Lib.SliceRun
namespace Go.Proofs.YtlmlflaiaebemaaDoor.Sn
open Go.ChangeShapes Go.WideShapes Go.ChangeAt Go.RowKit

set_option maxRecDepth 100000 in
theorem clone_c (xs : List (Option Addr)) (A : Option Addr) (c B : Nat) (w : World) (hB : B ≤ w.heap.size) (hA : RdV w B A (elV xs)) (hne : xs ≠ []) (hl : xs.length ≤ 1000000) :
    Calls Tryd.prog 61 #[.slice A xs.length c] w fun e w' => ∃ g d, e = .returned (.slice (some ⟨g, 0, none⟩) xs.length d) ∧ OwnV 25 w' w.heap.size (.slice (some ⟨g, 0, none⟩) xs.length d) (elV xs) ∧ Below w.heap.size w w' := by
  have Hne : Hid (elV xs ≠ []) := Lib.hid (by intro h; apply hne; simpa [elV] using h)
  obtain ⟨b, off, hAA, hb, _⟩ := hA (by intro h; apply hne; simpa [elV] using h)
  subst hAA
  have Hh := Lib.hid hA
  have Hl := Lib.hid hl
  have Ho := Lib.hid (ownV_nil 25 w)
  have hq : ∀ (w : World) (a : Option Addr) (n c n' c' : Nat), (binOp .eql 44 (.slice a n c) (.slice none n' c')).run Tryd.prog w = .ok (.bool a.isNone) w := fun w a n c n' c' => Lib.run_eql_slice_nil w _ _ a n c n' c' Cn.und
  clear hA hl hne
  go_enter Tryd.func61, Tryd.ntmps61
  go_wp2_with (at_builtin; refine wpList_append_vals 44 25 (Value.pointer none) 8 Cn.und Cn.info rfl (by omega) rfl (.tmp 5) (.tmp 6) rfl w.heap.size _ [] (elV xs) rfl Ho.out B _ _ c (elV_length xs) rfl (Hh.out.below (below_alloc _ _) hB (Nat.le_refl _)) (elV_one xs) (by have := Hl.out; rw [elV_length]; simp; omega) (by simp) ?_; intro v2 w2 hown2 hgrow2 _)
  go_ret
  rw [List.nil_append] at hown2
  obtain ⟨g, d, hv⟩ := hown2.row Hne.out
  rw [elV_length] at hv
  subst hv
  exact ⟨g, d, rfl, hown2, ((Below.refl w.heap.size w).alloc (Nat.le_refl _) _).grown hgrow2 (by simp) (fun q hq => (Ho.out.lt q hq).1)⟩

theorem sp_make (w : World) (k base base' : Nat) (v1 v2 : Value) (L : Al) (o1 : OwnV 107 w base v1 (u16V (Sl.keys L))) (o2 : OwnV 25 w base' v2 (elV (Sl.things L))) :
    Sp (w.alloc (.cells #[.int .i64 (k : Int), .int .u64 0, v1, v2] 98)) (w.heap.size + 1) w.heap.size k L := by
  obtain ⟨A, c, hv1, l1, r1⟩ := o1.rd
  obtain ⟨C, c', hv2, l2, r2⟩ := o2.rd
  rw [u16V_length, Sl.keys_length] at hv1 l1
  rw [elV_length, Sl.things_length] at hv2 l2
  subst hv1 hv2
  obtain ⟨h0, h1, h2, h3⟩ := cells4 w (.int .i64 (k : Int)) (.int .u64 0) (.slice A L.length c) (.slice C L.length c') 98
  have hb := below_alloc w (.cells #[.int .i64 (k : Int), .int .u64 0, .slice A L.length c, .slice C L.length c'] 98)
  exact ⟨by omega, A, c, C, c', h0, h1, h2, h3, l1, l2, r1.below hb (Nat.le_refl _) (by omega), r2.below hb (Nat.le_refl _) (by omega)⟩
theorem keys_cut (L : Al) (i : Nat) : (u16V (Sl.keys L)).take i ++ (u16V (Sl.keys L)).drop (i + 1) = u16V (Sl.keys (L.take i ++ L.drop (i + 1))) := by
  simp [u16V, Sl.keys, List.map_append, List.map_take, List.map_drop]
theorem things_cut (L : Al) (i : Nat) : (elV (Sl.things L)).take i ++ (elV (Sl.things L)).drop (i + 1) = elV (Sl.things (L.take i ++ L.drop (i + 1))) := by
  simp [elV, Sl.things, List.map_append, List.map_take, List.map_drop]
set_option maxRecDepth 100000 in
set_option maxHeartbeats 2000000 in
theorem sWithoutCell_c {w : World} {B b k : Nat} {L : Al} (wf : Sl.Wf k L) (h : Sp w B b k L) (hB : B ≤ w.heap.size) (i : Nat) (hi : i < L.length) :
    Calls Tryd.prog 60 #[.pointer (some ⟨b, 0, none⟩), .int .i64 (i : Int)] w fun e w' => ∃ g, e = .returned (.pointer (some ⟨g, 0, none⟩)) ∧ Sp w' w'.heap.size g k (L.take i ++ L.drop (i + 1)) ∧ Below w.heap.size w w' := by
  obtain ⟨hbB, A, c, C, c', h0, h1, h2, h3, h4, h5, hA, hC⟩ := h
  have hlen := wf.len16
  obtain ⟨A1, ea1, ra1⟩ := cut_hi 96 107 Ch.und Ch.info A L.length c i (by omega) h4
  obtain ⟨A2, ea2, ra2⟩ := cut_lo 96 107 Ch.und Ch.info A L.length c (i + 1) (by omega) h4
  obtain ⟨C1, ec1, rc1⟩ := cut_hi 44 25 Cn.und Cn.info C L.length c' i (by omega) h5
  obtain ⟨C2, ec2, rc2⟩ := cut_lo 44 25 Cn.und Cn.info C L.length c' (i + 1) (by omega) h5
  have ea2' : ∀ w, (Instr.sliceAt 96 (.slice A L.length c) (some (.int .i64 ((i : Int) + 1))) none none).run Tryd.prog w = .ok (.slice A2 (L.length - (i + 1)) (c - (i + 1))) w := ea2
  have ec2' : ∀ w, (Instr.sliceAt 44 (.slice C L.length c') (some (.int .i64 ((i : Int) + 1))) none none).run Tryd.prog w = .ok (.slice C2 (L.length - (i + 1)) (c' - (i + 1))) w := ec2
  have kA := u16V_length (Sl.keys L)
  have kC := elV_length (Sl.things L)
  rw [Sl.keys_length] at kA
  rw [Sl.things_length] at kC
  have HP : Hid (Ch.Part w B (.slice A1 i c, (u16V (Sl.keys L)).take i) ∧ Ch.Part w B (.slice A2 (L.length - (i + 1)) (c - (i + 1)), (u16V (Sl.keys L)).drop (i + 1)) ∧ Cn.Part w B (.slice C1 i c', (elV (Sl.things L)).take i) ∧ Cn.Part w B (.slice C2 (L.length - (i + 1)) (c' - (i + 1)), (elV (Sl.things L)).drop (i + 1))) := Lib.hid
    ⟨⟨A1, c, by simp [kA]; omega, ra1 w B _ kA hA, fun x hx => u16V_one _ x (List.mem_of_mem_take hx)⟩, ⟨A2, c - (i + 1), by simp [kA], ra2 w B _ kA hA, fun x hx => u16V_one _ x (List.mem_of_mem_drop hx)⟩,
     ⟨C1, c', by simp [kC]; omega, rc1 w B _ kC hC, fun x hx => elV_one _ x (List.mem_of_mem_take hx)⟩, ⟨C2, c' - (i + 1), by simp [kC], rc2 w B _ kC hC, fun x hx => elV_one _ x (List.mem_of_mem_drop hx)⟩⟩
  have Hlen : Hid (((u16V (Sl.keys L)).take i).length + ((u16V (Sl.keys L)).drop (i + 1)).length ≤ 1000000 ∧ ((elV (Sl.things L)).take i).length + ((elV (Sl.things L)).drop (i + 1)).length ≤ 1000000) := Lib.hid ⟨by simp [kA]; omega, by simp [kC]; omega⟩
  have hwr : IntKind.i64.wrap ((i : Int) + 1) = (i : Int) + 1 := IntWalk.i64_in _ (by omega)
  have q0 : ∀ w', Below w.heap.size w w' → w'.cell? ⟨b, 0, none⟩ = some (.int .i64 (k : Int)) := fun w' hb => (hb.cell (p := ⟨b, 0, none⟩) (by show b < _; omega)).trans h0
  have q2 : ∀ w', Below w.heap.size w w' → w'.cell? ⟨b, 2, none⟩ = some (.slice A L.length c) := fun w' hb => (hb.cell (p := ⟨b, 2, none⟩) (by show b < _; omega)).trans h2
  have q3 : ∀ w', Below w.heap.size w w' → w'.cell? ⟨b, 3, none⟩ = some (.slice C L.length c') := fun w' hb => (hb.cell (p := ⟨b, 3, none⟩) (by show b < _; omega)).trans h3
  have Hk := Lib.hid (And.intro (keys_cut L i) (things_cut L i))
  obtain ⟨n1, hn1⟩ : ∃ n, ((u16V (Sl.keys L)).take i ++ (u16V (Sl.keys L)).drop (i + 1)).length = n := ⟨_, rfl⟩
  obtain ⟨n2, hn2⟩ : ∃ n, ((elV (Sl.things L)).take i ++ (elV (Sl.things L)).drop (i + 1)).length = n := ⟨_, rfl⟩
  have Hn := Lib.hid (And.intro hn1 hn2)
  clear ra1 ra2 rc1 rc2 hA hC ea2 ec2 wf kA kC h0 h1 h2 h3 hn1 hn2
  go_enter Tryd.func60, Tryd.ntmps60
  go_wp2_with fail
  go_region_held (fun w' => Below w.heap.size w w') (((repeat (first | refine Below.drew ?_ | refine Below.alloc ?_ (by first | omega | (simp; done) | (simp; omega)) _ | refine Below.setCell ?_ (by first | omega | (simp; done) | (simp; omega)) _)); first | exact Below.refl _ _ | assumption | exact below_drewN _ (Below.refl _ _)))
    (first
      | (go_at_call 76
         refine (Ch.concat2_c _ 2 _ _ _ _ 96 B _ (by first | omega | (simp; done) | (simp; omega)) (by (first | (refine heap_at _ _ _ ?_; simp; done) | (refine heap_past _ (heap_at _ _ _ ?_); simp; done) | (refine heap_past _ (heap_past _ (heap_at _ _ _ ?_)); simp; done) | (refine heap_past _ (heap_past _ (heap_past _ (heap_at _ _ _ ?_))); simp; done))) (HP.out.1.below (by ((repeat (first | refine Below.drew ?_ | refine Below.alloc ?_ (by first | omega | (simp; done) | (simp; omega)) _ | refine Below.setCell ?_ (by first | omega | (simp; done) | (simp; omega)) _)); first | exact Below.refl _ _ | assumption | exact below_drewN _ (Below.refl _ _))) hB) (HP.out.2.1.below (by ((repeat (first | refine Below.drew ?_ | refine Below.alloc ?_ (by first | omega | (simp; done) | (simp; omega)) _ | refine Below.setCell ?_ (by first | omega | (simp; done) | (simp; omega)) _)); first | exact Below.refl _ _ | assumption | exact below_drewN _ (Below.refl _ _))) hB) Hlen.out.1).mono ?_
         rintro e w2 ⟨v1, rfl, hown1, hb1⟩
         obtain ⟨D1, d1, hv1, -, -⟩ := hown1.rd
         rw [Hn.out.1] at hv1
         subst hv1
         have O1 := Lib.hid hown1
         clear hown1
         have hB1 := Below.andThen (show Below w.heap.size w _ by ((repeat (first | refine Below.drew ?_ | refine Below.alloc ?_ (by first | omega | (simp; done) | (simp; omega)) _ | refine Below.setCell ?_ (by first | omega | (simp; done) | (simp; omega)) _)); first | exact Below.refl _ _ | assumption | exact below_drewN _ (Below.refl _ _))) hb1
         have hs1 := hB1.size)
      | (go_at_call 77
         refine (Cn.concat2_c _ 2 _ _ _ _ 44 B _ (by first | omega | (simp; done) | (simp; omega)) (by first | (first | (refine heap_at _ _ _ ?_; simp; done) | (refine heap_past _ (heap_at _ _ _ ?_); simp; done) | (refine heap_past _ (heap_past _ (heap_at _ _ _ ?_)); simp; done) | (refine heap_past _ (heap_past _ (heap_past _ (heap_at _ _ _ ?_))); simp; done)) | exact (hb1.block _ (by first | omega | (simp; done) | (simp; omega))).trans (by (first | (refine heap_at _ _ _ ?_; simp; done) | (refine heap_past _ (heap_at _ _ _ ?_); simp; done) | (refine heap_past _ (heap_past _ (heap_at _ _ _ ?_)); simp; done) | (refine heap_past _ (heap_past _ (heap_past _ (heap_at _ _ _ ?_))); simp; done)))) (HP.out.2.2.1.below (by ((repeat (first | refine Below.drew ?_ | refine Below.alloc ?_ (by first | omega | (simp; done) | (simp; omega)) _ | refine Below.setCell ?_ (by first | omega | (simp; done) | (simp; omega)) _)); first | exact Below.refl _ _ | assumption | exact below_drewN _ (Below.refl _ _))) hB) (HP.out.2.2.2.below (by ((repeat (first | refine Below.drew ?_ | refine Below.alloc ?_ (by first | omega | (simp; done) | (simp; omega)) _ | refine Below.setCell ?_ (by first | omega | (simp; done) | (simp; omega)) _)); first | exact Below.refl _ _ | assumption | exact below_drewN _ (Below.refl _ _))) hB) Hlen.out.2).mono ?_
         rintro e w3 ⟨v2, rfl, hown2, hb2⟩
         obtain ⟨D2, d2, hv2, -, -⟩ := hown2.rd
         rw [Hn.out.2] at hv2
         subst hv2
         have O2 := Lib.hid hown2
         clear hown2
         have hB2 := Below.andThen (show Below w.heap.size w _ by ((repeat (first | refine Below.drew ?_ | refine Below.alloc ?_ (by first | omega | (simp; done) | (simp; omega)) _ | refine Below.setCell ?_ (by first | omega | (simp; done) | (simp; omega)) _)); first | exact Below.refl _ _ | assumption | exact below_drewN _ (Below.refl _ _))) hb2
         have hB12 := Below.andThen (show Below w2.heap.size w2 _ by ((repeat (first | refine Below.drew ?_ | refine Below.alloc ?_ (by first | omega | (simp; done) | (simp; omega)) _ | refine Below.setCell ?_ (by first | omega | (simp; done) | (simp; omega)) _)); first | exact Below.refl _ _ | assumption | exact below_drewN _ (Below.refl _ _))) hb2
         have hs2 := hB2.size))
  all_goals (
    go_wp2
    go_ret
    have o1 := O1.out.below hB12 (Nat.le_refl _)
    have o2 := O2.out
    rw [Hk.out.1] at o1
    rw [Hk.out.2] at o2
    refine ⟨_, rfl, ?_, by ((repeat (first | refine Below.drew ?_ | refine Below.alloc ?_ (by first | omega | (simp; done) | (simp; omega)) _ | refine Below.setCell ?_ (by first | omega | (simp; done) | (simp; omega)) _)); first | exact Below.refl _ _ | assumption | exact below_drewN _ (Below.refl _ _))⟩
    rw [World.size_alloc]
    exact sp_make w3 k _ _ _ _ _ o1 o2)
end Go.Proofs.YtlmlflaiaebemaaDoor.Sn
