/-
  CONTRACTS of package slots, sixth part: Places, All.
-/
import Derived.Test.YtgplbbmenmbaaaaS4n
namespace Go.Proofs.Ytgplbbmenmbaaaa.Sn
open Go.ChangeShapes Go.WideShapes Go.ChangeAt Go.RowKit

/-- A VARIABLE IN BLOCK g HOLDS A ROW OF THE CALL's OWN (all of it in blocks from B on). -/
def Lst (e : TypeId) (w : World) (B g : Nat) (xs : List Value) : Prop :=
  B ≤ g ∧ g < w.heap.size ∧ w.frozen? ⟨g, 0, none⟩ = false ∧ ∃ v, w.cell? ⟨g, 0, none⟩ = some v ∧ OwnV e w B v xs ∧ v.ownBlock ≠ some g
theorem frozen_set (w : World) (a p : Addr) (v : Value) : (w.setCell a v).frozen? p = w.frozen? p := World.frozen?_setCell w a p v
/-- behind an append and the store -/
theorem lst_step {e : TypeId} {w w1 : World} {B g : Nat} {xs ys : List Value} {v v1 : Value} {o : Obj} (h1 : B ≤ g) (h2 : g < w.heap.size) (h3 : w.frozen? ⟨g, 0, none⟩ = false) (hc : w.cell? ⟨g, 0, none⟩ = some v) (ho : OwnV e w B v xs) (hne : v.ownBlock ≠ some g)
    (hown : OwnV e w1 B v1 ys) (hgrow : (w.alloc o).grownBy w1 v.ownBlock) (hat : v1.ownBlock = v.ownBlock ∨ v1.ownBlock = some (w.alloc o).heap.size) :
    (w1.cell? ⟨g, 0, none⟩ = some v ∧ w1.frozen? ⟨g, 0, none⟩ = false) ∧ Lst e (w1.setCell ⟨g, 0, none⟩ v1) B g ys ∧ Below B w (w1.setCell ⟨g, 0, none⟩ v1) := by
  have hblk : w1.heap[g]? = w.heap[g]? := by
    rw [hgrow.block g (by simp; omega) (Ne.symm hne)]
    exact Below.heap_alloc w o g h2
  have hc1 : w1.cell? ⟨g, 0, none⟩ = some v := (World.cell?_of_block (w := w) (a := ⟨g, 0, none⟩) hblk).trans hc
  have hf1 : w1.frozen? ⟨g, 0, none⟩ = false := (World.frozen?_of_block (w := w) (a := ⟨g, 0, none⟩) hblk).trans h3
  have hne1 : v1.ownBlock ≠ some g := by
    rcases hat with e | e
    · rw [e]; exact hne
    · rw [e]; simp; omega
  have hs : w.heap.size ≤ w1.heap.size := by have := hgrow.size; simp at this; omega
  refine ⟨⟨hc1, hf1⟩, ⟨h1, by simpa using Nat.lt_of_lt_of_le h2 hs, by rw [frozen_set]; exact hf1, v1, World.cell?_setCell_same _ _ _ hc1, ownV_store hown hne1 _, hne1⟩, ?_⟩
  refine Below.setCell (Below.grown ((Below.refl B w).alloc (by omega) o) hgrow (by simp; omega) fun q hq => (ho.lt q hq).1) (p := ⟨g, 0, none⟩) h1 _

def intV (ks : List Nat) : List Value := ks.map fun (k : Nat) => Value.int .i64 (k : Int)
theorem intV_length (ks : List Nat) : (intV ks).length = ks.length := by simp [intV]
theorem intV_one (ks : List Nat) : ∀ u ∈ intV ks, u.oneCell' = true := by
  intro u hu
  simp only [intV, List.mem_map] at hu
  obtain ⟨n, _, rfl⟩ := hu
  rfl
theorem infoI : (Try.prog.info? 3).map (fun i => (i.zero, i.size, i.bytes)) = some (some (.int .i64 0), 1, 8) := by kernel_rfl
set_option maxRecDepth 100000 in
theorem places1_c (a g B : Nat) (x : Value) (w : World) (xs : List Value) (h : Lst 3 w B g xs) (hl : xs.length ≤ 1000000) :
    Calls Try.prog 56 #[.int .i64 (a : Int), x, .pointer (some ⟨g, 0, none⟩)] w fun e w' => e = .returned (.tuple #[]) ∧ Lst 3 w' B g (xs ++ [.int .i64 (a : Int)]) ∧ Below B w w' := by
  obtain ⟨h1, h2, h3, v, hc, ho, hne⟩ := h
  have Ho := Lib.hid (And.intro ho hne)
  have Hl := Lib.hid hl
  have HL := Lib.hid (fun ys w1 v1 o => lst_step (ys := ys) (w1 := w1) (v1 := v1) (o := o) h1 h2 h3 hc ho hne)
  clear ho hne hl
  go_enter Try.func56, Try.ntmps56
  go_wp2_with (at_builtin; refine wpList_append_vals 48 3 (.int .i64 0) 8 Try.underlying48 infoI rfl (by omega) rfl (.tmp 5) (.tmp 7) rfl B v xs [.int .i64 (a : Int)] rfl ⟨Ho.out.1.1, Ho.out.1.2.alloc _⟩ _ _ 1 1 rfl rfl (rdV_one _ _ _) (fun u hu => by simp at hu; subst hu; rfl) (by have := Hl.out; simp; omega) (by simp; omega) ?_; intro v1 w1 hown1 hgrow1 hat1; obtain ⟨D, d, hv1, -, -⟩ := hown1.rd; generalize List.length _ = n1 at hv1; subst hv1; obtain ⟨⟨hc1, hf1⟩, hL1, hB1⟩ := HL.out _ _ _ _ hown1 hgrow1 hat1)
  go_end0
  exact ⟨rfl, hL1, hB1⟩
set_option maxRecDepth 100000 in
theorem all1_c (a g B : Nat) (x : Option Addr) (w : World) (xs : List Value) (h : Lst 29 w B g xs) (hl : xs.length ≤ 1000000) :
    Calls Try.prog 64 #[.int .i64 (a : Int), (Value.pointer (x)), .pointer (some ⟨g, 0, none⟩)] w fun e w' => e = .returned (.tuple #[]) ∧ Lst 29 w' B g (xs ++ [(Value.pointer (x))]) ∧ Below B w w' := by
  obtain ⟨h1, h2, h3, v, hc, ho, hne⟩ := h
  have Ho := Lib.hid (And.intro ho hne)
  have Hl := Lib.hid hl
  have HL := Lib.hid (fun ys w1 v1 o => lst_step (ys := ys) (w1 := w1) (v1 := v1) (o := o) h1 h2 h3 hc ho hne)
  clear ho hne hl
  go_enter Try.func64, Try.ntmps64
  go_wp2_with (at_builtin; refine wpList_append_vals 26 29 (Value.pointer none) 8 Cn.und Cn.info rfl (by omega) rfl (.tmp 5) (.tmp 7) rfl B v xs [(Value.pointer (x))] rfl ⟨Ho.out.1.1, Ho.out.1.2.alloc _⟩ _ _ 1 1 rfl rfl (rdV_one _ _ _) (fun u hu => by simp at hu; subst hu; rfl) (by have := Hl.out; simp; omega) (by simp; omega) ?_; intro v1 w1 hown1 hgrow1 hat1; obtain ⟨D, d, hv1, -, -⟩ := hown1.rd; generalize List.length _ = n1 at hv1; subst hv1; obtain ⟨⟨hc1, hf1⟩, hL1, hB1⟩ := HL.out _ _ _ _ hown1 hgrow1 hat1)
  go_end0
  exact ⟨rfl, hL1, hB1⟩
theorem lst_new (e t : TypeId) (w : World) (Zs : Array Value) (n : Nat) (hz : Zs.size = n) (hn : n ≤ 65536) : Lst e ((w.alloc (.cells Zs e)).alloc (.cells #[.slice (some ⟨w.heap.size, 0, none⟩) 0 n] t)) w.heap.size (w.heap.size + 1) [] := by
  refine ⟨by omega, by simp, ?_, .slice (some ⟨w.heap.size, 0, none⟩) 0 n, ?_, ?_, ?_⟩
  · exact World.frozen?_alloc_at _ _ _ _ (by simp)
  · have h := World.cell?_alloc_new (w.alloc (.cells Zs e)) #[.slice (some ⟨w.heap.size, 0, none⟩) 0 n] t 0
    rw [World.size_alloc] at h
    rw [h]; rfl
  · exact (show OwnV e (w.alloc (.cells Zs e)) w.heap.size (.slice (some ⟨w.heap.size, 0, none⟩) 0 n) [] from ⟨fun x h => by simp at h, World.ownsRow_made w Zs n (Nat.le_refl _) (by unfold maxLen; omega) (by rw [Nat.mul_one]; exact hz)⟩).below (below_alloc _ _) (Nat.le_refl _)
  · simp [Value.ownBlock]
set_option maxRecDepth 100000 in
theorem sPlaces_c {w : World} {B b k : Nat} {L : Al} {d : Bool} (wf : Sl.Wf k L) (h : Rp w B b k L d) (hB : B ≤ w.heap.size) :
    Calls Try.prog 37 #[.pointer (some ⟨b, 0, none⟩)] w fun e w' => ∃ v, e = .returned v ∧ OwnV 3 w' w.heap.size v (intV (Sl.keys L)) ∧ Below w.heap.size w w' := by
  have HLn := Lib.hid (sLen_c wf h)
  obtain ⟨i0, hi0, hz0, hz1, hz2⟩ := info_parts infoI
  have hlen := wf.len16
  obtain ⟨n, hn⟩ : ∃ n, L.length = n := ⟨_, rfl⟩
  rw [hn] at HLn hlen
  have hmk : ∀ (w : World), (Instr.makeSlice 48 (.int .i64 0) (.int .i64 (n : Int))).run Try.prog w = .ok (.slice (some ⟨w.heap.size, 0, none⟩) 0 n) (w.alloc (.cells (madeCells (Value.int .i64 0).cells (n * 1)) 3)) := by
    intro w
    have h := run_make (P := Try.prog) w 48 3 i0 (.int .i64 0) Try.underlying48 hi0 hz0 .i64 .i64 0 (n : Int) (by omega) (by omega) (by rw [hz2]; omega) (by omega)
    rw [hz1] at h
    simpa using h
  have HZ : Hid ((madeCells (Value.int IntKind.i64 0).cells (n * 1)).size = n) := Lib.hid (by rw [size_madeCells]; simp)
  generalize madeCells (Value.int IntKind.i64 0).cells (n * 1) = Zs at *
  have Hw := Lib.hid (And.intro wf h)
  clear wf h hi0 hz0 hz1 hz2
  go_enter Try.func37, Try.ntmps37
  go_wp2_with (go_at_call 45; refine HLn.out.mono ?_; rintro e w' ⟨rfl, rfl⟩)
  have hini : Lst 3 ((w.alloc (.cells Zs 3)).alloc (.cells #[.slice (some ⟨w.heap.size, 0, none⟩) 0 n] 48)) w.heap.size (w.heap.size + 1) [] := lst_new _ _ w Zs n HZ.out (by omega)
  have hbw := ((Below.refl w.heap.size w).alloc (Nat.le_refl _) (.cells Zs 3)).alloc (by simp) (.cells #[.slice (some ⟨w.heap.size, 0, none⟩) 0 n] 48)
  generalize (w.alloc (.cells Zs 3)).alloc (.cells #[.slice (some ⟨w.heap.size, 0, none⟩) 0 n] 48) = W at *
  have Hb := Lib.hid hbw
  refine (sEach_c Hw.out.1 (Hw.out.2.below hbw hB (Nat.le_refl _)) 56 (w.heap.size + 1) (fun j wr => Lst 3 wr w.heap.size (w.heap.size + 1) (intV ((Sl.keys L).take j)) ∧ Below w.heap.size W wr)
    (enters_at Try.func56 (by kernel_rfl) rfl) ⟨hini, Below.refl _ _⟩ (fun j wr h => h.2.mono hB) ?_).mono ?_
  · rintro j p wr hp ⟨hl, hb⟩
    have hlt := lt_get hp
    refine (places1_c p.1 (w.heap.size + 1) w.heap.size _ wr _ hl (by rw [intV_length, List.length_take]; omega)).mono ?_
    rintro e w2 ⟨rfl, hl2, hb2⟩
    refine ⟨rfl, ?_, hb.trans hb2⟩
    have e1 : intV ((Sl.keys L).take j) ++ [Value.int .i64 (p.1 : Int)] = intV ((Sl.keys L).take (j + 1)) := by
      have hk := Sl.keys_get hp
      obtain ⟨hk1, hk2⟩ := List.getElem?_eq_some_iff.1 hk
      rw [List.take_succ_eq_append_getElem hk1, hk2]
      simp [intV]
    rw [← e1]
    exact hl2
  · rintro e w2 ⟨rfl, ⟨g1, g2, g3, v, hc, ho, hne⟩, hb2⟩
    rw [List.take_of_length_le (by rw [Sl.keys_length]; exact Nat.le_refl _)] at ho
    have Ho := Lib.hid ho
    have hfin := Lib.hid (Hb.out.trans hb2)
    clear ho hne hini
    go_wp2_with fail
    go_ret
    exact ⟨_, rfl, Ho.out, hfin.out⟩
set_option maxRecDepth 100000 in
theorem sAll_c {w : World} {B b k : Nat} {L : Al} {d : Bool} (wf : Sl.Wf k L) (h : Rp w B b k L d) (hB : B ≤ w.heap.size) :
    Calls Try.prog 49 #[.pointer (some ⟨b, 0, none⟩)] w fun e w' => ∃ v, e = .returned v ∧ OwnV 29 w' w.heap.size v (elV (Sl.things L)) ∧ Below w.heap.size w w' := by
  have HLn := Lib.hid (sLen_c wf h)
  obtain ⟨i0, hi0, hz0, hz1, hz2⟩ := info_parts Cn.info
  have hlen := wf.len16
  obtain ⟨n, hn⟩ : ∃ n, L.length = n := ⟨_, rfl⟩
  rw [hn] at HLn hlen
  have hmk : ∀ (w : World), (Instr.makeSlice 26 (.int .i64 0) (.int .i64 (n : Int))).run Try.prog w = .ok (.slice (some ⟨w.heap.size, 0, none⟩) 0 n) (w.alloc (.cells (madeCells (Value.cells (Value.pointer none)) (n * 1)) 29)) := by
    intro w
    have h := run_make (P := Try.prog) w 26 29 i0 (Value.pointer none) Try.underlying26 hi0 hz0 .i64 .i64 0 (n : Int) (by omega) (by omega) (by rw [hz2]; omega) (by omega)
    rw [hz1] at h
    simpa using h
  have HZ : Hid ((madeCells (Value.cells (Value.pointer none)) (n * 1)).size = n) := Lib.hid (by rw [size_madeCells]; simp)
  generalize madeCells (Value.cells (Value.pointer none)) (n * 1) = Zs at *
  have Hw := Lib.hid (And.intro wf h)
  clear wf h hi0 hz0 hz1 hz2
  go_enter Try.func49, Try.ntmps49
  go_wp2_with (go_at_call 45; refine HLn.out.mono ?_; rintro e w' ⟨rfl, rfl⟩)
  have hini : Lst 29 ((w.alloc (.cells Zs 29)).alloc (.cells #[.slice (some ⟨w.heap.size, 0, none⟩) 0 n] 26)) w.heap.size (w.heap.size + 1) [] := lst_new _ _ w Zs n HZ.out (by omega)
  have hbw := ((Below.refl w.heap.size w).alloc (Nat.le_refl _) (.cells Zs 29)).alloc (by simp) (.cells #[.slice (some ⟨w.heap.size, 0, none⟩) 0 n] 26)
  generalize (w.alloc (.cells Zs 29)).alloc (.cells #[.slice (some ⟨w.heap.size, 0, none⟩) 0 n] 26) = W at *
  have Hb := Lib.hid hbw
  refine (sEach_c Hw.out.1 (Hw.out.2.below hbw hB (Nat.le_refl _)) 64 (w.heap.size + 1) (fun j wr => Lst 29 wr w.heap.size (w.heap.size + 1) (elV ((Sl.things L).take j)) ∧ Below w.heap.size W wr)
    (enters_at Try.func64 (by kernel_rfl) rfl) ⟨hini, Below.refl _ _⟩ (fun j wr h => h.2.mono hB) ?_).mono ?_
  · rintro j p wr hp ⟨hl, hb⟩
    have hlt := lt_get hp
    refine (all1_c p.1 (w.heap.size + 1) w.heap.size p.2 wr _ hl (by rw [elV_length, List.length_take]; omega)).mono ?_
    rintro e w2 ⟨rfl, hl2, hb2⟩
    refine ⟨rfl, ?_, hb.trans hb2⟩
    have e1 : elV ((Sl.things L).take j) ++ [(Value.pointer (p.2))] = elV ((Sl.things L).take (j + 1)) := by
      have hk := Sl.things_get hp
      obtain ⟨hk1, hk2⟩ := List.getElem?_eq_some_iff.1 hk
      rw [List.take_succ_eq_append_getElem hk1, hk2]
      simp [elV]
    rw [← e1]
    exact hl2
  · rintro e w2 ⟨rfl, ⟨g1, g2, g3, v, hc, ho, hne⟩, hb2⟩
    rw [List.take_of_length_le (by rw [Sl.things_length]; exact Nat.le_refl _)] at ho
    have Ho := Lib.hid ho
    have hfin := Lib.hid (Hb.out.trans hb2)
    clear ho hne hini
    go_wp2_with fail
    go_ret
    exact ⟨_, rfl, Ho.out, hfin.out⟩
end Go.Proofs.Ytgplbbmenmbaaaa.Sn
