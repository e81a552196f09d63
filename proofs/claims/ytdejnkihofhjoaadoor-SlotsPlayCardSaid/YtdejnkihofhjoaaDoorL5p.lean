/-
  WHAT THE LAW SlotsPlay KEEPS IN MEMORY: two variables (blocks g, h) of the document's slots that are written again and again, and slots that lie elsewhere ('Side', 'Play').
-/
import Derived.Test.YtdejnkihofhjoaaDoorL5a
import Derived.Test.YtdejnkihofhjoaaDoorRs3
namespace Go.Proofs.YtdejnkihofhjoaaDoor
open Go.ChangeShapes Go.WideShapes Go.ChangeAt Go.RowKit
open Go.Proofs.YtdejnkihofhjoaaDoor.Su

/-- two worlds are alike below block B, but for the blocks g and h -/
def Same2 (g h B : Nat) (w w' : World) : Prop := ∀ p : Addr, p.block < B → p.block ≠ g → p.block ≠ h → w'.cell? p = w.cell? p
/-- what a variable of the document's slots holds: no cell of slots -/
def K3 (w : World) (g : Nat) : Prop := ∀ off v, w.cell? ⟨g, off, none⟩ = some v → (∃ n, v = .int .i64 n) ∨ (∃ A n c, v = .slice A n c)
theorem K3.below {w w' : World} {g D : Nat} (h : K3 w g) (hb : Below D w w') (hg : g < D) : K3 w' g := fun off v hv => h off v ((hb.cell (p := ⟨g, off, none⟩) hg).symm.trans hv)
theorem cell_set3 {w : World} {b : Nat} {p : Addr} (hp : p.block ≠ b) (x y z : Value) : (((w.setCell ⟨b, 0, none⟩ x).setCell ⟨b, 1, none⟩ y).setCell ⟨b, 2, none⟩ z).cell? p = w.cell? p := by
  rw [World.cell?_setCell_other _ _ _ _ (fun e => hp (by rw [← e])), World.cell?_setCell_other _ _ _ _ (fun e => hp (by rw [← e])), World.cell?_setCell_other _ _ _ _ (fun e => hp (by rw [← e]))]
theorem K3.set {w : World} {b g : Nat} {x y z : Value} (h : K3 w g) (hc : C3 w b x y z) (k : Int) (A C : Option Addr) (n c n' c' : Nat) : K3 (((w.setCell ⟨b, 0, none⟩ (.int .i64 k)).setCell ⟨b, 1, none⟩ (.slice A n c)).setCell ⟨b, 2, none⟩ (.slice C n' c')) g := by
  by_cases hg : g = b
  · subst hg
    obtain ⟨⟨e0, e1, e2⟩, -⟩ := hc.set (.int .i64 k) (.slice A n c) (.slice C n' c')
    intro off v hv
    match off with
    | 0 => rw [e0] at hv; cases hv; exact .inl ⟨_, rfl⟩
    | 1 => rw [e1] at hv; cases hv; exact .inr ⟨_, _, _, rfl⟩
    | 2 => rw [e2] at hv; cases hv; exact .inr ⟨_, _, _, rfl⟩
    | m + 3 =>
      rw [World.cell?_setCell_other _ _ _ _ (by simp), World.cell?_setCell_other _ _ _ _ (by simp), World.cell?_setCell_other _ _ _ _ (by simp)] at hv
      exact h _ _ hv
  · intro off v hv
    rw [cell_set3 (p := ⟨g, off, none⟩) hg] at hv
    exact h _ _ hv
theorem k3_new (w : World) (k : Int) (t : TypeId) : K3 (w.alloc (.cells #[.int .i64 k, .slice none 0 0, .slice none 0 0] t)) w.heap.size := by
  intro off v hv
  rw [World.cell?_alloc_new] at hv
  match off with
  | 0 => cases hv; exact .inl ⟨_, rfl⟩
  | 1 => cases hv; exact .inr ⟨_, _, _, rfl⟩
  | 2 => cases hv; exact .inr ⟨_, _, _, rfl⟩
  | m + 3 => cases hv
theorem rdV_kept {w w' : World} {g h B : Nat} {A : Option Addr} {xs : List Value} (hr : RdV w B A xs) (hk : ∀ v ∈ xs, (∀ n, v ≠ .int .i64 n) ∧ ∀ A n c, v ≠ .slice A n c) (hg : K3 w g) (hh : K3 w h) (hw : Same2 g h B w w') : RdV w' B A xs := by
  intro hn
  obtain ⟨b, off, hA, hb, hc⟩ := hr hn
  have hno : ∀ q, K3 w q → b ≠ q := by
    intro q hq e
    subst e
    cases xs with
    | nil => exact hn rfl
    | cons x xs =>
      have h0 := hq _ _ (hc 0 x rfl)
      have hx := hk x (by simp)
      rcases h0 with ⟨n, e⟩ | ⟨A, n, c, e⟩
      · exact hx.1 n e
      · exact hx.2 A n c e
  exact ⟨b, off, hA, hb, fun i v hi => (hw ⟨b, off + i, none⟩ hb (hno g hg) (hno h hh)).trans (hc i v hi)⟩
theorem u16V_kind (ks : List Nat) : ∀ v ∈ u16V ks, (∀ n, v ≠ .int .i64 n) ∧ ∀ A n c, v ≠ .slice A n c := by
  intro v hv
  simp only [u16V, List.mem_map] at hv
  obtain ⟨n, _, rfl⟩ := hv
  refine ⟨fun m e => ?_, fun A m c e => ?_⟩ <;> cases e
theorem elV_kind (xs : List Nat) : ∀ v ∈ elV xs, (∀ n, v ≠ .int .i64 n) ∧ ∀ A n c, v ≠ .slice A n c := by
  intro v hv
  simp only [elV, List.mem_map] at hv
  obtain ⟨n, _, rfl⟩ := hv
  refine ⟨fun m e => ?_, fun A m c e => ?_⟩ <;> cases e
theorem k3_no {w : World} {b q : Nat} {n : Int} (h1 : w.cell? ⟨b, 1, none⟩ = some (.int .u64 n)) (hq : K3 w q) : b ≠ q := by
  intro e
  subst e
  rcases hq _ _ h1 with ⟨n, e⟩ | ⟨A, n, c, e⟩
  · cases e
  · cases e
theorem at_kept {w w' : World} {g h B b k : Nat} {L : Al} (ha : At w B b k L) (hg : K3 w g) (hh : K3 w h) (hw : Same2 g h B w w') : At w' B b k L := by
  obtain ⟨wf, hr⟩ := ha
  refine ⟨wf, ?_⟩
  generalize Sl.dense k L = d at *
  cases d
  · obtain ⟨h0, A, c, D, c', h1, h2, h3, h4, h5, h6, h7, h8⟩ := hr
    have n1 := k3_no h2 hg
    have n2 := k3_no h2 hh
    exact ⟨h0, A, c, D, c', (hw ⟨b, 0, none⟩ h0 n1 n2).trans h1, (hw ⟨b, 1, none⟩ h0 n1 n2).trans h2, (hw ⟨b, 2, none⟩ h0 n1 n2).trans h3, (hw ⟨b, 3, none⟩ h0 n1 n2).trans h4, h5, h6, rdV_kept h7 (u16V_kind _) hg hh hw, rdV_kept h8 (elV_kind _) hg hh hw⟩
  · obtain ⟨h0, hk, hL, P, D, c', h1, h2, h3, h4, h5, h6, h7⟩ := hr
    have n1 := k3_no h2 hg
    have n2 := k3_no h2 hh
    exact ⟨h0, hk, hL, P, D, c', (hw ⟨b, 0, none⟩ h0 n1 n2).trans h1, (hw ⟨b, 1, none⟩ h0 n1 n2).trans h2, (hw ⟨b, 2, none⟩ h0 n1 n2).trans h3, (hw ⟨b, 3, none⟩ h0 n1 n2).trans h4, h5, h6, rdV_kept h7 (elV_kind _) hg hh hw⟩

/-- SLOTS AND THE DOCUMENT's SLOTS THAT HOLD THE SAME, in every world that is alike but for g and h. -/
def Side (w : World) (g h B k b : Nat) (A : Option Addr) (c : Nat) (C : Option Addr) (c' : Nat) (L : Al) : Prop := ∀ w', Same2 g h B w w' → At w' B b k L ∧ RefM w' B k A c C c' L
theorem Side.out {w : World} {g h B k b : Nat} {A : Option Addr} {c : Nat} {C : Option Addr} {c' : Nat} {L : Al} (hs : Side w g h B k b A c C c' L) : At w B b k L ∧ RefM w B k A c C c' L := hs w fun _ _ _ _ => rfl
theorem Side.below {w w1 : World} {g h B B' D k b : Nat} {A : Option Addr} {c : Nat} {C : Option Addr} {c' : Nat} {L : Al} (hs : Side w g h B k b A c C c' L) (hb : Below D w w1) (hD : B ≤ D) (hB : B ≤ B') : Side w1 g h B' k b A c C c' L := by
  intro w' hw
  have h2 := hs w' fun p hp hg hh => (hw p (by omega) hg hh).trans (hb.cell (by omega))
  exact ⟨h2.1.below (Below.refl B' w') hB hB, h2.2.below (Below.refl B' w') hB hB⟩
theorem Side.set {w : World} {g h B k b q : Nat} {A : Option Addr} {c : Nat} {C : Option Addr} {c' : Nat} {L : Al} (hs : Side w g h B k b A c C c' L) (hq : q = g ∨ q = h) (x y z : Value) : Side (((w.setCell ⟨q, 0, none⟩ x).setCell ⟨q, 1, none⟩ y).setCell ⟨q, 2, none⟩ z) g h B k b A c C c' L := by
  intro w' hw
  refine hs w' fun p hp hg hh => (hw p hp hg hh).trans (cell_set3 ?_ _ _ _)
  rcases hq with rfl | rfl
  · exact hg
  · exact hh
theorem side_of {w0 w : World} {g h k b : Nat} {A : Option Addr} {c : Nat} {C : Option Addr} {c' : Nat} {L : Al} (ha : At w w.heap.size b k L) (hg : K3 w g) (hh : K3 w h) (lg : g < w0.heap.size) (lh : h < w0.heap.size)
    (hr : ∀ w'' : World, (∀ p : Addr, w0.heap.size ≤ p.block → p.block < w.heap.size → w''.cell? p = w.cell? p) → RefM w'' w.heap.size k A c C c' L) : Side w g h w.heap.size k b A c C c' L :=
  fun w' hw => ⟨at_kept ha hg hh hw, hr w' fun p h1 h2 => hw p h2 (by omega) (by omega)⟩

/-- what the law's loop keeps -/
structure Play (w : World) (g h k b : Nat) (A : Option Addr) (c : Nat) (C : Option Addr) (c' : Nat) (L : Al) (d : Nat) (D : Option Addr) (e : Nat) (E : Option Addr) (e' : Nat) (M : Al) : Prop where
  one : Side w g h w.heap.size k b A c C c' L
  two : Side w g h w.heap.size k d D e E e' M
  c9 : C3 w g (.int .i64 (k : Int)) (.slice A L.length c) (.slice C L.length c')
  c11 : C3 w h (.int .i64 (k : Int)) (.slice D M.length e) (.slice E M.length e')
  k9 : K3 w g
  k11 : K3 w h
  tz : Tz w
  lt9 : g < w.heap.size
  lt11 : h < w.heap.size
  ne : g ≠ h
theorem Play.step {w w' : World} {g h k b : Nat} {A : Option Addr} {c : Nat} {C : Option Addr} {c' : Nat} {L : Al} {d : Nat} {D : Option Addr} {e : Nat} {E : Option Addr} {e' : Nat} {M : Al} (p : Play w g h k b A c C c' L d D e E e' M) (hb : Below w.heap.size w w') : Play w' g h k b A c C c' L d D e E e' M := by
  have hs := hb.size
  exact ⟨p.one.below hb (Nat.le_refl _) hs, p.two.below hb (Nat.le_refl _) hs, p.c9.below hb p.lt9, p.c11.below hb p.lt11, p.k9.below hb p.lt9, p.k11.below hb p.lt11, p.tz.on hb, Nat.lt_of_lt_of_le p.lt9 hs, Nat.lt_of_lt_of_le p.lt11 hs, p.ne⟩
theorem tz_set {w : World} (h : Tz w) {b : Nat} {x0 y0 z0 : Value} (_hc : C3 w b x0 y0 z0) (hn : ∀ v, w.cell? ⟨b, 0, none⟩ = some v → ∀ n, v ≠ .int .u8 n) (x y z : Value) : Tz (((w.setCell ⟨b, 0, none⟩ x).setCell ⟨b, 1, none⟩ y).setCell ⟨b, 2, none⟩ z) := by
  have hb : 0 ≠ b := by
    intro e
    have h0 := h 0 (by decide)
    exact hn _ (by rw [← e]; exact h0) _ rfl
  intro j hj
  rw [cell_set3 (p := ⟨0, j, none⟩) hb]
  exact h j hj
theorem tz_set3 {w : World} (h : Tz w) {b : Nat} {k : Int} {y0 z0 : Value} (hc : C3 w b (.int .i64 k) y0 z0) (x y z : Value) : Tz (((w.setCell ⟨b, 0, none⟩ x).setCell ⟨b, 1, none⟩ y).setCell ⟨b, 2, none⟩ z) :=
  tz_set h hc (fun v hv n e => by rw [hc.1.1] at hv; subst e; cases hv) x y z
/-- s, m are others now -/
theorem Play.moved {w : World} {g h k b : Nat} {A : Option Addr} {c : Nat} {C : Option Addr} {c' : Nat} {L : Al} {d : Nat} {D : Option Addr} {e : Nat} {E : Option Addr} {e' : Nat} {M : Al} (p : Play w g h k b A c C c' L d D e E e' M)
    {b2 : Nat} {A2 : Option Addr} {c2 : Nat} {C2 : Option Addr} {c2' : Nat} {L2 : Al} (hs : Side w g h w.heap.size k b2 A2 c2 C2 c2' L2) :
    Play (((w.setCell ⟨g, 0, none⟩ (.int .i64 (k : Int))).setCell ⟨g, 1, none⟩ (.slice A2 L2.length c2)).setCell ⟨g, 2, none⟩ (.slice C2 L2.length c2')) g h k b2 A2 c2 C2 c2' L2 d D e E e' M := by
  have hz : (((w.setCell ⟨g, 0, none⟩ (.int .i64 (k : Int))).setCell ⟨g, 1, none⟩ (.slice A2 L2.length c2)).setCell ⟨g, 2, none⟩ (.slice C2 L2.length c2')).heap.size = w.heap.size := by simp
  refine ⟨?_, ?_, p.c9.set _ _ _, p.c11.other p.ne.symm _ _ _, p.k9.set p.c9 _ _ _ _ _ _ _, p.k11.set p.c9 _ _ _ _ _ _ _, tz_set3 p.tz p.c9 _ _ _, by rw [hz]; exact p.lt9, by rw [hz]; exact p.lt11, p.ne⟩
  · rw [hz]; exact hs.set (.inl rfl) _ _ _
  · rw [hz]; exact p.two.set (.inl rfl) _ _ _
/-- s, m are kept as old, was -/
theorem Play.kept {w : World} {g h k b : Nat} {A : Option Addr} {c : Nat} {C : Option Addr} {c' : Nat} {L : Al} {d : Nat} {D : Option Addr} {e : Nat} {E : Option Addr} {e' : Nat} {M : Al} (p : Play w g h k b A c C c' L d D e E e' M) :
    Play (((w.setCell ⟨h, 0, none⟩ (.int .i64 (k : Int))).setCell ⟨h, 1, none⟩ (.slice A L.length c)).setCell ⟨h, 2, none⟩ (.slice C L.length c')) g h k b A c C c' L b A c C c' L := by
  have hz : (((w.setCell ⟨h, 0, none⟩ (.int .i64 (k : Int))).setCell ⟨h, 1, none⟩ (.slice A L.length c)).setCell ⟨h, 2, none⟩ (.slice C L.length c')).heap.size = w.heap.size := by simp
  refine ⟨?_, ?_, p.c9.other p.ne _ _ _, p.c11.set _ _ _, p.k9.set p.c11 _ _ _ _ _ _ _, p.k11.set p.c11 _ _ _ _ _ _ _, tz_set3 p.tz p.c11 _ _ _, by rw [hz]; exact p.lt9, by rw [hz]; exact p.lt11, p.ne⟩
  · rw [hz]; exact p.one.set (.inr rfl) _ _ _
  · rw [hz]; exact p.one.set (.inr rfl) _ _ _
/-- at the loop's start -/
theorem play_new {w : World} {k b : Nat} (ha : At w w.heap.size b k []) (hT : Tz w) (t : TypeId) :
    Play ((w.alloc (.cells #[.int .i64 (k : Int), .slice none 0 0, .slice none 0 0] t)).alloc (.cells #[.int .i64 (k : Int), .slice none 0 0, .slice none 0 0] t)) w.heap.size (w.heap.size + 1) k b none 0 none 0 [] b none 0 none 0 [] := by
  have hb : Below w.heap.size w ((w.alloc (.cells #[.int .i64 (k : Int), .slice none 0 0, .slice none 0 0] t)).alloc (.cells #[.int .i64 (k : Int), .slice none 0 0, .slice none 0 0] t)) := (below_alloc w _).alloc (by simp) _
  have e1 : K3 ((w.alloc (.cells #[.int .i64 (k : Int), .slice none 0 0, .slice none 0 0] t)).alloc (.cells #[.int .i64 (k : Int), .slice none 0 0, .slice none 0 0] t)) w.heap.size := (k3_new w k t).below (below_alloc _ _) (by simp)
  have e2 : K3 ((w.alloc (.cells #[.int .i64 (k : Int), .slice none 0 0, .slice none 0 0] t)).alloc (.cells #[.int .i64 (k : Int), .slice none 0 0, .slice none 0 0] t)) (w.heap.size + 1) := by
    have := k3_new (w.alloc (.cells #[.int .i64 (k : Int), .slice none 0 0, .slice none 0 0] t)) k t
    rwa [World.size_alloc] at this
  have hs : Side ((w.alloc (.cells #[.int .i64 (k : Int), .slice none 0 0, .slice none 0 0] t)).alloc (.cells #[.int .i64 (k : Int), .slice none 0 0, .slice none 0 0] t)) w.heap.size (w.heap.size + 1) (w.heap.size + 1 + 1) k b none 0 none 0 [] := fun w' hw =>
    ⟨at_kept (ha.below hb (Nat.le_refl _) (by omega)) e1 e2 hw, ⟨ha.1, Nat.le_refl _, Nat.le_refl _, RdV.nil _ _ _, RdV.nil _ _ _⟩⟩
  refine ⟨by simpa using hs, by simpa using hs, c3_at (heap_past _ (heap_at _ _ _ rfl)), c3_at (heap_at _ _ _ (by simp)), e1, e2, hT.on hb, by simp; omega, by simp, by omega⟩
end Go.Proofs.YtdejnkihofhjoaaDoor
