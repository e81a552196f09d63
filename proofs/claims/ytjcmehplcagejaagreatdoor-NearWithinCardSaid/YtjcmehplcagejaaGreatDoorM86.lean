import Derived.Test.YtjcmehplcagejaaGreatDoorM85
import Derived.Test.YtjcmehplcagejaaGreatDoorM16
import Derived.Test.YtjcmehplcagejaaGreatDoorM68
/-
  CONTRACTS of package near: who is told by To, Within, Far.
-/
namespace Go.Proofs.YtjcmehplcagejaaGreatDoor
open Go.ChangeShapes Go.WideShapes Go.ChangeAt Go.RowKit Go.Shelf
open Tr (T S4 Ent)
attribute [local go_sem] Oper.semAt_some

/-- a list of entries in a variable of its own (block gl); its points lie in blocks of P -/
structure LsI (W : World) (B gl : Nat) (P : Nat → Prop) (L : List Ent) (A : Option Addr) (c : Nat) : Prop where
  blk : W.heap[gl]? = some (.cells #[.slice A L.length c] 30 (0, 0))
  row : OwnL 53 2 (EntG W P) W B (.slice A L.length c) L
  gB : B ≤ gl
  ne : A.map (·.block) ≠ some gl
  out : ∀ b, P b → B ≤ b ∧ b < W.heap.size ∧ b ≠ gl ∧ A.map (·.block) ≠ some b
/-- all blocks of such a list -/
def LsF (gl : Nat) (P : Nat → Prop) (A : Option Addr) : Nat → Prop := fun b => b = gl ∨ A.map (·.block) = some b ∨ P b
section
variable {W W' : World} {B gl : Nat} {P : Nat → Prop} {L : List Ent} {A : Option Addr} {c : Nat}
theorem LsI.lt (h : LsI W B gl P L A c) : ∀ b, A.map (·.block) = some b → B ≤ b ∧ b < W.heap.size := fun b hb => h.row.lt b (by rw [own_block]; exact hb)
theorem LsI.frame (h : LsI W B gl P L A c) (hs : W.heap.size ≤ W'.heap.size) (hb : ∀ b, LsF gl P A b → W'.heap[b]? = W.heap[b]?) : LsI W' B gl P L A c :=
  ⟨(hb gl (.inl rfl)).trans h.blk, (OwnL.block h.row (w' := W') fun q hq => hb q (.inr (.inl (by rw [own_block] at hq; exact hq)))).imp (EntG.step hs fun b hlt hp => ⟨hb b (.inr (.inr hp)), hp⟩), h.gB, h.ne, fun b hp => ⟨(h.out b hp).1, Nat.lt_of_lt_of_le (h.out b hp).2.1 hs, (h.out b hp).2.2⟩⟩
theorem LsI.inb (h : LsI W B gl P L A c) : ∀ b, LsF gl P A b → b < W.heap.size ∧ B ≤ b := fun b hb => by
  rcases hb with rfl | hb | hb
  · exact ⟨(Array.getElem?_eq_some_iff.1 h.blk).1, h.gB⟩
  · exact ⟨(h.lt b hb).2, (h.lt b hb).1⟩
  · exact ⟨(h.out b hb).2.1, (h.out b hb).1⟩
theorem LsI.newR (h : LsI W B gl P L A c) : NewR B W A c L := by
  unfold NewR
  exact OwnL.imp h.row (EntG.step (Nat.le_refl _) fun b _ hp => ⟨rfl, (h.out b hp).1, (h.out b hp).2.2.2⟩)
theorem ls_new (w : World) : LsI (w.alloc (.cells #[.slice none 0 0] 30)) w.heap.size w.heap.size (fun _ => False) [] none 0 :=
  ⟨heap_at w _ _ rfl, ownL_none _ _ _, Nat.le_refl _, by simp, fun b hb => hb.elim⟩
/-- one more in the list -/
theorem LsI.app (h : LsI W B gl P L A c) {y : Ent} {hh : Nat} (hhB : B ≤ hh) (hhl : hh < W.heap.size) (hhF : ¬ LsF gl P A hh) {W1 w5 : World} {ob : Obj} {D5 : Option Addr} {d5 M : Nat} (hM : M = (L ++ [y]).length) (h1 : Below W.heap.size W W1)
    (hown : OwnL 53 2 (EntG W fun b => P b ∨ b = hh) w5 B (.slice D5 M d5) (L ++ [y])) (hgr : (W1.alloc ob).grownBy w5 (A.map (·.block))) (hat : D5.map (·.block) = A.map (·.block) ∨ D5.map (·.block) = some (W1.heap.size + 1)) :
    LsI (w5.setCell ⟨gl, 0, none⟩ (.slice D5 M d5)) B gl (fun b => P b ∨ b = hh) (L ++ [y]) D5 d5 ∧ Foot (LsF gl P A) W (w5.setCell ⟨gl, 0, none⟩ (.slice D5 M d5)) ∧ (∀ b, LsF gl (fun b => P b ∨ b = hh) D5 b → LsF gl P A b ∨ W.heap.size ≤ b ∨ b = hh) := by
  subst hM
  have hgl := (h.inb gl (.inl rfl)).1
  have hs1 := h1.size
  have hf5 : Foot (LsF gl P A) W w5 := (Foot.of_below (h1.trans ((below_alloc W1 ob).mono hs1))).trans (Foot.grown (F := LsF gl P A) hgr (fun q hq => .inr (.inl hq))) (fun b hb => .inl hb)
  have hfo := hf5.trans (Foot.setCell w5 (F := LsF gl P A) (a := ⟨gl, 0, none⟩) (.inl rfl) (.slice D5 (L ++ [y]).length d5)) (fun b hb => .inl hb)
  have hg5 : w5.heap[gl]? = some (.cells #[.slice A L.length c] 30 (0, 0)) := (hgr.block gl (by simp; omega) (fun e => h.ne e.symm)).trans (((below_alloc W1 ob).block gl (by omega)).trans ((h1.block gl hgl).trans h.blk))
  have hne : D5.map (·.block) ≠ some gl := by
    rcases hat with e | e
    · rw [e]; exact h.ne
    · rw [e]; intro e'; simp only [Option.some.injEq] at e'; omega
  have hD : ∀ b, D5.map (·.block) = some b → A.map (·.block) = some b ∨ W.heap.size ≤ b := fun b hb => by
    rcases hat with e | e
    · rw [e] at hb; exact .inl hb
    · rw [e, Option.some.injEq] at hb; right; omega
  have hkeep : ∀ b, b < W.heap.size → (P b ∨ b = hh) → (w5.setCell ⟨gl, 0, none⟩ (.slice D5 (L ++ [y]).length d5)).heap[b]? = W.heap[b]? := fun b hlt hp => by
    have hn : b ≠ gl ∧ A.map (·.block) ≠ some b := by
      rcases hp with hp | rfl
      · exact (h.out b hp).2.2
      · exact ⟨fun e => hhF (.inl e), fun e => hhF (.inr (.inl e))⟩
    rw [Below.heap_setCell _ _ _ _ hn.1]
    exact (hgr.block b (by simp; omega) (fun e => hn.2 e.symm)).trans (((below_alloc W1 ob).block b (by omega)).trans (h1.block b hlt))
  refine ⟨⟨block_set hg5 _, ?_, h.gB, hne, fun b hp => ?_⟩, hfo, fun b hb => ?_⟩
  · have h5 := OwnL.block hown (w' := w5.setCell ⟨gl, 0, none⟩ (.slice D5 (L ++ [y]).length d5)) fun q hq => Below.heap_setCell _ _ _ _ (fun e => hne (by rw [own_block] at hq; rw [hq, e]))
    exact OwnL.imp (Q' := EntG (w5.setCell ⟨gl, 0, none⟩ (.slice D5 (L ++ [y]).length d5)) fun b => P b ∨ b = hh) h5 (EntG.step hfo.size fun b hlt hp => ⟨hkeep b hlt hp, hp⟩)
  · have hp' : B ≤ b ∧ b < W.heap.size ∧ b ≠ gl ∧ A.map (·.block) ≠ some b := by
      rcases hp with hp | rfl
      · exact h.out b hp
      · exact ⟨hhB, hhl, fun e => hhF (.inl e), fun e => hhF (.inr (.inl e))⟩
    refine ⟨hp'.1, Nat.lt_of_lt_of_le hp'.2.1 hfo.size, hp'.2.2.1, fun e => ?_⟩
    rcases hD b e with e' | e'
    · exact hp'.2.2.2 e'
    · omega
  · rcases hb with rfl | hb | hb | rfl
    · exact .inl (.inl rfl)
    · rcases hD b hb with e | e
      · exact .inl (.inr (.inl e))
      · exact .inr (.inl e)
    · exact .inl (.inr (.inr hb))
    · exact .inr (.inr rfl)
end
theorem lst_next {α : Type} {n : Nat} {Q : (Nat → Option Value) → α → Prop} {e : TypeId} {w : World} (hQ : QOk n Q) (ob : Obj) (vs : Array Value) (x : α) (hs : vs.size = n) (hx : Q (fun j => vs[j]?) x) :
    Lst n Q ((w.alloc ob).alloc (.cells vs e)) (w.heap.size + 1 + 1) (some ⟨w.heap.size + 1, 0, none⟩) [x] := by
  have h := lst_at (e := e) (w := w.alloc ob) hQ vs x hs hx
  rw [World.size_alloc] at h
  exact h
theorem hat_of {A D5 : Option Addr} {n c M d5 s s' : Nat} (h : (Value.slice D5 M d5).ownBlock = (Value.slice A n c).ownBlock ∨ (Value.slice D5 M d5).ownBlock = some s) (hs : s = s') : D5.map (·.block) = A.map (·.block) ∨ D5.map (·.block) = some s' := by
  rw [own_block, own_block] at h
  subst hs
  exact h
theorem hav_same {w : World} {o : Obj} {b : Nat} (h : b < w.heap.size) : (w.alloc o).heap[b]? = w.heap[b]? := Below.heap_alloc w o b h
/-! ### Within -/
def WiJ (B gl : Nat) (N : List Ent) : Nat → (Nat → Prop) → World → Prop := fun j F W => ∃ P A c, F = LsF gl P A ∧ LsI W B gl P (N.take j) A c
set_option maxRecDepth 100000 in
set_option maxHeartbeats 4000000 in
theorem within1_visit (B gl : Nat) (p : List Nat) (N : List Ent) (hk : ∀ e ∈ N, e.1.length ≤ 65536 ∧ e.2 < 18446744073709551616) (hN : N.length ≤ 100000000) : MeetN1 74 gl B p N (WiJ B gl N) (fun _ _ _ => False) where
  ent := enters_of Tryz.func74 (by kernel_rfl) rfl
  frame := by
    rintro j F w w' ⟨P, A, c, rfl, h⟩ hs hb -
    exact ⟨P, A, c, rfl, h.frame hs hb⟩
  inb := by
    rintro j F w ⟨P, A, c, rfl, h⟩
    exact h.inb
  call := by
    rintro j F w e hh d n v x ⟨P, A, c, rfl, h⟩ he hpt hhF hhB hhl rfl rfl -
    have hj := lt_get he
    have hlen : (N.take j).length = j := by rw [List.length_take]; omega
    have hke := hk e (List.mem_of_getElem? he)
    have hblk := h.blk
    rw [hlen] at hblk
    have c1 : ∀ ob, (w.alloc ob).cell? ⟨gl, 0, none⟩ = some (.slice A j c) := fun ob => by rw [cell_of_row _ gl _ _ _ (0, 0) (hav_old (o := ob) hblk)]; rfl
    have HX := Lib.hid (And.intro h (And.intro he (And.intro hpt (And.intro hhF (And.intro hhB (And.intro hhl (And.intro hlen (And.intro hke (And.intro hj hblk)))))))))
    have hj9 : j ≤ 100000000 := by omega
    clear h he hpt hhF hhB hhl hlen hke hj hblk hk
    go_enter Tryz.func74, Tryz.ntmps74
    go_wp2_with (at_builtin; refine wpList_append_list (Q := EntG w fun b => P b ∨ b = hh) 30 53 (.agg #[.slice none 0 0, .int .u64 0]) 32 Tryz.underlying30 infoE2 (by rfl) (by omega) (by omega) (entG_ok _ _) (by rfl) _ _ (by rfl) B (.slice A j c) (N.take j) [e] (j + 1) (by rw [HX.out.2.2.2.2.2.2.1]; rfl) (by rfl) (by have h := HX.out.1.row; rw [HX.out.2.2.2.2.2.2.1] at h; exact (h.imp (EntG.step (Nat.le_refl _) fun b _ hp => ⟨rfl, .inl hp⟩)).below (C := w.heap.size) (by ((repeat (first | refine Below.drew ?_ | (with_reducible refine below_drewN _ ?_) | refine Below.alloc ?_ (by first | omega | (simp; done) | (simp; omega)) _ | refine Below.setCell ?_ (by first | omega | (simp; done) | (simp; omega)) _)); first | exact Below.refl _ _ | assumption | exact below_drewN _ (Below.refl _ _) | exact below_drewN _ (below_drewN _ (Below.refl _ _)))) (Nat.le_refl _)) _ _ 1 1 (by rfl) (by rfl) (by exact lst_next (entG_ok _ _) _ #[.slice (some ⟨hh, 0, none⟩) e.1.length d, .int .u64 (e.2 : Int)] e (by rfl) (by exact ⟨_, d, rfl, rfl, HX.out.2.2.1.step (Nat.le_refl _) (fun b _ hp => ⟨rfl, .inr hp⟩), by have := HX.out.2.2.2.2.2.2.2.1.1; unfold maxLen; omega, HX.out.2.2.2.2.2.2.2.1.2⟩)) (by omega) (by have h1 := (HX.out.1.inb gl (.inl rfl)); have := HX.out.1.gB; simp; omega) ?_; intro D5 d5 w5 hown5 hgrow5 hat5; have hg5 : w5.heap[gl]? = some (.cells #[.slice A j c] 30 (0, 0)) := (hgrow5.block gl (by have h1 := (HX.out.1.inb gl (.inl rfl)).1; simp; omega) (fun e => HX.out.1.ne (by rw [own_block] at e; exact e.symm))).trans (hav_old (hav_old HX.out.2.2.2.2.2.2.2.2.2)); have c5 : w5.cell? ⟨gl, 0, none⟩ = some (.slice A j c) := (by rw [cell_of_row w5 gl _ _ _ (0, 0) hg5]; rfl); have z5 := frozen_of_row w5 gl 0 _ _ hg5; have HG := Lib.hid (And.intro hown5 (And.intro hgrow5 hat5)); clear hown5 hgrow5 hat5 hg5)
    go_ret
    obtain ⟨hown5, hgrow5, hat5⟩ := HG.out
    obtain ⟨h, he, hpt, hhF, hhB, hhl, hlen, hke, hj, hblk⟩ := HX.out
    have htk : N.take (j + 1) = N.take j ++ [e] := by
      obtain ⟨hi, rfl⟩ := List.getElem?_eq_some_iff.1 he
      rw [List.take_succ_eq_append_getElem hi]
    obtain ⟨h1, h2, h3⟩ := h.app hhB hhl hhF (M := j + 1) (by rw [List.length_append, hlen]; rfl) (below_alloc w _) hown5 (by rw [own_block] at hgrow5; exact hgrow5) (hat_of hat5 (by simp))
    exact ⟨_, true, rfl, h3, h2, by rw [if_pos rfl]; exact ⟨_, _, _, rfl, by rw [htk]; exact h1⟩⟩
/-! ### To -/
/-- the list of To, and how many are wanted -/
def ToJ (B gl gn : Nat) (N : List Ent) (n : Int) (R : Nat → Nat → Prop) : Nat → (Nat → Prop) → World → Prop := fun j F W => ∃ P A c i, F = (fun b => LsF gl P A b ∨ b = gn) ∧ LsI W B gl P (N.take i) A c ∧ W.heap[gn]? = some (.cells #[.int .i64 n] 3 (0, 0)) ∧ B ≤ gn ∧ gn < W.heap.size ∧ ¬ LsF gl P A gn ∧ R j i
/-- between two entries; at the end -/
def ToR (n : Int) (j i : Nat) : Prop := i = j ∧ (j = 0 ∨ (j : Int) < n)
def ToE (n : Int) (_ i : Nat) : Prop := i = n.toNat
theorem ToJ.keep {B gl gn : Nat} {N : List Ent} {n : Int} {R : Nat → Nat → Prop} {j : Nat} {F : Nat → Prop} {w w' : World} (h : ToJ B gl gn N n R j F w) (hs : w.heap.size ≤ w'.heap.size) (hb : ∀ b, F b → w'.heap[b]? = w.heap[b]?) : ToJ B gl gn N n R j F w' := by
  obtain ⟨P, A, c, i, rfl, h, h2, h3, h4, h5, h6⟩ := h
  exact ⟨P, A, c, i, rfl, h.frame hs (fun b hb' => hb b (.inl hb')), (hb gn (.inr rfl)).trans h2, h3, Nat.lt_of_lt_of_le h4 hs, h5, h6⟩
set_option maxRecDepth 100000 in
set_option maxHeartbeats 4000000 in
theorem to1_visit (B gl gn : Nat) (n : Int) (hn : n ≤ 9223372036854775807) (p : List Nat) (N : List Ent) (hk : ∀ e ∈ N, e.1.length ≤ 65536 ∧ e.2 < 18446744073709551616) (hN : N.length ≤ 100000000) : MeetN2 72 gl gn B p N (ToJ B gl gn N n (ToR n)) (ToJ B gl gn N n (ToE n)) where
  ent := enters_of Tryz.func72 (by kernel_rfl) rfl
  frame := fun j F w w' h hs hb _ => h.keep hs hb
  inb := by
    rintro j F w ⟨P, A, c, i, rfl, h, h2, h3, h4, -, -⟩ b (hb | rfl)
    · exact h.inb b hb
    · exact ⟨h4, h3⟩
  call := by
    rintro j F w e hh d n' v x ⟨P, A, c, i, rfl, h, hg, hgB, hglt, hgn, rfl, hjn⟩ he hpt hhF hhB hhl rfl rfl -
    have hj := lt_get he
    have hlen : (N.take i).length = i := by rw [List.length_take]; omega
    have hke := hk e (List.mem_of_getElem? he)
    have hblk := h.blk
    rw [hlen] at hblk
    have c1 : ∀ ob, (w.alloc ob).cell? ⟨gl, 0, none⟩ = some (.slice A i c) := fun ob => by rw [cell_of_row _ gl _ _ _ (0, 0) (hav_old (o := ob) hblk)]; rfl
    have g1 : ∀ ob, (w.alloc ob).cell? ⟨gn, 0, none⟩ = some (.int .i64 n) := fun ob => by rw [cell_of_row _ gn _ _ _ (0, 0) (hav_old (o := ob) hg)]; rfl
    have hj9 : i ≤ 100000000 := by omega
    have hj9' : (i : Int) ≤ 100000000 := by omega
    have HX := Lib.hid (And.intro h (And.intro he (And.intro hpt (And.intro hhF (And.intro hhB (And.intro hhl (And.intro hlen (And.intro hke (And.intro hj (And.intro hblk (And.intro hg (And.intro hgB (And.intro hglt (And.intro hgn hjn))))))))))))))
    have HK := Lib.hid (And.intro hn hN)
    clear h he hpt hhF hhB hhl hlen hke hj hblk hk hg hgB hglt hgn hjn hn hN
    by_cases hin : (i : Int) < n
    · have d1 : decide ((i : Int) < n) = true := decide_eq_true hin
      obtain ⟨r, hr⟩ : ∃ r, decide ((i : Int) + 1 < n) = r := ⟨_, rfl⟩
      have HR := Lib.hid (And.intro hin hr)
      clear hin
      go_enter Tryz.func72, Tryz.ntmps72
      go_wp2_with (at_builtin; refine wpList_append_list (Q := EntG w fun b => P b ∨ b = hh) 30 53 (.agg #[.slice none 0 0, .int .u64 0]) 32 Tryz.underlying30 infoE2 (by rfl) (by omega) (by omega) (entG_ok _ _) (by rfl) _ _ (by rfl) B (.slice A i c) (N.take i) [e] (i + 1) (by rw [HX.out.2.2.2.2.2.2.1]; rfl) (by rfl) (by have h := HX.out.1.row; rw [HX.out.2.2.2.2.2.2.1] at h; exact (h.imp (EntG.step (Nat.le_refl _) fun b _ hp => ⟨rfl, .inl hp⟩)).below (C := w.heap.size) (by ((repeat (first | refine Below.drew ?_ | (with_reducible refine below_drewN _ ?_) | refine Below.alloc ?_ (by first | omega | (simp; done) | (simp; omega)) _ | refine Below.setCell ?_ (by first | omega | (simp; done) | (simp; omega)) _)); first | exact Below.refl _ _ | assumption | exact below_drewN _ (Below.refl _ _) | exact below_drewN _ (below_drewN _ (Below.refl _ _)))) (Nat.le_refl _)) _ _ 1 1 (by rfl) (by rfl) (by exact lst_next (entG_ok _ _) _ #[.slice (some ⟨hh, 0, none⟩) e.1.length d, .int .u64 (e.2 : Int)] e (by rfl) (by exact ⟨_, d, rfl, rfl, HX.out.2.2.1.step (Nat.le_refl _) (fun b _ hp => ⟨rfl, .inr hp⟩), by have := HX.out.2.2.2.2.2.2.2.1.1; unfold maxLen; omega, HX.out.2.2.2.2.2.2.2.1.2⟩)) (by omega) (by have h1 := (HX.out.1.inb gl (.inl rfl)); have := HX.out.1.gB; simp; omega) ?_; intro D5 d5 w5 hown5 hgrow5 hat5; have hg5 : w5.heap[gl]? = some (.cells #[.slice A i c] 30 (0, 0)) := (hgrow5.block gl (by have h1 := (HX.out.1.inb gl (.inl rfl)).1; simp; omega) (fun e => HX.out.1.ne (by rw [own_block] at e; exact e.symm))).trans (hav_old (hav_old HX.out.2.2.2.2.2.2.2.2.2.1)); have c5 : w5.cell? ⟨gl, 0, none⟩ = some (.slice A i c) := (by rw [cell_of_row w5 gl _ _ _ (0, 0) hg5]; rfl); have z5 := frozen_of_row w5 gl 0 _ _ hg5; have hn5 : w5.heap[gn]? = some (.cells #[.int .i64 n] 3 (0, 0)) := (hgrow5.block gn (by have h1 := HX.out.2.2.2.2.2.2.2.2.2.2.2.2.1; simp; omega) (fun e => HX.out.2.2.2.2.2.2.2.2.2.2.2.2.2.1 (.inr (.inl (by rw [own_block] at e; exact e.symm))))).trans (hav_old (hav_old HX.out.2.2.2.2.2.2.2.2.2.2.1)); have g5 : w5.cell? ⟨gn, 0, none⟩ = some (.int .i64 n) := (by rw [cell_of_row w5 gn _ _ _ (0, 0) hn5]; rfl); have hgng : (⟨gn, 0, none⟩ : Addr) ≠ ⟨gl, 0, none⟩ := (fun e => HX.out.2.2.2.2.2.2.2.2.2.2.2.2.2.1 (.inl (by simp only [Addr.mk.injEq] at e; exact e.1))); have g6 : (w5.setCell ⟨gl, 0, none⟩ (.slice D5 (i + 1) d5)).cell? ⟨gn, 0, none⟩ = some (.int .i64 n) := (World.cell?_of_block (a := ⟨gn, 0, none⟩) (Below.heap_setCell _ _ _ _ (fun e => HX.out.2.2.2.2.2.2.2.2.2.2.2.2.2.1 (.inl e)))).trans g5; have HG := Lib.hid (And.intro hown5 (And.intro hgrow5 (And.intro hat5 hn5))); clear hown5 hgrow5 hat5 hg5 hn5)
      go_ret
      obtain ⟨hown5, hgrow5, hat5, hn5⟩ := HG.out
      obtain ⟨h, he, hpt, hhF, hhB, hhl, hlen, hke, hj, hblk, hg, hgB, hglt, hgn, hjn⟩ := HX.out
      have htk : N.take (i + 1) = N.take i ++ [e] := by
        obtain ⟨hi, rfl⟩ := List.getElem?_eq_some_iff.1 he
        rw [List.take_succ_eq_append_getElem hi]
      obtain ⟨h1, h2, h3⟩ := h.app hhB hhl (fun hf => hhF (.inl hf)) (M := i + 1) (by rw [List.length_append, hlen]; rfl) (below_alloc w _) hown5 (by rw [own_block] at hgrow5; exact hgrow5) (hat_of hat5 (by simp))
      have hgl : gn ≠ gl := fun e => hgn (.inl e)
      have hn6 : (w5.setCell ⟨gl, 0, none⟩ (.slice D5 (i + 1) d5)).heap[gn]? = some (.cells #[.int .i64 n] 3 (0, 0)) := (Below.heap_setCell _ _ _ _ hgl).trans hn5
      have hgn' : ¬ LsF gl (fun b => P b ∨ b = hh) D5 gn := fun hf => by
        rcases h3 gn hf with e' | e' | e'
        · exact hgn e'
        · omega
        · exact hhF (.inr e'.symm)
      have hfin : ∀ R : Nat → Nat → Prop, R (i + 1) (i + 1) → ToJ B gl gn N n R (i + 1) (fun b => LsF gl (fun b => P b ∨ b = hh) D5 b ∨ b = gn) (w5.setCell ⟨gl, 0, none⟩ (.slice D5 (i + 1) d5)) := fun R hR => ⟨_, D5, d5, i + 1, rfl, by rw [htk]; exact h1, hn6, hgB, Nat.lt_of_lt_of_le hglt h2.size, hgn', hR⟩
      have hsub : ∀ b, (LsF gl (fun b => P b ∨ b = hh) D5 b ∨ b = gn) → (LsF gl P A b ∨ b = gn) ∨ w.heap.size ≤ b ∨ b = hh := fun b hb => by
        rcases hb with hb | rfl
        · rcases h3 b hb with e' | e' | e'
          · exact .inl (.inl e')
          · exact .inr (.inl e')
          · exact .inr (.inr e')
        · exact .inl (.inr rfl)
      have hfo : Foot (fun b => LsF gl P A b ∨ b = gn) w (w5.setCell ⟨gl, 0, none⟩ (.slice D5 (i + 1) d5)) := ⟨h2.os, h2.tape, h2.output, h2.size, fun b hb hf => h2.block b hb (fun e => hf (.inl e))⟩
      refine ⟨_, r, by first | rfl | (rw [← HR.out.2]; simp), hsub, hfo, ?_⟩
      cases r with
      | true => rw [if_pos rfl]; exact hfin _ ⟨rfl, .inr (by have := of_decide_eq_true HR.out.2; omega)⟩
      | false => rw [if_neg (by simp)]; exact hfin _ (by unfold ToE; have := of_decide_eq_false HR.out.2; have := HR.out.1; omega)
    · have d1 : decide ((i : Int) < n) = false := decide_eq_false hin
      have HR := Lib.hid hin
      clear hin
      go_enter Tryz.func72, Tryz.ntmps72
      go_wp2_with fail
      go_ret
      obtain ⟨h, he, hpt, hhF, hhB, hhl, hlen, hke, hj, hblk, hg, hgB, hglt, hgn, hjn⟩ := HX.out
      have hfo : Foot (fun b => LsF gl P A b ∨ b = gn) w (w.alloc (.cells #[.slice (some ⟨hh, 0, none⟩) e.1.length d, .int .u64 (e.2 : Int)] 53)) := Foot.of_below (below_alloc w _)
      have hi0 : i = 0 := by have := HR.out; omega
      subst hi0
      refine ⟨_, false, by first | rfl | (simp; done) | (simp; omega), fun b hb => .inl hb, hfo, ?_⟩
      rw [if_neg (by simp)]
      exact ToJ.keep (w := w) ⟨P, A, c, 0, rfl, h, hg, hgB, hglt, hgn, by unfold ToE; have := HR.out; omega⟩ hfo.size (fun b hb => hav_same (by
        rcases hb with hb | rfl
        · exact (h.inb b hb).1
        · exact hglt))
end Go.Proofs.YtjcmehplcagejaaGreatDoor

/-
  CONTRACTS of package near: each, To, Within, Far. Laid by wip/gen48.py.
-/
namespace Go.Proofs.YtjcmehplcagejaaGreatDoor
open Go.ChangeShapes Go.WideShapes Go.ChangeAt Go.RowKit Go.Shelf
open Tr (T S4 Ent)
attribute [local go_sem] Oper.semAt_some
theorem run_store_func {P : Program} {w : World} {a : Addr} {m : Mode} (f : Fn) (x y : Array Value) : (Go.store a (.func f x y) m).run P w = stored P w a (.func f x y) m := run_store P w a _ m rfl
attribute [local go_sem] run_store_func

/-! ### Far -/
def FaJ (B gd gi : Nat) (R : Nat → Nat → Bool → Prop) : Nat → (Nat → Prop) → World → Prop := fun j F W => ∃ y z, F = (fun b => b = gd ∨ b = gi) ∧ gd ≠ gi ∧ B ≤ gd ∧ B ≤ gi ∧ W.heap[gd]? = some (.cells #[.int .u64 ((y : Nat) : Int)] 46 (0, 0)) ∧ W.heap[gi]? = some (.cells #[.bool z] 4 (0, 0)) ∧ R j y z
def FaR (j y : Nat) (z : Bool) : Prop := j = 0 ∧ y = 0 ∧ z = false
def FaE (p : List Nat) (N : List Ent) (_ y : Nat) (z : Bool) : Prop := z = true ∧ ∃ e, N[0]? = some e ∧ y = Nr.dist p e.1
set_option maxRecDepth 100000 in
theorem far1_visit (B gd gi : Nat) (p : List Nat) (N : List Ent) : MeetN2 73 gd gi B p N (FaJ B gd gi FaR) (FaJ B gd gi (FaE p N)) where
  ent := enters_of Tryz.func73 (by kernel_rfl) rfl
  frame := by
    rintro j F w w' ⟨y, z, rfl, h1, h2, h3, h4, h5, h6⟩ hs hb -
    exact ⟨y, z, rfl, h1, h2, h3, (hb gd (.inl rfl)).trans h4, (hb gi (.inr rfl)).trans h5, h6⟩
  inb := by
    rintro j F w ⟨y, z, rfl, h1, h2, h3, h4, h5, h6⟩ b (rfl | rfl)
    · exact ⟨(Array.getElem?_eq_some_iff.1 h4).1, h2⟩
    · exact ⟨(Array.getElem?_eq_some_iff.1 h5).1, h3⟩
  call := by
    rintro j F w e hh d n v x ⟨y, z, rfl, h1, h2, h3, h4, h5, rfl, rfl, rfl⟩ he - - - - rfl rfl hx
    have hd := hav_old (o := .cells #[.slice (some ⟨hh, 0, none⟩) e.1.length d, .int .u64 (e.2 : Int)] 53) h4
    have hi := hav_old (o := .cells #[.slice (some ⟨hh, 0, none⟩) e.1.length d, .int .u64 (e.2 : Int)] 53) h5
    have c0 : (w.alloc (.cells #[.slice (some ⟨hh, 0, none⟩) e.1.length d, .int .u64 (e.2 : Int)] 53)).cell? ⟨gd, 0, none⟩ = some (.int .u64 ((0 : Nat) : Int)) := by rw [cell_of_row _ gd _ _ _ (0, 0) hd]; rfl
    have f0 := frozen_of_row _ gd 0 _ _ hd
    have hi2 : ((w.alloc (.cells #[.slice (some ⟨hh, 0, none⟩) e.1.length d, .int .u64 (e.2 : Int)] 53)).setCell ⟨gd, 0, none⟩ (.int .u64 (x : Int))).heap[gi]? = some (.cells #[.bool false] 4 (0, 0)) := (Below.heap_setCell _ _ _ _ (fun e => h1 e.symm)).trans hi
    have c1 : ((w.alloc (.cells #[.slice (some ⟨hh, 0, none⟩) e.1.length d, .int .u64 (e.2 : Int)] 53)).setCell ⟨gd, 0, none⟩ (.int .u64 (x : Int))).cell? ⟨gi, 0, none⟩ = some (.bool false) := by rw [cell_of_row _ gi _ _ _ (0, 0) hi2]; rfl
    have c1' : (w.alloc (.cells #[.slice (some ⟨hh, 0, none⟩) e.1.length d, .int .u64 (e.2 : Int)] 53)).cell? ⟨gi, 0, none⟩ = some (.bool false) := by rw [cell_of_row _ gi _ _ _ (0, 0) hi]; rfl
    have f1 : (w.alloc (.cells #[.slice (some ⟨hh, 0, none⟩) e.1.length d, .int .u64 (e.2 : Int)] 53)).frozen? ⟨gi, 0, none⟩ = false := frozen_of_row _ gi 0 _ _ hi
    have hne : (⟨gi, 0, none⟩ : Addr) ≠ ⟨gd, 0, none⟩ := fun e => h1 (by simp only [Addr.mk.injEq] at e; exact e.1.symm)
    have HX := Lib.hid (And.intro h1 (And.intro h2 (And.intro h3 (And.intro hd (And.intro hi2 (And.intro he hx))))))
    clear h1 h2 h3 h4 h5 he hx hd hi hi2
    go_enter Tryz.func73, Tryz.ntmps73
    go_wp2_with fail
    go_ret
    obtain ⟨h1, h2, h3, hd, hi2, he, hx⟩ := HX.out
    have hfo : Foot (fun b => b = gd ∨ b = gi) w (((w.alloc (.cells #[.slice (some ⟨hh, 0, none⟩) e.1.length d, .int .u64 (e.2 : Int)] 53)).setCell ⟨gd, 0, none⟩ (.int .u64 (x : Int))).setCell ⟨gi, 0, none⟩ (.bool true)) := ((Foot.of_below (below_alloc w _)).trans (Foot.setCell _ (F := fun b => b = gd ∨ b = gi) (a := ⟨gd, 0, none⟩) (.inl rfl) _) (fun b hb => .inl hb)).trans (Foot.setCell _ (F := fun b => b = gd ∨ b = gi) (a := ⟨gi, 0, none⟩) (.inr rfl) _) (fun b hb => .inl hb)
    refine ⟨fun b => b = gd ∨ b = gi, false, rfl, fun b hb => .inl hb, hfo, ?_⟩
    rw [if_neg (by simp)]
    exact ⟨x, true, rfl, h1, h2, h3, (Below.heap_setCell _ _ _ _ h1).trans (block_set hd _), block_set hi2 _, rfl, e, he, hx.symm⟩
/-! ### each -/
theorem each_dim {w : World} {b k : Nat} {r : Option Addr} (h : TreC w b k r) (A : Option Addr) (n c : Nat) (m f : Value) (hn : n ≤ maxLen) (hne : n ≠ k) :
    Calls Tryz.prog 71 #[.pointer (some ⟨b, 0, none⟩), .slice A n c, m, f] w fun e w' => e = .returned (.int .i64 2) ∧ w = w' := by
  by_cases hr : 1 ≤ n ∧ n ≤ 16
  · have H := Lib.hid (right_yes A n c w hr.1 hr.2)
    have HK := Lib.hid (tK_c h)
    have e1 : ((n : Int) != (k : Int)) = true := by rw [bne_iff_ne]; omega
    clear h hr hne hn
    go_enter Tryz.func71, Tryz.ntmps71
    go_wp2_with (first
      | (go_at_call 118; refine H.out.mono ?_; rintro e w' ⟨rfl, rfl⟩)
      | (go_at_call 51; refine HK.out.mono ?_; rintro e w' ⟨rfl, rfl⟩))
    go_ret
    exact ⟨rfl, rfl⟩
  · have H := Lib.hid (right_no A n c w hn hr)
    clear h hr hne hn
    go_enter Tryz.func71, Tryz.ntmps71
    go_wp2_with (go_at_call 118; refine H.out.mono ?_; rintro e w' ⟨rfl, rfl⟩)
    go_ret
    exact ⟨rfl, rfl⟩
theorem sea_new {w : World} {F : Nat → Prop} {k : Nat} (p : List Nat) (Ap : Option Addr) (cp most : Nat) (fv : Value) (hF : ∀ b, F b → b < w.heap.size) :
    Sea (w.alloc (.cells #[.slice none 0 0, .slice Ap k cp, .int .u64 (most : Int), fv] 190)) F w.heap.size w.heap.size k p Ap cp most fv none 0 [] :=
  ⟨⟨heap_at w _ _ rfl, ownL_none _ _ _, fun i _ h => by simp at h, fun t ht => by simp at ht, fun b hb => ⟨hb.2.1, hb.2.2.1⟩, by simp⟩, by simp, Nat.le_refl _, fun h => by have := hF _ h; omega, fun b hb => by simp at hb, fun b hb => by have := hF b hb; simp; omega⟩

set_option maxRecDepth 100000 in
set_option maxHeartbeats 4000000 in
theorem each1_c {fid g1 B k : Nat} {p : List Nat} {N : List Ent} {J Jx : Nat → (Nat → Prop) → World → Prop} {Ap : Option Addr} {cp most : Nat} (hv : MeetN1 fid g1 B p N J Jx) {w : World} {F : Nat → Prop} (hJ : J 0 F w) (hB : B ≤ w.heap.size) {b : Nat} {o : Option T} (ht : TreeAt w B b k o) (hp : Pts w B Ap p) (hpl : p.length = k) (hT : ∀ w', Below B w w' → Tz w')
    (hN : N = (Nr.nearL p (Tr.entsO o)).filter fun e => decide (Nr.dist p e.1 ≤ most)) (hlen : (Tr.entsO o).length ≤ 100000000) :
    Calls Tryz.prog 71 #[.pointer (some ⟨b, 0, none⟩), .slice Ap k cp, .int .u64 (most : Int), .func (.func fid) #[] #[.pointer (some ⟨g1, 0, none⟩)]] w fun e w' => e = .returned (.int .i64 0) ∧ MetN J Jx B F N w w' := by
  obtain ⟨hbB, k1, k16, htc, hno⟩ := ht
  have hal := below_alloc w (.cells #[.slice none 0 0, .slice Ap k cp, .int .u64 (most : Int), .func (.func fid) #[] #[.pointer (some ⟨g1, 0, none⟩)]] 190)
  have hin := hv.inb _ _ _ hJ
  have H := Lib.hid (right_yes Ap k cp w k1 k16)
  have HK := Lib.hid (tK_c htc)
  have HR := Lib.hid (tRoot_c (htc.below hal (Nat.lt_of_lt_of_le hbB hB)))
  have HTh := Lib.hid (through1_c hv (hv.frame 0 F _ _ hJ hal.size (fun b hb => hal.block b (hin b hb).1) (hal.mono hB)) (sea_new p Ap cp most _ (fun b hb => (hin b hb).1)) hB (hp.below' (hal.mono hB) (Nat.le_refl _)) hpl (fun w' h => hT w' ((hal.mono hB).trans h)) (fun t e => (hno t e).below (hal.mono hB) (Nat.le_refl _) (Nat.le_refl _)) hN hlen)
  have HB := Lib.hid (hal.mono hB)
  have e1 : ((k : Int) != (k : Int)) = false := by simp
  clear hv hJ hB hp hpl hT hN hlen hbB k1 k16 htc hno hal hin
  go_enter Tryz.func71, Tryz.ntmps71
  go_wp2_with (first
    | (go_at_call 118; refine H.out.mono ?_; rintro e w' ⟨rfl, rfl⟩)
    | (go_at_call 51; refine HK.out.mono ?_; rintro e w' ⟨rfl, rfl⟩)
    | (go_at_call 56; refine HR.out.mono ?_; rintro e w' ⟨rfl, rfl⟩)
    | (go_at_call 135; refine HTh.out.mono ?_; rintro e w2 ⟨rfl, hm⟩; have HM := Lib.hid hm; clear hm))
  go_ret
  obtain ⟨F', j, h1, h2, h3⟩ := HM.out
  exact ⟨rfl, F', j, fun b hb => by
    rcases h1 b hb with e | e
    · exact .inl e
    · exact .inr (by simp at e; omega), h2, HB.out.trans h3⟩

set_option maxRecDepth 100000 in
set_option maxHeartbeats 4000000 in
theorem each2_c {fid g1 g2 B k : Nat} {p : List Nat} {N : List Ent} {J Jx : Nat → (Nat → Prop) → World → Prop} {Ap : Option Addr} {cp most : Nat} (hv : MeetN2 fid g1 g2 B p N J Jx) {w : World} {F : Nat → Prop} (hJ : J 0 F w) (hB : B ≤ w.heap.size) {b : Nat} {o : Option T} (ht : TreeAt w B b k o) (hp : Pts w B Ap p) (hpl : p.length = k) (hT : ∀ w', Below B w w' → Tz w')
    (hN : N = (Nr.nearL p (Tr.entsO o)).filter fun e => decide (Nr.dist p e.1 ≤ most)) (hlen : (Tr.entsO o).length ≤ 100000000) :
    Calls Tryz.prog 71 #[.pointer (some ⟨b, 0, none⟩), .slice Ap k cp, .int .u64 (most : Int), .func (.func fid) #[] #[.pointer (some ⟨g1, 0, none⟩), .pointer (some ⟨g2, 0, none⟩)]] w fun e w' => e = .returned (.int .i64 0) ∧ MetN J Jx B F N w w' := by
  obtain ⟨hbB, k1, k16, htc, hno⟩ := ht
  have hal := below_alloc w (.cells #[.slice none 0 0, .slice Ap k cp, .int .u64 (most : Int), .func (.func fid) #[] #[.pointer (some ⟨g1, 0, none⟩), .pointer (some ⟨g2, 0, none⟩)]] 190)
  have hin := hv.inb _ _ _ hJ
  have H := Lib.hid (right_yes Ap k cp w k1 k16)
  have HK := Lib.hid (tK_c htc)
  have HR := Lib.hid (tRoot_c (htc.below hal (Nat.lt_of_lt_of_le hbB hB)))
  have HTh := Lib.hid (through2_c hv (hv.frame 0 F _ _ hJ hal.size (fun b hb => hal.block b (hin b hb).1) (hal.mono hB)) (sea_new p Ap cp most _ (fun b hb => (hin b hb).1)) hB (hp.below' (hal.mono hB) (Nat.le_refl _)) hpl (fun w' h => hT w' ((hal.mono hB).trans h)) (fun t e => (hno t e).below (hal.mono hB) (Nat.le_refl _) (Nat.le_refl _)) hN hlen)
  have HB := Lib.hid (hal.mono hB)
  have e1 : ((k : Int) != (k : Int)) = false := by simp
  clear hv hJ hB hp hpl hT hN hlen hbB k1 k16 htc hno hal hin
  go_enter Tryz.func71, Tryz.ntmps71
  go_wp2_with (first
    | (go_at_call 118; refine H.out.mono ?_; rintro e w' ⟨rfl, rfl⟩)
    | (go_at_call 51; refine HK.out.mono ?_; rintro e w' ⟨rfl, rfl⟩)
    | (go_at_call 56; refine HR.out.mono ?_; rintro e w' ⟨rfl, rfl⟩)
    | (go_at_call 135; refine HTh.out.mono ?_; rintro e w2 ⟨rfl, hm⟩; have HM := Lib.hid hm; clear hm))
  go_ret
  obtain ⟨F', j, h1, h2, h3⟩ := HM.out
  exact ⟨rfl, F', j, fun b hb => by
    rcases h1 b hb with e | e
    · exact .inl e
    · exact .inr (by simp at e; omega), h2, HB.out.trans h3⟩

/-! ### To, Within, Far -/
theorem filter_top {p : List Nat} {k : Nat} {o : Option T} (hp : Z.Ok p) (hpl : p.length = k) (hd : Tr.Dim k (Tr.entsO o)) (hz : Tr.ZS (Tr.entsO o)) : ((Nr.nearL p (Tr.entsO o)).filter fun e => decide (Nr.dist p e.1 ≤ 18446744073709551615)) = Nr.nearL p (Tr.entsO o) := by
  rw [List.filter_eq_self]
  intro e he
  have h := (Nr.nearL_ns hpl hz hd).2.1 e
  have := Nr.dist_lt hp (hd e (h.1 he)).2.1
  exact decide_eq_true (by omega)
theorem near_ok {p : List Nat} {k : Nat} {L : List Ent} (hpl : p.length = k) (hd : Tr.Dim k L) (hz : Tr.ZS L) (k16 : k ≤ 16) (q : Ent → Bool) : (∀ e ∈ (Nr.nearL p L).filter q, e.1.length ≤ 65536 ∧ e.2 < 18446744073709551616) ∧ ((Nr.nearL p L).filter q).length ≤ L.length := by
  have h := Nr.nearL_ns hpl hz hd
  refine ⟨fun e he => ?_, by rw [← h.2.2]; exact List.length_filter_le _ _⟩
  have hm := hd e ((h.2.1 e).1 (List.mem_filter.1 he).1)
  exact ⟨by rw [hm.1]; omega, hm.2.2⟩
theorem nTo_dim {w : World} {b k : Nat} {r : Option Addr} (h : TreC w b k r) (hb : b < w.heap.size) (A : Option Addr) (n c : Nat) (m : Int) (hn : n ≤ maxLen) (hne : n ≠ k) : Calls Tryz.prog 24 #[.pointer (some ⟨b, 0, none⟩), .slice A n c, .int .i64 m] w fun e w' => e = .returned (.tuple #[.slice none 0 0, .int .i64 2]) ∧ Below w.heap.size w w' := by
  have HE := Lib.hid fun (w2 : World) (h2 : Below w.heap.size w w2) (m f : Value) => each_dim (h.below h2 hb) A n c m f hn hne
  have h2 := Below.andThen (below_alloc w (.cells #[.int .i64 m] 3)) (below_alloc _ (.cells #[.slice none 0 0] 30))
  clear h hb hn hne
  go_enter Tryz.func24, Tryz.ntmps24
  go_wp2_with (go_at_call 71; refine (HE.out _ h2 _ _).mono ?_; rintro e w' ⟨rfl, rfl⟩)
  go_ret2
  exact ⟨rfl, h2⟩
theorem tree_dz {w : World} {b k : Nat} {o : Option T} (h : TreeX w b k o) : Tr.Dim k (Tr.entsO o) ∧ Tr.ZS (Tr.entsO o) := by
  cases o with
  | none => exact ⟨fun e he => (by cases he), List.Pairwise.nil⟩
  | some t => exact ⟨(h.1.2.2.2.2 t rfl).1.dim, (h.1.2.2.2.2 t rfl).1.zs⟩
set_option maxRecDepth 100000 in
set_option maxHeartbeats 4000000 in
theorem nTo_c {w : World} {b k : Nat} {o : Option T} (h : TreeX w b k o) (hT : ∀ w', Below w.heap.size w w' → Tz w') (hN : (Tr.entsO o).length ≤ 100000000) {p : List Nat} {A : Option Addr} {c : Nat} (hp : Pts w w.heap.size A p) (hpl : p.length = k) (m : Int) (hm : m ≤ 9223372036854775807) {L : List Ent} (hL : (Nr.nearL p (Tr.entsO o)).take m.toNat = L) :
    Calls Tryz.prog 24 #[.pointer (some ⟨b, 0, none⟩), .slice A k c, .int .i64 m] w fun e w' => ∃ D d, e = .returned (.tuple #[.slice D L.length d, .int .i64 0]) ∧ NewR w.heap.size w' D d L ∧ Below w.heap.size w w' := by
  obtain ⟨hd, hz⟩ := tree_dz h
  have k16 := h.1.2.2.1
  have hf := filter_top hp.1 hpl hd hz
  have hok := near_ok hpl hd hz k16 (fun e => decide (Nr.dist p e.1 ≤ 18446744073709551615))
  rw [hf] at hok
  have h2 := Below.andThen (below_alloc w (.cells #[.int .i64 m] 3)) (below_alloc _ (.cells #[.slice none 0 0] 30))
  have hg1 : ((w.alloc (.cells #[.int .i64 m] 3)).alloc (.cells #[.slice none 0 0] 30)).heap[w.heap.size]? = some (.cells #[.int .i64 m] 3 (0, 0)) := hav_old (heap_at w _ _ rfl)
  have hg2 : ((w.alloc (.cells #[.int .i64 m] 3)).alloc (.cells #[.slice none 0 0] 30)).heap[w.heap.size + 1]? = some (.cells #[.slice none 0 0] 30 (0, 0)) := heap_at _ _ _ (by simp)
  generalize hNL : Nr.nearL p (Tr.entsO o) = N at *
  have HE := Lib.hid (each2_c (most := 18446744073709551615) (cp := c) (to1_visit w.heap.size (w.heap.size + 1) w.heap.size m hm p N hok.1 (by omega)) (w := (w.alloc (.cells #[.int .i64 m] 3)).alloc (.cells #[.slice none 0 0] 30))
    (F := fun b => LsF (w.heap.size + 1) (fun _ => False) none b ∨ b = w.heap.size)
    ⟨fun _ => False, none, 0, 0, rfl, ⟨hg2, ownL_none _ _ _, by omega, by simp, fun b hb => hb.elim⟩, hg1, Nat.le_refl _, by simp; omega, fun hf => by rcases hf with e | e | e <;> simp at e, rfl, .inl rfl⟩ h2.size (h.1.below h2 (Nat.le_refl _) (Nat.le_refl _)) (hp.below' h2 (Nat.le_refl _)) hpl (fun w' hb => hT w' (h2.trans hb)) (by rw [hNL]; exact hf.symm) hN)
  have H2 := Lib.hid h2
  have HNL := Lib.hid hL
  clear h hT hN hp hpl hm hd hz k16 hf hok hg1 hg2 hNL h2 hL
  go_enter Tryz.func24, Tryz.ntmps24
  go_wp2_with fail
  refine HE.out.mono ?_
  rintro e w3 ⟨rfl, F', j, hF', hor, hb3⟩
  have hls : ∃ P A' c', LsI w3 w.heap.size (w.heap.size + 1) P (N.take m.toNat) A' c' := by
    rcases hor with ⟨rfl, P, A', c', i, -, hl, -, -, -, -, rfl, hjn⟩ | ⟨P, A', c', i, -, hl, -, -, -, -, hi⟩
    · refine ⟨P, A', c', ?_⟩
      have : N.take m.toNat = N.take N.length := by
        rcases hjn with h0 | h0
        · rw [List.length_eq_zero_iff] at h0; subst h0; simp
        · rw [List.take_of_length_le (by omega), List.take_length]
      rw [this]; exact hl
    · unfold ToE at hi
      subst hi
      exact ⟨P, A', c', hl⟩
  obtain ⟨P, A', c', hl⟩ := hls
  have c0 : w3.cell? ⟨w.heap.size + 1, 0, none⟩ = some (.slice A' (N.take m.toNat).length c') := by rw [cell_of_row w3 _ _ _ _ (0, 0) hl.blk]; rfl
  have HL := Lib.hid (And.intro hl.newR (H2.out.trans hb3))
  rw [HNL.out] at c0 HL
  clear hor hF' hb3 hl HE
  go_wp2_with fail
  go_ret2
  exact ⟨A', c', rfl, HL.out.1, HL.out.2⟩
theorem nWithin_dim {w : World} {b k : Nat} {r : Option Addr} (h : TreC w b k r) (hb : b < w.heap.size) (A : Option Addr) (n c : Nat) (m : Value) (hn : n ≤ maxLen) (hne : n ≠ k) : Calls Tryz.prog 29 #[.pointer (some ⟨b, 0, none⟩), .slice A n c, m] w fun e w' => e = .returned (.tuple #[.slice none 0 0, .int .i64 2]) ∧ Below w.heap.size w w' := by
  have HE := Lib.hid fun (w2 : World) (h2 : Below w.heap.size w w2) (m f : Value) => each_dim (h.below h2 hb) A n c m f hn hne
  have h2 := below_alloc w (.cells #[.slice none 0 0] 30)
  clear h hb hn hne
  go_enter Tryz.func29, Tryz.ntmps29
  go_wp2_with (go_at_call 71; refine (HE.out _ h2 _ _).mono ?_; rintro e w' ⟨rfl, rfl⟩)
  go_ret2
  exact ⟨rfl, h2⟩
set_option maxRecDepth 100000 in
set_option maxHeartbeats 4000000 in
theorem nWithin_c {w : World} {b k : Nat} {o : Option T} (h : TreeX w b k o) (hT : ∀ w', Below w.heap.size w w' → Tz w') (hN : (Tr.entsO o).length ≤ 100000000) {p : List Nat} {A : Option Addr} {c : Nat} (hp : Pts w w.heap.size A p) (hpl : p.length = k) (m : Nat) {N : List Ent} (hNN : (Nr.nearL p (Tr.entsO o)).filter (fun e => decide (Nr.dist p e.1 ≤ m)) = N) :
    Calls Tryz.prog 29 #[.pointer (some ⟨b, 0, none⟩), .slice A k c, .int .u64 (m : Int)] w fun e w' => ∃ D d, e = .returned (.tuple #[.slice D N.length d, .int .i64 0]) ∧ NewR w.heap.size w' D d N ∧ Below w.heap.size w w' := by
  obtain ⟨hd, hz⟩ := tree_dz h
  have hok := near_ok hpl hd hz h.1.2.2.1 (fun e => decide (Nr.dist p e.1 ≤ m))
  rw [hNN] at hok
  have h2 := below_alloc w (.cells #[.slice none 0 0] 30)
  have hls := ls_new w
  have HE := Lib.hid (each1_c (most := m) (cp := c) (within1_visit w.heap.size w.heap.size p N hok.1 (by omega)) (w := w.alloc (.cells #[.slice none 0 0] 30)) (F := LsF w.heap.size (fun _ => False) none) ⟨_, _, _, rfl, hls⟩ h2.size (h.1.below h2 (Nat.le_refl _) (Nat.le_refl _)) (hp.below' h2 (Nat.le_refl _)) hpl (fun w' hb => hT w' (h2.trans hb)) hNN.symm hN)
  have H2 := Lib.hid h2
  clear h hT hN hp hpl hd hz hok hNN h2 hls
  go_enter Tryz.func29, Tryz.ntmps29
  go_wp2_with fail
  refine HE.out.mono ?_
  rintro e w3 ⟨rfl, F', j, hF', hor, hb3⟩
  obtain ⟨P, A', c', hl⟩ : ∃ P A' c', LsI w3 w.heap.size w.heap.size P N A' c' := by
    rcases hor with ⟨rfl, P, A', c', -, hl⟩ | hf
    · rw [List.take_length] at hl
      exact ⟨P, A', c', hl⟩
    · exact hf.elim
  have c0 : w3.cell? ⟨w.heap.size, 0, none⟩ = some (.slice A' N.length c') := by rw [cell_of_row w3 _ _ _ _ (0, 0) hl.blk]; rfl
  have HL := Lib.hid (And.intro hl.newR (H2.out.trans hb3))
  clear hor hF' hb3 hl HE
  go_wp2_with fail
  go_ret2
  exact ⟨A', c', rfl, HL.out.1, HL.out.2⟩
theorem nFar_dim {w : World} {b k : Nat} {r : Option Addr} (h : TreC w b k r) (hb : b < w.heap.size) (A : Option Addr) (n c : Nat) (hn : n ≤ maxLen) (hne : n ≠ k) : Calls Tryz.prog 25 #[.pointer (some ⟨b, 0, none⟩), .slice A n c] w fun e w' => e = .returned (.tuple #[.int .u64 0, .bool false, .int .i64 2]) ∧ Below w.heap.size w w' := by
  have HE := Lib.hid fun (w2 : World) (h2 : Below w.heap.size w w2) (m f : Value) => each_dim (h.below h2 hb) A n c m f hn hne
  have h2 := Below.andThen (below_alloc w (.cells #[.int .u64 0] 46)) (below_alloc _ (.cells #[.bool false] 4))
  clear h hb hn hne
  go_enter Tryz.func25, Tryz.ntmps25
  go_wp2_with (go_at_call 71; refine (HE.out _ h2 _ _).mono ?_; rintro e w' ⟨rfl, rfl⟩)
  go_quiet (fail)
  go_wp2_with fail
  go_ret3
  exact ⟨rfl, below_drewN _ h2⟩
/-- the distance of the nearest one, if there is one -/
def FarT (p : List Nat) (N : List Ent) (y : Nat) (z : Bool) : Prop := (N = [] ∧ y = 0 ∧ z = false) ∨ ∃ e, N[0]? = some e ∧ y = Nr.dist p e.1 ∧ z = true
set_option maxRecDepth 100000 in
set_option maxHeartbeats 4000000 in
theorem nFar_c {w : World} {b k : Nat} {o : Option T} (h : TreeX w b k o) (hT : ∀ w', Below w.heap.size w w' → Tz w') (hN : (Tr.entsO o).length ≤ 100000000) {p : List Nat} {A : Option Addr} {c : Nat} (hp : Pts w w.heap.size A p) (hpl : p.length = k) :
    Calls Tryz.prog 25 #[.pointer (some ⟨b, 0, none⟩), .slice A k c] w fun e w' => ∃ y z, e = .returned (.tuple #[.int .u64 ((y : Nat) : Int), .bool z, .int .i64 0]) ∧ FarT p (Nr.nearL p (Tr.entsO o)) y z ∧ Below w.heap.size w w' := by
  obtain ⟨hd, hz⟩ := tree_dz h
  have hf := filter_top hp.1 hpl hd hz
  have h2 := Below.andThen (below_alloc w (.cells #[.int .u64 0] 46)) (below_alloc _ (.cells #[.bool false] 4))
  have hg1 : ((w.alloc (.cells #[.int .u64 0] 46)).alloc (.cells #[.bool false] 4)).heap[w.heap.size]? = some (.cells #[.int .u64 0] 46 (0, 0)) := hav_old (heap_at w _ _ rfl)
  have hg2 : ((w.alloc (.cells #[.int .u64 0] 46)).alloc (.cells #[.bool false] 4)).heap[w.heap.size + 1]? = some (.cells #[.bool false] 4 (0, 0)) := heap_at _ _ _ (by simp)
  generalize hNL : Nr.nearL p (Tr.entsO o) = N at *
  have HE := Lib.hid (each2_c (most := 18446744073709551615) (cp := c) (far1_visit w.heap.size w.heap.size (w.heap.size + 1) p N) (w := (w.alloc (.cells #[.int .u64 0] 46)).alloc (.cells #[.bool false] 4))
    (F := fun b => b = w.heap.size ∨ b = w.heap.size + 1) ⟨0, false, rfl, by omega, Nat.le_refl _, by omega, hg1, hg2, rfl, rfl, rfl⟩ h2.size (h.1.below h2 (Nat.le_refl _) (Nat.le_refl _)) (hp.below' h2 (Nat.le_refl _)) hpl (fun w' hb => hT w' (h2.trans hb)) (by rw [hNL]; exact hf.symm) hN)
  have H2 := Lib.hid h2
  clear h hT hN hp hpl hd hz hf hg1 hg2 hNL h2
  go_enter Tryz.func25, Tryz.ntmps25
  go_wp2_with fail
  refine HE.out.mono ?_
  rintro e w3 ⟨rfl, F', j, hF', hor, hb3⟩
  obtain ⟨y, z, h1, h2, hft⟩ : ∃ y z, w3.heap[w.heap.size]? = some (.cells #[.int .u64 ((y : Nat) : Int)] 46 (0, 0)) ∧ w3.heap[w.heap.size + 1]? = some (.cells #[.bool z] 4 (0, 0)) ∧ FarT p N y z := by
    rcases hor with ⟨rfl, y, z, -, -, -, -, h1, h2, h3, h4, h5⟩ | ⟨y, z, -, -, -, -, h1, h2, h3, e, h4, h5⟩
    · exact ⟨y, z, h1, h2, .inl ⟨List.length_eq_zero_iff.1 h3, h4, h5⟩⟩
    · exact ⟨y, z, h1, h2, .inr ⟨e, h4, h5, h3⟩⟩
  have c0 : w3.cell? ⟨w.heap.size, 0, none⟩ = some (.int .u64 (y : Int)) := by rw [cell_of_row w3 _ _ _ _ (0, 0) h1]; rfl
  have c1 : w3.cell? ⟨w.heap.size + 1, 0, none⟩ = some (.bool z) := by rw [cell_of_row w3 _ _ _ _ (0, 0) h2]; rfl
  have HL := Lib.hid (And.intro hft (H2.out.trans hb3))
  clear hor hF' hb3 HE h1 h2 hft
  go_wp2_with fail
  go_quiet (fail)
  clear c0 c1
  go_wp2_with fail
  go_ret3
  exact ⟨y, z, rfl, HL.out.1, below_drewN _ HL.out.2⟩
end Go.Proofs.YtjcmehplcagejaaGreatDoor
