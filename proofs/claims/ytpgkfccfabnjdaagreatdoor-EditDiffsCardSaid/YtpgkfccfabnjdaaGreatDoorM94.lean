import Derived.Test.YtpgkfccfabnjdaaGreatDoorM93
/-
  CONTRACTS of package diff, eighth part: through, Changes, Count, Same, Steps.
-/
namespace Go.Proofs.YtpgkfccfabnjdaaGreatDoor
open Go.ChangeShapes Go.WideShapes Go.ChangeAt Go.RowKit
open Tr (T S4 Ent Sd Fl Chg)

/-! ### Count -/
/-! ### through -/
def EndW (go : Bool) (Inv : List Chg → World → (Nat → Prop) → Prop) (C : List Chg) (w : World) (F : Nat → Prop) (w' : World) : Prop :=
  ∃ (us : List Chg) (F' : Nat → Prop), Inv us w' F' ∧ (go = true → us = C) ∧ (go = false → (us = [] ↔ C = [])) ∧ (∀ b, F' b → F b ∨ w.heap.size ≤ b) ∧ Foot F w w'
theorem dthru_c {fid : Nat} {lb : Array Value} {B k M : Nat} {go : Bool} {Inv : List Chg → World → (Nat → Prop) → Prop} (hv : VisitD fid lb B k M go Inv) {w : World} {F : Nat → Prop} (hI : Inv [] w F) {b b' : Nat} {x y : Option T} (hx : TreeAt w B b k x) (hy : TreeAt w B b' k y) (hB : B ≤ w.heap.size) (hT : ∀ w', Below B w w' → Tz w') (hM : (Tr.chO x y).length ≤ M) :
    Calls Tryz.prog 78 #[.pointer (some ⟨b, 0, none⟩), .pointer (some ⟨b', 0, none⟩), .func (.func fid) #[] lb] w fun e w' => ∃ z : Int, e = .returned (.tuple #[.int .i64 z, .int .i64 0]) ∧ EndW go Inv (Tr.chO x y) w F w' := by
  have HTh := Lib.hid (dthrough_c hv hI hx.2.2.2.2 hy.2.2.2.2 hB hT hM)
  have HK := Lib.hid (tK_c hx.2.2.2.1)
  have HK' := Lib.hid (tK_c hy.2.2.2.1)
  have HR := Lib.hid (tRoot_c hx.2.2.2.1)
  have HR' := Lib.hid (tRoot_c hy.2.2.2.1)
  have e1 : ((k : Int) != (k : Int)) = false := by simp
  clear hv hI hx hy hB hT hM
  go_enter Tryz.func78, Tryz.ntmps78
  go_wp2_with fail
  refine HK.out.mono ?_
  rintro e w' ⟨rfl, rfl⟩
  clear HK
  go_wp2_with fail
  refine HK'.out.mono ?_
  rintro e w' ⟨rfl, rfl⟩
  clear HK'
  go_wp2_with fail
  refine HR.out.mono ?_
  rintro e w' ⟨rfl, rfl⟩
  clear HR
  go_wp2_with fail
  refine HR'.out.mono ?_
  rintro e w' ⟨rfl, rfl⟩
  clear HR'
  go_wp2_with fail
  refine HTh.out.mono ?_
  rintro e w2 ⟨z, us, F', rfl, he⟩
  have HE := Lib.hid he
  clear he HTh
  go_wp2_with fail
  go_ret2
  exact ⟨z, rfl, us, F', HE.out⟩
end Go.Proofs.YtpgkfccfabnjdaaGreatDoor

/-
  CONTRACTS of package diff, ninth part: Changes, Count, Same, Steps.
-/
namespace Go.Proofs.YtpgkfccfabnjdaaGreatDoor
open Go.ChangeShapes Go.WideShapes Go.ChangeAt Go.RowKit
open Tr (T S4 Ent Sd Fl Chg)

def NewC (base : Nat) (w : World) (A : Option Addr) (c : Nat) (L : List Chg) : Prop := OwnL 111 5 (ChG w fun b => base ≤ b) w base (.slice A L.length c) L
theorem NewC.below {base : Nat} {w w' : World} {A : Option Addr} {c : Nat} {L : List Chg} (h : NewC base w A c L) (hb : Below w.heap.size w w') : NewC base w' A c L :=
  OwnL.imp (OwnL.below h hb (Nat.le_refl _)) (ChG.step hb.size fun b hlt hD => ⟨hb.block b hlt, hD⟩)

/-! ### Changes -/
theorem dChanges_c {w : World} {b b' k : Nat} {x y : Option T} (hx : TreeX w b k x) (hy : TreeX w b' k y) (hT : ∀ w', Below w.heap.size w w' → Tz w') {C : List Chg} (hC : Tr.chO x y = C) (hM : C.length ≤ 100000000) {n : Nat} (hn : C.length = n) :
    Calls Tryz.prog 33 #[.pointer (some ⟨b, 0, none⟩), .pointer (some ⟨b', 0, none⟩)] w fun e w' => ∃ D d, e = .returned (.tuple #[.slice D n d, .int .i64 0]) ∧ NewC w.heap.size w' D d C ∧ Below w.heap.size w w' := by
  have h2 := below_alloc w (.cells #[.slice none 0 0] 44)
  have hg := heap_at w (.cells #[.slice none 0 0] 44) _ rfl
  have HTh := Lib.hid (dthru_c (chg1_visit (B := w.heap.size) (k := k) (h := w.heap.size) (base := w.heap.size + 1) (M := C.length) (Nat.le_refl _) (by omega) hM) (w := w.alloc (.cells #[.slice none 0 0] 44)) (F := fun b => b = w.heap.size ∨ (none : Option Addr).map (·.block) = some b ∨ False)
    ⟨none, 0, fun _ => False, hg, ⟨ownL_none _ _ _, fun b hb => hb.elim⟩, by simp, rfl⟩ (hx.1.below h2 (Nat.le_refl _) (Nat.le_refl _)) (hy.1.below h2 (Nat.le_refl _) (Nat.le_refl _)) h2.size (fun w' hb => hT w' (h2.trans hb)) (by rw [hC]; exact Nat.le_refl _))
  have H2 := Lib.hid (And.intro h2 (And.intro hC hn))
  clear hx hy hT hM hn hg h2 hC
  go_enter Tryz.func33, Tryz.ntmps33
  go_wp2_with fail
  refine HTh.out.mono ?_
  rintro e w3 ⟨z, rfl, us, F', ⟨V, c, D, i1, i2, i3, rfl⟩, hgo, -, hF, hfo⟩
  have hus : us = C := by rw [← H2.out.2.1]; exact hgo rfl
  subst hus
  have c0 : w3.cell? ⟨w.heap.size, 0, none⟩ = some (.slice V n c) := by rw [cell_of_row w3 _ _ _ _ (0, 0) i1, ← H2.out.2.2]; rfl
  have hbl : Below w.heap.size w w3 := H2.out.1.trans (hfo.below H2.out.1.size (fun b hb => by
    rcases hb with e | e | e
    · omega
    · cases e
    · exact e.elim))
  have hnew : NewC w.heap.size w3 V c us := (i2.row.imp (ChG.step (Nat.le_refl _) fun b _ hD => ⟨rfl, by have := (i2.dom b hD).1; omega⟩)).mono (by omega)
  have HR := Lib.hid (And.intro hnew hbl)
  clear i1 i2 i3 hgo hF hfo hbl hnew HTh H2
  go_wp2_with fail
  go_ret2
  exact ⟨V, c, rfl, HR.out.1, HR.out.2⟩

/-! ### Count -/
/-! ### Same -/
theorem tptr_eq (w : World) (a : Addr) : (binOp .eql 29 (.pointer (some a)) (.pointer (some a))).run Tryz.prog w = .ok (.bool true) w := by
  have h : (Tryz.prog.info? 165).isSome = true := by kernel_rfl
  obtain ⟨j, hj⟩ := Option.isSome_iff_exists.1 h
  exact run_eql_ptr_same w a Tryz.underlying29 hj
theorem tptr_ne {w : World} {a b : Nat} (ha : TrB w a) (hb : TrB w b) (hne : a ≠ b) : (binOp .eql 29 (.pointer (some ⟨a, 0, none⟩)) (.pointer (some ⟨b, 0, none⟩))).run Tryz.prog w = .ok (.bool false) w := by
  obtain ⟨ca, ta, ha⟩ := ha
  obtain ⟨cb, tb, hb⟩ := hb
  have h : (Tryz.prog.info? 165).map (fun i => decide (i.size = 0)) = some false := by kernel_rfl
  obtain ⟨j, hj, hs⟩ := Option.map_eq_some_iff.1 h
  exact run_eql_ptr_other w Tryz.underlying29 hj (by simpa using hs) (by intro e; apply hne; exact congrArg (·.block) e) ha hb
theorem tptr_none (w : World) : (binOp .eql 29 (.pointer none) (.pointer none)).run Tryz.prog w = .ok (.bool true) w := by
  have h2 : ∀ d : Nat, (Op.equalIn (d + 1) 29 (.pointer none) (.pointer none)).run Tryz.prog w = .ok true w := fun d => by
    simp [Op.equalIn, run_underlying Tryz.underlying29]
  simp only [binOp]
  simp [Op.equal, Op.maxDepth, h2 9999]
theorem dSame_same (w : World) (x : Option Addr) : Calls Tryz.prog 34 #[.pointer x, .pointer x] w fun e w' => e = .returned (.bool true) ∧ w = w' := by
  cases x with
  | none =>
    have hp := tptr_none w
    go_enter Tryz.func34, Tryz.ntmps34
    go_wp2_with fail
    go_ret
    exact ⟨rfl, rfl⟩
  | some a =>
    have hp := tptr_eq w a
    go_enter Tryz.func34, Tryz.ntmps34
    go_wp2_with fail
    go_ret
    exact ⟨rfl, rfl⟩
theorem treeX_same {w : World} {b k : Nat} {x y : Option T} (hx : TreeX w b k x) (hy : TreeX w b k y) : Tr.entsO x = Tr.entsO y := by
  have e := hx.1.2.2.2.1.2.symm.trans hy.1.2.2.2.1.2
  simp only [Option.some.injEq, Value.pointer.injEq] at e
  exact nodeO_same hx.1.2.2.2.2 hy.1.2.2.2.2 e
theorem dSame_c {w : World} {b b' k : Nat} {x y : Option T} (hx : TreeX w b k x) (hy : TreeX w b' k y) (hT : ∀ w', Below w.heap.size w w' → Tz w') (hM : (Tr.chO x y).length ≤ 100000000) {r : Bool} (hr : (Tr.chO x y).isEmpty = r) :
    Calls Tryz.prog 34 #[.pointer (some ⟨b, 0, none⟩), .pointer (some ⟨b', 0, none⟩)] w fun e w' => e = .returned (.bool r) ∧ Below w.heap.size w w' := by
  by_cases hbb : b = b'
  · subst hbb
    have he : Tr.chO x y = [] := by
      show Tr.chL (Tr.entsO x) (Tr.entsO y) = []
      rw [treeX_same hx hy]
      exact Tr.chL_same _
    rw [he] at hr
    subst hr
    refine (dSame_same w _).mono ?_
    rintro e w' ⟨rfl, rfl⟩
    exact ⟨rfl, Below.refl _ _⟩
  · have h2 := below_alloc w (.cells #[.bool true] 4)
    have hg := heap_at w (.cells #[.bool true] 4) _ rfl
    have hp := tptr_ne hx.2 hy.2 hbb
    have HTh := Lib.hid (dthru_c (same1_visit (B := w.heap.size) (k := k) (h := w.heap.size) (M := 100000000) (Nat.le_refl _)) (w := w.alloc (.cells #[.bool true] 4)) (F := fun b => b = w.heap.size)
      ⟨hg, rfl⟩ (hx.1.below h2 (Nat.le_refl _) (Nat.le_refl _)) (hy.1.below h2 (Nat.le_refl _) (Nat.le_refl _)) h2.size (fun w' hb => hT w' (h2.trans hb)) hM)
    have H2 := Lib.hid (And.intro h2 hr)
    clear hx hy hT hM hg h2 hbb hr
    go_enter Tryz.func34, Tryz.ntmps34
    go_wp2_with fail
    refine HTh.out.mono ?_
    rintro e w3 ⟨z, rfl, us, F', ⟨i1, rfl⟩, -, hgo, hF, hfo⟩
    have hus : us.isEmpty = r := by
      rw [← H2.out.2]
      have hh := hgo rfl
      cases hc : Tr.chO x y with
      | nil => rw [hh.2 hc]
      | cons a l =>
        cases us with
        | nil => have := hh.1 rfl; rw [hc] at this; cases this
        | cons => rfl
    have c0 : w3.cell? ⟨w.heap.size, 0, none⟩ = some (.bool r) := by rw [cell_of_row w3 _ _ _ _ (0, 0) i1, hus]; rfl
    have hbl : Below w.heap.size w w3 := H2.out.1.trans (hfo.below H2.out.1.size (fun b hb => by omega))
    have HR := Lib.hid hbl
    clear i1 hgo hF hfo hbl HTh H2 hus hp
    cases r with
    | true => (go_wp2_with fail); go_ret; exact ⟨rfl, HR.out⟩
    | false => (go_wp2_with fail); go_ret; exact ⟨rfl, HR.out⟩

/-! ### Steps -/
end Go.Proofs.YtpgkfccfabnjdaaGreatDoor
