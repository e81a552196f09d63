import Derived.Test.YtdpbcfjhljgicaaGreatDoorM56
import Derived.Test.YtdpbcfjhljgicaaGreatDoorM50
import Derived.Test.YtdpbcfjhljgicaaGreatDoorM06
import Derived.Test.YtdpbcfjhljgicaaGreatDoorM05
/-
  CONTRACTS of package window, third part: together, refusal.
-/
namespace Go.Proofs.YtdpbcfjhljgicaaGreatDoor
open Go.ChangeShapes Go.WideShapes Go.ChangeAt Go.RowKit
open Tr (T S4 Ent)

set_option maxRecDepth 100000 in
theorem wtogether_zero (a b : S4) (w : World) (h : a.c = 0) :
    Calls Tryz.prog 45 #[sumsV a, sumsV b] w fun e w' => e = .returned (sumsV (Tr.tog a b)) ∧ Below w.heap.size w w' := by
  have h1 : ((a.c : Int) == 0) = true := by rw [beq_iff_eq]; omega
  have ht : Hid (Tr.tog a b = b) := Lib.hid (by simp [Tr.tog, h])
  obtain ⟨b0, b1, b2, b3⟩ := b
  obtain ⟨a0, a1, a2, a3⟩ := a
  simp only at h1 ht
  clear h
  go_enter Tryz.func45, Tryz.ntmps45
  go_wp2
  refine bodyPost_ret (v := sumsV ⟨b0, b1, b2, b3⟩) (by simp [results, Tryz.results45, go_sem, sumsV]) rfl ?_
  exact ⟨by rw [ht.out], by ((repeat (first | refine Below.drew ?_ | (with_reducible refine below_drewN _ ?_) | refine Below.alloc ?_ (by first | omega | (simp; done) | (simp; omega)) _ | refine Below.setCell ?_ (by first | omega | (simp; done) | (simp; omega)) _)); first | exact Below.refl _ _ | assumption | exact below_drewN _ (Below.refl _ _) | exact below_drewN _ (below_drewN _ (Below.refl _ _)))⟩
set_option maxRecDepth 100000 in
theorem wtogether_two (a b : S4) (w : World) (ha : a.c ≠ 0) (hb : b.c ≠ 0) (hc : a.c + b.c < 18446744073709551616) :
    Calls Tryz.prog 45 #[sumsV a, sumsV b] w fun e w' => e = .returned (sumsV (Tr.tog a b)) ∧ Below w.heap.size w w' := by
  have h1 : ((a.c : Int) == 0) = false := by rw [beq_eq_false_iff_ne]; omega
  have e1 : IntKind.u64.wrap ((a.c : Int) + (b.c : Int)) = ((a.c + b.c : Nat) : Int) := by rw [IntKind.wrap_u64]; omega
  have e2 : IntKind.u64.wrap ((a.s : Int) + (b.s : Int)) = (((a.s + b.s) % 18446744073709551616 : Nat) : Int) := by rw [IntKind.wrap_u64]; omega
  have ht : Hid (Tr.tog a b = ⟨a.c + b.c, (a.s + b.s) % 18446744073709551616, min a.lo b.lo, max a.hi b.hi⟩) := Lib.hid (by simp [Tr.tog, ha, hb])
  obtain ⟨b0, b1, b2, b3⟩ := b
  obtain ⟨a0, a1, a2, a3⟩ := a
  simp only at h1 ht e1 e2
  clear ha hb hc
  have H := Lib.hid (And.intro e1 e2)
  clear e1 e2

  go_enter Tryz.func45, Tryz.ntmps45
  go_wp2
  refine bodyPost_ret (v := sumsV ⟨a0 + b0, (a1 + b1) % 18446744073709551616, min a2 b2, max a3 b3⟩) (by simp [results, Tryz.results45, go_sem, sumsV, H.out.1, H.out.2]; refine ⟨by omega, by omega⟩) rfl ?_
  exact ⟨by rw [ht.out], by ((repeat (first | refine Below.drew ?_ | (with_reducible refine below_drewN _ ?_) | refine Below.alloc ?_ (by first | omega | (simp; done) | (simp; omega)) _ | refine Below.setCell ?_ (by first | omega | (simp; done) | (simp; omega)) _)); first | exact Below.refl _ _ | assumption | exact below_drewN _ (Below.refl _ _) | exact below_drewN _ (below_drewN _ (Below.refl _ _)))⟩
/-- the sums of two nodes -/
theorem wtogether_c (a b : S4) (w : World) (hb : b.c ≠ 0) (hc : a.c + b.c < 18446744073709551616) :
    Calls Tryz.prog 45 #[sumsV a, sumsV b] w fun e w' => e = .returned (sumsV (Tr.tog a b)) ∧ Below w.heap.size w w' := by
  by_cases ha : a.c = 0
  · exact wtogether_zero a b w ha
  · exact wtogether_two a b w ha hb hc

/-! ### refusal -/
set_option maxRecDepth 100000 in
theorem wrefusal_yes {w : World} {b k : Nat} {r : Option Addr} (h : TreC w b k r) (hb : b < w.heap.size) (A A' : Option Addr) (n c n' c' : Nat) (h1 : 1 ≤ n) (h16 : n ≤ 16) (hn : n = n') (rb : Bool) (hk : ((n : Int) != (k : Int)) = rb) :
    Calls Tryz.prog 39 #[.pointer (some ⟨b, 0, none⟩), boxV A n c A' n' c'] w fun e w' => e = .returned (.int .i64 (if rb = true then 2 else 0)) ∧ Below w.heap.size w w' := by
  have HR := Lib.hid fun w1 : World => bright_y A A' n c n' c' w1 h1 h16 hn
  have HT := Lib.hid fun (w1 : World) (hw : Below w.heap.size w w1) => tK_c (h.below hw hb)
  have Hk := Lib.hid hk
  have hbel := below_alloc w (.cells #[.slice A n c, .slice A' n' c'] 25)
  have hx := boxAt_new w A n c A' n' c'
  have hlt : w.heap.size < (w.alloc (.cells #[.slice A n c, .slice A' n' c'] 25)).heap.size := by simp
  clear h h1 h16 hn hk
  go_enter Tryz.func39, Tryz.ntmps39
  go_wp2_with fail
  generalize w.alloc (.cells #[.slice A n c, .slice A' n' c'] 25) = W at *
  have m0 : ∀ w2, Below W.heap.size W w2 → w2.cell? ⟨w.heap.size, 0, none⟩ = some (.slice A n c) := fun w2 hb => (hx.below hb hlt).1
  have m1 : ∀ w2, Below W.heap.size W w2 → w2.cell? ⟨w.heap.size, 1, none⟩ = some (.slice A' n' c') := fun w2 hb => (hx.below hb hlt).2
  have hbb := Below.refl W.heap.size W
  go_region_held3 (fun w2 => Below W.heap.size W w2) (((repeat (first | refine Below.drew ?_ | (with_reducible refine below_drewN _ ?_) | refine Below.alloc ?_ (by first | omega | (simp; done) | (simp; omega)) _ | refine Below.setCell ?_ (by first | omega | (simp; done) | (simp; omega)) _)); first | exact Below.refl _ _ | assumption | exact below_drewN _ (Below.refl _ _) | exact below_drewN _ (below_drewN _ (Below.refl _ _))))
    ((first
      | (go_at_call 91; refine (HR.out _).mono ?_; rintro e wd ⟨rfl, hbd⟩; have hBd := Below.trans (show Below W.heap.size W _ by ((repeat (first | refine Below.drew ?_ | (with_reducible refine below_drewN _ ?_) | refine Below.alloc ?_ (by first | omega | (simp; done) | (simp; omega)) _ | refine Below.setCell ?_ (by first | omega | (simp; done) | (simp; omega)) _)); first | exact Below.refl _ _ | assumption | exact below_drewN _ (Below.refl _ _) | exact below_drewN _ (below_drewN _ (Below.refl _ _)))) (hbd.mono (Below.size (show Below W.heap.size W _ by ((repeat (first | refine Below.drew ?_ | (with_reducible refine below_drewN _ ?_) | refine Below.alloc ?_ (by first | omega | (simp; done) | (simp; omega)) _ | refine Below.setCell ?_ (by first | omega | (simp; done) | (simp; omega)) _)); first | exact Below.refl _ _ | assumption | exact below_drewN _ (Below.refl _ _) | exact below_drewN _ (below_drewN _ (Below.refl _ _)))))); clear hbd)
      | (go_at_call 54; refine (HT.out _ (hbel.trans ((show Below W.heap.size W _ by ((repeat (first | refine Below.drew ?_ | (with_reducible refine below_drewN _ ?_) | refine Below.alloc ?_ (by first | omega | (simp; done) | (simp; omega)) _ | refine Below.setCell ?_ (by first | omega | (simp; done) | (simp; omega)) _)); first | exact Below.refl _ _ | assumption | exact below_drewN _ (Below.refl _ _) | exact below_drewN _ (below_drewN _ (Below.refl _ _)))).mono hbel.size))).mono ?_; rintro e w' ⟨rfl, rfl⟩)))
  cases rb with
  | true =>
    have hk2 := Hk.out
    go_wp2_with fail
    go_ret
    exact ⟨rfl, hbel.trans (hBd.mono hbel.size)⟩
  | false =>
    have hk2 := Hk.out
    go_wp2_with fail
    go_ret
    exact ⟨rfl, hbel.trans (hBd.mono hbel.size)⟩
end Go.Proofs.YtdpbcfjhljgicaaGreatDoor

/-
  CONTRACTS of package window, fourth part: Some, Find, Sums, rest, Clear, Keep, where the tree or the box is refused. Laid by wip/gen33.py.
-/
namespace Go.Proofs.YtdpbcfjhljgicaaGreatDoor
open Go.ChangeShapes Go.WideShapes Go.ChangeAt Go.RowKit
open Tr (T S4 Ent)

/-- the tree or the box is refused, with code co -/
def Refd (w : World) (tp : Option Addr) (A : Option Addr) (n c : Nat) (A' : Option Addr) (n' c' : Nat) (co : Int) : Prop :=
  ∀ w1 : World, Below w.heap.size w w1 → Calls Tryz.prog 39 #[.pointer tp, boxV A n c A' n' c'] w1 fun e w' => e = .returned (.int .i64 co) ∧ Below w1.heap.size w1 w'
theorem Refd.on {w w' : World} {tp : Option Addr} {A : Option Addr} {n c : Nat} {A' : Option Addr} {n' c' : Nat} {co : Int} (h : Refd w tp A n c A' n' c' co) (hb : Below w.heap.size w w') : Refd w' tp A n c A' n' c' co :=
  fun w1 hb1 => h w1 (hb.trans (hb1.mono hb.size))
end Go.Proofs.YtdpbcfjhljgicaaGreatDoor

/-
  CONTRACTS of package window, fifth part: the closures of Sums and each. Laid by wip/gen34.py.
-/
namespace Go.Proofs.YtdpbcfjhljgicaaGreatDoor
open Go.ChangeShapes Go.WideShapes Go.ChangeAt Go.RowKit
open Tr (T S4 Ent)

set_option maxRecDepth 100000 in
set_option maxHeartbeats 1000000 in
theorem wsums1_c {w : World} {B k g : Nat} {t : T} {s : S4} (hN : Node w B k t) (hB : B ≤ g) (hQ : Q4 w g s) (hc : s.c + t.ents.length < 18446744073709551616) :
    Calls Tryz.prog 44 #[.pointer (some ⟨t.blk, 0, none⟩), .pointer (some ⟨g, 0, none⟩)] w fun e w' => e = .returned (.bool true) ∧ Q4 w' g (Tr.tog s (Tr.sums t.ents)) ∧ Foot (fun b => b = g) w w' := by
  obtain ⟨kp, hnd⟩ := hN.2.nd
  have hg : g < w.heap.size := hQ.2.2
  have HS := Lib.hid fun (w1 : World) (hb : Below w.heap.size w w1) => nSums_c (hnd.below hb (show B ≤ w.heap.size by omega) (Nat.le_refl _)) (by have := hb.size; omega)
  have HT := Lib.hid fun w1 : World => wtogether_c s (Tr.sums t.ents) w1 (by rw [Tr.sums_c]; have := hN.1.ne; intro e; exact this (List.eq_nil_of_length_eq_zero e)) (by rw [Tr.sums_c]; exact hc)
  have HQ := Lib.hid fun (w1 : World) (hb : Below w.heap.size w w1) => hQ.below hb hg
  clear hN hnd hc
  obtain ⟨⟨c0, c1, c2, c3⟩, -, -⟩ := hQ
  have hbb := Below.refl w.heap.size w
  generalize hs2 : Tr.sums t.ents = s2 at *
  generalize hr : Tr.tog s s2 = r at *
  go_enter Tryz.func44, Tryz.ntmps44
  go_wp2_with fail
  go_region_with (first
    | (go_at_call 43; refine (HS.out _ (by ((repeat (first | refine Below.drew ?_ | (with_reducible refine below_drewN _ ?_) | refine Below.alloc ?_ (by first | omega | (simp; done) | (simp; omega)) _ | refine Below.setCell ?_ (by first | omega | (simp; done) | (simp; omega)) _)); first | exact Below.refl _ _ | assumption | exact below_drewN _ (Below.refl _ _) | exact below_drewN _ (below_drewN _ (Below.refl _ _))))).mono ?_; rintro e w1 ⟨rfl, hb1⟩; have hB1 := Below.trans (show Below w.heap.size w _ by ((repeat (first | refine Below.drew ?_ | (with_reducible refine below_drewN _ ?_) | refine Below.alloc ?_ (by first | omega | (simp; done) | (simp; omega)) _ | refine Below.setCell ?_ (by first | omega | (simp; done) | (simp; omega)) _)); first | exact Below.refl _ _ | assumption | exact below_drewN _ (Below.refl _ _) | exact below_drewN _ (below_drewN _ (Below.refl _ _)))) (hb1.mono (Below.size (show Below w.heap.size w _ by ((repeat (first | refine Below.drew ?_ | (with_reducible refine below_drewN _ ?_) | refine Below.alloc ?_ (by first | omega | (simp; done) | (simp; omega)) _ | refine Below.setCell ?_ (by first | omega | (simp; done) | (simp; omega)) _)); first | exact Below.refl _ _ | assumption | exact below_drewN _ (Below.refl _ _) | exact below_drewN _ (below_drewN _ (Below.refl _ _)))))); obtain ⟨⟨d0, d1, d2, d3⟩, -, -⟩ := HQ.out w1 hB1)
    | (go_at_call 45; refine (HT.out _).mono ?_; rintro e w2 ⟨rfl, hb2⟩; have hB2 := Below.trans (show Below w.heap.size w _ by ((repeat (first | refine Below.drew ?_ | (with_reducible refine below_drewN _ ?_) | refine Below.alloc ?_ (by first | omega | (simp; done) | (simp; omega)) _ | refine Below.setCell ?_ (by first | omega | (simp; done) | (simp; omega)) _)); first | exact Below.refl _ _ | assumption | exact below_drewN _ (Below.refl _ _) | exact below_drewN _ (below_drewN _ (Below.refl _ _)))) (hb2.mono (Below.size (show Below w.heap.size w _ by ((repeat (first | refine Below.drew ?_ | (with_reducible refine below_drewN _ ?_) | refine Below.alloc ?_ (by first | omega | (simp; done) | (simp; omega)) _ | refine Below.setCell ?_ (by first | omega | (simp; done) | (simp; omega)) _)); first | exact Below.refl _ _ | assumption | exact below_drewN _ (Below.refl _ _) | exact below_drewN _ (below_drewN _ (Below.refl _ _)))))); obtain ⟨⟨e0, e1, e2, e3⟩, ⟨f0, f1, f2, f3⟩, hz⟩ := HQ.out w2 hB2))
  all_goals
    have hq := Q4.set (HQ.out w2 hB2) r.c r.s r.lo r.hi
    have hf0 : Foot (fun b => b = g) w w2 := Foot.of_below hB2
    have hf1 := hf0.trans (Foot.setCell _ (F := fun b => b = g) (a := ⟨g, 0, none⟩) rfl (.int .u64 (r.c : Int))) (fun b hb => .inl hb)
    have hf2 := hf1.trans (Foot.setCell _ (F := fun b => b = g) (a := ⟨g, 1, none⟩) rfl (.int .u64 (r.s : Int))) (fun b hb => .inl hb)
    have hf3 := hf2.trans (Foot.setCell _ (F := fun b => b = g) (a := ⟨g, 2, none⟩) rfl (.int .u64 (r.lo : Int))) (fun b hb => .inl hb)
    have hf4 := hf3.trans (Foot.setCell _ (F := fun b => b = g) (a := ⟨g, 3, none⟩) rfl (.int .u64 (r.hi : Int))) (fun b hb => .inl hb)
    have HF := Lib.hid (And.intro hq hf4)
    clear hq hf0 hf1 hf2 hf3 hf4 hbb hB2
    go_wp2_with fail
    go_ret
    exact ⟨rfl, HF.out⟩
/-- each's second closure: a node stays -/
theorem weach2_c (x : Option Addr) (v : Value) (w : World) : Calls Tryz.prog 93 #[.pointer x, v] w fun e w' => e = .returned (.pointer x) ∧ w = w' := by
  go_enter Tryz.func93, Tryz.ntmps93
  go_wp2_with fail
  go_ret
  exact ⟨rfl, rfl⟩
/-- each's first closure: it tells the node, and what the function that it holds tells of it -/
theorem weach1_one {w : World} {h fid : Nat} {g : Nat} (x : Option Addr) (on : Bool) {R : World → Prop} (hent : ∀ args w, (callFunc fid args).run Tryz.prog w = .ok (.enter fid args) w) (hcell : w.cell? ⟨h, 0, none⟩ = some (.func (.func fid) #[] #[.pointer (some ⟨g, 0, none⟩)]))
    (HC : Calls Tryz.prog fid #[.pointer x, .pointer (some ⟨g, 0, none⟩)] w fun e w' => e = .returned (.bool on) ∧ R w') :
    Calls Tryz.prog 92 #[.pointer x, .pointer (some ⟨h, 0, none⟩)] w fun e w' => e = .returned (.tuple #[.pointer x, .bool on]) ∧ R w' := by
  have HH := Lib.hid HC
  clear HC
  go_enter Tryz.func92, Tryz.ntmps92
  go_wp2_with fail
  refine HH.out.mono ?_
  rintro e w2 ⟨rfl, hr⟩
  go_wp2_with fail
  go_ret2
  exact ⟨rfl, hr⟩
/-- each's first closure: it tells the node, and what the function that it holds tells of it -/
theorem weach1_three {w : World} {h fid : Nat} {g1 g2 g3 : Nat} (x : Option Addr) (on : Bool) {R : World → Prop} (hent : ∀ args w, (callFunc fid args).run Tryz.prog w = .ok (.enter fid args) w) (hcell : w.cell? ⟨h, 0, none⟩ = some (.func (.func fid) #[] #[.pointer (some ⟨g1, 0, none⟩), .pointer (some ⟨g2, 0, none⟩), .pointer (some ⟨g3, 0, none⟩)]))
    (HC : Calls Tryz.prog fid #[.pointer x, .pointer (some ⟨g1, 0, none⟩), .pointer (some ⟨g2, 0, none⟩), .pointer (some ⟨g3, 0, none⟩)] w fun e w' => e = .returned (.bool on) ∧ R w') :
    Calls Tryz.prog 92 #[.pointer x, .pointer (some ⟨h, 0, none⟩)] w fun e w' => e = .returned (.tuple #[.pointer x, .bool on]) ∧ R w' := by
  have HH := Lib.hid HC
  clear HC
  go_enter Tryz.func92, Tryz.ntmps92
  go_wp2_with fail
  refine HH.out.mono ?_
  rintro e w2 ⟨rfl, hr⟩
  go_wp2_with fail
  go_ret2
  exact ⟨rfl, hr⟩
end Go.Proofs.YtdpbcfjhljgicaaGreatDoor
