import Derived.Test.YtdpbcfjhljgicaaGreatDoorM61
import Derived.Test.YtdpbcfjhljgicaaGreatDoorM33
import Derived.Test.YtdpbcfjhljgicaaGreatDoorM50
import Derived.Test.YtdpbcfjhljgicaaGreatDoorM55
import Derived.Test.YtdpbcfjhljgicaaGreatDoorM06
/-
  CONTRACTS of package window, twelfth part: Sums where the tree and the box are taken.
-/
namespace Go.Proofs.YtdpbcfjhljgicaaGreatDoor
open Go.ChangeShapes Go.WideShapes Go.ChangeAt Go.RowKit
open Tr (T S4 Ent)

theorem wholesO_ents {w : World} {B k : Nat} {o : Option T} (h : NodeO w B k o) (lo hi : List Nat) : (wholesO lo hi o).flatMap T.ents = (Tr.entsO o).filter (Tr.inB lo hi) := by
  cases o with
  | none => rfl
  | some t => exact Tr.wholes_ents (h t rfl).1
theorem lvO_le {w : World} {B k : Nat} {o : Option T} (h : NodeO w B k o) : lvO o ≤ 64 := by
  cases o with
  | none => exact Nat.zero_le _
  | some t => exact (h t rfl).1.lv64
theorem metTo_true (us L : List T) : metTo (fun _ => true) us L = us ++ L := metTo_all (fun _ => rfl) L us
theorem refd_ok {w : World} {b k : Nat} {r : Option Addr} (h : TreC w b k r) (hb : b < w.heap.size) (A : Option Addr) (n c : Nat) (A' : Option Addr) (n' c' : Nat) (h1 : 1 ≤ n) (h16 : n ≤ 16) (hn : n = n') (hk : n = k) : Refd w (some ⟨b, 0, none⟩) A n c A' n' c' 0 := fun w1 hw => by
  have := wrefusal_yes (w := w1) (h.below hw hb) (Nat.lt_of_lt_of_le hb hw.size) A A' n c n' c' h1 h16 hn false (by rw [bne_eq_false_iff_eq]; omega)
  simpa using this
/-! ### Sums -/
theorem Q4.blk {w w' : World} {g : Nat} {s : S4} (h : Q4 w g s) (hs : w.heap.size ≤ w'.heap.size) (hb : w'.heap[g]? = w.heap[g]?) : Q4 w' g s := by
  obtain ⟨⟨h0, h1, h2, h3⟩, ⟨f0, f1, f2, f3⟩, hg⟩ := h
  have e : ∀ i, w'.cell? ⟨g, i, none⟩ = w.cell? ⟨g, i, none⟩ := fun i => World.cell?_of_block (a := ⟨g, i, none⟩) hb
  have f : ∀ i, w'.frozen? ⟨g, i, none⟩ = w.frozen? ⟨g, i, none⟩ := fun i => World.frozen?_of_block (a := ⟨g, i, none⟩) hb
  exact ⟨⟨(e 0).trans h0, (e 1).trans h1, (e 2).trans h2, (e 3).trans h3⟩, ⟨(f 0).trans f0, (f 1).trans f1, (f 2).trans f2, (f 3).trans f3⟩, by omega⟩
def SumI (g : Nat) (us : List T) (w : World) (F : Nat → Prop) : Prop := Q4 w g (Tr.sums (us.flatMap T.ents)) ∧ ∀ b, F b ↔ b = g
theorem meet_sums {g B k : Nat} {W : List T} (hB : B ≤ g) (hW : (W.flatMap T.ents).length < 18446744073709551616) : MeetW 44 (fun x => #[x, .pointer (some ⟨g, 0, none⟩)]) B k W (fun _ => true) (SumI g) where
  ent := enters_of Tryz.func44 (by kernel_rfl) rfl
  frame := fun us w w' F h hs hk => ⟨h.1.blk hs (hk g ((h.2 g).2 rfl)), h.2⟩
  inb := fun us w F h b hb => by
    have := (h.2 b).1 hb
    subst this
    exact ⟨h.1.2.2, hB⟩
  call := by
    rintro us w F t r on ⟨hq, hF⟩ hn hBw hT hWe - rfl
    have hlen : ((us.flatMap T.ents).length + t.ents.length) < 18446744073709551616 := by
      rw [hWe, List.flatMap_append, List.flatMap_cons, List.length_append, List.length_append] at hW
      omega
    refine (wsums1_c hn hB hq (by rw [Tr.sums_c]; exact hlen)).mono ?_
    rintro e w' ⟨rfl, hq', hf⟩
    refine ⟨rfl, fun b => b = g, ⟨?_, fun b => Iff.rfl⟩, fun b hb => .inl ((hF b).2 hb), hf.os, hf.tape, hf.output, hf.size, fun b hb hn => hf.block b hb (fun e => hn ((hF b).2 e))⟩
    rw [List.flatMap_append, Tr.sums_append]
    simpa using hq'

set_option maxRecDepth 1000000 in
set_option maxHeartbeats 4000000 in
theorem wsums_c {w : World} {B b k n n' : Nat} {o : Option T} (ht : TreeAt w B b k o) (hB : B ≤ w.heap.size) (hT : ∀ w', Below B w w' → Tz w') {lo hi : List Nat} {C C' : Option Addr} (hX : BoxP w B k C lo C' hi) (hN : (Tr.entsO o).length < 18446744073709551616) :
    Calls Tryz.prog 18 #[.pointer (some ⟨b, 0, none⟩), boxV C lo.length n C' hi.length n'] w fun e w' => e = .returned (.tuple #[sumsV (Tr.sums ((Tr.entsO o).filter (Tr.inB lo hi))), .int .i64 0]) ∧ Below w.heap.size w w' := by
  obtain ⟨hb, k1, k16, hc, hn⟩ := ht
  have hbw : b < w.heap.size := by omega
  have hWe := wholesO_ents hn lo hi
  have HR := Lib.hid (refd_ok hc hbw C lo.length n C' hi.length n' (by rw [hX.el]; exact k1) (by rw [hX.el]; exact k16) (by rw [hX.el, hX.eh]) hX.el)
  obtain ⟨s, hs⟩ : ∃ s, Tr.sums ((Tr.entsO o).filter (Tr.inB lo hi)) = s := ⟨_, rfl⟩
  rw [hs]
  have HE : Hid (∀ (g : Nat) (w1 : World), Below w.heap.size w w1 → w.heap.size ≤ g → Q4 w1 g Tr.s0 → Calls Tryz.prog 40 #[.pointer (some ⟨b, 0, none⟩), boxV C lo.length n C' hi.length n', .func (.func 44) #[] #[.pointer (some ⟨g, 0, none⟩)]] w1 fun e w' =>
      e = .returned (.tuple #[]) ∧ Q4 w' g s ∧ Foot (fun b => b = g) w1 w') := Lib.hid fun g w1 hb1 hg hq => by
    have hm : MeetW 44 (fun x => #[x, .pointer (some ⟨g, 0, none⟩)]) B k (wholesO lo hi o) (fun _ => true) (SumI g) :=
      meet_sums (by omega) (by rw [hWe]; exact Nat.lt_of_le_of_lt (List.length_filter_le _ _) hN)
    refine (weach_one hm (F := fun b => b = g) ⟨hq, fun b => Iff.rfl⟩ rfl (hc.below hb1 hbw) (Nat.lt_of_lt_of_le hbw hb1.size) (hn.below hb1 hB (Nat.le_refl _)) (Nat.le_trans hB hb1.size) (fun w9 h9 => hT w9 ((hb1.mono hB).trans h9)) (hX.below hb1 hB (Nat.le_refl _)) rfl (lvO_le hn)).mono ?_
    rintro e w' ⟨rfl, F', ⟨hq', hF'⟩, -, hf⟩
    rw [metTo_true, List.nil_append, hWe, hs] at hq'
    exact ⟨rfl, hq', hf⟩
  clear hb k1 k16 hc hn hbw hWe hT hX hN hs hB
  go_enter Tryz.func18, Tryz.ntmps18
  obtain ⟨W0, hW0⟩ : ∃ W0, W0 = (w.alloc (.cells #[.slice C lo.length n, .slice C' hi.length n'] 25)).alloc (.cells #[.int .u64 0, .int .u64 0, .int .u64 0, .int .u64 0] 40) := ⟨_, rfl⟩
  have hq0 : Q4 W0 (w.heap.size + 1) Tr.s0 := by rw [hW0]; exact q4_at (a := 0) (b := 0) (c := 0) (d := 0) (heap_at _ _ _ (by simp))
  have hbx : W0.heap[w.heap.size]? = some (.cells #[.slice C lo.length n, .slice C' hi.length n'] 25 (0, 0)) := by rw [hW0]; (first | (refine heap_at _ _ _ ?_; simp; done) | (refine heap_past _ (heap_at _ _ _ ?_); simp; done) | (refine heap_past _ (heap_past _ (heap_at _ _ _ ?_)); simp; done) | (refine heap_past _ (heap_past _ (heap_past _ (heap_at _ _ _ ?_))); simp; done))
  have hbw : Below w.heap.size w W0 := by rw [hW0]; ((repeat (first | refine Below.drew ?_ | (with_reducible refine below_drewN _ ?_) | refine Below.alloc ?_ (by first | omega | (simp; done) | (simp; omega)) _ | refine Below.setCell ?_ (by first | omega | (simp; done) | (simp; omega)) _)); first | exact Below.refl _ _ | assumption | exact below_drewN _ (Below.refl _ _) | exact below_drewN _ (below_drewN _ (Below.refl _ _)))
  have hs0 : W0.heap.size = w.heap.size + 2 := by rw [hW0]; simp
  obtain ⟨a0, a1, -, -⟩ := box_cells hbx
  go_upto_region 1 with fail
  rw [← hW0]
  have H0 := Lib.hid (And.intro hW0 (And.intro hq0 (And.intro hbx (And.intro hbw hs0))))
  clear hW0 hq0 hbx hbw hs0
  go_wp2_with fail
  refine (HR.out _ H0.out.2.2.2.1).mono ?_
  rintro e w1 ⟨rfl, hb1⟩
  have hbx1 := (hb1.block w.heap.size (by have := H0.out.2.2.2.2; omega)).trans H0.out.2.2.1
  have hq1 := H0.out.2.1.below hb1 (by have := H0.out.2.2.2.2; omega)
  have hbw1 : Below w.heap.size w w1 := H0.out.2.2.2.1.trans (hb1.mono H0.out.2.2.2.1.size)
  have hs1 : w.heap.size + 2 ≤ w1.heap.size := by have := H0.out.2.2.2.2; have := hb1.size; omega
  clear a0 a1
  obtain ⟨a0, a1, -, -⟩ := box_cells hbx1
  have a0a : ∀ ob, (w1.alloc ob).cell? ⟨w.heap.size, 0, none⟩ = some (.slice C lo.length n) := fun ob => ((below_alloc w1 ob).cell (p := ⟨w.heap.size, 0, none⟩) (by show w.heap.size < _; omega)).trans a0
  have a1a : ∀ ob, (w1.alloc ob).cell? ⟨w.heap.size, 1, none⟩ = some (.slice C' hi.length n') := fun ob => ((below_alloc w1 ob).cell (p := ⟨w.heap.size, 1, none⟩) (by show w.heap.size < _; omega)).trans a1
  have H1 := Lib.hid (And.intro hq1 (And.intro hbw1 hs1))
  clear hb1 hbx1 hq1 hbw1 hs1 HR
  go_wp2_with fail
  refine (HE.out w1.heap.size _ (H1.out.2.1.trans ((below_alloc w1 _).mono H1.out.2.1.size)) H1.out.2.1.size (q4_at (a := 0) (b := 0) (c := 0) (d := 0) (t := 40) (heap_at w1 _ _ rfl))).mono ?_
  rintro e w3 ⟨rfl, hq3, hf3⟩
  have hs1 := H1.out.2.2
  have hsa : ∀ ob, (w1.alloc ob).heap.size = w1.heap.size + 1 := fun _ => by simp
  have hqr : Q4 w3 (w.heap.size + 1) Tr.s0 := (H1.out.1.below (below_alloc w1 _) (by omega)).blk hf3.size (hf3.block _ (by rw [hsa]; omega) (by omega))
  have hbw3 : Below w.heap.size w w3 := (H1.out.2.1.trans ((below_alloc w1 _).mono H1.out.2.1.size)).trans (hf3.below (by rw [hsa]; omega) (fun b hb => by omega))
  have H3 := Lib.hid (And.intro hqr hbw3)
  clear hs1 hsa hqr hbw3 hf3 a0 a1 a0a a1a HE
  obtain ⟨⟨t0, t1, t2, t3⟩, -, -⟩ := hq3
  have hqf := H3.out.1.set s.c s.s s.lo s.hi
  have hbf : Below w.heap.size w ((((w3.setCell ⟨w.heap.size + 1, 0, none⟩ (.int .u64 (s.c : Int))).setCell ⟨w.heap.size + 1, 1, none⟩ (.int .u64 (s.s : Int))).setCell ⟨w.heap.size + 1, 2, none⟩ (.int .u64 (s.lo : Int))).setCell ⟨w.heap.size + 1, 3, none⟩ (.int .u64 (s.hi : Int))) := by
    have hh := H3.out.2
    ((repeat (first | refine Below.drew ?_ | (with_reducible refine below_drewN _ ?_) | refine Below.alloc ?_ (by first | omega | (simp; done) | (simp; omega)) _ | refine Below.setCell ?_ (by first | omega | (simp; done) | (simp; omega)) _)); first | exact Below.refl _ _ | assumption | exact below_drewN _ (Below.refl _ _) | exact below_drewN _ (below_drewN _ (Below.refl _ _)))
  have HF := Lib.hid (And.intro hqf hbf)
  have hq := H3.out.1
  clear hqf hbf
  obtain ⟨⟨r0, r1, r2, r3⟩, ⟨f0, f1, f2, f3⟩, hz⟩ := hq
  go_wp2_with fail
  obtain ⟨hqf, hbf⟩ := HF.out
  clear r0 r1 r2 r3 f0 f1 f2 f3 t0 t1 t2 t3 HF
  revert hqf hbf
  generalize World.setCell _ _ _ = W'
  rintro ⟨⟨t0, t1, t2, t3⟩, -, -⟩ hbf
  refine bodyPost_ret (v := .tuple #[sumsV s, .int .i64 0]) (by simp [results, Tryz.results18, go_sem, sumsV, t0, t1, t2, t3]) rfl ?_
  exact ⟨rfl, hbf⟩
end Go.Proofs.YtdpbcfjhljgicaaGreatDoor

/-
  CONTRACTS of package window, thirteenth part: Some and Find where the tree and the box are taken.
-/
namespace Go.Proofs.YtdpbcfjhljgicaaGreatDoor
open Go.ChangeShapes Go.WideShapes Go.ChangeAt Go.RowKit
open Tr (T S4 Ent)

abbrev entsW (us : List T) : List Ent := us.flatMap T.ents
/-- on, while no more than mx are met -/
def goS (mx : Nat) (us : List T) : Bool := !(decide (mx < (entsW us).length))
theorem metTo_some (mx : Nat) : ∀ (L us : List T), goS mx us = true → ∃ r, entsW (us ++ L) = entsW (metTo (goS mx) us L) ++ r ∧ (r = [] ∨ mx < (entsW (metTo (goS mx) us L)).length)
  | [], us, _ => ⟨[], by simp [metTo], .inl rfl⟩
  | t :: L, us, h => by
    by_cases hg : goS mx (us ++ [t]) = true
    · rw [metTo_on hg]
      obtain ⟨r, h1, h2⟩ := metTo_some mx L (us ++ [t]) hg
      exact ⟨r, by rw [← h1]; simp, h2⟩
    · have hg : goS mx (us ++ [t]) = false := by simpa using hg
      rw [metTo_off hg]
      refine ⟨entsW L, by simp [entsW], .inr ?_⟩
      unfold goS at hg
      simpa using hg
theorem met_take {mx : Nat} {W : List T} : (entsW (metTo (goS mx) [] W)).take mx = (entsW W).take mx ∧ decide (mx < (entsW (metTo (goS mx) [] W)).length) = decide (mx < (entsW W).length) := by
  obtain ⟨r, h1, h2⟩ := metTo_some mx W [] (by simp [goS, entsW])
  rw [List.nil_append] at h1
  rw [h1]
  rcases h2 with rfl | h2
  · simp
  · refine ⟨by rw [List.take_append_of_le_length (by omega)], ?_⟩
    rw [List.length_append]
    simp only [decide_eq_decide]
    omega
def SomI (B g1 g2 g3 : Nat) (most : Int) (mx : Nat) (us : List T) (w : World) (F : Nat → Prop) : Prop :=
  ∃ v D, SomC B g1 g2 g3 most ((entsW us).take mx) (decide (mx < (entsW us).length)) w v D ∧ ∀ b, F b ↔ somF g1 g2 g3 v D b
theorem meet_some {B g1 g2 g3 k : Nat} {most : Int} {mx : Nat} (hmx : max most 0 = (mx : Int)) (hm63 : mx < 9223372036854775808) {W : List T} (hW : (entsW W).length ≤ 100000000) :
    MeetW 41 (fun x => #[x, .pointer (some ⟨g1, 0, none⟩), .pointer (some ⟨g2, 0, none⟩), .pointer (some ⟨g3, 0, none⟩)]) B k W (goS mx) (SomI B g1 g2 g3 most mx) where
  ent := enters_of Tryz.func41 (by kernel_rfl) rfl
  frame := by
    rintro us w w' F ⟨v, D, h, hF⟩ hs hk
    exact ⟨v, D, h.frame hs fun b hb => hk b ((hF b).2 hb), hF⟩
  inb := by
    rintro us w F ⟨v, D, h, hF⟩ b hb
    exact h.inb b ((hF b).1 hb)
  call := by
    rintro us w F t r on ⟨v, D, h, hF⟩ hn hB hT hWe hgo rfl
    have hle : (entsW us).length ≤ mx := by
      unfold goS at hgo
      simpa using hgo
    have hall : (entsW us).take mx = entsW us := List.take_of_length_le hle
    have hd : decide (mx < (entsW us).length) = false := decide_eq_false (by omega)
    rw [hall, hd] at h
    have hlen : (entsW us).length + t.ents.length ≤ 100000000 := by
      rw [hWe] at hW
      simp only [entsW, List.flatMap_append, List.flatMap_cons, List.length_append] at hW ⊢
      omega
    have hsnoc : entsW (us ++ [t]) = entsW us ++ t.ents := by simp [entsW]
    have htake : entsW us ++ t.ents.take (mx - (entsW us).length) = (entsW (us ++ [t])).take mx := by
      rw [hsnoc, List.take_append, hall]
    have hdec : decide (mx - (entsW us).length < t.ents.length) = decide (mx < (entsW (us ++ [t])).length) := by
      rw [hsnoc, List.length_append]
      simp only [decide_eq_decide]
      omega
    refine (wsome1_c h hn hB hT (by omega) (by omega) hmx hle hm63).mono ?_
    rintro e w' ⟨rfl, v', D', h', hin, hf⟩
    rw [htake, hdec] at h'
    rw [hdec]
    refine ⟨rfl, somF g1 g2 g3 v' D', ⟨v', D', h', fun b => Iff.rfl⟩, ?_, hf.os, hf.tape, hf.output, hf.size, fun b hb hnb => hf.block b hb ?_⟩
    · rintro b (h1 | h1 | h1 | h1 | h1)
      · exact .inl ((hF b).2 (.inl h1))
      · exact .inl ((hF b).2 (.inr (.inl h1)))
      · exact .inl ((hF b).2 (.inr (.inr (.inl h1))))
      · rcases hin b (.inl h1) with h2 | h2 | h2
        · exact .inl ((hF b).2 (.inr (.inr (.inr (.inl h2)))))
        · exact .inl ((hF b).2 (.inr (.inr (.inr (.inr h2)))))
        · exact .inr h2
      · rcases hin b (.inr h1) with h2 | h2 | h2
        · exact .inl ((hF b).2 (.inr (.inr (.inr (.inl h2)))))
        · exact .inl ((hF b).2 (.inr (.inr (.inr (.inr h2)))))
        · exact .inr h2
    · rintro (h1 | h1 | h1)
      · exact hnb ((hF b).2 (.inr (.inl h1)))
      · exact hnb ((hF b).2 (.inr (.inr (.inl h1))))
      · exact hnb ((hF b).2 (.inr (.inr (.inr (.inl h1)))))
theorem som_new {w1 : World} {B g1 : Nat} {most : Int} (hg : w1.heap[g1]? = some (.cells #[.int .i64 most] 3 (0, 0))) (hB : B ≤ g1) :
    SomC B g1 w1.heap.size (w1.heap.size + 1) most [] false ((w1.alloc (.cells #[.slice none 0 0] 30)).alloc (.cells #[.bool false] 4)) (.slice none 0 0) (fun _ => False) where
  c1 := by
    have hl := (Array.getElem?_eq_some_iff.1 hg).1
    rw [Below.heap_alloc _ _ _ (by simp; omega), Below.heap_alloc _ _ _ hl]
    exact hg
  c2 := by (first | (refine heap_at _ _ _ ?_; simp; done) | (refine heap_past _ (heap_at _ _ _ ?_); simp; done) | (refine heap_past _ (heap_past _ (heap_at _ _ _ ?_)); simp; done) | (refine heap_past _ (heap_past _ (heap_past _ (heap_at _ _ _ ?_))); simp; done))
  c3 := by (first | (refine heap_at _ _ _ ?_; simp; done) | (refine heap_past _ (heap_at _ _ _ ?_); simp; done) | (refine heap_past _ (heap_past _ (heap_at _ _ _ ?_)); simp; done) | (refine heap_past _ (heap_past _ (heap_past _ (heap_at _ _ _ ?_))); simp; done))
  ne := by have hl := (Array.getElem?_eq_some_iff.1 hg).1; omega
  ge := by have hl := (Array.getElem?_eq_some_iff.1 hg).1; omega
  row := ownL_none _ _ _
  vne := by simp [Value.ownBlock]
  dom := fun _ h => h.elim

theorem SomC.newE {B g1 g2 g3 : Nat} {most : Int} {L : List Ent} {more : Bool} {w : World} {A : Option Addr} {c : Nat} {D : Nat → Prop} (h : SomC B g1 g2 g3 most L more w (.slice A L.length c) D) : NewE B w A c L :=
  h.row.imp (EntG.step (Nat.le_refl _) fun b _ hD => ⟨rfl, (h.dom b hD).1, by have := (h.dom b hD).2.2.2.2.2; rwa [own_block] at this⟩)
set_option maxRecDepth 1000000 in
set_option maxHeartbeats 4000000 in
theorem wsome_c {w : World} {B b k n n' : Nat} {o : Option T} (ht : TreeAt w B b k o) (hB : B ≤ w.heap.size) (hT : ∀ w', Below B w w' → Tz w') {lo hi : List Nat} {C C' : Option Addr} (hX : BoxP w B k C lo C' hi) (hN : (Tr.entsO o).length ≤ 100000000) {most : Int} {mx : Nat} (hmx : max most 0 = (mx : Int)) (hm63 : mx < 9223372036854775808)
    {R : List Ent} (hR : (Tr.entsO o).filter (Tr.inB lo hi) = R) :
    Calls Tryz.prog 17 #[.pointer (some ⟨b, 0, none⟩), boxV C lo.length n C' hi.length n', .int .i64 most] w fun e w' => ∃ A c, e = .returned (.tuple #[.slice A (R.take mx).length c, .bool (decide (mx < R.length)), .int .i64 0]) ∧ NewE w.heap.size w' A c (R.take mx) ∧ Below w.heap.size w w' := by
  obtain ⟨hb, k1, k16, hc, hn⟩ := ht
  have hbw : b < w.heap.size := by omega
  have hWe := wholesO_ents hn lo hi
  rw [hR] at hWe
  have hRl : R.length ≤ 100000000 := by rw [← hR]; exact Nat.le_trans (List.length_filter_le _ _) hN
  have HR := Lib.hid (refd_ok hc hbw C lo.length n C' hi.length n' (by rw [hX.el]; exact k1) (by rw [hX.el]; exact k16) (by rw [hX.el, hX.eh]) hX.el)
  obtain ⟨r, hr⟩ : ∃ r, decide (mx < R.length) = r := ⟨_, rfl⟩
  obtain ⟨L, hL⟩ : ∃ L, R.take mx = L := ⟨_, rfl⟩
  rw [hr, hL]
  have HE : Hid (∀ (g1 g2 g3 : Nat) (w1 : World) (v : Value) (D : Nat → Prop), Below w.heap.size w w1 → SomC w.heap.size g1 g2 g3 most [] false w1 v D → Calls Tryz.prog 40 #[.pointer (some ⟨b, 0, none⟩), boxV C lo.length n C' hi.length n', .func (.func 41) #[] #[.pointer (some ⟨g1, 0, none⟩), .pointer (some ⟨g2, 0, none⟩), .pointer (some ⟨g3, 0, none⟩)]] w1 fun e w' =>
      e = .returned (.tuple #[]) ∧ ∃ v' D', SomC w.heap.size g1 g2 g3 most L r w' v' D' ∧ Below w.heap.size w w') := Lib.hid fun g1 g2 g3 w1 v D hb1 hs => by
    have hm : MeetW 41 (fun x => #[x, .pointer (some ⟨g1, 0, none⟩), .pointer (some ⟨g2, 0, none⟩), .pointer (some ⟨g3, 0, none⟩)]) w.heap.size k (wholesO lo hi o) (goS mx) (SomI w.heap.size g1 g2 g3 most mx) :=
      meet_some hmx hm63 (by unfold entsW; rw [hWe]; exact hRl)
    have hnn : NodeO w1 w.heap.size k o := hn.below hb1 hB hB
    refine (weach_three hm (F := somF g1 g2 g3 v D) ⟨v, D, by simpa [entsW] using hs, fun b => Iff.rfl⟩ (by simp [goS, entsW]) (hc.below hb1 hbw) (Nat.lt_of_lt_of_le hbw hb1.size) hnn hb1.size (fun w9 h9 => hT w9 ((hb1.trans h9).mono hB)) (hX.below hb1 hB hB) rfl (lvO_le hn)).mono ?_
    rintro e w' ⟨rfl, F', ⟨v', D', hs', hF'⟩, hin, hf⟩
    rw [met_take.1, met_take.2, show entsW (wholesO lo hi o) = R from hWe, hL, hr] at hs'
    exact ⟨rfl, v', D', hs', hb1.trans (hf.below hb1.size fun b hb => (hs.inb b hb).2)⟩
  clear hb k1 k16 hc hn hbw hWe hT hX hN hB hmx hm63 hR hRl hr hL
  go_enter Tryz.func17, Tryz.ntmps17
  obtain ⟨W0, hW0⟩ : ∃ W0, W0 = (w.alloc (.cells #[.slice C lo.length n, .slice C' hi.length n'] 25)).alloc (.cells #[.int .i64 most] 3) := ⟨_, rfl⟩
  have hg1 : W0.heap[w.heap.size + 1]? = some (.cells #[.int .i64 most] 3 (0, 0)) := by rw [hW0]; (first | (refine heap_at _ _ _ ?_; simp; done) | (refine heap_past _ (heap_at _ _ _ ?_); simp; done) | (refine heap_past _ (heap_past _ (heap_at _ _ _ ?_)); simp; done) | (refine heap_past _ (heap_past _ (heap_past _ (heap_at _ _ _ ?_))); simp; done))
  have hbx : W0.heap[w.heap.size]? = some (.cells #[.slice C lo.length n, .slice C' hi.length n'] 25 (0, 0)) := by rw [hW0]; (first | (refine heap_at _ _ _ ?_; simp; done) | (refine heap_past _ (heap_at _ _ _ ?_); simp; done) | (refine heap_past _ (heap_past _ (heap_at _ _ _ ?_)); simp; done) | (refine heap_past _ (heap_past _ (heap_past _ (heap_at _ _ _ ?_))); simp; done))
  have hbw : Below w.heap.size w W0 := by rw [hW0]; ((repeat (first | refine Below.drew ?_ | (with_reducible refine below_drewN _ ?_) | refine Below.alloc ?_ (by first | omega | (simp; done) | (simp; omega)) _ | refine Below.setCell ?_ (by first | omega | (simp; done) | (simp; omega)) _)); first | exact Below.refl _ _ | assumption | exact below_drewN _ (Below.refl _ _) | exact below_drewN _ (below_drewN _ (Below.refl _ _)))
  have hs0 : W0.heap.size = w.heap.size + 2 := by rw [hW0]; simp
  obtain ⟨a0, a1, -, -⟩ := box_cells hbx
  go_upto_region 1 with fail
  rw [← hW0]
  have H0 := Lib.hid (And.intro hg1 (And.intro hbx (And.intro hbw hs0)))
  clear hW0 hg1 hbx hbw hs0
  go_wp2_with fail
  refine (HR.out _ H0.out.2.2.1).mono ?_
  rintro e w1 ⟨rfl, hb1⟩
  have hs1 := hb1.size
  have hs0 := H0.out.2.2.2
  have hbx1 := (hb1.block w.heap.size (by omega)).trans H0.out.2.1
  have hg1 := (hb1.block (w.heap.size + 1) (by omega)).trans H0.out.1
  have hbw1 : Below w.heap.size w w1 := H0.out.2.2.1.trans (hb1.mono H0.out.2.2.1.size)
  have hs := som_new hg1 (Nat.le_succ w.heap.size)
  have hW := (hbw1.alloc hbw1.size (.cells #[.slice none 0 0] 30)).alloc (by simp; omega) (.cells #[.bool false] 4)
  have hbx2 : ((w1.alloc (.cells #[.slice none 0 0] 30)).alloc (.cells #[.bool false] 4)).heap[w.heap.size]? = some (.cells #[.slice C lo.length n, .slice C' hi.length n'] 25 (0, 0)) := by
    rw [Below.heap_alloc _ _ _ (by simp; omega), Below.heap_alloc _ _ _ (by omega)]
    exact hbx1
  have H1 := Lib.hid (And.intro hs (And.intro hW hbx2))
  clear hb1 hs1 hs0 hbx1 hg1 hbw1 hs hW hbx2 HR a0 a1
  go_upto_region 6 with fail
  have h1 := H1.out
  clear H1 H0
  revert h1
  generalize w1.heap.size = g2
  generalize World.alloc _ _ = W3
  rintro ⟨hs, hW, hbx⟩
  obtain ⟨a0, a1, -, -⟩ := box_cells hbx
  have HC := Lib.hid (HE.out _ _ _ _ _ _ hW hs)
  clear hs hW hbx HE
  go_wp2_with fail
  refine HC.out.mono ?_
  rintro e w4 ⟨rfl, v, D, hs, hb4⟩
  obtain ⟨A, c, rfl, hc⟩ := hs.row.slice
  have c2 : w4.cell? ⟨g2, 0, none⟩ = some (.slice A L.length c) := by rw [cell_of_row w4 g2 _ _ _ (0, 0) hs.c2]; rfl
  have c3 : w4.cell? ⟨g2 + 1, 0, none⟩ = some (.bool r) := by rw [cell_of_row w4 (g2 + 1) _ _ _ (0, 0) hs.c3]; rfl
  have HS := Lib.hid (And.intro hs hb4)
  clear hs hb4 hc HC a0 a1
  go_wp2_with fail
  go_quiet (fail)
  go_wp2_with fail
  go_ret3
  have hd := below_drewN nq (Below.refl w4.heap.size w4)
  exact ⟨A, c, rfl, (HS.out.1.below hd).newE, HS.out.2.trans (hd.mono HS.out.2.size)⟩

set_option maxRecDepth 1000000 in
set_option maxHeartbeats 4000000 in
theorem wfind_c {w : World} {B b k n n' : Nat} {o : Option T} (ht : TreeAt w B b k o) (hB : B ≤ w.heap.size) (hT : ∀ w', Below B w w' → Tz w') {lo hi : List Nat} {C C' : Option Addr} (hX : BoxP w B k C lo C' hi) (hN : (Tr.entsO o).length ≤ 100000000)
    {R : List Ent} (hR : (Tr.entsO o).filter (Tr.inB lo hi) = R) :
    Calls Tryz.prog 16 #[.pointer (some ⟨b, 0, none⟩), boxV C lo.length n C' hi.length n'] w fun e w' => ∃ A c, e = .returned (.tuple #[.slice A R.length c, .int .i64 0]) ∧ NewE w.heap.size w' A c R ∧ Below w.heap.size w w' := by
  have hRl : R.length ≤ 100000000 := by rw [← hR]; exact Nat.le_trans (List.length_filter_le _ _) hN
  have htk : R.take 9223372036854775807 = R := List.take_of_length_le (by omega)
  have HS : Hid (∀ w1, Below w.heap.size w w1 → Calls Tryz.prog 17 #[.pointer (some ⟨b, 0, none⟩), boxV C lo.length n C' hi.length n', .int .i64 9223372036854775807] w1 fun e w' => ∃ (A : Option Addr) (c : Nat) (r : Bool), e = .returned (.tuple #[.slice A R.length c, .bool r, .int .i64 0]) ∧ NewE w.heap.size w' A c R ∧ Below w.heap.size w w') := Lib.hid fun w1 hb1 => by
    refine (wsome_c (mx := 9223372036854775807) (ht.below hb1 hB (Nat.le_refl _)) (Nat.le_trans hB hb1.size) (fun w9 h9 => hT w9 ((hb1.mono hB).trans h9)) (hX.below hb1 hB (Nat.le_refl _)) hN (by decide) (by decide) hR).mono ?_
    rintro e w' ⟨A, c, rfl, h1, h2⟩
    rw [htk] at h1
    rw [htk]
    exact ⟨A, c, _, rfl, h1.mono hb1.size, hb1.trans (h2.mono hb1.size)⟩
  clear ht hB hT hX hN hR hRl htk
  go_enter Tryz.func16, Tryz.ntmps16
  go_wp2_with fail
  refine (HS.out _ (by ((repeat (first | refine Below.drew ?_ | (with_reducible refine below_drewN _ ?_) | refine Below.alloc ?_ (by first | omega | (simp; done) | (simp; omega)) _ | refine Below.setCell ?_ (by first | omega | (simp; done) | (simp; omega)) _)); first | exact Below.refl _ _ | assumption | exact below_drewN _ (Below.refl _ _) | exact below_drewN _ (below_drewN _ (Below.refl _ _))))).mono ?_
  rintro e w1 ⟨A, c, r, rfl, h1, h2⟩
  have H := Lib.hid (And.intro h1 h2)
  clear h1 h2
  go_wp2_with fail
  go_ret2
  exact ⟨A, c, rfl, H.out.1, H.out.2⟩
end Go.Proofs.YtdpbcfjhljgicaaGreatDoor

/-
  THE CONTRACT of pantilelaw09.awake: the chapter's example is met: it returns true.
-/
namespace Go.Proofs.YtdpbcfjhljgicaaGreatDoor
open Go.ChangeShapes Go.WideShapes Go.ChangeAt Go.RowKit
open Tr (T S4 Ent Shp)

/-- two entries side by side -/
theorem ents_two {W : World} {b c0 c1 : Nat} {A0 A1 : Option Addr} {e0 e1 : Ent}
    (h : W.heap[b]? = some (.cells #[.slice A0 e0.1.length c0, .int .u64 (e0.2 : Int), .slice A1 e1.1.length c1, .int .u64 (e1.2 : Int)] 54 (0, 0)))
    (p0 : Pts W W.heap.size A0 e0.1) (p1 : Pts W W.heap.size A1 e1.1) (hl : e0.1.length ≤ maxLen ∧ e1.1.length ≤ maxLen) (hv : e0.2 < 18446744073709551616 ∧ e1.2 < 18446744073709551616) :
    Ents W W.heap.size (some ⟨b, 0, none⟩) [e0, e1] := by
  intro _
  refine ⟨b, 0, rfl, (Array.getElem?_eq_some_iff.1 h).1, fun i e he => ?_⟩
  match i with
  | 0 =>
    simp only [List.getElem?_cons_zero, Option.some.injEq] at he
    subst he
    refine ⟨A0, c0, ?_, ?_, p0, hl.1, hv.1⟩
    · show W.cell? ⟨b, 0, none⟩ = _
      rw [cell_of_row W b _ _ _ (0, 0) h]; rfl
    · show W.cell? ⟨b, 1, none⟩ = _
      rw [cell_of_row W b _ _ _ (0, 0) h]; rfl
  | 1 =>
    simp only [List.getElem?_cons_succ, List.getElem?_cons_zero, Option.some.injEq] at he
    subst he
    refine ⟨A1, c1, ?_, ?_, p1, hl.2, hv.2⟩
    · show W.cell? ⟨b, 2, none⟩ = _
      rw [cell_of_row W b _ _ _ (0, 0) h]; rfl
    · show W.cell? ⟨b, 3, none⟩ = _
      rw [cell_of_row W b _ _ _ (0, 0) h]; rfl
  | i + 2 => simp at he
def ex9L : List Ent := [([4, 0], 3), ([7, 3], 1)]
/-- the second list of the example, as the law makes it -/
theorem ex9_row (w : World) : ∃ W, W = (((w.alloc (.cells #[.int .u64 4, .int .u64 0] 38)).alloc (.cells #[.int .u64 7, .int .u64 3] 38)).alloc (.cells #[.slice (some ⟨w.heap.size, 0, none⟩) 2 2, .int .u64 3, .slice (some ⟨w.heap.size + 1, 0, none⟩) 2 2, .int .u64 1] 54)) ∧
    Ents W W.heap.size (some ⟨w.heap.size + 1 + 1, 0, none⟩) ex9L ∧ Below w.heap.size w W := by
  refine ⟨_, rfl, ?_, by ((repeat (first | refine Below.drew ?_ | (with_reducible refine below_drewN _ ?_) | refine Below.alloc ?_ (by first | omega | (simp; done) | (simp; omega)) _ | refine Below.setCell ?_ (by first | omega | (simp; done) | (simp; omega)) _)); first | exact Below.refl _ _ | assumption | exact below_drewN _ (Below.refl _ _) | exact below_drewN _ (below_drewN _ (Below.refl _ _)))⟩
  refine ents_two (e0 := ([4, 0], 3)) (e1 := ([7, 3], 1)) (heap_at _ _ _ (by simp)) ?_ ?_ (by decide) (by decide)
  · exact pts_two' 4 0 (by decide) (by decide) (by ((repeat (first | refine Below.drew ?_ | (with_reducible refine below_drewN _ ?_) | refine Below.alloc ?_ (by first | omega | (simp; done) | (simp; omega)) _ | refine Below.setCell ?_ (by first | omega | (simp; done) | (simp; omega)) _)); first | exact Below.refl _ _ | assumption | exact below_drewN _ (Below.refl _ _) | exact below_drewN _ (below_drewN _ (Below.refl _ _))))
  · have := pts_two' (w := w.alloc (.cells #[.int .u64 4, .int .u64 0] 38)) 7 3 (by decide) (by decide) (W := (((w.alloc (.cells #[.int .u64 4, .int .u64 0] 38)).alloc (.cells #[.int .u64 7, .int .u64 3] 38)).alloc (.cells #[.slice (some ⟨w.heap.size, 0, none⟩) 2 2, .int .u64 3, .slice (some ⟨w.heap.size + 1, 0, none⟩) 2 2, .int .u64 1] 54))) (by ((repeat (first | refine Below.drew ?_ | (with_reducible refine below_drewN _ ?_) | refine Below.alloc ?_ (by first | omega | (simp; done) | (simp; omega)) _ | refine Below.setCell ?_ (by first | omega | (simp; done) | (simp; omega)) _)); first | exact Below.refl _ _ | assumption | exact below_drewN _ (Below.refl _ _) | exact below_drewN _ (below_drewN _ (Below.refl _ _))))
    simpa using this
theorem ex9_filter : exL.filter (Tr.inB [4, 0] [9, 3]) = ex9L := by decide +kernel
theorem NewE.ents {base : Nat} {w : World} {A : Option Addr} {c : Nat} {L : List Ent} (h : NewE base w A c L) : Ents w w.heap.size A L := by
  obtain ⟨A', c', hv, -, hl⟩ := OwnL.rd (entG_ok _ _) h
  simp only [Value.slice.injEq] at hv
  obtain ⟨rfl, -, -⟩ := hv
  intro hn
  obtain ⟨b, off, h1, h2, h3⟩ := hl hn
  refine ⟨b, off, h1, h2, fun i a ha => ?_⟩
  obtain ⟨A', c'', h4, h5, h6, h7⟩ := h3 i a ha
  exact ⟨A', c'', h4, h5, h6.pts, h7⟩
set_option maxRecDepth 100000 in
set_option maxHeartbeats 1000000 in
theorem awake9_c (w : World) (hT : Tz w) : Calls Tryz.prog 12 #[] w fun e w' => e = .returned (.bool true) ∧ Below w.heap.size w w' := by
  have HT := Lib.hid hT
  clear hT
  go_enter Tryz.func12, Tryz.ntmps12
  go_wp2_with fail
  refine (tNew_c 2 w (by decide) (by decide)).mono ?_
  rintro e w1 ⟨rfl, ht1, hb1⟩
  have T1 := Lib.hid ht1
  have B1 := Lib.hid hb1
  clear ht1 hb1
  go_wp2_with fail
  refine (tPut_new (T1.out.below (below_alloc w1 _) (Nat.le_refl _)) (pts_two w1 7 3 (by decide) (by decide)) rfl (c := 2) 1 (by decide) (by simp [Tr.entsO]) (by decide +kernel)).mono ?_
  rintro e w2 ⟨n2, t2, rfl, ht2, he2, hb2⟩
  have T2 := Lib.hid ht2
  have E2 := Lib.hid he2
  have B2 := Lib.hid (Below.andThen B1.out (Below.andThen (below_alloc w1 _) hb2))
  clear ht2 he2 hb2 T1
  go_wp2_with fail
  refine (tPut_new (T2.out.below (below_alloc w2 _) (Nat.le_refl _)) (pts_two w2 0 8 (by decide) (by decide)) rfl (c := 2) 2 (by decide) (by rw [show Tr.entsO (some t2) = t2.ents from rfl, E2.out]; decide +kernel) (by rw [show Tr.entsO (some t2) = t2.ents from rfl, E2.out]; decide +kernel)).mono ?_
  rintro e w3 ⟨n3, t3, rfl, ht3, he3, hb3⟩
  have T3 := Lib.hid ht3
  have E3 := Lib.hid (he3.trans (by rw [show Tr.entsO (some t2) = t2.ents from rfl, E2.out]))
  have B3 := Lib.hid (Below.andThen B2.out (Below.andThen (below_alloc w2 _) hb3))
  clear ht3 he3 hb3 T2
  go_wp2_with fail
  refine (tPut_new (T3.out.below (below_alloc w3 _) (Nat.le_refl _)) (pts_two w3 4 0 (by decide) (by decide)) rfl (c := 2) 3 (by decide) (by rw [show Tr.entsO (some t3) = t3.ents from rfl, E3.out]; decide +kernel) (by rw [show Tr.entsO (some t3) = t3.ents from rfl, E3.out]; decide +kernel)).mono ?_
  rintro e w4 ⟨n4, t4, rfl, ht4, he4, hb4⟩
  have T4 := Lib.hid ht4
  have E4 : Hid (Tr.entsO (some t4) = exL) := Lib.hid (by rw [show Tr.entsO (some t4) = t4.ents from rfl, he4, show Tr.entsO (some t3) = t3.ents from rfl, E3.out]; exact exL_put)
  have B4 := Lib.hid (Below.andThen B3.out (Below.andThen (below_alloc w3 _) hb4))
  clear ht4 he4 hb4 T3
  go_wp2_with fail
  obtain ⟨W5, hW5⟩ : ∃ W5, W5 = (w4.alloc (.cells #[.int .u64 4, .int .u64 0] 38)).alloc (.cells #[.int .u64 9, .int .u64 3] 38) := ⟨_, rfl⟩
  have hb5 : Below w4.heap.size w4 W5 := by rw [hW5]; ((repeat (first | refine Below.drew ?_ | (with_reducible refine below_drewN _ ?_) | refine Below.alloc ?_ (by first | omega | (simp; done) | (simp; omega)) _ | refine Below.setCell ?_ (by first | omega | (simp; done) | (simp; omega)) _)); first | exact Below.refl _ _ | assumption | exact below_drewN _ (Below.refl _ _) | exact below_drewN _ (below_drewN _ (Below.refl _ _)))
  have hX : BoxP W5 W5.heap.size 2 (some ⟨w4.heap.size, 0, none⟩) [4, 0] (some ⟨w4.heap.size + 1, 0, none⟩) [9, 3] := by
    refine ⟨?_, ?_, by decide, by decide, rfl, rfl⟩
    · rw [hW5]; exact pts_two' 4 0 (by decide) (by decide) (below_alloc _ _)
    · have := pts_two' (w := w4.alloc (.cells #[.int .u64 4, .int .u64 0] 38)) 9 3 (by decide) (by decide) (W := (w4.alloc (.cells #[.int .u64 4, .int .u64 0] 38)).alloc (.cells #[.int .u64 9, .int .u64 3] 38)) (Below.refl _ _)
      rw [hW5]
      simpa using this
  have HF := Lib.hid (wfind_c (R := ex9L) (n := 2) (n' := 2) (T4.out.below hb5 (Nat.le_refl _)).1 (Nat.le_refl _) (fun w' hb => ((HT.out.on B4.out).on hb5).on hb) hX (by rw [E4.out]; decide) (by rw [E4.out]; exact ex9_filter))
  rw [← hW5]
  have H5 := Lib.hid (Below.andThen B4.out hb5)
  clear hX hb5 hW5
  refine HF.out.mono ?_
  rintro e w6 ⟨A6, c6, rfl, hE6, hb6⟩
  have H6 := Lib.hid (And.intro hE6.ents hb6)
  obtain ⟨W7, hW7, hE7, hb7⟩ := ex9_row w6
  have H7 := Lib.hid (And.intro hE7 hb7)
  clear hE6 hb6 hE7 hb7 HF
  go_wp2_with (rw [← hW7]; go_at_call 21; refine (rsameEnts_c (H6.out.1.below H7.out.2 (Nat.le_refl _) H7.out.2.size) H7.out.1 (by decide)).mono ?_; rintro e w8 ⟨rfl, hb8⟩)
  go_ret
  exact ⟨rfl, Below.andThen H5.out (Below.andThen H6.out.2 (Below.andThen H7.out.2 hb8))⟩
end Go.Proofs.YtdpbcfjhljgicaaGreatDoor

/-
  THE CONTRACT of pantileref09.Find: those that are in a box, or aren't.
-/
namespace Go.Proofs.YtdpbcfjhljgicaaGreatDoor
open Go.ChangeShapes Go.WideShapes Go.ChangeAt Go.RowKit
open Tr (T S4 Ent)

def lenN : Value → Nat
  | .int _ n => n.toNat
  | _ => 0
end Go.Proofs.YtdpbcfjhljgicaaGreatDoor

/-
  PLAIN MATHEMATICS of the law WindowHalves: a box cut in two.
-/
namespace Go.Proofs.YtdpbcfjhljgicaaGreatDoor
open Tr (T S4 Ent)

theorem g_set {us : List Nat} {i x : Nat} (hi : i < us.length) (j : Nat) : Bx.g (us.set i x) j = if j = i then x else Bx.g us j := by
  unfold Bx.g
  rw [List.getD_eq_getElem?_getD, List.getElem?_set, List.getD_eq_getElem?_getD]
  by_cases h : i = j
  · subst h
    simp [hi]
  · have h' : ¬ j = i := fun e => h e.symm
    simp [h, h']
/-- each entry of a box is in one of both parts of it, and in no more -/
theorem halves_in {lo hi : List Nat} {i x : Nat} (h1 : i < lo.length) (h2 : i < hi.length) (hl : Bx.g lo i ≤ x) (hh : x < Bx.g hi i) (e : Ent) (he : i < e.1.length) :
    (Tr.inB lo hi e = true ↔ Tr.inB lo (hi.set i x) e = true ∨ Tr.inB (lo.set i (x + 1)) hi e = true) ∧ ¬ (Tr.inB lo (hi.set i x) e = true ∧ Tr.inB (lo.set i (x + 1)) hi e = true) := by
  unfold Tr.inB
  rw [Bx.isin_true, Bx.isin_true, Bx.isin_true]
  refine ⟨⟨fun h => ?_, ?_⟩, ?_⟩
  · by_cases hx : Bx.g e.1 i ≤ x
    · refine .inl fun j hj => ⟨(h j hj).1, ?_⟩
      rw [g_set h2]
      split
      · subst_vars; exact hx
      · exact (h j hj).2
    · refine .inr fun j hj => ⟨?_, (h j hj).2⟩
      rw [g_set h1]
      split
      · subst_vars; omega
      · exact (h j hj).1
  · rintro (h | h) j hj
    · have := h j hj
      rw [g_set h2] at this
      split at this
      · subst_vars; omega
      · exact this
    · have := h j hj
      rw [g_set h1] at this
      split at this
      · subst_vars; omega
      · exact this
  · rintro ⟨ha, hb⟩
    have a := (ha i he).2
    have b := (hb i he).1
    rw [g_set h2, if_pos rfl] at a
    rw [g_set h1, if_pos rfl] at b
    omega
theorem len_parts {α : Type} {f p q : α → Bool} : ∀ {L : List α}, (∀ e ∈ L, (f e = true ↔ p e = true ∨ q e = true) ∧ ¬ (p e = true ∧ q e = true)) → (L.filter f).length = (L.filter p).length + (L.filter q).length
  | [], _ => rfl
  | x :: L, h => by
    have ih := len_parts (fun e he => h e (List.mem_cons_of_mem _ he))
    have h0 := h x List.mem_cons_self
    rw [List.filter_cons, List.filter_cons, List.filter_cons]
    by_cases hp : p x = true
    · have hq : ¬ q x = true := fun hq => h0.2 ⟨hp, hq⟩
      rw [if_pos (h0.1.2 (.inl hp)), if_pos hp, if_neg hq]
      simp only [List.length_cons]
      omega
    · by_cases hq : q x = true
      · rw [if_pos (h0.1.2 (.inr hq)), if_neg hp, if_pos hq]
        simp only [List.length_cons]
        omega
      · rw [if_neg (fun hf => by rcases h0.1.1 hf with h | h; exact hp h; exact hq h), if_neg hp, if_neg hq]
        exact ih
/-- entries put one by one -/
def putsE (L M : List Ent) : List Ent := M.foldl (fun a e => Tr.putE e.1 e.2 a) L
theorem putsE_snoc (L M : List Ent) (e : Ent) : putsE L (M ++ [e]) = Tr.putE e.1 e.2 (putsE L M) := by simp [putsE]
theorem zs_filter {L : List Ent} (h : Tr.ZS L) (f : Ent → Bool) : Tr.ZS (L.filter f) := List.Pairwise.sublist (List.filter_sublist) h
theorem putsE_parts {L : List Ent} (hz : Tr.ZS L) {f p q : Ent → Bool} (h : ∀ e ∈ L, (f e = true ↔ p e = true ∨ q e = true) ∧ ¬ (p e = true ∧ q e = true)) : putsE (L.filter p) (L.filter q) = L.filter f := by
  have hkey : ∀ a ∈ L, ∀ b ∈ L, Tr.key a.1 = Tr.key b.1 → a = b := fun a ha b hb he => by
    obtain ⟨i, hi, rfl⟩ := List.mem_iff_getElem.1 ha
    obtain ⟨j, hj, rfl⟩ := List.mem_iff_getElem.1 hb
    have hp := List.pairwise_iff_getElem.1 hz
    rcases Nat.lt_trichotomy i j with c | c | c
    · have := hp i j hi hj c; omega
    · subst c; rfl
    · have := hp j i hj hi c; omega
  have key : ∀ (M : List Ent), (∀ e ∈ M, e ∈ L ∧ p e = false) → Tr.ZS (putsE (L.filter p) M) ∧ ∀ e, e ∈ putsE (L.filter p) M ↔ (e ∈ L ∧ p e = true) ∨ e ∈ M := by
    intro M0
    rw [← List.reverse_reverse M0]
    generalize M0.reverse = N
    induction N with
    | nil => intro _; exact ⟨zs_filter hz p, fun e => by simp [putsE, List.mem_filter]⟩
    | cons e N ih =>
      rw [List.reverse_cons]
      generalize N.reverse = M at *
      intro hM
      obtain ⟨i1, i2⟩ := ih fun x hx => hM x (List.mem_append_left _ hx)
      rw [putsE_snoc]
      refine ⟨i1.put _ _, fun x => ?_⟩
      rw [Tr.mem_putE i1, i2, List.mem_append, List.mem_singleton]
      have heL := hM e (List.mem_append_right _ (List.mem_singleton.2 rfl))
      constructor
      · rintro (hx | ⟨hx | hx, -⟩)
        · exact .inr (.inr hx)
        · exact .inl hx
        · exact .inr (.inl hx)
      · rintro (hx | hx | hx)
        · by_cases hk : Tr.key x.1 = Tr.key e.1
          · have := hkey x hx.1 e heL.1 hk
            subst this
            rw [heL.2] at hx
            exact absurd hx.2 (by simp)
          · exact .inr ⟨.inl hx, hk⟩
        · by_cases hk : Tr.key x.1 = Tr.key e.1
          · exact .inl (hkey x (hM x (List.mem_append_left _ hx)).1 e heL.1 hk)
          · exact .inr ⟨.inr hx, hk⟩
        · exact .inl hx
  obtain ⟨k1, k2⟩ := key (L.filter q) fun e he => by
    rw [List.mem_filter] at he
    exact ⟨he.1, by have := (h e he.1).2; cases hp : p e; rfl; exact absurd ⟨hp, he.2⟩ this⟩
  refine Tr.ZS.ext k1 (zs_filter hz f) fun e => ?_
  rw [k2, List.mem_filter, List.mem_filter]
  constructor
  · rintro (hx | hx)
    · exact ⟨hx.1, (h e hx.1).1.2 (.inl hx.2)⟩
    · exact ⟨hx.1, (h e hx.1).1.2 (.inr hx.2)⟩
  · rintro ⟨hx, hf⟩
    rcases (h e hx).1.1 hf with c | c
    · exact .inl ⟨hx, c⟩
    · exact .inr ⟨hx, c⟩
theorem ok_set {us : List Nat} (h : Z.Ok us) {i x : Nat} (hx : x < 18446744073709551616) : Z.Ok (us.set i x) := fun u hu => by
  rcases List.mem_or_eq_of_mem_set hu with h1 | rfl
  · exact h u h1
  · exact hx
end Go.Proofs.YtdpbcfjhljgicaaGreatDoor
