/-
  CONTRACTS of package node, seventh part: Pair.
-/
import Derived.Test.YtgplbbmenmbaaaaTn6
namespace Go.Proofs.Ytgplbbmenmbaaaa
open Go.ChangeShapes Go.WideShapes Go.ChangeAt Go.RowKit
open Tr (T S4)

theorem nPair_nil (h : Option Addr) (w : World) : Calls Try.prog 7 #[.pointer none, .pointer h] w fun e w' => e = .returned (.tuple #[.pointer none, .int .i64 1]) ∧ w = w' := by
  go_enter Try.func7, Try.ntmps7
  go_wp2
  go_ret2
  exact ⟨rfl, rfl⟩
theorem nPair_kid (g : Nat) (w : World) : Calls Try.prog 7 #[.pointer (some ⟨g, 0, none⟩), .pointer none] w fun e w' => e = .returned (.tuple #[.pointer none, .int .i64 1]) ∧ w = w' := by
  go_enter Try.func7, Try.ntmps7
  go_wp2
  go_ret2
  exact ⟨rfl, rfl⟩
set_option maxRecDepth 100000 in
theorem nPair_dim {w : World} {B g h : Nat} {lev levk : Int} {pre prek : List Nat} {v vk : Nat} {s sk : S4} {kp kpk : Option Addr} (hn : NdAt w B g lev pre v kp s) (hk : NdAt w B h levk prek vk kpk sk) (hl : pre.length ≤ 16) (hl' : prek.length ≤ 16) (hne : pre.length ≠ prek.length) :
    Calls Try.prog 7 #[.pointer (some ⟨g, 0, none⟩), .pointer (some ⟨h, 0, none⟩)] w fun e w' => e = .returned (.tuple #[.pointer none, .int .i64 2]) ∧ Below w.heap.size w w' := by
  obtain ⟨-, ⟨A, c, hp, h1⟩, -⟩ := hn
  obtain ⟨-, ⟨A', c', hp', h1'⟩, -⟩ := hk
  have H : Hid (∀ n, Calls Try.prog 21 #[.slice A pre.length c, .slice A' prek.length c'] (w.drewN n) fun e w' => e = .returned (.tuple #[.int .i64 0, .int .i64 2]) ∧ w.drewN n = w') := Lib.hid fun n => part_no A A' _ c _ c' (w.drewN n) (by unfold maxLen; omega) (by unfold maxLen; omega) (by omega)
  clear hp hp' hl hl' hne
  go_enter Try.func7, Try.ntmps7
  go_wp2_with fail
  go_quiet ((go_at_call 21; exact Calls.quiet_of_same ((H.out _).mono fun e w' h => ⟨h.1, h.2.symm⟩)))
  go_wp2_with fail
  go_ret2
  exact ⟨rfl, by ((repeat (first | refine Below.drew ?_ | (with_reducible refine below_drewN _ ?_) | refine Below.alloc ?_ (by first | omega | (simp; done) | (simp; omega)) _ | refine Below.setCell ?_ (by first | omega | (simp; done) | (simp; omega)) _)); first | exact Below.refl _ _ | assumption | exact below_drewN _ (Below.refl _ _) | exact below_drewN _ (below_drewN _ (Below.refl _ _)))⟩
set_option maxRecDepth 100000 in
theorem nPair_arg {w : World} {B g h : Nat} {lev levk : Int} {pre prek : List Nat} {v vk : Nat} {s sk : S4} {kp kpk : Option Addr} (hn : NdAt w B g lev pre v kp s) (hk : NdAt w B h levk prek vk kpk sk) (h1' : 1 ≤ pre.length) (hl : pre.length ≤ 16) (hl' : pre.length = prek.length) (hp : Z.part pre prek ≤ max lev levk) :
    Calls Try.prog 7 #[.pointer (some ⟨g, 0, none⟩), .pointer (some ⟨h, 0, none⟩)] w fun e w' => e = .returned (.tuple #[.pointer none, .int .i64 3]) ∧ Below w.heap.size w w' := by
  obtain ⟨-, ⟨A, c, hpp, h1⟩, h0, -⟩ := hn
  obtain ⟨-, ⟨A', c', hpp', hk1⟩, hk0, -⟩ := hk
  have H : Hid (∀ n, Calls Try.prog 21 #[.slice A pre.length c, .slice A' prek.length c'] (w.drewN n) fun e w' => e = .returned (.tuple #[.int .i64 (Z.part pre prek), .int .i64 0]) ∧ w.drewN n = w') := Lib.hid fun n => part_yes A A' c c' pre prek B (w.drewN n) hpp hpp' h1' hl hl'
  generalize Z.part pre prek = m at *
  have d1 : decide (m ≤ max lev levk) = true := decide_eq_true hp
  clear hpp hpp' hl hl' h1' hp
  go_enter Try.func7, Try.ntmps7
  go_wp2_with fail
  go_quiet ((go_at_call 21; exact Calls.quiet_of_same ((H.out _).mono fun e w' h => ⟨h.1, h.2.symm⟩)))
  go_wp2_with fail
  go_quiet (fail)
  go_wp2_with fail
  go_ret2
  exact ⟨rfl, by ((repeat (first | refine Below.drew ?_ | (with_reducible refine below_drewN _ ?_) | refine Below.alloc ?_ (by first | omega | (simp; done) | (simp; omega)) _ | refine Below.setCell ?_ (by first | omega | (simp; done) | (simp; omega)) _)); first | exact Below.refl _ _ | assumption | exact below_drewN _ (Below.refl _ _) | exact below_drewN _ (below_drewN _ (Below.refl _ _)))⟩
set_option maxRecDepth 100000 in
set_option maxHeartbeats 1000000 in
/-- Pair, OF TWO NODES THAT PART -/
theorem nPair_c {w : World} {B k l : Nat} {a b : T} (ha : Node w B k a) (hb : Node w B k b) (hB : B ≤ w.heap.size) (hp : Z.part a.pre b.pre = (l : Int)) (hla : a.lv ≤ l) (hlb : b.lv ≤ l) (hc : a.ents.length + b.ents.length < 18446744073709551616) :
    Calls Try.prog 7 #[.pointer (some ⟨a.blk, 0, none⟩), .pointer (some ⟨b.blk, 0, none⟩)] w fun e w' =>
      ∃ g', e = .returned (.tuple #[.pointer (some ⟨g', 0, none⟩), .int .i64 0]) ∧ Node w' w'.heap.size k (.br g' l (Z.cut a.pre (l + 1)) (Sl.put (Z.addr b.pre l) b (Sl.put (Z.addr a.pre l) a []))) ∧ w.heap.size ≤ g' ∧ Below w.heap.size w w' := by
  have hwf := fun g => (Tr.Wf.pair ha.1 hb.1 hp hla hlb g).1
  have hne := (Tr.Wf.pair ha.1 hb.1 hp hla hlb 0).2
  obtain ⟨kpa, na⟩ := ha.2.nd
  obtain ⟨kpb, nb⟩ := hb.2.nd
  have hak1 := ha.1.k1
  have hak16 := ha.1.k16
  have hal := ha.1.len
  have hbl := hb.1.len
  have h63 : l ≤ 63 := by cases hwf 0 with | br _ _ _ _ h63 => exact h63
  have hpa := ents_pos ha.1
  have hpb := ents_pos hb.1
  have HW := Lib.hid (And.intro hwf (And.intro hne (And.intro ha (And.intro hb hc))))
  have HN := Lib.hid (And.intro na nb)
  obtain ⟨-, ⟨A, c, hpp, h1⟩, h0, -⟩ := na
  obtain ⟨-, ⟨A', c', hpp', hk1⟩, hk0, -⟩ := nb
  have hmax : ¬ ((l : Int) ≤ max (levI a) (levI b)) := by unfold levI; omega
  rw [← hp] at hmax
  have H : Hid (∀ n, Calls Try.prog 21 #[.slice A a.pre.length c, .slice A' b.pre.length c'] (w.drewN n) fun e w' => e = .returned (.tuple #[.int .i64 (l : Int), .int .i64 0]) ∧ w.drewN n = w') := Lib.hid fun n => by rw [← hp]; exact part_yes A A' c c' a.pre b.pre B (w.drewN n) hpp hpp' (by omega) (by omega) (by omega)
  rw [hp] at hmax
  generalize hea : levI a = leva at *
  generalize heb : levI b = levb at *
  have d1 : decide ((l : Int) ≤ max leva levb) = false := decide_eq_false hmax
  have HC : Hid (∀ n, Calls Try.prog 22 #[.slice A a.pre.length c, .int .i64 (l : Int)] (w.drewN n) fun e w' => ∃ v, e = .returned (.tuple #[v, .int .i64 0]) ∧ Own w' w.heap.size v (Z.cut a.pre (l + 1)) ∧ Below w.heap.size w w') := Lib.hid fun n =>
    (cut_yes A c a.pre l B (w.drewN n) hpp (show B ≤ w.heap.size from hB) (by omega) (by omega) h63).mono fun e w' ⟨v, h1, h2, h3⟩ => ⟨v, h1, h2, (below_drewN n (Below.refl _ _)).trans h3⟩
  have HX := Lib.hid (And.intro hal (And.intro hbl (And.intro hak1 (And.intro hak16 (And.intro h63 (And.intro hpa (And.intro hpb hB)))))))
  clear hpp hpp' hal hbl hak1 hak16 h63 hpa hpb hmax hwf hne ha hb hc hla hlb hp hea heb
  go_enter Try.func7, Try.ntmps7
  go_wp2_with fail
  go_quiet ((go_at_call 21; exact Calls.quiet_of_same ((H.out _).mono fun e w' h => ⟨h.1, h.2.symm⟩)))
  go_wp2_with fail
  go_quiet (fail)
  go_wp2_with fail
  refine (HC.out _).mono ?_
  rintro e w2 ⟨v, rfl, ho2, hb2⟩
  obtain ⟨A2, c2, hv2, hp2⟩ := ho2.pts
  rw [Z.cut_length, HX.out.1] at hv2
  subst hv2
  have HB2 := Lib.hid hb2
  have H2 := Lib.hid hp2
  clear ho2 hp2 hb2
  go_wp2_with fail
  refine (Sn.sNew_yes k _ HX.out.2.2.1 HX.out.2.2.2.1).mono ?_
  rintro e w3 ⟨b3, rfl, hat3, hb3⟩
  have HB3 := Lib.hid (Below.andThen HB2.out hb3)
  have H2 := Lib.hid (H2.out.below' hb3 (Nat.le_refl _))
  have H3 := Lib.hid hat3
  have hs23 := hb3.size
  clear hat3 hb3
  go_wp2_with fail
  have hnd4 := nd_at (w := w3.alloc (.cells #[.int .i64 (l : Int), .slice A2 k c2, .int .u64 0, .pointer (some ⟨b3, 0, none⟩), .int .u64 0, .int .u64 0, .int .u64 0, .int .u64 0] 58)) (B' := w3.heap.size + 1) (g := w3.heap.size) (A := A2) (c := c2) (lev := (l : Int)) (pre := Z.cut a.pre (l + 1)) (v := 0) (kp := some ⟨b3, 0, none⟩) (a0 := 0) (a1 := 0) (a2 := 0) (a3 := 0) (t := 58) (H2.out.below' (below_alloc _ _) hs23) (by rw [Z.cut_length, HX.out.1]; exact heap_at _ _ _ rfl) (by omega) (by omega)
  have hB4 := HB3.out.trans ((below_alloc w3 (.cells #[.int .i64 (l : Int), .slice A2 k c2, .int .u64 0, .pointer (some ⟨b3, 0, none⟩), .int .u64 0, .int .u64 0, .int .u64 0, .int .u64 0] 58)).mono HB3.out.size)
  have hat4 := H3.out.below (below_alloc w3 (.cells #[.int .i64 (l : Int), .slice A2 k c2, .int .u64 0, .pointer (some ⟨b3, 0, none⟩), .int .u64 0, .int .u64 0, .int .u64 0, .int .u64 0] 58)) (Nat.le_refl _) (Nat.le_succ _)
  have hs4 : (w3.alloc (.cells #[.int .i64 (l : Int), .slice A2 k c2, .int .u64 0, .pointer (some ⟨b3, 0, none⟩), .int .u64 0, .int .u64 0, .int .u64 0, .int .u64 0] 58)).heap.size = w3.heap.size + 1 := by simp
  have hwle : w.heap.size ≤ w3.heap.size := HB3.out.size
  generalize w3.alloc _ = W4 at *
  have HQ := Lib.hid (And.intro hnd4 (And.intro hat4 (And.intro hB4 hs4)))
  clear hnd4 hat4 hB4 hs4
  have h1 := nput_new (w := W4) HQ.out.1 HQ.out.2.1 ((HN.out.1.below HQ.out.2.2.1 HX.out.2.2.2.2.2.2.2 (show B ≤ w3.heap.size + 1 by have := HX.out.2.2.2.2.2.2.2; omega))) (Nat.le_of_eq HQ.out.2.2.2.symm) HX.out.1 HX.out.2.2.2.2.1 rfl (by rw [Tr.sums_c]; have := HX.out.2.2.2.2.2.1; omega) (by rw [Tr.sums_c]; have := HW.out.2.2.2.2; simp only; omega)
  refine h1.mono ?_
  clear h1
  rintro e w5 ⟨g5, b5, rfl, hnd5, hat5, hg5, hb5⟩
  have HB5 := Lib.hid (HQ.out.2.2.1.trans (hb5.mono (by have := HQ.out.2.2.2; omega)))
  have H5 := Lib.hid (And.intro hnd5 hat5)
  clear hnd5 hat5 hb5 hg5
  have ht0 : Tr.tog (⟨0, 0, 0, 0⟩ : S4) (Tr.sums a.ents) = Tr.sums a.ents := Tr.zero_tog _
  have hget : Sl.get (Sl.put (Z.addr a.pre l) (some ⟨a.blk, 0, none⟩) ([] : Sn.Al)) (Z.addr b.pre l : Int) = none := by
    rw [Sl.get_put Sl.srt_nil, if_neg (by have := HW.out.2.1; omega)]; rfl
  have h2 := nput_new (w := w5) H5.out.1 H5.out.2 (HN.out.2.below HB5.out HX.out.2.2.2.2.2.2.2 (Nat.le_trans HX.out.2.2.2.2.2.2.2 HB5.out.size)) (Nat.le_refl _) HX.out.2.1 HX.out.2.2.2.2.1 hget (by rw [Tr.sums_c]; have := HX.out.2.2.2.2.2.2.1; omega) (by rw [ht0, Tr.sums_c, Tr.sums_c]; exact HW.out.2.2.2.2)
  rw [ht0] at h2
  have H2' := Lib.hid h2
  clear h2 ht0 hget
  go_wp2_with fail
  refine H2'.out.mono ?_
  rintro e w6 ⟨g6, b6, rfl, hnd6, hat6, hg6, hb6⟩
  have HB6 := Lib.hid (Below.andThen HB5.out hb6)
  have H6 := Lib.hid (And.intro hnd6 (And.intro hat6 (Nat.le_trans HB5.out.size hg6)))
  clear hnd6 hat6 hb6 hg6
  go_wp2_with fail
  go_ret2
  have hs1 : Tr.sums (Tr.entsL (Sl.put (Z.addr b.pre l) b (Sl.put (Z.addr a.pre l) a []))) = Tr.tog (Tr.sums a.ents) (Tr.sums b.ents) := by
    have hsrt : Sl.Srt (Sl.put (Z.addr a.pre l) a ([] : List (Nat × T))) := Sl.srt_put _ _ Sl.srt_nil
    rw [sums_put_new hsrt b (by rw [Sl.get_put Sl.srt_nil, if_neg (by have := HW.out.2.1; omega)]; rfl)]
    simp [Sl.put, Tr.entsL]
  refine ⟨g6, rfl, ⟨HW.out.1 g6, .br g6 l _ _ b6 (by rw [hs1]; exact H6.out.1) (by rw [kidL_put, kidL_put]; exact H6.out.2.1) fun x hx => ?_⟩, H6.out.2.2, HB6.out⟩
  have hBB := HX.out.2.2.2.2.2.2.2
  rcases Sl.mem_put hx with rfl | hx
  · exact (HW.out.2.2.2.1.below HB6.out hBB (Nat.le_trans hBB HB6.out.size)).2
  · rcases Sl.mem_put hx with rfl | hx
    · exact (HW.out.2.2.1.below HB6.out hBB (Nat.le_trans hBB HB6.out.size)).2
    · simp at hx
end Go.Proofs.Ytgplbbmenmbaaaa
