import Derived.Test.YtmkejbfgdmbejaaGreatDoorMVg
namespace Go.Proofs.YtmkejbfgdmbejaaGreatDoor
open Go.ChangeShapes Go.WideShapes Go.ChangeAt Go.RowKit
open Tr (T S4 Ent Tri KL)
set_option maxRecDepth 100000 in
set_option maxHeartbeats 2000000 in
theorem mergeThree_skip {w:World} {A1 A2 A3:Option Addr} {c1 c2 c3:Nat} {l1 l2 l3:List ActT} (k r:Int) (hT:Tz w) (hA1:ActsT w w.heap.size A1 l1) (hl1:l1.length≤maxLen) (hA2:ActsT w w.heap.size A2 l2) (hl2:l2.length≤maxLen) (hA3:ActsT w w.heap.size A3 l3) (hl3:l3.length≤maxLen) (hh:(heavyA 30 l1 || heavyA 30 l2 || heavyA 30 l3 || decide (k < 1) || decide (16 < k)) = true) :
    Calls Tryz.prog 4 #[.int .i64 k,.slice A1 l1.length c1,.slice A2 l2.length c2,.slice A3 l3.length c3,.int .i64 r] w fun e w' => e = .returned (.bool true)∧Below w.heap.size w w':=by
  obtain ⟨n1,e1⟩:∃ n,l1.length = n:=⟨_,rfl⟩
  obtain ⟨n2,e2⟩:∃ n,l2.length = n:=⟨_,rfl⟩
  obtain ⟨n3,e3⟩:∃ n,l3.length = n:=⟨_,rfl⟩
  have HT:=Lib.hid hT
  have HG:=Lib.hid fun (w1:World) (hb:Below w.heap.size w w1) => rheavy14_c (c1:=c1) (c2:=c2) (c3:=c3) k (hA1.below hb (Nat.le_refl _) (Nat.le_refl _)) (hA2.below hb (Nat.le_refl _) (Nat.le_refl _)) (hA3.below hb (Nat.le_refl _) (Nat.le_refl _)) hl1 hl2 hl3 e1 e2 e3 hh
  rw [e1,e2,e3]
  clear hT hA1 hA2 hA3 hl1 hl2 hl3 e1 e2 e3 hh
  go_enter Tryz.func4,Tryz.ntmps4
  go_wp2_with fail
  refine (awake14_c w HT.out).mono ?_
  rintro e w1 ⟨rfl,hb1⟩
  have HB:=Lib.hid hb1
  clear hb1
  go_wp2_with fail
  refine (HG.out w1 HB.out).mono ?_
  rintro e w' ⟨rfl,rfl⟩
  clear HG
  go_wp2_with fail
  go_ret
  exact ⟨rfl,HB.out⟩
set_option maxRecDepth 1000000 in
set_option maxHeartbeats 16000000 in
theorem mergeThree_go {w:World} {A1 A2 A3:Option Addr} {c1 c2 c3:Nat} {l1 l2 l3:List ActT} {k:Nat} (r:Int) (hT:Tz w) (hA1:ActsT w w.heap.size A1 l1) (hl1:l1.length≤maxLen) (hA2:ActsT w w.heap.size A2 l2) (hl2:l2.length≤maxLen) (hA3:ActsT w w.heap.size A3 l3) (hl3:l3.length≤maxLen) (h1:heavyA 30 l1 = false) (h2:heavyA 30 l2 = false) (h3:heavyA 30 l3 = false) (k1:1≤k) (k16:k≤16) :
    Calls Tryz.prog 4 #[.int .i64 (k:Int),.slice A1 l1.length c1,.slice A2 l2.length c2,.slice A3 l3.length c3,.int .i64 r] w fun e w' => e = .returned (.bool true)∧Below w.heap.size w w':=by
  have hf1:=heavyA_few h1
  have hf2:=heavyA_few h2
  have hf3:=heavyA_few h3
  have hh:(heavyA 30 l1 || heavyA 30 l2 || heavyA 30 l3 || decide ((k:Int) < 1) || decide ((16:Int) < (k:Int))) = false:=by
    rw [h1,h2,h3,decide_eq_false (by omega:¬ ((k:Int) < 1)),decide_eq_false (by omega:¬ ((16:Int) < (k:Int)))]
    rfl
  obtain ⟨n1,e1⟩:∃ n,l1.length = n:=⟨_,rfl⟩
  obtain ⟨n2,e2⟩:∃ n,l2.length = n:=⟨_,rfl⟩
  obtain ⟨n3,e3⟩:∃ n,l3.length = n:=⟨_,rfl⟩
  have HT:=Lib.hid hT
  have HG:=Lib.hid fun (w1:World) (hb:Below w.heap.size w w1) => rheavy14_c (c1:=c1) (c2:=c2) (c3:=c3) (k:Int) (hA1.below hb (Nat.le_refl _) (Nat.le_refl _)) (hA2.below hb (Nat.le_refl _) (Nat.le_refl _)) (hA3.below hb (Nat.le_refl _) (Nat.le_refl _)) hl1 hl2 hl3 e1 e2 e3 hh
  have HK:=Lib.hid (And.intro k1 (And.intro k16 (And.intro hf1 (And.intro hf2 hf3))))
  have HW:=Lib.hid fun (w1:World) (hb:Below w.heap.size w w1) => three14_c (c1:=c1) (c2:=c2) (c3:=c3) k1 k16 (hA1.below hb (Nat.le_refl _) (Nat.le_refl _)) (hA2.below hb (Nat.le_refl _) (Nat.le_refl _)) (hA3.below hb (Nat.le_refl _) (Nat.le_refl _)) hb.size (by omega) (by omega) (by omega) e1 e2 e3
  have HS:Hid (n1 + (n1 + n2) + (n1 + n3)≤150):=Lib.hid (by omega)
  rw [e1,e2,e3]
  clear hT hA1 hA2 hA3 hl1 hl2 hl3 e1 e2 e3 hh h1 h2 h3 hf1 hf2 hf3 k1 k16
  go_enter Tryz.func4,Tryz.ntmps4
  go_wp2_with fail
  refine (awake14_c w HT.out).mono ?_
  rintro e w1 ⟨rfl,hb1⟩
  have HB:=Lib.hid hb1
  clear hb1
  go_wp2_with fail
  refine (HG.out w1 HB.out).mono ?_
  rintro e w' ⟨rfl,rfl⟩
  clear HG
  go_wp2_with fail
  refine (HW.out w1 HB.out).mono ?_
  rintro e w3 ⟨gt,gl,b0,b1,b2,t,D0,D1,D2,d0,d1,d2,rfl,h3,hb3⟩
  have HH:=Lib.hid h3
  replace HB:=Lib.hid (Below.andThen HB.out hb3)
  clear h3 hb3 HW
  obtain ⟨n0',hn0⟩:∃ n,(Tr.entsO t.o).length = n:=⟨_,rfl⟩
  obtain ⟨n1',hn1⟩:∃ n,(Tr.entsO t.a).length = n:=⟨_,rfl⟩
  obtain ⟨n2',hn2⟩:∃ n,(Tr.entsO t.b).length = n:=⟨_,rfl⟩
  have HN:=Lib.hid (And.intro hn0 (And.intro hn1 hn2))
  clear hn0 hn1 hn2
  go_wp2_with fail
  refine (is14_c (ct:=3) (cl:=3) HH.out (fun w' hb => HT.out.on (Below.andThen HB.out hb)) HK.out.1 HK.out.2.1 (by have:=HS.out;omega) r).mono ?_
  rintro e w4 ⟨rfl,hb4⟩
  replace HH:=Lib.hid (HH.out.below hb4)
  replace HB:=Lib.hid (Below.andThen HB.out hb4)
  clear hb4
  have a0:∀ w',Below w4.heap.size w4 w'→w'.cell? ⟨gt,0,none⟩ = some (.pointer (some ⟨b0,0,none⟩)):=fun w' hb => (row3 (HH.out.below hb).rt).1
  have a1:∀ w',Below w4.heap.size w4 w'→w'.cell? ⟨gt,1,none⟩ = some (.pointer (some ⟨b1,0,none⟩)):=fun w' hb => (row3 (HH.out.below hb).rt).2.1
  have a2:∀ w',Below w4.heap.size w4 w'→w'.cell? ⟨gt,2,none⟩ = some (.pointer (some ⟨b2,0,none⟩)):=fun w' hb => (row3 (HH.out.below hb).rt).2.2
  have f0:∀ w',Below w4.heap.size w4 w'→w'.cell? ⟨gl,0,none⟩ = some (.slice D0 n0' d0):=fun w' hb => by rw [← HN.out.1];exact (row3 (HH.out.below hb).rl).1
  have f1:∀ w',Below w4.heap.size w4 w'→w'.cell? ⟨gl,1,none⟩ = some (.slice D1 n1' d1):=fun w' hb => by rw [← HN.out.2.1];exact (row3 (HH.out.below hb).rl).2.1
  have f2:∀ w',Below w4.heap.size w4 w'→w'.cell? ⟨gl,2,none⟩ = some (.slice D2 n2' d2):=fun w' hb => by rw [← HN.out.2.2];exact (row3 (HH.out.below hb).rl).2.2
  have hb0:Below w4.heap.size w4 w4:=Below.refl _ _
  have I0:Hid (∀ v,Below w4.heap.size w4 v→Calls Tryz.prog 17 #[.pointer (some ⟨b0,0,none⟩),.int .i64 (k:Int),.slice D0 n0' d0] v fun e w' => e = .returned (.bool true)∧Below v.heap.size v w'):=Lib.hid fun v hb => by
    have h5:=(HH.out.below hb).h0
    have hI:=is7_c (c:=d0) h5.tree.1 (fun w' hb' => HT.out.on (Below.andThen HB.out (Below.andThen hb hb'))) (h5.list.ents h5.old (Nat.le_refl _)) h5.cap (by have:=h5.few;have:=HS.out;omega)
    rw [HN.out.1] at hI
    exact hI
  have I1:Hid (∀ v,Below w4.heap.size w4 v→Calls Tryz.prog 17 #[.pointer (some ⟨b1,0,none⟩),.int .i64 (k:Int),.slice D1 n1' d1] v fun e w' => e = .returned (.bool true)∧Below v.heap.size v w'):=Lib.hid fun v hb => by
    have h5:=(HH.out.below hb).h1
    have hI:=is7_c (c:=d1) h5.tree.1 (fun w' hb' => HT.out.on (Below.andThen HB.out (Below.andThen hb hb'))) (h5.list.ents h5.old (Nat.le_refl _)) h5.cap (by have:=h5.few;have:=HS.out;omega)
    rw [HN.out.2.1] at hI
    exact hI
  have I2:Hid (∀ v,Below w4.heap.size w4 v→Calls Tryz.prog 17 #[.pointer (some ⟨b2,0,none⟩),.int .i64 (k:Int),.slice D2 n2' d2] v fun e w' => e = .returned (.bool true)∧Below v.heap.size v w'):=Lib.hid fun v hb => by
    have h5:=(HH.out.below hb).h2
    have hI:=is7_c (c:=d2) h5.tree.1 (fun w' hb' => HT.out.on (Below.andThen HB.out (Below.andThen hb hb'))) (h5.list.ents h5.old (Nat.le_refl _)) h5.cap (by have:=h5.few;have:=HS.out;omega)
    rw [HN.out.2.2] at hI
    exact hI
  go_wp2_with fail
  go_region_held3 (fun w' => Below w4.heap.size w4 w') (((repeat first | refine bD ?_ | with_reducible refine bN ?_ | refine bA ?_ | refine bS ?_);first | exact bR | assumption | exact bN bR | exact bN (bN bR)))
    (first
      | (go_at_call 17;refine (I0.out _ (show Below w4.heap.size w4 _ by ((repeat first | refine bD ?_ | with_reducible refine bN ?_ | refine bA ?_ | refine bS ?_);first | exact bR | assumption | exact bN bR | exact bN (bN bR)))).mono ?_;rintro e v0 ⟨rfl,hv0⟩;have hD0:=Below.trans (show Below w4.heap.size w4 _ by ((repeat first | refine bD ?_ | with_reducible refine bN ?_ | refine bA ?_ | refine bS ?_);first | exact bR | assumption | exact bN bR | exact bN (bN bR))) (hv0.mono (Below.size (show Below w4.heap.size w4 _ by ((repeat first | refine bD ?_ | with_reducible refine bN ?_ | refine bA ?_ | refine bS ?_);first | exact bR | assumption | exact bN bR | exact bN (bN bR)))));clear hv0 I0)
      | (go_at_call 17;refine (I1.out _ (show Below w4.heap.size w4 _ by ((repeat first | refine bD ?_ | with_reducible refine bN ?_ | refine bA ?_ | refine bS ?_);first | exact bR | assumption | exact bN bR | exact bN (bN bR)))).mono ?_;rintro e v1 ⟨rfl,hv1⟩;have hD1:=Below.trans (show Below w4.heap.size w4 _ by ((repeat first | refine bD ?_ | with_reducible refine bN ?_ | refine bA ?_ | refine bS ?_);first | exact bR | assumption | exact bN bR | exact bN (bN bR))) (hv1.mono (Below.size (show Below w4.heap.size w4 _ by ((repeat first | refine bD ?_ | with_reducible refine bN ?_ | refine bA ?_ | refine bS ?_);first | exact bR | assumption | exact bN bR | exact bN (bN bR)))));clear hv1 I1)
      | (go_at_call 17;refine (I2.out _ (show Below w4.heap.size w4 _ by ((repeat first | refine bD ?_ | with_reducible refine bN ?_ | refine bA ?_ | refine bS ?_);first | exact bR | assumption | exact bN bR | exact bN (bN bR)))).mono ?_;rintro e v2 ⟨rfl,hv2⟩;have hD2:=Below.trans (show Below w4.heap.size w4 _ by ((repeat first | refine bD ?_ | with_reducible refine bN ?_ | refine bA ?_ | refine bS ?_);first | exact bR | assumption | exact bN bR | exact bN (bN bR))) (hv2.mono (Below.size (show Below w4.heap.size w4 _ by ((repeat first | refine bD ?_ | with_reducible refine bN ?_ | refine bA ?_ | refine bS ?_);first | exact bR | assumption | exact bN bR | exact bN (bN bR)))));clear hv2 I2))
  go_wp2_with fail
  go_ret
  exact ⟨rfl,HB.out.trans (hD2.mono HB.out.size)⟩
theorem mergeThree_c {w:World} {A1 A2 A3:Option Addr} {c1 c2 c3:Nat} {l1 l2 l3:List ActT} (k r:Int) (hT:Tz w) (hA1:ActsT w w.heap.size A1 l1) (hl1:l1.length≤maxLen) (hA2:ActsT w w.heap.size A2 l2) (hl2:l2.length≤maxLen) (hA3:ActsT w w.heap.size A3 l3) (hl3:l3.length≤maxLen) :
    Calls Tryz.prog 4 #[.int .i64 k,.slice A1 l1.length c1,.slice A2 l2.length c2,.slice A3 l3.length c3,.int .i64 r] w fun e w' => e = .returned (.bool true)∧Below w.heap.size w w':=by
  by_cases h:(heavyA 30 l1 || heavyA 30 l2 || heavyA 30 l3 || decide (k < 1) || decide (16 < k)) = true
  · exact mergeThree_skip k r hT hA1 hl1 hA2 hl2 hA3 hl3 h
  · simp only [Bool.or_eq_true,decide_eq_true_eq,not_or,Bool.not_eq_true] at h
    obtain ⟨⟨⟨⟨h1,h2⟩,h3⟩,h4⟩,h5⟩:=h
    obtain ⟨a,rfl⟩:∃ a:Nat,k = (a:Int):=⟨k.toNat,by omega⟩
    exact mergeThree_go r hT hA1 hl1 hA2 hl2 hA3 hl3 h1 h2 h3 (by omega) (by omega)
end Go.Proofs.YtmkejbfgdmbejaaGreatDoor
