import Derived.Test.YtmkejbfgdmbejaaGreatDoorMEe
namespace Go.Proofs.YtmkejbfgdmbejaaGreatDoor
open Go.ChangeShapes Go.WideShapes Go.ChangeAt Go.RowKit
open Tr (T S4 Ent Tri KL)
set_option maxRecDepth 100000 in
set_option maxHeartbeats 2000000 in
theorem mergeEdits_skip {w:World} {A1 A2 A3:Option Addr} {c1 c2 c3:Nat} {l1 l2 l3:List ActT} (k:Int) (hT:Tz w) (hA1:ActsT w w.heap.size A1 l1) (hl1:l1.length≤maxLen) (hA2:ActsT w w.heap.size A2 l2) (hl2:l2.length≤maxLen) (hA3:ActsT w w.heap.size A3 l3) (hl3:l3.length≤maxLen) (hh:(heavyA 30 l1 || heavyA 30 l2 || heavyA 30 l3 || decide (k < 1) || decide (16 < k)) = true) :
    Calls Tryz.prog 7 #[.int .i64 k,.slice A1 l1.length c1,.slice A2 l2.length c2,.slice A3 l3.length c3] w fun e w' => e = .returned (.bool true)∧Below w.heap.size w w':=by
  obtain ⟨n1,e1⟩:∃ n,l1.length = n:=⟨_,rfl⟩
  obtain ⟨n2,e2⟩:∃ n,l2.length = n:=⟨_,rfl⟩
  obtain ⟨n3,e3⟩:∃ n,l3.length = n:=⟨_,rfl⟩
  have HT:=Lib.hid hT
  have HG:=Lib.hid fun (w1:World) (hb:Below w.heap.size w w1) => rheavy14_c (c1:=c1) (c2:=c2) (c3:=c3) k (hA1.below hb (Nat.le_refl _) (Nat.le_refl _)) (hA2.below hb (Nat.le_refl _) (Nat.le_refl _)) (hA3.below hb (Nat.le_refl _) (Nat.le_refl _)) hl1 hl2 hl3 e1 e2 e3 hh
  rw [e1,e2,e3]
  clear hT hA1 hA2 hA3 hl1 hl2 hl3 e1 e2 e3 hh
  go_enter Tryz.func7,Tryz.ntmps7
  go_wp2_with fail
  refine (awake14_c w HT.out).mono ?_
  rintro e w1 ⟨rfl,hb1⟩
  have HB:=Lib.hid hb1
  clear hb1
  go_wp2_with fail
  refine (HG.out w1 HB.out).mono ?_
  rintro e w' ⟨rfl,rfl⟩
  clear HG
  go_wp2_with fail
  go_ret
  exact ⟨rfl,HB.out⟩
set_option maxRecDepth 1000000 in
set_option maxHeartbeats 16000000 in
theorem mergeEdits_go {w:World} {A1 A2 A3:Option Addr} {c1 c2 c3:Nat} {l1 l2 l3:List ActT} {k:Nat} (hT:Tz w) (hA1:ActsT w w.heap.size A1 l1) (hl1:l1.length≤maxLen) (hA2:ActsT w w.heap.size A2 l2) (hl2:l2.length≤maxLen) (hA3:ActsT w w.heap.size A3 l3) (hl3:l3.length≤maxLen) (h1:heavyA 30 l1 = false) (h2:heavyA 30 l2 = false) (h3:heavyA 30 l3 = false) (k1:1≤k) (k16:k≤16) :
    Calls Tryz.prog 7 #[.int .i64 (k:Int),.slice A1 l1.length c1,.slice A2 l2.length c2,.slice A3 l3.length c3] w fun e w' => e = .returned (.bool true)∧Below w.heap.size w w':=by
  have hf1:=heavyA_few h1
  have hf2:=heavyA_few h2
  have hf3:=heavyA_few h3
  have hh:(heavyA 30 l1 || heavyA 30 l2 || heavyA 30 l3 || decide ((k:Int) < 1) || decide ((16:Int) < (k:Int))) = false:=by
    rw [h1,h2,h3,decide_eq_false (by omega:¬ ((k:Int) < 1)),decide_eq_false (by omega:¬ ((16:Int) < (k:Int)))]
    rfl
  obtain ⟨n1,e1⟩:∃ n,l1.length = n:=⟨_,rfl⟩
  obtain ⟨n2,e2⟩:∃ n,l2.length = n:=⟨_,rfl⟩
  obtain ⟨n3,e3⟩:∃ n,l3.length = n:=⟨_,rfl⟩
  have HT:=Lib.hid hT
  have HG:=Lib.hid fun (w1:World) (hb:Below w.heap.size w w1) => rheavy14_c (c1:=c1) (c2:=c2) (c3:=c3) (k:Int) (hA1.below hb (Nat.le_refl _) (Nat.le_refl _)) (hA2.below hb (Nat.le_refl _) (Nat.le_refl _)) (hA3.below hb (Nat.le_refl _) (Nat.le_refl _)) hl1 hl2 hl3 e1 e2 e3 hh
  have HK:=Lib.hid (And.intro k1 (And.intro k16 (And.intro hf1 (And.intro hf2 hf3))))
  have HW:=Lib.hid fun (w1:World) (hb:Below w.heap.size w w1) => three14_c (c1:=c1) (c2:=c2) (c3:=c3) k1 k16 (hA1.below hb (Nat.le_refl _) (Nat.le_refl _)) (hA2.below hb (Nat.le_refl _) (Nat.le_refl _)) (hA3.below hb (Nat.le_refl _) (Nat.le_refl _)) hb.size (by omega) (by omega) (by omega) e1 e2 e3
  have HS:Hid (n1 + (n1 + n2) + (n1 + n3)≤150):=Lib.hid (by omega)
  rw [e1,e2,e3]
  clear hT hA1 hA2 hA3 hl1 hl2 hl3 e1 e2 e3 hh h1 h2 h3 hf1 hf2 hf3 k1 k16
  go_enter Tryz.func7,Tryz.ntmps7
  go_wp2_with fail
  refine (awake14_c w HT.out).mono ?_
  rintro e w1 ⟨rfl,hb1⟩
  have HB:=Lib.hid hb1
  clear hb1
  go_wp2_with fail
  refine (HG.out w1 HB.out).mono ?_
  rintro e w' ⟨rfl,rfl⟩
  clear HG
  go_wp2_with fail
  refine (HW.out w1 HB.out).mono ?_
  rintro e w3 ⟨gt,gl,b0,b1,b2,t,D0,D1,D2,d0,d1,d2,rfl,h3,hb3⟩
  have HH:=Lib.hid h3
  replace HB:=Lib.hid (Below.andThen HB.out hb3)
  clear h3 hb3 HW
  obtain ⟨n0',hn0⟩:∃ n,(Tr.entsO t.o).length = n:=⟨_,rfl⟩
  obtain ⟨n1',hn1⟩:∃ n,(Tr.entsO t.a).length = n:=⟨_,rfl⟩
  obtain ⟨n2',hn2⟩:∃ n,(Tr.entsO t.b).length = n:=⟨_,rfl⟩
  have HN:=Lib.hid (And.intro hn0 (And.intro hn1 hn2))
  clear hn0 hn1 hn2
  have hcn:cnt3 t≤150:=by have a0:=HH.out.h0.few;have a1:=HH.out.h1.few;have a2:=HH.out.h2.few;have:=HS.out;unfold cnt3;omega
  obtain ⟨C,hC⟩:∃ L,Tr.ppT Tr.clG t = L:=⟨_,rfl⟩
  have hLs:C.length≤150:=by rw [← hC];exact Nat.le_trans (ppT_small HH.out.h0.tree HH.out.h1.tree HH.out.h2.tree) hcn
  obtain ⟨n,hn⟩:∃ n,C.length = n:=⟨_,rfl⟩
  obtain ⟨dO,zO⟩:=treeX_dz HH.out.h0.tree
  obtain ⟨dA,zA⟩:=treeX_dz HH.out.h1.tree
  obtain ⟨dB,zB⟩:=treeX_dz HH.out.h2.tree
  obtain ⟨X1,hX1⟩:∃ L,Tr.chL (Tr.entsO t.o) (Tr.entsO t.a) = L:=⟨_,rfl⟩
  obtain ⟨X2,hX2⟩:∃ L,Tr.chL (Tr.entsO t.o) (Tr.entsO t.b) = L:=⟨_,rfl⟩
  obtain ⟨x1,hx1⟩:∃ n,X1.length = n:=⟨_,rfl⟩
  obtain ⟨x2,hx2⟩:∃ n,X2.length = n:=⟨_,rfl⟩
  have hs1:n0' + n1' + n2'≤150:=by have h5:=hcn;unfold cnt3 at h5;rw [HN.out.1,HN.out.2.1,HN.out.2.2] at h5;exact h5
  have g1:x1≤150:=by have h5:=chL_few zO dO dA;rw [hX1,hx1,HN.out.1,HN.out.2.1] at h5;omega
  have g2:x2≤150:=by have h5:=chL_few zO dO dB;rw [hX2,hx2,HN.out.1,HN.out.2.2] at h5;omega
  have hc1:Tr.CL k X1:=by rw [← hX1];exact Tr.CL.chL zO zA dO dA
  have hc2:Tr.CL k X2:=by rw [← hX2];exact Tr.CL.chL zO zB dO dB
  obtain ⟨r,hr⟩:∃ r,(Tr.mz X1 X2).all Tr.apQ = r:=⟨_,rfl⟩
  have hap:r = true→C = []∧Tr.ppT (Tr.mgG 1) t = Tr.doL (Tr.entsO t.a) X2:=fun h => by
    have h6:(Tr.mz (Tr.chL (Tr.entsO t.o) (Tr.entsO t.a)) (Tr.chL (Tr.entsO t.o) (Tr.entsO t.b))).all Tr.apQ = true:=by rw [hX1,hX2,hr,h]
    exact ⟨hC.symm.trans (Tr.ap_cl zO zA zB dO dA dB h6),by rw [← hX2];exact Tr.ap_mg 1 zO zA zB dO dA dB h6⟩
  have HX:=Lib.hid (And.intro zO (And.intro dO (And.intro zA (And.intro dA (And.intro zB dB)))))
  have HC:=Lib.hid (And.intro hC (And.intro hn (And.intro hcn hLs)))
  have HE:=Lib.hid (And.intro hX1 (And.intro hx1 (And.intro hX2 (And.intro hx2 (And.intro g1 g2)))))
  have HL:=Lib.hid (And.intro hc1 (And.intro hc2 (And.intro hr (And.intro hap hs1))))
  clear zO dO zA dA zB dB hC hn hcn hLs hX1 hx1 hX2 hx2 g1 g2 hc1 hc2 hr hap hs1
  have f0:∀ w',Below w3.heap.size w3 w'→w'.cell? ⟨gl,0,none⟩ = some (.slice D0 n0' d0):=fun w' hb => by rw [← HN.out.1];exact (row3 (HH.out.below hb).rl).1
  have f1:∀ w',Below w3.heap.size w3 w'→w'.cell? ⟨gl,1,none⟩ = some (.slice D1 n1' d1):=fun w' hb => by rw [← HN.out.2.1];exact (row3 (HH.out.below hb).rl).2.1
  have f2:∀ w',Below w3.heap.size w3 w'→w'.cell? ⟨gl,2,none⟩ = some (.slice D2 n2' d2):=fun w' hb => by rw [← HN.out.2.2];exact (row3 (HH.out.below hb).rl).2.2
  have hb0:Below w3.heap.size w3 w3:=Below.refl _ _
  have I0:=Lib.hid fun (v:World) (hb:Below w3.heap.size w3 v) => (have h5:=HH.out.below hb;r12changes_c (c:=d0) (c':=d1) HX.out.1 HX.out.2.1 HX.out.2.2.1 HX.out.2.2.2.1 (h5.h0.list.ents h5.h0.old (Nat.le_refl _)) (h5.h1.list.ents h5.h1.old (Nat.le_refl _)) HN.out.1 HN.out.2.1 (by have h6:=h5.h0.cap;rw [HN.out.1] at h6;exact h6) HK.out.1 HK.out.2.1 (by have:=HL.out.2.2.2.2;omega) HE.out.1 HE.out.2.1)
  have I1:=Lib.hid fun (v:World) (hb:Below w3.heap.size w3 v) => (have h5:=HH.out.below hb;r12changes_c (c:=d0) (c':=d2) HX.out.1 HX.out.2.1 HX.out.2.2.2.2.1 HX.out.2.2.2.2.2 (h5.h0.list.ents h5.h0.old (Nat.le_refl _)) (h5.h2.list.ents h5.h2.old (Nat.le_refl _)) HN.out.1 HN.out.2.2 (by have h6:=h5.h0.cap;rw [HN.out.1] at h6;exact h6) HK.out.1 HK.out.2.1 (by have:=HL.out.2.2.2.2;omega) HE.out.2.2.1 HE.out.2.2.2.1)
  go_wp2_with fail
  go_region_held3 (fun w' => Below w3.heap.size w3 w') (((repeat first | refine bD ?_ | with_reducible refine bN ?_ | refine bA ?_ | refine bS ?_);first | exact bR | assumption | exact bN bR | exact bN (bN bR)))
    (first
      | (go_at_call 28;refine (I0.out _ (show Below w3.heap.size w3 _ by ((repeat first | refine bD ?_ | with_reducible refine bN ?_ | refine bA ?_ | refine bS ?_);first | exact bR | assumption | exact bN bR | exact bN (bN bR)))).mono ?_;rintro e v0 ⟨Y1,y1,rfl,hch,hv⟩;have hD0:=Below.trans (show Below w3.heap.size w3 _ by ((repeat first | refine bD ?_ | with_reducible refine bN ?_ | refine bA ?_ | refine bS ?_);first | exact bR | assumption | exact bN bR | exact bN (bN bR))) (hv.mono (Below.size (show Below w3.heap.size w3 _ by ((repeat first | refine bD ?_ | with_reducible refine bN ?_ | refine bA ?_ | refine bS ?_);first | exact bR | assumption | exact bN bR | exact bN (bN bR)))));have HF0:=Lib.hid hch;clear hch hv I0)
      | (go_at_call 28;refine (I1.out _ (show Below w3.heap.size w3 _ by ((repeat first | refine bD ?_ | with_reducible refine bN ?_ | refine bA ?_ | refine bS ?_);first | exact bR | assumption | exact bN bR | exact bN (bN bR)))).mono ?_;rintro e v1 ⟨Y2,y2,rfl,hch,hv⟩;have hD1:=Below.trans (show Below w3.heap.size w3 _ by ((repeat first | refine bD ?_ | with_reducible refine bN ?_ | refine bA ?_ | refine bS ?_);first | exact bR | assumption | exact bN bR | exact bN (bN bR))) (hv.mono (Below.size (show Below w3.heap.size w3 _ by ((repeat first | refine bD ?_ | with_reducible refine bN ?_ | refine bA ?_ | refine bS ?_);first | exact bR | assumption | exact bN bR | exact bN (bN bR)))));have HF1:=Lib.hid hch;have HF2:=Lib.hid (HF0.out.below hv);clear hch hv I1))
  replace HH:=Lib.hid (HH.out.below hD1)
  replace HB:=Lib.hid (Below.andThen HB.out hD1)
  clear f0 f1 f2 hb0 hD0 hD1 HF0
  have a0:∀ w',Below v1.heap.size v1 w'→w'.cell? ⟨gt,0,none⟩ = some (.pointer (some ⟨b0,0,none⟩)):=fun w' hb => (row3 (HH.out.below hb).rt).1
  have a1:∀ w',Below v1.heap.size v1 w'→w'.cell? ⟨gt,1,none⟩ = some (.pointer (some ⟨b1,0,none⟩)):=fun w' hb => (row3 (HH.out.below hb).rt).2.1
  have a2:∀ w',Below v1.heap.size v1 w'→w'.cell? ⟨gt,2,none⟩ = some (.pointer (some ⟨b2,0,none⟩)):=fun w' hb => (row3 (HH.out.below hb).rt).2.2
  have hb0:Below v1.heap.size v1 v1:=Below.refl _ _
  by_cases hne:C = []
  · have hnz:n = 0:=by rw [← HC.out.2.1,hne];rfl
    subst hnz
    have HNE:=Lib.hid hne
    clear hne
    have HW:=Lib.hid fun (v:World) (hb:Below v1.heap.size v1 v) => (have h5:=HH.out.below hb;mThree_c (t:=t) h5.h0.tree h5.h1.tree h5.h2.tree (fun w' hb' => HT.out.on (Below.andThen HB.out (Below.andThen hb hb'))) (HC.out.1.trans HNE.out) (by have:=HC.out.2.2.1;omega))
    go_wp2_with fail
    go_region_held3 (fun w' => Below v1.heap.size v1 w') (((repeat first | refine bD ?_ | with_reducible refine bN ?_ | refine bA ?_ | refine bS ?_);first | exact bR | assumption | exact bN bR | exact bN (bN bR)))
      ((go_at_call 22;refine (HW.out _ (show Below v1.heap.size v1 _ by ((repeat first | refine bD ?_ | with_reducible refine bN ?_ | refine bA ?_ | refine bS ?_);first | exact bR | assumption | exact bN bR | exact bN (bN bR)))).mono ?_;rintro e v2 ⟨bv,NV,rfl,hx1,hx2,hv⟩;have hbD:=Below.trans (show Below v1.heap.size v1 _ by ((repeat first | refine bD ?_ | with_reducible refine bN ?_ | refine bA ?_ | refine bS ?_);first | exact bR | assumption | exact bN bR | exact bN (bN bR))) (hv.mono (Below.size (show Below v1.heap.size v1 _ by ((repeat first | refine bD ?_ | with_reducible refine bN ?_ | refine bA ?_ | refine bS ?_);first | exact bR | assumption | exact bN bR | exact bN (bN bR)))));have HV:=Lib.hid (And.intro hx1 hx2);clear hx1 hx2;clear hv HW))
    clear a0 a1 a2 hb0
    replace HH:=Lib.hid (HH.out.below hbD)
    replace HB:=Lib.hid (Below.andThen HB.out hbD)
    replace HF1:=Lib.hid (HF1.out.below hbD)
    replace HF2:=Lib.hid (HF2.out.below hbD)
    clear hbD
    go_wp2_with fail
    refine (r13apart_c (c:=y1) (c':=y2) HF2.out.raw HF1.out.raw (Nat.le_refl _) HL.out.1 HL.out.2.1 HE.out.2.1 HE.out.2.2.2.1 (by have:=HE.out.2.2.2.2;omega) (by have:=HE.out.2.2.2.2;omega) HK.out.2.1 HL.out.2.2.1).mono ?_
    rintro e v3 ⟨rfl,hb⟩
    replace HH:=Lib.hid (HH.out.below hb)
    replace HB:=Lib.hid (Below.andThen HB.out hb)
    replace HF1:=Lib.hid (HF1.out.below hb)
    replace HV:=Lib.hid (And.intro (HV.out.1.below hb (Nat.le_refl _)) HV.out.2)
    clear hb HF2
    cases r with
    | false =>
      go_wp2_with fail
      go_ret
      exact ⟨rfl,HB.out⟩
    | true =>
      obtain ⟨z0,z1,z2⟩:=row3 HH.out.rl
      rw [HN.out.2.1] at z1
      have hDo:=Lib.hid (r13do_c (c:=d1) (c':=y2) HX.out.2.2.1 HX.out.2.2.2.1 (HH.out.h1.list.ents HH.out.h1.old (Nat.le_refl _)).entL (Nat.le_refl _) (Nat.le_refl _) HN.out.2.1 (by have:=HL.out.2.2.2.2;omega) (by have h6:=HH.out.h1.cap;rw [HN.out.2.1] at h6;exact h6) HF1.out.raw HL.out.2.1 HE.out.2.2.2.1 (by have:=HE.out.2.2.2.2;omega) HK.out.1 HK.out.2.1)
      clear z0 z2
      go_wp2_with fail
      refine hDo.out.mono ?_
      rintro e v4 ⟨E,ed,NE,rfl,hE1,hE2,hE3,hb⟩
      replace HV:=Lib.hid (And.intro (HV.out.1.below hb (Nat.le_refl _)) (HV.out.2.trans (HL.out.2.2.2.1 (by first | rfl | trivial)).2))
      replace HB:=Lib.hid (Below.andThen HB.out hb)
      have hI:=is7_c (c:=ed) HV.out.1.1 (fun w' hb => HT.out.on (Below.andThen HB.out hb)) (by rw [HV.out.2];exact hE2.ents hb.size (Nat.le_refl _)) (by rw [HV.out.2,hE1];exact hE3) (by rw [HV.out.2];have h6:=(Tr.doL_zd HX.out.2.2.1 HX.out.2.2.2.1 HL.out.2.1).2.2;rw [HN.out.2.1,HE.out.2.2.2.1] at h6;have:=HL.out.2.2.2.2;have:=HE.out.2.2.2.2;omega)
      rw [HV.out.2,hE1] at hI
      have hI:=Lib.hid hI
      clear hb hE1 hE2 hE3 hDo z1
      go_wp2_with fail
      refine hI.out.mono ?_
      rintro e v5 ⟨rfl,hb⟩
      replace HB:=Lib.hid (Below.andThen HB.out hb)
      clear hb hI
      go_wp2_with fail
      go_ret
      exact ⟨rfl,HB.out⟩
  · have HNE:Hid (1≤n):=Lib.hid (by rw [← HC.out.2.1];exact List.length_pos_iff.2 hne)
    have hn9:(n:Int)≤150:=by have h5:=HC.out.2.1;have h6:=HC.out.2.2.2;omega
    have g3:decide ((0:Int) < (n:Int)) = true:=decide_eq_true (by have:=HNE.out;omega)
    have g3':decide (0 < n) = true:=decide_eq_true (by have:=HNE.out;omega)
    clear hne
    have HW:=Lib.hid fun (v:World) (hb:Below v1.heap.size v1 v) => (have h5:=HH.out.below hb;mThree_conflict (t:=t) h5.h0.tree h5.h1.tree h5.h2.tree (fun w' hb' => HT.out.on (Below.andThen HB.out (Below.andThen hb hb'))) HC.out.1 (by have:=HC.out.2.2.2;omega) (by have:=HC.out.2.2.1;omega) HC.out.2.1 HNE.out)
    go_wp2_with fail
    go_region_held3 (fun w' => Below v1.heap.size v1 w') (((repeat first | refine bD ?_ | with_reducible refine bN ?_ | refine bA ?_ | refine bS ?_);first | exact bR | assumption | exact bN bR | exact bN (bN bR)))
      ((go_at_call 22;refine (HW.out _ (show Below v1.heap.size v1 _ by ((repeat first | refine bD ?_ | with_reducible refine bN ?_ | refine bA ?_ | refine bS ?_);first | exact bR | assumption | exact bN bR | exact bN (bN bR)))).mono ?_;rintro e v2 ⟨V,v,rfl,-,hv⟩;have hbD:=Below.trans (show Below v1.heap.size v1 _ by ((repeat first | refine bD ?_ | with_reducible refine bN ?_ | refine bA ?_ | refine bS ?_);first | exact bR | assumption | exact bN bR | exact bN (bN bR))) (hv.mono (Below.size (show Below v1.heap.size v1 _ by ((repeat first | refine bD ?_ | with_reducible refine bN ?_ | refine bA ?_ | refine bS ?_);first | exact bR | assumption | exact bN bR | exact bN (bN bR)))));clear hv HW))
    clear a0 a1 a2 hb0
    replace HH:=Lib.hid (HH.out.below hbD)
    replace HB:=Lib.hid (Below.andThen HB.out hbD)
    replace HF1:=Lib.hid (HF1.out.below hbD)
    replace HF2:=Lib.hid (HF2.out.below hbD)
    clear hbD
    go_wp2_with fail
    refine (r13apart_c (c:=y1) (c':=y2) HF2.out.raw HF1.out.raw (Nat.le_refl _) HL.out.1 HL.out.2.1 HE.out.2.1 HE.out.2.2.2.1 (by have:=HE.out.2.2.2.2;omega) (by have:=HE.out.2.2.2.2;omega) HK.out.2.1 HL.out.2.2.1).mono ?_
    rintro e v3 ⟨rfl,hb⟩
    replace HH:=Lib.hid (HH.out.below hb)
    replace HB:=Lib.hid (Below.andThen HB.out hb)
    replace HF1:=Lib.hid (HF1.out.below hb)
    clear hb HF2
    cases r with
    | true => exact absurd ((HL.out.2.2.2.1 (by first | rfl | trivial)).1) (fun e => by have h5:=HNE.out;rw [← HC.out.2.1,e] at h5;simp at h5)
    | false =>
      go_wp2_with fail
      go_ret
      exact ⟨rfl,HB.out⟩
theorem mergeEdits_c {w:World} {A1 A2 A3:Option Addr} {c1 c2 c3:Nat} {l1 l2 l3:List ActT} (k:Int) (hT:Tz w) (hA1:ActsT w w.heap.size A1 l1) (hl1:l1.length≤maxLen) (hA2:ActsT w w.heap.size A2 l2) (hl2:l2.length≤maxLen) (hA3:ActsT w w.heap.size A3 l3) (hl3:l3.length≤maxLen) :
    Calls Tryz.prog 7 #[.int .i64 k,.slice A1 l1.length c1,.slice A2 l2.length c2,.slice A3 l3.length c3] w fun e w' => e = .returned (.bool true)∧Below w.heap.size w w':=by
  by_cases h:(heavyA 30 l1 || heavyA 30 l2 || heavyA 30 l3 || decide (k < 1) || decide (16 < k)) = true
  · exact mergeEdits_skip k hT hA1 hl1 hA2 hl2 hA3 hl3 h
  · simp only [Bool.or_eq_true,decide_eq_true_eq,not_or,Bool.not_eq_true] at h
    obtain ⟨⟨⟨⟨h1,h2⟩,h3⟩,h4⟩,h5⟩:=h
    obtain ⟨a,rfl⟩:∃ a:Nat,k = (a:Int):=⟨k.toNat,by omega⟩
    exact mergeEdits_go hT hA1 hl1 hA2 hl2 hA3 hl3 h1 h2 h3 (by omega) (by omega)
end Go.Proofs.YtmkejbfgdmbejaaGreatDoor
