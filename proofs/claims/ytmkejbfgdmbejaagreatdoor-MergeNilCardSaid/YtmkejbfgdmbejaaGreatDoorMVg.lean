import Derived.Test.YtmkejbfgdmbejaaGreatDoorMVf
import Derived.Test.YtmkejbfgdmbejaaGreatDoorMVe
namespace Go.Proofs.YtmkejbfgdmbejaaGreatDoor
open Go.ChangeShapes Go.WideShapes Go.ChangeAt Go.RowKit
open Tr (T S4 Ent Tri KL)
theorem ppT_small {k:Nat} {t:Tri} {X:Type} {g:Tr.Pt X} {w:World} {b0 b1 b2:Nat} (h0:TreeX w b0 k t.o) (h1:TreeX w b1 k t.a) (h2:TreeX w b2 k t.b):(Tr.ppT g t).length≤cnt3 t:=by
  obtain ⟨d0,z0⟩:=treeX_dz h0
  obtain ⟨d1,-⟩:=treeX_dz h1
  obtain ⟨d2,-⟩:=treeX_dz h2
  exact Tr.ppL_len z0 d0 d1 d2
set_option maxRecDepth 1000000 in
set_option maxHeartbeats 8000000 in
theorem is14_cr {w:World} {C k gt gl b0 b1 b2:Nat} {t:Tri} {D0 D1 D2:Option Addr} {d0 d1 d2 M0 M1 M2 ct cl:Nat} (h:T14 w C k gt gl b0 b1 b2 t D0 D1 D2 d0 d1 d2 M0 M1 M2) (hT:∀ w',Below w.heap.size w w'→Tz w') (k1:1≤k) (k16:k≤16) (hM:M0 + M1 + M2≤1000) (r:Int) (hr1:1≤r) (hr5:r≤5) (hne:1≤(Tr.ppT Tr.clG t).length) :
    Calls Tryz.prog 21 #[.int .i64 (k:Int),.slice (some ⟨gt,0,none⟩) 3 ct,.slice (some ⟨gl,0,none⟩) 3 cl,.int .i64 r] w fun e w' => e = .returned (.bool true)∧Below w.heap.size w w':=by
  have hcn:cnt3 t≤1000:=by have a0:=h.h0.few;have a1:=h.h1.few;have a2:=h.h2.few;unfold cnt3;omega
  obtain ⟨n0,hn0⟩:∃ n,(Tr.entsO t.o).length = n:=⟨_,rfl⟩
  obtain ⟨n1,hn1⟩:∃ n,(Tr.entsO t.a).length = n:=⟨_,rfl⟩
  obtain ⟨n2,hn2⟩:∃ n,(Tr.entsO t.b).length = n:=⟨_,rfl⟩
  obtain ⟨L,hL⟩:∃ L,Tr.ppT Tr.clG t = L:=⟨_,rfl⟩
  obtain ⟨M,hMr⟩:∃ M,Tr.ppT (Tr.mgG r) t = M:=⟨_,rfl⟩
  have hLs:L.length≤1000:=by rw [← hL];exact Nat.le_trans (ppT_small h.h0.tree h.h1.tree h.h2.tree) hcn
  have hMs:M.length≤1000:=by rw [← hMr];exact Nat.le_trans (ppT_small h.h0.tree h.h1.tree h.h2.tree) hcn
  obtain ⟨n,hn⟩:∃ n,L.length = n:=⟨_,rfl⟩
  obtain ⟨m,hm⟩:∃ m,M.length = m:=⟨_,rfl⟩
  rw [hL] at hne
  have hn1':1≤n:=by rw [← hn];exact hne
  have g1:decide ((0:Int) < (n:Int)) = true:=decide_eq_true (by omega)
  have g1':decide (0 < n) = true:=decide_eq_true (by omega)
  have g2:((n:Int) != (n:Int)) = false:=by simp
  have hn9:(n:Int)≤1000:=by omega
  have r1:decide (r < 1) = false:=decide_eq_false (by omega)
  have r5:decide (5 < r) = false:=decide_eq_false (by omega)
  have HH:=Lib.hid h
  have HTz:=Lib.hid hT
  have HK:=Lib.hid (And.intro k1 (And.intro k16 (And.intro hM hcn)))
  have HN:=Lib.hid (And.intro hn0 (And.intro hn1 hn2))
  have HL:=Lib.hid (And.intro hL (And.intro hn (And.intro hLs hne)))
  have HM:=Lib.hid (And.intro hMr (And.intro hm hMs))
  replace HB0:=Lib.hid (Below.refl w.heap.size w)
  have HR:=Lib.hid (And.intro hr1 hr5)
  clear h hT k1 k16 hM hcn hn0 hn1 hn2 hL hn hLs hne hMr hm hMs hn1' hr1 hr5
  go_enter Tryz.func21,Tryz.ntmps21
  have a0:∀ w',Below w.heap.size w w'→w'.cell? ⟨gt,0,none⟩ = some (.pointer (some ⟨b0,0,none⟩)):=fun w' hb => (row3 (HH.out.below hb).rt).1
  have a1:∀ w',Below w.heap.size w w'→w'.cell? ⟨gt,1,none⟩ = some (.pointer (some ⟨b1,0,none⟩)):=fun w' hb => (row3 (HH.out.below hb).rt).2.1
  have a2:∀ w',Below w.heap.size w w'→w'.cell? ⟨gt,2,none⟩ = some (.pointer (some ⟨b2,0,none⟩)):=fun w' hb => (row3 (HH.out.below hb).rt).2.2
  have hb0:Below w.heap.size w w:=Below.refl _ _
  have HC:=Lib.hid fun (w4:World) (hb:Below w.heap.size w w4) => mThree_conflict (HH.out.below hb).h0.tree (HH.out.below hb).h1.tree (HH.out.below hb).h2.tree (fun w' hb' => HTz.out w' (Below.andThen HB0.out (Below.andThen hb hb'))) HL.out.1 (by have:=HL.out.2.2.1;omega) (by have:=HK.out.2.2.2;omega) HL.out.2.1 (by have h1:=HL.out.2.2.2;rw [HL.out.2.1] at h1;exact h1)
  go_wp2_with fail
  go_region_held3 (fun w' => Below w.heap.size w w') (((repeat first | refine bD ?_ | with_reducible refine bN ?_ | refine bA ?_ | refine bS ?_);first | exact bR | assumption | exact bN bR | exact bN (bN bR)))
    ((go_at_call 22;refine (HC.out _ (by ((repeat first | refine bD ?_ | with_reducible refine bN ?_ | refine bA ?_ | refine bS ?_);first | exact bR | assumption | exact bN bR | exact bN (bN bR)))).mono ?_;rintro e w1 ⟨X,x,rfl,hnew,hb2⟩;have hbD:=Below.trans (show Below w.heap.size w _ by ((repeat first | refine bD ?_ | with_reducible refine bN ?_ | refine bA ?_ | refine bS ?_);first | exact bR | assumption | exact bN bR | exact bN (bN bR))) (hb2.mono (Below.size (show Below w.heap.size w _ by ((repeat first | refine bD ?_ | with_reducible refine bN ?_ | refine bA ?_ | refine bS ?_);first | exact bR | assumption | exact bN bR | exact bN (bN bR)))));have HC1:=Lib.hid hnew.cks;clear hnew;clear hb2 HC))
  clear a0 a1 a2 hb0
  replace HB0:=Lib.hid (Below.andThen HB0.out hbD)
  replace HH:=Lib.hid (HH.out.below hbD)
  clear hbD
  have a0:∀ w',Below w1.heap.size w1 w'→w'.cell? ⟨gt,0,none⟩ = some (.pointer (some ⟨b0,0,none⟩)):=fun w' hb => (row3 (HH.out.below hb).rt).1
  have a1:∀ w',Below w1.heap.size w1 w'→w'.cell? ⟨gt,1,none⟩ = some (.pointer (some ⟨b1,0,none⟩)):=fun w' hb => (row3 (HH.out.below hb).rt).2.1
  have a2:∀ w',Below w1.heap.size w1 w'→w'.cell? ⟨gt,2,none⟩ = some (.pointer (some ⟨b2,0,none⟩)):=fun w' hb => (row3 (HH.out.below hb).rt).2.2
  have hb0:Below w1.heap.size w1 w1:=Below.refl _ _
  have HC:=Lib.hid fun (w4:World) (hb:Below w1.heap.size w1 w4) => mClashes_c (HH.out.below hb).h0.tree (HH.out.below hb).h1.tree (HH.out.below hb).h2.tree (fun w' hb' => HTz.out w' (Below.andThen HB0.out (Below.andThen hb hb'))) HL.out.1 (by have:=HL.out.2.2.1;omega) (by have:=HK.out.2.2.2;omega) HL.out.2.1
  go_wp2_with fail
  go_region_held3 (fun w' => Below w1.heap.size w1 w') (((repeat first | refine bD ?_ | with_reducible refine bN ?_ | refine bA ?_ | refine bS ?_);first | exact bR | assumption | exact bN bR | exact bN (bN bR)))
    ((go_at_call 23;refine (HC.out _ (by ((repeat first | refine bD ?_ | with_reducible refine bN ?_ | refine bA ?_ | refine bS ?_);first | exact bR | assumption | exact bN bR | exact bN (bN bR)))).mono ?_;rintro e w2 ⟨Y,y,rfl,hnew,hb2⟩;have hbD:=Below.trans (show Below w1.heap.size w1 _ by ((repeat first | refine bD ?_ | with_reducible refine bN ?_ | refine bA ?_ | refine bS ?_);first | exact bR | assumption | exact bN bR | exact bN (bN bR))) (hb2.mono (Below.size (show Below w1.heap.size w1 _ by ((repeat first | refine bD ?_ | with_reducible refine bN ?_ | refine bA ?_ | refine bS ?_);first | exact bR | assumption | exact bN bR | exact bN (bN bR)))));have HC2:=Lib.hid hnew.cks;clear hnew;clear hb2 HC))
  clear a0 a1 a2 hb0
  replace HB0:=Lib.hid (Below.andThen HB0.out hbD)
  replace HH:=Lib.hid (HH.out.below hbD)
  replace HC1:=Lib.hid (HC1.out.below hbD)
  clear hbD
  have a0:∀ w',Below w2.heap.size w2 w'→w'.cell? ⟨gt,0,none⟩ = some (.pointer (some ⟨b0,0,none⟩)):=fun w' hb => (row3 (HH.out.below hb).rt).1
  have a1:∀ w',Below w2.heap.size w2 w'→w'.cell? ⟨gt,1,none⟩ = some (.pointer (some ⟨b1,0,none⟩)):=fun w' hb => (row3 (HH.out.below hb).rt).2.1
  have a2:∀ w',Below w2.heap.size w2 w'→w'.cell? ⟨gt,2,none⟩ = some (.pointer (some ⟨b2,0,none⟩)):=fun w' hb => (row3 (HH.out.below hb).rt).2.2
  have hb0:Below w2.heap.size w2 w2:=Below.refl _ _
  have HC:=Lib.hid fun (w4:World) (hb:Below w2.heap.size w2 w4) => mByT_c (r:=r) (HH.out.below hb).h0.tree (HH.out.below hb).h1.tree (HH.out.below hb).h2.tree HR.out.1 HR.out.2 (fun w' hb' => HTz.out w' (Below.andThen HB0.out (Below.andThen hb hb'))) HL.out.1 (by have:=HL.out.2.2.1;omega) (by have:=HK.out.2.2.2;omega) HL.out.2.1
  go_wp2_with fail
  go_region_held3 (fun w' => Below w2.heap.size w2 w') (((repeat first | refine bD ?_ | with_reducible refine bN ?_ | refine bA ?_ | refine bS ?_);first | exact bR | assumption | exact bN bR | exact bN (bN bR)))
    ((go_at_call 24;refine (HC.out _ (by ((repeat first | refine bD ?_ | with_reducible refine bN ?_ | refine bA ?_ | refine bS ?_);first | exact bR | assumption | exact bN bR | exact bN (bN bR)))).mono ?_;rintro e w3 ⟨bv,N2,rfl,hx1,hx2,hb2⟩;have hbD:=Below.trans (show Below w2.heap.size w2 _ by ((repeat first | refine bD ?_ | with_reducible refine bN ?_ | refine bA ?_ | refine bS ?_);first | exact bR | assumption | exact bN bR | exact bN (bN bR))) (hb2.mono (Below.size (show Below w2.heap.size w2 _ by ((repeat first | refine bD ?_ | with_reducible refine bN ?_ | refine bA ?_ | refine bS ?_);first | exact bR | assumption | exact bN bR | exact bN (bN bR)))));have HX2:=Lib.hid (And.intro hx1 hx2);clear hx1 hx2;clear hb2 HC))
  clear a0 a1 a2 hb0
  replace HB0:=Lib.hid (Below.andThen HB0.out hbD)
  replace HH:=Lib.hid (HH.out.below hbD)
  replace HC1:=Lib.hid (HC1.out.below hbD)
  replace HC2:=Lib.hid (HC2.out.below hbD)
  clear hbD
  have a0:∀ w',Below w3.heap.size w3 w'→w'.cell? ⟨gl,0,none⟩ = some (.slice D0 n0 d0):=fun w' hb => by rw [← HN.out.1];exact (row3 (HH.out.below hb).rl).1
  have a1:∀ w',Below w3.heap.size w3 w'→w'.cell? ⟨gl,1,none⟩ = some (.slice D1 n1 d1):=fun w' hb => by rw [← HN.out.2.1];exact (row3 (HH.out.below hb).rl).2.1
  have a2:∀ w',Below w3.heap.size w3 w'→w'.cell? ⟨gl,2,none⟩ = some (.slice D2 n2 d2):=fun w' hb => by rw [← HN.out.2.2];exact (row3 (HH.out.below hb).rl).2.2
  have hb0:Below w3.heap.size w3 w3:=Below.refl _ _
  have HC:=Lib.hid fun (w4:World) (hb:Below w3.heap.size w3 w4) => (have h4:=HH.out.below hb;r14by_c (cx:=d0) (cy:=d1) (cz:=d2) (treeX_dz h4.h0.tree).2 (treeX_dz h4.h0.tree).1 (treeX_dz h4.h1.tree).2 (treeX_dz h4.h1.tree).1 (treeX_dz h4.h2.tree).2 (treeX_dz h4.h2.tree).1 (h4.h0.list.ents h4.h0.old (Nat.le_refl _)) (h4.h1.list.ents h4.h1.old (Nat.le_refl _)) (h4.h2.list.ents h4.h2.old (Nat.le_refl _)) HN.out.1 HN.out.2.1 HN.out.2.2 (by have h5:=h4.h0.cap;rw [HN.out.1] at h5;exact h5) HK.out.1 HK.out.2.1 (by have h5:=HK.out.2.2.2;unfold cnt3 at h5;rw [HN.out.1,HN.out.2.1,HN.out.2.2] at h5;omega) r HM.out.1 HL.out.1 HM.out.2.1 HL.out.2.1)
  go_wp2_with fail
  go_region_held3 (fun w' => Below w3.heap.size w3 w') (((repeat first | refine bD ?_ | with_reducible refine bN ?_ | refine bA ?_ | refine bS ?_);first | exact bR | assumption | exact bN bR | exact bN (bN bR)))
    ((go_at_call 52;refine (HC.out _ (by ((repeat first | refine bD ?_ | with_reducible refine bN ?_ | refine bA ?_ | refine bS ?_);first | exact bR | assumption | exact bN bR | exact bN (bN bR)))).mono ?_;rintro e w4 ⟨F,f,V,v,rfl,hen,hcap,hck,hb2⟩;have hbD:=Below.trans (show Below w3.heap.size w3 _ by ((repeat first | refine bD ?_ | with_reducible refine bN ?_ | refine bA ?_ | refine bS ?_);first | exact bR | assumption | exact bN bR | exact bN (bN bR))) (hb2.mono (Below.size (show Below w3.heap.size w3 _ by ((repeat first | refine bD ?_ | with_reducible refine bN ?_ | refine bA ?_ | refine bS ?_);first | exact bR | assumption | exact bN bR | exact bN (bN bR)))));have HE:=Lib.hid (And.intro hen (And.intro hcap hck));clear hen hcap hck;clear hb2 HC))
  clear a0 a1 a2 hb0
  replace HB0:=Lib.hid (Below.andThen HB0.out hbD)
  replace HH:=Lib.hid (HH.out.below hbD)
  replace HC1:=Lib.hid (HC1.out.below hbD)
  replace HC2:=Lib.hid (HC2.out.below hbD)
  replace HX2:=Lib.hid (And.intro (HX2.out.1.below hbD (Nat.le_refl _)) HX2.out.2)
  clear hbD
  go_wp2_with fail
  refine (r14same_c (c:=y) (c':=v) HC2.out HE.out.2.2 HL.out.2.1 (by have:=HL.out.2.2.1;have:=HL.out.2.1;omega)).mono ?_
  rintro e w5 ⟨rfl,hb5⟩
  replace HB0:=Lib.hid (Below.andThen HB0.out hb5)
  replace HX2:=Lib.hid (And.intro (HX2.out.1.below hb5 (Nat.le_refl _)) HX2.out.2)
  have HE1:=Lib.hid (HE.out.1.below hb5 (Nat.le_refl _) hb5.size)
  replace HC1:=Lib.hid (HC1.out.below hb5)
  have HC3:=Lib.hid (HE.out.2.2.below hb5)
  clear hb5
  go_wp2_with fail
  have hI:=is7_c (c:=f) HX2.out.1.1 (fun w' hb => HTz.out w' (Below.andThen HB0.out hb)) (by rw [HX2.out.2,HM.out.1];exact HE1.out) (by rw [HX2.out.2,HM.out.1,HM.out.2.1];exact HE.out.2.1) (by rw [HX2.out.2,HM.out.1];have:=HM.out.2.2;omega)
  rw [HX2.out.2,HM.out.1,HM.out.2.1] at hI
  refine hI.mono ?_
  clear hI
  rintro e w6 ⟨rfl,hb6⟩
  replace HB0:=Lib.hid (Below.andThen HB0.out hb6)
  replace HC1:=Lib.hid (HC1.out.below hb6)
  replace HC3:=Lib.hid (HC3.out.below hb6)
  clear hb6
  go_wp2_with fail
  refine (r14same_c (c:=x) (c':=v) HC1.out HC3.out HL.out.2.1 (by have:=HL.out.2.2.1;have:=HL.out.2.1;omega)).mono ?_
  rintro e w7 ⟨rfl,hb7⟩
  replace HB0:=Lib.hid (Below.andThen HB0.out hb7)
  clear hb7
  go_wp2_with fail
  go_ret
  exact ⟨rfl,HB0.out⟩
set_option maxRecDepth 1000000 in
set_option maxHeartbeats 8000000 in
theorem is14_cx {w:World} {C k gt gl b0 b1 b2:Nat} {t:Tri} {D0 D1 D2:Option Addr} {d0 d1 d2 M0 M1 M2 ct cl:Nat} (h:T14 w C k gt gl b0 b1 b2 t D0 D1 D2 d0 d1 d2 M0 M1 M2) (hT:∀ w',Below w.heap.size w w'→Tz w') (k1:1≤k) (k16:k≤16) (hM:M0 + M1 + M2≤1000) (r:Int) (hr:r < 1∨5 < r) (hne:1≤(Tr.ppT Tr.clG t).length) :
    Calls Tryz.prog 21 #[.int .i64 (k:Int),.slice (some ⟨gt,0,none⟩) 3 ct,.slice (some ⟨gl,0,none⟩) 3 cl,.int .i64 r] w fun e w' => e = .returned (.bool true)∧Below w.heap.size w w':=by
  have hcn:cnt3 t≤1000:=by have a0:=h.h0.few;have a1:=h.h1.few;have a2:=h.h2.few;unfold cnt3;omega
  obtain ⟨n0,hn0⟩:∃ n,(Tr.entsO t.o).length = n:=⟨_,rfl⟩
  obtain ⟨n1,hn1⟩:∃ n,(Tr.entsO t.a).length = n:=⟨_,rfl⟩
  obtain ⟨n2,hn2⟩:∃ n,(Tr.entsO t.b).length = n:=⟨_,rfl⟩
  obtain ⟨L,hL⟩:∃ L,Tr.ppT Tr.clG t = L:=⟨_,rfl⟩
  obtain ⟨M,hMr⟩:∃ M,Tr.ppT (Tr.mgG r) t = M:=⟨_,rfl⟩
  have hLs:L.length≤1000:=by rw [← hL];exact Nat.le_trans (ppT_small h.h0.tree h.h1.tree h.h2.tree) hcn
  have hMs:M.length≤1000:=by rw [← hMr];exact Nat.le_trans (ppT_small h.h0.tree h.h1.tree h.h2.tree) hcn
  obtain ⟨n,hn⟩:∃ n,L.length = n:=⟨_,rfl⟩
  obtain ⟨m,hm⟩:∃ m,M.length = m:=⟨_,rfl⟩
  rw [hL] at hne
  have hn1':1≤n:=by rw [← hn];exact hne
  have g1:decide ((0:Int) < (n:Int)) = true:=decide_eq_true (by omega)
  have g1':decide (0 < n) = true:=decide_eq_true (by omega)
  have g2:((n:Int) != (n:Int)) = false:=by simp
  have hn9:(n:Int)≤1000:=by omega
  obtain ⟨rb,hrb⟩:∃ b,decide (r < 1) = b:=⟨_,rfl⟩
  obtain ⟨rc,hrc⟩:∃ b,decide (5 < r) = b:=⟨_,rfl⟩
  have hor:(rb || rc) = true:=by rw [← hrb,← hrc];simpa using hr
  have HO:=Lib.hid hor
  have HH:=Lib.hid h
  have HTz:=Lib.hid hT
  have HK:=Lib.hid (And.intro k1 (And.intro k16 (And.intro hM hcn)))
  have HN:=Lib.hid (And.intro hn0 (And.intro hn1 hn2))
  have HL:=Lib.hid (And.intro hL (And.intro hn (And.intro hLs hne)))
  have HM:=Lib.hid (And.intro hMr (And.intro hm hMs))
  replace HB0:=Lib.hid (Below.refl w.heap.size w)
  have HR:=Lib.hid hr
  clear h hT k1 k16 hM hcn hn0 hn1 hn2 hL hn hLs hne hMr hm hMs hn1' hr hor
  go_enter Tryz.func21,Tryz.ntmps21
  have a0:∀ w',Below w.heap.size w w'→w'.cell? ⟨gt,0,none⟩ = some (.pointer (some ⟨b0,0,none⟩)):=fun w' hb => (row3 (HH.out.below hb).rt).1
  have a1:∀ w',Below w.heap.size w w'→w'.cell? ⟨gt,1,none⟩ = some (.pointer (some ⟨b1,0,none⟩)):=fun w' hb => (row3 (HH.out.below hb).rt).2.1
  have a2:∀ w',Below w.heap.size w w'→w'.cell? ⟨gt,2,none⟩ = some (.pointer (some ⟨b2,0,none⟩)):=fun w' hb => (row3 (HH.out.below hb).rt).2.2
  have hb0:Below w.heap.size w w:=Below.refl _ _
  have HC:=Lib.hid fun (w4:World) (hb:Below w.heap.size w w4) => mThree_conflict (HH.out.below hb).h0.tree (HH.out.below hb).h1.tree (HH.out.below hb).h2.tree (fun w' hb' => HTz.out w' (Below.andThen HB0.out (Below.andThen hb hb'))) HL.out.1 (by have:=HL.out.2.2.1;omega) (by have:=HK.out.2.2.2;omega) HL.out.2.1 (by have h1:=HL.out.2.2.2;rw [HL.out.2.1] at h1;exact h1)
  go_wp2_with fail
  go_region_held3 (fun w' => Below w.heap.size w w') (((repeat first | refine bD ?_ | with_reducible refine bN ?_ | refine bA ?_ | refine bS ?_);first | exact bR | assumption | exact bN bR | exact bN (bN bR)))
    ((go_at_call 22;refine (HC.out _ (by ((repeat first | refine bD ?_ | with_reducible refine bN ?_ | refine bA ?_ | refine bS ?_);first | exact bR | assumption | exact bN bR | exact bN (bN bR)))).mono ?_;rintro e w1 ⟨X,x,rfl,hnew,hb2⟩;have hbD:=Below.trans (show Below w.heap.size w _ by ((repeat first | refine bD ?_ | with_reducible refine bN ?_ | refine bA ?_ | refine bS ?_);first | exact bR | assumption | exact bN bR | exact bN (bN bR))) (hb2.mono (Below.size (show Below w.heap.size w _ by ((repeat first | refine bD ?_ | with_reducible refine bN ?_ | refine bA ?_ | refine bS ?_);first | exact bR | assumption | exact bN bR | exact bN (bN bR)))));have HC1:=Lib.hid hnew.cks;clear hnew;clear hb2 HC))
  clear a0 a1 a2 hb0
  replace HB0:=Lib.hid (Below.andThen HB0.out hbD)
  replace HH:=Lib.hid (HH.out.below hbD)
  clear hbD
  have a0:∀ w',Below w1.heap.size w1 w'→w'.cell? ⟨gt,0,none⟩ = some (.pointer (some ⟨b0,0,none⟩)):=fun w' hb => (row3 (HH.out.below hb).rt).1
  have a1:∀ w',Below w1.heap.size w1 w'→w'.cell? ⟨gt,1,none⟩ = some (.pointer (some ⟨b1,0,none⟩)):=fun w' hb => (row3 (HH.out.below hb).rt).2.1
  have a2:∀ w',Below w1.heap.size w1 w'→w'.cell? ⟨gt,2,none⟩ = some (.pointer (some ⟨b2,0,none⟩)):=fun w' hb => (row3 (HH.out.below hb).rt).2.2
  have hb0:Below w1.heap.size w1 w1:=Below.refl _ _
  have HC:=Lib.hid fun (w4:World) (hb:Below w1.heap.size w1 w4) => mClashes_c (HH.out.below hb).h0.tree (HH.out.below hb).h1.tree (HH.out.below hb).h2.tree (fun w' hb' => HTz.out w' (Below.andThen HB0.out (Below.andThen hb hb'))) HL.out.1 (by have:=HL.out.2.2.1;omega) (by have:=HK.out.2.2.2;omega) HL.out.2.1
  go_wp2_with fail
  go_region_held3 (fun w' => Below w1.heap.size w1 w') (((repeat first | refine bD ?_ | with_reducible refine bN ?_ | refine bA ?_ | refine bS ?_);first | exact bR | assumption | exact bN bR | exact bN (bN bR)))
    ((go_at_call 23;refine (HC.out _ (by ((repeat first | refine bD ?_ | with_reducible refine bN ?_ | refine bA ?_ | refine bS ?_);first | exact bR | assumption | exact bN bR | exact bN (bN bR)))).mono ?_;rintro e w2 ⟨Y,y,rfl,hnew,hb2⟩;have hbD:=Below.trans (show Below w1.heap.size w1 _ by ((repeat first | refine bD ?_ | with_reducible refine bN ?_ | refine bA ?_ | refine bS ?_);first | exact bR | assumption | exact bN bR | exact bN (bN bR))) (hb2.mono (Below.size (show Below w1.heap.size w1 _ by ((repeat first | refine bD ?_ | with_reducible refine bN ?_ | refine bA ?_ | refine bS ?_);first | exact bR | assumption | exact bN bR | exact bN (bN bR)))));have HC2:=Lib.hid hnew.cks;clear hnew;clear hb2 HC))
  clear a0 a1 a2 hb0
  replace HB0:=Lib.hid (Below.andThen HB0.out hbD)
  replace HH:=Lib.hid (HH.out.below hbD)
  replace HC1:=Lib.hid (HC1.out.below hbD)
  clear hbD
  have a0:∀ w',Below w2.heap.size w2 w'→w'.cell? ⟨gt,0,none⟩ = some (.pointer (some ⟨b0,0,none⟩)):=fun w' hb => (row3 (HH.out.below hb).rt).1
  have a1:∀ w',Below w2.heap.size w2 w'→w'.cell? ⟨gt,1,none⟩ = some (.pointer (some ⟨b1,0,none⟩)):=fun w' hb => (row3 (HH.out.below hb).rt).2.1
  have a2:∀ w',Below w2.heap.size w2 w'→w'.cell? ⟨gt,2,none⟩ = some (.pointer (some ⟨b2,0,none⟩)):=fun w' hb => (row3 (HH.out.below hb).rt).2.2
  have hb0:Below w2.heap.size w2 w2:=Below.refl _ _
  have HC:=Lib.hid fun (w4:World) (hb:Below w2.heap.size w2 w4) => mBy_kind r (HH.out.below hb).h0.tree (HH.out.below hb).h1.tree (HH.out.below hb).h2.tree HR.out
  go_wp2_with fail
  go_region_held3 (fun w' => Below w2.heap.size w2 w') (((repeat first | refine bD ?_ | with_reducible refine bN ?_ | refine bA ?_ | refine bS ?_);first | exact bR | assumption | exact bN bR | exact bN (bN bR)))
    ((go_at_call 24;refine (HC.out _ (by ((repeat first | refine bD ?_ | with_reducible refine bN ?_ | refine bA ?_ | refine bS ?_);first | exact bR | assumption | exact bN bR | exact bN (bN bR)))).mono ?_;rintro e w3 ⟨rfl,hb2⟩;have hbD:=Below.trans (show Below w2.heap.size w2 _ by ((repeat first | refine bD ?_ | with_reducible refine bN ?_ | refine bA ?_ | refine bS ?_);first | exact bR | assumption | exact bN bR | exact bN (bN bR))) (hb2.mono (Below.size (show Below w2.heap.size w2 _ by ((repeat first | refine bD ?_ | with_reducible refine bN ?_ | refine bA ?_ | refine bS ?_);first | exact bR | assumption | exact bN bR | exact bN (bN bR)))));clear hb2 HC))
  clear a0 a1 a2 hb0
  replace HB0:=Lib.hid (Below.andThen HB0.out hbD)
  replace HH:=Lib.hid (HH.out.below hbD)
  replace HC1:=Lib.hid (HC1.out.below hbD)
  replace HC2:=Lib.hid (HC2.out.below hbD)
  clear hbD
  have a0:∀ w',Below w3.heap.size w3 w'→w'.cell? ⟨gl,0,none⟩ = some (.slice D0 n0 d0):=fun w' hb => by rw [← HN.out.1];exact (row3 (HH.out.below hb).rl).1
  have a1:∀ w',Below w3.heap.size w3 w'→w'.cell? ⟨gl,1,none⟩ = some (.slice D1 n1 d1):=fun w' hb => by rw [← HN.out.2.1];exact (row3 (HH.out.below hb).rl).2.1
  have a2:∀ w',Below w3.heap.size w3 w'→w'.cell? ⟨gl,2,none⟩ = some (.slice D2 n2 d2):=fun w' hb => by rw [← HN.out.2.2];exact (row3 (HH.out.below hb).rl).2.2
  have hb0:Below w3.heap.size w3 w3:=Below.refl _ _
  have HC:=Lib.hid fun (w4:World) (hb:Below w3.heap.size w3 w4) => (have h4:=HH.out.below hb;r14by_c (cx:=d0) (cy:=d1) (cz:=d2) (treeX_dz h4.h0.tree).2 (treeX_dz h4.h0.tree).1 (treeX_dz h4.h1.tree).2 (treeX_dz h4.h1.tree).1 (treeX_dz h4.h2.tree).2 (treeX_dz h4.h2.tree).1 (h4.h0.list.ents h4.h0.old (Nat.le_refl _)) (h4.h1.list.ents h4.h1.old (Nat.le_refl _)) (h4.h2.list.ents h4.h2.old (Nat.le_refl _)) HN.out.1 HN.out.2.1 HN.out.2.2 (by have h5:=h4.h0.cap;rw [HN.out.1] at h5;exact h5) HK.out.1 HK.out.2.1 (by have h5:=HK.out.2.2.2;unfold cnt3 at h5;rw [HN.out.1,HN.out.2.1,HN.out.2.2] at h5;omega) r HM.out.1 HL.out.1 HM.out.2.1 HL.out.2.1)
  go_wp2_with fail
  go_region_held3 (fun w' => Below w3.heap.size w3 w') (((repeat first | refine bD ?_ | with_reducible refine bN ?_ | refine bA ?_ | refine bS ?_);first | exact bR | assumption | exact bN bR | exact bN (bN bR)))
    ((go_at_call 52;refine (HC.out _ (by ((repeat first | refine bD ?_ | with_reducible refine bN ?_ | refine bA ?_ | refine bS ?_);first | exact bR | assumption | exact bN bR | exact bN (bN bR)))).mono ?_;rintro e w4 ⟨F,f,V,v,rfl,hen,hcap,hck,hb2⟩;have hbD:=Below.trans (show Below w3.heap.size w3 _ by ((repeat first | refine bD ?_ | with_reducible refine bN ?_ | refine bA ?_ | refine bS ?_);first | exact bR | assumption | exact bN bR | exact bN (bN bR))) (hb2.mono (Below.size (show Below w3.heap.size w3 _ by ((repeat first | refine bD ?_ | with_reducible refine bN ?_ | refine bA ?_ | refine bS ?_);first | exact bR | assumption | exact bN bR | exact bN (bN bR)))));have HE:=Lib.hid (And.intro hen (And.intro hcap hck));clear hen hcap hck;clear hb2 HC))
  clear a0 a1 a2 hb0
  replace HB0:=Lib.hid (Below.andThen HB0.out hbD)
  replace HH:=Lib.hid (HH.out.below hbD)
  replace HC1:=Lib.hid (HC1.out.below hbD)
  replace HC2:=Lib.hid (HC2.out.below hbD)
  clear hbD
  go_wp2_with fail
  refine (r14same_c (c:=y) (c':=v) HC2.out HE.out.2.2 HL.out.2.1 (by have:=HL.out.2.2.1;have:=HL.out.2.1;omega)).mono ?_
  rintro e w5 ⟨rfl,hb5⟩
  replace HB0:=Lib.hid (Below.andThen HB0.out hb5)
  cases rb with
  | true =>
    replace HC1:=Lib.hid (HC1.out.below hb5)
    have HC3:=Lib.hid (HE.out.2.2.below hb5)
    clear hb5
    go_wp2_with fail
    refine (r14same_c (c:=x) (c':=v) HC1.out HC3.out HL.out.2.1 (by have:=HL.out.2.2.1;have:=HL.out.2.1;omega)).mono ?_
    rintro e w6 ⟨rfl,hb6⟩
    replace HB0:=Lib.hid (Below.andThen HB0.out hb6)
    clear hb6
    go_wp2_with fail
    go_ret
    exact ⟨rfl,HB0.out⟩
  | false =>
    cases rc with
    | false => exact absurd HO.out (by simp)
    | true =>
      replace HC1:=Lib.hid (HC1.out.below hb5)
      have HC3:=Lib.hid (HE.out.2.2.below hb5)
      clear hb5
      go_wp2_with fail
      refine (r14same_c (c:=x) (c':=v) HC1.out HC3.out HL.out.2.1 (by have:=HL.out.2.2.1;have:=HL.out.2.1;omega)).mono ?_
      rintro e w6 ⟨rfl,hb6⟩
      replace HB0:=Lib.hid (Below.andThen HB0.out hb6)
      clear hb6
      go_wp2_with fail
      go_ret
      exact ⟨rfl,HB0.out⟩
set_option maxRecDepth 1000000 in
set_option maxHeartbeats 8000000 in
theorem is14_nr {w:World} {C k gt gl b0 b1 b2:Nat} {t:Tri} {D0 D1 D2:Option Addr} {d0 d1 d2 M0 M1 M2 ct cl:Nat} (h:T14 w C k gt gl b0 b1 b2 t D0 D1 D2 d0 d1 d2 M0 M1 M2) (hT:∀ w',Below w.heap.size w w'→Tz w') (k1:1≤k) (k16:k≤16) (hM:M0 + M1 + M2≤1000) (r:Int) (hr1:1≤r) (hr5:r≤5) (hne:Tr.ppT Tr.clG t = []) :
    Calls Tryz.prog 21 #[.int .i64 (k:Int),.slice (some ⟨gt,0,none⟩) 3 ct,.slice (some ⟨gl,0,none⟩) 3 cl,.int .i64 r] w fun e w' => e = .returned (.bool true)∧Below w.heap.size w w':=by
  have hcn:cnt3 t≤1000:=by have a0:=h.h0.few;have a1:=h.h1.few;have a2:=h.h2.few;unfold cnt3;omega
  obtain ⟨n0,hn0⟩:∃ n,(Tr.entsO t.o).length = n:=⟨_,rfl⟩
  obtain ⟨n1,hn1⟩:∃ n,(Tr.entsO t.a).length = n:=⟨_,rfl⟩
  obtain ⟨n2,hn2⟩:∃ n,(Tr.entsO t.b).length = n:=⟨_,rfl⟩
  obtain ⟨L,hL⟩:∃ L,Tr.ppT Tr.clG t = L:=⟨_,rfl⟩
  obtain ⟨M,hMr⟩:∃ M,Tr.ppT (Tr.mgG r) t = M:=⟨_,rfl⟩
  have hLs:L.length≤1000:=by rw [← hL];exact Nat.le_trans (ppT_small h.h0.tree h.h1.tree h.h2.tree) hcn
  have hMs:M.length≤1000:=by rw [← hMr];exact Nat.le_trans (ppT_small h.h0.tree h.h1.tree h.h2.tree) hcn
  obtain ⟨n,hn⟩:∃ n,L.length = n:=⟨_,rfl⟩
  obtain ⟨m,hm⟩:∃ m,M.length = m:=⟨_,rfl⟩
  rw [hL] at hne
  obtain ⟨q0,z0⟩:=treeX_dz h.h0.tree
  obtain ⟨q1,z1⟩:=treeX_dz h.h1.tree
  obtain ⟨q2,z2⟩:=treeX_dz h.h2.tree
  have hM1:Tr.ppT (Tr.mgG 1) t = M:=by rw [← hMr];exact Tr.mg_any 1 r z0 z1 z2 q0 q1 q2 (hL.trans hne)
  have hnz:n = 0:=by rw [← hn,hne];rfl
  subst hnz
  clear q0 z0 q1 z1 q2 z2
  have r1:decide (r < 1) = false:=decide_eq_false (by omega)
  have r5:decide (5 < r) = false:=decide_eq_false (by omega)
  have HH:=Lib.hid h
  have HTz:=Lib.hid hT
  have HK:=Lib.hid (And.intro k1 (And.intro k16 (And.intro hM hcn)))
  have HN:=Lib.hid (And.intro hn0 (And.intro hn1 hn2))
  have HL:=Lib.hid (And.intro hL (And.intro hn (And.intro hLs hne)))
  have HM:=Lib.hid (And.intro hMr (And.intro hm hMs))
  replace HB0:=Lib.hid (Below.refl w.heap.size w)
  have HM1:=Lib.hid hM1
  have HR:=Lib.hid (And.intro hr1 hr5)
  clear h hT k1 k16 hM hcn hn0 hn1 hn2 hL hn hLs hne hMr hm hMs hM1 hr1 hr5
  go_enter Tryz.func21,Tryz.ntmps21
  have a0:∀ w',Below w.heap.size w w'→w'.cell? ⟨gt,0,none⟩ = some (.pointer (some ⟨b0,0,none⟩)):=fun w' hb => (row3 (HH.out.below hb).rt).1
  have a1:∀ w',Below w.heap.size w w'→w'.cell? ⟨gt,1,none⟩ = some (.pointer (some ⟨b1,0,none⟩)):=fun w' hb => (row3 (HH.out.below hb).rt).2.1
  have a2:∀ w',Below w.heap.size w w'→w'.cell? ⟨gt,2,none⟩ = some (.pointer (some ⟨b2,0,none⟩)):=fun w' hb => (row3 (HH.out.below hb).rt).2.2
  have hb0:Below w.heap.size w w:=Below.refl _ _
  have HC:=Lib.hid fun (w4:World) (hb:Below w.heap.size w w4) => mThree_c (HH.out.below hb).h0.tree (HH.out.below hb).h1.tree (HH.out.below hb).h2.tree (fun w' hb' => HTz.out w' (Below.andThen HB0.out (Below.andThen hb hb'))) (HL.out.1.trans HL.out.2.2.2) (by have:=HK.out.2.2.2;omega)
  go_wp2_with fail
  go_region_held3 (fun w' => Below w.heap.size w w') (((repeat first | refine bD ?_ | with_reducible refine bN ?_ | refine bA ?_ | refine bS ?_);first | exact bR | assumption | exact bN bR | exact bN (bN bR)))
    ((go_at_call 22;refine (HC.out _ (by ((repeat first | refine bD ?_ | with_reducible refine bN ?_ | refine bA ?_ | refine bS ?_);first | exact bR | assumption | exact bN bR | exact bN (bN bR)))).mono ?_;rintro e w1 ⟨bx,N1,rfl,hx1,hx2,hb2⟩;have hbD:=Below.trans (show Below w.heap.size w _ by ((repeat first | refine bD ?_ | with_reducible refine bN ?_ | refine bA ?_ | refine bS ?_);first | exact bR | assumption | exact bN bR | exact bN (bN bR))) (hb2.mono (Below.size (show Below w.heap.size w _ by ((repeat first | refine bD ?_ | with_reducible refine bN ?_ | refine bA ?_ | refine bS ?_);first | exact bR | assumption | exact bN bR | exact bN (bN bR)))));have HX1:=Lib.hid (And.intro hx1 hx2);clear hx1 hx2;clear hb2 HC))
  clear a0 a1 a2 hb0
  replace HB0:=Lib.hid (Below.andThen HB0.out hbD)
  replace HH:=Lib.hid (HH.out.below hbD)
  clear hbD
  have a0:∀ w',Below w1.heap.size w1 w'→w'.cell? ⟨gt,0,none⟩ = some (.pointer (some ⟨b0,0,none⟩)):=fun w' hb => (row3 (HH.out.below hb).rt).1
  have a1:∀ w',Below w1.heap.size w1 w'→w'.cell? ⟨gt,1,none⟩ = some (.pointer (some ⟨b1,0,none⟩)):=fun w' hb => (row3 (HH.out.below hb).rt).2.1
  have a2:∀ w',Below w1.heap.size w1 w'→w'.cell? ⟨gt,2,none⟩ = some (.pointer (some ⟨b2,0,none⟩)):=fun w' hb => (row3 (HH.out.below hb).rt).2.2
  have hb0:Below w1.heap.size w1 w1:=Below.refl _ _
  have HC:=Lib.hid fun (w4:World) (hb:Below w1.heap.size w1 w4) => mClashes_c (HH.out.below hb).h0.tree (HH.out.below hb).h1.tree (HH.out.below hb).h2.tree (fun w' hb' => HTz.out w' (Below.andThen HB0.out (Below.andThen hb hb'))) HL.out.1 (by have:=HL.out.2.2.1;omega) (by have:=HK.out.2.2.2;omega) HL.out.2.1
  go_wp2_with fail
  go_region_held3 (fun w' => Below w1.heap.size w1 w') (((repeat first | refine bD ?_ | with_reducible refine bN ?_ | refine bA ?_ | refine bS ?_);first | exact bR | assumption | exact bN bR | exact bN (bN bR)))
    ((go_at_call 23;refine (HC.out _ (by ((repeat first | refine bD ?_ | with_reducible refine bN ?_ | refine bA ?_ | refine bS ?_);first | exact bR | assumption | exact bN bR | exact bN (bN bR)))).mono ?_;rintro e w2 ⟨Y,y,rfl,hnew,hb2⟩;have hbD:=Below.trans (show Below w1.heap.size w1 _ by ((repeat first | refine bD ?_ | with_reducible refine bN ?_ | refine bA ?_ | refine bS ?_);first | exact bR | assumption | exact bN bR | exact bN (bN bR))) (hb2.mono (Below.size (show Below w1.heap.size w1 _ by ((repeat first | refine bD ?_ | with_reducible refine bN ?_ | refine bA ?_ | refine bS ?_);first | exact bR | assumption | exact bN bR | exact bN (bN bR)))));have HC2:=Lib.hid hnew.cks;clear hnew;clear hb2 HC))
  clear a0 a1 a2 hb0
  replace HB0:=Lib.hid (Below.andThen HB0.out hbD)
  replace HH:=Lib.hid (HH.out.below hbD)
  replace HX1:=Lib.hid (And.intro (HX1.out.1.below hbD (Nat.le_refl _)) HX1.out.2)
  clear hbD
  have a0:∀ w',Below w2.heap.size w2 w'→w'.cell? ⟨gt,0,none⟩ = some (.pointer (some ⟨b0,0,none⟩)):=fun w' hb => (row3 (HH.out.below hb).rt).1
  have a1:∀ w',Below w2.heap.size w2 w'→w'.cell? ⟨gt,1,none⟩ = some (.pointer (some ⟨b1,0,none⟩)):=fun w' hb => (row3 (HH.out.below hb).rt).2.1
  have a2:∀ w',Below w2.heap.size w2 w'→w'.cell? ⟨gt,2,none⟩ = some (.pointer (some ⟨b2,0,none⟩)):=fun w' hb => (row3 (HH.out.below hb).rt).2.2
  have hb0:Below w2.heap.size w2 w2:=Below.refl _ _
  have HC:=Lib.hid fun (w4:World) (hb:Below w2.heap.size w2 w4) => mByT_c (r:=r) (HH.out.below hb).h0.tree (HH.out.below hb).h1.tree (HH.out.below hb).h2.tree HR.out.1 HR.out.2 (fun w' hb' => HTz.out w' (Below.andThen HB0.out (Below.andThen hb hb'))) HL.out.1 (by have:=HL.out.2.2.1;omega) (by have:=HK.out.2.2.2;omega) HL.out.2.1
  go_wp2_with fail
  go_region_held3 (fun w' => Below w2.heap.size w2 w') (((repeat first | refine bD ?_ | with_reducible refine bN ?_ | refine bA ?_ | refine bS ?_);first | exact bR | assumption | exact bN bR | exact bN (bN bR)))
    ((go_at_call 24;refine (HC.out _ (by ((repeat first | refine bD ?_ | with_reducible refine bN ?_ | refine bA ?_ | refine bS ?_);first | exact bR | assumption | exact bN bR | exact bN (bN bR)))).mono ?_;rintro e w3 ⟨bv,N2,rfl,hx1,hx2,hb2⟩;have hbD:=Below.trans (show Below w2.heap.size w2 _ by ((repeat first | refine bD ?_ | with_reducible refine bN ?_ | refine bA ?_ | refine bS ?_);first | exact bR | assumption | exact bN bR | exact bN (bN bR))) (hb2.mono (Below.size (show Below w2.heap.size w2 _ by ((repeat first | refine bD ?_ | with_reducible refine bN ?_ | refine bA ?_ | refine bS ?_);first | exact bR | assumption | exact bN bR | exact bN (bN bR)))));have HX2:=Lib.hid (And.intro hx1 hx2);clear hx1 hx2;clear hb2 HC))
  clear a0 a1 a2 hb0
  replace HB0:=Lib.hid (Below.andThen HB0.out hbD)
  replace HH:=Lib.hid (HH.out.below hbD)
  replace HX1:=Lib.hid (And.intro (HX1.out.1.below hbD (Nat.le_refl _)) HX1.out.2)
  replace HC2:=Lib.hid (HC2.out.below hbD)
  clear hbD
  have a0:∀ w',Below w3.heap.size w3 w'→w'.cell? ⟨gl,0,none⟩ = some (.slice D0 n0 d0):=fun w' hb => by rw [← HN.out.1];exact (row3 (HH.out.below hb).rl).1
  have a1:∀ w',Below w3.heap.size w3 w'→w'.cell? ⟨gl,1,none⟩ = some (.slice D1 n1 d1):=fun w' hb => by rw [← HN.out.2.1];exact (row3 (HH.out.below hb).rl).2.1
  have a2:∀ w',Below w3.heap.size w3 w'→w'.cell? ⟨gl,2,none⟩ = some (.slice D2 n2 d2):=fun w' hb => by rw [← HN.out.2.2];exact (row3 (HH.out.below hb).rl).2.2
  have hb0:Below w3.heap.size w3 w3:=Below.refl _ _
  have HC:=Lib.hid fun (w4:World) (hb:Below w3.heap.size w3 w4) => (have h4:=HH.out.below hb;r14by_c (cx:=d0) (cy:=d1) (cz:=d2) (treeX_dz h4.h0.tree).2 (treeX_dz h4.h0.tree).1 (treeX_dz h4.h1.tree).2 (treeX_dz h4.h1.tree).1 (treeX_dz h4.h2.tree).2 (treeX_dz h4.h2.tree).1 (h4.h0.list.ents h4.h0.old (Nat.le_refl _)) (h4.h1.list.ents h4.h1.old (Nat.le_refl _)) (h4.h2.list.ents h4.h2.old (Nat.le_refl _)) HN.out.1 HN.out.2.1 HN.out.2.2 (by have h5:=h4.h0.cap;rw [HN.out.1] at h5;exact h5) HK.out.1 HK.out.2.1 (by have h5:=HK.out.2.2.2;unfold cnt3 at h5;rw [HN.out.1,HN.out.2.1,HN.out.2.2] at h5;omega) r HM.out.1 HL.out.1 HM.out.2.1 HL.out.2.1)
  go_wp2_with fail
  go_region_held3 (fun w' => Below w3.heap.size w3 w') (((repeat first | refine bD ?_ | with_reducible refine bN ?_ | refine bA ?_ | refine bS ?_);first | exact bR | assumption | exact bN bR | exact bN (bN bR)))
    ((go_at_call 52;refine (HC.out _ (by ((repeat first | refine bD ?_ | with_reducible refine bN ?_ | refine bA ?_ | refine bS ?_);first | exact bR | assumption | exact bN bR | exact bN (bN bR)))).mono ?_;rintro e w4 ⟨F,f,V,v,rfl,hen,hcap,hck,hb2⟩;have hbD:=Below.trans (show Below w3.heap.size w3 _ by ((repeat first | refine bD ?_ | with_reducible refine bN ?_ | refine bA ?_ | refine bS ?_);first | exact bR | assumption | exact bN bR | exact bN (bN bR))) (hb2.mono (Below.size (show Below w3.heap.size w3 _ by ((repeat first | refine bD ?_ | with_reducible refine bN ?_ | refine bA ?_ | refine bS ?_);first | exact bR | assumption | exact bN bR | exact bN (bN bR)))));have HE:=Lib.hid (And.intro hen (And.intro hcap hck));clear hen hcap hck;clear hb2 HC))
  clear a0 a1 a2 hb0
  replace HB0:=Lib.hid (Below.andThen HB0.out hbD)
  replace HH:=Lib.hid (HH.out.below hbD)
  replace HX1:=Lib.hid (And.intro (HX1.out.1.below hbD (Nat.le_refl _)) HX1.out.2)
  replace HC2:=Lib.hid (HC2.out.below hbD)
  replace HX2:=Lib.hid (And.intro (HX2.out.1.below hbD (Nat.le_refl _)) HX2.out.2)
  clear hbD
  go_wp2_with fail
  refine (r14same_c (c:=y) (c':=v) HC2.out HE.out.2.2 HL.out.2.1 (by have:=HL.out.2.2.1;have:=HL.out.2.1;omega)).mono ?_
  rintro e w5 ⟨rfl,hb5⟩
  replace HB0:=Lib.hid (Below.andThen HB0.out hb5)
  replace HX2:=Lib.hid (And.intro (HX2.out.1.below hb5 (Nat.le_refl _)) HX2.out.2)
  have HE1:=Lib.hid (HE.out.1.below hb5 (Nat.le_refl _) hb5.size)
  replace HX1:=Lib.hid (And.intro (HX1.out.1.below hb5 (Nat.le_refl _)) HX1.out.2)
  clear hb5
  go_wp2_with fail
  have hI:=is7_c (c:=f) HX2.out.1.1 (fun w' hb => HTz.out w' (Below.andThen HB0.out hb)) (by rw [HX2.out.2,HM.out.1];exact HE1.out) (by rw [HX2.out.2,HM.out.1,HM.out.2.1];exact HE.out.2.1) (by rw [HX2.out.2,HM.out.1];have:=HM.out.2.2;omega)
  rw [HX2.out.2,HM.out.1,HM.out.2.1] at hI
  refine hI.mono ?_
  clear hI
  rintro e w6 ⟨rfl,hb6⟩
  replace HB0:=Lib.hid (Below.andThen HB0.out hb6)
  replace HX1:=Lib.hid (And.intro (HX1.out.1.below hb6 (Nat.le_refl _)) HX1.out.2)
  replace HE1:=Lib.hid (HE1.out.below hb6 (Nat.le_refl _) hb6.size)
  clear hb6
  go_wp2_with fail
  have hI:=is7_c (c:=f) HX1.out.1.1 (fun w' hb => HTz.out w' (Below.andThen HB0.out hb)) (by rw [HX1.out.2,HM1.out];exact HE1.out) (by rw [HX1.out.2,HM1.out,HM.out.2.1];exact HE.out.2.1) (by rw [HX1.out.2,HM1.out];have:=HM.out.2.2;omega)
  rw [HX1.out.2,HM1.out,HM.out.2.1] at hI
  refine hI.mono ?_
  clear hI
  rintro e w7 ⟨rfl,hb6⟩
  replace HB0:=Lib.hid (Below.andThen HB0.out hb6)
  clear hb6
  go_wp2_with fail
  go_ret
  exact ⟨rfl,HB0.out⟩
set_option maxRecDepth 1000000 in
set_option maxHeartbeats 8000000 in
theorem is14_nx {w:World} {C k gt gl b0 b1 b2:Nat} {t:Tri} {D0 D1 D2:Option Addr} {d0 d1 d2 M0 M1 M2 ct cl:Nat} (h:T14 w C k gt gl b0 b1 b2 t D0 D1 D2 d0 d1 d2 M0 M1 M2) (hT:∀ w',Below w.heap.size w w'→Tz w') (k1:1≤k) (k16:k≤16) (hM:M0 + M1 + M2≤1000) (r:Int) (hr:r < 1∨5 < r) (hne:Tr.ppT Tr.clG t = []) :
    Calls Tryz.prog 21 #[.int .i64 (k:Int),.slice (some ⟨gt,0,none⟩) 3 ct,.slice (some ⟨gl,0,none⟩) 3 cl,.int .i64 r] w fun e w' => e = .returned (.bool true)∧Below w.heap.size w w':=by
  have hcn:cnt3 t≤1000:=by have a0:=h.h0.few;have a1:=h.h1.few;have a2:=h.h2.few;unfold cnt3;omega
  obtain ⟨n0,hn0⟩:∃ n,(Tr.entsO t.o).length = n:=⟨_,rfl⟩
  obtain ⟨n1,hn1⟩:∃ n,(Tr.entsO t.a).length = n:=⟨_,rfl⟩
  obtain ⟨n2,hn2⟩:∃ n,(Tr.entsO t.b).length = n:=⟨_,rfl⟩
  obtain ⟨L,hL⟩:∃ L,Tr.ppT Tr.clG t = L:=⟨_,rfl⟩
  obtain ⟨M,hMr⟩:∃ M,Tr.ppT (Tr.mgG r) t = M:=⟨_,rfl⟩
  have hLs:L.length≤1000:=by rw [← hL];exact Nat.le_trans (ppT_small h.h0.tree h.h1.tree h.h2.tree) hcn
  have hMs:M.length≤1000:=by rw [← hMr];exact Nat.le_trans (ppT_small h.h0.tree h.h1.tree h.h2.tree) hcn
  obtain ⟨n,hn⟩:∃ n,L.length = n:=⟨_,rfl⟩
  obtain ⟨m,hm⟩:∃ m,M.length = m:=⟨_,rfl⟩
  rw [hL] at hne
  obtain ⟨q0,z0⟩:=treeX_dz h.h0.tree
  obtain ⟨q1,z1⟩:=treeX_dz h.h1.tree
  obtain ⟨q2,z2⟩:=treeX_dz h.h2.tree
  have hM1:Tr.ppT (Tr.mgG 1) t = M:=by rw [← hMr];exact Tr.mg_any 1 r z0 z1 z2 q0 q1 q2 (hL.trans hne)
  have hnz:n = 0:=by rw [← hn,hne];rfl
  subst hnz
  clear q0 z0 q1 z1 q2 z2
  obtain ⟨rb,hrb⟩:∃ b,decide (r < 1) = b:=⟨_,rfl⟩
  obtain ⟨rc,hrc⟩:∃ b,decide (5 < r) = b:=⟨_,rfl⟩
  have hor:(rb || rc) = true:=by rw [← hrb,← hrc];simpa using hr
  have HO:=Lib.hid hor
  have HH:=Lib.hid h
  have HTz:=Lib.hid hT
  have HK:=Lib.hid (And.intro k1 (And.intro k16 (And.intro hM hcn)))
  have HN:=Lib.hid (And.intro hn0 (And.intro hn1 hn2))
  have HL:=Lib.hid (And.intro hL (And.intro hn (And.intro hLs hne)))
  have HM:=Lib.hid (And.intro hMr (And.intro hm hMs))
  replace HB0:=Lib.hid (Below.refl w.heap.size w)
  have HM1:=Lib.hid hM1
  have HR:=Lib.hid hr
  clear h hT k1 k16 hM hcn hn0 hn1 hn2 hL hn hLs hne hMr hm hMs hM1 hr hor
  go_enter Tryz.func21,Tryz.ntmps21
  have a0:∀ w',Below w.heap.size w w'→w'.cell? ⟨gt,0,none⟩ = some (.pointer (some ⟨b0,0,none⟩)):=fun w' hb => (row3 (HH.out.below hb).rt).1
  have a1:∀ w',Below w.heap.size w w'→w'.cell? ⟨gt,1,none⟩ = some (.pointer (some ⟨b1,0,none⟩)):=fun w' hb => (row3 (HH.out.below hb).rt).2.1
  have a2:∀ w',Below w.heap.size w w'→w'.cell? ⟨gt,2,none⟩ = some (.pointer (some ⟨b2,0,none⟩)):=fun w' hb => (row3 (HH.out.below hb).rt).2.2
  have hb0:Below w.heap.size w w:=Below.refl _ _
  have HC:=Lib.hid fun (w4:World) (hb:Below w.heap.size w w4) => mThree_c (HH.out.below hb).h0.tree (HH.out.below hb).h1.tree (HH.out.below hb).h2.tree (fun w' hb' => HTz.out w' (Below.andThen HB0.out (Below.andThen hb hb'))) (HL.out.1.trans HL.out.2.2.2) (by have:=HK.out.2.2.2;omega)
  go_wp2_with fail
  go_region_held3 (fun w' => Below w.heap.size w w') (((repeat first | refine bD ?_ | with_reducible refine bN ?_ | refine bA ?_ | refine bS ?_);first | exact bR | assumption | exact bN bR | exact bN (bN bR)))
    ((go_at_call 22;refine (HC.out _ (by ((repeat first | refine bD ?_ | with_reducible refine bN ?_ | refine bA ?_ | refine bS ?_);first | exact bR | assumption | exact bN bR | exact bN (bN bR)))).mono ?_;rintro e w1 ⟨bx,N1,rfl,hx1,hx2,hb2⟩;have hbD:=Below.trans (show Below w.heap.size w _ by ((repeat first | refine bD ?_ | with_reducible refine bN ?_ | refine bA ?_ | refine bS ?_);first | exact bR | assumption | exact bN bR | exact bN (bN bR))) (hb2.mono (Below.size (show Below w.heap.size w _ by ((repeat first | refine bD ?_ | with_reducible refine bN ?_ | refine bA ?_ | refine bS ?_);first | exact bR | assumption | exact bN bR | exact bN (bN bR)))));have HX1:=Lib.hid (And.intro hx1 hx2);clear hx1 hx2;clear hb2 HC))
  clear a0 a1 a2 hb0
  replace HB0:=Lib.hid (Below.andThen HB0.out hbD)
  replace HH:=Lib.hid (HH.out.below hbD)
  clear hbD
  have a0:∀ w',Below w1.heap.size w1 w'→w'.cell? ⟨gt,0,none⟩ = some (.pointer (some ⟨b0,0,none⟩)):=fun w' hb => (row3 (HH.out.below hb).rt).1
  have a1:∀ w',Below w1.heap.size w1 w'→w'.cell? ⟨gt,1,none⟩ = some (.pointer (some ⟨b1,0,none⟩)):=fun w' hb => (row3 (HH.out.below hb).rt).2.1
  have a2:∀ w',Below w1.heap.size w1 w'→w'.cell? ⟨gt,2,none⟩ = some (.pointer (some ⟨b2,0,none⟩)):=fun w' hb => (row3 (HH.out.below hb).rt).2.2
  have hb0:Below w1.heap.size w1 w1:=Below.refl _ _
  have HC:=Lib.hid fun (w4:World) (hb:Below w1.heap.size w1 w4) => mClashes_c (HH.out.below hb).h0.tree (HH.out.below hb).h1.tree (HH.out.below hb).h2.tree (fun w' hb' => HTz.out w' (Below.andThen HB0.out (Below.andThen hb hb'))) HL.out.1 (by have:=HL.out.2.2.1;omega) (by have:=HK.out.2.2.2;omega) HL.out.2.1
  go_wp2_with fail
  go_region_held3 (fun w' => Below w1.heap.size w1 w') (((repeat first | refine bD ?_ | with_reducible refine bN ?_ | refine bA ?_ | refine bS ?_);first | exact bR | assumption | exact bN bR | exact bN (bN bR)))
    ((go_at_call 23;refine (HC.out _ (by ((repeat first | refine bD ?_ | with_reducible refine bN ?_ | refine bA ?_ | refine bS ?_);first | exact bR | assumption | exact bN bR | exact bN (bN bR)))).mono ?_;rintro e w2 ⟨Y,y,rfl,hnew,hb2⟩;have hbD:=Below.trans (show Below w1.heap.size w1 _ by ((repeat first | refine bD ?_ | with_reducible refine bN ?_ | refine bA ?_ | refine bS ?_);first | exact bR | assumption | exact bN bR | exact bN (bN bR))) (hb2.mono (Below.size (show Below w1.heap.size w1 _ by ((repeat first | refine bD ?_ | with_reducible refine bN ?_ | refine bA ?_ | refine bS ?_);first | exact bR | assumption | exact bN bR | exact bN (bN bR)))));have HC2:=Lib.hid hnew.cks;clear hnew;clear hb2 HC))
  clear a0 a1 a2 hb0
  replace HB0:=Lib.hid (Below.andThen HB0.out hbD)
  replace HH:=Lib.hid (HH.out.below hbD)
  replace HX1:=Lib.hid (And.intro (HX1.out.1.below hbD (Nat.le_refl _)) HX1.out.2)
  clear hbD
  have a0:∀ w',Below w2.heap.size w2 w'→w'.cell? ⟨gt,0,none⟩ = some (.pointer (some ⟨b0,0,none⟩)):=fun w' hb => (row3 (HH.out.below hb).rt).1
  have a1:∀ w',Below w2.heap.size w2 w'→w'.cell? ⟨gt,1,none⟩ = some (.pointer (some ⟨b1,0,none⟩)):=fun w' hb => (row3 (HH.out.below hb).rt).2.1
  have a2:∀ w',Below w2.heap.size w2 w'→w'.cell? ⟨gt,2,none⟩ = some (.pointer (some ⟨b2,0,none⟩)):=fun w' hb => (row3 (HH.out.below hb).rt).2.2
  have hb0:Below w2.heap.size w2 w2:=Below.refl _ _
  have HC:=Lib.hid fun (w4:World) (hb:Below w2.heap.size w2 w4) => mBy_kind r (HH.out.below hb).h0.tree (HH.out.below hb).h1.tree (HH.out.below hb).h2.tree HR.out
  go_wp2_with fail
  go_region_held3 (fun w' => Below w2.heap.size w2 w') (((repeat first | refine bD ?_ | with_reducible refine bN ?_ | refine bA ?_ | refine bS ?_);first | exact bR | assumption | exact bN bR | exact bN (bN bR)))
    ((go_at_call 24;refine (HC.out _ (by ((repeat first | refine bD ?_ | with_reducible refine bN ?_ | refine bA ?_ | refine bS ?_);first | exact bR | assumption | exact bN bR | exact bN (bN bR)))).mono ?_;rintro e w3 ⟨rfl,hb2⟩;have hbD:=Below.trans (show Below w2.heap.size w2 _ by ((repeat first | refine bD ?_ | with_reducible refine bN ?_ | refine bA ?_ | refine bS ?_);first | exact bR | assumption | exact bN bR | exact bN (bN bR))) (hb2.mono (Below.size (show Below w2.heap.size w2 _ by ((repeat first | refine bD ?_ | with_reducible refine bN ?_ | refine bA ?_ | refine bS ?_);first | exact bR | assumption | exact bN bR | exact bN (bN bR)))));clear hb2 HC))
  clear a0 a1 a2 hb0
  replace HB0:=Lib.hid (Below.andThen HB0.out hbD)
  replace HH:=Lib.hid (HH.out.below hbD)
  replace HX1:=Lib.hid (And.intro (HX1.out.1.below hbD (Nat.le_refl _)) HX1.out.2)
  replace HC2:=Lib.hid (HC2.out.below hbD)
  clear hbD
  have a0:∀ w',Below w3.heap.size w3 w'→w'.cell? ⟨gl,0,none⟩ = some (.slice D0 n0 d0):=fun w' hb => by rw [← HN.out.1];exact (row3 (HH.out.below hb).rl).1
  have a1:∀ w',Below w3.heap.size w3 w'→w'.cell? ⟨gl,1,none⟩ = some (.slice D1 n1 d1):=fun w' hb => by rw [← HN.out.2.1];exact (row3 (HH.out.below hb).rl).2.1
  have a2:∀ w',Below w3.heap.size w3 w'→w'.cell? ⟨gl,2,none⟩ = some (.slice D2 n2 d2):=fun w' hb => by rw [← HN.out.2.2];exact (row3 (HH.out.below hb).rl).2.2
  have hb0:Below w3.heap.size w3 w3:=Below.refl _ _
  have HC:=Lib.hid fun (w4:World) (hb:Below w3.heap.size w3 w4) => (have h4:=HH.out.below hb;r14by_c (cx:=d0) (cy:=d1) (cz:=d2) (treeX_dz h4.h0.tree).2 (treeX_dz h4.h0.tree).1 (treeX_dz h4.h1.tree).2 (treeX_dz h4.h1.tree).1 (treeX_dz h4.h2.tree).2 (treeX_dz h4.h2.tree).1 (h4.h0.list.ents h4.h0.old (Nat.le_refl _)) (h4.h1.list.ents h4.h1.old (Nat.le_refl _)) (h4.h2.list.ents h4.h2.old (Nat.le_refl _)) HN.out.1 HN.out.2.1 HN.out.2.2 (by have h5:=h4.h0.cap;rw [HN.out.1] at h5;exact h5) HK.out.1 HK.out.2.1 (by have h5:=HK.out.2.2.2;unfold cnt3 at h5;rw [HN.out.1,HN.out.2.1,HN.out.2.2] at h5;omega) r HM.out.1 HL.out.1 HM.out.2.1 HL.out.2.1)
  go_wp2_with fail
  go_region_held3 (fun w' => Below w3.heap.size w3 w') (((repeat first | refine bD ?_ | with_reducible refine bN ?_ | refine bA ?_ | refine bS ?_);first | exact bR | assumption | exact bN bR | exact bN (bN bR)))
    ((go_at_call 52;refine (HC.out _ (by ((repeat first | refine bD ?_ | with_reducible refine bN ?_ | refine bA ?_ | refine bS ?_);first | exact bR | assumption | exact bN bR | exact bN (bN bR)))).mono ?_;rintro e w4 ⟨F,f,V,v,rfl,hen,hcap,hck,hb2⟩;have hbD:=Below.trans (show Below w3.heap.size w3 _ by ((repeat first | refine bD ?_ | with_reducible refine bN ?_ | refine bA ?_ | refine bS ?_);first | exact bR | assumption | exact bN bR | exact bN (bN bR))) (hb2.mono (Below.size (show Below w3.heap.size w3 _ by ((repeat first | refine bD ?_ | with_reducible refine bN ?_ | refine bA ?_ | refine bS ?_);first | exact bR | assumption | exact bN bR | exact bN (bN bR)))));have HE:=Lib.hid (And.intro hen (And.intro hcap hck));clear hen hcap hck;clear hb2 HC))
  clear a0 a1 a2 hb0
  replace HB0:=Lib.hid (Below.andThen HB0.out hbD)
  replace HH:=Lib.hid (HH.out.below hbD)
  replace HX1:=Lib.hid (And.intro (HX1.out.1.below hbD (Nat.le_refl _)) HX1.out.2)
  replace HC2:=Lib.hid (HC2.out.below hbD)
  clear hbD
  go_wp2_with fail
  refine (r14same_c (c:=y) (c':=v) HC2.out HE.out.2.2 HL.out.2.1 (by have:=HL.out.2.2.1;have:=HL.out.2.1;omega)).mono ?_
  rintro e w5 ⟨rfl,hb5⟩
  replace HB0:=Lib.hid (Below.andThen HB0.out hb5)
  cases rb with
  | true =>
    replace HX1:=Lib.hid (And.intro (HX1.out.1.below hb5 (Nat.le_refl _)) HX1.out.2)
    have HE1:=Lib.hid (HE.out.1.below hb5 (Nat.le_refl _) hb5.size)
    clear hb5
    go_wp2_with fail
    have hI:=is7_c (c:=f) HX1.out.1.1 (fun w' hb => HTz.out w' (Below.andThen HB0.out hb)) (by rw [HX1.out.2,HM1.out];exact HE1.out) (by rw [HX1.out.2,HM1.out,HM.out.2.1];exact HE.out.2.1) (by rw [HX1.out.2,HM1.out];have:=HM.out.2.2;omega)
    rw [HX1.out.2,HM1.out,HM.out.2.1] at hI
    refine hI.mono ?_
    clear hI
    rintro e w6 ⟨rfl,hb6⟩
    replace HB0:=Lib.hid (Below.andThen HB0.out hb6)
    clear hb6
    go_wp2_with fail
    go_ret
    exact ⟨rfl,HB0.out⟩
  | false =>
    cases rc with
    | false => exact absurd HO.out (by simp)
    | true =>
      replace HX1:=Lib.hid (And.intro (HX1.out.1.below hb5 (Nat.le_refl _)) HX1.out.2)
      have HE1:=Lib.hid (HE.out.1.below hb5 (Nat.le_refl _) hb5.size)
      clear hb5
      go_wp2_with fail
      have hI:=is7_c (c:=f) HX1.out.1.1 (fun w' hb => HTz.out w' (Below.andThen HB0.out hb)) (by rw [HX1.out.2,HM1.out];exact HE1.out) (by rw [HX1.out.2,HM1.out,HM.out.2.1];exact HE.out.2.1) (by rw [HX1.out.2,HM1.out];have:=HM.out.2.2;omega)
      rw [HX1.out.2,HM1.out,HM.out.2.1] at hI
      refine hI.mono ?_
      clear hI
      rintro e w6 ⟨rfl,hb6⟩
      replace HB0:=Lib.hid (Below.andThen HB0.out hb6)
      clear hb6
      go_wp2_with fail
      go_ret
      exact ⟨rfl,HB0.out⟩
theorem is14_c {w:World} {C k gt gl b0 b1 b2:Nat} {t:Tri} {D0 D1 D2:Option Addr} {d0 d1 d2 M0 M1 M2 ct cl:Nat} (h:T14 w C k gt gl b0 b1 b2 t D0 D1 D2 d0 d1 d2 M0 M1 M2) (hT:∀ w',Below w.heap.size w w'→Tz w') (k1:1≤k) (k16:k≤16) (hM:M0 + M1 + M2≤1000) (r:Int) :
    Calls Tryz.prog 21 #[.int .i64 (k:Int),.slice (some ⟨gt,0,none⟩) 3 ct,.slice (some ⟨gl,0,none⟩) 3 cl,.int .i64 r] w fun e w' => e = .returned (.bool true)∧Below w.heap.size w w':=by
  by_cases hr:1≤r∧r≤5
  · by_cases hc:Tr.ppT Tr.clG t = []
    · exact is14_nr h hT k1 k16 hM r hr.1 hr.2 hc
    · exact is14_cr h hT k1 k16 hM r hr.1 hr.2 (List.length_pos_iff.2 hc)
  · by_cases hc:Tr.ppT Tr.clG t = []
    · exact is14_nx h hT k1 k16 hM r (by omega) hc
    · exact is14_cx h hT k1 k16 hM r (by omega) (List.length_pos_iff.2 hc)
end Go.Proofs.YtmkejbfgdmbejaaGreatDoor
