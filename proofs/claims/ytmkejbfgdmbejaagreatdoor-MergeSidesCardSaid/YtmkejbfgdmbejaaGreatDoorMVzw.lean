import Derived.Test.YtmkejbfgdmbejaaGreatDoorMEs
namespace Go.Proofs.YtmkejbfgdmbejaaGreatDoor
open Go.ChangeShapes Go.WideShapes Go.ChangeAt Go.RowKit
open Tr (T S4 Ent Tri KL)
set_option maxRecDepth 100000 in
set_option maxHeartbeats 2000000 in
theorem mergeSides_skip {w:World} {A1 A2 A3:Option Addr} {c1 c2 c3:Nat} {l1 l2 l3:List ActT} (k:Int) (hT:Tz w) (hA1:ActsT w w.heap.size A1 l1) (hl1:l1.length≤maxLen) (hA2:ActsT w w.heap.size A2 l2) (hl2:l2.length≤maxLen) (hA3:ActsT w w.heap.size A3 l3) (hl3:l3.length≤maxLen) (hh:(heavyA 30 l1 || heavyA 30 l2 || heavyA 30 l3 || decide (k<1) || decide (16<k))=true) :
    Calls Tryz.prog 6 #[.int .i64 k,.slice A1 l1.length c1,.slice A2 l2.length c2,.slice A3 l3.length c3] w fun e w'=>e=.returned (.bool true)∧Below w.heap.size w w':=by
  obtain ⟨n1,e1⟩:∃ n,l1.length=n:=⟨_,rfl⟩
  obtain ⟨n2,e2⟩:∃ n,l2.length=n:=⟨_,rfl⟩
  obtain ⟨n3,e3⟩:∃ n,l3.length=n:=⟨_,rfl⟩
  have HT:=Lib.hid hT
  have HG:=Lib.hid fun (w1:World) (hb:Below w.heap.size w w1)=>rheavy14_c (c1:=c1) (c2:=c2) (c3:=c3) k (hA1.below hb (Nat.le_refl _) (Nat.le_refl _)) (hA2.below hb (Nat.le_refl _) (Nat.le_refl _)) (hA3.below hb (Nat.le_refl _) (Nat.le_refl _)) hl1 hl2 hl3 e1 e2 e3 hh
  rw[e1,e2,e3]
  clear hT hA1 hA2 hA3 hl1 hl2 hl3 e1 e2 e3 hh
  go_enter Tryz.func6,Tryz.ntmps6
  go_wp2_with fail
  refine (awake14_c w HT.out).mono ?_
  rintro e w1 ⟨rfl,hb1⟩
  have HB:=Lib.hid hb1
  clear hb1
  go_wp2_with fail
  refine (HG.out w1 HB.out).mono ?_
  rintro e w' ⟨rfl,rfl⟩
  clear HG
  go_wp2_with fail
  go_ret
  exact⟨rfl,HB.out⟩
theorem dSame_ents {w:World} {b b' k:Nat} {x y:Option T} (hx:TreeX w b k x) (hy:TreeX w b' k y) (hT:∀ w',Below w.heap.size w w'→Tz w') (h:Tr.entsO x=Tr.entsO y) :
    Calls Tryz.prog 27 #[.pointer (some ⟨b,0,none⟩),.pointer (some ⟨b',0,none⟩)] w fun e w'=>e=.returned (.bool true)∧Below w.heap.size w w':=by
  have he:Tr.chO x y=[]:=by
    show Tr.chL (Tr.entsO x) (Tr.entsO y)=[]
    rw[h]
    exact Tr.chL_same _
  exact dSame_c hx hy hT (by rw[he];exact Nat.zero_le _) (by rw[he];rfl)
structure Sid (t:Tri) (C:List Cls):Prop where
  cl:Tr.ppT Tr.clG t=C
  sw:Tr.ppT Tr.clG ⟨t.o,t.b,t.a⟩=C.map Tr.swapK
  ms:C=[]→Tr.ppT (Tr.mgG 1) t=Tr.ppT (Tr.mgG 1) ⟨t.o,t.b,t.a⟩
  c1:Tr.ppT Tr.clG ⟨t.o,t.o,t.b⟩=[]
  c2:Tr.ppT Tr.clG ⟨t.o,t.a,t.o⟩=[]
  c3:Tr.ppT Tr.clG ⟨t.o,t.a,t.a⟩=[]
  m1:Tr.ppT (Tr.mgG 1) ⟨t.o,t.o,t.b⟩=Tr.entsO t.b
  m2:Tr.ppT (Tr.mgG 1) ⟨t.o,t.a,t.o⟩=Tr.entsO t.a
  m3:Tr.ppT (Tr.mgG 1) ⟨t.o,t.a,t.a⟩=Tr.entsO t.a
theorem sid_of {w:World} {k b0 b1 b2:Nat} {t:Tri} {C:List Cls} (h0:TreeX w b0 k t.o) (h1:TreeX w b1 k t.a) (h2:TreeX w b2 k t.b) (hC:Tr.ppT Tr.clG t=C):Sid t C:=by
  obtain ⟨q0,z0⟩:=treeX_dz h0
  obtain ⟨q1,z1⟩:=treeX_dz h1
  obtain ⟨q2,z2⟩:=treeX_dz h2
  exact⟨hC,by rw[← hC];exact Tr.cl_swap z0 z1 z2 q0 q1 q2,fun h=>(Tr.mg_swap 1 z0 z1 z2 q0 q1 q2 (hC.trans h)).symm,Tr.cl_oo z0 z2 q0 q2,Tr.cl_xo z0 z1 q0 q1,Tr.cl_xx z0 z1 q0 q1,Tr.mg_oo 1 z0 z2 q0 q2,Tr.mg_xo 1 z0 z1 q0 q1,Tr.mg_xx 1 z0 z1 q0 q1⟩
set_option maxRecDepth 1000000 in
set_option maxHeartbeats 16000000 in
theorem mergeSides_go {w:World} {A1 A2 A3:Option Addr} {c1 c2 c3:Nat} {l1 l2 l3:List ActT} {k:Nat} (hT:Tz w) (hA1:ActsT w w.heap.size A1 l1) (hl1:l1.length≤maxLen) (hA2:ActsT w w.heap.size A2 l2) (hl2:l2.length≤maxLen) (hA3:ActsT w w.heap.size A3 l3) (hl3:l3.length≤maxLen) (h1:heavyA 30 l1=false) (h2:heavyA 30 l2=false) (h3:heavyA 30 l3=false) (k1:1≤k) (k16:k≤16) :
    Calls Tryz.prog 6 #[.int .i64 (k:Int),.slice A1 l1.length c1,.slice A2 l2.length c2,.slice A3 l3.length c3] w fun e w'=>e=.returned (.bool true)∧Below w.heap.size w w':=by
  have hf1:=heavyA_few h1
  have hf2:=heavyA_few h2
  have hf3:=heavyA_few h3
  have hh:(heavyA 30 l1 || heavyA 30 l2 || heavyA 30 l3 || decide ((k:Int)<1) || decide ((16:Int)<(k:Int)))=false:=by
    rw[h1,h2,h3,decide_eq_false (by omega:¬ ((k:Int)<1)),decide_eq_false (by omega:¬ ((16:Int)<(k:Int)))]
    rfl
  obtain ⟨n1,e1⟩:∃ n,l1.length=n:=⟨_,rfl⟩
  obtain ⟨n2,e2⟩:∃ n,l2.length=n:=⟨_,rfl⟩
  obtain ⟨n3,e3⟩:∃ n,l3.length=n:=⟨_,rfl⟩
  have HT:=Lib.hid hT
  have HG:=Lib.hid fun (w1:World) (hb:Below w.heap.size w w1)=>rheavy14_c (c1:=c1) (c2:=c2) (c3:=c3) (k:Int) (hA1.below hb (Nat.le_refl _) (Nat.le_refl _)) (hA2.below hb (Nat.le_refl _) (Nat.le_refl _)) (hA3.below hb (Nat.le_refl _) (Nat.le_refl _)) hl1 hl2 hl3 e1 e2 e3 hh
  have HK:=Lib.hid (And.intro k1 (And.intro k16 (And.intro hf1 (And.intro hf2 hf3))))
  have HW:=Lib.hid fun (w1:World) (hb:Below w.heap.size w w1)=>three14_c (c1:=c1) (c2:=c2) (c3:=c3) k1 k16 (hA1.below hb (Nat.le_refl _) (Nat.le_refl _)) (hA2.below hb (Nat.le_refl _) (Nat.le_refl _)) (hA3.below hb (Nat.le_refl _) (Nat.le_refl _)) hb.size (by omega) (by omega) (by omega) e1 e2 e3
  have HS:Hid (n1+(n1+n2)+(n1+n3)≤150):=Lib.hid (by omega)
  rw[e1,e2,e3]
  clear hT hA1 hA2 hA3 hl1 hl2 hl3 e1 e2 e3 hh h1 h2 h3 hf1 hf2 hf3 k1 k16
  go_enter Tryz.func6,Tryz.ntmps6
  go_wp2_with fail
  refine (awake14_c w HT.out).mono ?_
  rintro e w1 ⟨rfl,hb1⟩
  have HB:=Lib.hid hb1
  clear hb1
  go_wp2_with fail
  refine (HG.out w1 HB.out).mono ?_
  rintro e w' ⟨rfl,rfl⟩
  clear HG
  go_wp2_with fail
  refine (HW.out w1 HB.out).mono ?_
  rintro e w3 ⟨gt,gl,b0,b1,b2,t,D0,D1,D2,d0,d1,d2,rfl,h3,hb3⟩
  have HH:=Lib.hid h3
  replace HB:=Lib.hid (Below.andThen HB.out hb3)
  clear h3 hb3 HW
  have hcn:cnt3 t≤150:=by have a0:=HH.out.h0.few;have a1:=HH.out.h1.few;have a2:=HH.out.h2.few;have:=HS.out;unfold cnt3;omega
  obtain ⟨C,hC⟩:∃ L,Tr.ppT Tr.clG t=L:=⟨_,rfl⟩
  have hLs:C.length≤150:=by rw[← hC];exact Nat.le_trans (ppT_small HH.out.h0.tree HH.out.h1.tree HH.out.h2.tree) hcn
  obtain ⟨n,hn⟩:∃ n,C.length=n:=⟨_,rfl⟩
  have HC:=Lib.hid (sid_of HH.out.h0.tree HH.out.h1.tree HH.out.h2.tree hC)
  have HQ:=Lib.hid (And.intro hcn (And.intro hLs hn))
  clear hcn hC hLs hn
  obtain ⟨z0,z1,z2⟩:=row3 HH.out.rt
  go_wp2_with fail
  go_quiet (fail)
  obtain ⟨w4,hw4⟩:∃ w4,w4=w3.drewN nq:=⟨_,rfl⟩
  have hb34:Below w3.heap.size w3 w4:=by rw[hw4];exact below_drewN nq (Below.refl _ _)
  replace HH:=Lib.hid (HH.out.below hb34)
  replace HB:=Lib.hid (Below.andThen HB.out hb34)
  rw[← hw4]
  clear hw4 hb34 z0 z1 z2
  by_cases hne:C=[]
  · have hnz:n=0:=by rw[← HQ.out.2.2,hne];rfl
    subst hnz
    have HNE:=Lib.hid hne
    clear hne
    go_wp2_with fail
    refine (mThree_c (t:=t) HH.out.h0.tree HH.out.h1.tree HH.out.h2.tree (fun w' hb=>HT.out.on (Below.andThen HB.out hb)) (HC.out.cl.trans HNE.out) (by have h5:=HQ.out.1;have a0:=HH.out.h0.few;have a1:=HH.out.h1.few;have a2:=HH.out.h2.few;have:=HS.out;unfold cnt3;first | omega | (simp only;omega))).mono ?_
    rintro e w5 ⟨bx,NX,rfl,hx1,hx2,hb⟩
    replace HB:=Lib.hid (Below.andThen HB.out hb)
    replace HH:=Lib.hid (HH.out.below hb)
    have HX1:=Lib.hid (And.intro hx1 hx2)
    clear hb hx1 hx2
    go_wp2_with fail
    refine (mThree_c (t:=⟨t.o,t.b,t.a⟩) HH.out.h0.tree HH.out.h2.tree HH.out.h1.tree (fun w' hb=>HT.out.on (Below.andThen HB.out hb)) (by rw[HC.out.sw,HNE.out];rfl) (by have h5:=HQ.out.1;have a0:=HH.out.h0.few;have a1:=HH.out.h1.few;have a2:=HH.out.h2.few;have:=HS.out;unfold cnt3;first | omega | (simp only;omega))).mono ?_
    rintro e w6 ⟨bz,NY,rfl,hx1,hx2,hb⟩
    replace HB:=Lib.hid (Below.andThen HB.out hb)
    replace HH:=Lib.hid (HH.out.below hb)
    replace HX1:=Lib.hid (And.intro (HX1.out.1.below hb (Nat.le_refl _)) HX1.out.2)
    have HX2:=Lib.hid (And.intro hx1 hx2)
    have HK1:=Lib.hid (Cks.nil w6 none)
    have HK2:=Lib.hid (Cks.nil w6 none)
    clear hb hx1 hx2
    go_wp2_with fail
    refine (r14swapped_c (L:=([]:List Cls)) (n:=0) HK1.out rfl (by have:=HQ.out;omega)).mono ?_
    rintro e w7 ⟨Z,z,rfl,hck,hb⟩
    replace HB:=Lib.hid (Below.andThen HB.out hb)
    replace HH:=Lib.hid (HH.out.below hb)
    replace HX1:=Lib.hid (And.intro (HX1.out.1.below hb (Nat.le_refl _)) HX1.out.2)
    replace HX2:=Lib.hid (And.intro (HX2.out.1.below hb (Nat.le_refl _)) HX2.out.2)
    replace HK2:=Lib.hid (HK2.out.below hb)
    have HK3:=Lib.hid hck
    clear hb hck
    go_wp2_with fail
    refine (r14same_c (L:=([]:List Cls).map Tr.swapK) (n:=0) HK2.out HK3.out (by rw[List.length_map];exact rfl) (by have:=HQ.out;omega)).mono ?_
    rintro e w8 ⟨rfl,hb⟩
    replace HB:=Lib.hid (Below.andThen HB.out hb)
    replace HH:=Lib.hid (HH.out.below hb)
    replace HX1:=Lib.hid (And.intro (HX1.out.1.below hb (Nat.le_refl _)) HX1.out.2)
    replace HX2:=Lib.hid (And.intro (HX2.out.1.below hb (Nat.le_refl _)) HX2.out.2)
    clear hb HK2 HK3
    go_wp2_with fail
    refine (dSame_ents HX1.out.1 HX2.out.1 (fun w' hb=>HT.out.on (Below.andThen HB.out hb)) (by rw[HX1.out.2,HX2.out.2];exact HC.out.ms HNE.out)).mono ?_
    rintro e w9 ⟨rfl,hb⟩
    replace HB:=Lib.hid (Below.andThen HB.out hb)
    replace HH:=Lib.hid (HH.out.below hb)
    clear hb HX1 HX2
    go_wp2_with fail
    refine (mThree_c (t:=⟨t.o,t.o,t.b⟩) HH.out.h0.tree HH.out.h0.tree HH.out.h2.tree (fun w' hb=>HT.out.on (Below.andThen HB.out hb)) HC.out.c1 (by have h5:=HQ.out.1;have a0:=HH.out.h0.few;have a1:=HH.out.h1.few;have a2:=HH.out.h2.few;have:=HS.out;unfold cnt3;first | omega | (simp only;omega))).mono ?_
    rintro e v0 ⟨bp0,NP0,rfl,hx1,hx2,hb⟩
    replace HB:=Lib.hid (Below.andThen HB.out hb)
    replace HH:=Lib.hid (HH.out.below hb)
    have HP0:=Lib.hid (And.intro hx1 (hx2.trans HC.out.m1))
    clear hb hx1 hx2
    go_wp2_with fail
    refine (mThree_c (t:=⟨t.o,t.a,t.o⟩) HH.out.h0.tree HH.out.h1.tree HH.out.h0.tree (fun w' hb=>HT.out.on (Below.andThen HB.out hb)) HC.out.c2 (by have h5:=HQ.out.1;have a0:=HH.out.h0.few;have a1:=HH.out.h1.few;have a2:=HH.out.h2.few;have:=HS.out;unfold cnt3;first | omega | (simp only;omega))).mono ?_
    rintro e v1 ⟨bp1,NP1,rfl,hx1,hx2,hb⟩
    replace HB:=Lib.hid (Below.andThen HB.out hb)
    replace HH:=Lib.hid (HH.out.below hb)
    replace HP0:=Lib.hid (And.intro (HP0.out.1.below hb (Nat.le_refl _)) HP0.out.2)
    have HP1:=Lib.hid (And.intro hx1 (hx2.trans HC.out.m2))
    clear hb hx1 hx2
    go_wp2_with fail
    refine (mThree_c (t:=⟨t.o,t.a,t.a⟩) HH.out.h0.tree HH.out.h1.tree HH.out.h1.tree (fun w' hb=>HT.out.on (Below.andThen HB.out hb)) HC.out.c3 (by have h5:=HQ.out.1;have a0:=HH.out.h0.few;have a1:=HH.out.h1.few;have a2:=HH.out.h2.few;have:=HS.out;unfold cnt3;first | omega | (simp only;omega))).mono ?_
    rintro e v2 ⟨bp2,NP2,rfl,hx1,hx2,hb⟩
    replace HB:=Lib.hid (Below.andThen HB.out hb)
    replace HH:=Lib.hid (HH.out.below hb)
    replace HP0:=Lib.hid (And.intro (HP0.out.1.below hb (Nat.le_refl _)) HP0.out.2)
    replace HP1:=Lib.hid (And.intro (HP1.out.1.below hb (Nat.le_refl _)) HP1.out.2)
    have HP2:=Lib.hid (And.intro hx1 (hx2.trans HC.out.m3))
    clear hb hx1 hx2
    go_wp2_with fail
    refine (dSame_ents HP0.out.1 HH.out.h2.tree (fun w' hb=>HT.out.on (Below.andThen HB.out hb)) HP0.out.2).mono ?_
    rintro e u0w ⟨rfl,hb⟩
    replace HB:=Lib.hid (Below.andThen HB.out hb)
    replace HH:=Lib.hid (HH.out.below hb)
    replace HP1:=Lib.hid (And.intro (HP1.out.1.below hb (Nat.le_refl _)) HP1.out.2)
    replace HP2:=Lib.hid (And.intro (HP2.out.1.below hb (Nat.le_refl _)) HP2.out.2)
    clear hb
    go_wp2_with fail
    refine (dSame_ents HP1.out.1 HH.out.h1.tree (fun w' hb=>HT.out.on (Below.andThen HB.out hb)) HP1.out.2).mono ?_
    rintro e u1w ⟨rfl,hb⟩
    replace HB:=Lib.hid (Below.andThen HB.out hb)
    replace HH:=Lib.hid (HH.out.below hb)
    replace HP2:=Lib.hid (And.intro (HP2.out.1.below hb (Nat.le_refl _)) HP2.out.2)
    clear hb
    go_wp2_with fail
    refine (dSame_ents HP2.out.1 HH.out.h1.tree (fun w' hb=>HT.out.on (Below.andThen HB.out hb)) HP2.out.2).mono ?_
    rintro e u2w ⟨rfl,hb⟩
    replace HB:=Lib.hid (Below.andThen HB.out hb)
    replace HH:=Lib.hid (HH.out.below hb)
    clear hb
    go_wp2_with fail
    go_ret
    exact⟨rfl,HB.out⟩
  · have HNE:Hid (1≤n):=Lib.hid (by rw[← HQ.out.2.2];exact List.length_pos_iff.2 hne)
    have hn9:(n:Int)≤150:=by have:=HQ.out;omega
    clear hne
    go_wp2_with fail
    refine (mThree_conflict (t:=t) HH.out.h0.tree HH.out.h1.tree HH.out.h2.tree (fun w' hb=>HT.out.on (Below.andThen HB.out hb)) HC.out.cl (by have:=HQ.out;omega) (by have h5:=HQ.out.1;have a0:=HH.out.h0.few;have a1:=HH.out.h1.few;have a2:=HH.out.h2.few;have:=HS.out;unfold cnt3;first | omega | (simp only;omega)) HQ.out.2.2 HNE.out).mono ?_
    rintro e w5 ⟨X,x,rfl,hnew,hb⟩
    replace HB:=Lib.hid (Below.andThen HB.out hb)
    replace HH:=Lib.hid (HH.out.below hb)
    have HK1:=Lib.hid hnew.cks
    clear hb hnew
    go_wp2_with fail
    refine (mThree_conflict (t:=⟨t.o,t.b,t.a⟩) HH.out.h0.tree HH.out.h2.tree HH.out.h1.tree (fun w' hb=>HT.out.on (Below.andThen HB.out hb)) HC.out.sw (by rw[List.length_map];have:=HQ.out;omega) (by have h5:=HQ.out.1;have a0:=HH.out.h0.few;have a1:=HH.out.h1.few;have a2:=HH.out.h2.few;have:=HS.out;unfold cnt3;first | omega | (simp only;omega)) (n:=n) (by rw[List.length_map];exact HQ.out.2.2) HNE.out).mono ?_
    rintro e w6 ⟨Y,y,rfl,hnew,hb⟩
    replace HB:=Lib.hid (Below.andThen HB.out hb)
    replace HH:=Lib.hid (HH.out.below hb)
    replace HK1:=Lib.hid (HK1.out.below hb)
    have HK2:=Lib.hid hnew.cks
    clear hb hnew
    go_wp2_with fail
    refine (r14swapped_c (L:=C) (n:=n) HK1.out HQ.out.2.2 (by have:=HQ.out;omega)).mono ?_
    rintro e w7 ⟨Z,z,rfl,hck,hb⟩
    replace HB:=Lib.hid (Below.andThen HB.out hb)
    replace HH:=Lib.hid (HH.out.below hb)
    replace HK2:=Lib.hid (HK2.out.below hb)
    have HK3:=Lib.hid hck
    clear hb hck
    go_wp2_with fail
    refine (r14same_c (L:=C.map Tr.swapK) (n:=n) HK2.out HK3.out (by rw[List.length_map];exact HQ.out.2.2) (by have:=HQ.out;omega)).mono ?_
    rintro e w8 ⟨rfl,hb⟩
    replace HB:=Lib.hid (Below.andThen HB.out hb)
    replace HH:=Lib.hid (HH.out.below hb)
    clear hb HK2 HK3
    go_wp2_with fail
    refine (dSame_same w8 none).mono ?_
    rintro e w' ⟨rfl,rfl⟩
    go_wp2_with fail
    refine (mThree_c (t:=⟨t.o,t.o,t.b⟩) HH.out.h0.tree HH.out.h0.tree HH.out.h2.tree (fun w' hb=>HT.out.on (Below.andThen HB.out hb)) HC.out.c1 (by have h5:=HQ.out.1;have a0:=HH.out.h0.few;have a1:=HH.out.h1.few;have a2:=HH.out.h2.few;have:=HS.out;unfold cnt3;first | omega | (simp only;omega))).mono ?_
    rintro e v0 ⟨bp0,NP0,rfl,hx1,hx2,hb⟩
    replace HB:=Lib.hid (Below.andThen HB.out hb)
    replace HH:=Lib.hid (HH.out.below hb)
    have HP0:=Lib.hid (And.intro hx1 (hx2.trans HC.out.m1))
    clear hb hx1 hx2
    go_wp2_with fail
    refine (mThree_c (t:=⟨t.o,t.a,t.o⟩) HH.out.h0.tree HH.out.h1.tree HH.out.h0.tree (fun w' hb=>HT.out.on (Below.andThen HB.out hb)) HC.out.c2 (by have h5:=HQ.out.1;have a0:=HH.out.h0.few;have a1:=HH.out.h1.few;have a2:=HH.out.h2.few;have:=HS.out;unfold cnt3;first | omega | (simp only;omega))).mono ?_
    rintro e v1 ⟨bp1,NP1,rfl,hx1,hx2,hb⟩
    replace HB:=Lib.hid (Below.andThen HB.out hb)
    replace HH:=Lib.hid (HH.out.below hb)
    replace HP0:=Lib.hid (And.intro (HP0.out.1.below hb (Nat.le_refl _)) HP0.out.2)
    have HP1:=Lib.hid (And.intro hx1 (hx2.trans HC.out.m2))
    clear hb hx1 hx2
    go_wp2_with fail
    refine (mThree_c (t:=⟨t.o,t.a,t.a⟩) HH.out.h0.tree HH.out.h1.tree HH.out.h1.tree (fun w' hb=>HT.out.on (Below.andThen HB.out hb)) HC.out.c3 (by have h5:=HQ.out.1;have a0:=HH.out.h0.few;have a1:=HH.out.h1.few;have a2:=HH.out.h2.few;have:=HS.out;unfold cnt3;first | omega | (simp only;omega))).mono ?_
    rintro e v2 ⟨bp2,NP2,rfl,hx1,hx2,hb⟩
    replace HB:=Lib.hid (Below.andThen HB.out hb)
    replace HH:=Lib.hid (HH.out.below hb)
    replace HP0:=Lib.hid (And.intro (HP0.out.1.below hb (Nat.le_refl _)) HP0.out.2)
    replace HP1:=Lib.hid (And.intro (HP1.out.1.below hb (Nat.le_refl _)) HP1.out.2)
    have HP2:=Lib.hid (And.intro hx1 (hx2.trans HC.out.m3))
    clear hb hx1 hx2
    go_wp2_with fail
    refine (dSame_ents HP0.out.1 HH.out.h2.tree (fun w' hb=>HT.out.on (Below.andThen HB.out hb)) HP0.out.2).mono ?_
    rintro e u0w ⟨rfl,hb⟩
    replace HB:=Lib.hid (Below.andThen HB.out hb)
    replace HH:=Lib.hid (HH.out.below hb)
    replace HP1:=Lib.hid (And.intro (HP1.out.1.below hb (Nat.le_refl _)) HP1.out.2)
    replace HP2:=Lib.hid (And.intro (HP2.out.1.below hb (Nat.le_refl _)) HP2.out.2)
    clear hb
    go_wp2_with fail
    refine (dSame_ents HP1.out.1 HH.out.h1.tree (fun w' hb=>HT.out.on (Below.andThen HB.out hb)) HP1.out.2).mono ?_
    rintro e u1w ⟨rfl,hb⟩
    replace HB:=Lib.hid (Below.andThen HB.out hb)
    replace HH:=Lib.hid (HH.out.below hb)
    replace HP2:=Lib.hid (And.intro (HP2.out.1.below hb (Nat.le_refl _)) HP2.out.2)
    clear hb
    go_wp2_with fail
    refine (dSame_ents HP2.out.1 HH.out.h1.tree (fun w' hb=>HT.out.on (Below.andThen HB.out hb)) HP2.out.2).mono ?_
    rintro e u2w ⟨rfl,hb⟩
    replace HB:=Lib.hid (Below.andThen HB.out hb)
    replace HH:=Lib.hid (HH.out.below hb)
    clear hb
    go_wp2_with fail
    go_ret
    exact⟨rfl,HB.out⟩
theorem mergeSides_c {w:World} {A1 A2 A3:Option Addr} {c1 c2 c3:Nat} {l1 l2 l3:List ActT} (k:Int) (hT:Tz w) (hA1:ActsT w w.heap.size A1 l1) (hl1:l1.length≤maxLen) (hA2:ActsT w w.heap.size A2 l2) (hl2:l2.length≤maxLen) (hA3:ActsT w w.heap.size A3 l3) (hl3:l3.length≤maxLen) :
    Calls Tryz.prog 6 #[.int .i64 k,.slice A1 l1.length c1,.slice A2 l2.length c2,.slice A3 l3.length c3] w fun e w'=>e=.returned (.bool true)∧Below w.heap.size w w':=by
  by_cases h:(heavyA 30 l1 || heavyA 30 l2 || heavyA 30 l3 || decide (k<1) || decide (16<k))=true
  · exact mergeSides_skip k hT hA1 hl1 hA2 hl2 hA3 hl3 h
  · simp only[Bool.or_eq_true,decide_eq_true_eq,not_or,Bool.not_eq_true] at h
    obtain ⟨⟨⟨⟨h1,h2⟩,h3⟩,h4⟩,h5⟩:=h
    obtain ⟨a,rfl⟩:∃ a:Nat,k=(a:Int):=⟨k.toNat,by omega⟩
    exact mergeSides_go hT hA1 hl1 hA2 hl2 hA3 hl3 h1 h2 h3 (by omega) (by omega)
end Go.Proofs.YtmkejbfgdmbejaaGreatDoor
