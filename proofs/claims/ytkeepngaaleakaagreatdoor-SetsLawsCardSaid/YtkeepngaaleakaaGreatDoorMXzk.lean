import Derived.Test.YtkeepngaaleakaaGreatDoorMXzg
namespace Go.Proofs.YtkeepngaaleakaaGreatDoor
open Go.ChangeShapes Go.WideShapes Go.ChangeAt Go.RowKit
open Tr (T S4 Ent Tri KL)
theorem dSame_l {w:World} {b b' k:Nat} {x y:Option T} (hx:TreeX w b k x) (hy:TreeX w b' k y) (hT:∀ w',Below w.heap.size w w'→Tz w') (h:Tr.entsO x = Tr.entsO y) :
    Calls Tryz.prog 29 #[.pointer (some ⟨b,0,none⟩),.pointer (some ⟨b',0,none⟩)] w fun e w' => e = .returned (.bool true)∧Below w.heap.size w w':=by
  have he:Tr.chO x y = []:=by
    show Tr.chL (Tr.entsO x) (Tr.entsO y) = []
    rw [h]
    exact Tr.chL_same _
  exact dSame_c hx hy hT (by rw [he];exact Nat.zero_le _) (by rw [he];rfl)
set_option maxRecDepth 1000000 in
set_option maxHeartbeats 16000000 in
theorem setsLaws_go {w:World} {A1 A2:Option Addr} {c1 c2:Nat} {l1 l2:List ActT} {k:Nat} {r:Int} (hT:Tz w) (hA1:ActsT w w.heap.size A1 l1) (hl1:l1.length≤maxLen) (hA2:ActsT w w.heap.size A2 l2) (hl2:l2.length≤maxLen) (h1:heavyA 40 l1 = false) (h2:heavyA 40 l2 = false) (k1:1≤k) (k16:k≤16) (hr:3≤r∧r≤6) :
    Calls Tryz.prog 6 #[.int .i64 (k:Int),.slice A1 l1.length c1,.slice A2 l2.length c2,.int .i64 r] w fun e w' => e = .returned (.bool true)∧Below w.heap.size w w':=by
  obtain ⟨n1,e1⟩:∃ n,l1.length = n:=⟨_,rfl⟩
  obtain ⟨n2,e2⟩:∃ n,l2.length = n:=⟨_,rfl⟩
  have hf1:=heavyA_few h1
  have hf2:=heavyA_few h2
  have G1:=Lib.hid fun (w1:World) (hb:Below w.heap.size w w1) => rheavy7_c (c:=c1) (hA1.below hb (Nat.le_refl _) (Nat.le_refl _)) hl1 40 false h1
  have G2:=Lib.hid fun (w1:World) (hb:Below w.heap.size w w1) => rheavy7_c (c:=c2) (hA2.below hb (Nat.le_refl _) (Nat.le_refl _)) hl2 40 false h2
  have R1:=Lib.hid fun (w1:World) (hb:Below w.heap.size w w1) => grown_c (c:=c1) k1 k16 (hA1.below hb (Nat.le_refl _) (Nat.le_refl _)) hb.size (by omega)
  have R2:=Lib.hid fun (w1:World) (hb:Below w.heap.size w w1) => grown_c (c:=c2) k1 k16 (hA2.below hb (Nat.le_refl _) (Nat.le_refl _)) hb.size (by omega)
  rw [e1] at G1 R1 hf1
  rw [e2] at G2 R2 hf2
  rw [e1,e2]
  have HT:=Lib.hid hT
  have HK:=Lib.hid (And.intro k1 (And.intro k16 (And.intro hf1 hf2)))
  have d1:decide ((k:Int) < 1) = false:=decide_eq_false (by omega)
  have d2:decide ((16:Int) < (k:Int)) = false:=decide_eq_false (by omega)
  have d2':decide (16 < k) = false:=decide_eq_false (by omega)
  have y1:decide (r < 3) = false:=decide_eq_false (by omega)
  have y2:decide (6 < r) = false:=decide_eq_false (by omega)
  have HRr:=Lib.hid hr
  clear hT hA1 hl1 hA2 hl2 h1 h2 hf1 hf2 e1 e2 k1 k16 hr
  go_enter Tryz.func6,Tryz.ntmps6
  go_wp2_with fail
  refine (awake15_c w HT.out).mono ?_
  rintro e w0 ⟨rfl,hb0⟩
  have B0:=Lib.hid hb0
  clear hb0
  go_wp2_with fail
  refine (G1.out w0 B0.out).mono ?_
  rintro e w' ⟨rfl,rfl⟩
  clear G1
  go_wp2_with fail
  refine (G2.out w0 B0.out).mono ?_
  rintro e w' ⟨rfl,rfl⟩
  clear G2
  go_wp2_with fail
  refine (R1.out w0 B0.out).mono ?_
  rintro e w1 ⟨b0,o0,D0,q0,rfl,hd0,-,hb1⟩
  obtain ⟨N0,hN0⟩:∃ N,(Tr.entsO o0).length = N:=⟨_,rfl⟩
  have B1:=Lib.hid (Below.andThen B0.out hb1)
  have HD0:=Lib.hid hd0
  rw [hN0]
  clear hb1 hd0 R1
  go_wp2_with fail
  refine (R2.out w1 B1.out).mono ?_
  rintro e w2 ⟨b1,o1,D1,q1,rfl,hd1,-,hb2⟩
  obtain ⟨N1,hN1⟩:∃ N,(Tr.entsO o1).length = N:=⟨_,rfl⟩
  have S2:=Lib.hid (St2.mk (HD0.out.below hb2) hd1 (Below.andThen B1.out hb2))
  have z0:N0≤40:=by have h:=HD0.out.few;rw [hN0] at h;have:=HK.out;omega
  have z1:N1≤40:=by have h:=hd1.few;rw [hN1] at h;have:=HK.out;omega
  have c0:N0≤q0:=by rw [← hN0];exact HD0.out.cap
  have c1':N1≤q1:=by rw [← hN1];exact hd1.cap
  have HN:=Lib.hid (And.intro hN0 (And.intro hN1 (And.intro z0 (And.intro z1 (And.intro c0 c1')))))
  have HZ:=Lib.hid (And.intro (zdX S2.out.h0.tree) (zdX S2.out.h1.tree))
  have HL:Hid ((Tr.entsO o0).length + (Tr.entsO o1).length≤80):=Lib.hid (by rw [hN0,hN1];omega)
  rw [hN1]
  clear hb2 hd1 R2 HD0 B1 B0 hN0 hN1 z0 z1 c0 c1'
  go_wp2_with fail
  refine (sUnion_s S2.out.h0.tree S2.out.h1.tree r (by have:=HRr.out;omega) (S2.out.tz HT.out) (by have:=HL.out;omega)).mono ?_
  rintro e w3 ⟨gx,ox,rfl,ht,he,hb⟩
  have S3:=Lib.hid (S2.out.below hb)
  have Tx:=Lib.hid ht
  have Ex:Hid (Tr.entsO ox = Tr.jL r true true true (Tr.entsO o0) (Tr.entsO o1)):=Lib.hid (by exact he)
  clear ht he
  clear hb S2
  go_wp2_with fail
  refine (sUnion_s S3.out.h1.tree S3.out.h0.tree r (by have:=HRr.out;omega) (S3.out.tz HT.out) (by have:=HL.out;omega)).mono ?_
  rintro e w4 ⟨gy,oy,rfl,ht,he,hb⟩
  have S4:=Lib.hid (S3.out.below hb)
  have Tx_4:=Lib.hid (Tx.out.below hb (Nat.le_refl _))
  clear Tx
  have Ty:=Lib.hid ht
  have Ey:Hid (Tr.entsO oy = Tr.jL r true true true (Tr.entsO o1) (Tr.entsO o0)):=Lib.hid (by exact he)
  clear ht he
  clear hb S3
  go_wp2_with fail
  refine (sCommon_s S4.out.h0.tree S4.out.h1.tree r (by have:=HRr.out;omega) (S4.out.tz HT.out) (by have:=HL.out;omega)).mono ?_
  rintro e w5 ⟨gp,op,rfl,ht,he,hb⟩
  have S5:=Lib.hid (S4.out.below hb)
  have Tx_5:=Lib.hid (Tx_4.out.below hb (Nat.le_refl _))
  clear Tx_4
  have Ty_5:=Lib.hid (Ty.out.below hb (Nat.le_refl _))
  clear Ty
  have Tp:=Lib.hid ht
  have Ep:Hid (Tr.entsO op = Tr.jL r false false true (Tr.entsO o0) (Tr.entsO o1)):=Lib.hid (by exact he)
  clear ht he
  clear hb S4
  go_wp2_with fail
  refine (sCommon_s S5.out.h1.tree S5.out.h0.tree r (by have:=HRr.out;omega) (S5.out.tz HT.out) (by have:=HL.out;omega)).mono ?_
  rintro e w6 ⟨gq,oq,rfl,ht,he,hb⟩
  have S6:=Lib.hid (S5.out.below hb)
  have Tx_6:=Lib.hid (Tx_5.out.below hb (Nat.le_refl _))
  clear Tx_5
  have Ty_6:=Lib.hid (Ty_5.out.below hb (Nat.le_refl _))
  clear Ty_5
  have Tp_6:=Lib.hid (Tp.out.below hb (Nat.le_refl _))
  clear Tp
  have Tq:=Lib.hid ht
  have Eq:Hid (Tr.entsO oq = Tr.jL r false false true (Tr.entsO o1) (Tr.entsO o0)):=Lib.hid (by exact he)
  clear ht he
  clear hb S5
  go_wp2_with fail
  refine (sLess_s S6.out.h0.tree S6.out.h1.tree (S6.out.tz HT.out) (by have:=HL.out;omega)).mono ?_
  rintro e w7 ⟨gl,ol,rfl,ht,he,hb⟩
  have S7:=Lib.hid (S6.out.below hb)
  have Tx_7:=Lib.hid (Tx_6.out.below hb (Nat.le_refl _))
  clear Tx_6
  have Ty_7:=Lib.hid (Ty_6.out.below hb (Nat.le_refl _))
  clear Ty_6
  have Tp_7:=Lib.hid (Tp_6.out.below hb (Nat.le_refl _))
  clear Tp_6
  have Tq_7:=Lib.hid (Tq.out.below hb (Nat.le_refl _))
  clear Tq
  have Tl:=Lib.hid ht
  have El:Hid (Tr.entsO ol = Tr.jL 1 true false false (Tr.entsO o0) (Tr.entsO o1)):=Lib.hid (by exact he)
  clear ht he
  clear hb S6
  go_wp2_with fail
  refine (sCommon_s S7.out.h0.tree S7.out.h1.tree 1 (by decide) (S7.out.tz HT.out) (by have:=HL.out;omega)).mono ?_
  rintro e w8 ⟨gc,oc,rfl,ht,he,hb⟩
  have S8:=Lib.hid (S7.out.below hb)
  have Tx_8:=Lib.hid (Tx_7.out.below hb (Nat.le_refl _))
  clear Tx_7
  have Ty_8:=Lib.hid (Ty_7.out.below hb (Nat.le_refl _))
  clear Ty_7
  have Tp_8:=Lib.hid (Tp_7.out.below hb (Nat.le_refl _))
  clear Tp_7
  have Tq_8:=Lib.hid (Tq_7.out.below hb (Nat.le_refl _))
  clear Tq_7
  have Tl_8:=Lib.hid (Tl.out.below hb (Nat.le_refl _))
  clear Tl
  have Tc:=Lib.hid ht
  have Ec:Hid (Tr.entsO oc = Tr.jL 1 false false true (Tr.entsO o0) (Tr.entsO o1)):=Lib.hid (by exact he)
  clear ht he
  clear hb S7
  go_wp2_with fail
  refine (sUnion_s Tl_8.out Tc.out 1 (by decide) (S8.out.tz HT.out) (by have h0:=Nat.le_trans (Nat.le_of_eq (congrArg List.length El.out)) (Tr.jL_len _ _ _ _ HZ.out.1 HZ.out.2);have h1:=Nat.le_trans (Nat.le_of_eq (congrArg List.length Ec.out)) (Tr.jL_len _ _ _ _ HZ.out.1 HZ.out.2);have h9:=HL.out;omega)).mono ?_
  rintro e w9 ⟨gn,on,rfl,ht,he,hb⟩
  have S9:=Lib.hid (S8.out.below hb)
  have Tx_9:=Lib.hid (Tx_8.out.below hb (Nat.le_refl _))
  clear Tx_8
  have Ty_9:=Lib.hid (Ty_8.out.below hb (Nat.le_refl _))
  clear Ty_8
  have Tp_9:=Lib.hid (Tp_8.out.below hb (Nat.le_refl _))
  clear Tp_8
  have Tq_9:=Lib.hid (Tq_8.out.below hb (Nat.le_refl _))
  clear Tq_8
  have Tl_9:=Lib.hid (Tl_8.out.below hb (Nat.le_refl _))
  clear Tl_8
  have Tc_9:=Lib.hid (Tc.out.below hb (Nat.le_refl _))
  clear Tc
  have Tn:=Lib.hid ht
  have En:Hid (Tr.entsO on = Tr.entsO o0):=Lib.hid (by rw [he,El.out,Ec.out];exact Tr.jL_one HZ.out.1 HZ.out.2)
  clear ht he
  clear hb S8
  go_wp2_with fail
  refine (sLess_s S9.out.h1.tree S9.out.h0.tree (S9.out.tz HT.out) (by have:=HL.out;omega)).mono ?_
  rintro e w10 ⟨gt,ot,rfl,ht,he,hb⟩
  have S10:=Lib.hid (S9.out.below hb)
  have Tx_10:=Lib.hid (Tx_9.out.below hb (Nat.le_refl _))
  clear Tx_9
  have Ty_10:=Lib.hid (Ty_9.out.below hb (Nat.le_refl _))
  clear Ty_9
  have Tp_10:=Lib.hid (Tp_9.out.below hb (Nat.le_refl _))
  clear Tp_9
  have Tq_10:=Lib.hid (Tq_9.out.below hb (Nat.le_refl _))
  clear Tq_9
  have Tl_10:=Lib.hid (Tl_9.out.below hb (Nat.le_refl _))
  clear Tl_9
  have Tc_10:=Lib.hid (Tc_9.out.below hb (Nat.le_refl _))
  clear Tc_9
  have Tn_10:=Lib.hid (Tn.out.below hb (Nat.le_refl _))
  clear Tn
  have Tt:=Lib.hid ht
  have Et:Hid (Tr.entsO ot = Tr.jL 1 true false false (Tr.entsO o1) (Tr.entsO o0)):=Lib.hid (by exact he)
  clear ht he
  clear hb S9
  go_wp2_with fail
  refine (sUnion_s Tl_10.out Tt.out r (by have:=HRr.out;omega) (S10.out.tz HT.out) (by have h0:=Nat.le_trans (Nat.le_of_eq (congrArg List.length El.out)) (Tr.jL_len _ _ _ _ HZ.out.1 HZ.out.2);have h1:=Nat.le_trans (Nat.le_of_eq (congrArg List.length Et.out)) (Tr.jL_len _ _ _ _ HZ.out.2 HZ.out.1);have h9:=HL.out;omega)).mono ?_
  rintro e w11 ⟨gu,ou,rfl,ht,he,hb⟩
  have S11:=Lib.hid (S10.out.below hb)
  have Tx_11:=Lib.hid (Tx_10.out.below hb (Nat.le_refl _))
  clear Tx_10
  have Ty_11:=Lib.hid (Ty_10.out.below hb (Nat.le_refl _))
  clear Ty_10
  have Tp_11:=Lib.hid (Tp_10.out.below hb (Nat.le_refl _))
  clear Tp_10
  have Tq_11:=Lib.hid (Tq_10.out.below hb (Nat.le_refl _))
  clear Tq_10
  have Tl_11:=Lib.hid (Tl_10.out.below hb (Nat.le_refl _))
  clear Tl_10
  have Tc_11:=Lib.hid (Tc_10.out.below hb (Nat.le_refl _))
  clear Tc_10
  have Tn_11:=Lib.hid (Tn_10.out.below hb (Nat.le_refl _))
  clear Tn_10
  have Tt_11:=Lib.hid (Tt.out.below hb (Nat.le_refl _))
  clear Tt
  have Tu:=Lib.hid ht
  have Eu:Hid (Tr.entsO ou = Tr.jL r true true true (Tr.jL 1 true false false (Tr.entsO o0) (Tr.entsO o1)) (Tr.jL 1 true false false (Tr.entsO o1) (Tr.entsO o0))):=Lib.hid (by rw [he,El.out,Et.out])
  clear ht he
  clear hb S10
  have Lu:Hid ((Tr.entsO ou).length≤160):=Lib.hid (by
    have h1:=Nat.le_trans (Nat.le_of_eq (congrArg List.length Eu.out)) (Tr.jL_len _ _ _ _ (Tr.jL_zd _ _ _ _ HZ.out.1 HZ.out.2) (Tr.jL_zd _ _ _ _ HZ.out.2 HZ.out.1))
    have h2:=Tr.jL_len 1 true false false HZ.out.1 HZ.out.2
    have h3:=Tr.jL_len 1 true false false HZ.out.2 HZ.out.1
    have h9:=HL.out
    omega)
  go_wp2_with fail
  refine (sUnion_s Tu.out Tp_11.out r (by have:=HRr.out;omega) (S11.out.tz HT.out) (by have h0:=Lu.out;have h1:=Nat.le_trans (Nat.le_of_eq (congrArg List.length Ep.out)) (Tr.jL_len _ _ _ _ HZ.out.1 HZ.out.2);have h9:=HL.out;omega)).mono ?_
  rintro e w12 ⟨gv,ov,rfl,ht,he,hb⟩
  have S12:=Lib.hid (S11.out.below hb)
  have Tx_12:=Lib.hid (Tx_11.out.below hb (Nat.le_refl _))
  clear Tx_11
  have Ty_12:=Lib.hid (Ty_11.out.below hb (Nat.le_refl _))
  clear Ty_11
  have Tp_12:=Lib.hid (Tp_11.out.below hb (Nat.le_refl _))
  clear Tp_11
  have Tq_12:=Lib.hid (Tq_11.out.below hb (Nat.le_refl _))
  clear Tq_11
  have Tl_12:=Lib.hid (Tl_11.out.below hb (Nat.le_refl _))
  clear Tl_11
  have Tc_12:=Lib.hid (Tc_11.out.below hb (Nat.le_refl _))
  clear Tc_11
  have Tn_12:=Lib.hid (Tn_11.out.below hb (Nat.le_refl _))
  clear Tn_11
  have Tt_12:=Lib.hid (Tt_11.out.below hb (Nat.le_refl _))
  clear Tt_11
  have Tu_12:=Lib.hid (Tu.out.below hb (Nat.le_refl _))
  clear Tu
  have Tv:=Lib.hid ht
  have Ev:Hid (Tr.entsO ov = Tr.entsO ox):=Lib.hid (by rw [he,Eu.out,Ep.out,Ex.out];exact Tr.jL_all r HZ.out.1 HZ.out.2)
  clear ht he
  clear hb S11
  go_wp2_with fail
  refine (sTouch_s (r:=false) Tl_12.out S12.out.h1.tree (S12.out.tz HT.out) (by have h0:=Nat.le_trans (Nat.le_of_eq (congrArg List.length El.out)) (Tr.jL_len _ _ _ _ HZ.out.1 HZ.out.2);have h9:=HL.out;omega) (by rw [El.out,Tr.jL_apart HZ.out.1 HZ.out.2];rfl)).mono ?_
  rintro e w13 ⟨rfl,hb⟩
  have S13:=Lib.hid (S12.out.below hb)
  have Tx_13:=Lib.hid (Tx_12.out.below hb (Nat.le_refl _))
  clear Tx_12
  have Ty_13:=Lib.hid (Ty_12.out.below hb (Nat.le_refl _))
  clear Ty_12
  have Tp_13:=Lib.hid (Tp_12.out.below hb (Nat.le_refl _))
  clear Tp_12
  have Tq_13:=Lib.hid (Tq_12.out.below hb (Nat.le_refl _))
  clear Tq_12
  have Tl_13:=Lib.hid (Tl_12.out.below hb (Nat.le_refl _))
  clear Tl_12
  have Tc_13:=Lib.hid (Tc_12.out.below hb (Nat.le_refl _))
  clear Tc_12
  have Tn_13:=Lib.hid (Tn_12.out.below hb (Nat.le_refl _))
  clear Tn_12
  have Tt_13:=Lib.hid (Tt_12.out.below hb (Nat.le_refl _))
  clear Tt_12
  have Tu_13:=Lib.hid (Tu_12.out.below hb (Nat.le_refl _))
  clear Tu_12
  have Tv_13:=Lib.hid (Tv.out.below hb (Nat.le_refl _))
  clear Tv
  clear hb S12
  go_wp2_with fail
  refine (dSame_l Tx_13.out Ty_13.out (S13.out.tz HT.out) (by rw [Ex.out,Ey.out];exact Tr.jL_comm HRr.out.1 HRr.out.2 _ _ _ HZ.out.1 HZ.out.2)).mono ?_
  rintro e w14 ⟨rfl,hb⟩
  have S14:=Lib.hid (S13.out.below hb)
  have Tx_14:=Lib.hid (Tx_13.out.below hb (Nat.le_refl _))
  clear Tx_13
  have Ty_14:=Lib.hid (Ty_13.out.below hb (Nat.le_refl _))
  clear Ty_13
  have Tp_14:=Lib.hid (Tp_13.out.below hb (Nat.le_refl _))
  clear Tp_13
  have Tq_14:=Lib.hid (Tq_13.out.below hb (Nat.le_refl _))
  clear Tq_13
  have Tl_14:=Lib.hid (Tl_13.out.below hb (Nat.le_refl _))
  clear Tl_13
  have Tc_14:=Lib.hid (Tc_13.out.below hb (Nat.le_refl _))
  clear Tc_13
  have Tn_14:=Lib.hid (Tn_13.out.below hb (Nat.le_refl _))
  clear Tn_13
  have Tt_14:=Lib.hid (Tt_13.out.below hb (Nat.le_refl _))
  clear Tt_13
  have Tu_14:=Lib.hid (Tu_13.out.below hb (Nat.le_refl _))
  clear Tu_13
  have Tv_14:=Lib.hid (Tv_13.out.below hb (Nat.le_refl _))
  clear Tv_13
  clear hb S13
  go_wp2_with fail
  refine (dSame_l Tp_14.out Tq_14.out (S14.out.tz HT.out) (by rw [Ep.out,Eq.out];exact Tr.jL_comm HRr.out.1 HRr.out.2 _ _ _ HZ.out.1 HZ.out.2)).mono ?_
  rintro e w15 ⟨rfl,hb⟩
  have S15:=Lib.hid (S14.out.below hb)
  have Tx_15:=Lib.hid (Tx_14.out.below hb (Nat.le_refl _))
  clear Tx_14
  have Ty_15:=Lib.hid (Ty_14.out.below hb (Nat.le_refl _))
  clear Ty_14
  have Tp_15:=Lib.hid (Tp_14.out.below hb (Nat.le_refl _))
  clear Tp_14
  have Tq_15:=Lib.hid (Tq_14.out.below hb (Nat.le_refl _))
  clear Tq_14
  have Tl_15:=Lib.hid (Tl_14.out.below hb (Nat.le_refl _))
  clear Tl_14
  have Tc_15:=Lib.hid (Tc_14.out.below hb (Nat.le_refl _))
  clear Tc_14
  have Tn_15:=Lib.hid (Tn_14.out.below hb (Nat.le_refl _))
  clear Tn_14
  have Tt_15:=Lib.hid (Tt_14.out.below hb (Nat.le_refl _))
  clear Tt_14
  have Tu_15:=Lib.hid (Tu_14.out.below hb (Nat.le_refl _))
  clear Tu_14
  have Tv_15:=Lib.hid (Tv_14.out.below hb (Nat.le_refl _))
  clear Tv_14
  clear hb S14
  go_wp2_with fail
  refine (dSame_l Tn_15.out S15.out.h0.tree (S15.out.tz HT.out) En.out).mono ?_
  rintro e w16 ⟨rfl,hb⟩
  have S16:=Lib.hid (S15.out.below hb)
  have Tx_16:=Lib.hid (Tx_15.out.below hb (Nat.le_refl _))
  clear Tx_15
  have Ty_16:=Lib.hid (Ty_15.out.below hb (Nat.le_refl _))
  clear Ty_15
  have Tp_16:=Lib.hid (Tp_15.out.below hb (Nat.le_refl _))
  clear Tp_15
  have Tq_16:=Lib.hid (Tq_15.out.below hb (Nat.le_refl _))
  clear Tq_15
  have Tl_16:=Lib.hid (Tl_15.out.below hb (Nat.le_refl _))
  clear Tl_15
  have Tc_16:=Lib.hid (Tc_15.out.below hb (Nat.le_refl _))
  clear Tc_15
  have Tn_16:=Lib.hid (Tn_15.out.below hb (Nat.le_refl _))
  clear Tn_15
  have Tt_16:=Lib.hid (Tt_15.out.below hb (Nat.le_refl _))
  clear Tt_15
  have Tu_16:=Lib.hid (Tu_15.out.below hb (Nat.le_refl _))
  clear Tu_15
  have Tv_16:=Lib.hid (Tv_15.out.below hb (Nat.le_refl _))
  clear Tv_15
  clear hb S15
  go_wp2_with fail
  refine (dSame_l Tv_16.out Tx_16.out (S16.out.tz HT.out) Ev.out).mono ?_
  rintro e w17 ⟨rfl,hb⟩
  have S17:=Lib.hid (S16.out.below hb)
  have Tx_17:=Lib.hid (Tx_16.out.below hb (Nat.le_refl _))
  clear Tx_16
  have Ty_17:=Lib.hid (Ty_16.out.below hb (Nat.le_refl _))
  clear Ty_16
  have Tp_17:=Lib.hid (Tp_16.out.below hb (Nat.le_refl _))
  clear Tp_16
  have Tq_17:=Lib.hid (Tq_16.out.below hb (Nat.le_refl _))
  clear Tq_16
  have Tl_17:=Lib.hid (Tl_16.out.below hb (Nat.le_refl _))
  clear Tl_16
  have Tc_17:=Lib.hid (Tc_16.out.below hb (Nat.le_refl _))
  clear Tc_16
  have Tn_17:=Lib.hid (Tn_16.out.below hb (Nat.le_refl _))
  clear Tn_16
  have Tt_17:=Lib.hid (Tt_16.out.below hb (Nat.le_refl _))
  clear Tt_16
  have Tu_17:=Lib.hid (Tu_16.out.below hb (Nat.le_refl _))
  clear Tu_16
  have Tv_17:=Lib.hid (Tv_16.out.below hb (Nat.le_refl _))
  clear Tv_16
  clear hb S16
  go_wp2_with fail
  go_ret
  exact ⟨rfl,S17.out.bel⟩
theorem setsLaws_c {w:World} {A1 A2:Option Addr} {c1 c2:Nat} {l1 l2:List ActT} (k r:Int) (hT:Tz w) (hA1:ActsT w w.heap.size A1 l1) (hl1:l1.length≤maxLen) (hA2:ActsT w w.heap.size A2 l2) (hl2:l2.length≤maxLen) :
    Calls Tryz.prog 6 #[.int .i64 k,.slice A1 l1.length c1,.slice A2 l2.length c2,.int .i64 r] w fun e w' => e = .returned (.bool true)∧Below w.heap.size w w':=by
  rcases hs:(heavyA 40 l1 || heavyA 40 l2 || decide (k < 1) || decide (16 < k) || decide (r < 3) || decide (6 < r)) with _ | _
  · simp only [Bool.or_eq_false_iff,decide_eq_false_iff_not] at hs
    obtain ⟨⟨⟨⟨⟨h1,h2⟩,a1⟩,a2⟩,a3⟩,a4⟩:=hs
    obtain ⟨k',rfl⟩:∃ k':Nat,k = (k':Int):=⟨k.toNat,by omega⟩
    exact setsLaws_go hT hA1 hl1 hA2 hl2 h1 h2 (by omega) (by omega) (by omega)
  · exact setsLaws_skip k r hT hA1 hl1 hA2 hl2 hs
end Go.Proofs.YtkeepngaaleakaaGreatDoor
