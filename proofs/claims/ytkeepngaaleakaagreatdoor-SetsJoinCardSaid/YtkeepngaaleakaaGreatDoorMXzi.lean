import Derived.Test.YtkeepngaaleakaaGreatDoorMXzg
namespace Go.Proofs.YtkeepngaaleakaaGreatDoor
open Go.ChangeShapes Go.WideShapes Go.ChangeAt Go.RowKit
open Tr (T S4 Ent Tri KL)
set_option maxRecDepth 1000000 in
set_option maxHeartbeats 16000000 in
theorem setsJoin_dim {w:World} {A1 A2:Option Addr} {c1 c2:Nat} {l1 l2:List ActT} {k other:Nat} (r:Int) (hT:Tz w) (hA1:ActsT w w.heap.size A1 l1) (hl1:l1.length≤maxLen) (hA2:ActsT w w.heap.size A2 l2) (hl2:l2.length≤maxLen) (h1:heavyA 40 l1 = false) (h2:heavyA 40 l2 = false) (k1:1≤k) (k16:k≤16) (o1:1≤other) (o16:other≤16) (hne:other≠k) :
    Calls Tryz.prog 4 #[.int .i64 (k:Int),.int .i64 (other:Int),.slice A1 l1.length c1,.slice A2 l2.length c2,.int .i64 r] w fun e w' => e = .returned (.bool true)∧Below w.heap.size w w':=by
  obtain ⟨n1,e1⟩:∃ n,l1.length = n:=⟨_,rfl⟩
  obtain ⟨n2,e2⟩:∃ n,l2.length = n:=⟨_,rfl⟩
  have hf1:=heavyA_few h1
  have hf2:=heavyA_few h2
  have G1:=Lib.hid fun (w1:World) (hb:Below w.heap.size w w1) => rheavy7_c (c:=c1) (hA1.below hb (Nat.le_refl _) (Nat.le_refl _)) hl1 40 false h1
  have G2:=Lib.hid fun (w1:World) (hb:Below w.heap.size w w1) => rheavy7_c (c:=c2) (hA2.below hb (Nat.le_refl _) (Nat.le_refl _)) hl2 40 false h2
  have R1:=Lib.hid fun (w1:World) (hb:Below w.heap.size w w1) => grown_c (c:=c1) k1 k16 (hA1.below hb (Nat.le_refl _) (Nat.le_refl _)) hb.size (by omega)
  have R2:=Lib.hid fun (w1:World) (hb:Below w.heap.size w w1) => grown_c (c:=c2) o1 o16 (hA2.below hb (Nat.le_refl _) (Nat.le_refl _)) hb.size (by omega)
  rw [e1] at G1 R1 hf1
  rw [e2] at G2 R2 hf2
  rw [e1,e2]
  have HT:=Lib.hid hT
  have HK:=Lib.hid (And.intro k1 (And.intro k16 (And.intro hf1 hf2)))
  have d1:decide ((k:Int) < 1) = false:=decide_eq_false (by omega)
  have d2:decide ((16:Int) < (k:Int)) = false:=decide_eq_false (by omega)
  have d2':decide (16 < k) = false:=decide_eq_false (by omega)
  have f1:decide ((other:Int) < 1) = false:=decide_eq_false (by omega)
  have f2:decide ((16:Int) < (other:Int)) = false:=decide_eq_false (by omega)
  have f2':decide (16 < other) = false:=decide_eq_false (by omega)
  have b0:((k:Int) != (other:Int)) = true:=by rw [bne_iff_ne];omega
  have b0':((k:Int) == (other:Int)) = false:=by rw [beq_eq_false_iff_ne];omega
  have b1:(k != other) = true:=by rw [bne_iff_ne];omega
  have b1':(k == other) = false:=by rw [beq_eq_false_iff_ne];omega
  have HNE:=Lib.hid hne
  clear hT hA1 hl1 hA2 hl2 h1 h2 hf1 hf2 e1 e2 k1 k16 o1 o16 hne
  go_enter Tryz.func4,Tryz.ntmps4
  go_wp2_with fail
  refine (awake15_c w HT.out).mono ?_
  rintro e w0 ⟨rfl,hb0⟩
  have B0:=Lib.hid hb0
  clear hb0
  go_wp2_with fail
  refine (G1.out w0 B0.out).mono ?_
  rintro e w' ⟨rfl,rfl⟩
  clear G1
  go_wp2_with fail
  refine (G2.out w0 B0.out).mono ?_
  rintro e w' ⟨rfl,rfl⟩
  clear G2
  go_wp2_with fail
  refine (R1.out w0 B0.out).mono ?_
  rintro e w1 ⟨b0,o0,D0,q0,rfl,hd0,-,hb1⟩
  obtain ⟨N0,hN0⟩:∃ N,(Tr.entsO o0).length = N:=⟨_,rfl⟩
  have B1:=Lib.hid (Below.andThen B0.out hb1)
  have HD0:=Lib.hid hd0
  rw [hN0]
  clear hb1 hd0 R1
  go_wp2_with fail
  refine (R2.out w1 B1.out).mono ?_
  rintro e w2 ⟨b1,o1,D1,q1,rfl,hd1,-,hb2⟩
  obtain ⟨N1,hN1⟩:∃ N,(Tr.entsO o1).length = N:=⟨_,rfl⟩
  have S2:=Lib.hid (St2.mk (HD0.out.below hb2) hd1 (Below.andThen B1.out hb2))
  have z0:N0≤40:=by have h:=HD0.out.few;rw [hN0] at h;have:=HK.out;omega
  have z1:N1≤40:=by have h:=hd1.few;rw [hN1] at h;have:=HK.out;omega
  have c0:N0≤q0:=by rw [← hN0];exact HD0.out.cap
  have c1':N1≤q1:=by rw [← hN1];exact hd1.cap
  have HN:=Lib.hid (And.intro hN0 (And.intro hN1 (And.intro z0 (And.intro z1 (And.intro c0 c1')))))
  have HZ:=Lib.hid (And.intro (zdX S2.out.h0.tree) (zdX S2.out.h1.tree))
  have HL:Hid ((Tr.entsO o0).length + (Tr.entsO o1).length≤80):=Lib.hid (by rw [hN0,hN1];omega)
  rw [hN1]
  clear hb2 hd1 R2 HD0 B1 B0 hN0 hN1 z0 z1 c0 c1'
  go_wp2_with fail
  refine (sUnion_dim S2.out.h0.tree S2.out.h1.tree HNE.out r).mono ?_
  rintro e w3 ⟨rfl,hb⟩
  have S3:=Lib.hid (S2.out.below hb)
  clear hb S2
  go_wp2_with fail
  refine (sCommon_dim S3.out.h0.tree S3.out.h1.tree HNE.out r).mono ?_
  rintro e w4 ⟨rfl,hb⟩
  have S4:=Lib.hid (S3.out.below hb)
  clear hb S3
  go_wp2_with fail
  refine (sLess_dim S4.out.h0.tree S4.out.h1.tree HNE.out).mono ?_
  rintro e w5 ⟨rfl,hb⟩
  have S5:=Lib.hid (S4.out.below hb)
  clear hb S4
  have h9:=tptrS_nn
  go_wp2_with fail
  go_ret
  exact ⟨rfl,S5.out.bel⟩
set_option maxRecDepth 1000000 in
set_option maxHeartbeats 16000000 in
theorem setsJoin_kind {w:World} {A1 A2:Option Addr} {c1 c2:Nat} {l1 l2:List ActT} {k:Nat} {r:Int} (hT:Tz w) (hA1:ActsT w w.heap.size A1 l1) (hl1:l1.length≤maxLen) (hA2:ActsT w w.heap.size A2 l2) (hl2:l2.length≤maxLen) (h1:heavyA 40 l1 = false) (h2:heavyA 40 l2 = false) (k1:1≤k) (k16:k≤16) (hr:r < 1∨6 < r) :
    Calls Tryz.prog 4 #[.int .i64 (k:Int),.int .i64 (k:Int),.slice A1 l1.length c1,.slice A2 l2.length c2,.int .i64 r] w fun e w' => e = .returned (.bool true)∧Below w.heap.size w w':=by
  obtain ⟨n1,e1⟩:∃ n,l1.length = n:=⟨_,rfl⟩
  obtain ⟨n2,e2⟩:∃ n,l2.length = n:=⟨_,rfl⟩
  have hf1:=heavyA_few h1
  have hf2:=heavyA_few h2
  have G1:=Lib.hid fun (w1:World) (hb:Below w.heap.size w w1) => rheavy7_c (c:=c1) (hA1.below hb (Nat.le_refl _) (Nat.le_refl _)) hl1 40 false h1
  have G2:=Lib.hid fun (w1:World) (hb:Below w.heap.size w w1) => rheavy7_c (c:=c2) (hA2.below hb (Nat.le_refl _) (Nat.le_refl _)) hl2 40 false h2
  have R1:=Lib.hid fun (w1:World) (hb:Below w.heap.size w w1) => grown_c (c:=c1) k1 k16 (hA1.below hb (Nat.le_refl _) (Nat.le_refl _)) hb.size (by omega)
  have R2:=Lib.hid fun (w1:World) (hb:Below w.heap.size w w1) => grown_c (c:=c2) k1 k16 (hA2.below hb (Nat.le_refl _) (Nat.le_refl _)) hb.size (by omega)
  rw [e1] at G1 R1 hf1
  rw [e2] at G2 R2 hf2
  rw [e1,e2]
  have HT:=Lib.hid hT
  have HK:=Lib.hid (And.intro k1 (And.intro k16 (And.intro hf1 hf2)))
  have d1:decide ((k:Int) < 1) = false:=decide_eq_false (by omega)
  have d2:decide ((16:Int) < (k:Int)) = false:=decide_eq_false (by omega)
  have d2':decide (16 < k) = false:=decide_eq_false (by omega)
  have b0:((k:Int) != (k:Int)) = false:=by simp
  obtain ⟨y1,hy1⟩:∃ b,decide (r < 1) = b:=⟨_,rfl⟩
  obtain ⟨y2,hy2⟩:∃ b,decide (6 < r) = b:=⟨_,rfl⟩
  have HY:Hid ((y1 || y2) = true):=Lib.hid (by rw [← hy1,← hy2];simpa using hr)
  have HRr:=Lib.hid hr
  clear hT hA1 hl1 hA2 hl2 h1 h2 hf1 hf2 e1 e2 k1 k16 hr
  go_enter Tryz.func4,Tryz.ntmps4
  go_wp2_with fail
  refine (awake15_c w HT.out).mono ?_
  rintro e w0 ⟨rfl,hb0⟩
  have B0:=Lib.hid hb0
  clear hb0
  go_wp2_with fail
  refine (G1.out w0 B0.out).mono ?_
  rintro e w' ⟨rfl,rfl⟩
  clear G1
  go_wp2_with fail
  refine (G2.out w0 B0.out).mono ?_
  rintro e w' ⟨rfl,rfl⟩
  clear G2
  go_wp2_with fail
  refine (R1.out w0 B0.out).mono ?_
  rintro e w1 ⟨b0,o0,D0,q0,rfl,hd0,-,hb1⟩
  obtain ⟨N0,hN0⟩:∃ N,(Tr.entsO o0).length = N:=⟨_,rfl⟩
  have B1:=Lib.hid (Below.andThen B0.out hb1)
  have HD0:=Lib.hid hd0
  rw [hN0]
  clear hb1 hd0 R1
  go_wp2_with fail
  refine (R2.out w1 B1.out).mono ?_
  rintro e w2 ⟨b1,o1,D1,q1,rfl,hd1,-,hb2⟩
  obtain ⟨N1,hN1⟩:∃ N,(Tr.entsO o1).length = N:=⟨_,rfl⟩
  have S2:=Lib.hid (St2.mk (HD0.out.below hb2) hd1 (Below.andThen B1.out hb2))
  have z0:N0≤40:=by have h:=HD0.out.few;rw [hN0] at h;have:=HK.out;omega
  have z1:N1≤40:=by have h:=hd1.few;rw [hN1] at h;have:=HK.out;omega
  have c0:N0≤q0:=by rw [← hN0];exact HD0.out.cap
  have c1':N1≤q1:=by rw [← hN1];exact hd1.cap
  have HN:=Lib.hid (And.intro hN0 (And.intro hN1 (And.intro z0 (And.intro z1 (And.intro c0 c1')))))
  have HZ:=Lib.hid (And.intro (zdX S2.out.h0.tree) (zdX S2.out.h1.tree))
  have HL:Hid ((Tr.entsO o0).length + (Tr.entsO o1).length≤80):=Lib.hid (by rw [hN0,hN1];omega)
  rw [hN1]
  clear hb2 hd1 R2 HD0 B1 B0 hN0 hN1 z0 z1 c0 c1'
  obtain ⟨L3,hL3⟩:∃ n,(Tr.jL 1 true false false (Tr.entsO o0) (Tr.entsO o1)).length = n:=⟨_,rfl⟩
  have HL3:=Lib.hid hL3
  have HB3:Hid (L3≤80):=Lib.hid (by rw [← hL3];exact Nat.le_trans (Tr.jL_len _ _ _ _ HZ.out.1 HZ.out.2) HL.out)
  clear hL3
  go_wp2_with fail
  refine (sUnion_kind S2.out.h0.tree S2.out.h1.tree HRr.out).mono ?_
  rintro e w3 ⟨rfl,hb⟩
  have S3:=Lib.hid (S2.out.below hb)
  clear hb S2
  go_wp2_with fail
  refine (sCommon_kind S3.out.h0.tree S3.out.h1.tree HRr.out).mono ?_
  rintro e w4 ⟨rfl,hb⟩
  have S4:=Lib.hid (S3.out.below hb)
  clear hb S3
  go_wp2_with fail
  refine (sLess_s S4.out.h0.tree S4.out.h1.tree (S4.out.tz HT.out) (by have:=HL.out;omega)).mono ?_
  rintro e w5 ⟨gz,oz,rfl,ht,he,hb⟩
  have S5:=Lib.hid (S4.out.below hb)
  have Tz:=Lib.hid ht
  have Ez:Hid (Tr.entsO oz = Tr.jL 1 true false false (Tr.entsO o0) (Tr.entsO o1)):=Lib.hid (by exact he)
  clear ht he
  clear hb S4
  go_wp2_with fail
  refine (r15join_c (c:=q0) (c':=q1) HZ.out.1 HZ.out.2 S5.out.e0 S5.out.e1 HN.out.1 HN.out.2.1 HN.out.2.2.2.2.1 HK.out.1 HK.out.2.1 (by have:=HN.out;omega) (r:=1) (by decide) true false false rfl (N:=L3) HL3.out).mono ?_
  rintro e w6 ⟨P3,p3,rfl,hE,hp,hb⟩
  have S6:=Lib.hid (S5.out.below hb)
  have Tz_6:=Lib.hid (Tz.out.below hb (Nat.le_refl _))
  clear Tz
  have Q3:=Lib.hid hE
  have C3:=Lib.hid hp
  clear hE hp
  clear hb S5
  go_wp2_with fail
  refine (is7_n (c:=p3) Tz_6.out (S6.out.tz HT.out) Q3.out Ez.out HL3.out C3.out (by have:=HB3.out;omega)).mono ?_
  rintro e w7 ⟨rfl,hb⟩
  have S7:=Lib.hid (S6.out.below hb)
  have Tz_7:=Lib.hid (Tz_6.out.below hb (Nat.le_refl _))
  clear Tz_6
  have Q3_7:=Lib.hid (Q3.out.below hb (Nat.le_refl _) hb.size)
  clear Q3
  clear hb S6
  have h9:=tptrS_nn
  have HY1:=HY.out
  clear HY
  cases y1 with
  | true =>
    clear HY1
    go_wp2_with fail
    go_ret
    exact ⟨rfl,S7.out.bel⟩
  | false =>
    cases y2 with
    | false => exact absurd HY1 (by decide)
    | true =>
      clear HY1
      go_wp2_with fail
      go_ret
      exact ⟨rfl,S7.out.bel⟩
set_option maxRecDepth 1000000 in
set_option maxHeartbeats 16000000 in
theorem setsJoin_go {w:World} {A1 A2:Option Addr} {c1 c2:Nat} {l1 l2:List ActT} {k:Nat} {r:Int} (hT:Tz w) (hA1:ActsT w w.heap.size A1 l1) (hl1:l1.length≤maxLen) (hA2:ActsT w w.heap.size A2 l2) (hl2:l2.length≤maxLen) (h1:heavyA 40 l1 = false) (h2:heavyA 40 l2 = false) (k1:1≤k) (k16:k≤16) (hr:1≤r∧r≤6) :
    Calls Tryz.prog 4 #[.int .i64 (k:Int),.int .i64 (k:Int),.slice A1 l1.length c1,.slice A2 l2.length c2,.int .i64 r] w fun e w' => e = .returned (.bool true)∧Below w.heap.size w w':=by
  obtain ⟨n1,e1⟩:∃ n,l1.length = n:=⟨_,rfl⟩
  obtain ⟨n2,e2⟩:∃ n,l2.length = n:=⟨_,rfl⟩
  have hf1:=heavyA_few h1
  have hf2:=heavyA_few h2
  have G1:=Lib.hid fun (w1:World) (hb:Below w.heap.size w w1) => rheavy7_c (c:=c1) (hA1.below hb (Nat.le_refl _) (Nat.le_refl _)) hl1 40 false h1
  have G2:=Lib.hid fun (w1:World) (hb:Below w.heap.size w w1) => rheavy7_c (c:=c2) (hA2.below hb (Nat.le_refl _) (Nat.le_refl _)) hl2 40 false h2
  have R1:=Lib.hid fun (w1:World) (hb:Below w.heap.size w w1) => grown_c (c:=c1) k1 k16 (hA1.below hb (Nat.le_refl _) (Nat.le_refl _)) hb.size (by omega)
  have R2:=Lib.hid fun (w1:World) (hb:Below w.heap.size w w1) => grown_c (c:=c2) k1 k16 (hA2.below hb (Nat.le_refl _) (Nat.le_refl _)) hb.size (by omega)
  rw [e1] at G1 R1 hf1
  rw [e2] at G2 R2 hf2
  rw [e1,e2]
  have HT:=Lib.hid hT
  have HK:=Lib.hid (And.intro k1 (And.intro k16 (And.intro hf1 hf2)))
  have d1:decide ((k:Int) < 1) = false:=decide_eq_false (by omega)
  have d2:decide ((16:Int) < (k:Int)) = false:=decide_eq_false (by omega)
  have d2':decide (16 < k) = false:=decide_eq_false (by omega)
  have b0:((k:Int) != (k:Int)) = false:=by simp
  have y1:decide (r < 1) = false:=decide_eq_false (by omega)
  have y2:decide (6 < r) = false:=decide_eq_false (by omega)
  have HRr:=Lib.hid hr
  clear hT hA1 hl1 hA2 hl2 h1 h2 hf1 hf2 e1 e2 k1 k16 hr
  go_enter Tryz.func4,Tryz.ntmps4
  go_wp2_with fail
  refine (awake15_c w HT.out).mono ?_
  rintro e w0 ⟨rfl,hb0⟩
  have B0:=Lib.hid hb0
  clear hb0
  go_wp2_with fail
  refine (G1.out w0 B0.out).mono ?_
  rintro e w' ⟨rfl,rfl⟩
  clear G1
  go_wp2_with fail
  refine (G2.out w0 B0.out).mono ?_
  rintro e w' ⟨rfl,rfl⟩
  clear G2
  go_wp2_with fail
  refine (R1.out w0 B0.out).mono ?_
  rintro e w1 ⟨b0,o0,D0,q0,rfl,hd0,-,hb1⟩
  obtain ⟨N0,hN0⟩:∃ N,(Tr.entsO o0).length = N:=⟨_,rfl⟩
  have B1:=Lib.hid (Below.andThen B0.out hb1)
  have HD0:=Lib.hid hd0
  rw [hN0]
  clear hb1 hd0 R1
  go_wp2_with fail
  refine (R2.out w1 B1.out).mono ?_
  rintro e w2 ⟨b1,o1,D1,q1,rfl,hd1,-,hb2⟩
  obtain ⟨N1,hN1⟩:∃ N,(Tr.entsO o1).length = N:=⟨_,rfl⟩
  have S2:=Lib.hid (St2.mk (HD0.out.below hb2) hd1 (Below.andThen B1.out hb2))
  have z0:N0≤40:=by have h:=HD0.out.few;rw [hN0] at h;have:=HK.out;omega
  have z1:N1≤40:=by have h:=hd1.few;rw [hN1] at h;have:=HK.out;omega
  have c0:N0≤q0:=by rw [← hN0];exact HD0.out.cap
  have c1':N1≤q1:=by rw [← hN1];exact hd1.cap
  have HN:=Lib.hid (And.intro hN0 (And.intro hN1 (And.intro z0 (And.intro z1 (And.intro c0 c1')))))
  have HZ:=Lib.hid (And.intro (zdX S2.out.h0.tree) (zdX S2.out.h1.tree))
  have HL:Hid ((Tr.entsO o0).length + (Tr.entsO o1).length≤80):=Lib.hid (by rw [hN0,hN1];omega)
  rw [hN1]
  clear hb2 hd1 R2 HD0 B1 B0 hN0 hN1 z0 z1 c0 c1'
  obtain ⟨L3,hL3⟩:∃ n,(Tr.jL 1 true false false (Tr.entsO o0) (Tr.entsO o1)).length = n:=⟨_,rfl⟩
  have HL3:=Lib.hid hL3
  have HB3:Hid (L3≤80):=Lib.hid (by rw [← hL3];exact Nat.le_trans (Tr.jL_len _ _ _ _ HZ.out.1 HZ.out.2) HL.out)
  clear hL3
  obtain ⟨L1,hL1⟩:∃ n,(Tr.jL r true true true (Tr.entsO o0) (Tr.entsO o1)).length = n:=⟨_,rfl⟩
  have HL1:=Lib.hid hL1
  have HB1:Hid (L1≤80):=Lib.hid (by rw [← hL1];exact Nat.le_trans (Tr.jL_len _ _ _ _ HZ.out.1 HZ.out.2) HL.out)
  clear hL1
  obtain ⟨L2,hL2⟩:∃ n,(Tr.jL r false false true (Tr.entsO o0) (Tr.entsO o1)).length = n:=⟨_,rfl⟩
  have HL2:=Lib.hid hL2
  have HB2:Hid (L2≤80):=Lib.hid (by rw [← hL2];exact Nat.le_trans (Tr.jL_len _ _ _ _ HZ.out.1 HZ.out.2) HL.out)
  clear hL2
  go_wp2_with fail
  refine (sUnion_s S2.out.h0.tree S2.out.h1.tree r HRr.out (S2.out.tz HT.out) (by have:=HL.out;omega)).mono ?_
  rintro e w3 ⟨gx,ox,rfl,ht,he,hb⟩
  have S3:=Lib.hid (S2.out.below hb)
  have Tx:=Lib.hid ht
  have Ex:Hid (Tr.entsO ox = Tr.jL r true true true (Tr.entsO o0) (Tr.entsO o1)):=Lib.hid (by exact he)
  clear ht he
  clear hb S2
  go_wp2_with fail
  refine (sCommon_s S3.out.h0.tree S3.out.h1.tree r HRr.out (S3.out.tz HT.out) (by have:=HL.out;omega)).mono ?_
  rintro e w4 ⟨gy,oy,rfl,ht,he,hb⟩
  have S4:=Lib.hid (S3.out.below hb)
  have Tx_4:=Lib.hid (Tx.out.below hb (Nat.le_refl _))
  clear Tx
  have Ty:=Lib.hid ht
  have Ey:Hid (Tr.entsO oy = Tr.jL r false false true (Tr.entsO o0) (Tr.entsO o1)):=Lib.hid (by exact he)
  clear ht he
  clear hb S3
  go_wp2_with fail
  refine (sLess_s S4.out.h0.tree S4.out.h1.tree (S4.out.tz HT.out) (by have:=HL.out;omega)).mono ?_
  rintro e w5 ⟨gz,oz,rfl,ht,he,hb⟩
  have S5:=Lib.hid (S4.out.below hb)
  have Tx_5:=Lib.hid (Tx_4.out.below hb (Nat.le_refl _))
  clear Tx_4
  have Ty_5:=Lib.hid (Ty.out.below hb (Nat.le_refl _))
  clear Ty
  have Tz:=Lib.hid ht
  have Ez:Hid (Tr.entsO oz = Tr.jL 1 true false false (Tr.entsO o0) (Tr.entsO o1)):=Lib.hid (by exact he)
  clear ht he
  clear hb S4
  go_wp2_with fail
  refine (r15join_c (c:=q0) (c':=q1) HZ.out.1 HZ.out.2 S5.out.e0 S5.out.e1 HN.out.1 HN.out.2.1 HN.out.2.2.2.2.1 HK.out.1 HK.out.2.1 (by have:=HN.out;omega) (r:=1) (by decide) true false false rfl (N:=L3) HL3.out).mono ?_
  rintro e w6 ⟨P3,p3,rfl,hE,hp,hb⟩
  have S6:=Lib.hid (S5.out.below hb)
  have Tx_6:=Lib.hid (Tx_5.out.below hb (Nat.le_refl _))
  clear Tx_5
  have Ty_6:=Lib.hid (Ty_5.out.below hb (Nat.le_refl _))
  clear Ty_5
  have Tz_6:=Lib.hid (Tz.out.below hb (Nat.le_refl _))
  clear Tz
  have Q3:=Lib.hid hE
  have C3:=Lib.hid hp
  clear hE hp
  clear hb S5
  go_wp2_with fail
  refine (is7_n (c:=p3) Tz_6.out (S6.out.tz HT.out) Q3.out Ez.out HL3.out C3.out (by have:=HB3.out;omega)).mono ?_
  rintro e w7 ⟨rfl,hb⟩
  have S7:=Lib.hid (S6.out.below hb)
  have Tx_7:=Lib.hid (Tx_6.out.below hb (Nat.le_refl _))
  clear Tx_6
  have Ty_7:=Lib.hid (Ty_6.out.below hb (Nat.le_refl _))
  clear Ty_6
  have Tz_7:=Lib.hid (Tz_6.out.below hb (Nat.le_refl _))
  clear Tz_6
  have Q3_7:=Lib.hid (Q3.out.below hb (Nat.le_refl _) hb.size)
  clear Q3
  clear hb S6
  go_wp2_with fail
  refine (r15join_c (c:=q0) (c':=q1) HZ.out.1 HZ.out.2 S7.out.e0 S7.out.e1 HN.out.1 HN.out.2.1 HN.out.2.2.2.2.1 HK.out.1 HK.out.2.1 (by have:=HN.out;omega) (r:=r) HRr.out true true true rfl (N:=L1) HL1.out).mono ?_
  rintro e w8 ⟨P1,p1,rfl,hE,hp,hb⟩
  have S8:=Lib.hid (S7.out.below hb)
  have Tx_8:=Lib.hid (Tx_7.out.below hb (Nat.le_refl _))
  clear Tx_7
  have Ty_8:=Lib.hid (Ty_7.out.below hb (Nat.le_refl _))
  clear Ty_7
  have Tz_8:=Lib.hid (Tz_7.out.below hb (Nat.le_refl _))
  clear Tz_7
  have Q3_8:=Lib.hid (Q3_7.out.below hb (Nat.le_refl _) hb.size)
  clear Q3_7
  have Q1:=Lib.hid hE
  have C1:=Lib.hid hp
  clear hE hp
  clear hb S7
  go_wp2_with fail
  refine (is7_n (c:=p1) Tx_8.out (S8.out.tz HT.out) Q1.out Ex.out HL1.out C1.out (by have:=HB1.out;omega)).mono ?_
  rintro e w9 ⟨rfl,hb⟩
  have S9:=Lib.hid (S8.out.below hb)
  have Tx_9:=Lib.hid (Tx_8.out.below hb (Nat.le_refl _))
  clear Tx_8
  have Ty_9:=Lib.hid (Ty_8.out.below hb (Nat.le_refl _))
  clear Ty_8
  have Tz_9:=Lib.hid (Tz_8.out.below hb (Nat.le_refl _))
  clear Tz_8
  have Q3_9:=Lib.hid (Q3_8.out.below hb (Nat.le_refl _) hb.size)
  clear Q3_8
  have Q1_9:=Lib.hid (Q1.out.below hb (Nat.le_refl _) hb.size)
  clear Q1
  clear hb S8
  go_wp2_with fail
  refine (r15join_c (c:=q0) (c':=q1) HZ.out.1 HZ.out.2 S9.out.e0 S9.out.e1 HN.out.1 HN.out.2.1 HN.out.2.2.2.2.1 HK.out.1 HK.out.2.1 (by have:=HN.out;omega) (r:=r) HRr.out false false true rfl (N:=L2) HL2.out).mono ?_
  rintro e w10 ⟨P2,p2,rfl,hE,hp,hb⟩
  have S10:=Lib.hid (S9.out.below hb)
  have Tx_10:=Lib.hid (Tx_9.out.below hb (Nat.le_refl _))
  clear Tx_9
  have Ty_10:=Lib.hid (Ty_9.out.below hb (Nat.le_refl _))
  clear Ty_9
  have Tz_10:=Lib.hid (Tz_9.out.below hb (Nat.le_refl _))
  clear Tz_9
  have Q3_10:=Lib.hid (Q3_9.out.below hb (Nat.le_refl _) hb.size)
  clear Q3_9
  have Q1_10:=Lib.hid (Q1_9.out.below hb (Nat.le_refl _) hb.size)
  clear Q1_9
  have Q2:=Lib.hid hE
  have C2:=Lib.hid hp
  clear hE hp
  clear hb S9
  go_wp2_with fail
  refine (is7_n (c:=p2) Ty_10.out (S10.out.tz HT.out) Q2.out Ey.out HL2.out C2.out (by have:=HB2.out;omega)).mono ?_
  rintro e w11 ⟨rfl,hb⟩
  have S11:=Lib.hid (S10.out.below hb)
  have Tx_11:=Lib.hid (Tx_10.out.below hb (Nat.le_refl _))
  clear Tx_10
  have Ty_11:=Lib.hid (Ty_10.out.below hb (Nat.le_refl _))
  clear Ty_10
  have Tz_11:=Lib.hid (Tz_10.out.below hb (Nat.le_refl _))
  clear Tz_10
  have Q3_11:=Lib.hid (Q3_10.out.below hb (Nat.le_refl _) hb.size)
  clear Q3_10
  have Q1_11:=Lib.hid (Q1_10.out.below hb (Nat.le_refl _) hb.size)
  clear Q1_10
  have Q2_11:=Lib.hid (Q2.out.below hb (Nat.le_refl _) hb.size)
  clear Q2
  clear hb S10
  go_wp2_with fail
  refine (is7_n (c:=q0) S11.out.h0.tree (S11.out.tz HT.out) S11.out.e0 rfl HN.out.1 HN.out.2.2.2.2.1 (by have:=HN.out;omega)).mono ?_
  rintro e w12 ⟨rfl,hb⟩
  have S12:=Lib.hid (S11.out.below hb)
  have Tx_12:=Lib.hid (Tx_11.out.below hb (Nat.le_refl _))
  clear Tx_11
  have Ty_12:=Lib.hid (Ty_11.out.below hb (Nat.le_refl _))
  clear Ty_11
  have Tz_12:=Lib.hid (Tz_11.out.below hb (Nat.le_refl _))
  clear Tz_11
  have Q3_12:=Lib.hid (Q3_11.out.below hb (Nat.le_refl _) hb.size)
  clear Q3_11
  have Q1_12:=Lib.hid (Q1_11.out.below hb (Nat.le_refl _) hb.size)
  clear Q1_11
  have Q2_12:=Lib.hid (Q2_11.out.below hb (Nat.le_refl _) hb.size)
  clear Q2_11
  clear hb S11
  go_wp2_with fail
  refine (is7_n (c:=q1) S12.out.h1.tree (S12.out.tz HT.out) S12.out.e1 rfl HN.out.2.1 HN.out.2.2.2.2.2 (by have:=HN.out;omega)).mono ?_
  rintro e w13 ⟨rfl,hb⟩
  have S13:=Lib.hid (S12.out.below hb)
  have Tx_13:=Lib.hid (Tx_12.out.below hb (Nat.le_refl _))
  clear Tx_12
  have Ty_13:=Lib.hid (Ty_12.out.below hb (Nat.le_refl _))
  clear Ty_12
  have Tz_13:=Lib.hid (Tz_12.out.below hb (Nat.le_refl _))
  clear Tz_12
  have Q3_13:=Lib.hid (Q3_12.out.below hb (Nat.le_refl _) hb.size)
  clear Q3_12
  have Q1_13:=Lib.hid (Q1_12.out.below hb (Nat.le_refl _) hb.size)
  clear Q1_12
  have Q2_13:=Lib.hid (Q2_12.out.below hb (Nat.le_refl _) hb.size)
  clear Q2_12
  clear hb S12
  go_wp2_with fail
  go_ret
  exact ⟨rfl,S13.out.bel⟩
theorem setsJoin_c {w:World} {A1 A2:Option Addr} {c1 c2:Nat} {l1 l2:List ActT} (k other r:Int) (hT:Tz w) (hA1:ActsT w w.heap.size A1 l1) (hl1:l1.length≤maxLen) (hA2:ActsT w w.heap.size A2 l2) (hl2:l2.length≤maxLen) :
    Calls Tryz.prog 4 #[.int .i64 k,.int .i64 other,.slice A1 l1.length c1,.slice A2 l2.length c2,.int .i64 r] w fun e w' => e = .returned (.bool true)∧Below w.heap.size w w':=by
  rcases hs:(heavyA 40 l1 || heavyA 40 l2 || decide (k < 1) || decide (16 < k) || decide (other < 1) || decide (16 < other)) with _ | _
  · simp only [Bool.or_eq_false_iff,decide_eq_false_iff_not] at hs
    obtain ⟨⟨⟨⟨⟨h1,h2⟩,a1⟩,a2⟩,a3⟩,a4⟩:=hs
    obtain ⟨k',rfl⟩:∃ k':Nat,k = (k':Int):=⟨k.toNat,by omega⟩
    obtain ⟨o',rfl⟩:∃ o':Nat,other = (o':Int):=⟨other.toNat,by omega⟩
    by_cases hne:o' = k'
    · subst hne
      by_cases hr:1≤r∧r≤6
      · exact setsJoin_go hT hA1 hl1 hA2 hl2 h1 h2 (by omega) (by omega) hr
      · exact setsJoin_kind hT hA1 hl1 hA2 hl2 h1 h2 (by omega) (by omega) (by omega)
    · exact setsJoin_dim r hT hA1 hl1 hA2 hl2 h1 h2 (by omega) (by omega) (by omega) (by omega) hne
  · exact setsJoin_skip k other r hT hA1 hl1 hA2 hl2 hs
end Go.Proofs.YtkeepngaaleakaaGreatDoor
