import Derived.Test.YtmkejbfgdmbejaaGreatDoorMVd
import Derived.Test.YtmkejbfgdmbejaaGreatDoorMVc
namespace Go.Proofs.YtmkejbfgdmbejaaGreatDoor
open Go.ChangeShapes Go.WideShapes Go.ChangeAt Go.RowKit
open Tr (T S4 Ent Tri KL)
theorem NewK.cks {base:Nat} {w:World} {A:Option Addr} {c:Nat} {L:List Cls} (h:NewK base w A c L):Cks w A L:=clG_own h
def clEx:List Cls:=[([4,0],(some 3,some 5,none))]
theorem clEx_eq:Tr.ppL Tr.clG (Tr.putE [4,0] 3 []) (Tr.putE [4,0] 5 []) [] = clEx:=by decide +kernel
theorem mgEx_eq:Tr.getE (Tr.ppL (Tr.mgG 5) (Tr.putE [4,0] 3 []) (Tr.putE [4,0] 5 []) []) [4,0] = some 5:=by decide +kernel
set_option maxRecDepth 100000 in
set_option maxHeartbeats 4000000 in
theorem awake14_c (w:World) (hT:Tz w):Calls Tryz.prog 18 #[] w fun e w' => e = .returned (.bool true)∧Below w.heap.size w w':=by
  obtain ⟨W0,hW0⟩:∃ W0,W0 = w.alloc (.cells #[.int .u64 4,.int .u64 0] 64):=⟨_,rfl⟩
  have HP:Hid (∀ w1,Below W0.heap.size W0 w1→Pts w1 w1.heap.size (some ⟨w.heap.size,0,none⟩) [4,0]):=Lib.hid (by rw [hW0];exact fun w1 hb => pts_two' 4 0 (by decide) (by decide) hb)
  have HB0:=Lib.hid (show Below w.heap.size w W0 by rw [hW0];exact below_alloc _ _)
  have HT:=Lib.hid hT
  have HW0:=Lib.hid hW0
  clear hT hW0
  go_enter Tryz.func18,Tryz.ntmps18
  go_upto_region 2 with fail
  rw [← HW0.out]
  clear HW0
  obtain ⟨g0,hg0⟩:∃ g,w.heap.size = g:=⟨_,rfl⟩
  rw [hg0] at HP ⊢
  go_wp2_with fail
  refine (tNew_c 2 W0 (by decide) (by decide)).mono ?_
  rintro e w1 ⟨rfl,ht1,hb1⟩
  obtain ⟨g1,hg1⟩:∃ g,W0.heap.size = g:=⟨_,rfl⟩
  have B1:=Lib.hid hb1
  rw [hg1] at ht1 ⊢
  have T1:=Lib.hid ht1
  clear ht1 hb1 hg1 hg0
  go_wp2_with fail
  refine (tPut_new T1.out (HP.out w1 B1.out) rfl (c:=2) 3 (by decide) (by simp [Tr.entsO]) (by decide +kernel)).mono ?_
  rintro e w2 ⟨n2,t2,rfl,ht2,he2,hb2⟩
  have T2:=Lib.hid ht2
  have E2:=Lib.hid he2
  have T1':=Lib.hid (T1.out.below hb2 (Nat.le_refl _))
  have B2:=Lib.hid (Below.andThen B1.out hb2)
  clear ht2 he2 hb2 T1
  go_wp2_with fail
  refine (tPut_new T1'.out (HP.out w2 B2.out) rfl (c:=2) 5 (by decide) (by simp [Tr.entsO]) (by decide +kernel)).mono ?_
  rintro e w3 ⟨n3,t3,rfl,ht3,he3,hb3⟩
  have T3:=Lib.hid ht3
  have E3:=Lib.hid he3
  have T1:=Lib.hid (T1'.out.below hb3 (Nat.le_refl _))
  have T2':=Lib.hid (T2.out.below hb3 (Nat.le_refl _))
  have B3:=Lib.hid (Below.andThen B2.out hb3)
  clear ht3 he3 hb3 T1' T2
  have hC:Tr.ppT Tr.clG ⟨some t2,some t3,none⟩ = clEx:=by
    show Tr.ppL Tr.clG t2.ents t3.ents [] = clEx
    rw [E2.out,E3.out]
    exact clEx_eq
  have hG:Tr.getE (Tr.ppT (Tr.mgG 5) ⟨some t2,some t3,none⟩) [4,0] = some 5:=by
    show Tr.getE (Tr.ppL (Tr.mgG 5) t2.ents t3.ents []) [4,0] = some 5
    rw [E2.out,E3.out]
    exact mgEx_eq
  have hcn:cnt3 ⟨some t2,some t3,none⟩≤1000:=by
    show t2.ents.length + t3.ents.length + 0≤1000
    rw [E2.out,E3.out]
    decide +kernel
  have HC:=Lib.hid (And.intro hC (And.intro hG hcn))
  clear hC hG hcn E2 E3
  have HTz:=Lib.hid fun (w':World) (hb:Below w3.heap.size w3 w') => (HT.out.on HB0.out).on (Below.andThen B3.out hb)
  go_wp2_with fail
  refine (mThree_conflict (t:=⟨some t2,some t3,none⟩) T2'.out T3.out T1.out HTz.out HC.out.1 (by decide) (by have:=HC.out.2.2;omega) (n:=1) rfl (by decide)).mono ?_
  rintro e w4 ⟨X,x,rfl,hnew,hb4⟩
  obtain ⟨b,off,P,n,rfl,hbl,hc⟩:=hnew.cks.at (i:=0) (c:=([4,0],(some 3,some 5,none))) rfl
  have HK:=Lib.hid (And.intro hbl hc)
  have T1':=Lib.hid (T1.out.below hb4 (Nat.le_refl _))
  have T2:=Lib.hid (T2'.out.below hb4 (Nat.le_refl _))
  have T3':=Lib.hid (T3.out.below hb4 (Nat.le_refl _))
  have B4:=Lib.hid (Below.andThen B3.out hb4)
  clear hnew hb4 hbl hc T1 T2' T3
  go_wp2_with fail
  refine (mByT_c (t:=⟨some t2,some t3,none⟩) (r:=5) T2.out T3'.out T1'.out (by decide) (by decide) (fun w' hb => (HT.out.on HB0.out).on (Below.andThen B4.out hb)) HC.out.1 (by decide) (by have:=HC.out.2.2;omega) (n:=1) rfl).mono ?_
  rintro e w5 ⟨bv,N,rfl,hx1,hx2,hb5⟩
  have B5:=Lib.hid (Below.andThen B4.out hb5)
  have HK5:=Lib.hid (And.intro (Nat.lt_of_lt_of_le HK.out.1 hb5.size) (HK.out.2.below hb5 HK.out.1))
  have HX:=Lib.hid (And.intro hx1 (show Tr.getE (Tr.entsO N) [4,0] = some 5 by rw [hx2];exact HC.out.2.1))
  clear hx1 hx2 hb5 HK
  go_wp2_with fail
  refine (tGetE_c HX.out.1.1 (Nat.le_refl _) (HP.out w5 B5.out) rfl (c:=2) (m:=2) rfl HX.out.2).mono ?_
  rintro e w6 ⟨rfl,hb6⟩
  have B6:=Lib.hid (Below.andThen B5.out hb6)
  have c5:=(HK5.out.2.below hb6 HK5.out.1).c5
  simp only [Nat.zero_mul,Nat.add_zero] at c5
  clear hb6
  go_wp2_with fail
  go_ret
  exact ⟨rfl,HB0.out.trans (B6.out.mono HB0.out.size)⟩
set_option maxRecDepth 100000 in
set_option maxHeartbeats 2000000 in
theorem rheavy14_c {w:World} {A1 A2 A3:Option Addr} {B c1 c2 c3 n1 n2 n3:Nat} {l1 l2 l3:List ActT} (k:Int) (hA1:ActsT w B A1 l1) (hA2:ActsT w B A2 l2) (hA3:ActsT w B A3 l3) (hl1:l1.length≤maxLen) (hl2:l2.length≤maxLen) (hl3:l3.length≤maxLen) (e1:l1.length = n1) (e2:l2.length = n2) (e3:l3.length = n3)
    {r:Bool} (hr:(heavyA 30 l1 || heavyA 30 l2 || heavyA 30 l3 || decide (k < 1) || decide (16 < k)) = r) :
    Calls Tryz.prog 19 #[.int .i64 k,.slice A1 n1 c1,.slice A2 n2 c2,.slice A3 n3 c3] w fun e w' => e = .returned (.bool r)∧w = w':=by
  obtain ⟨r1,h1⟩:∃ r,heavyA 30 l1 = r:=⟨_,rfl⟩
  obtain ⟨r2,h2⟩:∃ r,heavyA 30 l2 = r:=⟨_,rfl⟩
  obtain ⟨r3,h3⟩:∃ r,heavyA 30 l3 = r:=⟨_,rfl⟩
  obtain ⟨b1,hb1⟩:∃ r,decide (k < 1) = r:=⟨_,rfl⟩
  obtain ⟨b2,hb2⟩:∃ r,decide (16 < k) = r:=⟨_,rfl⟩
  have G1:=rheavy7_c (c:=c1) hA1 hl1 30 r1 h1
  have G2:=rheavy7_c (c:=c2) hA2 hl2 30 r2 h2
  have G3:=rheavy7_c (c:=c3) hA3 hl3 30 r3 h3
  rw [e1] at G1
  rw [e2] at G2
  rw [e3] at G3
  rw [h1,h2,h3,hb1,hb2] at hr
  have G1:=Lib.hid G1
  have G2:=Lib.hid G2
  have G3:=Lib.hid G3
  have HR:=Lib.hid hr
  clear hA1 hA2 hA3 hl1 hl2 hl3 e1 e2 e3 h1 h2 h3 hr
  go_enter Tryz.func19,Tryz.ntmps19
  go_wp2_with fail
  refine G1.out.mono ?_
  rintro e w' ⟨rfl,rfl⟩
  clear G1
  cases r1 with
  | true => (go_wp2_with fail);go_ret;exact ⟨by rw [← HR.out];simp,rfl⟩
  | false =>
    go_wp2_with fail
    refine G2.out.mono ?_
    rintro e w' ⟨rfl,rfl⟩
    clear G2
    cases r2 with
    | true => (go_wp2_with fail);go_ret;exact ⟨by rw [← HR.out];simp,rfl⟩
    | false =>
      go_wp2_with fail
      refine G3.out.mono ?_
      rintro e w' ⟨rfl,rfl⟩
      clear G3
      cases r3 with
      | true => (go_wp2_with fail);go_ret;exact ⟨by rw [← HR.out];simp,rfl⟩
      | false =>
        cases b1 with
        | true => (go_wp2_with fail);go_ret;exact ⟨by rw [← HR.out];simp,rfl⟩
        | false =>
          cases b2 with
          | true => (go_wp2_with fail);go_ret;exact ⟨by rw [← HR.out];simp,rfl⟩
          | false => (go_wp2_with fail);go_ret;exact ⟨by rw [← HR.out];simp,rfl⟩
structure T14 (w:World) (C k gt gl b0 b1 b2:Nat) (t:Tri) (D0 D1 D2:Option Addr) (d0 d1 d2 M0 M1 M2:Nat):Prop where
  h0:Hand w C b0 k t.o D0 d0 M0
  h1:Hand w C b1 k t.a D1 d1 M1
  h2:Hand w C b2 k t.b D2 d2 M2
  rt:w.heap[gt]? = some (.cells #[.pointer (some ⟨b0,0,none⟩),.pointer (some ⟨b1,0,none⟩),.pointer (some ⟨b2,0,none⟩)] 29 (0,0))
  rl:w.heap[gl]? = some (.cells #[.slice D0 (Tr.entsO t.o).length d0,.slice D1 (Tr.entsO t.a).length d1,.slice D2 (Tr.entsO t.b).length d2] 30 (0,0))
theorem T14.below {w w':World} {C k gt gl b0 b1 b2:Nat} {t:Tri} {D0 D1 D2:Option Addr} {d0 d1 d2 M0 M1 M2:Nat} (h:T14 w C k gt gl b0 b1 b2 t D0 D1 D2 d0 d1 d2 M0 M1 M2) (hb:Below w.heap.size w w'):T14 w' C k gt gl b0 b1 b2 t D0 D1 D2 d0 d1 d2 M0 M1 M2 :=
  ⟨h.h0.below hb,h.h1.below hb,h.h2.below hb,(hb.block gt (Array.getElem?_eq_some_iff.1 h.rt).1).trans h.rt,(hb.block gl (Array.getElem?_eq_some_iff.1 h.rl).1).trans h.rl⟩
theorem row3 {W:World} {b:Nat} {v0 v1 v2:Value} {ty:TypeId} (h:W.heap[b]? = some (.cells #[v0,v1,v2] ty (0,0))):W.cell? ⟨b,0,none⟩ = some v0∧W.cell? ⟨b,1,none⟩ = some v1∧W.cell? ⟨b,2,none⟩ = some v2:=by
  refine ⟨?_,?_,?_⟩
  all_goals rw [cell_of_row W b _ _ _ (0,0) h];rfl
set_option maxRecDepth 1000000 in
set_option maxHeartbeats 8000000 in
theorem three14_c {w:World} {C:Nat} {A1 A2 A3:Option Addr} {c1 c2 c3 n1 n2 n3:Nat} {l1 l2 l3:List ActT} {k:Nat} (k1:1≤k) (k16:k≤16) (hA1:ActsT w C A1 l1) (hA2:ActsT w C A2 l2) (hA3:ActsT w C A3 l3) (hC:C≤w.heap.size) (hl1:n1≤100) (hl2:n2≤100) (hl3:n3≤100) (e1:l1.length = n1) (e2:l2.length = n2) (e3:l3.length = n3) :
    Calls Tryz.prog 20 #[.int .i64 (k:Int),.slice A1 n1 c1,.slice A2 n2 c2,.slice A3 n3 c3] w fun e w' => ∃ (gt gl b0 b1 b2:Nat) (t:Tri) (D0 D1 D2:Option Addr) (d0 d1 d2:Nat),
      e = .returned (.tuple #[.slice (some ⟨gt,0,none⟩) 3 3,.slice (some ⟨gl,0,none⟩) 3 3,.bool true])∧T14 w' C k gt gl b0 b1 b2 t D0 D1 D2 d0 d1 d2 n1 (n1 + n2) (n1 + n3)∧Below w.heap.size w w':=by
  have HW:=Lib.hid (two_c (c:=c1) (c':=c2) k1 k16 hA1 hA2 hC (by omega) (by omega) e1 e2)
  have HX:=Lib.hid (And.intro hA3 (And.intro hC (And.intro hl1 (And.intro hl2 (And.intro hl3 e3)))))
  have hn3:(n3:Int)≤100:=by omega
  clear k1 k16 hA1 hA2 hA3 hC hl1 hl2 hl3 e1 e2 e3
  go_enter Tryz.func20,Tryz.ntmps20
  go_wp2_with fail
  refine HW.out.mono ?_
  rintro e w3 ⟨t1,o1,D1,e1,t2,o2,D2,e2,rfl,hd1,hd2,hb3⟩
  have H3:=Lib.hid (And.intro hd1 (And.intro hd2 hb3))
  obtain ⟨N1,hN1⟩:∃ N,(Tr.entsO o1).length = N:=⟨_,rfl⟩
  have HN1:=Lib.hid hN1
  obtain ⟨N2,hN2⟩:∃ N,(Tr.entsO o2).length = N:=⟨_,rfl⟩
  have HN2:=Lib.hid hN2
  rw [hN1,hN2]
  clear hd1 hd2 hb3 hN1 hN2 HW
  go_wp2_with fail
  go_loopw [15,16,17,18] (fun ok t v i wr => ∃ (j b':Nat) (o':Option T) (D':Option Addr) (d':Nat),ok = .bool true∧t = .pointer (some ⟨b',0,none⟩)∧v = .slice D' (Tr.entsO o').length d'∧i = .int .i64 (j:Int)∧j≤n3∧Hand wr C b' k o' D' d' (n1 + j)∧Below w3.heap.size w3 wr) (fun _ _ _ i _ => n3 - (intOf i).toNat)
  case atStart => exact ⟨0,t1,o1,D1,e1,rfl,rfl,by rw [HN1.out],rfl,Nat.zero_le _,H3.out.1,Below.refl _ _⟩
  case round =>
    obtain ⟨j,t3,o3,D3,e3,rfl,rfl,rfl,rfl,hj,hh,hbr⟩:=hrel
    by_cases hlt:j < n3
    · obtain ⟨a,ha⟩:=get_lt (us:=l3) (k:=j) (by rw [HX.out.2.2.2.2.2];exact hlt)
      have hbw:=Below.andThen H3.out.2.2 hbr
      obtain ⟨gb,go,A5,c5,hAA,hgb,x0,x1,x2,hp,hpm,hv⟩:=(HX.out.1.below hbw HX.out.2.1 (Nat.le_refl _)).at ha
      have HD:=Lib.hid (done_c (d:=c5) hh (by have:=HX.out;omega) hp hpm hv)
      have HY2:=Lib.hid (And.intro hbr hlt)
      subst hAA
      have f1:decide ((j:Int) < (n3:Int)) = true:=decide_eq_true (by omega)
      have f1':decide (j < n3) = true:=decide_eq_true hlt
      have m1:(0:Int)≤(j:Int):=by omega
      have m2:(j:Int) < (n3:Int):=by omega
      clear hh hbr ha hp hpm hv hbw hlt hj
      go_wp2_with (go_at_call 35;refine HD.out.mono ?_;rintro e w2 ⟨b2,o4,D4,d4,rfl,hh2,-,-,hb2⟩)
      go_roundw
      case rel =>
        exact ⟨j + 1,b2,o4,D4,d4,rfl,rfl,rfl,by first | rfl | go_num,by have:=HY2.out.2;omega,hh2,Below.andThen HY2.out.1 hb2⟩
      case measure =>
        have:=HY2.out.2
        show n3 - ((j:Int) + 1).toNat < n3 - (j:Int).toNat
        omega
    · have hjn:n3 = j:=by omega
      subst hjn
      have f1:decide ((n3:Int) < (n3:Int)) = false:=decide_eq_false (by omega)
      have f1':decide (n3 < n3) = false:=decide_eq_false (by omega)
      obtain ⟨N3,hN3⟩:∃ N,(Tr.entsO o3).length = N:=⟨_,rfl⟩
      have HN3:=Lib.hid hN3
      rw [hN3]
      have ba:=below_alloc wr (.cells #[.pointer (some ⟨t1,0,none⟩),.pointer (some ⟨t2,0,none⟩),.pointer (some ⟨t3,0,none⟩)] 29)
      have bb:=below_alloc (wr.alloc (.cells #[.pointer (some ⟨t1,0,none⟩),.pointer (some ⟨t2,0,none⟩),.pointer (some ⟨t3,0,none⟩)] 29)) (.cells #[.slice D1 N1 e1,.slice D2 N2 e2,.slice D3 N3 e3] 30)
      have hab:=Below.andThen ba bb
      have ht:=(bb.block wr.heap.size (by simp)).trans (heap_at wr (.cells #[.pointer (some ⟨t1,0,none⟩),.pointer (some ⟨t2,0,none⟩),.pointer (some ⟨t3,0,none⟩)] 29) _ rfl)
      have hl:=heap_at (wr.alloc (.cells #[.pointer (some ⟨t1,0,none⟩),.pointer (some ⟨t2,0,none⟩),.pointer (some ⟨t3,0,none⟩)] 29)) (.cells #[.slice D1 N1 e1,.slice D2 N2 e2,.slice D3 N3 e3] 30) _ rfl
      rw [World.size_alloc] at hl
      have H4:=Lib.hid (T14.mk (t:=⟨o1,o2,o3⟩) ((H3.out.1.below hbr).below hab) ((H3.out.2.1.below hbr).below hab) (hh.below hab) ht (by rw [HN1.out,HN2.out,hN3];exact hl))
      have H5:=Lib.hid (Below.andThen H3.out.2.2 (Below.andThen hbr hab))
      clear hh hbr hlt hj hN3 H3 ba bb hab ht hl
      go_wp2_with fail
      refine bodyPost_ret (v:=.tuple #[.slice (some ⟨wr.heap.size,0,none⟩) 3 3,.slice (some ⟨wr.heap.size + 1,0,none⟩) 3 3,.bool true]) (by simp [results,Tryz.results20,go_sem]) rfl ?_
      exact ⟨_,_,_,_,_,_,_,_,_,_,_,_,rfl,H4.out,H5.out⟩
end Go.Proofs.YtmkejbfgdmbejaaGreatDoor
