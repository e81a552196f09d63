import Derived.Test.YtkeepngaaleakaaGreatDoorMXzd
import Derived.Test.YtkeepngaaleakaaGreatDoorMXzb
import Derived.Test.YtkeepngaaleakaaGreatDoorMXzf
namespace Go.Proofs.YtkeepngaaleakaaGreatDoor
open Go.ChangeShapes Go.WideShapes Go.ChangeAt Go.RowKit
open Tr (T S4 Ent Tri KL)
theorem wg_small {w:World} {b0 b1 k:Nat} {x y:Option T} (h0:TreeX w b0 k x) (h1:TreeX w b1 k y) (hs:(Tr.entsO x).length + (Tr.entsO y).length≤100000):(Tr.wgt3 (two x y)≤1000000∧Tr.wgt3 (two y x)≤1000000)∧cnt3 (two x y)≤1000000000∧cnt3 (two y x)≤1000000000:=by
  have a0:=Tr.allO_len (k:=k) (o:=x) (fun t e => (h0.1.2.2.2.2 t e).1)
  have a1:=Tr.allO_len (k:=k) (o:=y) (fun t e => (h1.1.2.2.2.2 t e).1)
  have n0:(Tr.allO (none:Option T)).length = 0:=rfl
  have n1:(Tr.entsO (none:Option T)).length = 0:=rfl
  refine ⟨⟨?_,?_⟩,?_,?_⟩
  · show max 1 (2 * ((Tr.allO none).length + (Tr.allO x).length + (Tr.allO y).length) - 1)≤_
    omega
  · show max 1 (2 * ((Tr.allO none).length + (Tr.allO y).length + (Tr.allO x).length) - 1)≤_
    omega
  · show (Tr.entsO none).length + (Tr.entsO x).length + (Tr.entsO y).length≤_
    omega
  · show (Tr.entsO none).length + (Tr.entsO y).length + (Tr.entsO x).length≤_
    omega
section
variable {w:World} {b0 b1 k:Nat} {x y:Option T}
theorem sUnion_s (h0:TreeX w b0 k x) (h1:TreeX w b1 k y) (r:Int) (hr:1≤r∧r≤6) (hT:∀ w',Below w.heap.size w w'→Tz w') (hs:(Tr.entsO x).length + (Tr.entsO y).length≤100000) :
    Calls Tryz.prog 23 #[.pointer (some ⟨b0,0,none⟩),.pointer (some ⟨b1,0,none⟩),.int .i64 r] w fun e w' => ∃ (b:Nat) (N:Option T),e = .returned (.tuple #[.pointer (some ⟨b,0,none⟩),.int .i64 0])∧TreeX w' b k N∧Tr.entsO N = Tr.jL r true true true (Tr.entsO x) (Tr.entsO y)∧Below w.heap.size w w' :=
  sUnion_c h0 h1 hr hT (wg_small h0 h1 hs).1 (wg_small h0 h1 hs).2
theorem sCommon_s (h0:TreeX w b0 k x) (h1:TreeX w b1 k y) (r:Int) (hr:1≤r∧r≤6) (hT:∀ w',Below w.heap.size w w'→Tz w') (hs:(Tr.entsO x).length + (Tr.entsO y).length≤100000) :
    Calls Tryz.prog 24 #[.pointer (some ⟨b0,0,none⟩),.pointer (some ⟨b1,0,none⟩),.int .i64 r] w fun e w' => ∃ (b:Nat) (N:Option T),e = .returned (.tuple #[.pointer (some ⟨b,0,none⟩),.int .i64 0])∧TreeX w' b k N∧Tr.entsO N = Tr.jL r false false true (Tr.entsO x) (Tr.entsO y)∧Below w.heap.size w w' :=
  sCommon_c h0 h1 hr hT (wg_small h0 h1 hs).1 (wg_small h0 h1 hs).2
theorem sLess_s (h0:TreeX w b0 k x) (h1:TreeX w b1 k y) (hT:∀ w',Below w.heap.size w w'→Tz w') (hs:(Tr.entsO x).length + (Tr.entsO y).length≤100000) :
    Calls Tryz.prog 25 #[.pointer (some ⟨b0,0,none⟩),.pointer (some ⟨b1,0,none⟩)] w fun e w' => ∃ (b:Nat) (N:Option T),e = .returned (.tuple #[.pointer (some ⟨b,0,none⟩),.int .i64 0])∧TreeX w' b k N∧Tr.entsO N = Tr.jL 1 true false false (Tr.entsO x) (Tr.entsO y)∧Below w.heap.size w w' :=
  sLess_c h0 h1 hT (wg_small h0 h1 hs).1.1 (wg_small h0 h1 hs).2.1
theorem sSubset_s (h0:TreeX w b0 k x) (h1:TreeX w b1 k y) (hT:∀ w',Below w.heap.size w w'→Tz w') (hs:(Tr.entsO x).length + (Tr.entsO y).length≤100000) {r:Bool} (hr:decide (Tr.jL 1 true false false (Tr.entsO x) (Tr.entsO y) = []) = r) :
    Calls Tryz.prog 27 #[.pointer (some ⟨b0,0,none⟩),.pointer (some ⟨b1,0,none⟩)] w fun e w' => e = .returned (.tuple #[.bool r,.int .i64 0])∧Below w.heap.size w w' :=
  sSubset_c h0 h1 hT (wg_small h0 h1 hs).1.1 (wg_small h0 h1 hs).2.1 hr
theorem sTouch_s (h0:TreeX w b0 k x) (h1:TreeX w b1 k y) (hT:∀ w',Below w.heap.size w w'→Tz w') (hs:(Tr.entsO x).length + (Tr.entsO y).length≤100000) {r:Bool} (hr:(!decide (Tr.jL 1 false false true (Tr.entsO x) (Tr.entsO y) = [])) = r) :
    Calls Tryz.prog 28 #[.pointer (some ⟨b0,0,none⟩),.pointer (some ⟨b1,0,none⟩)] w fun e w' => e = .returned (.tuple #[.bool r,.int .i64 0])∧Below w.heap.size w w' :=
  sTouch_c h0 h1 hT (wg_small h0 h1 hs).1.1 (wg_small h0 h1 hs).2.1 hr
end
theorem exU_eq:Tr.getE (Tr.jL 5 true true true (Tr.putE [4,0] 3 []) (Tr.putE [4,0] 5 [])) [4,0] = some 8:=by decide +kernel
theorem exC_eq:Tr.getE (Tr.jL 6 false false true (Tr.putE [4,0] 3 []) (Tr.putE [4,0] 5 [])) [4,0] = some 2:=by decide +kernel
theorem exN_eq:(Tr.putE [4,0] 3 []).length + (Tr.putE [4,0] 5 []).length≤100000:=by decide +kernel
set_option maxRecDepth 100000 in
set_option maxHeartbeats 4000000 in
theorem awake15_c (w:World) (hT:Tz w):Calls Tryz.prog 22 #[] w fun e w' => e = .returned (.bool true)∧Below w.heap.size w w':=by
  have HT:=Lib.hid hT
  clear hT
  go_enter Tryz.func22,Tryz.ntmps22
  go_wp2_with fail
  refine (tNew_c 2 w (by decide) (by decide)).mono ?_
  rintro e w1 ⟨rfl,ht1,hb1⟩
  have T1:=Lib.hid ht1
  have B1:=Lib.hid hb1
  clear ht1 hb1
  go_wp2_with fail
  refine (tPut_new (T1.out.below (below_alloc w1 _) (Nat.le_refl _)) (pts_two w1 4 0 (by decide) (by decide)) rfl (c:=2) 3 (by decide) (by simp [Tr.entsO]) (by decide +kernel)).mono ?_
  rintro e w2 ⟨n2,t2,rfl,ht2,he2,hb2⟩
  have hb12:=Below.andThen (below_alloc w1 (.cells #[.int .u64 ((4:Nat):Int),.int .u64 ((0:Nat):Int)] 55)) hb2
  have T2:=Lib.hid ht2
  have E2:=Lib.hid he2
  have T1':=Lib.hid (T1.out.below hb12 (Nat.le_refl _))
  have B2:=Lib.hid (Below.andThen B1.out hb12)
  clear ht2 he2 hb2 T1 hb12
  go_wp2_with fail
  refine (tPut_new (T1'.out.below (below_alloc w2 _) (Nat.le_refl _)) (pts_two w2 4 0 (by decide) (by decide)) rfl (c:=2) 5 (by decide) (by simp [Tr.entsO]) (by decide +kernel)).mono ?_
  rintro e w3 ⟨n3,t3,rfl,ht3,he3,hb3⟩
  have hb23:=Below.andThen (below_alloc w2 (.cells #[.int .u64 ((4:Nat):Int),.int .u64 ((0:Nat):Int)] 55)) hb3
  have T3:=Lib.hid ht3
  have T2':=Lib.hid (T2.out.below hb23 (Nat.le_refl _))
  have B3:=Lib.hid (Below.andThen B2.out hb23)
  have hU:Tr.getE (Tr.jL 5 true true true (Tr.entsO (some t2)) (Tr.entsO (some t3))) [4,0] = some 8:=by
    show Tr.getE (Tr.jL 5 true true true t2.ents t3.ents) [4,0] = some 8
    rw [E2.out,he3]
    exact exU_eq
  have hC:Tr.getE (Tr.jL 6 false false true (Tr.entsO (some t2)) (Tr.entsO (some t3))) [4,0] = some 2:=by
    show Tr.getE (Tr.jL 6 false false true t2.ents t3.ents) [4,0] = some 2
    rw [E2.out,he3]
    exact exC_eq
  have hs:(Tr.entsO (some t2)).length + (Tr.entsO (some t3)).length≤100000:=by
    show t2.ents.length + t3.ents.length≤100000
    rw [E2.out,he3]
    exact exN_eq
  have HC:=Lib.hid (And.intro hU (And.intro hC hs))
  clear ht3 he3 hb3 T2 T1' hb23 hU hC hs E2
  go_wp2_with fail
  refine (sUnion_s T2'.out T3.out 5 (by decide) (fun w' hb => (HT.out.on B3.out).on hb) HC.out.2.2).mono ?_
  rintro e w4 ⟨b4,N4,rfl,ht4,he4,hb4⟩
  have T4:=Lib.hid ht4
  have E4:Hid (Tr.getE (Tr.entsO N4) [4,0] = some 8):=Lib.hid (by rw [he4];exact HC.out.1)
  have T2:=Lib.hid (T2'.out.below hb4 (Nat.le_refl _))
  have T3':=Lib.hid (T3.out.below hb4 (Nat.le_refl _))
  have B4:=Lib.hid (Below.andThen B3.out hb4)
  clear ht4 he4 hb4 T2' T3
  go_wp2_with fail
  refine (sCommon_s T2.out T3'.out 6 (by decide) (fun w' hb => (HT.out.on B4.out).on hb) HC.out.2.2).mono ?_
  rintro e w5 ⟨b5,N5,rfl,ht5,he5,hb5⟩
  have T5:=Lib.hid ht5
  have E5:Hid (Tr.getE (Tr.entsO N5) [4,0] = some 2):=Lib.hid (by rw [he5];exact HC.out.2.1)
  have T4':=Lib.hid (T4.out.below hb5 (Nat.le_refl _))
  have B5:=Lib.hid (Below.andThen B4.out hb5)
  clear ht5 he5 hb5 T2 T3' T4 HC
  go_wp2_with fail
  refine (tGetE_c (T4'.out.below (below_alloc w5 _) (Nat.le_refl _)).1 (Nat.le_refl _) (pts_two w5 4 0 (by decide) (by decide)) rfl (c:=2) (m:=2) rfl E4.out).mono ?_
  rintro e w6 ⟨rfl,hb6⟩
  have hb56:=Below.andThen (below_alloc w5 (.cells #[.int .u64 ((4:Nat):Int),.int .u64 ((0:Nat):Int)] 55)) hb6
  have T5':=Lib.hid (T5.out.below hb56 (Nat.le_refl _))
  have B6:=Lib.hid (Below.andThen B5.out hb56)
  clear hb6 hb56 T4' T5
  go_wp2_with fail
  refine (tGetE_c (T5'.out.below (below_alloc w6 _) (Nat.le_refl _)).1 (Nat.le_refl _) (pts_two w6 4 0 (by decide) (by decide)) rfl (c:=2) (m:=2) rfl E5.out).mono ?_
  rintro e w7 ⟨rfl,hb7⟩
  have B7:=Lib.hid (Below.andThen B6.out (Below.andThen (below_alloc w6 (.cells #[.int .u64 ((4:Nat):Int),.int .u64 ((0:Nat):Int)] 55)) hb7))
  clear hb7
  go_wp2_with fail
  go_ret
  exact ⟨rfl,B7.out⟩
set_option maxRecDepth 100000 in
set_option maxHeartbeats 4000000 in
theorem setsNil_c (w:World) (hT:Tz w) (r:Int):Calls Tryz.prog 7 #[.int .i64 r] w fun e w' => e = .returned (.bool true)∧Below w.heap.size w w':=by
  have HT:=Lib.hid hT
  clear hT
  go_enter Tryz.func7,Tryz.ntmps7
  go_wp2_with fail
  refine (awake15_c w HT.out).mono ?_
  rintro e w0 ⟨rfl,hb0⟩
  have B0:=Lib.hid hb0
  clear hb0
  go_wp2_with fail
  refine (tNew_c 1 w0 (by decide) (by decide)).mono ?_
  rintro e w1 ⟨rfl,ht1,hb1⟩
  have T1:=Lib.hid ht1
  have B1:=Lib.hid (Below.andThen B0.out hb1)
  clear ht1 hb1
  go_wp2_with fail
  refine (sUnion_nil w1 none (some ⟨w0.heap.size,0,none⟩) rfl r).mono ?_
  rintro e w2 ⟨rfl,hb2⟩
  have B2:=Lib.hid (Below.andThen B1.out hb2)
  clear hb2
  go_wp2_with fail
  refine (sCommon_nil w2 (some ⟨w0.heap.size,0,none⟩) none rfl r).mono ?_
  rintro e w3 ⟨rfl,hb3⟩
  have B3:=Lib.hid (Below.andThen B2.out hb3)
  clear hb3
  go_wp2_with fail
  refine (sLess_nil w3 none none rfl).mono ?_
  rintro e w4 ⟨rfl,hb4⟩
  have B4:=Lib.hid (Below.andThen B3.out hb4)
  clear hb4
  go_wp2_with fail
  refine (sSubset_nil w4 none (some ⟨w0.heap.size,0,none⟩) rfl).mono ?_
  rintro e w5 ⟨rfl,hb5⟩
  have B5:=Lib.hid (Below.andThen B4.out hb5)
  clear hb5
  go_wp2_with fail
  refine (sTouch_nil w5 (some ⟨w0.heap.size,0,none⟩) none rfl).mono ?_
  rintro e w6 ⟨rfl,hb6⟩
  have B6:=Lib.hid (Below.andThen B5.out hb6)
  clear hb6
  have h1:=tptrS_nn
  go_wp2_with fail
  go_ret
  exact ⟨rfl,B6.out⟩
set_option maxRecDepth 100000 in
set_option maxHeartbeats 4000000 in
theorem setsJoin_skip {w:World} {A1 A2:Option Addr} {c1 c2:Nat} {l1 l2:List ActT} (k other r:Int) (hT:Tz w) (hA1:ActsT w w.heap.size A1 l1) (hl1:l1.length≤maxLen) (hA2:ActsT w w.heap.size A2 l2) (hl2:l2.length≤maxLen) (hs:(heavyA 40 l1 || heavyA 40 l2 || decide (k < 1) || decide (16 < k) || decide (other < 1) || decide (16 < other)) = true) :
    Calls Tryz.prog 4 #[.int .i64 k,.int .i64 other,.slice A1 l1.length c1,.slice A2 l2.length c2,.int .i64 r] w fun e w' => e = .returned (.bool true)∧Below w.heap.size w w':=by
  obtain ⟨r1,h1⟩:∃ r,heavyA 40 l1 = r:=⟨_,rfl⟩
  obtain ⟨r2,h2⟩:∃ r,heavyA 40 l2 = r:=⟨_,rfl⟩
  obtain ⟨x0,e0⟩:∃ bb,decide (k < 1) = bb:=⟨_,rfl⟩
  obtain ⟨x1,e1⟩:∃ bb,decide (16 < k) = bb:=⟨_,rfl⟩
  obtain ⟨x2,e2⟩:∃ bb,decide (other < 1) = bb:=⟨_,rfl⟩
  obtain ⟨x3,e3⟩:∃ bb,decide (16 < other) = bb:=⟨_,rfl⟩
  rw [h1,h2,e0,e1,e2,e3] at hs
  have G1:=Lib.hid fun (w1:World) (hb:Below w.heap.size w w1) => rheavy7_c (c:=c1) (hA1.below hb (Nat.le_refl _) (Nat.le_refl _)) hl1 40 r1 h1
  have G2:=Lib.hid fun (w1:World) (hb:Below w.heap.size w w1) => rheavy7_c (c:=c2) (hA2.below hb (Nat.le_refl _) (Nat.le_refl _)) hl2 40 r2 h2
  have HT:=Lib.hid hT
  have HS:=Lib.hid hs
  clear hT hA1 hl1 hA2 hl2 hs h1 h2
  go_enter Tryz.func4,Tryz.ntmps4
  go_wp2_with fail
  refine (awake15_c w HT.out).mono ?_
  rintro e w1 ⟨rfl,hb1⟩
  have HB:=Lib.hid hb1
  clear hb1
  go_wp2_with fail
  refine (G1.out w1 HB.out).mono ?_
  rintro e w' ⟨rfl,rfl⟩
  clear G1
  cases r1 with
  | true => (go_wp2_with fail);go_ret;exact ⟨rfl,HB.out⟩
  | false =>
    go_wp2_with fail
    refine (G2.out w1 HB.out).mono ?_
    rintro e w' ⟨rfl,rfl⟩
    clear G2
    cases r2 with
    | true => (go_wp2_with fail);go_ret;exact ⟨rfl,HB.out⟩
    | false =>
      cases x0 with
      | true => (go_wp2_with fail);go_ret;exact ⟨rfl,HB.out⟩
      | false =>
        cases x1 with
        | true => (go_wp2_with fail);go_ret;exact ⟨rfl,HB.out⟩
        | false =>
          cases x2 with
          | true => (go_wp2_with fail);go_ret;exact ⟨rfl,HB.out⟩
          | false =>
            cases x3 with
            | true => (go_wp2_with fail);go_ret;exact ⟨rfl,HB.out⟩
            | false =>
              exact absurd HS.out (by decide)
set_option maxRecDepth 100000 in
set_option maxHeartbeats 4000000 in
theorem setsAsk_skip {w:World} {A1 A2:Option Addr} {c1 c2:Nat} {l1 l2:List ActT} (k other:Int) (hT:Tz w) (hA1:ActsT w w.heap.size A1 l1) (hl1:l1.length≤maxLen) (hA2:ActsT w w.heap.size A2 l2) (hl2:l2.length≤maxLen) (hs:(heavyA 40 l1 || heavyA 40 l2 || decide (k < 1) || decide (16 < k) || decide (other < 1) || decide (16 < other)) = true) :
    Calls Tryz.prog 5 #[.int .i64 k,.int .i64 other,.slice A1 l1.length c1,.slice A2 l2.length c2] w fun e w' => e = .returned (.bool true)∧Below w.heap.size w w':=by
  obtain ⟨r1,h1⟩:∃ r,heavyA 40 l1 = r:=⟨_,rfl⟩
  obtain ⟨r2,h2⟩:∃ r,heavyA 40 l2 = r:=⟨_,rfl⟩
  obtain ⟨x0,e0⟩:∃ bb,decide (k < 1) = bb:=⟨_,rfl⟩
  obtain ⟨x1,e1⟩:∃ bb,decide (16 < k) = bb:=⟨_,rfl⟩
  obtain ⟨x2,e2⟩:∃ bb,decide (other < 1) = bb:=⟨_,rfl⟩
  obtain ⟨x3,e3⟩:∃ bb,decide (16 < other) = bb:=⟨_,rfl⟩
  rw [h1,h2,e0,e1,e2,e3] at hs
  have G1:=Lib.hid fun (w1:World) (hb:Below w.heap.size w w1) => rheavy7_c (c:=c1) (hA1.below hb (Nat.le_refl _) (Nat.le_refl _)) hl1 40 r1 h1
  have G2:=Lib.hid fun (w1:World) (hb:Below w.heap.size w w1) => rheavy7_c (c:=c2) (hA2.below hb (Nat.le_refl _) (Nat.le_refl _)) hl2 40 r2 h2
  have HT:=Lib.hid hT
  have HS:=Lib.hid hs
  clear hT hA1 hl1 hA2 hl2 hs h1 h2
  go_enter Tryz.func5,Tryz.ntmps5
  go_wp2_with fail
  refine (awake15_c w HT.out).mono ?_
  rintro e w1 ⟨rfl,hb1⟩
  have HB:=Lib.hid hb1
  clear hb1
  go_wp2_with fail
  refine (G1.out w1 HB.out).mono ?_
  rintro e w' ⟨rfl,rfl⟩
  clear G1
  cases r1 with
  | true => (go_wp2_with fail);go_ret;exact ⟨rfl,HB.out⟩
  | false =>
    go_wp2_with fail
    refine (G2.out w1 HB.out).mono ?_
    rintro e w' ⟨rfl,rfl⟩
    clear G2
    cases r2 with
    | true => (go_wp2_with fail);go_ret;exact ⟨rfl,HB.out⟩
    | false =>
      cases x0 with
      | true => (go_wp2_with fail);go_ret;exact ⟨rfl,HB.out⟩
      | false =>
        cases x1 with
        | true => (go_wp2_with fail);go_ret;exact ⟨rfl,HB.out⟩
        | false =>
          cases x2 with
          | true => (go_wp2_with fail);go_ret;exact ⟨rfl,HB.out⟩
          | false =>
            cases x3 with
            | true => (go_wp2_with fail);go_ret;exact ⟨rfl,HB.out⟩
            | false =>
              exact absurd HS.out (by decide)
structure St2 (w W:World) (C b0 b1 k0 k1:Nat) (o0 o1:Option T) (D0 D1:Option Addr) (d0 d1 M0 M1:Nat):Prop where
  h0:Hand W C b0 k0 o0 D0 d0 M0
  h1:Hand W C b1 k1 o1 D1 d1 M1
  bel:Below w.heap.size w W
section
variable {w W W':World} {C b0 b1 k0 k1:Nat} {o0 o1:Option T} {D0 D1:Option Addr} {d0 d1 M0 M1:Nat}
theorem St2.below (h:St2 w W C b0 b1 k0 k1 o0 o1 D0 D1 d0 d1 M0 M1) (hb:Below W.heap.size W W'):St2 w W' C b0 b1 k0 k1 o0 o1 D0 D1 d0 d1 M0 M1:=⟨h.h0.below hb,h.h1.below hb,Below.andThen h.bel hb⟩
theorem St2.tz (h:St2 w W C b0 b1 k0 k1 o0 o1 D0 D1 d0 d1 M0 M1) (hT:Tz w):∀ w',Below W.heap.size W w'→Tz w':=fun _ hb => (hT.on h.bel).on hb
theorem St2.e0 (h:St2 w W C b0 b1 k0 k1 o0 o1 D0 D1 d0 d1 M0 M1):Ents W W.heap.size D0 (Tr.entsO o0):=EntL.ents h.h0.list h.h0.old (Nat.le_refl _)
theorem St2.e1 (h:St2 w W C b0 b1 k0 k1 o0 o1 D0 D1 d0 d1 M0 M1):Ents W W.heap.size D1 (Tr.entsO o1):=EntL.ents h.h1.list h.h1.old (Nat.le_refl _)
end
theorem zdX {w:World} {k b:Nat} {o:Option T} (h:TreeX w b k o):Tr.ZD k (Tr.entsO o):=⟨(dim_o h).2,(dim_o h).1⟩
set_option maxRecDepth 1000000 in
set_option maxHeartbeats 16000000 in
theorem setsAsk_dim {w:World} {A1 A2:Option Addr} {c1 c2:Nat} {l1 l2:List ActT} {k other:Nat} (hT:Tz w) (hA1:ActsT w w.heap.size A1 l1) (hl1:l1.length≤maxLen) (hA2:ActsT w w.heap.size A2 l2) (hl2:l2.length≤maxLen) (h1:heavyA 40 l1 = false) (h2:heavyA 40 l2 = false) (k1:1≤k) (k16:k≤16) (o1:1≤other) (o16:other≤16) (hne:other≠k) :
    Calls Tryz.prog 5 #[.int .i64 (k:Int),.int .i64 (other:Int),.slice A1 l1.length c1,.slice A2 l2.length c2] w fun e w' => e = .returned (.bool true)∧Below w.heap.size w w':=by
  obtain ⟨n1,e1⟩:∃ n,l1.length = n:=⟨_,rfl⟩
  obtain ⟨n2,e2⟩:∃ n,l2.length = n:=⟨_,rfl⟩
  have hf1:=heavyA_few h1
  have hf2:=heavyA_few h2
  have G1:=Lib.hid fun (w1:World) (hb:Below w.heap.size w w1) => rheavy7_c (c:=c1) (hA1.below hb (Nat.le_refl _) (Nat.le_refl _)) hl1 40 false h1
  have G2:=Lib.hid fun (w1:World) (hb:Below w.heap.size w w1) => rheavy7_c (c:=c2) (hA2.below hb (Nat.le_refl _) (Nat.le_refl _)) hl2 40 false h2
  have R1:=Lib.hid fun (w1:World) (hb:Below w.heap.size w w1) => grown_c (c:=c1) k1 k16 (hA1.below hb (Nat.le_refl _) (Nat.le_refl _)) hb.size (by omega)
  have R2:=Lib.hid fun (w1:World) (hb:Below w.heap.size w w1) => grown_c (c:=c2) o1 o16 (hA2.below hb (Nat.le_refl _) (Nat.le_refl _)) hb.size (by omega)
  rw [e1] at G1 R1 hf1
  rw [e2] at G2 R2 hf2
  rw [e1,e2]
  have HT:=Lib.hid hT
  have HK:=Lib.hid (And.intro k1 (And.intro k16 (And.intro hf1 hf2)))
  have d1:decide ((k:Int) < 1) = false:=decide_eq_false (by omega)
  have d2:decide ((16:Int) < (k:Int)) = false:=decide_eq_false (by omega)
  have d2':decide (16 < k) = false:=decide_eq_false (by omega)
  have f1:decide ((other:Int) < 1) = false:=decide_eq_false (by omega)
  have f2:decide ((16:Int) < (other:Int)) = false:=decide_eq_false (by omega)
  have f2':decide (16 < other) = false:=decide_eq_false (by omega)
  have b0:((k:Int) != (other:Int)) = true:=by rw [bne_iff_ne];omega
  have b0':((k:Int) == (other:Int)) = false:=by rw [beq_eq_false_iff_ne];omega
  have b1:(k != other) = true:=by rw [bne_iff_ne];omega
  have b1':(k == other) = false:=by rw [beq_eq_false_iff_ne];omega
  have HNE:=Lib.hid hne
  clear hT hA1 hl1 hA2 hl2 h1 h2 hf1 hf2 e1 e2 k1 k16 o1 o16 hne
  go_enter Tryz.func5,Tryz.ntmps5
  go_wp2_with fail
  refine (awake15_c w HT.out).mono ?_
  rintro e w0 ⟨rfl,hb0⟩
  have B0:=Lib.hid hb0
  clear hb0
  go_wp2_with fail
  refine (G1.out w0 B0.out).mono ?_
  rintro e w' ⟨rfl,rfl⟩
  clear G1
  go_wp2_with fail
  refine (G2.out w0 B0.out).mono ?_
  rintro e w' ⟨rfl,rfl⟩
  clear G2
  go_wp2_with fail
  refine (R1.out w0 B0.out).mono ?_
  rintro e w1 ⟨b0,o0,D0,q0,rfl,hd0,-,hb1⟩
  obtain ⟨N0,hN0⟩:∃ N,(Tr.entsO o0).length = N:=⟨_,rfl⟩
  have B1:=Lib.hid (Below.andThen B0.out hb1)
  have HD0:=Lib.hid hd0
  rw [hN0]
  clear hb1 hd0 R1
  go_wp2_with fail
  refine (R2.out w1 B1.out).mono ?_
  rintro e w2 ⟨b1,o1,D1,q1,rfl,hd1,-,hb2⟩
  obtain ⟨N1,hN1⟩:∃ N,(Tr.entsO o1).length = N:=⟨_,rfl⟩
  have S2:=Lib.hid (St2.mk (HD0.out.below hb2) hd1 (Below.andThen B1.out hb2))
  have z0:N0≤40:=by have h:=HD0.out.few;rw [hN0] at h;have:=HK.out;omega
  have z1:N1≤40:=by have h:=hd1.few;rw [hN1] at h;have:=HK.out;omega
  have c0:N0≤q0:=by rw [← hN0];exact HD0.out.cap
  have c1':N1≤q1:=by rw [← hN1];exact hd1.cap
  have HN:=Lib.hid (And.intro hN0 (And.intro hN1 (And.intro z0 (And.intro z1 (And.intro c0 c1')))))
  have HZ:=Lib.hid (And.intro (zdX S2.out.h0.tree) (zdX S2.out.h1.tree))
  have HL:Hid ((Tr.entsO o0).length + (Tr.entsO o1).length≤80):=Lib.hid (by rw [hN0,hN1];omega)
  rw [hN1]
  clear hb2 hd1 R2 HD0 B1 B0 hN0 hN1 z0 z1 c0 c1'
  go_wp2_with fail
  refine (sSubset_dim S2.out.h0.tree S2.out.h1.tree HNE.out).mono ?_
  rintro e w3 ⟨rfl,hb⟩
  have S3:=Lib.hid (S2.out.below hb)
  clear hb S2
  go_wp2_with fail
  refine (sTouch_dim S3.out.h0.tree S3.out.h1.tree HNE.out).mono ?_
  rintro e w4 ⟨rfl,hb⟩
  have S4:=Lib.hid (S3.out.below hb)
  clear hb S3
  go_wp2_with fail
  go_ret
  exact ⟨rfl,S4.out.bel⟩
set_option maxRecDepth 1000000 in
set_option maxHeartbeats 16000000 in
theorem setsAsk_go {w:World} {A1 A2:Option Addr} {c1 c2:Nat} {l1 l2:List ActT} {k:Nat} (hT:Tz w) (hA1:ActsT w w.heap.size A1 l1) (hl1:l1.length≤maxLen) (hA2:ActsT w w.heap.size A2 l2) (hl2:l2.length≤maxLen) (h1:heavyA 40 l1 = false) (h2:heavyA 40 l2 = false) (k1:1≤k) (k16:k≤16) :
    Calls Tryz.prog 5 #[.int .i64 (k:Int),.int .i64 (k:Int),.slice A1 l1.length c1,.slice A2 l2.length c2] w fun e w' => e = .returned (.bool true)∧Below w.heap.size w w':=by
  obtain ⟨n1,e1⟩:∃ n,l1.length = n:=⟨_,rfl⟩
  obtain ⟨n2,e2⟩:∃ n,l2.length = n:=⟨_,rfl⟩
  have hf1:=heavyA_few h1
  have hf2:=heavyA_few h2
  have G1:=Lib.hid fun (w1:World) (hb:Below w.heap.size w w1) => rheavy7_c (c:=c1) (hA1.below hb (Nat.le_refl _) (Nat.le_refl _)) hl1 40 false h1
  have G2:=Lib.hid fun (w1:World) (hb:Below w.heap.size w w1) => rheavy7_c (c:=c2) (hA2.below hb (Nat.le_refl _) (Nat.le_refl _)) hl2 40 false h2
  have R1:=Lib.hid fun (w1:World) (hb:Below w.heap.size w w1) => grown_c (c:=c1) k1 k16 (hA1.below hb (Nat.le_refl _) (Nat.le_refl _)) hb.size (by omega)
  have R2:=Lib.hid fun (w1:World) (hb:Below w.heap.size w w1) => grown_c (c:=c2) k1 k16 (hA2.below hb (Nat.le_refl _) (Nat.le_refl _)) hb.size (by omega)
  rw [e1] at G1 R1 hf1
  rw [e2] at G2 R2 hf2
  rw [e1,e2]
  have HT:=Lib.hid hT
  have HK:=Lib.hid (And.intro k1 (And.intro k16 (And.intro hf1 hf2)))
  have d1:decide ((k:Int) < 1) = false:=decide_eq_false (by omega)
  have d2:decide ((16:Int) < (k:Int)) = false:=decide_eq_false (by omega)
  have d2':decide (16 < k) = false:=decide_eq_false (by omega)
  have b0:((k:Int) != (k:Int)) = false:=by simp
  clear hT hA1 hl1 hA2 hl2 h1 h2 hf1 hf2 e1 e2 k1 k16
  go_enter Tryz.func5,Tryz.ntmps5
  go_wp2_with fail
  refine (awake15_c w HT.out).mono ?_
  rintro e w0 ⟨rfl,hb0⟩
  have B0:=Lib.hid hb0
  clear hb0
  go_wp2_with fail
  refine (G1.out w0 B0.out).mono ?_
  rintro e w' ⟨rfl,rfl⟩
  clear G1
  go_wp2_with fail
  refine (G2.out w0 B0.out).mono ?_
  rintro e w' ⟨rfl,rfl⟩
  clear G2
  go_wp2_with fail
  refine (R1.out w0 B0.out).mono ?_
  rintro e w1 ⟨b0,o0,D0,q0,rfl,hd0,-,hb1⟩
  obtain ⟨N0,hN0⟩:∃ N,(Tr.entsO o0).length = N:=⟨_,rfl⟩
  have B1:=Lib.hid (Below.andThen B0.out hb1)
  have HD0:=Lib.hid hd0
  rw [hN0]
  clear hb1 hd0 R1
  go_wp2_with fail
  refine (R2.out w1 B1.out).mono ?_
  rintro e w2 ⟨b1,o1,D1,q1,rfl,hd1,-,hb2⟩
  obtain ⟨N1,hN1⟩:∃ N,(Tr.entsO o1).length = N:=⟨_,rfl⟩
  have S2:=Lib.hid (St2.mk (HD0.out.below hb2) hd1 (Below.andThen B1.out hb2))
  have z0:N0≤40:=by have h:=HD0.out.few;rw [hN0] at h;have:=HK.out;omega
  have z1:N1≤40:=by have h:=hd1.few;rw [hN1] at h;have:=HK.out;omega
  have c0:N0≤q0:=by rw [← hN0];exact HD0.out.cap
  have c1':N1≤q1:=by rw [← hN1];exact hd1.cap
  have HN:=Lib.hid (And.intro hN0 (And.intro hN1 (And.intro z0 (And.intro z1 (And.intro c0 c1')))))
  have HZ:=Lib.hid (And.intro (zdX S2.out.h0.tree) (zdX S2.out.h1.tree))
  have HL:Hid ((Tr.entsO o0).length + (Tr.entsO o1).length≤80):=Lib.hid (by rw [hN0,hN1];omega)
  rw [hN1]
  clear hb2 hd1 R2 HD0 B1 B0 hN0 hN1 z0 z1 c0 c1'
  obtain ⟨L3,hL3⟩:∃ n,(Tr.jL 1 false false true (Tr.entsO o0) (Tr.entsO o1)).length = n:=⟨_,rfl⟩
  have HL3:=Lib.hid hL3
  have HB3:Hid (L3≤80):=Lib.hid (by rw [← hL3];exact Nat.le_trans (Tr.jL_len _ _ _ _ HZ.out.1 HZ.out.2) HL.out)
  clear hL3
  obtain ⟨x,hx⟩:∃ x,decide (Tr.jL 1 true false false (Tr.entsO o0) (Tr.entsO o1) = []) = x:=⟨_,rfl⟩
  obtain ⟨y,hy⟩:∃ y,(!decide (Tr.jL 1 false false true (Tr.entsO o0) (Tr.entsO o1) = [])) = y:=⟨_,rfl⟩
  have HXY:=Lib.hid (And.intro hx hy)
  have t1:((L3:Int) == (N0:Int)) = x:=by
    rw [← hx,← HN.out.1,← HL3.out]
    refine Bool.eq_iff_iff.2 ?_
    rw [beq_iff_eq,decide_eq_true_eq,Tr.jL_sub HZ.out.1 HZ.out.2]
    omega
  have t2:decide ((0:Int) < (L3:Int)) = y:=by
    rw [← hy,← HL3.out]
    cases Tr.jL 1 false false true (Tr.entsO o0) (Tr.entsO o1) <;> simp
  have t1':(L3 == N0) = x:=by
    rw [← t1]
    refine Bool.eq_iff_iff.2 ?_
    rw [beq_iff_eq,beq_iff_eq]
    omega
  have t2':decide (0 < L3) = y:=by
    rw [← t2]
    exact decide_eq_decide.2 (by omega)
  have n0:(N0:Int)≤40:=by have:=HN.out;omega
  have n1:(L3:Int)≤80:=by have:=HB3.out;omega
  have tx:(x == x) = true:=by simp
  have ty:(y == y) = true:=by simp
  clear hx hy
  go_wp2_with fail
  refine (sSubset_s S2.out.h0.tree S2.out.h1.tree (S2.out.tz HT.out) (by have:=HL.out;omega) HXY.out.1).mono ?_
  rintro e w3 ⟨rfl,hb⟩
  have S3:=Lib.hid (S2.out.below hb)
  clear hb S2
  go_wp2_with fail
  refine (sTouch_s S3.out.h0.tree S3.out.h1.tree (S3.out.tz HT.out) (by have:=HL.out;omega) HXY.out.2).mono ?_
  rintro e w4 ⟨rfl,hb⟩
  have S4:=Lib.hid (S3.out.below hb)
  clear hb S3
  go_wp2_with fail
  refine (r15join_c (c:=q0) (c':=q1) HZ.out.1 HZ.out.2 S4.out.e0 S4.out.e1 HN.out.1 HN.out.2.1 HN.out.2.2.2.2.1 HK.out.1 HK.out.2.1 (by have:=HN.out;omega) (r:=1) (by decide) false false true rfl (N:=L3) HL3.out).mono ?_
  rintro e w5 ⟨P3,p3,rfl,hE,hp,hb⟩
  have S5:=Lib.hid (S4.out.below hb)
  have Q3:=Lib.hid hE
  have C3:=Lib.hid hp
  clear hE hp
  clear hb S4
  go_wp2_with fail
  go_ret
  exact ⟨rfl,S5.out.bel⟩
theorem setsAsk_c {w:World} {A1 A2:Option Addr} {c1 c2:Nat} {l1 l2:List ActT} (k other:Int) (hT:Tz w) (hA1:ActsT w w.heap.size A1 l1) (hl1:l1.length≤maxLen) (hA2:ActsT w w.heap.size A2 l2) (hl2:l2.length≤maxLen) :
    Calls Tryz.prog 5 #[.int .i64 k,.int .i64 other,.slice A1 l1.length c1,.slice A2 l2.length c2] w fun e w' => e = .returned (.bool true)∧Below w.heap.size w w':=by
  rcases hs:(heavyA 40 l1 || heavyA 40 l2 || decide (k < 1) || decide (16 < k) || decide (other < 1) || decide (16 < other)) with _ | _
  · simp only [Bool.or_eq_false_iff,decide_eq_false_iff_not] at hs
    obtain ⟨⟨⟨⟨⟨h1,h2⟩,a1⟩,a2⟩,a3⟩,a4⟩:=hs
    obtain ⟨k',rfl⟩:∃ k':Nat,k = (k':Int):=⟨k.toNat,by omega⟩
    obtain ⟨o',rfl⟩:∃ o':Nat,other = (o':Int):=⟨other.toNat,by omega⟩
    by_cases hne:o' = k'
    · subst hne
      exact setsAsk_go hT hA1 hl1 hA2 hl2 h1 h2 (by omega) (by omega)
    · exact setsAsk_dim hT hA1 hl1 hA2 hl2 h1 h2 (by omega) (by omega) (by omega) (by omega) hne
  · exact setsAsk_skip k other hT hA1 hl1 hA2 hl2 hs
end Go.Proofs.YtkeepngaaleakaaGreatDoor
