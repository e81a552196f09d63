import Derived.Test.YtkeepngaaleakaaGreatDoorMXzd
import Derived.Test.YtkeepngaaleakaaGreatDoorMXzb
namespace Go.Proofs.YtkeepngaaleakaaGreatDoor
open Go.ChangeShapes Go.WideShapes Go.ChangeAt Go.RowKit
open Tr (T S4 Ent Tri KL)
theorem wg_small {w:World} {b0 b1 k:Nat} {x y:Option T} (h0:TreeX w b0 k x) (h1:TreeX w b1 k y) (hs:(Tr.entsO x).length + (Tr.entsO y).length≤100000):(Tr.wgt3 (two x y)≤1000000∧Tr.wgt3 (two y x)≤1000000)∧cnt3 (two x y)≤1000000000∧cnt3 (two y x)≤1000000000:=by
  have a0:=Tr.allO_len (k:=k) (o:=x) (fun t e => (h0.1.2.2.2.2 t e).1)
  have a1:=Tr.allO_len (k:=k) (o:=y) (fun t e => (h1.1.2.2.2.2 t e).1)
  have n0:(Tr.allO (none:Option T)).length = 0:=rfl
  have n1:(Tr.entsO (none:Option T)).length = 0:=rfl
  refine ⟨⟨?_,?_⟩,?_,?_⟩
  · show max 1 (2 * ((Tr.allO none).length + (Tr.allO x).length + (Tr.allO y).length) - 1)≤_
    omega
  · show max 1 (2 * ((Tr.allO none).length + (Tr.allO y).length + (Tr.allO x).length) - 1)≤_
    omega
  · show (Tr.entsO none).length + (Tr.entsO x).length + (Tr.entsO y).length≤_
    omega
  · show (Tr.entsO none).length + (Tr.entsO y).length + (Tr.entsO x).length≤_
    omega
section
variable {w:World} {b0 b1 k:Nat} {x y:Option T}
theorem sUnion_s (h0:TreeX w b0 k x) (h1:TreeX w b1 k y) (r:Int) (hr:1≤r∧r≤6) (hT:∀ w',Below w.heap.size w w'→Tz w') (hs:(Tr.entsO x).length + (Tr.entsO y).length≤100000) :
    Calls Tryz.prog 23 #[.pointer (some ⟨b0,0,none⟩),.pointer (some ⟨b1,0,none⟩),.int .i64 r] w fun e w' => ∃ (b:Nat) (N:Option T),e = .returned (.tuple #[.pointer (some ⟨b,0,none⟩),.int .i64 0])∧TreeX w' b k N∧Tr.entsO N = Tr.jL r true true true (Tr.entsO x) (Tr.entsO y)∧Below w.heap.size w w' :=
  sUnion_c h0 h1 hr hT (wg_small h0 h1 hs).1 (wg_small h0 h1 hs).2
theorem sCommon_s (h0:TreeX w b0 k x) (h1:TreeX w b1 k y) (r:Int) (hr:1≤r∧r≤6) (hT:∀ w',Below w.heap.size w w'→Tz w') (hs:(Tr.entsO x).length + (Tr.entsO y).length≤100000) :
    Calls Tryz.prog 24 #[.pointer (some ⟨b0,0,none⟩),.pointer (some ⟨b1,0,none⟩),.int .i64 r] w fun e w' => ∃ (b:Nat) (N:Option T),e = .returned (.tuple #[.pointer (some ⟨b,0,none⟩),.int .i64 0])∧TreeX w' b k N∧Tr.entsO N = Tr.jL r false false true (Tr.entsO x) (Tr.entsO y)∧Below w.heap.size w w' :=
  sCommon_c h0 h1 hr hT (wg_small h0 h1 hs).1 (wg_small h0 h1 hs).2
theorem sLess_s (h0:TreeX w b0 k x) (h1:TreeX w b1 k y) (hT:∀ w',Below w.heap.size w w'→Tz w') (hs:(Tr.entsO x).length + (Tr.entsO y).length≤100000) :
    Calls Tryz.prog 25 #[.pointer (some ⟨b0,0,none⟩),.pointer (some ⟨b1,0,none⟩)] w fun e w' => ∃ (b:Nat) (N:Option T),e = .returned (.tuple #[.pointer (some ⟨b,0,none⟩),.int .i64 0])∧TreeX w' b k N∧Tr.entsO N = Tr.jL 1 true false false (Tr.entsO x) (Tr.entsO y)∧Below w.heap.size w w' :=
  sLess_c h0 h1 hT (wg_small h0 h1 hs).1.1 (wg_small h0 h1 hs).2.1
theorem sTouch_s (h0:TreeX w b0 k x) (h1:TreeX w b1 k y) (hT:∀ w',Below w.heap.size w w'→Tz w') (hs:(Tr.entsO x).length + (Tr.entsO y).length≤100000) {r:Bool} (hr:(!decide (Tr.jL 1 false false true (Tr.entsO x) (Tr.entsO y) = [])) = r) :
    Calls Tryz.prog 28 #[.pointer (some ⟨b0,0,none⟩),.pointer (some ⟨b1,0,none⟩)] w fun e w' => e = .returned (.tuple #[.bool r,.int .i64 0])∧Below w.heap.size w w' :=
  sTouch_c h0 h1 hT (wg_small h0 h1 hs).1.1 (wg_small h0 h1 hs).2.1 hr
end
theorem exU_eq:Tr.getE (Tr.jL 5 true true true (Tr.putE [4,0] 3 []) (Tr.putE [4,0] 5 [])) [4,0] = some 8:=by decide +kernel
theorem exC_eq:Tr.getE (Tr.jL 6 false false true (Tr.putE [4,0] 3 []) (Tr.putE [4,0] 5 [])) [4,0] = some 2:=by decide +kernel
theorem exN_eq:(Tr.putE [4,0] 3 []).length + (Tr.putE [4,0] 5 []).length≤100000:=by decide +kernel
set_option maxRecDepth 100000 in
set_option maxHeartbeats 4000000 in
theorem awake15_c (w:World) (hT:Tz w):Calls Tryz.prog 22 #[] w fun e w' => e = .returned (.bool true)∧Below w.heap.size w w':=by
  have HT:=Lib.hid hT
  clear hT
  go_enter Tryz.func22,Tryz.ntmps22
  go_wp2_with fail
  refine (tNew_c 2 w (by decide) (by decide)).mono ?_
  rintro e w1 ⟨rfl,ht1,hb1⟩
  have T1:=Lib.hid ht1
  have B1:=Lib.hid hb1
  clear ht1 hb1
  go_wp2_with fail
  refine (tPut_new (T1.out.below (below_alloc w1 _) (Nat.le_refl _)) (pts_two w1 4 0 (by decide) (by decide)) rfl (c:=2) 3 (by decide) (by simp [Tr.entsO]) (by decide +kernel)).mono ?_
  rintro e w2 ⟨n2,t2,rfl,ht2,he2,hb2⟩
  have hb12:=Below.andThen (below_alloc w1 (.cells #[.int .u64 ((4:Nat):Int),.int .u64 ((0:Nat):Int)] 55)) hb2
  have T2:=Lib.hid ht2
  have E2:=Lib.hid he2
  have T1':=Lib.hid (T1.out.below hb12 (Nat.le_refl _))
  have B2:=Lib.hid (Below.andThen B1.out hb12)
  clear ht2 he2 hb2 T1 hb12
  go_wp2_with fail
  refine (tPut_new (T1'.out.below (below_alloc w2 _) (Nat.le_refl _)) (pts_two w2 4 0 (by decide) (by decide)) rfl (c:=2) 5 (by decide) (by simp [Tr.entsO]) (by decide +kernel)).mono ?_
  rintro e w3 ⟨n3,t3,rfl,ht3,he3,hb3⟩
  have hb23:=Below.andThen (below_alloc w2 (.cells #[.int .u64 ((4:Nat):Int),.int .u64 ((0:Nat):Int)] 55)) hb3
  have T3:=Lib.hid ht3
  have T2':=Lib.hid (T2.out.below hb23 (Nat.le_refl _))
  have B3:=Lib.hid (Below.andThen B2.out hb23)
  have hU:Tr.getE (Tr.jL 5 true true true (Tr.entsO (some t2)) (Tr.entsO (some t3))) [4,0] = some 8:=by
    show Tr.getE (Tr.jL 5 true true true t2.ents t3.ents) [4,0] = some 8
    rw [E2.out,he3]
    exact exU_eq
  have hC:Tr.getE (Tr.jL 6 false false true (Tr.entsO (some t2)) (Tr.entsO (some t3))) [4,0] = some 2:=by
    show Tr.getE (Tr.jL 6 false false true t2.ents t3.ents) [4,0] = some 2
    rw [E2.out,he3]
    exact exC_eq
  have hs:(Tr.entsO (some t2)).length + (Tr.entsO (some t3)).length≤100000:=by
    show t2.ents.length + t3.ents.length≤100000
    rw [E2.out,he3]
    exact exN_eq
  have HC:=Lib.hid (And.intro hU (And.intro hC hs))
  clear ht3 he3 hb3 T2 T1' hb23 hU hC hs E2
  go_wp2_with fail
  refine (sUnion_s T2'.out T3.out 5 (by decide) (fun w' hb => (HT.out.on B3.out).on hb) HC.out.2.2).mono ?_
  rintro e w4 ⟨b4,N4,rfl,ht4,he4,hb4⟩
  have T4:=Lib.hid ht4
  have E4:Hid (Tr.getE (Tr.entsO N4) [4,0] = some 8):=Lib.hid (by rw [he4];exact HC.out.1)
  have T2:=Lib.hid (T2'.out.below hb4 (Nat.le_refl _))
  have T3':=Lib.hid (T3.out.below hb4 (Nat.le_refl _))
  have B4:=Lib.hid (Below.andThen B3.out hb4)
  clear ht4 he4 hb4 T2' T3
  go_wp2_with fail
  refine (sCommon_s T2.out T3'.out 6 (by decide) (fun w' hb => (HT.out.on B4.out).on hb) HC.out.2.2).mono ?_
  rintro e w5 ⟨b5,N5,rfl,ht5,he5,hb5⟩
  have T5:=Lib.hid ht5
  have E5:Hid (Tr.getE (Tr.entsO N5) [4,0] = some 2):=Lib.hid (by rw [he5];exact HC.out.2.1)
  have T4':=Lib.hid (T4.out.below hb5 (Nat.le_refl _))
  have B5:=Lib.hid (Below.andThen B4.out hb5)
  clear ht5 he5 hb5 T2 T3' T4 HC
  go_wp2_with fail
  refine (tGetE_c (T4'.out.below (below_alloc w5 _) (Nat.le_refl _)).1 (Nat.le_refl _) (pts_two w5 4 0 (by decide) (by decide)) rfl (c:=2) (m:=2) rfl E4.out).mono ?_
  rintro e w6 ⟨rfl,hb6⟩
  have hb56:=Below.andThen (below_alloc w5 (.cells #[.int .u64 ((4:Nat):Int),.int .u64 ((0:Nat):Int)] 55)) hb6
  have T5':=Lib.hid (T5.out.below hb56 (Nat.le_refl _))
  have B6:=Lib.hid (Below.andThen B5.out hb56)
  clear hb6 hb56 T4' T5
  go_wp2_with fail
  refine (tGetE_c (T5'.out.below (below_alloc w6 _) (Nat.le_refl _)).1 (Nat.le_refl _) (pts_two w6 4 0 (by decide) (by decide)) rfl (c:=2) (m:=2) rfl E5.out).mono ?_
  rintro e w7 ⟨rfl,hb7⟩
  have B7:=Lib.hid (Below.andThen B6.out (Below.andThen (below_alloc w6 (.cells #[.int .u64 ((4:Nat):Int),.int .u64 ((0:Nat):Int)] 55)) hb7))
  clear hb7
  go_wp2_with fail
  go_ret
  exact ⟨rfl,B7.out⟩
set_option maxRecDepth 100000 in
set_option maxHeartbeats 4000000 in
theorem setsLaws_skip {w:World} {A1 A2:Option Addr} {c1 c2:Nat} {l1 l2:List ActT} (k r:Int) (hT:Tz w) (hA1:ActsT w w.heap.size A1 l1) (hl1:l1.length≤maxLen) (hA2:ActsT w w.heap.size A2 l2) (hl2:l2.length≤maxLen) (hs:(heavyA 40 l1 || heavyA 40 l2 || decide (k < 1) || decide (16 < k) || decide (r < 3) || decide (6 < r)) = true) :
    Calls Tryz.prog 6 #[.int .i64 k,.slice A1 l1.length c1,.slice A2 l2.length c2,.int .i64 r] w fun e w' => e = .returned (.bool true)∧Below w.heap.size w w':=by
  obtain ⟨r1,h1⟩:∃ r,heavyA 40 l1 = r:=⟨_,rfl⟩
  obtain ⟨r2,h2⟩:∃ r,heavyA 40 l2 = r:=⟨_,rfl⟩
  obtain ⟨x0,e0⟩:∃ bb,decide (k < 1) = bb:=⟨_,rfl⟩
  obtain ⟨x1,e1⟩:∃ bb,decide (16 < k) = bb:=⟨_,rfl⟩
  obtain ⟨x2,e2⟩:∃ bb,decide (r < 3) = bb:=⟨_,rfl⟩
  obtain ⟨x3,e3⟩:∃ bb,decide (6 < r) = bb:=⟨_,rfl⟩
  rw [h1,h2,e0,e1,e2,e3] at hs
  have G1:=Lib.hid fun (w1:World) (hb:Below w.heap.size w w1) => rheavy7_c (c:=c1) (hA1.below hb (Nat.le_refl _) (Nat.le_refl _)) hl1 40 r1 h1
  have G2:=Lib.hid fun (w1:World) (hb:Below w.heap.size w w1) => rheavy7_c (c:=c2) (hA2.below hb (Nat.le_refl _) (Nat.le_refl _)) hl2 40 r2 h2
  have HT:=Lib.hid hT
  have HS:=Lib.hid hs
  clear hT hA1 hl1 hA2 hl2 hs h1 h2
  go_enter Tryz.func6,Tryz.ntmps6
  go_wp2_with fail
  refine (awake15_c w HT.out).mono ?_
  rintro e w1 ⟨rfl,hb1⟩
  have HB:=Lib.hid hb1
  clear hb1
  go_wp2_with fail
  refine (G1.out w1 HB.out).mono ?_
  rintro e w' ⟨rfl,rfl⟩
  clear G1
  cases r1 with
  | true => (go_wp2_with fail);go_ret;exact ⟨rfl,HB.out⟩
  | false =>
    go_wp2_with fail
    refine (G2.out w1 HB.out).mono ?_
    rintro e w' ⟨rfl,rfl⟩
    clear G2
    cases r2 with
    | true => (go_wp2_with fail);go_ret;exact ⟨rfl,HB.out⟩
    | false =>
      cases x0 with
      | true => (go_wp2_with fail);go_ret;exact ⟨rfl,HB.out⟩
      | false =>
        cases x1 with
        | true => (go_wp2_with fail);go_ret;exact ⟨rfl,HB.out⟩
        | false =>
          cases x2 with
          | true => (go_wp2_with fail);go_ret;exact ⟨rfl,HB.out⟩
          | false =>
            cases x3 with
            | true => (go_wp2_with fail);go_ret;exact ⟨rfl,HB.out⟩
            | false =>
              exact absurd HS.out (by decide)
structure St2 (w W:World) (C b0 b1 k0 k1:Nat) (o0 o1:Option T) (D0 D1:Option Addr) (d0 d1 M0 M1:Nat):Prop where
  h0:Hand W C b0 k0 o0 D0 d0 M0
  h1:Hand W C b1 k1 o1 D1 d1 M1
  bel:Below w.heap.size w W
section
variable {w W W':World} {C b0 b1 k0 k1:Nat} {o0 o1:Option T} {D0 D1:Option Addr} {d0 d1 M0 M1:Nat}
theorem St2.below (h:St2 w W C b0 b1 k0 k1 o0 o1 D0 D1 d0 d1 M0 M1) (hb:Below W.heap.size W W'):St2 w W' C b0 b1 k0 k1 o0 o1 D0 D1 d0 d1 M0 M1:=⟨h.h0.below hb,h.h1.below hb,Below.andThen h.bel hb⟩
theorem St2.tz (h:St2 w W C b0 b1 k0 k1 o0 o1 D0 D1 d0 d1 M0 M1) (hT:Tz w):∀ w',Below W.heap.size W w'→Tz w':=fun _ hb => (hT.on h.bel).on hb
theorem St2.e0 (h:St2 w W C b0 b1 k0 k1 o0 o1 D0 D1 d0 d1 M0 M1):Ents W W.heap.size D0 (Tr.entsO o0):=EntL.ents h.h0.list h.h0.old (Nat.le_refl _)
theorem St2.e1 (h:St2 w W C b0 b1 k0 k1 o0 o1 D0 D1 d0 d1 M0 M1):Ents W W.heap.size D1 (Tr.entsO o1):=EntL.ents h.h1.list h.h1.old (Nat.le_refl _)
end
theorem zdX {w:World} {k b:Nat} {o:Option T} (h:TreeX w b k o):Tr.ZD k (Tr.entsO o):=⟨(dim_o h).2,(dim_o h).1⟩
end Go.Proofs.YtkeepngaaleakaaGreatDoor
