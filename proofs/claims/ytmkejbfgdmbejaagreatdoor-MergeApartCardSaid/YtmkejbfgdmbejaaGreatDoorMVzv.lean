import Derived.Test.YtmkejbfgdmbejaaGreatDoorMVzu
namespace Go.Proofs.YtmkejbfgdmbejaaGreatDoor
open Go.ChangeShapes Go.WideShapes Go.ChangeAt Go.RowKit
open Tr (T S4 Ent Tri KL)
set_option maxRecDepth 100000 in
set_option maxHeartbeats 2000000 in
theorem mergeApart_skip {w:World} {A1 A2 A3:Option Addr} {c1 c2 c3:Nat} {l1 l2 l3:List ActT} (k k2 r:Int) (hT:Tz w) (hA1:ActsT w w.heap.size A1 l1) (hl1:l1.length≤maxLen) (hA2:ActsT w w.heap.size A2 l2) (hl2:l2.length≤maxLen) (hA3:ActsT w w.heap.size A3 l3) (hl3:l3.length≤maxLen) (rr b3 b4:Bool) (hh:(heavyA 30 l1 || heavyA 30 l2 || heavyA 30 l3 || decide (k < 1) || decide (16 < k)) = rr) (hb3:decide (k2 < 1) = b3) (hb4:decide (16 < k2) = b4) (hor:(rr || b3 || b4) = true) :
    Calls Tryz.prog 5 #[.int .i64 k,.int .i64 k2,.slice A1 l1.length c1,.slice A2 l2.length c2,.slice A3 l3.length c3,.int .i64 r] w fun e w' => e = .returned (.bool true)∧Below w.heap.size w w':=by
  obtain ⟨n1,e1⟩:∃ n,l1.length = n:=⟨_,rfl⟩
  obtain ⟨n2,e2⟩:∃ n,l2.length = n:=⟨_,rfl⟩
  obtain ⟨n3,e3⟩:∃ n,l3.length = n:=⟨_,rfl⟩
  have HT:=Lib.hid hT
  have HG:=Lib.hid fun (w1:World) (hb:Below w.heap.size w w1) => rheavy14_c (c1:=c1) (c2:=c2) (c3:=c3) k (hA1.below hb (Nat.le_refl _) (Nat.le_refl _)) (hA2.below hb (Nat.le_refl _) (Nat.le_refl _)) (hA3.below hb (Nat.le_refl _) (Nat.le_refl _)) hl1 hl2 hl3 e1 e2 e3 hh
  rw [e1,e2,e3]
  clear hT hA1 hA2 hA3 hl1 hl2 hl3 e1 e2 e3 hh
  go_enter Tryz.func5,Tryz.ntmps5
  go_wp2_with fail
  refine (awake14_c w HT.out).mono ?_
  rintro e w1 ⟨rfl,hb1⟩
  have HB:=Lib.hid hb1
  clear hb1
  go_wp2_with fail
  refine (HG.out w1 HB.out).mono ?_
  rintro e w' ⟨rfl,rfl⟩
  clear HG
  cases rr with
  | true => (go_wp2_with fail);go_ret;exact ⟨rfl,HB.out⟩
  | false =>
    cases b3 with
    | true => (go_wp2_with fail);go_ret;exact ⟨rfl,HB.out⟩
    | false =>
      cases b4 with
      | true => (go_wp2_with fail);go_ret;exact ⟨rfl,HB.out⟩
      | false => cases hor
set_option maxRecDepth 1000000 in
set_option maxHeartbeats 16000000 in
theorem mergeApart_dim {w:World} {A1 A2 A3:Option Addr} {c1 c2 c3:Nat} {l1 l2 l3:List ActT} {k k2:Nat} (r:Int) (hT:Tz w) (hA1:ActsT w w.heap.size A1 l1) (hl1:l1.length≤maxLen) (hA2:ActsT w w.heap.size A2 l2) (hl2:l2.length≤maxLen) (hA3:ActsT w w.heap.size A3 l3) (hl3:l3.length≤maxLen) (h1:heavyA 30 l1 = false) (h2:heavyA 30 l2 = false) (h3:heavyA 30 l3 = false) (k1:1≤k) (k16:k≤16) (q1:1≤k2) (q16:k2≤16) (hk:k≠k2) :
    Calls Tryz.prog 5 #[.int .i64 (k:Int),.int .i64 (k2:Int),.slice A1 l1.length c1,.slice A2 l2.length c2,.slice A3 l3.length c3,.int .i64 r] w fun e w' => e = .returned (.bool true)∧Below w.heap.size w w':=by
  have hf1:=heavyA_few h1
  have hf2:=heavyA_few h2
  have hf3:=heavyA_few h3
  have hh:(heavyA 30 l1 || heavyA 30 l2 || heavyA 30 l3 || decide ((k:Int) < 1) || decide ((16:Int) < (k:Int))) = false:=by
    rw [h1,h2,h3,decide_eq_false (by omega:¬ ((k:Int) < 1)),decide_eq_false (by omega:¬ ((16:Int) < (k:Int)))]
    rfl
  obtain ⟨n1,e1⟩:∃ n,l1.length = n:=⟨_,rfl⟩
  obtain ⟨n2,e2⟩:∃ n,l2.length = n:=⟨_,rfl⟩
  obtain ⟨n3,e3⟩:∃ n,l3.length = n:=⟨_,rfl⟩
  have HT:=Lib.hid hT
  have HG:=Lib.hid fun (w1:World) (hb:Below w.heap.size w w1) => rheavy14_c (c1:=c1) (c2:=c2) (c3:=c3) (k:Int) (hA1.below hb (Nat.le_refl _) (Nat.le_refl _)) (hA2.below hb (Nat.le_refl _) (Nat.le_refl _)) (hA3.below hb (Nat.le_refl _) (Nat.le_refl _)) hl1 hl2 hl3 e1 e2 e3 hh
  have HK:=Lib.hid (And.intro k1 (And.intro k16 (And.intro hf1 (And.intro hf2 hf3))))
  have HW0:Hid (∀ w1,Below w.heap.size w w1→Calls Tryz.prog 12 #[.int .i64 (k:Int),.slice A1 n1 c1] w1 fun e w' => ∃ b o D d,e = .returned (.tuple #[.pointer (some ⟨b,0,none⟩),.slice D (Tr.entsO o).length d,.bool true])∧Hand w' w.heap.size b k o D d n1∧Tr.entsO o = l1.foldl (actE k) []∧Below w1.heap.size w1 w'):=Lib.hid fun w1 hb => by
    have h:=grown_c (c:=c1) k1 k16 (hA1.below hb (Nat.le_refl _) (Nat.le_refl _)) hb.size (by omega)
    rw [e1] at h
    exact h
  have HW1:Hid (∀ w1,Below w.heap.size w w1→Calls Tryz.prog 12 #[.int .i64 (k:Int),.slice A2 n2 c2] w1 fun e w' => ∃ b o D d,e = .returned (.tuple #[.pointer (some ⟨b,0,none⟩),.slice D (Tr.entsO o).length d,.bool true])∧Hand w' w.heap.size b k o D d n2∧Tr.entsO o = l2.foldl (actE k) []∧Below w1.heap.size w1 w'):=Lib.hid fun w1 hb => by
    have h:=grown_c (c:=c2) k1 k16 (hA2.below hb (Nat.le_refl _) (Nat.le_refl _)) hb.size (by omega)
    rw [e2] at h
    exact h
  have HW2:Hid (∀ w1,Below w.heap.size w w1→Calls Tryz.prog 12 #[.int .i64 (k2:Int),.slice A3 n3 c3] w1 fun e w' => ∃ b o D d,e = .returned (.tuple #[.pointer (some ⟨b,0,none⟩),.slice D (Tr.entsO o).length d,.bool true])∧Hand w' w.heap.size b k2 o D d n3∧Tr.entsO o = l3.foldl (actE k2) []∧Below w1.heap.size w1 w'):=Lib.hid fun w1 hb => by
    have h:=grown_c (c:=c3) q1 q16 (hA3.below hb (Nat.le_refl _) (Nat.le_refl _)) hb.size (by omega)
    rw [e3] at h
    exact h
  have HS:Hid (n1 + n2 + n3≤90):=Lib.hid (by omega)
  rw [e1,e2,e3]
  have d3:decide ((k2:Int) < 1) = false:=decide_eq_false (by omega)
  have d4:decide ((16:Int) < (k2:Int)) = false:=decide_eq_false (by omega)
  have d4':decide (16 < k2) = false:=decide_eq_false (by omega)
  have d5:((k:Int) != (k2:Int)) = true:=by rw [bne_iff_ne];omega
  have HKN:=Lib.hid hk
  clear hT hA1 hA2 hA3 hl1 hl2 hl3 e1 e2 e3 hh h1 h2 h3 hf1 hf2 hf3 k1 k16 q1 q16 hk
  go_enter Tryz.func5,Tryz.ntmps5
  go_wp2_with fail
  refine (awake14_c w HT.out).mono ?_
  rintro e w1 ⟨rfl,hb1⟩
  have HB:=Lib.hid hb1
  clear hb1
  go_wp2_with fail
  refine (HG.out w1 HB.out).mono ?_
  rintro e w' ⟨rfl,rfl⟩
  clear HG
  go_wp2_with fail
  refine (HW0.out w1 HB.out).mono ?_
  rintro e w2 ⟨b0,o0,D0,d0,rfl,h,-,hb⟩
  obtain ⟨N0,hN0⟩:∃ N,(Tr.entsO o0).length = N:=⟨_,rfl⟩
  have HN0:=Lib.hid hN0
  rw [hN0]
  have HD0:=Lib.hid h
  replace HB:=Lib.hid (Below.andThen HB.out hb)
  clear h hb hN0 HW0
  go_wp2_with fail
  refine (HW1.out w2 HB.out).mono ?_
  rintro e w3 ⟨b1,o1,D1,d1,rfl,h,-,hb⟩
  obtain ⟨N1,hN1⟩:∃ N,(Tr.entsO o1).length = N:=⟨_,rfl⟩
  have HN1:=Lib.hid hN1
  rw [hN1]
  have HD1:=Lib.hid h
  replace HB:=Lib.hid (Below.andThen HB.out hb)
  replace HD0:=Lib.hid (HD0.out.below hb)
  clear h hb hN1 HW1
  go_wp2_with fail
  refine (HW2.out w3 HB.out).mono ?_
  rintro e w4 ⟨b2,o2,D2,d2,rfl,h,-,hb⟩
  obtain ⟨N2,hN2⟩:∃ N,(Tr.entsO o2).length = N:=⟨_,rfl⟩
  have HN2:=Lib.hid hN2
  rw [hN2]
  have HD2:=Lib.hid h
  replace HB:=Lib.hid (Below.andThen HB.out hb)
  replace HD0:=Lib.hid (HD0.out.below hb)
  replace HD1:=Lib.hid (HD1.out.below hb)
  clear h hb hN2 HW2
  go_wp2_with fail
  refine (mThree_dim HD0.out.tree HD1.out.tree HD2.out.tree (.inr ⟨fun e => HKN.out e.symm,rfl⟩)).mono ?_
  rintro e w5 ⟨rfl,hb⟩
  replace HB:=Lib.hid (Below.andThen HB.out hb)
  replace HD0:=Lib.hid (HD0.out.below hb)
  replace HD1:=Lib.hid (HD1.out.below hb)
  replace HD2:=Lib.hid (HD2.out.below hb)
  clear hb
  go_wp2_with fail
  refine (mClashes_dim HD0.out.tree HD2.out.tree HD1.out.tree (.inl fun e => HKN.out e.symm)).mono ?_
  rintro e w6 ⟨rfl,hb⟩
  replace HB:=Lib.hid (Below.andThen HB.out hb)
  replace HD0:=Lib.hid (HD0.out.below hb)
  replace HD1:=Lib.hid (HD1.out.below hb)
  replace HD2:=Lib.hid (HD2.out.below hb)
  clear hb
  go_wp2_with fail
  refine (mBy_dim r HD2.out.tree HD0.out.tree HD1.out.tree (.inl HKN.out)).mono ?_
  rintro e w7 ⟨rfl,hb⟩
  replace HB:=Lib.hid (Below.andThen HB.out hb)
  clear hb
  go_wp2_with fail
  go_ret
  exact ⟨rfl,HB.out⟩
set_option maxRecDepth 1000000 in
set_option maxHeartbeats 16000000 in
theorem mergeApart_yes {w:World} {A1 A2 A3:Option Addr} {c1 c2 c3:Nat} {l1 l2 l3:List ActT} {k:Nat} (r:Int) (hT:Tz w) (hA1:ActsT w w.heap.size A1 l1) (hl1:l1.length≤maxLen) (hA2:ActsT w w.heap.size A2 l2) (hl2:l2.length≤maxLen) (hA3:ActsT w w.heap.size A3 l3) (hl3:l3.length≤maxLen) (h1:heavyA 30 l1 = false) (h2:heavyA 30 l2 = false) (h3:heavyA 30 l3 = false) (k1:1≤k) (k16:k≤16) :
    Calls Tryz.prog 5 #[.int .i64 (k:Int),.int .i64 (k:Int),.slice A1 l1.length c1,.slice A2 l2.length c2,.slice A3 l3.length c3,.int .i64 r] w fun e w' => e = .returned (.bool true)∧Below w.heap.size w w':=by
  have hf1:=heavyA_few h1
  have hf2:=heavyA_few h2
  have hf3:=heavyA_few h3
  have hh:(heavyA 30 l1 || heavyA 30 l2 || heavyA 30 l3 || decide ((k:Int) < 1) || decide ((16:Int) < (k:Int))) = false:=by
    rw [h1,h2,h3,decide_eq_false (by omega:¬ ((k:Int) < 1)),decide_eq_false (by omega:¬ ((16:Int) < (k:Int)))]
    rfl
  obtain ⟨n1,e1⟩:∃ n,l1.length = n:=⟨_,rfl⟩
  obtain ⟨n2,e2⟩:∃ n,l2.length = n:=⟨_,rfl⟩
  obtain ⟨n3,e3⟩:∃ n,l3.length = n:=⟨_,rfl⟩
  have HT:=Lib.hid hT
  have HG:=Lib.hid fun (w1:World) (hb:Below w.heap.size w w1) => rheavy14_c (c1:=c1) (c2:=c2) (c3:=c3) (k:Int) (hA1.below hb (Nat.le_refl _) (Nat.le_refl _)) (hA2.below hb (Nat.le_refl _) (Nat.le_refl _)) (hA3.below hb (Nat.le_refl _) (Nat.le_refl _)) hl1 hl2 hl3 e1 e2 e3 hh
  have HK:=Lib.hid (And.intro k1 (And.intro k16 (And.intro hf1 (And.intro hf2 hf3))))
  have HW0:Hid (∀ w1,Below w.heap.size w w1→Calls Tryz.prog 12 #[.int .i64 (k:Int),.slice A1 n1 c1] w1 fun e w' => ∃ b o D d,e = .returned (.tuple #[.pointer (some ⟨b,0,none⟩),.slice D (Tr.entsO o).length d,.bool true])∧Hand w' w.heap.size b k o D d n1∧Tr.entsO o = l1.foldl (actE k) []∧Below w1.heap.size w1 w'):=Lib.hid fun w1 hb => by
    have h:=grown_c (c:=c1) k1 k16 (hA1.below hb (Nat.le_refl _) (Nat.le_refl _)) hb.size (by omega)
    rw [e1] at h
    exact h
  have HW1:Hid (∀ w1,Below w.heap.size w w1→Calls Tryz.prog 12 #[.int .i64 (k:Int),.slice A2 n2 c2] w1 fun e w' => ∃ b o D d,e = .returned (.tuple #[.pointer (some ⟨b,0,none⟩),.slice D (Tr.entsO o).length d,.bool true])∧Hand w' w.heap.size b k o D d n2∧Tr.entsO o = l2.foldl (actE k) []∧Below w1.heap.size w1 w'):=Lib.hid fun w1 hb => by
    have h:=grown_c (c:=c2) k1 k16 (hA2.below hb (Nat.le_refl _) (Nat.le_refl _)) hb.size (by omega)
    rw [e2] at h
    exact h
  have HW2:Hid (∀ w1,Below w.heap.size w w1→Calls Tryz.prog 12 #[.int .i64 (k:Int),.slice A3 n3 c3] w1 fun e w' => ∃ b o D d,e = .returned (.tuple #[.pointer (some ⟨b,0,none⟩),.slice D (Tr.entsO o).length d,.bool true])∧Hand w' w.heap.size b k o D d n3∧Tr.entsO o = l3.foldl (actE k) []∧Below w1.heap.size w1 w'):=Lib.hid fun w1 hb => by
    have h:=grown_c (c:=c3) k1 k16 (hA3.below hb (Nat.le_refl _) (Nat.le_refl _)) hb.size (by omega)
    rw [e3] at h
    exact h
  have HS:Hid (n1 + n2 + n3≤90):=Lib.hid (by omega)
  rw [e1,e2,e3]
  have d3:decide ((k:Int) < 1) = false:=decide_eq_false (by omega)
  have d4:decide ((16:Int) < (k:Int)) = false:=decide_eq_false (by omega)
  have d4':decide (16 < k) = false:=decide_eq_false (by omega)
  have d5:((k:Int) != (k:Int)) = false:=by simp
  clear hT hA1 hA2 hA3 hl1 hl2 hl3 e1 e2 e3 hh h1 h2 h3 hf1 hf2 hf3 k1 k16
  go_enter Tryz.func5,Tryz.ntmps5
  go_wp2_with fail
  refine (awake14_c w HT.out).mono ?_
  rintro e w1 ⟨rfl,hb1⟩
  have HB:=Lib.hid hb1
  clear hb1
  go_wp2_with fail
  refine (HG.out w1 HB.out).mono ?_
  rintro e w' ⟨rfl,rfl⟩
  clear HG
  go_wp2_with fail
  refine (HW0.out w1 HB.out).mono ?_
  rintro e w2 ⟨b0,o0,D0,d0,rfl,h,-,hb⟩
  obtain ⟨N0,hN0⟩:∃ N,(Tr.entsO o0).length = N:=⟨_,rfl⟩
  have HN0:=Lib.hid hN0
  rw [hN0]
  have HD0:=Lib.hid h
  replace HB:=Lib.hid (Below.andThen HB.out hb)
  clear h hb hN0 HW0
  go_wp2_with fail
  refine (HW1.out w2 HB.out).mono ?_
  rintro e w3 ⟨b1,o1,D1,d1,rfl,h,-,hb⟩
  obtain ⟨N1,hN1⟩:∃ N,(Tr.entsO o1).length = N:=⟨_,rfl⟩
  have HN1:=Lib.hid hN1
  rw [hN1]
  have HD1:=Lib.hid h
  replace HB:=Lib.hid (Below.andThen HB.out hb)
  replace HD0:=Lib.hid (HD0.out.below hb)
  clear h hb hN1 HW1
  go_wp2_with fail
  refine (HW2.out w3 HB.out).mono ?_
  rintro e w4 ⟨b2,o2,D2,d2,rfl,h,-,hb⟩
  obtain ⟨N2,hN2⟩:∃ N,(Tr.entsO o2).length = N:=⟨_,rfl⟩
  have HN2:=Lib.hid hN2
  rw [hN2]
  have HD2:=Lib.hid h
  replace HB:=Lib.hid (Below.andThen HB.out hb)
  replace HD0:=Lib.hid (HD0.out.below hb)
  replace HD1:=Lib.hid (HD1.out.below hb)
  clear h hb hN2 HW2
  have ba:=below_alloc w4 (.cells #[.pointer (some ⟨b0,0,none⟩),.pointer (some ⟨b1,0,none⟩),.pointer (some ⟨b2,0,none⟩)] 29)
  have bb:=below_alloc (w4.alloc (.cells #[.pointer (some ⟨b0,0,none⟩),.pointer (some ⟨b1,0,none⟩),.pointer (some ⟨b2,0,none⟩)] 29)) (.cells #[.slice D0 N0 d0,.slice D1 N1 d1,.slice D2 N2 d2] 30)
  have hab:=Below.andThen ba bb
  have ht:=(bb.block w4.heap.size (by simp)).trans (heap_at w4 (.cells #[.pointer (some ⟨b0,0,none⟩),.pointer (some ⟨b1,0,none⟩),.pointer (some ⟨b2,0,none⟩)] 29) _ rfl)
  have hl:=heap_at (w4.alloc (.cells #[.pointer (some ⟨b0,0,none⟩),.pointer (some ⟨b1,0,none⟩),.pointer (some ⟨b2,0,none⟩)] 29)) (.cells #[.slice D0 N0 d0,.slice D1 N1 d1,.slice D2 N2 d2] 30) _ rfl
  rw [World.size_alloc] at hl
  have HI:=Lib.hid (is14_c (ct:=3) (cl:=3) (T14.mk (t:=⟨o0,o1,o2⟩) (HD0.out.below hab) (HD1.out.below hab) (HD2.out.below hab) ht (by rw [HN0.out,HN1.out,HN2.out];exact hl)) (fun w' hb => HT.out.on (Below.andThen HB.out (Below.andThen hab hb))) HK.out.1 HK.out.2.1 (by have:=HS.out;omega) r)
  replace HB:=Lib.hid (Below.andThen HB.out hab)
  clear ba bb hab ht hl
  go_wp2_with fail
  refine HI.out.mono ?_
  rintro e w6 ⟨rfl,hb⟩
  replace HB:=Lib.hid (Below.andThen HB.out hb)
  clear hb
  go_wp2_with fail
  go_ret
  exact ⟨rfl,HB.out⟩
theorem mergeApart_c {w:World} {A1 A2 A3:Option Addr} {c1 c2 c3:Nat} {l1 l2 l3:List ActT} (k k2 r:Int) (hT:Tz w) (hA1:ActsT w w.heap.size A1 l1) (hl1:l1.length≤maxLen) (hA2:ActsT w w.heap.size A2 l2) (hl2:l2.length≤maxLen) (hA3:ActsT w w.heap.size A3 l3) (hl3:l3.length≤maxLen) :
    Calls Tryz.prog 5 #[.int .i64 k,.int .i64 k2,.slice A1 l1.length c1,.slice A2 l2.length c2,.slice A3 l3.length c3,.int .i64 r] w fun e w' => e = .returned (.bool true)∧Below w.heap.size w w':=by
  by_cases h:((heavyA 30 l1 || heavyA 30 l2 || heavyA 30 l3 || decide (k < 1) || decide (16 < k)) || decide (k2 < 1) || decide (16 < k2)) = true
  · exact mergeApart_skip k k2 r hT hA1 hl1 hA2 hl2 hA3 hl3 _ _ _ rfl rfl rfl h
  · simp only [Bool.or_eq_true,decide_eq_true_eq,not_or,Bool.not_eq_true] at h
    obtain ⟨⟨⟨⟨⟨⟨h1,h2⟩,h3⟩,h4⟩,h5⟩,h6⟩,h7⟩:=h
    obtain ⟨a,rfl⟩:∃ a:Nat,k = (a:Int):=⟨k.toNat,by omega⟩
    obtain ⟨b,rfl⟩:∃ b:Nat,k2 = (b:Int):=⟨k2.toNat,by omega⟩
    by_cases hk:a = b
    · subst hk
      exact mergeApart_yes r hT hA1 hl1 hA2 hl2 hA3 hl3 h1 h2 h3 (by omega) (by omega)
    · exact mergeApart_dim r hT hA1 hl1 hA2 hl2 hA3 hl3 h1 h2 h3 (by omega) (by omega) (by omega) (by omega) hk
end Go.Proofs.YtmkejbfgdmbejaaGreatDoor
