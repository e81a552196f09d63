import Derived.Test.YtmkejbfgdmbejaaGreatDoorMEn
namespace Go.Proofs.YtmkejbfgdmbejaaGreatDoor
open Go.ChangeShapes Go.WideShapes Go.ChangeAt Go.RowKit
open Tr (T S4 Ent Tri KL)
theorem row9 {W:World} {b:Nat} {v0 v1 v2 v3 v4 v5 v6 v7 v8:Value} {ty:TypeId} (h:W.heap[b]? = some (.cells #[v0,v1,v2,v3,v4,v5,v6,v7,v8] ty (0,0))):(W.cell? ⟨b,0,none⟩ = some v0∧W.cell? ⟨b,1,none⟩ = some v1∧W.cell? ⟨b,2,none⟩ = some v2)∧(W.cell? ⟨b,3,none⟩ = some v3∧W.cell? ⟨b,4,none⟩ = some v4∧W.cell? ⟨b,5,none⟩ = some v5)∧(W.cell? ⟨b,6,none⟩ = some v6∧W.cell? ⟨b,7,none⟩ = some v7∧W.cell? ⟨b,8,none⟩ = some v8):=by
  refine ⟨⟨?_,?_,?_⟩,⟨?_,?_,?_⟩,?_,?_,?_⟩
  all_goals rw [cell_of_row W b _ _ _ (0,0) h];rfl
set_option maxRecDepth 1000000 in
set_option maxHeartbeats 8000000 in
theorem mergeNil_c {w:World} (hT:Tz w) (r:Int):Calls Tryz.prog 8 #[.int .i64 r] w fun e w' => e = .returned (.bool true)∧Below w.heap.size w w':=by
  have HT:=Lib.hid hT
  have q0:IntKind.i64.wrap 0 = 0:=by decide
  have q1:IntKind.i64.wrap 1 = 1:=by decide
  have q2:IntKind.i64.wrap 2 = 2:=by decide
  have q3:IntKind.i64.wrap 3 = 3:=by decide
  have q4:IntKind.i64.wrap 4 = 4:=by decide
  have q5:IntKind.i64.wrap 5 = 5:=by decide
  have q6:IntKind.i64.wrap 6 = 6:=by decide
  have q7:IntKind.i64.wrap 7 = 7:=by decide
  have q8:IntKind.i64.wrap 8 = 8:=by decide
  clear hT
  go_enter Tryz.func8,Tryz.ntmps8
  go_wp2_with fail
  refine (awake14_c w HT.out).mono ?_
  rintro e w1 ⟨rfl,hb1⟩
  have B1:=Lib.hid hb1
  clear hb1
  go_wp2_with fail
  refine (tNew_c 2 w1 (by decide) (by decide)).mono ?_
  rintro e w2 ⟨rfl,-,hb2⟩
  have B2:=Lib.hid (Below.andThen B1.out hb2)
  obtain ⟨tp,htp⟩:∃ t:Option Addr,some ⟨w1.heap.size,0,none⟩ = t:=⟨_,rfl⟩
  rw [htp]
  clear hb2 htp
  have hal:=below_alloc w2 (.cells #[.pointer none,.pointer tp,.pointer tp,.pointer tp,.pointer none,.pointer tp,.pointer tp,.pointer tp,.pointer none] 29)
  have hat:=heap_at w2 (.cells #[.pointer none,.pointer tp,.pointer tp,.pointer tp,.pointer none,.pointer tp,.pointer tp,.pointer tp,.pointer none] 29) _ rfl
  obtain ⟨W1,hW1⟩:∃ W1,W1 = w2.alloc (.cells #[.pointer none,.pointer tp,.pointer tp,.pointer tp,.pointer none,.pointer tp,.pointer tp,.pointer tp,.pointer none] 29):=⟨_,rfl⟩
  go_upto_region 5 with fail
  rw [← hW1] at hal hat ⊢
  have hlt:w2.heap.size < W1.heap.size:=by rw [hW1];simp
  obtain ⟨g,hg⟩:∃ g,w2.heap.size = g:=⟨_,rfl⟩
  have B3:=Lib.hid (Below.andThen B2.out hal)
  rw [hg] at hat hlt ⊢
  have HA:=Lib.hid fun (w':World) (hb:Below W1.heap.size W1 w') => row9 ((hb.block g hlt).trans hat)
  clear hW1 hal hat hlt hg
  go_wp2_with fail
  go_loopw [6] (fun i wr => ∃ j:Nat,j≤3∧i = .int .i64 (j:Int)∧Below W1.heap.size W1 wr) (fun i _ => 3 - (intOf i).toNat)
  case atStart => exact ⟨0,Nat.zero_le _,rfl,Below.refl _ _⟩
  case round =>
    obtain ⟨j,hj,rfl,hbr⟩:=hrel
    have HB:=Lib.hid hbr
    clear hbr
    match j,hj with
    | 0,_ =>
      simp only [show ((0:Nat):Int) = 0 from rfl]
      have a0:∀ w',Below wr.heap.size wr w'→w'.cell? ⟨g,0,none⟩ = some (.pointer none):=fun w' hb => (HA.out w' (Below.andThen HB.out hb)).1.1
      have a1:∀ w',Below wr.heap.size wr w'→w'.cell? ⟨g,1,none⟩ = some (.pointer tp):=fun w' hb => (HA.out w' (Below.andThen HB.out hb)).1.2.1
      have a2:∀ w',Below wr.heap.size wr w'→w'.cell? ⟨g,2,none⟩ = some (.pointer tp):=fun w' hb => (HA.out w' (Below.andThen HB.out hb)).1.2.2
      have hb0:Below wr.heap.size wr wr:=Below.refl _ _
      go_wp2_with fail
      go_region_held3 (fun w' => Below wr.heap.size wr w') (((repeat first | refine bD ?_ | with_reducible refine bN ?_ | refine bA ?_ | refine bS ?_);first | exact bR | assumption | exact bN bR | exact bN (bN bR)))
        ((go_at_call 22;refine (mThree_nil _ none tp tp (by simp)).mono ?_;rintro e w3 ⟨rfl,hb2⟩;have hbD:=Below.trans (show Below wr.heap.size wr _ by ((repeat first | refine bD ?_ | with_reducible refine bN ?_ | refine bA ?_ | refine bS ?_);first | exact bR | assumption | exact bN bR | exact bN (bN bR))) (hb2.mono (Below.size (show Below wr.heap.size wr _ by ((repeat first | refine bD ?_ | with_reducible refine bN ?_ | refine bA ?_ | refine bS ?_);first | exact bR | assumption | exact bN bR | exact bN (bN bR)))));clear hb2))
      clear a0 a1 a2 hb0
      have H3:=Lib.hid (Below.andThen HB.out hbD)
      clear hbD
      have a0:∀ w',Below w3.heap.size w3 w'→w'.cell? ⟨g,0,none⟩ = some (.pointer none):=fun w' hb => (HA.out w' (Below.andThen H3.out hb)).1.1
      have a1:∀ w',Below w3.heap.size w3 w'→w'.cell? ⟨g,1,none⟩ = some (.pointer tp):=fun w' hb => (HA.out w' (Below.andThen H3.out hb)).1.2.1
      have a2:∀ w',Below w3.heap.size w3 w'→w'.cell? ⟨g,2,none⟩ = some (.pointer tp):=fun w' hb => (HA.out w' (Below.andThen H3.out hb)).1.2.2
      have hb0:Below w3.heap.size w3 w3:=Below.refl _ _
      go_wp2_with fail
      go_region_held3 (fun w' => Below w3.heap.size w3 w') (((repeat first | refine bD ?_ | with_reducible refine bN ?_ | refine bA ?_ | refine bS ?_);first | exact bR | assumption | exact bN bR | exact bN (bN bR)))
        ((go_at_call 23;refine (mClashes_nil _ none tp tp (by simp)).mono ?_;rintro e w4 ⟨rfl,hb2⟩;have hbD:=Below.trans (show Below w3.heap.size w3 _ by ((repeat first | refine bD ?_ | with_reducible refine bN ?_ | refine bA ?_ | refine bS ?_);first | exact bR | assumption | exact bN bR | exact bN (bN bR))) (hb2.mono (Below.size (show Below w3.heap.size w3 _ by ((repeat first | refine bD ?_ | with_reducible refine bN ?_ | refine bA ?_ | refine bS ?_);first | exact bR | assumption | exact bN bR | exact bN (bN bR)))));clear hb2))
      clear a0 a1 a2 hb0
      have H4:=Lib.hid (Below.andThen H3.out hbD)
      clear hbD
      have a0:∀ w',Below w4.heap.size w4 w'→w'.cell? ⟨g,0,none⟩ = some (.pointer none):=fun w' hb => (HA.out w' (Below.andThen H4.out hb)).1.1
      have a1:∀ w',Below w4.heap.size w4 w'→w'.cell? ⟨g,1,none⟩ = some (.pointer tp):=fun w' hb => (HA.out w' (Below.andThen H4.out hb)).1.2.1
      have a2:∀ w',Below w4.heap.size w4 w'→w'.cell? ⟨g,2,none⟩ = some (.pointer tp):=fun w' hb => (HA.out w' (Below.andThen H4.out hb)).1.2.2
      have hb0:Below w4.heap.size w4 w4:=Below.refl _ _
      go_wp2_with fail
      go_region_held3 (fun w' => Below w4.heap.size w4 w') (((repeat first | refine bD ?_ | with_reducible refine bN ?_ | refine bA ?_ | refine bS ?_);first | exact bR | assumption | exact bN bR | exact bN (bN bR)))
        ((go_at_call 24;refine (mBy_nil _ none tp tp r (by simp)).mono ?_;rintro e w5 ⟨rfl,hb2⟩;have hbD:=Below.trans (show Below w4.heap.size w4 _ by ((repeat first | refine bD ?_ | with_reducible refine bN ?_ | refine bA ?_ | refine bS ?_);first | exact bR | assumption | exact bN bR | exact bN (bN bR))) (hb2.mono (Below.size (show Below w4.heap.size w4 _ by ((repeat first | refine bD ?_ | with_reducible refine bN ?_ | refine bA ?_ | refine bS ?_);first | exact bR | assumption | exact bN bR | exact bN (bN bR)))));clear hb2))
      clear a0 a1 a2 hb0
      have H5:=Lib.hid (Below.andThen H4.out hbD)
      clear hbD
      go_wp2_with fail
      go_roundw
      case rel => exact ⟨1,by omega,by first | rfl | go_num,H5.out⟩
      case measure => simp [intOf]
    | 1,_ =>
      simp only [show ((1:Nat):Int) = 1 from rfl]
      have a0:∀ w',Below wr.heap.size wr w'→w'.cell? ⟨g,3,none⟩ = some (.pointer tp):=fun w' hb => (HA.out w' (Below.andThen HB.out hb)).2.1.1
      have a1:∀ w',Below wr.heap.size wr w'→w'.cell? ⟨g,4,none⟩ = some (.pointer none):=fun w' hb => (HA.out w' (Below.andThen HB.out hb)).2.1.2.1
      have a2:∀ w',Below wr.heap.size wr w'→w'.cell? ⟨g,5,none⟩ = some (.pointer tp):=fun w' hb => (HA.out w' (Below.andThen HB.out hb)).2.1.2.2
      have hb0:Below wr.heap.size wr wr:=Below.refl _ _
      go_wp2_with fail
      go_region_held3 (fun w' => Below wr.heap.size wr w') (((repeat first | refine bD ?_ | with_reducible refine bN ?_ | refine bA ?_ | refine bS ?_);first | exact bR | assumption | exact bN bR | exact bN (bN bR)))
        ((go_at_call 22;refine (mThree_nil _ tp none tp (by simp)).mono ?_;rintro e w3 ⟨rfl,hb2⟩;have hbD:=Below.trans (show Below wr.heap.size wr _ by ((repeat first | refine bD ?_ | with_reducible refine bN ?_ | refine bA ?_ | refine bS ?_);first | exact bR | assumption | exact bN bR | exact bN (bN bR))) (hb2.mono (Below.size (show Below wr.heap.size wr _ by ((repeat first | refine bD ?_ | with_reducible refine bN ?_ | refine bA ?_ | refine bS ?_);first | exact bR | assumption | exact bN bR | exact bN (bN bR)))));clear hb2))
      clear a0 a1 a2 hb0
      have H3:=Lib.hid (Below.andThen HB.out hbD)
      clear hbD
      have a0:∀ w',Below w3.heap.size w3 w'→w'.cell? ⟨g,3,none⟩ = some (.pointer tp):=fun w' hb => (HA.out w' (Below.andThen H3.out hb)).2.1.1
      have a1:∀ w',Below w3.heap.size w3 w'→w'.cell? ⟨g,4,none⟩ = some (.pointer none):=fun w' hb => (HA.out w' (Below.andThen H3.out hb)).2.1.2.1
      have a2:∀ w',Below w3.heap.size w3 w'→w'.cell? ⟨g,5,none⟩ = some (.pointer tp):=fun w' hb => (HA.out w' (Below.andThen H3.out hb)).2.1.2.2
      have hb0:Below w3.heap.size w3 w3:=Below.refl _ _
      go_wp2_with fail
      go_region_held3 (fun w' => Below w3.heap.size w3 w') (((repeat first | refine bD ?_ | with_reducible refine bN ?_ | refine bA ?_ | refine bS ?_);first | exact bR | assumption | exact bN bR | exact bN (bN bR)))
        ((go_at_call 23;refine (mClashes_nil _ tp none tp (by simp)).mono ?_;rintro e w4 ⟨rfl,hb2⟩;have hbD:=Below.trans (show Below w3.heap.size w3 _ by ((repeat first | refine bD ?_ | with_reducible refine bN ?_ | refine bA ?_ | refine bS ?_);first | exact bR | assumption | exact bN bR | exact bN (bN bR))) (hb2.mono (Below.size (show Below w3.heap.size w3 _ by ((repeat first | refine bD ?_ | with_reducible refine bN ?_ | refine bA ?_ | refine bS ?_);first | exact bR | assumption | exact bN bR | exact bN (bN bR)))));clear hb2))
      clear a0 a1 a2 hb0
      have H4:=Lib.hid (Below.andThen H3.out hbD)
      clear hbD
      have a0:∀ w',Below w4.heap.size w4 w'→w'.cell? ⟨g,3,none⟩ = some (.pointer tp):=fun w' hb => (HA.out w' (Below.andThen H4.out hb)).2.1.1
      have a1:∀ w',Below w4.heap.size w4 w'→w'.cell? ⟨g,4,none⟩ = some (.pointer none):=fun w' hb => (HA.out w' (Below.andThen H4.out hb)).2.1.2.1
      have a2:∀ w',Below w4.heap.size w4 w'→w'.cell? ⟨g,5,none⟩ = some (.pointer tp):=fun w' hb => (HA.out w' (Below.andThen H4.out hb)).2.1.2.2
      have hb0:Below w4.heap.size w4 w4:=Below.refl _ _
      go_wp2_with fail
      go_region_held3 (fun w' => Below w4.heap.size w4 w') (((repeat first | refine bD ?_ | with_reducible refine bN ?_ | refine bA ?_ | refine bS ?_);first | exact bR | assumption | exact bN bR | exact bN (bN bR)))
        ((go_at_call 24;refine (mBy_nil _ tp none tp r (by simp)).mono ?_;rintro e w5 ⟨rfl,hb2⟩;have hbD:=Below.trans (show Below w4.heap.size w4 _ by ((repeat first | refine bD ?_ | with_reducible refine bN ?_ | refine bA ?_ | refine bS ?_);first | exact bR | assumption | exact bN bR | exact bN (bN bR))) (hb2.mono (Below.size (show Below w4.heap.size w4 _ by ((repeat first | refine bD ?_ | with_reducible refine bN ?_ | refine bA ?_ | refine bS ?_);first | exact bR | assumption | exact bN bR | exact bN (bN bR)))));clear hb2))
      clear a0 a1 a2 hb0
      have H5:=Lib.hid (Below.andThen H4.out hbD)
      clear hbD
      go_wp2_with fail
      go_roundw
      case rel => exact ⟨2,by omega,by first | rfl | go_num,H5.out⟩
      case measure => simp [intOf]
    | 2,_ =>
      simp only [show ((2:Nat):Int) = 2 from rfl]
      have a0:∀ w',Below wr.heap.size wr w'→w'.cell? ⟨g,6,none⟩ = some (.pointer tp):=fun w' hb => (HA.out w' (Below.andThen HB.out hb)).2.2.1
      have a1:∀ w',Below wr.heap.size wr w'→w'.cell? ⟨g,7,none⟩ = some (.pointer tp):=fun w' hb => (HA.out w' (Below.andThen HB.out hb)).2.2.2.1
      have a2:∀ w',Below wr.heap.size wr w'→w'.cell? ⟨g,8,none⟩ = some (.pointer none):=fun w' hb => (HA.out w' (Below.andThen HB.out hb)).2.2.2.2
      have hb0:Below wr.heap.size wr wr:=Below.refl _ _
      go_wp2_with fail
      go_region_held3 (fun w' => Below wr.heap.size wr w') (((repeat first | refine bD ?_ | with_reducible refine bN ?_ | refine bA ?_ | refine bS ?_);first | exact bR | assumption | exact bN bR | exact bN (bN bR)))
        ((go_at_call 22;refine (mThree_nil _ tp tp none (by simp)).mono ?_;rintro e w3 ⟨rfl,hb2⟩;have hbD:=Below.trans (show Below wr.heap.size wr _ by ((repeat first | refine bD ?_ | with_reducible refine bN ?_ | refine bA ?_ | refine bS ?_);first | exact bR | assumption | exact bN bR | exact bN (bN bR))) (hb2.mono (Below.size (show Below wr.heap.size wr _ by ((repeat first | refine bD ?_ | with_reducible refine bN ?_ | refine bA ?_ | refine bS ?_);first | exact bR | assumption | exact bN bR | exact bN (bN bR)))));clear hb2))
      clear a0 a1 a2 hb0
      have H3:=Lib.hid (Below.andThen HB.out hbD)
      clear hbD
      have a0:∀ w',Below w3.heap.size w3 w'→w'.cell? ⟨g,6,none⟩ = some (.pointer tp):=fun w' hb => (HA.out w' (Below.andThen H3.out hb)).2.2.1
      have a1:∀ w',Below w3.heap.size w3 w'→w'.cell? ⟨g,7,none⟩ = some (.pointer tp):=fun w' hb => (HA.out w' (Below.andThen H3.out hb)).2.2.2.1
      have a2:∀ w',Below w3.heap.size w3 w'→w'.cell? ⟨g,8,none⟩ = some (.pointer none):=fun w' hb => (HA.out w' (Below.andThen H3.out hb)).2.2.2.2
      have hb0:Below w3.heap.size w3 w3:=Below.refl _ _
      go_wp2_with fail
      go_region_held3 (fun w' => Below w3.heap.size w3 w') (((repeat first | refine bD ?_ | with_reducible refine bN ?_ | refine bA ?_ | refine bS ?_);first | exact bR | assumption | exact bN bR | exact bN (bN bR)))
        ((go_at_call 23;refine (mClashes_nil _ tp tp none (by simp)).mono ?_;rintro e w4 ⟨rfl,hb2⟩;have hbD:=Below.trans (show Below w3.heap.size w3 _ by ((repeat first | refine bD ?_ | with_reducible refine bN ?_ | refine bA ?_ | refine bS ?_);first | exact bR | assumption | exact bN bR | exact bN (bN bR))) (hb2.mono (Below.size (show Below w3.heap.size w3 _ by ((repeat first | refine bD ?_ | with_reducible refine bN ?_ | refine bA ?_ | refine bS ?_);first | exact bR | assumption | exact bN bR | exact bN (bN bR)))));clear hb2))
      clear a0 a1 a2 hb0
      have H4:=Lib.hid (Below.andThen H3.out hbD)
      clear hbD
      have a0:∀ w',Below w4.heap.size w4 w'→w'.cell? ⟨g,6,none⟩ = some (.pointer tp):=fun w' hb => (HA.out w' (Below.andThen H4.out hb)).2.2.1
      have a1:∀ w',Below w4.heap.size w4 w'→w'.cell? ⟨g,7,none⟩ = some (.pointer tp):=fun w' hb => (HA.out w' (Below.andThen H4.out hb)).2.2.2.1
      have a2:∀ w',Below w4.heap.size w4 w'→w'.cell? ⟨g,8,none⟩ = some (.pointer none):=fun w' hb => (HA.out w' (Below.andThen H4.out hb)).2.2.2.2
      have hb0:Below w4.heap.size w4 w4:=Below.refl _ _
      go_wp2_with fail
      go_region_held3 (fun w' => Below w4.heap.size w4 w') (((repeat first | refine bD ?_ | with_reducible refine bN ?_ | refine bA ?_ | refine bS ?_);first | exact bR | assumption | exact bN bR | exact bN (bN bR)))
        ((go_at_call 24;refine (mBy_nil _ tp tp none r (by simp)).mono ?_;rintro e w5 ⟨rfl,hb2⟩;have hbD:=Below.trans (show Below w4.heap.size w4 _ by ((repeat first | refine bD ?_ | with_reducible refine bN ?_ | refine bA ?_ | refine bS ?_);first | exact bR | assumption | exact bN bR | exact bN (bN bR))) (hb2.mono (Below.size (show Below w4.heap.size w4 _ by ((repeat first | refine bD ?_ | with_reducible refine bN ?_ | refine bA ?_ | refine bS ?_);first | exact bR | assumption | exact bN bR | exact bN (bN bR)))));clear hb2))
      clear a0 a1 a2 hb0
      have H5:=Lib.hid (Below.andThen H4.out hbD)
      clear hbD
      go_wp2_with fail
      go_roundw
      case rel => exact ⟨3,by omega,by first | rfl | go_num,H5.out⟩
      case measure => simp [intOf]
    | 3,_ =>
      simp only [show ((3:Nat):Int) = 3 from rfl]
      go_wp2_with fail
      go_ret
      exact ⟨rfl,Below.andThen B3.out HB.out⟩
end Go.Proofs.YtmkejbfgdmbejaaGreatDoor
