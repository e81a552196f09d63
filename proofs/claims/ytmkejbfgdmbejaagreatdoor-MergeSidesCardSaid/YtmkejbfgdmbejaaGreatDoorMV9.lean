import Derived.Test.YtmkejbfgdmbejaaGreatDoorMV8
namespace Go.Proofs.YtmkejbfgdmbejaaGreatDoor
open Go.ChangeShapes Go.WideShapes Go.ChangeAt Go.RowKit
open Tr (T S4 Ent Tri KL)
def TreP (w:World) (g:Nat) (p0 p1 p2:Option Addr):Prop:=g < w.heap.size∧w.cell? ⟨g,0,none⟩ = some (.pointer p0)∧w.cell? ⟨g,1,none⟩ = some (.pointer p1)∧w.cell? ⟨g,2,none⟩ = some (.pointer p2)
theorem TreP.below {w w':World} {g:Nat} {p0 p1 p2:Option Addr} (h:TreP w g p0 p1 p2) (hb:Below w.heap.size w w'):TreP w' g p0 p1 p2 :=
  ⟨Nat.lt_of_lt_of_le h.1 hb.size,(hb.cell (p:=⟨g,0,none⟩) h.1).trans h.2.1,(hb.cell (p:=⟨g,1,none⟩) h.1).trans h.2.2.1,(hb.cell (p:=⟨g,2,none⟩) h.1).trans h.2.2.2⟩
set_option maxRecDepth 1000000 in
set_option maxHeartbeats 4000000 in
theorem mIndex_c {w:World} {g d:Nat} {p0 p1 p2:Option Addr} (h:TreP w g p0 p1 p2):Calls Tryz.prog 150 #[.slice (some ⟨g,0,none⟩) 3 d,.pointer none] w fun e w' => ∃ n:Int,e = .returned (.int .i64 n)∧decide (0≤n) = (p0.isNone || p1.isNone || p2.isNone)∧Below w.heap.size w w':=by
  obtain ⟨-,c0,c1,c2⟩:=h
  have t0:=tptr_none
  have t1:=tptr_no1
  cases p0 with
  | none =>
    go_enter Tryz.func150,Tryz.ntmps150
    go_wp2_with fail
    refine wp_loop_rounds 4 ?_
    rw [rounds_succ]
    go_wp2_with fail
    go_ret
    exact ⟨_,rfl,by simp,by ((repeat first | refine bD ?_ | with_reducible refine bN ?_ | refine bA ?_ | refine bS ?_);first | exact bR | assumption | exact bN bR | exact bN (bN bR))⟩
  | some a0 =>
    cases p1 with
    | none =>
      go_enter Tryz.func150,Tryz.ntmps150
      go_wp2_with fail
      refine wp_loop_rounds 4 ?_
      rw [rounds_succ]
      go_wp2_with fail
      rw [rounds_succ]
      go_wp2_with fail
      go_ret
      exact ⟨_,rfl,by simp,by ((repeat first | refine bD ?_ | with_reducible refine bN ?_ | refine bA ?_ | refine bS ?_);first | exact bR | assumption | exact bN bR | exact bN (bN bR))⟩
    | some a1 =>
      cases p2 with
      | none =>
        go_enter Tryz.func150,Tryz.ntmps150
        go_wp2_with fail
        refine wp_loop_rounds 4 ?_
        rw [rounds_succ]
        go_wp2_with fail
        rw [rounds_succ]
        go_wp2_with fail
        rw [rounds_succ]
        go_wp2_with fail
        go_ret
        exact ⟨_,rfl,by simp,by ((repeat first | refine bD ?_ | with_reducible refine bN ?_ | refine bA ?_ | refine bS ?_);first | exact bR | assumption | exact bN bR | exact bN (bN bR))⟩
      | some a2 =>
        go_enter Tryz.func150,Tryz.ntmps150
        go_wp2_with fail
        refine wp_loop_rounds 4 ?_
        rw [rounds_succ]
        go_wp2_with fail
        rw [rounds_succ]
        go_wp2_with fail
        rw [rounds_succ]
        go_wp2_with fail
        rw [rounds_succ]
        go_wp2_with fail
        go_ret
        exact ⟨_,rfl,by simp,by ((repeat first | refine bD ?_ | with_reducible refine bN ?_ | refine bA ?_ | refine bS ?_);first | exact bR | assumption | exact bN bR | exact bN (bN bR))⟩
theorem mContains_c {w:World} {g d:Nat} {p0 p1 p2:Option Addr} (h:TreP w g p0 p1 p2):Calls Tryz.prog 108 #[.slice (some ⟨g,0,none⟩) 3 d,.pointer none] w fun e w' => e = .returned (.bool (p0.isNone || p1.isNone || p2.isNone))∧Below w.heap.size w w':=by
  have HI:=Lib.hid (mIndex_c (d:=d) h)
  obtain ⟨b,hb⟩:∃ b,(p0.isNone || p1.isNone || p2.isNone) = b:=⟨_,rfl⟩
  rw [hb] at HI ⊢
  clear h hb
  go_enter Tryz.func108,Tryz.ntmps108
  go_wp2_with fail
  refine HI.out.mono ?_
  rintro e w1 ⟨n,rfl,hn,hbl⟩
  go_wp2_with fail
  go_ret
  exact ⟨rfl,hbl⟩
set_option maxRecDepth 1000000 in
set_option maxHeartbeats 4000000 in
theorem mRefusal_ok {w:World} {g d b0 b1 b2 k:Nat} {r0 r1 r2:Option Addr} (h:TreP w g (some ⟨b0,0,none⟩) (some ⟨b1,0,none⟩) (some ⟨b2,0,none⟩)) (h0:TreC w b0 k r0) (h1:TreC w b1 k r1) (h2:TreC w b2 k r2) (l0:b0 < w.heap.size) (l1:b1 < w.heap.size) (l2:b2 < w.heap.size) :
    Calls Tryz.prog 53 #[.slice (some ⟨g,0,none⟩) 3 d] w fun e w' => e = .returned (.int .i64 0)∧Below w.heap.size w w':=by
  have HI:=Lib.hid (mContains_c (d:=d) h)
  have q0:∀ w1,Below w.heap.size w w1→w1.cell? ⟨g,0,none⟩ = some (.pointer (some ⟨b0,0,none⟩)):=fun w1 hb => (h.below hb).2.1
  have q1:∀ w1,Below w.heap.size w w1→w1.cell? ⟨g,1,none⟩ = some (.pointer (some ⟨b1,0,none⟩)):=fun w1 hb => (h.below hb).2.2.1
  have q2:∀ w1,Below w.heap.size w w1→w1.cell? ⟨g,2,none⟩ = some (.pointer (some ⟨b2,0,none⟩)):=fun w1 hb => (h.below hb).2.2.2
  have HK:∀ (b k:Nat) (r:Option Addr),TreC w b k r→b < w.heap.size→Hid (∀ (w1:World) (i:Nat),Below w.heap.size w w1→Calls Tryz.prog 43 #[.pointer (some ⟨b,0,none⟩)] (w1.drewN i) fun e w'' => e = .returned (.int .i64 (k:Int))∧∃ j,w'' = (w1.drewN i).drewN j):=fun b k r hc hb => Lib.hid fun w1 i hb1 =>
    (tK_c (hc.below (below_drewN i hb1) hb)).mono fun e w'' hh => ⟨hh.1,0,hh.2.symm⟩
  have H0:=HK b0 _ r0 h0 l0
  have H1:=HK b1 _ r1 h1 l1
  have H2:=HK b2 _ r2 h2 l2
  have e0:((k:Int) != (k:Int)) = false:=by simp
  clear h h0 h1 h2 l0 l1 l2 HK
  have hsimp:((some (⟨b0,0,none⟩:Addr)).isNone || (some (⟨b1,0,none⟩:Addr)).isNone || (some (⟨b2,0,none⟩:Addr)).isNone) = false:=rfl
  rw [hsimp] at HI
  clear hsimp
  go_enter Tryz.func53,Tryz.ntmps53
  go_wp2_with fail
  refine HI.out.mono ?_
  rintro e w1 ⟨rfl,hbl⟩
  have HB:=Lib.hid hbl
  have c0:=q0 w1 hbl
  have c1:=q1 w1 hbl
  have c2:=q2 w1 hbl
  clear HI
  go_wp2_with fail
  refine wp_loop_rounds 4 ?_
  rw [rounds_succ]
  go_wp2_with fail
  go_quiet ((go_at_call 43;exact Calls.quiet_of (H0.out _ _ HB.out)))
  go_wp2_with fail
  obtain ⟨w2,hw2⟩:∃ w2,w2 = w1.drewN nq:=⟨_,rfl⟩
  rw [← hw2]
  replace HB:Hid (Below w.heap.size w w2):=Lib.hid (by rw [hw2];exact below_drewN nq HB.out)
  clear hw2 nq
  replace c0:=q0 w2 HB.out
  replace c1:=q1 w2 HB.out
  replace c2:=q2 w2 HB.out
  rw [rounds_succ]
  go_wp2_with fail
  go_quiet ((first
    | (go_at_call 43;exact Calls.quiet_of (H1.out _ _ HB.out))
    | (go_at_call 43;exact Calls.quiet_of (H0.out _ _ HB.out))))
  go_wp2_with fail
  obtain ⟨w3,hw3⟩:∃ w3,w3 = w2.drewN nq:=⟨_,rfl⟩
  rw [← hw3]
  replace HB:Hid (Below w.heap.size w w3):=Lib.hid (by rw [hw3];exact below_drewN nq HB.out)
  clear hw3 nq
  replace c0:=q0 w3 HB.out
  replace c1:=q1 w3 HB.out
  replace c2:=q2 w3 HB.out
  rw [rounds_succ]
  go_wp2_with fail
  go_quiet ((first
    | (go_at_call 43;exact Calls.quiet_of (H2.out _ _ HB.out))
    | (go_at_call 43;exact Calls.quiet_of (H0.out _ _ HB.out))))
  go_wp2_with fail
  obtain ⟨w4,hw4⟩:∃ w4,w4 = w3.drewN nq:=⟨_,rfl⟩
  rw [← hw4]
  replace HB:Hid (Below w.heap.size w w4):=Lib.hid (by rw [hw4];exact below_drewN nq HB.out)
  clear hw4 nq
  replace c0:=q0 w4 HB.out
  replace c1:=q1 w4 HB.out
  replace c2:=q2 w4 HB.out
  rw [rounds_succ]
  go_wp2_with fail
  go_ret
  exact ⟨rfl,HB.out⟩
set_option maxRecDepth 1000000 in
set_option maxHeartbeats 4000000 in
theorem mRefusal_d1 {w:World} {g d b0 b1 b2 k k1 k2:Nat} {r0 r1 r2:Option Addr} (h:TreP w g (some ⟨b0,0,none⟩) (some ⟨b1,0,none⟩) (some ⟨b2,0,none⟩)) (h0:TreC w b0 k r0) (h1:TreC w b1 k1 r1) (h2:TreC w b2 k2 r2) (l0:b0 < w.heap.size) (l1:b1 < w.heap.size) (l2:b2 < w.heap.size) (hne:k1≠k) :
    Calls Tryz.prog 53 #[.slice (some ⟨g,0,none⟩) 3 d] w fun e w' => e = .returned (.int .i64 2)∧Below w.heap.size w w':=by
  have HI:=Lib.hid (mContains_c (d:=d) h)
  have q0:∀ w1,Below w.heap.size w w1→w1.cell? ⟨g,0,none⟩ = some (.pointer (some ⟨b0,0,none⟩)):=fun w1 hb => (h.below hb).2.1
  have q1:∀ w1,Below w.heap.size w w1→w1.cell? ⟨g,1,none⟩ = some (.pointer (some ⟨b1,0,none⟩)):=fun w1 hb => (h.below hb).2.2.1
  have q2:∀ w1,Below w.heap.size w w1→w1.cell? ⟨g,2,none⟩ = some (.pointer (some ⟨b2,0,none⟩)):=fun w1 hb => (h.below hb).2.2.2
  have HK:∀ (b k:Nat) (r:Option Addr),TreC w b k r→b < w.heap.size→Hid (∀ (w1:World) (i:Nat),Below w.heap.size w w1→Calls Tryz.prog 43 #[.pointer (some ⟨b,0,none⟩)] (w1.drewN i) fun e w'' => e = .returned (.int .i64 (k:Int))∧∃ j,w'' = (w1.drewN i).drewN j):=fun b k r hc hb => Lib.hid fun w1 i hb1 =>
    (tK_c (hc.below (below_drewN i hb1) hb)).mono fun e w'' hh => ⟨hh.1,0,hh.2.symm⟩
  have H0:=HK b0 _ r0 h0 l0
  have H1:=HK b1 _ r1 h1 l1
  have H2:=HK b2 _ r2 h2 l2
  have e0:((k:Int) != (k:Int)) = false:=by simp
  have e1:((k1:Int) != (k:Int)) = true:=by simp;omega
  clear h h0 h1 h2 l0 l1 l2 HK
  have hsimp:((some (⟨b0,0,none⟩:Addr)).isNone || (some (⟨b1,0,none⟩:Addr)).isNone || (some (⟨b2,0,none⟩:Addr)).isNone) = false:=rfl
  rw [hsimp] at HI
  clear hsimp
  go_enter Tryz.func53,Tryz.ntmps53
  go_wp2_with fail
  refine HI.out.mono ?_
  rintro e w1 ⟨rfl,hbl⟩
  have HB:=Lib.hid hbl
  have c0:=q0 w1 hbl
  have c1:=q1 w1 hbl
  have c2:=q2 w1 hbl
  clear HI
  go_wp2_with fail
  refine wp_loop_rounds 4 ?_
  rw [rounds_succ]
  go_wp2_with fail
  go_quiet ((go_at_call 43;exact Calls.quiet_of (H0.out _ _ HB.out)))
  go_wp2_with fail
  obtain ⟨w2,hw2⟩:∃ w2,w2 = w1.drewN nq:=⟨_,rfl⟩
  rw [← hw2]
  replace HB:Hid (Below w.heap.size w w2):=Lib.hid (by rw [hw2];exact below_drewN nq HB.out)
  clear hw2 nq
  replace c0:=q0 w2 HB.out
  replace c1:=q1 w2 HB.out
  replace c2:=q2 w2 HB.out
  rw [rounds_succ]
  go_wp2_with fail
  go_quiet ((first
    | (go_at_call 43;exact Calls.quiet_of (H1.out _ _ HB.out))
    | (go_at_call 43;exact Calls.quiet_of (H0.out _ _ HB.out))))
  go_wp2_with fail
  go_ret
  exact ⟨rfl,below_drewN _ HB.out⟩
set_option maxRecDepth 1000000 in
set_option maxHeartbeats 4000000 in
theorem mRefusal_d2 {w:World} {g d b0 b1 b2 k k2:Nat} {r0 r1 r2:Option Addr} (h:TreP w g (some ⟨b0,0,none⟩) (some ⟨b1,0,none⟩) (some ⟨b2,0,none⟩)) (h0:TreC w b0 k r0) (h1:TreC w b1 k r1) (h2:TreC w b2 k2 r2) (l0:b0 < w.heap.size) (l1:b1 < w.heap.size) (l2:b2 < w.heap.size) (hne:k2≠k) :
    Calls Tryz.prog 53 #[.slice (some ⟨g,0,none⟩) 3 d] w fun e w' => e = .returned (.int .i64 2)∧Below w.heap.size w w':=by
  have HI:=Lib.hid (mContains_c (d:=d) h)
  have q0:∀ w1,Below w.heap.size w w1→w1.cell? ⟨g,0,none⟩ = some (.pointer (some ⟨b0,0,none⟩)):=fun w1 hb => (h.below hb).2.1
  have q1:∀ w1,Below w.heap.size w w1→w1.cell? ⟨g,1,none⟩ = some (.pointer (some ⟨b1,0,none⟩)):=fun w1 hb => (h.below hb).2.2.1
  have q2:∀ w1,Below w.heap.size w w1→w1.cell? ⟨g,2,none⟩ = some (.pointer (some ⟨b2,0,none⟩)):=fun w1 hb => (h.below hb).2.2.2
  have HK:∀ (b k:Nat) (r:Option Addr),TreC w b k r→b < w.heap.size→Hid (∀ (w1:World) (i:Nat),Below w.heap.size w w1→Calls Tryz.prog 43 #[.pointer (some ⟨b,0,none⟩)] (w1.drewN i) fun e w'' => e = .returned (.int .i64 (k:Int))∧∃ j,w'' = (w1.drewN i).drewN j):=fun b k r hc hb => Lib.hid fun w1 i hb1 =>
    (tK_c (hc.below (below_drewN i hb1) hb)).mono fun e w'' hh => ⟨hh.1,0,hh.2.symm⟩
  have H0:=HK b0 _ r0 h0 l0
  have H1:=HK b1 _ r1 h1 l1
  have H2:=HK b2 _ r2 h2 l2
  have e0:((k:Int) != (k:Int)) = false:=by simp
  have e1:((k2:Int) != (k:Int)) = true:=by simp;omega
  clear h h0 h1 h2 l0 l1 l2 HK
  have hsimp:((some (⟨b0,0,none⟩:Addr)).isNone || (some (⟨b1,0,none⟩:Addr)).isNone || (some (⟨b2,0,none⟩:Addr)).isNone) = false:=rfl
  rw [hsimp] at HI
  clear hsimp
  go_enter Tryz.func53,Tryz.ntmps53
  go_wp2_with fail
  refine HI.out.mono ?_
  rintro e w1 ⟨rfl,hbl⟩
  have HB:=Lib.hid hbl
  have c0:=q0 w1 hbl
  have c1:=q1 w1 hbl
  have c2:=q2 w1 hbl
  clear HI
  go_wp2_with fail
  refine wp_loop_rounds 4 ?_
  rw [rounds_succ]
  go_wp2_with fail
  go_quiet ((go_at_call 43;exact Calls.quiet_of (H0.out _ _ HB.out)))
  go_wp2_with fail
  obtain ⟨w2,hw2⟩:∃ w2,w2 = w1.drewN nq:=⟨_,rfl⟩
  rw [← hw2]
  replace HB:Hid (Below w.heap.size w w2):=Lib.hid (by rw [hw2];exact below_drewN nq HB.out)
  clear hw2 nq
  replace c0:=q0 w2 HB.out
  replace c1:=q1 w2 HB.out
  replace c2:=q2 w2 HB.out
  rw [rounds_succ]
  go_wp2_with fail
  go_quiet ((first
    | (go_at_call 43;exact Calls.quiet_of (H1.out _ _ HB.out))
    | (go_at_call 43;exact Calls.quiet_of (H0.out _ _ HB.out))))
  go_wp2_with fail
  obtain ⟨w3,hw3⟩:∃ w3,w3 = w2.drewN nq:=⟨_,rfl⟩
  rw [← hw3]
  replace HB:Hid (Below w.heap.size w w3):=Lib.hid (by rw [hw3];exact below_drewN nq HB.out)
  clear hw3 nq
  replace c0:=q0 w3 HB.out
  replace c1:=q1 w3 HB.out
  replace c2:=q2 w3 HB.out
  rw [rounds_succ]
  go_wp2_with fail
  go_quiet ((first
    | (go_at_call 43;exact Calls.quiet_of (H2.out _ _ HB.out))
    | (go_at_call 43;exact Calls.quiet_of (H0.out _ _ HB.out))))
  go_wp2_with fail
  go_ret
  exact ⟨rfl,below_drewN _ HB.out⟩
end Go.Proofs.YtmkejbfgdmbejaaGreatDoor
