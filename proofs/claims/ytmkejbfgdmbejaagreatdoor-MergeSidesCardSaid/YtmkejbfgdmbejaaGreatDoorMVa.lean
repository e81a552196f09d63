import Derived.Test.YtmkejbfgdmbejaaGreatDoorMV9
namespace Go.Proofs.YtmkejbfgdmbejaaGreatDoor
open Go.ChangeShapes Go.WideShapes Go.ChangeAt Go.RowKit
open Tr (T S4 Ent Tri KL)
theorem treeP_eqn {w:World} {b b' k:Nat} {x y:Option T} (hx:TreeX w b k x) (hy:TreeX w b' k y):∃ r:Bool,(binOp .eql 29 (.pointer (some ⟨b,0,none⟩)) (.pointer (some ⟨b',0,none⟩))).run Tryz.prog w = .ok (.bool r) w∧(r = true→Tr.entsO x = Tr.entsO y):=by
  by_cases c:b = b'
  · subst c
    refine ⟨true,tptr_eq w _,fun _ => ?_⟩
    have e:=hx.1.2.2.2.1.2.symm.trans hy.1.2.2.2.1.2
    simp only [Option.some.injEq,Value.pointer.injEq] at e
    cases x with
    | none =>
      cases y with
      | none => rfl
      | some t => simp [rootP] at e
    | some s =>
      cases y with
      | none => simp [rootP] at e
      | some t =>
        simp only [rootP,Option.some.injEq,Addr.mk.injEq,and_true] at e
        exact node_same (hx.1.2.2.2.2 s rfl) (hy.1.2.2.2.2 t rfl) e
  · exact ⟨false,tptr_ne hx.2 hy.2 c,fun h => Bool.noConfusion h⟩
def BecTr (w:World) (k:Nat) (t:Tri) (e:Ending):Prop:=(∃ (b:Nat) (n:Option T),e = .returned (.tuple #[.pointer (some ⟨b,0,none⟩),.bool true])∧TreeX w b k n∧(n = t.a∨n = t.b)∧BecE t n)∨e = .returned (.tuple #[.pointer none,.bool false])
set_option maxRecDepth 100000 in
theorem bcTr_c {w:World} {b0 b1 b2 k:Nat} {t:Tri} (h0:TreeX w b0 k t.o) (h1:TreeX w b1 k t.a) (h2:TreeX w b2 k t.b) :
    Calls Tryz.prog 58 #[p3V (some ⟨b0,0,none⟩) (some ⟨b1,0,none⟩) (some ⟨b2,0,none⟩)] w fun e w' => BecTr w' k t e∧Below w.heap.size w w':=by
  have hb0:=below_alloc w (.cells #[.pointer (some ⟨b0,0,none⟩),.pointer (some ⟨b1,0,none⟩),.pointer (some ⟨b2,0,none⟩)] 107)
  have g0:=h0.below hb0 (Nat.le_refl _)
  have g1:=h1.below hb0 (Nat.le_refl _)
  have g2:=h2.below hb0 (Nat.le_refl _)
  obtain ⟨r1,e1,t1⟩:=treeP_eqn g1 g2
  obtain ⟨r2,e2,t2⟩:=treeP_eqn g1 g0
  obtain ⟨r3,e3,t3⟩:=treeP_eqn g2 g0
  have H1:r1 = true→BecTr (w.alloc (.cells #[.pointer (some ⟨b0,0,none⟩),.pointer (some ⟨b1,0,none⟩),.pointer (some ⟨b2,0,none⟩)] 107)) k t (.returned (.tuple #[.pointer (some ⟨b1,0,none⟩),.bool true])):=fun hr => .inl ⟨b1,t.a,rfl,g1,.inl rfl,fun p => by rw [← t1 hr];exact Tr.bec_ab _ _⟩
  have H2:r2 = true→BecTr (w.alloc (.cells #[.pointer (some ⟨b0,0,none⟩),.pointer (some ⟨b1,0,none⟩),.pointer (some ⟨b2,0,none⟩)] 107)) k t (.returned (.tuple #[.pointer (some ⟨b2,0,none⟩),.bool true])):=fun hr => .inl ⟨b2,t.b,rfl,g2,.inr rfl,fun p => by rw [t2 hr];exact Tr.bec_ao _ _⟩
  have H3:r3 = true→BecTr (w.alloc (.cells #[.pointer (some ⟨b0,0,none⟩),.pointer (some ⟨b1,0,none⟩),.pointer (some ⟨b2,0,none⟩)] 107)) k t (.returned (.tuple #[.pointer (some ⟨b1,0,none⟩),.bool true])):=fun hr => .inl ⟨b1,t.a,rfl,g1,.inl rfl,fun p => by rw [t3 hr];exact Tr.bec_bo _ _⟩
  have HH:=Lib.hid (And.intro H1 (And.intro H2 (And.intro H3 hb0)))
  clear H1 H2 H3 t1 t2 t3 h0 h1 h2 g0 g1 g2 hb0
  cases r1 with
  | true =>
    go_enter Tryz.func58,Tryz.ntmps58
    go_wp2_with fail
    go_ret2
    exact ⟨HH.out.1 (by first | rfl | trivial),HH.out.2.2.2⟩
  | false =>
    cases r2 with
    | true =>
      go_enter Tryz.func58,Tryz.ntmps58
      go_wp2_with fail
      go_ret2
      exact ⟨HH.out.2.1 (by first | rfl | trivial),HH.out.2.2.2⟩
    | false =>
      cases r3 with
      | true =>
        go_enter Tryz.func58,Tryz.ntmps58
        go_wp2_with fail
        go_ret2
        exact ⟨HH.out.2.2.1 (by first | rfl | trivial),HH.out.2.2.2⟩
      | false =>
        go_enter Tryz.func58,Tryz.ntmps58
        go_wp2_with fail
        go_ret2
        exact ⟨.inr rfl,HH.out.2.2.2⟩
def TofE (w:World) (k:Nat) (R:Option T) (e:Ending):Prop:=∃ (b:Nat) (n:Option T),e = .returned (.pointer (some ⟨b,0,none⟩))∧TreeX w b k n∧Tr.entsO n = Tr.entsO R
set_option maxRecDepth 1000000 in
set_option maxHeartbeats 4000000 in
theorem mTreeOf_c {w:World} {g d b0 b1 b2 k:Nat} {x0 x1 x2 R:Option T} (c0:w.cell? ⟨g,0,none⟩ = some (.pointer (some ⟨b0,0,none⟩))) (c1:w.cell? ⟨g,1,none⟩ = some (.pointer (some ⟨b1,0,none⟩))) (c2:w.cell? ⟨g,2,none⟩ = some (.pointer (some ⟨b2,0,none⟩))) (h0:TreeX w b0 k x0) (h1:TreeX w b1 k x1) (h2:TreeX w b2 k x2) (hR:NodeO w w.heap.size k R) :
    Calls Tryz.prog 62 #[.pointer (rootP R),.slice (some ⟨g,0,none⟩) 3 d] w fun e w' => TofE w' k R e∧Below w.heap.size w w':=by
  have HR0:=Lib.hid (tRoot_c h0.1.2.2.2.1)
  have HR1:=Lib.hid (tRoot_c h1.1.2.2.2.1)
  have HR2:=Lib.hid (tRoot_c h2.1.2.2.2.1)
  have HK:=Lib.hid (tK_c h0.1.2.2.2.1)
  have HO:=Lib.hid (tOf_c hR (Nat.le_refl _) h0.1.2.1 h0.1.2.2.1)
  obtain ⟨r0,e0,t0,-⟩:=nodeP_eqn h0.1.2.2.2.2 hR
  obtain ⟨r1,e1,t1,-⟩:=nodeP_eqn h1.1.2.2.2.2 hR
  obtain ⟨r2,e2,t2,-⟩:=nodeP_eqn h2.1.2.2.2.2 hR
  have T0:r0 = true→TofE w k R (.returned (.pointer (some ⟨b0,0,none⟩))):=fun h => ⟨b0,x0,rfl,h0,t0 h⟩
  have T1:r1 = true→TofE w k R (.returned (.pointer (some ⟨b1,0,none⟩))):=fun h => ⟨b1,x1,rfl,h1,t1 h⟩
  have T2:r2 = true→TofE w k R (.returned (.pointer (some ⟨b2,0,none⟩))):=fun h => ⟨b2,x2,rfl,h2,t2 h⟩
  have HH:=Lib.hid (And.intro T0 (And.intro T1 T2))
  clear T0 T1 T2 t0 t1 t2 h0 h1 h2 hR
  obtain ⟨q0,hq0⟩:∃ q,rootP x0 = q:=⟨_,rfl⟩
  obtain ⟨q1,hq1⟩:∃ q,rootP x1 = q:=⟨_,rfl⟩
  obtain ⟨q2,hq2⟩:∃ q,rootP x2 = q:=⟨_,rfl⟩
  obtain ⟨qr,hqr⟩:∃ q,rootP R = q:=⟨_,rfl⟩
  rw [hq0] at HR0 e0
  rw [hq1] at HR1 e1
  rw [hq2] at HR2 e2
  rw [hqr] at e0 e1 e2 HO ⊢
  clear hq0 hq1 hq2 hqr
  have hb:=Below.refl w.heap.size w
  go_enter Tryz.func62,Tryz.ntmps62
  go_wp2_with fail
  refine wp_loop_rounds 4 ?_
  rw [rounds_succ]
  go_wp2_with fail
  refine HR0.out.mono ?_
  rintro e w' ⟨rfl,rfl⟩
  clear HR0
  cases r0 with
  | true =>
    go_wp2_with fail
    go_ret
    exact ⟨HH.out.1 (by first | rfl | trivial),hb⟩
  | false =>
    go_wp2_with fail
    rw [rounds_succ]
    go_wp2_with fail
    refine HR1.out.mono ?_
    rintro e w' ⟨rfl,rfl⟩
    clear HR1
    cases r1 with
    | true =>
      go_wp2_with fail
      go_ret
      exact ⟨HH.out.2.1 (by first | rfl | trivial),hb⟩
    | false =>
      go_wp2_with fail
      rw [rounds_succ]
      go_wp2_with fail
      refine HR2.out.mono ?_
      rintro e w' ⟨rfl,rfl⟩
      clear HR2
      cases r2 with
      | true =>
        go_wp2_with fail
        go_ret
        exact ⟨HH.out.2.2 (by first | rfl | trivial),hb⟩
      | false =>
        go_wp2_with fail
        rw [rounds_succ]
        go_wp2_with fail
        refine HK.out.mono ?_
        rintro e w' ⟨rfl,rfl⟩
        clear HK
        go_wp2_with fail
        refine HO.out.mono ?_
        rintro e w2 ⟨rfl,ht,hb2⟩
        have HT:=Lib.hid (And.intro ht hb2)
        clear ht hb2 HO
        go_wp2_with fail
        go_ret
        exact ⟨⟨_,R,rfl,HT.out.1,rfl⟩,HT.out.2⟩
theorem store_func {w:World} {a:Addr} {u:Value} (f:Fn) (c b:Array Value) (h:w.cell? a = some u) (hf:w.frozen? a = false):(store a (.func f c b)).run Tryz.prog w = .ok () (w.setCell a (.func f c b)):=by
  rw [run_store _ _ _ _ _ rfl,h]
  simp [hf]
theorem store_two0 (w:World) (f:Fn) (c b:Array Value) (u v:Value) (ty:TypeId):(store ⟨w.heap.size,0,none⟩ (.func f c b)).run Tryz.prog (w.alloc (.cells #[u,v] ty)) = .ok () ((w.alloc (.cells #[u,v] ty)).setCell ⟨w.heap.size,0,none⟩ (.func f c b)):=by
  have h:=heap_at w (.cells #[u,v] ty) _ rfl
  exact store_func f c b (u:=u) (by rw [cell_of_row _ _ _ _ _ (0,0) h];rfl) (frozen_of_row _ _ 0 _ _ h)
theorem store_two1 (w:World) (f:Fn) (c b:Array Value) (u v:Value) (ty:TypeId):(store ⟨w.heap.size,1,none⟩ (.func f c b)).run Tryz.prog (w.alloc (.cells #[u,v] ty)) = .ok () ((w.alloc (.cells #[u,v] ty)).setCell ⟨w.heap.size,1,none⟩ (.func f c b)):=by
  have h:=heap_at w (.cells #[u,v] ty) _ rfl
  exact store_func f c b (u:=v) (by rw [cell_of_row _ _ _ _ _ (0,0) h];rfl) (frozen_of_row _ _ 1 _ _ h)
def NewK (base:Nat) (w:World) (A:Option Addr) (c:Nat) (L:List Cls):Prop:=OwnL 91 7 (ClG w fun b => base≤b) w base (.slice A L.length c) L
theorem NewK.below {base:Nat} {w w':World} {A:Option Addr} {c:Nat} {L:List Cls} (h:NewK base w A c L) (hb:Below w.heap.size w w'):NewK base w' A c L :=
  OwnL.imp (OwnL.below h hb (Nat.le_refl _)) (ClG.step hb.size fun b hlt hD => ⟨hb.block b hlt,hD⟩)
theorem treP_at (w:World) (p0 p1 p2:Option Addr) (ty:TypeId):TreP (w.alloc (.cells #[.pointer p0,.pointer p1,.pointer p2] ty)) w.heap.size p0 p1 p2:=by
  have h:=heap_at w (.cells #[.pointer p0,.pointer p1,.pointer p2] ty) _ rfl
  refine ⟨by simp,?_,?_,?_⟩
  all_goals rw [cell_of_row _ _ _ _ _ (0,0) h];rfl
theorem mClashes_dim {w:World} {b0 b1 b2 k0 k1 k2:Nat} {x0 x1 x2:Option T} (h0:TreeX w b0 k0 x0) (h1:TreeX w b1 k1 x1) (h2:TreeX w b2 k2 x2) (hne:k1≠k0∨k2≠k0∧k1 = k0):Calls Tryz.prog 23 #[.pointer (some ⟨b0,0,none⟩),.pointer (some ⟨b1,0,none⟩),.pointer (some ⟨b2,0,none⟩)] w fun e w' => e = .returned (.tuple #[.slice none 0 0,.int .i64 2])∧Below w.heap.size w w':=by
  have hbl:=below_alloc w (.cells #[.pointer (some ⟨b0,0,none⟩),.pointer (some ⟨b1,0,none⟩),.pointer (some ⟨b2,0,none⟩)] 29)
  have g0:=h0.below hbl (Nat.le_refl _)
  have g1:=h1.below hbl (Nat.le_refl _)
  have g2:=h2.below hbl (Nat.le_refl _)
  have hp:=treP_at w (some ⟨b0,0,none⟩) (some ⟨b1,0,none⟩) (some ⟨b2,0,none⟩) 29
  have HR:Hid (∀ d,Calls Tryz.prog 53 #[.slice (some ⟨w.heap.size,0,none⟩) 3 d] (w.alloc (.cells #[.pointer (some ⟨b0,0,none⟩),.pointer (some ⟨b1,0,none⟩),.pointer (some ⟨b2,0,none⟩)] 29)) fun e w' => e = .returned (.int .i64 2)∧Below (w.alloc (.cells #[.pointer (some ⟨b0,0,none⟩),.pointer (some ⟨b1,0,none⟩),.pointer (some ⟨b2,0,none⟩)] 29)).heap.size (w.alloc (.cells #[.pointer (some ⟨b0,0,none⟩),.pointer (some ⟨b1,0,none⟩),.pointer (some ⟨b2,0,none⟩)] 29)) w'):=Lib.hid fun d => by
    rcases hne with c | ⟨c,rfl⟩
    · exact mRefusal_d1 hp g0.1.2.2.2.1 g1.1.2.2.2.1 g2.1.2.2.2.1 g0.1.1 g1.1.1 g2.1.1 c
    · exact mRefusal_d2 hp g0.1.2.2.2.1 g1.1.2.2.2.1 g2.1.2.2.2.1 g0.1.1 g1.1.1 g2.1.1 c
  have hb:=Lib.hid hbl
  clear h0 h1 h2 g0 g1 g2 hp hne hbl
  go_enter Tryz.func23,Tryz.ntmps23
  go_wp2_with fail
  refine (HR.out _).mono ?_
  rintro e w1 ⟨rfl,hb1⟩
  have HB:=Lib.hid (Below.andThen hb.out hb1)
  clear hb1 HR
  go_wp2_with fail
  go_ret2
  exact ⟨rfl,HB.out⟩
end Go.Proofs.YtmkejbfgdmbejaaGreatDoor
