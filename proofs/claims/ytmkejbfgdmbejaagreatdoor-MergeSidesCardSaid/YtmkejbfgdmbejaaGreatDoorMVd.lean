import Derived.Test.YtmkejbfgdmbejaaGreatDoorMV8
namespace Go.Proofs.YtmkejbfgdmbejaaGreatDoor
open Tr (T S4 Ent)
namespace Tr
open Go.Proofs.YtmkejbfgdmbejaaGreatDoor.Z
section
variable {k:Nat} {O A B:List Ent}
theorem cl_ne (zO:ZS O) (zA:ZS A) (zB:ZS B) (dO:Dim k O) (dA:Dim k A) (dB:Dim k B) (h:ppL clG O A B = []) {p:List Nat} (hp:p.length = k) (ho:Ok p):bec (getE O p) (getE A p) (getE B p)≠none:=by
  intro hb
  have hm:(p,(getE O p,getE A p,getE B p))∈ppL clG O A B:=by
    refine (mem_ppL cl_none zO zA zB dO dA dB).2 ⟨⟨hp,ho⟩,?_⟩
    unfold clG
    simp only [hb]
  rw [h] at hm
  cases hm
theorem mg_any (r s:Int) (zO:ZS O) (zA:ZS A) (zB:ZS B) (dO:Dim k O) (dA:Dim k A) (dB:Dim k B) (h:ppL clG O A B = []):ppL (mgG r) O A B = ppL (mgG s) O A B:=by
  obtain ⟨zL,dL⟩:=mg_dim s zO zA zB dO dA dB
  refine ppL_uniq (mg_none s) zO zA zB dO dA dB (ppL_xs zO dO dA dB) fun c => ?_
  rw [mem_ppL (mg_none r) zO zA zB dO dA dB]
  constructor
  · rintro ⟨⟨h1,h2⟩,h3⟩
    refine ⟨⟨h1,h2⟩,?_⟩
    have hn:=cl_ne zO zA zB dO dA dB h h1 h2
    unfold mgG at h3 ⊢
    cases hb:bec (getE O c.1) (getE A c.1) (getE B c.1) with
    | none => exact absurd hb hn
    | some x => rw [hb] at h3;exact h3
  · rintro ⟨⟨h1,h2⟩,h3⟩
    refine ⟨⟨h1,h2⟩,?_⟩
    have hn:=cl_ne zO zA zB dO dA dB h h1 h2
    unfold mgG at h3 ⊢
    cases hb:bec (getE O c.1) (getE A c.1) (getE B c.1) with
    | none => exact absurd hb hn
    | some x => rw [hb] at h3;exact h3
end
end Tr
end Go.Proofs.YtmkejbfgdmbejaaGreatDoor
namespace Go.Proofs.YtmkejbfgdmbejaaGreatDoor
open Go.ChangeShapes Go.WideShapes Go.ChangeAt Go.RowKit
open Tr (T S4 Ent Tri KL)
structure CkAt (w:World) (b o:Nat) (P:Option Addr) (n:Nat) (c:Cls):Prop where
  c0:w.cell? ⟨b,o,none⟩ = some (.slice P c.1.length n)
  c1:w.cell? ⟨b,o + 1,none⟩ = some (.bool c.2.1.isSome)
  c2:w.cell? ⟨b,o + 2,none⟩ = some (.bool c.2.2.1.isSome)
  c3:w.cell? ⟨b,o + 3,none⟩ = some (.bool c.2.2.2.isSome)
  c4:w.cell? ⟨b,o + 4,none⟩ = some (.int .u64 ((c.2.1.getD 0:Nat):Int))
  c5:w.cell? ⟨b,o + 5,none⟩ = some (.int .u64 ((c.2.2.1.getD 0:Nat):Int))
  c6:w.cell? ⟨b,o + 6,none⟩ = some (.int .u64 ((c.2.2.2.getD 0:Nat):Int))
  pt:Pts w w.heap.size P c.1
  pl:c.1.length≤maxLen
  lt:clLt c.2
theorem CkAt.below {w w':World} {b o n:Nat} {P:Option Addr} {c:Cls} (h:CkAt w b o P n c) (hb:Below w.heap.size w w') (hl:b < w.heap.size):CkAt w' b o P n c where
  c0:=(hb.cell (p:=⟨b,_,none⟩) hl).trans h.c0
  c1:=(hb.cell (p:=⟨b,_,none⟩) hl).trans h.c1
  c2:=(hb.cell (p:=⟨b,_,none⟩) hl).trans h.c2
  c3:=(hb.cell (p:=⟨b,_,none⟩) hl).trans h.c3
  c4:=(hb.cell (p:=⟨b,_,none⟩) hl).trans h.c4
  c5:=(hb.cell (p:=⟨b,_,none⟩) hl).trans h.c5
  c6:=(hb.cell (p:=⟨b,_,none⟩) hl).trans h.c6
  pt:=(h.pt.below' hb (Nat.le_refl _)).keep hb.size (fun _ _ => rfl)
  pl:=h.pl
  lt:=h.lt
def Cks (w:World) (A:Option Addr) (L:List Cls):Prop :=
  L≠[]→∃ b off,A = some ⟨b,off,none⟩∧b < w.heap.size∧∀ (i:Nat) (c:Cls),L[i]? = some c→∃ P n,CkAt w b (off + i * 7) P n c
theorem Cks.below {w w':World} {A:Option Addr} {L:List Cls} (h:Cks w A L) (hb:Below w.heap.size w w'):Cks w' A L:=by
  intro hn
  obtain ⟨b,off,hA,hbl,hc⟩:=h hn
  refine ⟨b,off,hA,Nat.lt_of_lt_of_le hbl hb.size,fun i c hi => ?_⟩
  obtain ⟨P,n,hh⟩:=hc i c hi
  exact ⟨P,n,hh.below hb hbl⟩
theorem Cks.nil (w:World) (A:Option Addr):Cks w A []:=fun h => absurd rfl h
theorem Cks.at {w:World} {A:Option Addr} {L:List Cls} (h:Cks w A L) {i:Nat} {c:Cls} (hi:L[i]? = some c):∃ b off P n,A = some ⟨b,off,none⟩∧b < w.heap.size∧CkAt w b (off + i * 7) P n c:=by
  obtain ⟨b,off,hA,hbl,hc⟩:=h (by rintro rfl;simp at hi)
  obtain ⟨P,n,hh⟩:=hc i c hi
  exact ⟨b,off,P,n,hA,hbl,hh⟩
theorem clG_own {w:World} {G:Nat→Prop} {base:Nat} {A:Option Addr} {c m:Nat} {L:List Cls} (h:OwnL 91 7 (ClG w G) w base (.slice A m c) L):Cks w A L:=by
  obtain ⟨A',c',hv,-,hl⟩:=OwnL.rd (clG_ok _ _) h
  simp only [Value.slice.injEq] at hv
  obtain ⟨rfl,-,-⟩:=hv
  intro hn
  obtain ⟨b,off,hA,hbl,hc⟩:=hl hn
  refine ⟨b,off,hA,hbl,fun i c hi => ?_⟩
  obtain ⟨P,n,⟨h0,h1,h2,h3⟩,⟨h4,h5,h6⟩,h7,h8,h9⟩:=hc i c hi
  exact ⟨P,n,h0,h1,h2,h3,h4,h5,h6,h7.pts,h8,h9⟩
theorem row7 {W:World} {b:Nat} {v0 v1 v2 v3 v4 v5 v6:Value} {ty:TypeId} (h:W.heap[b]? = some (.cells #[v0,v1,v2,v3,v4,v5,v6] ty (0,0))):W.cell? ⟨b,0,none⟩ = some v0∧W.cell? ⟨b,1,none⟩ = some v1∧W.cell? ⟨b,2,none⟩ = some v2∧W.cell? ⟨b,3,none⟩ = some v3∧W.cell? ⟨b,4,none⟩ = some v4∧W.cell? ⟨b,5,none⟩ = some v5∧W.cell? ⟨b,6,none⟩ = some v6:=by
  refine ⟨?_,?_,?_,?_,?_,?_,?_⟩
  all_goals rw [cell_of_row W b _ _ _ (0,0) h];rfl
set_option maxRecDepth 1000000 in
set_option maxHeartbeats 8000000 in
theorem r14same_c {w:World} {L:List Cls} {A A':Option Addr} {c c' n:Nat} (h:Cks w A L) (h':Cks w A' L) (hn:L.length = n) (hl:n≤100000000) :
    Calls Tryz.prog 25 #[.slice A n c,.slice A' n c'] w fun e w' => e = .returned (.bool true)∧Below w.heap.size w w':=by
  have HX:=Lib.hid (And.intro h (And.intro h' hn))
  have n1:((n:Int) != (n:Int)) = false:=by simp
  have hn9:(n:Int)≤100000000:=by omega
  clear h h' hn hl
  go_enter Tryz.func25,Tryz.ntmps25
  go_wp2_with fail
  go_loopw [5] (fun i wr => ∃ j:Nat,j≤n∧i = .int .i64 (j:Int)∧Below w.heap.size w wr) (fun i _ => n - (intOf i).toNat)
  case atStart => exact ⟨0,Nat.zero_le _,rfl,Below.refl _ _⟩
  case round =>
    obtain ⟨j,hj,rfl,hbr⟩:=hrel
    have HB:=Lib.hid hbr
    by_cases hlt:j < n
    · obtain ⟨y,hy⟩:=get_lt (us:=L) (k:=j) (by rw [HX.out.2.2];exact hlt)
      obtain ⟨b,off,P,pc,hA,hb,e0,e1,e2,e3,e4,e5,e6,pp,pl,-⟩:=(HX.out.1.below hbr).at hy
      obtain ⟨b2,off2,P2,pc2,hA2,hb2,g0,g1,g2,g3,g4,g5,g6,pp2,-,-⟩:=(HX.out.2.1.below hbr).at hy
      subst hA hA2
      obtain ⟨s1,hs1⟩:∃ s,y.2.1.isSome = s:=⟨_,rfl⟩
      obtain ⟨s2,hs2⟩:∃ s,y.2.2.1.isSome = s:=⟨_,rfl⟩
      obtain ⟨s3,hs3⟩:∃ s,y.2.2.2.isSome = s:=⟨_,rfl⟩
      obtain ⟨v1,hv1⟩:∃ v,y.2.1.getD 0 = v:=⟨_,rfl⟩
      obtain ⟨v2,hv2⟩:∃ v,y.2.2.1.getD 0 = v:=⟨_,rfl⟩
      obtain ⟨v3,hv3⟩:∃ v,y.2.2.2.getD 0 = v:=⟨_,rfl⟩
      obtain ⟨m,hm⟩:∃ m,y.1.length = m:=⟨_,rfl⟩
      rw [hm] at e0 g0
      rw [hs1] at e1 g1
      rw [hs2] at e2 g2
      rw [hs3] at e3 g3
      rw [hv1] at e4 g4
      rw [hv2] at e5 g5
      rw [hv3] at e6 g6
      have q1:(s1 != s1) = false:=by simp
      have q2:(s2 != s2) = false:=by simp
      have q3:(s3 != s3) = false:=by simp
      have q4:((v1:Int) != (v1:Int)) = false:=by simp
      have q5:((v2:Int) != (v2:Int)) = false:=by simp
      have q6:((v3:Int) != (v3:Int)) = false:=by simp
      have f1:decide ((j:Int) < (n:Int)) = true:=decide_eq_true (by omega)
      have f1':decide (j < n) = true:=decide_eq_true hlt
      have m1:(0:Int)≤(j:Int):=by omega
      have m2:(j:Int) < (n:Int):=by omega
      have m3:(j:Int)≤100000000:=by omega
      have HC:Hid (∀ w1,Below wr.heap.size wr w1→Calls Tryz.prog 63 #[.slice P m pc,.slice P2 m pc2] w1 fun e w' => e = .returned (.bool true)∧Below w1.heap.size w1 w'):=Lib.hid fun w1 hb1 => by
        have hh:=rsame_self P P2 pc pc2 y.1 wr.heap.size w1 (pp.below' hb1 (Nat.le_refl _)) (pp2.below' hb1 (Nat.le_refl _)) hb1.size pl
        rw [hm] at hh
        exact hh
      clear hy pp pp2 pl hbr hs1 hs2 hs3 hv1 hv2 hv3 hm hlt hj
      go_upto_region 6 with fail
      go_cut [6,7] from 19 (fun x y wx => ∃ bx b7,x = Value.pointer (some ⟨bx,0,none⟩)∧y = Value.pointer (some ⟨b7,0,none⟩)∧wx.heap[bx]? = some (.cells #[.slice P m pc,.bool s1,.bool s2,.bool s3,.int .u64 (v1:Int),.int .u64 (v2:Int),.int .u64 (v3:Int)] 91 (0,0))∧wx.heap[b7]? = some (.cells #[.slice P2 m pc2,.bool s1,.bool s2,.bool s3,.int .u64 (v1:Int),.int .u64 (v2:Int),.int .u64 (v3:Int)] 91 (0,0))∧Below wr.heap.size wr wx)
      case first =>
        go_region
        all_goals go_wp2_with fail
        all_goals go_meet
        all_goals (
          refine ⟨_,_,rfl,rfl,?_,?_,by ((repeat first | refine bD ?_ | with_reducible refine bN ?_ | refine bA ?_ | refine bS ?_);first | exact bR | assumption | exact bN bR | exact bN (bN bR))⟩
          all_goals first
            | exact heap_past _ (heap_at _ _ _ rfl)
            | exact heap_at _ _ _ (by simp only [World.size_alloc]))
      case rest =>
      obtain ⟨bx,b7,rfl,rfl,hx,hy,hbc⟩:=hcut
      clear e0 e1 e2 e3 e4 e5 e6 g0 g1 g2 g3 g4 g5 g6
      obtain ⟨e0,e1,e2,e3,e4,e5,e6⟩:=row7 hx
      obtain ⟨g0,g1,g2,g3,g4,g5,g6⟩:=row7 hy
      have HBc:=Lib.hid hbc
      clear hx hy hbc
      go_wp2_with (go_at_call 63;refine (HC.out _ HBc.out).mono ?_;rintro e w2 ⟨rfl,hb2⟩;have hbD:=Lib.hid (HBc.out.trans (hb2.mono HBc.out.size));clear hb2)
      go_roundw
      case rel => exact ⟨j + 1,by omega,by first | rfl | go_num,HB.out.trans (hbD.out.mono HB.out.size)⟩
      case measure => simp [intOf];omega
    · go_wp2_with fail
      go_ret
      exact ⟨rfl,HB.out⟩
end Go.Proofs.YtmkejbfgdmbejaaGreatDoor
