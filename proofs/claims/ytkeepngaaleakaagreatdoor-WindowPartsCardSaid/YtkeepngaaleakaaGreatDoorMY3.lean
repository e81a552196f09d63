import Derived.Test.YtkeepngaaleakaaGreatDoorMY2
namespace Go.Proofs.YtkeepngaaleakaaGreatDoor
open Go.ChangeShapes Go.WideShapes Go.ChangeAt Go.RowKit
open Tr (T S4 Ent KL)
set_option maxRecDepth 1000000 in
set_option maxHeartbeats 4000000 in
theorem wDelF_all {w:World} {base k:Nat} {v:Value} {L:List Mt} (h:RowZ 160 3 MtQ metZ w base v L) (hl:L.length≤65536) (hok:∀ x∈L,MtOk w k x) (hall:∀ x∈L,sameM x = false) :
    Calls Tryz.prog 109 #[v,.func (.func 110) #[] #[]] w fun e w' => e = .returned v∧Below w.heap.size w w':=by
  obtain ⟨A,c,rfl,hlst⟩:=h.lstM
  obtain ⟨m,hm⟩:∃ m,L.length = m:=⟨_,rfl⟩
  have HI:=Lib.hid (wIdxF_c (c:=c) hlst (Nat.le_refl _) hm (by omega) hok)
  have HA:=Lib.hid hall
  rw [hm]
  clear h hl hok hall hlst
  go_enter Tryz.func109,Tryz.ntmps109
  go_wp2_with (go_at_call 164;refine HI.out.mono ?_;rintro e w2 ⟨h12,hb2⟩;rcases h12 with ⟨rfl,-⟩ | ⟨i,-,-,-,y,hy,hs⟩;rotate_left;exact absurd (HA.out y (List.mem_of_getElem? hy)) (by rw [hs];decide);have H2:=Lib.hid hb2;clear hb2)
  go_ret
  exact ⟨rfl,H2.out⟩
theorem row3m {W:World} {b:Nat} {v0 v1 v2:Value} {ty:TypeId} (h:W.heap[b]? = some (.cells #[v0,v1,v2] ty (0,0))):W.cell? ⟨b,0,none⟩ = some v0∧W.cell? ⟨b,1,none⟩ = some v1∧W.cell? ⟨b,2,none⟩ = some v2:=by
  refine ⟨?_,?_,?_⟩
  all_goals rw [cell_of_row W b _ _ _ (0,0) h];rfl
theorem grown_on {w w1 w2:World} {o:Option Nat} (h:w.grownBy w1 o) (hb:Below w1.heap.size w1 w2):w.grownBy w2 o :=
  ⟨hb.os.trans h.os,hb.tape.trans h.tape,hb.output.trans h.output,Nat.le_trans h.size hb.size,fun b hb' hn => (hb.block b (Nat.lt_of_lt_of_le hb' h.size)).trans (h.block b hb' hn)⟩
theorem grown_then {w w1 w2:World} {o:Option Nat} (h:w.grownBy w1 o) (h2:w1.grownBy w2 o):w.grownBy w2 o :=
  ⟨h2.os.trans h.os,h2.tape.trans h.tape,h2.output.trans h.output,Nat.le_trans h.size h2.size,fun b hb' hn => (h2.block b (Nat.lt_of_lt_of_le hb' h.size) hn).trans (h.block b hb' hn)⟩
set_option maxRecDepth 1000000 in
set_option maxHeartbeats 4000000 in
theorem wDelF_some {w:World} {base g cap m k:Nat} {L:List Mt} (h:RowZ 160 3 MtQ metZ w base (.slice (some ⟨g,0,none⟩) m cap) L) (hm:L.length = m) (hl:m≤65536) (hok:∀ x∈L,MtOk w k x) (hex:∃ x∈L,sameM x = true) :
    Calls Tryz.prog 109 #[.slice (some ⟨g,0,none⟩) m cap,.func (.func 110) #[] #[]] w fun e w' => ∃ j,(restM L).length = j∧e = .returned (.slice (some ⟨g,0,none⟩) j cap)∧RowZ 160 3 MtQ metZ w' base (.slice (some ⟨g,0,none⟩) j cap) (restM L)∧w.grownBy w' (some g)∧Kp k w w':=by
  obtain ⟨A,c,hA,hlst⟩:=h.lstM
  rw [hm] at hA
  cases hA
  have HI:=Lib.hid (wIdxF_c (c:=cap) hlst (Nat.le_refl _) hm hl hok)
  have HX:=Lib.hid (And.intro h (And.intro hm (And.intro hl (And.intro hok hex))))
  have hm9:(m:Int)≤65536:=by omega
  have hcap:m≤cap:=by
    rw [← hm] at h
    exact (rowZ_block.1 h).elim fun _ h => hm ▸ h.2.2.1
  have hcap9:(m:Int)≤(cap:Int):=by omega
  have HC:=Lib.hid hcap
  clear h hm hl hok hex hlst
  go_enter Tryz.func109,Tryz.ntmps109
  go_wp2_with fail
  refine HI.out.mono ?_
  rintro e w2 ⟨h12,hb2⟩
  rcases h12 with ⟨rfl,hall⟩ | ⟨i0,hi0,rfl,hfi⟩
  · obtain ⟨y,hy,hs⟩:=HX.out.2.2.2.2
    exact absurd (hall y hy) (by rw [hs];decide)
  clear HI
  have f00:((i0:Int) == -1) = false:=by rw [beq_eq_false_iff_ne];omega
  have f0:decide ((i0:Int) = -1) = false:=decide_eq_false (by omega)
  have HF:=Lib.hid (And.intro hi0 (And.intro hfi hb2))
  have i9:(i0:Int)≤65536:=by omega
  clear hi0 hfi hb2
  go_wp2_with fail
  go_loopw [5,6] (fun u v wr => ∃ j i:Nat,u = .int .i64 (j:Int)∧v = .int .i64 (i:Int)∧j < i∧i≤m∧(restM (L.take i)).length = j∧RowZ 160 3 MtQ metZ wr base (.slice (some ⟨g,0,none⟩) m cap) (restM (L.take i) ++ L.drop j)∧w.grownBy wr (some g)∧Kp k w wr) (fun _ v _ => m - (intOf v).toNat)
  case atStart =>
    refine ⟨i0,i0 + 1,rfl,by first | rfl | go_num,by omega,HF.out.1,?_,?_,?_,?_⟩
    · rw [restM_first HF.out.2.1,List.length_take,HX.out.2.1]
      have:=HF.out.1
      omega
    · rw [restM_first HF.out.2.1,List.take_append_drop]
      exact HX.out.1.below HF.out.2.2 (Nat.le_refl _)
    · exact ⟨HF.out.2.2.os,HF.out.2.2.tape,HF.out.2.2.output,HF.out.2.2.size,fun b hb _ => HF.out.2.2.block b hb⟩
    · exact Kp.of_below HF.out.2.2
  case round =>
    obtain ⟨j,i,rfl,rfl,hji,him,hlen,hrow,hgr,hkp⟩:=hrel
    by_cases hlt:i < m
    · obtain ⟨y,hy⟩:=get_lt (us:=L) (k:=i) (by rw [HX.out.2.1];exact hlt)
      have hFl:(restM (L.take i) ++ L.drop j).length = m:=by rw [rest_len hlen (by rw [HX.out.2.1];omega)];exact HX.out.2.1
      have hrow':=hrow
      rw [← hFl] at hrow'
      obtain ⟨cur,hg,hh,k1,k2,k3,k4,k5⟩:=rowZ_block.1 hrow'
      rw [hFl] at k1 k5
      obtain ⟨q0,q1,q2⟩:=k4 i y (by rw [rest_at hlen (by omega)];exact hy)
      have z0:wr.cell? ⟨g,i * 3,none⟩ = some (.int .i64 (y.a:Int)):=(cell_of_row wr g _ cur _ (0,0) hh).trans q0
      have z1:wr.cell? ⟨g,i * 3 + 1,none⟩ = some (.pointer (some ⟨y.x.blk,0,none⟩)):=(cell_of_row wr g _ cur _ (0,0) hh).trans q1
      have z2:wr.cell? ⟨g,i * 3 + 2,none⟩ = some (.pointer (rootP y.n)):=(cell_of_row wr g _ cur _ (0,0) hh).trans q2
      have hoky:MtOk wr k y:=(HX.out.2.2.2.1 y (List.mem_of_getElem? hy)).kp hkp hgr.size
      obtain ⟨W1,hW1⟩:∃ W1,W1 = wr.alloc (.cells #[.int .i64 (y.a:Int),.pointer (some ⟨y.x.blk,0,none⟩),.pointer (rootP y.n)] 160):=⟨_,rfl⟩
      have hb1:Below wr.heap.size wr W1:=by rw [hW1];exact below_alloc _ _
      have ha1:W1.heap[wr.heap.size]? = some (.cells #[.int .i64 (y.a:Int),.pointer (some ⟨y.x.blk,0,none⟩),.pointer (rootP y.n)] 160 (0,0)):=by rw [hW1];exact heap_at wr _ _ rfl
      have HS:=Lib.hid (wWo1_c (hoky.kp (Kp.of_below hb1) hb1.size))
      have hent:∀ args w,(callFunc 110 args).run Tryz.prog w = .ok (.enter 110 args) w:=enters_of Tryz.func110 (by kernel_rfl) rfl
      obtain ⟨s,hs⟩:∃ s,sameM y = s:=⟨_,rfl⟩
      obtain ⟨P,hP⟩:∃ P,rootP y.n = P:=⟨_,rfl⟩
      unfold mtV at HS
      rw [hs,hP] at HS
      rw [hP] at z2 hW1 ha1
      have f1:decide ((i:Int) < (m:Int)) = true:=decide_eq_true (by omega)
      have f1':decide (i < m) = true:=decide_eq_true hlt
      have n1:(0:Int)≤(i:Int):=by omega
      have n2:(i:Int) < (m:Int):=by omega
      have n3:(i:Int)≤65536:=by omega
      have n4:(0:Int)≤(j:Int):=by omega
      have n5:(j:Int) < (m:Int):=by omega
      have n6:(j:Int)≤65536:=by omega
      have HY:=Lib.hid (And.intro hji (And.intro him (And.intro hlen (And.intro hrow (And.intro hgr (And.intro hkp (And.intro hlt (And.intro hy (And.intro hs (And.intro hP (And.intro hFl (And.intro hh k3))))))))))))
      have H1:=Lib.hid (And.intro hb1 ha1)
      have HW:=Lib.hid hW1
      obtain ⟨c0,c1,c2⟩:=row3m ha1
      clear hji him hlen hrow hrow' hgr hkp hlt hy hs hP hFl hg hh k1 k2 k3 k4 k5 q0 q1 q2 hoky hb1 ha1 hW1
      go_upto_region 8 with fail
      rw [← HW.out]
      cases s with
      | true =>
        go_wp2_with fail
        go_at_fn 110
        refine HS.out.mono ?_
        rintro e w2 ⟨rfl,hb2⟩
        have H2:=Lib.hid (Below.andThen H1.out.1 hb2)
        clear hb2 HS HW c0 c1 c2 z0 z1 z2
        go_wp2_with fail
        go_roundw
        case rel =>
          have h:=HY.out
          refine ⟨j,i + 1,rfl,by first | rfl | go_num,by omega,by omega,?_,?_,?_,?_⟩
          · rw [restM_snoc h.2.2.2.2.2.2.2.1,h.2.2.2.2.2.2.2.2.1];simpa using h.2.2.1
          · rw [restM_snoc h.2.2.2.2.2.2.2.1,h.2.2.2.2.2.2.2.2.1];simpa using h.2.2.2.1.below H2.out (Nat.le_refl _)
          · exact grown_on h.2.2.2.2.1 H2.out
          · exact h.2.2.2.2.2.1.trans (Kp.of_below H2.out) h.2.2.2.2.1.size
        case measure =>
          have:=HY.out.2.2.2.2.2.2.1
          show m - ((i:Int) + 1).toNat < m - (i:Int).toNat
          omega
      | false =>
        go_wp2_with fail
        go_at_fn 110
        refine HS.out.mono ?_
        rintro e w2 ⟨rfl,hb2⟩
        have hb:=Below.andThen H1.out.1 hb2
        have ha2:=keepz H1.out.2 hb2
        have h:=HY.out
        have hr2:=h.2.2.2.1.below hb (Nat.le_refl _)
        have hh2:=keepz h.2.2.2.2.2.2.2.2.2.2.2.1 hb
        have hput:=hr2.put h.2.2.2.2.2.2.2.2.2.2.1 (show j < m by omega) y (a2:=.pointer P) rfl rfl (by rw [h.2.2.2.2.2.2.2.2.2.1])
        have hsz:=h.2.2.2.2.2.2.2.2.2.2.2.2
        have hcap:=HC.out
        obtain ⟨v0,hv0⟩:=get_lt (us:=cur.toList) (k:=j * 3) (by rw [Array.length_toList,hsz];omega)
        obtain ⟨v1,hv1⟩:=get_lt (us:=cur.toList) (k:=j * 3 + 1) (by rw [Array.length_toList,hsz];omega)
        obtain ⟨v2,hv2⟩:=get_lt (us:=cur.toList) (k:=j * 3 + 2) (by rw [Array.length_toList,hsz];omega)
        rw [Array.getElem?_toList] at hv0 hv1 hv2
        have y0:w2.cell? ⟨g,j * 3,none⟩ = some v0:=(cell_of_row w2 g _ cur _ (0,0) hh2).trans hv0
        have y1:w2.cell? ⟨g,j * 3 + 1,none⟩ = some v1:=(cell_of_row w2 g _ cur _ (0,0) hh2).trans hv1
        have y2:w2.cell? ⟨g,j * 3 + 2,none⟩ = some v2:=(cell_of_row w2 g _ cur _ (0,0) hh2).trans hv2
        have g0:=frozen_of_row w2 g (j * 3) _ _ hh2
        have g1:=frozen_of_row w2 g (j * 3 + 1) _ _ hh2
        have g2:=frozen_of_row w2 g (j * 3 + 2) _ _ hh2
        clear c0 c1 c2 z0 z1 z2
        obtain ⟨c0,c1,c2⟩:=row3m ha2
        have H2:=Lib.hid (And.intro hb (And.intro hput.1 (And.intro hput.2 hr2)))
        clear hb2 hb ha2 h hr2 hh2 hput hsz hv0 hv1 hv2 HS HW hcap
        go_wp2_with fail
        go_roundw
        case rel =>
          have h:=HY.out
          have hF:restM (L.take (i + 1)) = restM (L.take i) ++ [y]:=by rw [restM_snoc h.2.2.2.2.2.2.2.1,h.2.2.2.2.2.2.2.2.1];simp
          refine ⟨j + 1,i + 1,by first | rfl | go_num,by first | rfl | go_num,by omega,by omega,?_,?_,?_,?_⟩
          · rw [hF,List.length_append,h.2.2.1];rfl
          · rw [hF,← rest_put h.2.2.1 (by omega) h.2.2.2.2.2.2.2.1]
            exact H2.out.2.1
          · exact grown_then (grown_on h.2.2.2.2.1 H2.out.1) H2.out.2.2.1
          · exact (h.2.2.2.2.2.1.trans (Kp.of_below H2.out.1) h.2.2.2.2.1.size).trans (H2.out.2.2.2.met_keeps (by decide) H2.out.2.2.1) (Nat.le_trans h.2.2.2.2.1.size H2.out.1.size)
        case measure =>
          have:=HY.out.2.2.2.2.2.2.1
          show m - ((i:Int) + 1).toNat < m - (i:Int).toNat
          omega
    · have hmi:m = i:=by omega
      subst hmi
      have f1:decide ((m:Int) < (m:Int)) = false:=decide_eq_false (by omega)
      have f1':decide (m < m) = false:=decide_eq_false (by omega)
      rw [show L.take m = L by rw [← HX.out.2.1,List.take_length]] at hlen hrow
      have hFl:(restM L ++ L.drop j).length = m:=by rw [rest_len hlen (by rw [HX.out.2.1];omega)];exact HX.out.2.1
      have hrow':=hrow
      rw [← hFl] at hrow'
      obtain ⟨cur,hg,hh,k1,k2,k3,k4,k5⟩:=rowZ_block.1 hrow'
      rw [hFl] at k1 k5
      have hcl:=hrow.cleared hFl (Nat.le_of_lt hji) (vs:=(Builtin.zeroCells zeroM.cells (m - j)).toList) (zeroM_len _) (fun i c hi => (zeroM_at hi).1)
      rw [rest_take hlen] at hcl
      have hrun:∀ ty c,(Builtin.clear_ #[157] ty #[.slice (some ⟨g,j * 3,none⟩) (m - j) c]).run Tryz.prog wr = .ok (.tuple #[]) (wr.setCells g (j * 3) (Builtin.zeroCells zeroM.cells (m - j)).toList):=fun ty c => run_clearM wr ty g (j * 3) (m - j) c (by omega) (fun q hq => by
        rw [cell_of_row wr g _ cur _ (0,0) hh,Array.getElem?_eq_getElem (by omega)]
        rfl) (fun q _ => frozen_of_row wr g _ _ _ hh)
      have n4:(0:Int)≤(j:Int):=by omega
      have n5:(j:Int)≤(m:Int):=by omega
      have n6:(j:Int)≤65536:=by omega
      have nc:¬ (cap = j):=by omega
      have nc1:(cap == j) = false:=by rw [beq_eq_false_iff_ne];omega
      have nc2:decide (cap = j) = false:=decide_eq_false nc
      have nc3:¬ (cap - j = 0):=by omega
      have nc4:(j:Int)≤(cap:Int):=by omega
      obtain ⟨vs,hvs⟩:∃ vs,(Builtin.zeroCells zeroM.cells (m - j)).toList = vs:=⟨_,rfl⟩
      rw [hvs] at hcl hrun
      have HE:=Lib.hid (And.intro hlen (And.intro hcl (And.intro hgr (And.intro hkp hrow))))
      clear hvs hji him hlen hrow hrow' hgr hkp hlt hFl hg hh k1 k2 k3 k4 k5 hcl
      go_wp2_with fail
      go_ret
      have h:=HE.out
      exact ⟨j,h.1,rfl,h.2.1.1,grown_then h.2.2.1 h.2.1.2,h.2.2.2.1.trans (h.2.2.2.2.met_keeps (by decide) h.2.1.2) h.2.2.1.size⟩
end Go.Proofs.YtkeepngaaleakaaGreatDoor
