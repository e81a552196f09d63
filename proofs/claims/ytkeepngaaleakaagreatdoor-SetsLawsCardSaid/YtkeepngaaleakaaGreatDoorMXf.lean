import Derived.Test.YtkeepngaaleakaaGreatDoorMXd
namespace Go.Proofs.YtkeepngaaleakaaGreatDoor
open Go.ChangeShapes Go.WideShapes Go.ChangeAt Go.RowKit
open Tr (T S4 Ent Tri KL)
set_option maxRecDepth 1000000 in
set_option maxHeartbeats 8000000 in
theorem sAnew_c {w:World} {l:Nat} {t:Tri} {q base pn mc d:Nat} {D MA:Option Addr} {P:List PlS} {M:List Md} (hq:w.heap[q]? = some (.cells (stS t l (.slice D pn d)) 245 (0,0))) (hv:PsRow w base (.slice D pn d) P) (hpn:P.length = pn) (hl:pn≤65536) (hM:MdR w w.heap.size MA M) (hml:P.length = M.length) :
    Calls Tryz.prog 229 #[.pointer (some ⟨q,0,none⟩),.slice MA pn mc] w fun e w' => ∃ D2 d2 m,e = .returned (.agg #[.pointer none,.slice D2 m d2])∧m = (edL (plsOf 0 P M) fun _ => none).length ∧
      EdRow (fun _ => none) w' w.heap.size (.slice D2 m d2) (edL (plsOf 0 P M) fun _ => none)∧Below w.heap.size w w':=by
  obtain ⟨W0,hW0⟩:∃ W0,W0 = (w.alloc (.cells #[.pointer none,.slice none 0 0] 294)).alloc (.cells #[.pointer none,.slice none 0 0] 294):=⟨_,rfl⟩
  have hb0:Below w.heap.size w W0:=by rw [hW0];exact Below.andThen (below_alloc _ _) (below_alloc _ _)
  have hr0:W0.heap[w.heap.size + 1]? = some (.cells #[.pointer none,.slice none 0 0] 294 (0,0)):=by
    rw [hW0]
    have:=heap_at (w.alloc (.cells #[.pointer none,.slice none 0 0] 294)) (.cells #[.pointer none,.slice none 0 0] 294) _ rfl
    rw [World.size_alloc] at this
    exact this
  have hres:W0.heap[w.heap.size]? = some (.cells #[.pointer none,.slice none 0 0] 294 (0,0)):=by rw [hW0];exact keepz (heap_at w _ _ rfl) (below_alloc _ _)
  obtain ⟨ps,hps⟩:∃ ps,plsOf 0 P M = ps:=⟨_,rfl⟩
  have hpl:ps.length = pn:=by rw [← hps,plsOf_length 0 P M hml,hpn]
  obtain ⟨was,hwas⟩:∃ was:Pl→Option T,was = fun _ => none:=⟨_,rfl⟩
  have hel:∀ j,j < pn→∃ x,ps[j]? = some x∧∃ g,D = some ⟨g,0,none⟩∧g < w.heap.size∧∃ pa pb,(∀ w2,Below w.heap.size w w2→w2.cell? ⟨g,j * 3,none⟩ = some (.int .i64 (x.a:Int))∧w2.cell? ⟨g,j * 3 + 1,none⟩ = some (.pointer pa)∧w2.cell? ⟨g,j * 3 + 2,none⟩ = some (.pointer pb))∧none = rootP (was x) ∧
      ∃ mb mo,MA = some ⟨mb,mo,none⟩∧∀ w2,Below w.heap.size w w2→w2.cell? ⟨mb,mo + j * 2,none⟩ = some (.pointer (rootP x.m)):=fun j hj => by
    obtain ⟨x,hx⟩:=get_lt (us:=P) (k:=j) (by omega)
    obtain ⟨m,hm⟩:=get_lt (us:=M) (k:=j) (by omega)
    obtain ⟨g,d',cur,hvv,-,hgl,hh,p0,p1,p2⟩:=RowZ.at psQ_ok hv hx
    simp only [Value.slice.injEq] at hvv
    obtain ⟨mb,mo,hA,hmb,hc⟩:=hM (by intro e;rw [e] at hm;simp at hm)
    have hg:=plsOf_get 0 hx hm
    rw [hps] at hg
    refine ⟨_,hg,g,hvv.1,hgl,rootP x.2.a,rootP x.2.b,fun w2 hb => ?_,by rw [hwas];rfl,mb,mo,hA,fun w2 hb => (hb.cell (p:=⟨mb,_,none⟩) hmb).trans (hc j m hm).1⟩
    have h2:=(hb.block g hgl).trans hh
    exact ⟨by rw [cell_of_row w2 _ _ _ _ (0,0) h2];exact p0,by rw [cell_of_row w2 _ _ _ _ (0,0) h2];exact p1,by rw [cell_of_row w2 _ _ _ _ (0,0) h2];exact p2⟩
  have hcq:=keepz hq hb0
  obtain ⟨-,-,-,-,-,-,k6⟩:=stS_cells hcq
  have HX:=Lib.hid (And.intro hel (And.intro hpl hl))
  have HW:=Lib.hid (And.intro hW0 (And.intro hb0 (And.intro hr0 hres)))
  have hl9:(pn:Int)≤65536:=by omega
  rw [hps]
  rw [show (fun _:Pl => (none:Option T)) = was from hwas.symm]
  clear hq hv hM hel hb0 hr0 hres hcq hpn hml hps hwas hl hpl hW0
  go_enter Tryz.func229,Tryz.ntmps229
  go_upto_region 2 with fail
  rw [← HW.out.1]
  go_wp2_with fail
  clear k6
  go_loopw [13] (fun i wr => ∃ (j m:Nat) (D2:Option Addr) (d2:Nat),j≤pn∧i = .int .i64 (j:Int)∧DrJ w was ps none (w.heap.size + 1) j m D2 d2 wr∧wr.heap[w.heap.size]? = some (.cells #[.pointer none,.slice none 0 0] 294 (0,0))) (fun i _ => pn - (intOf i).toNat)
  case atStart => exact ⟨0,0,none,0,Nat.zero_le _,rfl,⟨HW.out.2.2.1,rfl,Nat.le_refl _,rowZ_nil _ _ _,HW.out.2.1⟩,HW.out.2.2.2⟩
  case round =>
    obtain ⟨j,m,D2,d2,hj,rfl,hJ,hres⟩:=hrel
    have HJ:=Lib.hid (And.intro hJ hres)
    by_cases hlt:j < pn
    · obtain ⟨x,hx,g,rfl,hgl,pa,pb,hc,hpx,mb,mo,rfl,hcm⟩:=HX.out.1 j hlt
      obtain ⟨z0,z1,z2⟩:=hc wr hJ.bel
      obtain ⟨W1,hW1⟩:∃ W1,W1 = wr.alloc (.cells #[.int .i64 (x.a:Int),.pointer pa,.pointer pb] 249):=⟨_,rfl⟩
      have hb1:Below wr.heap.size wr W1:=by rw [hW1];exact below_alloc _ _
      have hx1:W1.heap[wr.heap.size]? = some (.cells #[.int .i64 (x.a:Int),.pointer pa,.pointer pb] 249 (0,0)):=by rw [hW1];exact heap_at wr _ _ rfl
      have hbw1:=Below.andThen hJ.bel hb1
      obtain ⟨xm,hxm⟩:∃ v,rootP x.m = v:=⟨_,rfl⟩
      obtain ⟨xa,hxa⟩:∃ v,x.a = v:=⟨_,rfl⟩
      have cm:∀ w2,Below W1.heap.size W1 w2→w2.cell? ⟨mb,mo + j * 2,none⟩ = some (.pointer xm):=fun w2 hb => by rw [← hxm];exact hcm w2 (Below.andThen hbw1 hb)
      have hr:eqP was x = decide (none = xm):=by unfold eqP;rw [← hpx,hxm]
      have hft:=filter_take (fun y => !eqP was y) hx
      simp only [hr] at hft
      rw [hxa] at z0 hW1 hx1
      have hqx:EdQ was (fun i => [Value.int .i64 (xa:Int),.pointer none,.pointer xm][i]?) x:=⟨by rw [← hxa];rfl,by rw [← hpx];rfl,by rw [← hxm];rfl⟩
      have HE:=Lib.hid (And.intro hft (And.intro hqx (And.intro hb1 (And.intro hbw1 (And.intro hlt hW1)))))
      have hd1:=keepz hJ.cells hb1
      have m1:(0:Int)≤(j:Int):=by omega
      have m2:(j:Int) < (pn:Int):=by omega
      have m3:(j:Int)≤65536:=by omega
      have f1:decide ((j:Int) < (pn:Int)) = true:=decide_eq_true (by omega)
      have f1':decide (j < pn) = true:=decide_eq_true hlt
      have HC1:=Lib.hid (And.intro cm (And.intro hx1 hd1))
      clear hc hpx hcm hft hqx hb1 hbw1 hx hr hxm hxa hJ hres hj hW1 cm hx1 hd1
      go_upto_block 1 with fail
      go_cut [6,7] from 15 to 36 (fun _ _ wx => ∃ m' D' d',DrJ w was ps none (w.heap.size + 1) (j + 1) m' D' d' wx∧wx.heap[w.heap.size]? = some (.cells #[.pointer none,.slice none 0 0] 294 (0,0)))
      case first =>
        have hn1:=nptr_nn
        have hn2:=nptr_ns
        go_upto_region 5 with fail
        rw [← HE.out.2.2.2.2.2]
        clear z0 z1 z2
        have c0:=HC1.out.1 W1 (Below.refl _ _)
        cases xm with
        | none =>
          have e:=HE.out.1
          simp only [decide_true,Bool.not_true,Bool.false_eq_true,if_false,List.append_nil] at e
          have HF:=Lib.hid (And.intro (HJ.out.1.below HE.out.2.2.1 e) (keepz HJ.out.2 HE.out.2.2.1))
          clear e
          go_wp2_with fail
          go_meet
          case rel => exact ⟨m,D2,d2,HF.out.1,HF.out.2⟩
        | some xm =>
          have y0:W1.cell? ⟨wr.heap.size,0,none⟩ = some (.int .i64 (xa:Int)):=by rw [cell_of_row W1 _ _ _ _ (0,0) HC1.out.2.1];rfl
          have y4:=(dr_cells HC1.out.2.2).2.1
          have e0:∀ ob,(W1.alloc ob).cell? ⟨wr.heap.size,0,none⟩ = some (.int .i64 (xa:Int)):=fun ob => by rw [cell_of_row _ _ _ _ _ (0,0) (heap_past ob HC1.out.2.1)];rfl
          have e4:∀ ob,(W1.alloc ob).cell? ⟨w.heap.size + 1,1,none⟩ = some (.slice D2 m d2):=fun ob => (dr_cells (heap_past ob HC1.out.2.2)).2.1
          have hlt2:w.heap.size + 1 < W1.heap.size:=(Array.getElem?_eq_some_iff.1 HC1.out.2.2).1
          have HL2:=Lib.hid hlt2
          have hm9:m≤65536:=by have:=HJ.out.1.le;have:=HE.out.2.2.2.2.1;have:=HX.out.2.2;omega
          have HM9:=Lib.hid hm9
          have h22:=Below.refl W1.heap.size W1
          clear hm9 hlt2
          go_upto_region 6 with fail
          go_region_law ((refine step_append_rowZ (Q:=EdQ was) (Z:=AnyZ) 292 329 pl0S 24 Tryz.underlying292 infoEd (by rfl) (by omega) (by omega) (edQ_ok was) (fun _ _ _ => True.intro) (by rfl) _ _ (by rfl) (w.heap.size + 2) (.slice D2 m d2) ((ps.take j).filter fun x => !eqP was x) (m + 1) (by rw [← HJ.out.1.len]) (by rfl) (RowZ.below (C:=wr.heap.size) HJ.out.1.row (show Below wr.heap.size wr _ from Below.andThen HE.out.2.2.1 (show Below W1.heap.size W1 _ by ((repeat first | refine bD ?_ | with_reducible refine bN ?_ | refine bA ?_ | refine bS ?_);first | exact bR | assumption | exact bN bR | exact bN (bN bR)))) (Nat.le_refl _)) x [.int .i64 (xa:Int),.pointer none,.pointer (some xm)] (by rfl) HE.out.2.1 ⟨W1.heap.size,0,none⟩ 1 (by rfl) (by exact news_at _ _ _) (by rw [← HJ.out.1.len];have:=HM9.out;omega) (by have:=HL2.out;simp;omega) ?_;intro D5 d5 w5 hown5 hgrow5 hat5 hch5;have hne5:=(hgrow5.block (w.heap.size + 1) (by have:=HL2.out;simp;omega) (fun e => by have:=(HJ.out.1.row.lt _ e.symm).1;omega)).trans (((show Below W1.heap.size W1 _ by ((repeat first | refine bD ?_ | with_reducible refine bN ?_ | refine bA ?_ | refine bS ?_);first | exact bR | assumption | exact bN bR | exact bN (bN bR))).block (w.heap.size + 1) HL2.out).trans HC1.out.2.2);have c5:=(dr_cells hne5).2.1;have f5:=(dr_cells hne5).2.2 1;have HG:=Lib.hid (And.intro hown5 hgrow5);clear hown5 hgrow5 hat5 hch5 hne5))
          all_goals (
            have hft:=HE.out.1
            simp only [reduceCtorEq,decide_false,Bool.not_false,if_true] at hft
            have HF:=Lib.hid (HJ.out.1.app (X:=_) (Below.andThen HE.out.2.2.1 (show Below W1.heap.size W1 _ by ((repeat first | refine bD ?_ | with_reducible refine bN ?_ | refine bA ?_ | refine bS ?_);first | exact bR | assumption | exact bN bR | exact bN (bN bR)))) HG.out.2 HG.out.1 hft rfl)
            clear hft c5 f5 y0 y4 e0 e4 c0
            go_wp2_with fail
            go_meet
            exact ⟨m + 1,D5,d5,HF.out.1,HF.out.2.trans HJ.out.2⟩)
      case rest =>
      obtain ⟨m',D',d',hJ2,hres2⟩:=hcut
      have HF:=Lib.hid (And.intro hJ2 hres2)
      clear hJ2 hres2
      go_wp2_with fail
      go_roundw
      case rel => exact ⟨j + 1,m',D',d',HE.out.2.2.2.2.1,by first | rfl | go_num,HF.out.1,HF.out.2⟩
      case measure =>
        have:=HE.out.2.2.2.2.1
        show pn - ((j:Int) + 1).toNat < pn - (j:Int).toNat
        omega
    · have hjp:j = pn:=by omega
      subst hjp
      have f1:decide ((j:Int) < (j:Int)) = false:=decide_eq_false (by omega)
      have f1':decide (j < j) = false:=decide_eq_false (by omega)
      have htk:ps.take j = ps:=by rw [← HX.out.2.1];exact List.take_length
      obtain ⟨y0,y1,-⟩:=dr_cells hJ.cells
      obtain ⟨z0,z1,zf⟩:=dr_cells hres
      have r1:=heap_setCell_same wr w.heap.size 0 _ _ (.pointer none) hres
      have r2:=heap_setCell_same _ w.heap.size 1 _ _ (.slice D2 m d2) r1
      have hr2:((wr.setCell ⟨w.heap.size,0,none⟩ (.pointer none)).setCell ⟨w.heap.size,1,none⟩ (.slice D2 m d2)).heap[w.heap.size]? = some (.cells #[.pointer none,.slice D2 m d2] 294 (0,0)):=by simpa using r2
      obtain ⟨t0,t1,-⟩:=dr_cells hr2
      clear hres hJ hlt hj r1 r2 hr2
      go_wp2_with fail
      refine bodyPost_ret (v:=.agg #[.pointer none,.slice D2 m d2]) (by simp [results,Tryz.results229,go_sem,t0,t1]) rfl ?_
      have hJ:=HJ.out.1
      have hlen:=hJ.len
      have hrow:=hJ.row
      rw [htk] at hlen hrow
      refine ⟨D2,d2,m,rfl,hlen,?_,(hJ.bel.setCell (p:=⟨w.heap.size,0,none⟩) (Nat.le_refl _) _).setCell (p:=⟨w.heap.size,1,none⟩) (Nat.le_refl _) _⟩
      refine RowZ.mono (hrow.block fun b hb => ?_) (Nat.le_add_right _ 2)
      have:=(hrow.lt b hb).1
      rw [Below.heap_setCell _ ⟨w.heap.size,1,none⟩ _ b (by show b≠w.heap.size;omega),Below.heap_setCell _ ⟨w.heap.size,0,none⟩ _ b (by show b≠w.heap.size;omega)]
end Go.Proofs.YtkeepngaaleakaaGreatDoor
