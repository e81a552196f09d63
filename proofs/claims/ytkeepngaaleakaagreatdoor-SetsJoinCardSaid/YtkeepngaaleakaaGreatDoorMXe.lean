import Derived.Test.YtkeepngaaleakaaGreatDoorMXg
namespace Go.Proofs.YtkeepngaaleakaaGreatDoor
open Go.ChangeShapes Go.WideShapes Go.ChangeAt Go.RowKit
open Tr (T S4 Ent Tri KL)
set_option maxRecDepth 1000000 in
set_option maxHeartbeats 8000000 in
theorem sDraft1_c {w:World} {B k l:Nat} {t:Tri} {q base pn mc d:Nat} {D MA:Option Addr} {P:List PlS} {M:List Md} (hq:w.heap[q]? = some (.cells (stS t l (.slice D pn d)) 245 (0,0))) (hv:PsRow w base (.slice D pn d) P) (hpn:P.length = pn) (hl:pn≤65536) (hM:MdR w w.heap.size MA M) (hml:P.length = M.length) (hB:B≤w.heap.size)
    (hN:∀ x∈plsOf 1 P M,NodeO w B k (Tri.at x.t 2)∧NodeO w w.heap.size k x.m) :
    Calls Tryz.prog 228 #[.pointer (some ⟨q,0,none⟩),.int .i64 1,.slice MA pn mc] w fun e w' => ∃ D2 d2 m,e = .returned (.agg #[.pointer (rootP t.b),.slice D2 m d2])∧m = (edL (plsOf 1 P M) fun x => Tri.at x.t 2).length ∧
      EdRow (fun x => Tri.at x.t 2) w' w.heap.size (.slice D2 m d2) (edL (plsOf 1 P M) fun x => Tri.at x.t 2)∧Below w.heap.size w w':=by
  obtain ⟨W0,hW0⟩:∃ W0,W0 = (w.alloc (.cells #[.pointer none,.slice none 0 0] 294)).alloc (.cells #[.pointer (rootP t.b),.slice none 0 0] 294):=⟨_,rfl⟩
  have hb0:Below w.heap.size w W0:=by rw [hW0];exact Below.andThen (below_alloc _ _) (below_alloc _ _)
  have hr0:W0.heap[w.heap.size + 1]? = some (.cells #[.pointer (rootP t.b),.slice none 0 0] 294 (0,0)):=by
    rw [hW0]
    have:=heap_at (w.alloc (.cells #[.pointer none,.slice none 0 0] 294)) (.cells #[.pointer (rootP t.b),.slice none 0 0] 294) _ rfl
    rw [World.size_alloc] at this
    exact this
  have hres:W0.heap[w.heap.size]? = some (.cells #[.pointer none,.slice none 0 0] 294 (0,0)):=by rw [hW0];exact keepz (heap_at w _ _ rfl) (below_alloc _ _)
  obtain ⟨ps,hps⟩:∃ ps,plsOf 1 P M = ps:=⟨_,rfl⟩
  have hpl:ps.length = pn:=by rw [← hps,plsOf_length 1 P M hml,hpn]
  obtain ⟨was,hwas⟩:∃ was:Pl→Option T,was = fun x => Tri.at x.t 2:=⟨_,rfl⟩
  have hN':∀ x∈ps,NodeO w B k (was x)∧NodeO w w.heap.size k x.m:=fun x hx => by rw [hwas];exact hN x (by rw [hps];exact hx)
  -- what a round reads
  have hel:∀ j,j < pn→∃ x,ps[j]? = some x∧∃ g,D = some ⟨g,0,none⟩∧g < w.heap.size∧∃ pa pb,(∀ w2,Below w.heap.size w w2→w2.cell? ⟨g,j * 3,none⟩ = some (.int .i64 (x.a:Int))∧w2.cell? ⟨g,j * 3 + 1,none⟩ = some (.pointer pa)∧w2.cell? ⟨g,j * 3 + 2,none⟩ = some (.pointer pb))∧pb = rootP (was x) ∧
      ∃ mb mo,MA = some ⟨mb,mo,none⟩∧∀ w2,Below w.heap.size w w2→w2.cell? ⟨mb,mo + j * 2 + 1,none⟩ = some (.pointer (rootP x.m)):=fun j hj => by
    obtain ⟨x,hx⟩:=get_lt (us:=P) (k:=j) (by omega)
    obtain ⟨m,hm⟩:=get_lt (us:=M) (k:=j) (by omega)
    obtain ⟨g,d',cur,hvv,-,hgl,hh,p0,p1,p2⟩:=RowZ.at psQ_ok hv hx
    simp only [Value.slice.injEq] at hvv
    obtain ⟨mb,mo,hA,hmb,hc⟩:=hM (by intro e;rw [e] at hm;simp at hm)
    have hg:=plsOf_get 1 hx hm
    rw [hps] at hg
    refine ⟨_,hg,g,hvv.1,hgl,rootP x.2.a,rootP x.2.b,fun w2 hb => ?_,by rw [hwas];rfl,mb,mo,hA,fun w2 hb => (hb.cell (p:=⟨mb,_,none⟩) hmb).trans (hc j m hm).2⟩
    have h2:=(hb.block g hgl).trans hh
    exact ⟨by rw [cell_of_row w2 _ _ _ _ (0,0) h2];exact p0,by rw [cell_of_row w2 _ _ _ _ (0,0) h2];exact p1,by rw [cell_of_row w2 _ _ _ _ (0,0) h2];exact p2⟩
  have hcq:=keepz hq hb0
  obtain ⟨k0,-,-,k3,-,-,k6⟩:=stS_cells hcq
  have hk3:∀ ob,(w.alloc ob).cell? ⟨q,3,none⟩ = some (.pointer (rootP t.b)):=fun ob => (stS_cells (heap_past ob hq)).2.2.2.1
  have HX:=Lib.hid (And.intro hN' (And.intro hel (And.intro hB (And.intro hpl hl))))
  have HW:=Lib.hid (And.intro hW0 (And.intro hb0 (And.intro hr0 hres)))
  have hl9:(pn:Int)≤65536:=by omega
  rw [hps]
  rw [show (fun x:Pl => Tri.at x.t 2) = was from hwas.symm]
  clear hq hv hM hB hN hN' hel hb0 hr0 hres hcq hpn hml hps hwas hl hpl hW0
  obtain ⟨fr,hfr⟩:∃ v,rootP t.b = v:=⟨_,rfl⟩
  rw [hfr] at hk3 HW
  rw [hfr]
  clear hfr k0 k3
  go_enter Tryz.func228,Tryz.ntmps228
  go_upto_region 2 with fail
  rw [← HW.out.1]
  go_wp2_with fail
  clear hk3 k6
  go_loopw [23] (fun i wr => ∃ (j m:Nat) (D2:Option Addr) (d2:Nat),j≤pn∧i = .int .i64 (j:Int)∧DrJ w was ps fr (w.heap.size + 1) j m D2 d2 wr∧wr.heap[w.heap.size]? = some (.cells #[.pointer none,.slice none 0 0] 294 (0,0))) (fun i _ => pn - (intOf i).toNat)
  case atStart => exact ⟨0,0,none,0,Nat.zero_le _,rfl,⟨HW.out.2.2.1,rfl,Nat.le_refl _,rowZ_nil _ _ _,HW.out.2.1⟩,HW.out.2.2.2⟩
  case round =>
    obtain ⟨j,m,D2,d2,hj,rfl,hJ,hres⟩:=hrel
    have HJ:=Lib.hid (And.intro hJ hres)
    by_cases hlt:j < pn
    · obtain ⟨x,hx,g,rfl,hgl,pa,pb,hc,hpx,mb,mo,rfl,hcm⟩:=HX.out.2.1 j hlt
      obtain ⟨z0,z1,z2⟩:=hc wr hJ.bel
      obtain ⟨W1,hW1⟩:∃ W1,W1 = wr.alloc (.cells #[.int .i64 (x.a:Int),.pointer pa,.pointer pb] 249):=⟨_,rfl⟩
      have hb1:Below wr.heap.size wr W1:=by rw [hW1];exact below_alloc _ _
      have hx1:W1.heap[wr.heap.size]? = some (.cells #[.int .i64 (x.a:Int),.pointer pa,.pointer pb] 249 (0,0)):=by rw [hW1];exact heap_at wr _ _ rfl
      have hbw1:=Below.andThen hJ.bel hb1
      obtain ⟨xm,hxm⟩:∃ v,rootP x.m = v:=⟨_,rfl⟩
      obtain ⟨xa,hxa⟩:∃ v,x.a = v:=⟨_,rfl⟩
      obtain ⟨r,hr⟩:∃ r,eqP was x = r:=⟨_,rfl⟩
      have hNx:=HX.out.1 x (List.mem_of_getElem? hx)
      have hnq:∀ n,(binOp .neq 81 (.pointer pb) (.pointer xm)).run Tryz.prog (W1.drewN n) = .ok (.bool (!r)) (W1.drewN n):=fun n => by
        have hbn:=below_drewN n hbw1
        have hh:=neq_of_eql (nodeP_dec (hNx.1.below hbn HX.out.2.2.1 (Nat.le_refl _)) (hNx.2.below hbn (Nat.le_refl _) (Nat.le_refl _)))
        rw [← hpx,hxm] at hh
        have e:decide (pb = xm) = r:=by rw [← hr];unfold eqP;rw [← hpx,hxm]
        rw [e] at hh
        exact hh
      have hnq0:(binOp .neq 81 (.pointer pb) (.pointer xm)).run Tryz.prog W1 = .ok (.bool (!r)) W1:=hnq 0
      have cm:∀ w2,Below W1.heap.size W1 w2→w2.cell? ⟨mb,mo + j * 2 + 1,none⟩ = some (.pointer xm):=fun w2 hb => by rw [← hxm];exact hcm w2 (Below.andThen hbw1 hb)
      have hft:=filter_take (fun y => !eqP was y) hx
      simp only [hr] at hft
      rw [hxa] at z0 hW1 hx1
      have hqx:EdQ was (fun i => [Value.int .i64 (xa:Int),.pointer pb,.pointer xm][i]?) x:=⟨by rw [← hxa];rfl,by rw [← hpx];rfl,by rw [← hxm];rfl⟩
      have HE:=Lib.hid (And.intro hft (And.intro hqx (And.intro hb1 (And.intro hbw1 (And.intro hlt hW1)))))
      have hd1:=keepz hJ.cells hb1
      have m1:(0:Int)≤(j:Int):=by omega
      have m2:(j:Int) < (pn:Int):=by omega
      have m3:(j:Int)≤65536:=by omega
      have f1:decide ((j:Int) < (pn:Int)) = true:=decide_eq_true (by omega)
      have f1':decide (j < pn) = true:=decide_eq_true hlt
      clear hc hpx hcm hNx hft hqx hb1 hbw1 hx hr hxm hxa hJ hres hj hW1
      go_upto_block 1 with fail
      go_cut [8,9] from 25 to 56 (fun _ _ wx => ∃ m' D' d',DrJ w was ps fr (w.heap.size + 1) (j + 1) m' D' d' wx∧wx.heap[w.heap.size]? = some (.cells #[.pointer none,.slice none 0 0] 294 (0,0)))
      case first =>
        go_upto_region 5 with fail
        rw [← HE.out.2.2.2.2.2]
        clear z0 z1 z2
        have x0:W1.cell? ⟨wr.heap.size,0,none⟩ = some (.int .i64 (xa:Int)):=by rw [cell_of_row W1 _ _ _ _ (0,0) hx1];rfl
        have x1:W1.cell? ⟨wr.heap.size,1,none⟩ = some (.pointer pa):=by rw [cell_of_row W1 _ _ _ _ (0,0) hx1];rfl
        have x2:W1.cell? ⟨wr.heap.size,2,none⟩ = some (.pointer pb):=by rw [cell_of_row W1 _ _ _ _ (0,0) hx1];rfl
        have c0:=cm W1 (Below.refl _ _)
        have HCM:=Lib.hid cm
        clear cm
        go_quiet (fail)
        cases r with
        | true =>
          have HB2:=Lib.hid (Below.andThen HE.out.2.2.1 (below_drewN nq (Below.refl W1.heap.size W1)))
          clear hnq hnq0 hx1 hd1 x0 x1 x2 c0 HCM
          have e:=HE.out.1
          simp only [Bool.not_true,Bool.false_eq_true,if_false,List.append_nil] at e
          have HF:=Lib.hid (And.intro (HJ.out.1.below HB2.out e) (keepz HJ.out.2 HB2.out))
          clear e
          go_wp2_with fail
          go_meet
          case rel => exact ⟨m,D2,d2,HF.out.1,HF.out.2⟩
        | false =>
          obtain ⟨W2,hW2⟩:∃ W2,W2 = W1.drewN nq:=⟨_,rfl⟩
          have hb2:Below W1.heap.size W1 W2:=by rw [hW2];exact below_drewN nq (Below.refl _ _)
          rw [← hW2]
          have hx2:=keepz hx1 hb2
          have hd2:=keepz hd1 hb2
          have hlt2:w.heap.size + 1 < W2.heap.size:=(Array.getElem?_eq_some_iff.1 hd2).1
          have HB2:=Lib.hid (And.intro (Below.andThen HE.out.2.2.1 hb2) (And.intro (Below.andThen HE.out.2.2.2.1 hb2) (And.intro hd2 hlt2)))
          have y0:W2.cell? ⟨wr.heap.size,0,none⟩ = some (.int .i64 (xa:Int)):=by rw [cell_of_row W2 _ _ _ _ (0,0) hx2];rfl
          have y1:W2.cell? ⟨wr.heap.size,1,none⟩ = some (.pointer pa):=by rw [cell_of_row W2 _ _ _ _ (0,0) hx2];rfl
          have y2:W2.cell? ⟨wr.heap.size,2,none⟩ = some (.pointer pb):=by rw [cell_of_row W2 _ _ _ _ (0,0) hx2];rfl
          have y3:=HCM.out W2 hb2
          have y4:=(dr_cells hd2).2.1
          have e0:∀ ob,(W2.alloc ob).cell? ⟨wr.heap.size,0,none⟩ = some (.int .i64 (xa:Int)):=fun ob => by rw [cell_of_row _ _ _ _ _ (0,0) (heap_past ob hx2)];rfl
          have e4:∀ ob,(W2.alloc ob).cell? ⟨w.heap.size + 1,1,none⟩ = some (.slice D2 m d2):=fun ob => (dr_cells (heap_past ob hd2)).2.1
          have hm9:m≤65536:=by have:=HJ.out.1.le;have:=HE.out.2.2.2.2.1;have:=HX.out.2.2.2.2;omega
          have HM9:=Lib.hid hm9
          have h22:=Below.refl W2.heap.size W2
          clear hnq hnq0 hx1 hd1 x0 x1 x2 c0 HCM hW2 hb2 hx2 hd2 hm9 hlt2
          go_upto_region 6 with fail
          go_region_law ((refine step_append_rowZ (Q:=EdQ was) (Z:=AnyZ) 292 329 pl0S 24 Tryz.underlying292 infoEd (by rfl) (by omega) (by omega) (edQ_ok was) (fun _ _ _ => True.intro) (by rfl) _ _ (by rfl) (w.heap.size + 2) (.slice D2 m d2) ((ps.take j).filter fun x => !eqP was x) (m + 1) (by rw [← HJ.out.1.len]) (by rfl) (RowZ.below (C:=wr.heap.size) HJ.out.1.row (show Below wr.heap.size wr _ from Below.andThen HB2.out.1 (show Below W2.heap.size W2 _ by ((repeat first | refine bD ?_ | with_reducible refine bN ?_ | refine bA ?_ | refine bS ?_);first | exact bR | assumption | exact bN bR | exact bN (bN bR)))) (Nat.le_refl _)) x [.int .i64 (xa:Int),.pointer pb,.pointer xm] (by rfl) HE.out.2.1 ⟨W2.heap.size,0,none⟩ 1 (by rfl) (by exact news_at _ _ _) (by rw [← HJ.out.1.len];have:=HM9.out;omega) (by have:=HB2.out.2.2.2;simp;omega) ?_;intro D5 d5 w5 hown5 hgrow5 hat5 hch5;have hne5:=(hgrow5.block (w.heap.size + 1) (by have:=HB2.out.2.2.2;simp;omega) (fun e => by have:=(HJ.out.1.row.lt _ e.symm).1;omega)).trans (((show Below W2.heap.size W2 _ by ((repeat first | refine bD ?_ | with_reducible refine bN ?_ | refine bA ?_ | refine bS ?_);first | exact bR | assumption | exact bN bR | exact bN (bN bR))).block (w.heap.size + 1) HB2.out.2.2.2).trans HB2.out.2.2.1);have c5:=(dr_cells hne5).2.1;have f5:=(dr_cells hne5).2.2 1;have HG:=Lib.hid (And.intro hown5 hgrow5);clear hown5 hgrow5 hat5 hch5 hne5))
          all_goals (
            have hft:=HE.out.1
            simp only [Bool.not_false,if_true] at hft
            have HF:=Lib.hid (HJ.out.1.app (X:=_) (Below.andThen HB2.out.1 (show Below W2.heap.size W2 _ by ((repeat first | refine bD ?_ | with_reducible refine bN ?_ | refine bA ?_ | refine bS ?_);first | exact bR | assumption | exact bN bR | exact bN (bN bR)))) HG.out.2 HG.out.1 hft rfl)
            clear hft c5 f5 y0 y1 y2 y3 y4 e0 e4
            go_wp2_with fail
            go_meet
            exact ⟨m + 1,D5,d5,HF.out.1,HF.out.2.trans HJ.out.2⟩)
      case rest =>
      obtain ⟨m',D',d',hJ2,hres2⟩:=hcut
      have HF:=Lib.hid (And.intro hJ2 hres2)
      clear hJ2 hres2 hnq hnq0 hx1 hd1 cm
      go_wp2_with fail
      go_roundw
      case rel => exact ⟨j + 1,m',D',d',HE.out.2.2.2.2.1,by first | rfl | go_num,HF.out.1,HF.out.2⟩
      case measure =>
        have:=HE.out.2.2.2.2.1
        show pn - ((j:Int) + 1).toNat < pn - (j:Int).toNat
        omega
    · have hjp:j = pn:=by omega
      subst hjp
      have f1:decide ((j:Int) < (j:Int)) = false:=decide_eq_false (by omega)
      have f1':decide (j < j) = false:=decide_eq_false (by omega)
      have htk:ps.take j = ps:=by rw [← HX.out.2.2.2.1];exact List.take_length
      obtain ⟨y0,y1,-⟩:=dr_cells hJ.cells
      obtain ⟨z0,z1,zf⟩:=dr_cells hres
      have r1:=heap_setCell_same wr w.heap.size 0 _ _ (.pointer fr) hres
      have r2:=heap_setCell_same _ w.heap.size 1 _ _ (.slice D2 m d2) r1
      have hr2:((wr.setCell ⟨w.heap.size,0,none⟩ (.pointer fr)).setCell ⟨w.heap.size,1,none⟩ (.slice D2 m d2)).heap[w.heap.size]? = some (.cells #[.pointer fr,.slice D2 m d2] 294 (0,0)):=by simpa using r2
      obtain ⟨t0,t1,-⟩:=dr_cells hr2
      clear hres hJ hlt hj r1 r2 hr2
      go_wp2_with fail
      refine bodyPost_ret (v:=.agg #[.pointer fr,.slice D2 m d2]) (by simp [results,Tryz.results228,go_sem,t0,t1]) rfl ?_
      have hJ:=HJ.out.1
      have hlen:=hJ.len
      have hrow:=hJ.row
      rw [htk] at hlen hrow
      refine ⟨D2,d2,m,rfl,hlen,?_,(hJ.bel.setCell (p:=⟨w.heap.size,0,none⟩) (Nat.le_refl _) _).setCell (p:=⟨w.heap.size,1,none⟩) (Nat.le_refl _) _⟩
      refine RowZ.mono (hrow.block fun b hb => ?_) (Nat.le_add_right _ 2)
      have:=(hrow.lt b hb).1
      rw [Below.heap_setCell _ ⟨w.heap.size,1,none⟩ _ b (by show b≠w.heap.size;omega),Below.heap_setCell _ ⟨w.heap.size,0,none⟩ _ b (by show b≠w.heap.size;omega)]
theorem plsOf_mem (s:Nat):∀ {P:List PlS} {M:List Md} {x:Pl},x∈plsOf s P M→∃ (i:Nat) (p:PlS) (m:Md),P[i]? = some p∧M[i]? = some m∧x = ⟨p.1,p.2,Md.at s m⟩
  | [],_,_,h => by simp [plsOf] at h
  | _ :: _,[],_,h => by simp [plsOf] at h
  | p :: P,m :: M,x,h => by
    rcases List.mem_cons.1 h with rfl | h
    · exact ⟨0,p,m,rfl,rfl,rfl⟩
    · obtain ⟨i,p',m',h1,h2,h3⟩:=plsOf_mem s h
      exact ⟨i + 1,p',m',h1,h2,h3⟩
theorem want_eq:∀ {P:List PlS} {M:List Md},(∀ m∈M,m.1.isSome = m.2.isSome)→(wantL (plsOf 1 P M)).length = (wantL (plsOf 0 P M)).length
  | [],_,_ => by simp [plsOf]
  | _ :: _,[],_ => by simp [plsOf]
  | p :: P,m :: M,h => by
    have ih:=want_eq (P:=P) (M:=M) fun m hm => h m (List.mem_cons_of_mem _ hm)
    have h0:=h m List.mem_cons_self
    unfold wantL at ih ⊢
    simp only [plsOf,Md.at,List.filter_cons]
    simp only [Nat.one_ne_zero,if_false,if_true,← h0]
    split
    · simp only [List.length_cons];omega
    · exact ih
structure JnOk (w:World) (B k l:Nat) (c0:List Nat) (t:Tri) (P:List PlS) (M:List Md):Prop where
  ho:t.o = none
  hf:Tr.FrmOk k l c0 t
  hs:∀ x∈t.list,Tr.Wf k x∧x.lv≤l + 1∧Z.cut x.pre (l + 1) = c0
  nt:TriN w B k t
  hB:B≤w.heap.size
  hP:P = t.rem l 0
  hml:P.length = M.length
  hmn:∀ m∈M,NodeO w w.heap.size k m.1∧NodeO w w.heap.size k m.2
  heq:∀ m∈M,Tr.entsO m.1 = Tr.entsO m.2
  hfit:∀ (i:Nat) (p:PlS) (m:Md),P[i]? = some p→M[i]? = some m→∀ s x,Md.at s m = some x→Tr.Wf k x∧x.lv≤l∧Z.cut x.pre (l + 1) = c0∧Z.addr x.pre l = p.1
  hpt:∀ p∈P,TriN w B k p.2
  hsum:(Tr.entsO t.a).length + (Tr.entsO t.b).length + (M.map fun m => (Tr.entsO m.1).length).sum≤1000000000000
section
variable {w:World} {B k l:Nat} {c0:List Nat} {t:Tri} {P:List PlS} {M:List Md}
theorem JnOk.isSome (h:JnOk w B k l c0 t P M):∀ m∈M,m.1.isSome = m.2.isSome:=fun m hm => by
  have he:=h.heq m hm
  obtain ⟨h1,h2⟩:=h.hmn m hm
  cases e1:m.1 with
  | none =>
    cases e2:m.2 with
    | none => rfl
    | some y => rw [e1,e2] at he;exact absurd he.symm (h2 y e2).1.ne
  | some x =>
    cases e2:m.2 with
    | none => rw [e1,e2] at he;exact absurd he (h1 x e1).1.ne
    | some y => rfl
theorem sum_at {s:Nat}:∀ {P:List PlS} {M:List Md},(∀ m∈M,Tr.entsO m.1 = Tr.entsO m.2)→sumM (plsOf s P M)≤(M.map fun m => (Tr.entsO m.1).length).sum
  | [],_,_ => by simp [plsOf,sumM]
  | _ :: _,[],_ => by simp [plsOf,sumM]
  | p :: P,m :: M,h => by
    have ih:=sum_at (s:=s) (P:=P) (M:=M) fun m hm => h m (List.mem_cons_of_mem _ hm)
    have h0:(Tr.entsO (Md.at s m)).length = (Tr.entsO m.1).length:=by
      unfold Md.at
      split
      · rfl
      · rw [← h m List.mem_cons_self]
    simp only [plsOf,sumM_cons,List.map_cons,List.sum_cons,h0]
    omega
theorem JnOk.sum (h:JnOk w B k l c0 t P M) (s:Nat):(Tr.entsO t.o).length + (Tr.entsO t.a).length + (Tr.entsO t.b).length + sumM (plsOf s P M)≤1000000000000:=by
  have h1:=sum_at (s:=s) (P:=P) h.heq
  have h2:=h.hsum
  rw [h.ho]
  have h3:(Tr.entsO (none:Option T)).length = 0:=rfl
  omega
theorem JnOk.map (h:JnOk w B k l c0 t P M) (s:Nat):(plsOf s P M).map (fun x => (x.a,x.t)) = t.rem l 0:=by rw [plsOf_map s P M h.hml,h.hP]
theorem JnOk.node (h:JnOk w B k l c0 t P M) (s:Nat) (hs:s < 2):∀ x∈plsOf s P M,NodeO w B k (Tri.at x.t (s + 1))∧NodeO w w.heap.size k x.m:=fun x hx => by
  obtain ⟨i,p,m,hp,hm,rfl⟩:=plsOf_mem s hx
  have h1:=h.hpt p (List.mem_of_getElem? hp)
  have h2:=h.hmn m (List.mem_of_getElem? hm)
  match s,hs with
  | 0,_ => exact ⟨h1.a,h2.1⟩
  | 1,_ => exact ⟨h1.b,h2.2⟩
theorem JnOk.fits (h:JnOk w B k l c0 t P M) (s:Nat):∀ x∈plsOf s P M,∀ m,x.m = some m→Tr.Wf k m∧m.lv≤l∧Z.cut m.pre (l + 1) = c0∧Z.addr m.pre l = x.a:=fun x hx m hm => by
  obtain ⟨i,p,m',hp,hm',rfl⟩:=plsOf_mem s hx
  exact h.hfit i p m' hp hm' s m hm
theorem JnOk.outs (h:JnOk w B k l c0 t P M) (s:Nat) (e:Ent):(∃ x∈plsOf s P M,e∈Tr.entsO x.m)↔∃ m∈M,e∈Tr.entsO m.1:=by
  constructor
  · rintro ⟨x,hx,he⟩
    obtain ⟨i,p,m,hp,hm,rfl⟩:=plsOf_mem s hx
    have hmm:=List.mem_of_getElem? hm
    refine ⟨m,hmm,?_⟩
    have he':e∈Tr.entsO (Md.at s m):=he
    unfold Md.at at he'
    split at he'
    · exact he'
    · rw [h.heq m hmm];exact he'
  · rintro ⟨m,hm,he⟩
    obtain ⟨i,hi⟩:=List.getElem?_of_mem hm
    have hil:i < P.length:=by rw [h.hml];exact (List.getElem?_eq_some_iff.1 hi).1
    obtain ⟨p,hp⟩:=get_lt hil
    refine ⟨_,List.mem_of_getElem? (plsOf_get s hp hi),?_⟩
    show e∈Tr.entsO (Md.at s m)
    unfold Md.at
    split
    · exact he
    · rw [← h.heq m hm];exact he
theorem JnOk.done (h:JnOk w B k l c0 t P M) (s:Nat) (hs:s < 2) (h0:edL (plsOf s P M) (fun x => Tri.at x.t (s + 1)) = []) (e:Ent):e∈Tr.entsO (Tri.at t (s + 1))↔∃ m∈M,e∈Tr.entsO m.1:=by
  rw [← h.outs s e]
  obtain ⟨h64,fo,fa,fb,eo,ea,eb⟩:=h.hf
  obtain ⟨h1,h2,h3⟩:=ps_facts (h.map s)
  have hfit:Tr.FitL k l c0 (Tr.sdL (Tri.at t (s + 1)) l)∧Tr.entsL (Tr.sdL (Tri.at t (s + 1)) l) = Tr.entsO (Tri.at t (s + 1)):=by
    match s,hs with
    | 0,_ => exact ⟨fa,ea⟩
    | 1,_ => exact ⟨fb,eb⟩
  have hget:∀ a:Nat,Tri.at (Tr.triAt (Tr.sdL t.o l) (Tr.sdL t.a l) (Tr.sdL t.b l) a) (s + 1) = Sl.get (Tr.sdL (Tri.at t (s + 1)) l) (a:Int):=fun a => by
    match s,hs with
    | 0,_ => rfl
    | 1,_ => rfl
  have hm:=mem_out (was:=fun x => Tri.at x.t (s + 1)) h1 (K0:=Tr.sdL (Tri.at t (s + 1)) l) hfit.1.1 (fun x hx => by rw [h2 x hx,← hget]) (fun y hy => by
    have hgy:=Sl.get_of_mem hfit.1.1 hy
    refine h3 y.1 (hfit.1.lt5 y hy) ?_
    have hh:=hget y.1
    rw [hgy] at hh
    match s,hs,hh with
    | 0,_,hh => have hh:Sl.get (Tr.sdL t.a l) (y.1:Int) = some y.2:=hh;simp [Tr.triAt,Tr.Tri.any,hh]
    | 1,_,hh => have hh:Sl.get (Tr.sdL t.b l) (y.1:Int) = some y.2:=hh;simp [Tr.triAt,Tr.Tri.any,hh]) (fun x hx heq => by
      have hn:=h.node s hs x hx
      exact nodeO_same (w:=w) (B:=w.heap.size) (B':=w.heap.size) (k:=k) (hn.1.below (Below.refl w.heap.size w) h.hB h.hB) hn.2 (of_decide_eq_true heq)) e
  rw [h0] at hm
  rw [← hfit.2]
  exact hm
end
structure CandS (Wa:World) (k l:Nat) (c0:List Nat) (t:Tri) (P:List PlS) (M:List Md) (n:Option T) (D:Option Addr) (m d c:Nat):Prop where
  ex:∃ (s base:Nat) (was:Pl→Option T) (K0:KL),s < 2∧EdRow was Wa base (.slice D m d) (edL (plsOf s P M) was)∧(edL (plsOf s P M) was).length = m∧Start k l c0 t (plsOf s P M) n was K0∧c = cstL was (edL (plsOf s P M) was)∧∀ x∈plsOf s P M,NodeO Wa Wa.heap.size k (was x)
  nd:NodeO Wa Wa.heap.size k n
  le:c≤(wantL (plsOf 0 P M)).length
  m5:m≤65536
section
variable {w Wa:World} {B k l:Nat} {c0:List Nat} {t:Tri} {P:List PlS} {M:List Md} {n:Option T} {D fr:Option Addr} {m d c:Nat}
theorem CandS.cost (h:CandS Wa k l c0 t P M n D m d c) {w1:World} (hb:Below Wa.heap.size Wa w1):Calls Tryz.prog 230 #[.agg #[.pointer (rootP n),.slice D m d]] w1 fun e w' => e = .returned (.int .i64 (c:Int))∧Below w1.heap.size w1 w':=by
  obtain ⟨s,base,was,K0,-,hrow,hlen,-,hc,-⟩:=h.ex
  rw [hc]
  exact sCost_c (hrow.below hb (Nat.le_refl _)) hlen h.m5
theorem CandS.node (h:CandS Wa k l c0 t P M n D m d c) (hJ:JnOk w B k l c0 t P M) (hw:Below w.heap.size w Wa) {w1:World} (hb:Below Wa.heap.size Wa w1):Calls Tryz.prog 231 #[.agg #[.pointer (rootP n),.slice D m d]] w1 fun e w' => ∃ R,e = .returned (.pointer (rootP R))∧NodeO w' w'.heap.size k R∧(∀ e,e∈Tr.entsO R↔∃ m∈M,e∈Tr.entsO m.1)∧Below w1.heap.size w1 w':=by
  obtain ⟨s,base,was,K0,hs,hrow,hlen,hst,hc,hwas⟩:=h.ex
  have hb1:=Below.andThen hw hb
  refine (sNode_c hst (h.nd.below hb (Nat.le_refl _) hb.size) (hrow.below hb (Nat.le_refl _)) hlen h.m5 (hJ.map s) (fun x hx => (hJ.node s hs x hx).2.below hb1 (Nat.le_refl _) hb1.size) (fun x hx => (hwas x hx).below hb (Nat.le_refl _) hb.size) (hJ.fits s) (hJ.sum s)).mono ?_
  rintro e w' ⟨R,rfl,h1,h2,h3⟩
  exact ⟨R,rfl,h1,fun e => (h2 e).trans (hJ.outs s e),h3⟩
theorem JnOk.anew (hJ:JnOk w B k l c0 t P M) {base:Nat} (hrow:EdRow (fun _ => none) Wa base (.slice D m d) (edL (plsOf 0 P M) fun _ => none)) (hlen:m = (edL (plsOf 0 P M) fun _ => none).length) (hm:m≤65536):CandS Wa k l c0 t P M none D m d m where
  ex:=⟨0,base,fun _ => none,[],by omega,hrow,hlen.symm,start_none (hJ.map 0),by rw [cstL_none];exact hlen,fun x hx => NodeO.none _ _ _⟩
  nd:=NodeO.none _ _ _
  le:=by rw [hlen,ed_want];exact Nat.le_refl _
  m5:=hm
theorem JnOk.side (hJ:JnOk w B k l c0 t P M) (hw:Below w.heap.size w Wa) {s:Nat} (hs:s < 2) {base c':Nat} (hrow:EdRow (fun x => Tri.at x.t (s + 1)) Wa base (.slice D m d) (edL (plsOf s P M) fun x => Tri.at x.t (s + 1))) (hlen:m = (edL (plsOf s P M) fun x => Tri.at x.t (s + 1)).length) (hm:m≤65536) (hle:c'≤(wantL (plsOf 0 P M)).length) (hc:c = cstL (fun x => Tri.at x.t (s + 1)) (edL (plsOf s P M) fun x => Tri.at x.t (s + 1))) (hlt:c < c'):CandS Wa k l c0 t P M (Tri.at t (s + 1)) D m d c:=by
  have hwt:(wantL (plsOf s P M)).length = (wantL (plsOf 0 P M)).length:=by
    match s,hs with
    | 0,_ => rfl
    | 1,_ => exact want_eq hJ.isSome
  have hcm:=(cstL_bd (fun x => Tri.at x.t (s + 1)) (edL (plsOf s P M) fun x => Tri.at x.t (s + 1))).1
  have hst:=start_side hJ.hf hJ.hs (hJ.map s) (i:=s + 1) (by omega) (by omega)
  refine ⟨⟨s,base,_,_,hs,hrow,hlen.symm,hst,hc,fun x hx => (hJ.node s hs x hx).1.below hw hJ.hB (Nat.le_trans hJ.hB hw.size)⟩,?_,by omega,hm⟩
  match s,hs with
  | 0,_ => exact hJ.nt.a.below hw hJ.hB (Nat.le_trans hJ.hB hw.size)
  | 1,_ => exact hJ.nt.b.below hw hJ.hB (Nat.le_trans hJ.hB hw.size)
end
end Go.Proofs.YtkeepngaaleakaaGreatDoor
