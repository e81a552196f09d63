import Derived.Deep.CutBlock
import Derived.Test.YtkeepngaaleakaaGreatDoorMXc
namespace Go.Proofs.YtkeepngaaleakaaGreatDoor
open Go.ChangeShapes Go.WideShapes Go.ChangeAt Go.RowKit
open Tr (T S4 Ent Tri KL)
abbrev Md:=Option T × Option T
def Md.at (s:Nat) (m:Md):Option T:=if s = 0 then m.1 else m.2
def plsOf (s:Nat):List PlS→List Md→List Pl
  | p :: P,m :: M => ⟨p.1,p.2,Md.at s m⟩ :: plsOf s P M
  | _,_ => []
theorem plsOf_length (s:Nat):∀ (P:List PlS) (M:List Md),P.length = M.length→(plsOf s P M).length = P.length
  | [],[],_ => rfl
  | [],_ :: _,h => by cases h
  | _ :: _,[],h => by cases h
  | p :: P,m :: M,h => by
    simp only [plsOf,List.length_cons] at h ⊢
    rw [plsOf_length s P M (by omega)]
theorem plsOf_get (s:Nat):∀ {P:List PlS} {M:List Md} {i:Nat} {x:PlS} {m:Md},P[i]? = some x→M[i]? = some m→(plsOf s P M)[i]? = some ⟨x.1,x.2,Md.at s m⟩
  | [],_,_,_,_,h,_ => by simp at h
  | _ :: _,[],_,_,_,_,h => by simp at h
  | p :: P,m :: M,0,x,y,h,h' => by
    simp only [List.getElem?_cons_zero,Option.some.injEq] at h h'
    subst h h'
    rfl
  | p :: P,m :: M,i + 1,x,y,h,h' => by
    simp only [List.getElem?_cons_succ] at h h'
    simp only [plsOf,List.getElem?_cons_succ]
    exact plsOf_get s h h'
theorem plsOf_map (s:Nat):∀ (P:List PlS) (M:List Md),P.length = M.length→(plsOf s P M).map (fun x => (x.a,x.t)) = P
  | [],[],_ => rfl
  | [],_ :: _,h => by cases h
  | _ :: _,[],h => by cases h
  | p :: P,m :: M,h => by
    simp only [List.length_cons] at h
    simp only [plsOf,List.map_cons]
    rw [plsOf_map s P M (by omega)]
def MdR (w:World) (B:Nat) (A:Option Addr) (M:List Md):Prop:=M≠[]→∃ b off,A = some ⟨b,off,none⟩∧b < B∧∀ i m,M[i]? = some m→w.cell? ⟨b,off + i * 2,none⟩ = some (.pointer (rootP m.1))∧w.cell? ⟨b,off + i * 2 + 1,none⟩ = some (.pointer (rootP m.2))
theorem MdR.below {w w':World} {B B' C:Nat} {A:Option Addr} {M:List Md} (h:MdR w B A M) (hb:Below C w w') (hC:B≤C) (hB:B≤B'):MdR w' B' A M:=fun hn => by
  obtain ⟨b,off,hA,hbB,hc⟩:=h hn
  exact ⟨b,off,hA,by omega,fun i m hi => ⟨(hb.cell (p:=⟨b,_,none⟩) (by show b < C;omega)).trans (hc i m hi).1,(hb.cell (p:=⟨b,_,none⟩) (by show b < C;omega)).trans (hc i m hi).2⟩⟩
def EdQ (was:Pl→Option T) (f:Nat→Option Value) (x:Pl):Prop:=f 0 = some (.int .i64 (x.a:Int))∧f 1 = some (.pointer (rootP (was x)))∧f 2 = some (.pointer (rootP x.m))
theorem edQ_ok (was:Pl→Option T):QOk 3 (EdQ was) where
  ext:=by
    rintro f g s h ⟨h0,h1,h2⟩
    exact ⟨(h 0 (by omega)).symm.trans h0,(h 1 (by omega)).symm.trans h1,(h 2 (by omega)).symm.trans h2⟩
  has:=by
    rintro f s ⟨h0,h1,h2⟩ j hj
    match j,hj with
    | 0,_ => exact ⟨_,h0,rfl⟩
    | 1,_ => exact ⟨_,h1,rfl⟩
    | 2,_ => exact ⟨_,h2,rfl⟩
def AnyZ (_:Nat) (_:Value):Prop:=True
theorem infoEd:(Tryz.prog.info? 329).map (fun i => (i.zero,i.size,i.bytes)) = some (some pl0S,3,24):=by kernel_rfl
abbrev EdRow (was:Pl→Option T) (w:World) (base:Nat) (v:Value) (L:List Pl):Prop:=RowZ 329 3 (EdQ was) AnyZ w base v L
theorem RowZ.mono {α:Type} {e:TypeId} {n:Nat} {Q:(Nat→Option Value)→α→Prop} {Z:Nat→Value→Prop} {w:World} {base base':Nat} {v:Value} {L:List α} (h:RowZ e n Q Z w base v L) (hb:base'≤base):RowZ e n Q Z w base' v L:=by
  rcases h with h | ⟨g,cap,cur,vs,h1,hg,r⟩
  · exact .inl h
  · exact .inr ⟨g,cap,cur,vs,h1,Nat.le_trans hb hg,r⟩
structure DrJ (w:World) (was:Pl→Option T) (ps:List Pl) (fr:Option Addr) (g j m:Nat) (D2:Option Addr) (d2:Nat) (wr:World):Prop where
  cells:wr.heap[g]? = some (.cells #[.pointer fr,.slice D2 m d2] 294 (0,0))
  len:m = ((ps.take j).filter fun x => !eqP was x).length
  le:m≤j
  row:EdRow was wr (w.heap.size + 2) (.slice D2 m d2) ((ps.take j).filter fun x => !eqP was x)
  bel:Below w.heap.size w wr
theorem DrJ.lt {w:World} {was:Pl→Option T} {ps:List Pl} {fr:Option Addr} {g j m:Nat} {D2:Option Addr} {d2:Nat} {wr:World} (h:DrJ w was ps fr g j m D2 d2 wr):g < wr.heap.size:=(Array.getElem?_eq_some_iff.1 h.cells).1
theorem DrJ.below {w:World} {was:Pl→Option T} {ps:List Pl} {fr:Option Addr} {g j m:Nat} {D2:Option Addr} {d2:Nat} {wr w2:World} (h:DrJ w was ps fr g j m D2 d2 wr) (hb:Below wr.heap.size wr w2) (hft:((ps.take (j + 1)).filter fun x => !eqP was x) = (ps.take j).filter fun x => !eqP was x):DrJ w was ps fr g (j + 1) m D2 d2 w2 :=
  ⟨keepz h.cells hb,by rw [hft];exact h.len,Nat.le_succ_of_le h.le,by rw [hft];exact h.row.below hb (Nat.le_refl _),Below.andThen h.bel hb⟩
theorem DrJ.app {w:World} {was:Pl→Option T} {ps:List Pl} {fr:Option Addr} {j m:Nat} {D2 D5:Option Addr} {d2 d5:Nat} {wr X w5 W6:World} {x:Pl} (h:DrJ w was ps fr (w.heap.size + 1) j m D2 d2 wr) (hbX:Below wr.heap.size wr X) (hgr:X.grownBy w5 (Value.slice D2 m d2).ownBlock) (hown:EdRow was w5 (w.heap.size + 2) (.slice D5 (m + 1) d5) (((ps.take j).filter fun x => !eqP was x) ++ [x]))
    (hft:((ps.take (j + 1)).filter fun x => !eqP was x) = ((ps.take j).filter fun x => !eqP was x) ++ [x]) (hW:W6 = w5.setCell ⟨w.heap.size + 1,1,none⟩ (.slice D5 (m + 1) d5)):DrJ w was ps fr (w.heap.size + 1) (j + 1) (m + 1) D5 d5 W6∧W6.heap[w.heap.size]? = wr.heap[w.heap.size]?:=by
  have hlt:=h.lt
  have hsX:=hbX.size
  have hsw:=h.bel.size
  have hne:∀ b,b < w.heap.size + 2→b < wr.heap.size→w5.heap[b]? = wr.heap[b]?:=fun b hb hb2 => (hgr.block b (by omega) (fun e => by have:=(h.row.lt b e.symm).1;omega)).trans (hbX.block b hb2)
  have hc5:=(hne (w.heap.size + 1) (by omega) hlt).trans h.cells
  have h6:=heap_setCell_same w5 (w.heap.size + 1) 1 _ _ (.slice D5 (m + 1) d5) hc5
  have hfar:∀ b,b≠w.heap.size + 1→W6.heap[b]? = w5.heap[b]?:=fun b hb => by rw [hW];exact Below.heap_setCell w5 ⟨w.heap.size + 1,1,none⟩ _ b hb
  refine ⟨⟨?_,?_,by have:=h.le;omega,?_,?_⟩,(hfar _ (by omega)).trans (hne _ (by omega) (by omega))⟩
  · rw [hW];simpa using h6
  · rw [hft,List.length_append,← h.len];rfl
  · rw [hft]
    exact hown.block fun b hb => hfar b (by have:=(hown.lt b hb).1;omega)
  · have h1:Below w.heap.size w w5:=(Below.andThen h.bel hbX).grown hgr (Below.andThen h.bel hbX).size (fun b hb => by have:=(h.row.lt b hb).1;omega)
    rw [hW]
    exact h1.setCell (p:=⟨w.heap.size + 1,1,none⟩) (Nat.le_succ _) _
theorem dr_cells {W:World} {g:Nat} {fr:Option Addr} {v:Value} (h:W.heap[g]? = some (.cells #[.pointer fr,v] 294 (0,0))):W.cell? ⟨g,0,none⟩ = some (.pointer fr)∧W.cell? ⟨g,1,none⟩ = some v∧∀ i,W.frozen? ⟨g,i,none⟩ = false:=by
  refine ⟨?_,?_,fun i => frozen_of_row W g i _ _ h⟩
  all_goals rw [cell_of_row W _ _ _ _ (0,0) h];rfl
set_option maxRecDepth 1000000 in
set_option maxHeartbeats 8000000 in
theorem sDraft0_c {w:World} {B k l:Nat} {t:Tri} {q base pn mc d:Nat} {D MA:Option Addr} {P:List PlS} {M:List Md} (hq:w.heap[q]? = some (.cells (stS t l (.slice D pn d)) 245 (0,0))) (hv:PsRow w base (.slice D pn d) P) (hpn:P.length = pn) (hl:pn≤65536) (hM:MdR w w.heap.size MA M) (hml:P.length = M.length) (hB:B≤w.heap.size)
    (hN:∀ x∈plsOf 0 P M,NodeO w B k (Tri.at x.t 1)∧NodeO w w.heap.size k x.m) :
    Calls Tryz.prog 228 #[.pointer (some ⟨q,0,none⟩),.int .i64 0,.slice MA pn mc] w fun e w' => ∃ D2 d2 m,e = .returned (.agg #[.pointer (rootP t.a),.slice D2 m d2])∧m = (edL (plsOf 0 P M) fun x => Tri.at x.t 1).length ∧
      EdRow (fun x => Tri.at x.t 1) w' w.heap.size (.slice D2 m d2) (edL (plsOf 0 P M) fun x => Tri.at x.t 1)∧Below w.heap.size w w':=by
  obtain ⟨W0,hW0⟩:∃ W0,W0 = (w.alloc (.cells #[.pointer none,.slice none 0 0] 294)).alloc (.cells #[.pointer (rootP t.a),.slice none 0 0] 294):=⟨_,rfl⟩
  have hb0:Below w.heap.size w W0:=by rw [hW0];exact Below.andThen (below_alloc _ _) (below_alloc _ _)
  have hr0:W0.heap[w.heap.size + 1]? = some (.cells #[.pointer (rootP t.a),.slice none 0 0] 294 (0,0)):=by
    rw [hW0]
    have:=heap_at (w.alloc (.cells #[.pointer none,.slice none 0 0] 294)) (.cells #[.pointer (rootP t.a),.slice none 0 0] 294) _ rfl
    rw [World.size_alloc] at this
    exact this
  have hres:W0.heap[w.heap.size]? = some (.cells #[.pointer none,.slice none 0 0] 294 (0,0)):=by rw [hW0];exact keepz (heap_at w _ _ rfl) (below_alloc _ _)
  obtain ⟨ps,hps⟩:∃ ps,plsOf 0 P M = ps:=⟨_,rfl⟩
  have hpl:ps.length = pn:=by rw [← hps,plsOf_length 0 P M hml,hpn]
  obtain ⟨was,hwas⟩:∃ was:Pl→Option T,was = fun x => Tri.at x.t 1:=⟨_,rfl⟩
  have hN':∀ x∈ps,NodeO w B k (was x)∧NodeO w w.heap.size k x.m:=fun x hx => by rw [hwas];exact hN x (by rw [hps];exact hx)
  -- what a round reads
  have hel:∀ j,j < pn→∃ x,ps[j]? = some x∧∃ g,D = some ⟨g,0,none⟩∧g < w.heap.size∧∃ pa pb,(∀ w2,Below w.heap.size w w2→w2.cell? ⟨g,j * 3,none⟩ = some (.int .i64 (x.a:Int))∧w2.cell? ⟨g,j * 3 + 1,none⟩ = some (.pointer pa)∧w2.cell? ⟨g,j * 3 + 2,none⟩ = some (.pointer pb))∧pa = rootP (was x) ∧
      ∃ mb mo,MA = some ⟨mb,mo,none⟩∧∀ w2,Below w.heap.size w w2→w2.cell? ⟨mb,mo + j * 2,none⟩ = some (.pointer (rootP x.m)):=fun j hj => by
    obtain ⟨x,hx⟩:=get_lt (us:=P) (k:=j) (by omega)
    obtain ⟨m,hm⟩:=get_lt (us:=M) (k:=j) (by omega)
    obtain ⟨g,d',cur,hvv,-,hgl,hh,p0,p1,p2⟩:=RowZ.at psQ_ok hv hx
    simp only [Value.slice.injEq] at hvv
    obtain ⟨mb,mo,hA,hmb,hc⟩:=hM (by intro e;rw [e] at hm;simp at hm)
    have hg:=plsOf_get 0 hx hm
    rw [hps] at hg
    refine ⟨_,hg,g,hvv.1,hgl,rootP x.2.a,rootP x.2.b,fun w2 hb => ?_,by rw [hwas];rfl,mb,mo,hA,fun w2 hb => (hb.cell (p:=⟨mb,_,none⟩) hmb).trans (hc j m hm).1⟩
    have h2:=(hb.block g hgl).trans hh
    exact ⟨by rw [cell_of_row w2 _ _ _ _ (0,0) h2];exact p0,by rw [cell_of_row w2 _ _ _ _ (0,0) h2];exact p1,by rw [cell_of_row w2 _ _ _ _ (0,0) h2];exact p2⟩
  have hcq:=keepz hq hb0
  obtain ⟨k0,-,-,k3,-,-,k6⟩:=stS_cells hcq
  have hk0:∀ ob,(w.alloc ob).cell? ⟨q,0,none⟩ = some (.pointer (rootP t.a)):=fun ob => (stS_cells (heap_past ob hq)).1
  have HX:=Lib.hid (And.intro hN' (And.intro hel (And.intro hB (And.intro hpl hl))))
  have HW:=Lib.hid (And.intro hW0 (And.intro hb0 (And.intro hr0 hres)))
  have hl9:(pn:Int)≤65536:=by omega
  rw [hps]
  rw [show (fun x:Pl => Tri.at x.t 1) = was from hwas.symm]
  clear hq hv hM hB hN hN' hel hb0 hr0 hres hcq hpn hml hps hwas hl hpl hW0
  obtain ⟨fr,hfr⟩:∃ v,rootP t.a = v:=⟨_,rfl⟩
  rw [hfr] at hk0 HW
  rw [hfr]
  clear hfr k0 k3
  go_enter Tryz.func228,Tryz.ntmps228
  go_upto_region 2 with fail
  rw [← HW.out.1]
  go_wp2_with fail
  clear hk0 k6
  go_loopw [23] (fun i wr => ∃ (j m:Nat) (D2:Option Addr) (d2:Nat),j≤pn∧i = .int .i64 (j:Int)∧DrJ w was ps fr (w.heap.size + 1) j m D2 d2 wr∧wr.heap[w.heap.size]? = some (.cells #[.pointer none,.slice none 0 0] 294 (0,0))) (fun i _ => pn - (intOf i).toNat)
  case atStart => exact ⟨0,0,none,0,Nat.zero_le _,rfl,⟨HW.out.2.2.1,rfl,Nat.le_refl _,rowZ_nil _ _ _,HW.out.2.1⟩,HW.out.2.2.2⟩
  case round =>
    obtain ⟨j,m,D2,d2,hj,rfl,hJ,hres⟩:=hrel
    have HJ:=Lib.hid (And.intro hJ hres)
    by_cases hlt:j < pn
    · obtain ⟨x,hx,g,rfl,hgl,pa,pb,hc,hpx,mb,mo,rfl,hcm⟩:=HX.out.2.1 j hlt
      obtain ⟨z0,z1,z2⟩:=hc wr hJ.bel
      obtain ⟨W1,hW1⟩:∃ W1,W1 = wr.alloc (.cells #[.int .i64 (x.a:Int),.pointer pa,.pointer pb] 249):=⟨_,rfl⟩
      have hb1:Below wr.heap.size wr W1:=by rw [hW1];exact below_alloc _ _
      have hx1:W1.heap[wr.heap.size]? = some (.cells #[.int .i64 (x.a:Int),.pointer pa,.pointer pb] 249 (0,0)):=by rw [hW1];exact heap_at wr _ _ rfl
      have hbw1:=Below.andThen hJ.bel hb1
      obtain ⟨xm,hxm⟩:∃ v,rootP x.m = v:=⟨_,rfl⟩
      obtain ⟨xa,hxa⟩:∃ v,x.a = v:=⟨_,rfl⟩
      obtain ⟨r,hr⟩:∃ r,eqP was x = r:=⟨_,rfl⟩
      have hNx:=HX.out.1 x (List.mem_of_getElem? hx)
      have hnq:∀ n,(binOp .neq 81 (.pointer pa) (.pointer xm)).run Tryz.prog (W1.drewN n) = .ok (.bool (!r)) (W1.drewN n):=fun n => by
        have hbn:=below_drewN n hbw1
        have hh:=neq_of_eql (nodeP_dec (hNx.1.below hbn HX.out.2.2.1 (Nat.le_refl _)) (hNx.2.below hbn (Nat.le_refl _) (Nat.le_refl _)))
        rw [← hpx,hxm] at hh
        have e:decide (pa = xm) = r:=by rw [← hr];unfold eqP;rw [← hpx,hxm]
        rw [e] at hh
        exact hh
      have hnq0:(binOp .neq 81 (.pointer pa) (.pointer xm)).run Tryz.prog W1 = .ok (.bool (!r)) W1:=hnq 0
      have cm:∀ w2,Below W1.heap.size W1 w2→w2.cell? ⟨mb,mo + j * 2,none⟩ = some (.pointer xm):=fun w2 hb => by rw [← hxm];exact hcm w2 (Below.andThen hbw1 hb)
      have hft:=filter_take (fun y => !eqP was y) hx
      simp only [hr] at hft
      rw [hxa] at z0 hW1 hx1
      have hqx:EdQ was (fun i => [Value.int .i64 (xa:Int),.pointer pa,.pointer xm][i]?) x:=⟨by rw [← hxa];rfl,by rw [← hpx];rfl,by rw [← hxm];rfl⟩
      have HE:=Lib.hid (And.intro hft (And.intro hqx (And.intro hb1 (And.intro hbw1 (And.intro hlt hW1)))))
      have hd1:=keepz hJ.cells hb1
      have m1:(0:Int)≤(j:Int):=by omega
      have m2:(j:Int) < (pn:Int):=by omega
      have m3:(j:Int)≤65536:=by omega
      have f1:decide ((j:Int) < (pn:Int)) = true:=decide_eq_true (by omega)
      have f1':decide (j < pn) = true:=decide_eq_true hlt
      clear hc hpx hcm hNx hft hqx hb1 hbw1 hx hr hxm hxa hJ hres hj hW1
      go_upto_block 1 with fail
      go_cut [8,9] from 25 to 56 (fun _ _ wx => ∃ m' D' d',DrJ w was ps fr (w.heap.size + 1) (j + 1) m' D' d' wx∧wx.heap[w.heap.size]? = some (.cells #[.pointer none,.slice none 0 0] 294 (0,0)))
      case first =>
        go_upto_region 5 with fail
        rw [← HE.out.2.2.2.2.2]
        clear z0 z1 z2
        have x0:W1.cell? ⟨wr.heap.size,0,none⟩ = some (.int .i64 (xa:Int)):=by rw [cell_of_row W1 _ _ _ _ (0,0) hx1];rfl
        have x1:W1.cell? ⟨wr.heap.size,1,none⟩ = some (.pointer pa):=by rw [cell_of_row W1 _ _ _ _ (0,0) hx1];rfl
        have x2:W1.cell? ⟨wr.heap.size,2,none⟩ = some (.pointer pb):=by rw [cell_of_row W1 _ _ _ _ (0,0) hx1];rfl
        have c0:=cm W1 (Below.refl _ _)
        have HCM:=Lib.hid cm
        clear cm
        go_quiet (fail)
        cases r with
        | true =>
          have HB2:=Lib.hid (Below.andThen HE.out.2.2.1 (below_drewN nq (Below.refl W1.heap.size W1)))
          clear hnq hnq0 hx1 hd1 x0 x1 x2 c0 HCM
          have e:=HE.out.1
          simp only [Bool.not_true,Bool.false_eq_true,if_false,List.append_nil] at e
          have HF:=Lib.hid (And.intro (HJ.out.1.below HB2.out e) (keepz HJ.out.2 HB2.out))
          clear e
          go_wp2_with fail
          go_meet
          case rel => exact ⟨m,D2,d2,HF.out.1,HF.out.2⟩
        | false =>
          obtain ⟨W2,hW2⟩:∃ W2,W2 = W1.drewN nq:=⟨_,rfl⟩
          have hb2:Below W1.heap.size W1 W2:=by rw [hW2];exact below_drewN nq (Below.refl _ _)
          rw [← hW2]
          have hx2:=keepz hx1 hb2
          have hd2:=keepz hd1 hb2
          have hlt2:w.heap.size + 1 < W2.heap.size:=(Array.getElem?_eq_some_iff.1 hd2).1
          have HB2:=Lib.hid (And.intro (Below.andThen HE.out.2.2.1 hb2) (And.intro (Below.andThen HE.out.2.2.2.1 hb2) (And.intro hd2 hlt2)))
          have y0:W2.cell? ⟨wr.heap.size,0,none⟩ = some (.int .i64 (xa:Int)):=by rw [cell_of_row W2 _ _ _ _ (0,0) hx2];rfl
          have y1:W2.cell? ⟨wr.heap.size,1,none⟩ = some (.pointer pa):=by rw [cell_of_row W2 _ _ _ _ (0,0) hx2];rfl
          have y2:W2.cell? ⟨wr.heap.size,2,none⟩ = some (.pointer pb):=by rw [cell_of_row W2 _ _ _ _ (0,0) hx2];rfl
          have y3:=HCM.out W2 hb2
          have y4:=(dr_cells hd2).2.1
          have e0:∀ ob,(W2.alloc ob).cell? ⟨wr.heap.size,0,none⟩ = some (.int .i64 (xa:Int)):=fun ob => by rw [cell_of_row _ _ _ _ _ (0,0) (heap_past ob hx2)];rfl
          have e4:∀ ob,(W2.alloc ob).cell? ⟨w.heap.size + 1,1,none⟩ = some (.slice D2 m d2):=fun ob => (dr_cells (heap_past ob hd2)).2.1
          have hm9:m≤65536:=by have:=HJ.out.1.le;have:=HE.out.2.2.2.2.1;have:=HX.out.2.2.2.2;omega
          have HM9:=Lib.hid hm9
          have h22:=Below.refl W2.heap.size W2
          clear hnq hnq0 hx1 hd1 x0 x1 x2 c0 HCM hW2 hb2 hx2 hd2 hm9 hlt2
          go_upto_region 6 with fail
          go_region_law ((refine step_append_rowZ (Q:=EdQ was) (Z:=AnyZ) 292 329 pl0S 24 Tryz.underlying292 infoEd (by rfl) (by omega) (by omega) (edQ_ok was) (fun _ _ _ => True.intro) (by rfl) _ _ (by rfl) (w.heap.size + 2) (.slice D2 m d2) ((ps.take j).filter fun x => !eqP was x) (m + 1) (by rw [← HJ.out.1.len]) (by rfl) (RowZ.below (C:=wr.heap.size) HJ.out.1.row (show Below wr.heap.size wr _ from Below.andThen HB2.out.1 (show Below W2.heap.size W2 _ by ((repeat first | refine bD ?_ | with_reducible refine bN ?_ | refine bA ?_ | refine bS ?_);first | exact bR | assumption | exact bN bR | exact bN (bN bR)))) (Nat.le_refl _)) x [.int .i64 (xa:Int),.pointer pa,.pointer xm] (by rfl) HE.out.2.1 ⟨W2.heap.size,0,none⟩ 1 (by rfl) (by exact news_at _ _ _) (by rw [← HJ.out.1.len];have:=HM9.out;omega) (by have:=HB2.out.2.2.2;simp;omega) ?_;intro D5 d5 w5 hown5 hgrow5 hat5 hch5;have hne5:=(hgrow5.block (w.heap.size + 1) (by have:=HB2.out.2.2.2;simp;omega) (fun e => by have:=(HJ.out.1.row.lt _ e.symm).1;omega)).trans (((show Below W2.heap.size W2 _ by ((repeat first | refine bD ?_ | with_reducible refine bN ?_ | refine bA ?_ | refine bS ?_);first | exact bR | assumption | exact bN bR | exact bN (bN bR))).block (w.heap.size + 1) HB2.out.2.2.2).trans HB2.out.2.2.1);have c5:=(dr_cells hne5).2.1;have f5:=(dr_cells hne5).2.2 1;have HG:=Lib.hid (And.intro hown5 hgrow5);clear hown5 hgrow5 hat5 hch5 hne5))
          all_goals (
            have hft:=HE.out.1
            simp only [Bool.not_false,if_true] at hft
            have HF:=Lib.hid (HJ.out.1.app (X:=_) (Below.andThen HB2.out.1 (show Below W2.heap.size W2 _ by ((repeat first | refine bD ?_ | with_reducible refine bN ?_ | refine bA ?_ | refine bS ?_);first | exact bR | assumption | exact bN bR | exact bN (bN bR)))) HG.out.2 HG.out.1 hft rfl)
            clear hft c5 f5 y0 y1 y2 y3 y4 e0 e4
            go_wp2_with fail
            go_meet
            exact ⟨m + 1,D5,d5,HF.out.1,HF.out.2.trans HJ.out.2⟩)
      case rest =>
      obtain ⟨m',D',d',hJ2,hres2⟩:=hcut
      have HF:=Lib.hid (And.intro hJ2 hres2)
      clear hJ2 hres2 hnq hnq0 hx1 hd1 cm
      go_wp2_with fail
      go_roundw
      case rel => exact ⟨j + 1,m',D',d',HE.out.2.2.2.2.1,by first | rfl | go_num,HF.out.1,HF.out.2⟩
      case measure =>
        have:=HE.out.2.2.2.2.1
        show pn - ((j:Int) + 1).toNat < pn - (j:Int).toNat
        omega
    · have hjp:j = pn:=by omega
      subst hjp
      have f1:decide ((j:Int) < (j:Int)) = false:=decide_eq_false (by omega)
      have f1':decide (j < j) = false:=decide_eq_false (by omega)
      have htk:ps.take j = ps:=by rw [← HX.out.2.2.2.1];exact List.take_length
      obtain ⟨y0,y1,-⟩:=dr_cells hJ.cells
      obtain ⟨z0,z1,zf⟩:=dr_cells hres
      have r1:=heap_setCell_same wr w.heap.size 0 _ _ (.pointer fr) hres
      have r2:=heap_setCell_same _ w.heap.size 1 _ _ (.slice D2 m d2) r1
      have hr2:((wr.setCell ⟨w.heap.size,0,none⟩ (.pointer fr)).setCell ⟨w.heap.size,1,none⟩ (.slice D2 m d2)).heap[w.heap.size]? = some (.cells #[.pointer fr,.slice D2 m d2] 294 (0,0)):=by simpa using r2
      obtain ⟨t0,t1,-⟩:=dr_cells hr2
      clear hres hJ hlt hj r1 r2 hr2
      go_wp2_with fail
      refine bodyPost_ret (v:=.agg #[.pointer fr,.slice D2 m d2]) (by simp [results,Tryz.results228,go_sem,t0,t1]) rfl ?_
      have hJ:=HJ.out.1
      have hlen:=hJ.len
      have hrow:=hJ.row
      rw [htk] at hlen hrow
      refine ⟨D2,d2,m,rfl,hlen,?_,(hJ.bel.setCell (p:=⟨w.heap.size,0,none⟩) (Nat.le_refl _) _).setCell (p:=⟨w.heap.size,1,none⟩) (Nat.le_refl _) _⟩
      refine RowZ.mono (hrow.block fun b hb => ?_) (Nat.le_add_right _ 2)
      have:=(hrow.lt b hb).1
      rw [Below.heap_setCell _ ⟨w.heap.size,1,none⟩ _ b (by show b≠w.heap.size;omega),Below.heap_setCell _ ⟨w.heap.size,0,none⟩ _ b (by show b≠w.heap.size;omega)]
end Go.Proofs.YtkeepngaaleakaaGreatDoor
