import Derived.Test.YtkeepngaaleakaaGreatDoorMXh
namespace Go.Proofs.YtkeepngaaleakaaGreatDoor
open Go.ChangeShapes Go.WideShapes Go.ChangeAt Go.RowKit
open Tr (T S4 Ent Tri KL)
theorem pr_cells {W:World} {g:Nat} {a b:Value} {ty:TypeId} (h:W.heap[g]? = some (.cells #[a,b] ty (0,0))):W.cell? ⟨g,0,none⟩ = some a∧W.cell? ⟨g,1,none⟩ = some b∧∀ i,W.frozen? ⟨g,i,none⟩ = false:=by
  refine ⟨?_,?_,fun i => frozen_of_row W g i _ _ h⟩
  all_goals rw [cell_of_row W _ _ _ _ (0,0) h];rfl
theorem set2 {W:World} {g:Nat} {a b:Value} {ty:TypeId} (x y:Value) (h:W.heap[g]? = some (.cells #[a,b] ty (0,0))):((W.setCell ⟨g,0,none⟩ x).setCell ⟨g,1,none⟩ y).heap[g]? = some (.cells #[x,y] ty (0,0)):=by
  have r1:=heap_setCell_same W g 0 _ _ x h
  have r2:=heap_setCell_same _ g 1 _ _ y r1
  simpa using r2
theorem pair_keeps {k:Nat} {W:World} {g:Nat} {a b:Option Addr} {ty:TypeId} (h:W.heap[g]? = some (.cells #[.pointer a,.pointer b] ty (0,0))) (hne:ty≠81) (x y:Option Addr):Kp k W ((W.setCell ⟨g,0,none⟩ (.pointer x)).setCell ⟨g,1,none⟩ (.pointer y)):=by
  have noU:∀ {W:World} {a b:Option Addr},W.heap[g]? = some (.cells #[.pointer a,.pointer b] ty (0,0))→NoU W g:=fun {W a b} h i u hu => by
    rw [cell_of_row W _ _ _ _ (0,0) h] at hu
    have hi:i < 2:=(Array.getElem?_eq_some_iff.1 hu).1
    match i,hi with
    | 0,_ => have e:some (Value.pointer a) = some u:=hu;cases e;exact nu_ptr _
    | 1,_ => have e:some (Value.pointer b) = some u:=hu;cases e;exact nu_ptr _
  have r1:=heap_setCell_same W g 0 _ _ (.pointer x) h
  have r1':(W.setCell ⟨g,0,none⟩ (.pointer x)).heap[g]? = some (.cells #[.pointer x,.pointer b] ty (0,0)):=by simpa using r1
  refine Kp.trans (kp_cell h hne (noU h) _) (kp_cell r1' hne (noU r1') _) (by simp)
def JoinE (k:Nat) (M:List Md) (w:World) (e:Ending) (w':World):Prop :=
  ∃ x y:Option T,e = .returned (p2V (rootP x) (rootP y))∧NodeO w' w'.heap.size k x∧NodeO w' w'.heap.size k y∧(∀ e,e∈Tr.entsO x↔∃ m∈M,e∈Tr.entsO m.1)∧(∀ e,e∈Tr.entsO y↔∃ m∈M,e∈Tr.entsO m.1)∧Below w.heap.size w w'
set_option maxRecDepth 1000000 in
set_option maxHeartbeats 8000000 in
theorem sJoin_c {w:World} {B k l q base pn mc d:Nat} {c0:List Nat} {D MA:Option Addr} {t:Tri} {P:List PlS} {M:List Md} (hJ:JnOk w B k l c0 t P M) (hq:w.heap[q]? = some (.cells (stS t l (.slice D pn d)) 245 (0,0))) (hv:PsRow w base (.slice D pn d) P) (hpn:P.length = pn) (hl:pn≤65536) (hM:MdR w w.heap.size MA M) :
    Calls Tryz.prog 180 #[.pointer (some ⟨q,0,none⟩),.slice MA pn mc] w fun e w' => JoinE k M w e w':=by
  obtain ⟨W0,hW0⟩:∃ W0,W0 = w.alloc (.cells #[.pointer none,.pointer none] 97):=⟨_,rfl⟩
  have hb0:Below w.heap.size w W0:=by rw [hW0];exact below_alloc _ _
  have hr0:W0.heap[w.heap.size]? = some (.cells #[.pointer none,.pointer none] 97 (0,0)):=by rw [hW0];exact heap_at w _ _ rfl
  have HD0:=Lib.hid fun (w1:World) (hb:Below w.heap.size w w1) => sDraft0_c (mc:=mc) (k:=k) (B:=B) (keepz hq hb) (hv.below hb (Nat.le_refl _)) hpn hl (hM.below hb (Nat.le_refl _) hb.size) hJ.hml (Nat.le_trans hJ.hB hb.size) (fun x hx => ⟨(hJ.node 0 (by omega) x hx).1.below hb hJ.hB (Nat.le_refl _),(hJ.node 0 (by omega) x hx).2.below hb (Nat.le_refl _) hb.size⟩)
  have HD1:=Lib.hid fun (w1:World) (hb:Below w.heap.size w w1) => sDraft1_c (mc:=mc) (k:=k) (B:=B) (keepz hq hb) (hv.below hb (Nat.le_refl _)) hpn hl (hM.below hb (Nat.le_refl _) hb.size) hJ.hml (Nat.le_trans hJ.hB hb.size) (fun x hx => ⟨(hJ.node 1 (by omega) x hx).1.below hb hJ.hB (Nat.le_refl _),(hJ.node 1 (by omega) x hx).2.below hb (Nat.le_refl _) hb.size⟩)
  have HAn:=Lib.hid fun (w1:World) (hb:Below w.heap.size w w1) => sAnew_c (mc:=mc) (keepz hq hb) (hv.below hb (Nat.le_refl _)) hpn hl (hM.below hb (Nat.le_refl _) hb.size) hJ.hml
  have hlA:(edL (plsOf 0 P M) fun x => Tri.at x.t (0 + 1)).length≤65536:=by
    have h1:(edL (plsOf 0 P M) fun x => Tri.at x.t (0 + 1)).length≤(plsOf 0 P M).length:=List.length_filter_le _ _
    rw [plsOf_length 0 P M hJ.hml] at h1
    omega
  have hlB:(edL (plsOf 1 P M) fun x => Tri.at x.t (1 + 1)).length≤65536:=by
    have h1:(edL (plsOf 1 P M) fun x => Tri.at x.t (1 + 1)).length≤(plsOf 1 P M).length:=List.length_filter_le _ _
    rw [plsOf_length 1 P M hJ.hml] at h1
    omega
  have hlN:(edL (plsOf 0 P M) fun _ => none).length≤65536:=by
    have h1:(edL (plsOf 0 P M) fun _ => none).length≤(plsOf 0 P M).length:=List.length_filter_le _ _
    rw [plsOf_length 0 P M hJ.hml] at h1
    omega
  have HX:=Lib.hid (And.intro hJ (And.intro hlA (And.intro hlB hlN)))
  have HW:=Lib.hid (And.intro hW0 (And.intro hb0 hr0))
  clear hJ hq hv hpn hl hM hlA hlB hlN hW0 hb0 hr0
  obtain ⟨pa,hpa⟩:∃ v,rootP t.a = v:=⟨_,rfl⟩
  obtain ⟨pb,hpb⟩:∃ v,rootP t.b = v:=⟨_,rfl⟩
  rw [hpa] at HD0
  rw [hpb] at HD1
  have HP:=Lib.hid (And.intro hpa hpb)
  clear hpa hpb
  have HK:=Lib.hid fun (w1:World) (a b:Option Addr) (f g:Bool) => sKeptP_c a b f g w1
  have HTw:=Lib.hid fun (w1:World) (c:Option Addr) => sTwice_c c w1
  go_enter Tryz.func180,Tryz.ntmps180
  go_upto_region 1 with fail
  rw [← HW.out.1]
  go_wp2_with fail
  refine (HD0.out _ HW.out.2.1).mono ?_
  rintro e w1 ⟨DA,dA,mA,rfl,hmA,hrA,hb1⟩
  clear HD0
  have HB1:=Lib.hid (And.intro hb1 (Below.andThen HW.out.2.1 hb1))
  have HR1:=Lib.hid (And.intro hmA hrA)
  clear hb1 hmA hrA
  go_wp2_with fail
  refine (HD1.out _ HB1.out.2).mono ?_
  rintro e w2 ⟨DB,dB,mB,rfl,hmB,hrB,hb2⟩
  clear HD1
  have HB2:=Lib.hid (And.intro (Below.andThen HB1.out.1 hb2) (Below.andThen HB1.out.2 hb2))
  have HR:=Lib.hid (And.intro HR1.out.1 (And.intro (RowZ.below (C:=w1.heap.size) HR1.out.2 hb2 (Nat.le_refl _)) (And.intro hmB hrB)))
  clear hb2 HR1 hmB hrB
  obtain ⟨f,hf⟩:∃ f,((mA:Int) == 0) = f:=⟨_,rfl⟩
  obtain ⟨g,hg⟩:∃ g,((mB:Int) == 0) = g:=⟨_,rfl⟩
  go_upto_region 2 with fail
  obtain ⟨W3,hW3⟩:∃ W3,W3 = w2.alloc (.cells #[.pointer pa,.slice DA mA dA,.pointer pb,.slice DB mB dB] 296):=⟨_,rfl⟩
  have hb3:Below w2.heap.size w2 W3:=by rw [hW3];exact below_alloc _ _
  have hd3:W3.heap[w2.heap.size]? = some (.cells #[.pointer pa,.slice DA mA dA,.pointer pb,.slice DB mB dB] 296 (0,0)):=by rw [hW3];exact heap_at w2 _ _ rfl
  rw [← hW3]
  obtain ⟨gd,hgd⟩:∃ gd,w2.heap.size = gd:=⟨_,rfl⟩
  rw [hgd] at hd3
  rw [hgd]
  have hr3:=keepz (keepz HW.out.2.2 HB2.out.1) hb3
  have HB3:=Lib.hid (And.intro hb3 (And.intro (Below.andThen HB2.out.2 hb3) (And.intro hd3 hr3)))
  have d0:W3.cell? ⟨gd,0,none⟩ = some (.pointer pa):=by rw [cell_of_row W3 _ _ _ _ (0,0) hd3];rfl
  have d1:W3.cell? ⟨gd,1,none⟩ = some (.slice DA mA dA):=by rw [cell_of_row W3 _ _ _ _ (0,0) hd3];rfl
  have d2:W3.cell? ⟨gd,2,none⟩ = some (.pointer pb):=by rw [cell_of_row W3 _ _ _ _ (0,0) hd3];rfl
  have d3:W3.cell? ⟨gd,3,none⟩ = some (.slice DB mB dB):=by rw [cell_of_row W3 _ _ _ _ (0,0) hd3];rfl
  have e0:∀ ob,(W3.alloc ob).cell? ⟨gd,0,none⟩ = some (.pointer pa):=fun ob => by rw [cell_of_row _ _ _ _ _ (0,0) (heap_past ob hd3)];rfl
  have e2:∀ ob,(W3.alloc ob).cell? ⟨gd,2,none⟩ = some (.pointer pb):=fun ob => by rw [cell_of_row _ _ _ _ _ (0,0) (heap_past ob hd3)];rfl
  clear hW3 hb3 hd3 hr3 hgd
  have HF:=Lib.hid (And.intro hf hg)
  go_upto_region 4 with ((with_reducible refine (HK.out _ _ _ _ _).mono ?_);rintro e w4 ⟨rfl,hb4⟩)
  clear d0 d1 d2 d3 e0 e2 hf hg
  have hbk:Below W3.heap.size W3 w4:=Below.andThen (below_alloc W3 _) hb4
  have hr4:=keepz HB3.out.2.2.2 hbk
  obtain ⟨z0,z1,zf⟩:=pr_cells hr4
  have y0:∀ ob,(w4.alloc ob).cell? ⟨w.heap.size,0,none⟩ = some (.pointer none):=fun ob => (pr_cells (heap_past ob hr4)).1
  have y1:∀ ob,(w4.alloc ob).cell? ⟨w.heap.size,1,none⟩ = some (.pointer none):=fun ob => (pr_cells (heap_past ob hr4)).2.1
  have yf:∀ ob i,(w4.alloc ob).frozen? ⟨w.heap.size,i,none⟩ = false:=fun ob => (pr_cells (heap_past ob hr4)).2.2
  have HB4:=Lib.hid (And.intro (Below.andThen HB3.out.2.1 hbk) (And.intro (keepz HB3.out.2.2.1 hbk) (And.intro hr4 (Below.andThen HB3.out.1 hbk))))
  have hJ:=HX.out.1
  have hEA:mA = 0→∀ e,e∈Tr.entsO t.a↔∃ m∈M,e∈Tr.entsO m.1:=fun h0 e => hJ.done 0 (by omega) (List.eq_nil_of_length_eq_zero (by rw [← HR.out.1];exact h0)) e
  have hEB:mB = 0→∀ e,e∈Tr.entsO t.b↔∃ m∈M,e∈Tr.entsO m.1:=fun h0 e => hJ.done 1 (by omega) (List.eq_nil_of_length_eq_zero (by rw [← HR.out.2.2.1];exact h0)) e
  have HE:=Lib.hid (And.intro hEA hEB)
  clear hbk hb4 hr4 hJ hEA hEB
  cases f with
  | true =>
    cases g with
    | true =>
      rw [show keptP pa pb true true = (pa,pb) from rfl,show (true || true) = true from rfl]
      have r2:=set2 (.pointer pa) (.pointer pb) (heap_past (.cells #[.pointer pa,.pointer pb] 97) HB4.out.2.2.1)
      obtain ⟨t0,t1,-⟩:=pr_cells r2
      have hb9:Below w.heap.size w (((w4.alloc (.cells #[.pointer pa,.pointer pb] 97)).setCell ⟨w.heap.size,0,none⟩ (.pointer pa)).setCell ⟨w.heap.size,1,none⟩ (.pointer pb)):=((Below.andThen HB4.out.1 (below_alloc w4 _)).setCell (p:=⟨w.heap.size,0,none⟩) (Nat.le_refl _) _).setCell (p:=⟨w.heap.size,1,none⟩) (Nat.le_refl _) _
      have H9:=Lib.hid hb9
      clear r2 hb9
      go_wp2_with fail
      refine bodyPost_ret (v:=p2V pa pb) (by simp [results,Tryz.results180,go_sem,t0,t1]) rfl ?_
      have hz:mA = 0:=by have h9:=HF.out.1;rw [beq_iff_eq] at h9;omega
      have hz2:mB = 0:=by have h9:=HF.out.2;rw [beq_iff_eq] at h9;omega
      have hnt:=HX.out.1.nt.below H9.out HX.out.1.hB (Nat.le_trans HX.out.1.hB H9.out.size)
      exact ⟨t.a,t.b,by rw [HP.out.1,HP.out.2],hnt.a,hnt.b,HE.out.1 hz,HE.out.2 hz2,H9.out⟩
    | false =>
      rw [show keptP pa pb true false = (pa,pa) from rfl,show (true || false) = true from rfl]
      have r2:=set2 (.pointer pa) (.pointer pa) (heap_past (.cells #[.pointer pa,.pointer pa] 97) HB4.out.2.2.1)
      obtain ⟨t0,t1,-⟩:=pr_cells r2
      have hb9:Below w.heap.size w (((w4.alloc (.cells #[.pointer pa,.pointer pa] 97)).setCell ⟨w.heap.size,0,none⟩ (.pointer pa)).setCell ⟨w.heap.size,1,none⟩ (.pointer pa)):=((Below.andThen HB4.out.1 (below_alloc w4 _)).setCell (p:=⟨w.heap.size,0,none⟩) (Nat.le_refl _) _).setCell (p:=⟨w.heap.size,1,none⟩) (Nat.le_refl _) _
      have H9:=Lib.hid hb9
      clear r2 hb9
      go_wp2_with fail
      refine bodyPost_ret (v:=p2V pa pa) (by simp [results,Tryz.results180,go_sem,t0,t1]) rfl ?_
      have hz:mA = 0:=by have h9:=HF.out.1;rw [beq_iff_eq] at h9;omega
      have hz2:mA = 0:=by have h9:=HF.out.1;rw [beq_iff_eq] at h9;omega
      have hnt:=HX.out.1.nt.below H9.out HX.out.1.hB (Nat.le_trans HX.out.1.hB H9.out.size)
      exact ⟨t.a,t.a,by rw [HP.out.1],hnt.a,hnt.a,HE.out.1 hz,HE.out.1 hz2,H9.out⟩
  | false =>
    cases g with
    | true =>
      rw [show keptP pa pb false true = (pb,pb) from rfl,show (false || true) = true from rfl]
      have r2:=set2 (.pointer pb) (.pointer pb) (heap_past (.cells #[.pointer pb,.pointer pb] 97) HB4.out.2.2.1)
      obtain ⟨t0,t1,-⟩:=pr_cells r2
      have hb9:Below w.heap.size w (((w4.alloc (.cells #[.pointer pb,.pointer pb] 97)).setCell ⟨w.heap.size,0,none⟩ (.pointer pb)).setCell ⟨w.heap.size,1,none⟩ (.pointer pb)):=((Below.andThen HB4.out.1 (below_alloc w4 _)).setCell (p:=⟨w.heap.size,0,none⟩) (Nat.le_refl _) _).setCell (p:=⟨w.heap.size,1,none⟩) (Nat.le_refl _) _
      have H9:=Lib.hid hb9
      clear r2 hb9
      go_wp2_with fail
      refine bodyPost_ret (v:=p2V pb pb) (by simp [results,Tryz.results180,go_sem,t0,t1]) rfl ?_
      have hz:mB = 0:=by have h9:=HF.out.2;rw [beq_iff_eq] at h9;omega
      have hz2:mB = 0:=by have h9:=HF.out.2;rw [beq_iff_eq] at h9;omega
      have hnt:=HX.out.1.nt.below H9.out HX.out.1.hB (Nat.le_trans HX.out.1.hB H9.out.size)
      exact ⟨t.b,t.b,by rw [HP.out.2],hnt.b,hnt.b,HE.out.2 hz,HE.out.2 hz2,H9.out⟩
    | false =>
      rw [show keptP pa pb false false = (none,none) from rfl,show (false || false) = false from rfl]
      clear HK
      obtain ⟨W5,hW5⟩:∃ W5,W5 = w4.alloc (.cells #[.pointer none,.pointer none] 97):=⟨_,rfl⟩
      have hb5:Below w4.heap.size w4 W5:=by rw [hW5];exact below_alloc _ _
      have HB5:=Lib.hid (And.intro hb5 (Below.andThen HB4.out.1 hb5))
      have hAn:=HAn.out W5 HB5.out.2
      rw [hW5] at hAn
      have HAn5:=Lib.hid hAn
      clear hb5 hW5 hAn HAn
      go_upto_region 7 with ((with_reducible refine HAn5.out.mono ?_);rintro e w6 ⟨DN,dN,mN,rfl,hmN,hrN,hb6⟩;have HN6:=Lib.hid (And.intro hmN (And.intro hrN hb6));clear hmN hrN hb6 HAn5)
      have hb46:Below w4.heap.size w4 w6:=Below.andThen (below_alloc w4 _) HN6.out.2.2
      have hc0:CandS w6 k l c0 t P M none DN mN dN mN:=HX.out.1.anew HN6.out.2.1 HN6.out.1 (by rw [HN6.out.1];exact HX.out.2.2.2)
      have hd6:=keepz HB4.out.2.1 hb46
      have hd7:=heap_past (.cells #[.pointer none,.slice DN mN dN] 294) hd6
      have d0:(w6.alloc (.cells #[.pointer none,.slice DN mN dN] 294)).cell? ⟨gd,0,none⟩ = some (.pointer pa):=by rw [cell_of_row _ _ _ _ _ (0,0) hd7];rfl
      have d1:(w6.alloc (.cells #[.pointer none,.slice DN mN dN] 294)).cell? ⟨gd,1,none⟩ = some (.slice DA mA dA):=by rw [cell_of_row _ _ _ _ _ (0,0) hd7];rfl
      have d2:(w6.alloc (.cells #[.pointer none,.slice DN mN dN] 294)).cell? ⟨gd,2,none⟩ = some (.pointer pb):=by rw [cell_of_row _ _ _ _ _ (0,0) hd7];rfl
      have d3:(w6.alloc (.cells #[.pointer none,.slice DN mN dN] 294)).cell? ⟨gd,3,none⟩ = some (.slice DB mB dB):=by rw [cell_of_row _ _ _ _ _ (0,0) hd7];rfl
      have hb26:=Below.andThen HB4.out.2.2.2 hb46
      have H6:=Lib.hid (And.intro (Below.andThen HB4.out.1 hb46) (And.intro (keepz HB4.out.2.2.1 hb46) (And.intro hc0 (And.intro (RowZ.below (C:=w2.heap.size) HR.out.2.1 hb26 (Nat.le_refl _)) (RowZ.below (C:=w2.heap.size) HR.out.2.2.2 hb26 (Nat.le_refl _))))))
      have H7:=Lib.hid (And.intro (below_alloc w6 (.cells #[.pointer none,.slice DN mN dN] 294)) (heap_at w6 (.cells #[.pointer none,.slice DN mN dN] 294) _ rfl))
      have HMM:=Lib.hid (And.intro HR.out.1 HR.out.2.2.1)
      clear hb46 hc0 hd6 hd7 hb26 z0 z1 zf y0 y1 yf HE HF HN6 HR
      go_wp2_with fail
      clear d0 d1 d2 d3
      obtain ⟨gb,hgb⟩:∃ gb,w6.heap.size = gb:=⟨_,rfl⟩
      have HGB:=Lib.hid hgb
      rw [hgb] at H7
      rw [hgb]
      clear hgb
      go_loopw [48] (fun i wr => ∃ (j:Nat) (n:Option T) (D2:Option Addr) (m d2 c:Nat),j≤2∧i = .int .i64 (j:Int)∧wr.heap[gb]? = some (.cells #[.pointer (rootP n),.slice D2 m d2] 294 (0,0))∧CandS w6 k l c0 t P M n D2 m d2 c∧Below gb w6 wr) (fun i _ => 2 - (intOf i).toNat)
      case atStart => exact ⟨0,none,DN,mN,dN,mN,by omega,rfl,H7.out.2,H6.out.2.2.1,H7.out.1⟩
      case round =>
        clear H7
        obtain ⟨j,n,D2,m,d2,c,hj,rfl,hcb,hcd,hbr⟩:=hrel
        have hbr6:Below w6.heap.size w6 wr:=by rw [HGB.out];exact hbr
        have HCo:=Lib.hid fun (w9:World) (hb:Below wr.heap.size wr w9) => hcd.cost (Below.andThen hbr6 hb)
        have HNo:=Lib.hid (hcd.node HX.out.1 H6.out.1 hbr6)
        have HC:=Lib.hid (And.intro hcd (And.intro hbr hbr6))
        obtain ⟨pn,hpn⟩:∃ v,rootP n = v:=⟨_,rfl⟩
        rw [hpn] at hcb HCo HNo
        have HPn:=Lib.hid hpn
        have hmc:(c:Int)≤196608:=by
          have h1:=hcd.le
          have h2:(wantL (plsOf 0 P M)).length≤(edL (plsOf 0 P M) fun _ => none).length:=by rw [ed_want];exact Nat.le_refl _
          have h3:=HX.out.2.2.2
          omega
        clear hcd hbr hbr6 hpn
        rcases (show j = 0∨j = 1∨j = 2 by omega) with rfl | rfl | rfl
        · have i0:∀ w:World,(Instr.index 296 (.agg #[.pointer pa,.slice DA mA dA,.pointer pb,.slice DB mB dB]) (.int .i64 0)).run Tryz.prog w = .ok (.agg #[.pointer pa,.slice DA mA dA]) w:=fun _ => by kernel_rfl
          simp only [show ((0:Nat):Int) = 0 from rfl] at *
          go_upto_region 10 with fail
          obtain ⟨W8,hW8⟩:∃ W8,W8 = wr.alloc (.cells #[.pointer pa,.slice DA mA dA] 294):=⟨_,rfl⟩
          have hb8:Below wr.heap.size wr W8:=by rw [hW8];exact below_alloc _ _
          have hx8:W8.heap[wr.heap.size]? = some (.cells #[.pointer pa,.slice DA mA dA] 294 (0,0)):=by rw [hW8];exact heap_at wr _ _ rfl
          rw [← hW8]
          have hcb8:=keepz hcb hb8
          have x0:∀ w9,Below W8.heap.size W8 w9→w9.cell? ⟨wr.heap.size,0,none⟩ = some (.pointer pa):=fun w9 hb => (pr_cells (keepz hx8 hb)).1
          have x1:∀ w9,Below W8.heap.size W8 w9→w9.cell? ⟨wr.heap.size,1,none⟩ = some (.slice DA mA dA):=fun w9 hb => (pr_cells (keepz hx8 hb)).2.1
          have b0:∀ w9,Below W8.heap.size W8 w9→w9.cell? ⟨gb,0,none⟩ = some (.pointer pn):=fun w9 hb => (pr_cells (keepz hcb8 hb)).1
          have b1:∀ w9,Below W8.heap.size W8 w9→w9.cell? ⟨gb,1,none⟩ = some (.slice D2 m d2):=fun w9 hb => (pr_cells (keepz hcb8 hb)).2.1
          obtain ⟨cx,hcx⟩:∃ cx,cstL (fun x => Tri.at x.t (0 + 1)) (edL (plsOf 0 P M) fun x => Tri.at x.t (0 + 1)) = cx:=⟨_,rfl⟩
          have HCx:Hid (∀ w9,Below W8.heap.size W8 w9→Calls Tryz.prog 230 #[.agg #[.pointer pa,.slice DA mA dA]] w9 fun e w' => e = .returned (.int .i64 (cx:Int))∧Below w9.heap.size w9 w'):=Lib.hid fun w9 hb => by
            rw [← hcx]
            exact sCost_c (RowZ.below (C:=w6.heap.size) H6.out.2.2.2.1 (Below.andThen (Below.andThen HC.out.2.2 hb8) hb) (Nat.le_refl _)) HMM.out.1.symm (by rw [HMM.out.1];exact HX.out.2.1)
          have hcx9:(cx:Int)≤196608:=by
            have h1:=(cstL_bd (fun x => Tri.at x.t (0 + 1)) (edL (plsOf 0 P M) fun x => Tri.at x.t (0 + 1))).2
            have h2:=HX.out.2.1
            omega
          have HV8:=Lib.hid (And.intro hb8 (And.intro hcb8 hcx))
          have HL8:wr.heap.size≤W8.heap.size:=hb8.size
          have h88:=Below.refl W8.heap.size W8
          obtain ⟨r,hr⟩:∃ r,decide (cx < c) = r:=⟨_,rfl⟩
          have hr':decide ((cx:Int) < (c:Int)) = r:=by rw [← hr];simp
          have HRr:=Lib.hid hr
          clear hW8 hb8 hcb hcb8 hcx hx8 i0 HNo
          go_region_held3 (fun w9 => Below W8.heap.size W8 w9) (((repeat first | refine bD ?_ | with_reducible refine bN ?_ | refine bA ?_ | refine bS ?_);first | exact bR | assumption | exact bN bR | exact bN (bN bR))) (first
            | (go_at_call 230;refine (HCx.out _ (show Below W8.heap.size W8 _ by ((repeat first | refine bD ?_ | with_reducible refine bN ?_ | refine bA ?_ | refine bS ?_);first | exact bR | assumption | exact bN bR | exact bN (bN bR)))).mono ?_;rintro e wa ⟨rfl,hba⟩;have hBa:Below W8.heap.size W8 wa:=Below.trans (show Below W8.heap.size W8 _ by ((repeat first | refine bD ?_ | with_reducible refine bN ?_ | refine bA ?_ | refine bS ?_);first | exact bR | assumption | exact bN bR | exact bN (bN bR))) (hba.mono (Below.size (show Below W8.heap.size W8 _ by ((repeat first | refine bD ?_ | with_reducible refine bN ?_ | refine bA ?_ | refine bS ?_);first | exact bR | assumption | exact bN bR | exact bN (bN bR)))));clear hba HCx)
            | (go_at_call 230;refine (HCo.out _ (Below.andThen HV8.out.1 (show Below W8.heap.size W8 _ by ((repeat first | refine bD ?_ | with_reducible refine bN ?_ | refine bA ?_ | refine bS ?_);first | exact bR | assumption | exact bN bR | exact bN (bN bR))))).mono ?_;rintro e wb ⟨rfl,hbb⟩;have hBb:Below W8.heap.size W8 wb:=Below.trans (show Below W8.heap.size W8 _ by ((repeat first | refine bD ?_ | with_reducible refine bN ?_ | refine bA ?_ | refine bS ?_);first | exact bR | assumption | exact bN bR | exact bN (bN bR))) (hbb.mono (Below.size (show Below W8.heap.size W8 _ by ((repeat first | refine bD ?_ | with_reducible refine bN ?_ | refine bA ?_ | refine bS ?_);first | exact bR | assumption | exact bN bR | exact bN (bN bR)))));clear hbb HCo))
          have hX0:=x0 wb hBb
          have hX1:=x1 wb hBb
          have hcb9:=keepz HV8.out.2.1 hBb
          obtain ⟨g0,g1,gf⟩:=pr_cells hcb9
          have HW9:=Lib.hid (And.intro (Below.andThen HV8.out.1 hBb) hcb9)
          clear x0 x1 b0 b1 hcb9
          cases r with
          | true =>
            go_wp2_with fail
            go_roundw
            case rel =>
              have hlt:cx < c:=of_decide_eq_true HRr.out
              refine ⟨0 + 1,Tri.at t (0 + 1),DA,mA,dA,cx,by omega,by first | rfl | go_num,?_,?_,?_⟩
              · have h9:=set2 (.pointer pa) (.slice DA mA dA) HW9.out.2
                rw [show rootP (Tri.at t (0 + 1)) = pa from HP.out.1]
                exact h9
              · exact HX.out.1.side H6.out.1 (s:=0) (by omega) H6.out.2.2.2.1 HMM.out.1 (by rw [HMM.out.1];exact HX.out.2.1) HC.out.1.le HV8.out.2.2.symm hlt
              · have hgs:gb≤wr.heap.size:=by have:=HC.out.2.1.size;rw [HGB.out] at this;exact this
                exact ((HC.out.2.1.trans (HW9.out.1.mono hgs)).setCell (p:=⟨gb,0,none⟩) (Nat.le_refl _) _).setCell (p:=⟨gb,1,none⟩) (Nat.le_refl _) _
            case measure =>
              show 2 - ((0:Int) + 1).toNat < 2 - (0:Int).toNat
              omega
          | false =>
            go_wp2_with fail
            go_roundw
            case rel =>
              refine ⟨0 + 1,n,D2,m,d2,c,by omega,by first | rfl | go_num,?_,HC.out.1,?_⟩
              · rw [HPn.out];exact HW9.out.2
              · exact HC.out.2.1.trans (HW9.out.1.mono (by have:=HC.out.2.1.size;rw [HGB.out] at this;exact this))
            case measure =>
              show 2 - ((0:Int) + 1).toNat < 2 - (0:Int).toNat
              omega
        · have i0:∀ w:World,(Instr.index 296 (.agg #[.pointer pa,.slice DA mA dA,.pointer pb,.slice DB mB dB]) (.int .i64 1)).run Tryz.prog w = .ok (.agg #[.pointer pb,.slice DB mB dB]) w:=fun _ => by kernel_rfl
          simp only [show ((1:Nat):Int) = 1 from rfl] at *
          go_upto_region 10 with fail
          obtain ⟨W8,hW8⟩:∃ W8,W8 = wr.alloc (.cells #[.pointer pb,.slice DB mB dB] 294):=⟨_,rfl⟩
          have hb8:Below wr.heap.size wr W8:=by rw [hW8];exact below_alloc _ _
          have hx8:W8.heap[wr.heap.size]? = some (.cells #[.pointer pb,.slice DB mB dB] 294 (0,0)):=by rw [hW8];exact heap_at wr _ _ rfl
          rw [← hW8]
          have hcb8:=keepz hcb hb8
          have x0:∀ w9,Below W8.heap.size W8 w9→w9.cell? ⟨wr.heap.size,0,none⟩ = some (.pointer pb):=fun w9 hb => (pr_cells (keepz hx8 hb)).1
          have x1:∀ w9,Below W8.heap.size W8 w9→w9.cell? ⟨wr.heap.size,1,none⟩ = some (.slice DB mB dB):=fun w9 hb => (pr_cells (keepz hx8 hb)).2.1
          have b0:∀ w9,Below W8.heap.size W8 w9→w9.cell? ⟨gb,0,none⟩ = some (.pointer pn):=fun w9 hb => (pr_cells (keepz hcb8 hb)).1
          have b1:∀ w9,Below W8.heap.size W8 w9→w9.cell? ⟨gb,1,none⟩ = some (.slice D2 m d2):=fun w9 hb => (pr_cells (keepz hcb8 hb)).2.1
          obtain ⟨cx,hcx⟩:∃ cx,cstL (fun x => Tri.at x.t (1 + 1)) (edL (plsOf 1 P M) fun x => Tri.at x.t (1 + 1)) = cx:=⟨_,rfl⟩
          have HCx:Hid (∀ w9,Below W8.heap.size W8 w9→Calls Tryz.prog 230 #[.agg #[.pointer pb,.slice DB mB dB]] w9 fun e w' => e = .returned (.int .i64 (cx:Int))∧Below w9.heap.size w9 w'):=Lib.hid fun w9 hb => by
            rw [← hcx]
            exact sCost_c (RowZ.below (C:=w6.heap.size) H6.out.2.2.2.2 (Below.andThen (Below.andThen HC.out.2.2 hb8) hb) (Nat.le_refl _)) HMM.out.2.symm (by rw [HMM.out.2];exact HX.out.2.2.1)
          have hcx9:(cx:Int)≤196608:=by
            have h1:=(cstL_bd (fun x => Tri.at x.t (1 + 1)) (edL (plsOf 1 P M) fun x => Tri.at x.t (1 + 1))).2
            have h2:=HX.out.2.2.1
            omega
          have HV8:=Lib.hid (And.intro hb8 (And.intro hcb8 hcx))
          have HL8:wr.heap.size≤W8.heap.size:=hb8.size
          have h88:=Below.refl W8.heap.size W8
          obtain ⟨r,hr⟩:∃ r,decide (cx < c) = r:=⟨_,rfl⟩
          have hr':decide ((cx:Int) < (c:Int)) = r:=by rw [← hr];simp
          have HRr:=Lib.hid hr
          clear hW8 hb8 hcb hcb8 hcx hx8 i0 HNo
          go_region_held3 (fun w9 => Below W8.heap.size W8 w9) (((repeat first | refine bD ?_ | with_reducible refine bN ?_ | refine bA ?_ | refine bS ?_);first | exact bR | assumption | exact bN bR | exact bN (bN bR))) (first
            | (go_at_call 230;refine (HCx.out _ (show Below W8.heap.size W8 _ by ((repeat first | refine bD ?_ | with_reducible refine bN ?_ | refine bA ?_ | refine bS ?_);first | exact bR | assumption | exact bN bR | exact bN (bN bR)))).mono ?_;rintro e wa ⟨rfl,hba⟩;have hBa:Below W8.heap.size W8 wa:=Below.trans (show Below W8.heap.size W8 _ by ((repeat first | refine bD ?_ | with_reducible refine bN ?_ | refine bA ?_ | refine bS ?_);first | exact bR | assumption | exact bN bR | exact bN (bN bR))) (hba.mono (Below.size (show Below W8.heap.size W8 _ by ((repeat first | refine bD ?_ | with_reducible refine bN ?_ | refine bA ?_ | refine bS ?_);first | exact bR | assumption | exact bN bR | exact bN (bN bR)))));clear hba HCx)
            | (go_at_call 230;refine (HCo.out _ (Below.andThen HV8.out.1 (show Below W8.heap.size W8 _ by ((repeat first | refine bD ?_ | with_reducible refine bN ?_ | refine bA ?_ | refine bS ?_);first | exact bR | assumption | exact bN bR | exact bN (bN bR))))).mono ?_;rintro e wb ⟨rfl,hbb⟩;have hBb:Below W8.heap.size W8 wb:=Below.trans (show Below W8.heap.size W8 _ by ((repeat first | refine bD ?_ | with_reducible refine bN ?_ | refine bA ?_ | refine bS ?_);first | exact bR | assumption | exact bN bR | exact bN (bN bR))) (hbb.mono (Below.size (show Below W8.heap.size W8 _ by ((repeat first | refine bD ?_ | with_reducible refine bN ?_ | refine bA ?_ | refine bS ?_);first | exact bR | assumption | exact bN bR | exact bN (bN bR)))));clear hbb HCo))
          have hX0:=x0 wb hBb
          have hX1:=x1 wb hBb
          have hcb9:=keepz HV8.out.2.1 hBb
          obtain ⟨g0,g1,gf⟩:=pr_cells hcb9
          have HW9:=Lib.hid (And.intro (Below.andThen HV8.out.1 hBb) hcb9)
          clear x0 x1 b0 b1 hcb9
          cases r with
          | true =>
            go_wp2_with fail
            go_roundw
            case rel =>
              have hlt:cx < c:=of_decide_eq_true HRr.out
              refine ⟨1 + 1,Tri.at t (1 + 1),DB,mB,dB,cx,by omega,by first | rfl | go_num,?_,?_,?_⟩
              · have h9:=set2 (.pointer pb) (.slice DB mB dB) HW9.out.2
                rw [show rootP (Tri.at t (1 + 1)) = pb from HP.out.2]
                exact h9
              · exact HX.out.1.side H6.out.1 (s:=1) (by omega) H6.out.2.2.2.2 HMM.out.2 (by rw [HMM.out.2];exact HX.out.2.2.1) HC.out.1.le HV8.out.2.2.symm hlt
              · have hgs:gb≤wr.heap.size:=by have:=HC.out.2.1.size;rw [HGB.out] at this;exact this
                exact ((HC.out.2.1.trans (HW9.out.1.mono hgs)).setCell (p:=⟨gb,0,none⟩) (Nat.le_refl _) _).setCell (p:=⟨gb,1,none⟩) (Nat.le_refl _) _
            case measure =>
              show 2 - ((1:Int) + 1).toNat < 2 - (1:Int).toNat
              omega
          | false =>
            go_wp2_with fail
            go_roundw
            case rel =>
              refine ⟨1 + 1,n,D2,m,d2,c,by omega,by first | rfl | go_num,?_,HC.out.1,?_⟩
              · rw [HPn.out];exact HW9.out.2
              · exact HC.out.2.1.trans (HW9.out.1.mono (by have:=HC.out.2.1.size;rw [HGB.out] at this;exact this))
            case measure =>
              show 2 - ((1:Int) + 1).toNat < 2 - (1:Int).toNat
              omega
        · simp only [show ((2:Nat):Int) = 2 from rfl] at *
          obtain ⟨b0,b1,-⟩:=pr_cells hcb
          have hr9:=keepz H6.out.2.1 HC.out.2.2
          have HR9:=Lib.hid hr9
          clear hr9 hcb HCo
          go_wp2_with fail
          refine HNo.out.mono ?_
          rintro e w8 ⟨R,rfl,hn8,he8,hb8⟩
          have H8:=Lib.hid (And.intro hn8 (And.intro he8 hb8))
          clear hn8 he8 hb8 HNo b0 b1
          go_wp2_with fail
          refine (HTw.out _ _).mono ?_
          rintro e w9 ⟨rfl,hb9⟩
          have hr9:=keepz (keepz HR9.out H8.out.2.2) hb9
          obtain ⟨z0,z1,zf⟩:=pr_cells hr9
          obtain ⟨t0,t1,-⟩:=pr_cells (set2 (.pointer (rootP R)) (.pointer (rootP R)) hr9)
          have hbw:Below w.heap.size w ((w9.setCell ⟨w.heap.size,0,none⟩ (.pointer (rootP R))).setCell ⟨w.heap.size,1,none⟩ (.pointer (rootP R))):=((Below.andThen (Below.andThen (Below.andThen H6.out.1 HC.out.2.2) H8.out.2.2) hb9).setCell (p:=⟨w.heap.size,0,none⟩) (Nat.le_refl _) _).setCell (p:=⟨w.heap.size,1,none⟩) (Nat.le_refl _) _
          have hkp:Kp k w9 ((w9.setCell ⟨w.heap.size,0,none⟩ (.pointer (rootP R))).setCell ⟨w.heap.size,1,none⟩ (.pointer (rootP R))):=pair_keeps hr9 (by decide) _ _
          have H9:=Lib.hid (And.intro hbw (And.intro hkp hb9))
          clear hr9 hbw hkp hb9
          go_wp2_with fail
          refine bodyPost_ret (v:=p2V (rootP R) (rootP R)) (by simp [results,Tryz.results180,go_sem,t0,t1]) rfl ?_
          have hsz:w9.heap.size≤((w9.setCell ⟨w.heap.size,0,none⟩ (.pointer (rootP R))).setCell ⟨w.heap.size,1,none⟩ (.pointer (rootP R))).heap.size:=by simp
          have hnR:NodeO ((w9.setCell ⟨w.heap.size,0,none⟩ (.pointer (rootP R))).setCell ⟨w.heap.size,1,none⟩ (.pointer (rootP R))) ((w9.setCell ⟨w.heap.size,0,none⟩ (.pointer (rootP R))).setCell ⟨w.heap.size,1,none⟩ (.pointer (rootP R))).heap.size k R:=fun x hx =>
            (H9.out.2.1 _ _ (Nat.le_refl _) (H8.out.1.below H9.out.2.2 (Nat.le_refl _) H9.out.2.2.size x hx)).below (Below.refl _ _) hsz hsz
          exact ⟨R,R,rfl,hnR,hnR,H8.out.2.1,H8.out.2.1,H9.out.1⟩
end Go.Proofs.YtkeepngaaleakaaGreatDoor
