import Derived.Test.YtkeepngaaleakaaGreatDoorMXe
namespace Go.Proofs.YtkeepngaaleakaaGreatDoor
open Go.ChangeShapes Go.WideShapes Go.ChangeAt Go.RowKit
open Tr (T S4 Ent Tri KL)
theorem pr_cells {W:World} {g:Nat} {a b:Value} {ty:TypeId} (h:W.heap[g]? = some (.cells #[a,b] ty (0,0))):W.cell? ⟨g,0,none⟩ = some a∧W.cell? ⟨g,1,none⟩ = some b∧∀ i,W.frozen? ⟨g,i,none⟩ = false:=by
  refine ⟨?_,?_,fun i => frozen_of_row W g i _ _ h⟩
  all_goals rw [cell_of_row W _ _ _ _ (0,0) h];rfl
theorem set2 {W:World} {g:Nat} {a b:Value} {ty:TypeId} (x y:Value) (h:W.heap[g]? = some (.cells #[a,b] ty (0,0))):((W.setCell ⟨g,0,none⟩ x).setCell ⟨g,1,none⟩ y).heap[g]? = some (.cells #[x,y] ty (0,0)):=by
  have r1:=heap_setCell_same W g 0 _ _ x h
  have r2:=heap_setCell_same _ g 1 _ _ y r1
  simpa using r2
theorem pair_keeps {k:Nat} {W:World} {g:Nat} {a b:Option Addr} {ty:TypeId} (h:W.heap[g]? = some (.cells #[.pointer a,.pointer b] ty (0,0))) (hne:ty≠81) (x y:Option Addr):Kp k W ((W.setCell ⟨g,0,none⟩ (.pointer x)).setCell ⟨g,1,none⟩ (.pointer y)):=by
  have noU:∀ {W:World} {a b:Option Addr},W.heap[g]? = some (.cells #[.pointer a,.pointer b] ty (0,0))→NoU W g:=fun {W a b} h i u hu => by
    rw [cell_of_row W _ _ _ _ (0,0) h] at hu
    have hi:i < 2:=(Array.getElem?_eq_some_iff.1 hu).1
    match i,hi with
    | 0,_ => have e:some (Value.pointer a) = some u:=hu;cases e;exact nu_ptr _
    | 1,_ => have e:some (Value.pointer b) = some u:=hu;cases e;exact nu_ptr _
  have r1:=heap_setCell_same W g 0 _ _ (.pointer x) h
  have r1':(W.setCell ⟨g,0,none⟩ (.pointer x)).heap[g]? = some (.cells #[.pointer x,.pointer b] ty (0,0)):=by simpa using r1
  refine Kp.trans (kp_cell h hne (noU h) _) (kp_cell r1' hne (noU r1') _) (by simp)
def JoinE (k:Nat) (M:List Md) (w:World) (e:Ending) (w':World):Prop :=
  ∃ x y:Option T,e = .returned (p2V (rootP x) (rootP y))∧NodeO w' w'.heap.size k x∧NodeO w' w'.heap.size k y∧(∀ e,e∈Tr.entsO x↔∃ m∈M,e∈Tr.entsO m.1)∧(∀ e,e∈Tr.entsO y↔∃ m∈M,e∈Tr.entsO m.1)∧Below w.heap.size w w'
set_option maxRecDepth 1000000 in
set_option maxHeartbeats 8000000 in
theorem sJoin_c {w:World} {B k l q base pn mc d:Nat} {c0:List Nat} {D MA:Option Addr} {t:Tri} {P:List PlS} {M:List Md} (hJ:JnOk w B k l c0 t P M) (hq:w.heap[q]? = some (.cells (stS t l (.slice D pn d)) 245 (0,0))) (hv:PsRow w base (.slice D pn d) P) (hpn:P.length = pn) (hl:pn≤65536) (hM:MdR w w.heap.size MA M) :
    Calls Tryz.prog 180 #[.pointer (some ⟨q,0,none⟩),.slice MA pn mc] w fun e w' => JoinE k M w e w':=by
  obtain ⟨W0,hW0⟩:∃ W0,W0 = w.alloc (.cells #[.pointer none,.pointer none] 97):=⟨_,rfl⟩
  have hb0:Below w.heap.size w W0:=by rw [hW0];exact below_alloc _ _
  have hr0:W0.heap[w.heap.size]? = some (.cells #[.pointer none,.pointer none] 97 (0,0)):=by rw [hW0];exact heap_at w _ _ rfl
  have HD0:=Lib.hid fun (w1:World) (hb:Below w.heap.size w w1) => sDraft0_c (mc:=mc) (k:=k) (B:=B) (keepz hq hb) (hv.below hb (Nat.le_refl _)) hpn hl (hM.below hb (Nat.le_refl _) hb.size) hJ.hml (Nat.le_trans hJ.hB hb.size) (fun x hx => ⟨(hJ.node 0 (by omega) x hx).1.below hb hJ.hB (Nat.le_refl _),(hJ.node 0 (by omega) x hx).2.below hb (Nat.le_refl _) hb.size⟩)
  have HD1:=Lib.hid fun (w1:World) (hb:Below w.heap.size w w1) => sDraft1_c (mc:=mc) (k:=k) (B:=B) (keepz hq hb) (hv.below hb (Nat.le_refl _)) hpn hl (hM.below hb (Nat.le_refl _) hb.size) hJ.hml (Nat.le_trans hJ.hB hb.size) (fun x hx => ⟨(hJ.node 1 (by omega) x hx).1.below hb hJ.hB (Nat.le_refl _),(hJ.node 1 (by omega) x hx).2.below hb (Nat.le_refl _) hb.size⟩)
  have HAn:=Lib.hid fun (w1:World) (hb:Below w.heap.size w w1) => sAnew_c (mc:=mc) (keepz hq hb) (hv.below hb (Nat.le_refl _)) hpn hl (hM.below hb (Nat.le_refl _) hb.size) hJ.hml
  have hlA:(edL (plsOf 0 P M) fun x => Tri.at x.t (0 + 1)).length≤65536:=by
    have h1:(edL (plsOf 0 P M) fun x => Tri.at x.t (0 + 1)).length≤(plsOf 0 P M).length:=List.length_filter_le _ _
    rw [plsOf_length 0 P M hJ.hml] at h1
    omega
  have hlB:(edL (plsOf 1 P M) fun x => Tri.at x.t (1 + 1)).length≤65536:=by
    have h1:(edL (plsOf 1 P M) fun x => Tri.at x.t (1 + 1)).length≤(plsOf 1 P M).length:=List.length_filter_le _ _
    rw [plsOf_length 1 P M hJ.hml] at h1
    omega
  have hlN:(edL (plsOf 0 P M) fun _ => none).length≤65536:=by
    have h1:(edL (plsOf 0 P M) fun _ => none).length≤(plsOf 0 P M).length:=List.length_filter_le _ _
    rw [plsOf_length 0 P M hJ.hml] at h1
    omega
  have HX:=Lib.hid (And.intro hJ (And.intro hlA (And.intro hlB hlN)))
  have HW:=Lib.hid (And.intro hW0 (And.intro hb0 hr0))
  clear hJ hq hv hpn hl hM hlA hlB hlN hW0 hb0 hr0
  obtain ⟨pa,hpa⟩:∃ v,rootP t.a = v:=⟨_,rfl⟩
  obtain ⟨pb,hpb⟩:∃ v,rootP t.b = v:=⟨_,rfl⟩
  rw [hpa] at HD0
  rw [hpb] at HD1
  have HP:=Lib.hid (And.intro hpa hpb)
  clear hpa hpb
  have HK:=Lib.hid fun (w1:World) (a b:Option Addr) (f g:Bool) => sKeptP_c a b f g w1
  have HTw:=Lib.hid fun (w1:World) (c:Option Addr) => sTwice_c c w1
  go_enter Tryz.func180,Tryz.ntmps180
  go_upto_region 1 with fail
  rw [← HW.out.1]
  go_wp2_with fail
  refine (HD0.out _ HW.out.2.1).mono ?_
  rintro e w1 ⟨DA,dA,mA,rfl,hmA,hrA,hb1⟩
  clear HD0
  have HB1:=Lib.hid (And.intro hb1 (Below.andThen HW.out.2.1 hb1))
  have HR1:=Lib.hid (And.intro hmA hrA)
  clear hb1 hmA hrA
  go_wp2_with fail
  refine (HD1.out _ HB1.out.2).mono ?_
  rintro e w2 ⟨DB,dB,mB,rfl,hmB,hrB,hb2⟩
  clear HD1
  have HB2:=Lib.hid (And.intro (Below.andThen HB1.out.1 hb2) (Below.andThen HB1.out.2 hb2))
  have HR:=Lib.hid (And.intro HR1.out.1 (And.intro (RowZ.below (C:=w1.heap.size) HR1.out.2 hb2 (Nat.le_refl _)) (And.intro hmB hrB)))
  clear hb2 HR1 hmB hrB
  obtain ⟨f,hf⟩:∃ f,((mA:Int) == 0) = f:=⟨_,rfl⟩
  obtain ⟨g,hg⟩:∃ g,((mB:Int) == 0) = g:=⟨_,rfl⟩
  go_upto_region 2 with fail
  obtain ⟨W3,hW3⟩:∃ W3,W3 = w2.alloc (.cells #[.pointer pa,.slice DA mA dA,.pointer pb,.slice DB mB dB] 296):=⟨_,rfl⟩
  have hb3:Below w2.heap.size w2 W3:=by rw [hW3];exact below_alloc _ _
  have hd3:W3.heap[w2.heap.size]? = some (.cells #[.pointer pa,.slice DA mA dA,.pointer pb,.slice DB mB dB] 296 (0,0)):=by rw [hW3];exact heap_at w2 _ _ rfl
  rw [← hW3]
  obtain ⟨gd,hgd⟩:∃ gd,w2.heap.size = gd:=⟨_,rfl⟩
  rw [hgd] at hd3
  rw [hgd]
  have hr3:=keepz (keepz HW.out.2.2 HB2.out.1) hb3
  have HB3:=Lib.hid (And.intro hb3 (And.intro (Below.andThen HB2.out.2 hb3) (And.intro hd3 hr3)))
  have d0:W3.cell? ⟨gd,0,none⟩ = some (.pointer pa):=by rw [cell_of_row W3 _ _ _ _ (0,0) hd3];rfl
  have d1:W3.cell? ⟨gd,1,none⟩ = some (.slice DA mA dA):=by rw [cell_of_row W3 _ _ _ _ (0,0) hd3];rfl
  have d2:W3.cell? ⟨gd,2,none⟩ = some (.pointer pb):=by rw [cell_of_row W3 _ _ _ _ (0,0) hd3];rfl
  have d3:W3.cell? ⟨gd,3,none⟩ = some (.slice DB mB dB):=by rw [cell_of_row W3 _ _ _ _ (0,0) hd3];rfl
  have e0:∀ ob,(W3.alloc ob).cell? ⟨gd,0,none⟩ = some (.pointer pa):=fun ob => by rw [cell_of_row _ _ _ _ _ (0,0) (heap_past ob hd3)];rfl
  have e2:∀ ob,(W3.alloc ob).cell? ⟨gd,2,none⟩ = some (.pointer pb):=fun ob => by rw [cell_of_row _ _ _ _ _ (0,0) (heap_past ob hd3)];rfl
  clear hW3 hb3 hd3 hr3 hgd
  have HF:=Lib.hid (And.intro hf hg)
  go_upto_region 4 with ((with_reducible refine (HK.out _ _ _ _ _).mono ?_);rintro e w4 ⟨rfl,hb4⟩)
  clear d0 d1 d2 d3 e0 e2 hf hg
  have hbk:Below W3.heap.size W3 w4:=Below.andThen (below_alloc W3 _) hb4
  have hr4:=keepz HB3.out.2.2.2 hbk
  obtain ⟨z0,z1,zf⟩:=pr_cells hr4
  have y0:∀ ob,(w4.alloc ob).cell? ⟨w.heap.size,0,none⟩ = some (.pointer none):=fun ob => (pr_cells (heap_past ob hr4)).1
  have y1:∀ ob,(w4.alloc ob).cell? ⟨w.heap.size,1,none⟩ = some (.pointer none):=fun ob => (pr_cells (heap_past ob hr4)).2.1
  have yf:∀ ob i,(w4.alloc ob).frozen? ⟨w.heap.size,i,none⟩ = false:=fun ob => (pr_cells (heap_past ob hr4)).2.2
  have HB4:=Lib.hid (And.intro (Below.andThen HB3.out.2.1 hbk) (And.intro (keepz HB3.out.2.2.1 hbk) (And.intro hr4 (Below.andThen HB3.out.1 hbk))))
  have hJ:=HX.out.1
  have hEA:mA = 0→∀ e,e∈Tr.entsO t.a↔∃ m∈M,e∈Tr.entsO m.1:=fun h0 e => hJ.done 0 (by omega) (List.eq_nil_of_length_eq_zero (by rw [← HR.out.1];exact h0)) e
  have hEB:mB = 0→∀ e,e∈Tr.entsO t.b↔∃ m∈M,e∈Tr.entsO m.1:=fun h0 e => hJ.done 1 (by omega) (List.eq_nil_of_length_eq_zero (by rw [← HR.out.2.2.1];exact h0)) e
  have HE:=Lib.hid (And.intro hEA hEB)
  clear hbk hb4 hr4 hJ hEA hEB
  cases f with
  | true =>
    cases g with
    | true =>
      rw [show keptP pa pb true true = (pa,pb) from rfl,show (true || true) = true from rfl]
      have r2:=set2 (.pointer pa) (.pointer pb) (heap_past (.cells #[.pointer pa,.pointer pb] 97) HB4.out.2.2.1)
      obtain ⟨t0,t1,-⟩:=pr_cells r2
      have hb9:Below w.heap.size w (((w4.alloc (.cells #[.pointer pa,.pointer pb] 97)).setCell ⟨w.heap.size,0,none⟩ (.pointer pa)).setCell ⟨w.heap.size,1,none⟩ (.pointer pb)):=((Below.andThen HB4.out.1 (below_alloc w4 _)).setCell (p:=⟨w.heap.size,0,none⟩) (Nat.le_refl _) _).setCell (p:=⟨w.heap.size,1,none⟩) (Nat.le_refl _) _
      have H9:=Lib.hid hb9
      clear r2 hb9
      go_wp2_with fail
      refine bodyPost_ret (v:=p2V pa pb) (by simp [results,Tryz.results180,go_sem,t0,t1]) rfl ?_
      have hz:mA = 0:=by have h9:=HF.out.1;rw [beq_iff_eq] at h9;omega
      have hz2:mB = 0:=by have h9:=HF.out.2;rw [beq_iff_eq] at h9;omega
      have hnt:=HX.out.1.nt.below H9.out HX.out.1.hB (Nat.le_trans HX.out.1.hB H9.out.size)
      exact ⟨t.a,t.b,by rw [HP.out.1,HP.out.2],hnt.a,hnt.b,HE.out.1 hz,HE.out.2 hz2,H9.out⟩
    | false =>
      rw [show keptP pa pb true false = (pa,pa) from rfl,show (true || false) = true from rfl]
      have r2:=set2 (.pointer pa) (.pointer pa) (heap_past (.cells #[.pointer pa,.pointer pa] 97) HB4.out.2.2.1)
      obtain ⟨t0,t1,-⟩:=pr_cells r2
      have hb9:Below w.heap.size w (((w4.alloc (.cells #[.pointer pa,.pointer pa] 97)).setCell ⟨w.heap.size,0,none⟩ (.pointer pa)).setCell ⟨w.heap.size,1,none⟩ (.pointer pa)):=((Below.andThen HB4.out.1 (below_alloc w4 _)).setCell (p:=⟨w.heap.size,0,none⟩) (Nat.le_refl _) _).setCell (p:=⟨w.heap.size,1,none⟩) (Nat.le_refl _) _
      have H9:=Lib.hid hb9
      clear r2 hb9
      go_wp2_with fail
      refine bodyPost_ret (v:=p2V pa pa) (by simp [results,Tryz.results180,go_sem,t0,t1]) rfl ?_
      have hz:mA = 0:=by have h9:=HF.out.1;rw [beq_iff_eq] at h9;omega
      have hz2:mA = 0:=by have h9:=HF.out.1;rw [beq_iff_eq] at h9;omega
      have hnt:=HX.out.1.nt.below H9.out HX.out.1.hB (Nat.le_trans HX.out.1.hB H9.out.size)
      exact ⟨t.a,t.a,by rw [HP.out.1],hnt.a,hnt.a,HE.out.1 hz,HE.out.1 hz2,H9.out⟩
  | false =>
    cases g with
    | true =>
      rw [show keptP pa pb false true = (pb,pb) from rfl,show (false || true) = true from rfl]
      have r2:=set2 (.pointer pb) (.pointer pb) (heap_past (.cells #[.pointer pb,.pointer pb] 97) HB4.out.2.2.1)
      obtain ⟨t0,t1,-⟩:=pr_cells r2
      have hb9:Below w.heap.size w (((w4.alloc (.cells #[.pointer pb,.pointer pb] 97)).setCell ⟨w.heap.size,0,none⟩ (.pointer pb)).setCell ⟨w.heap.size,1,none⟩ (.pointer pb)):=((Below.andThen HB4.out.1 (below_alloc w4 _)).setCell (p:=⟨w.heap.size,0,none⟩) (Nat.le_refl _) _).setCell (p:=⟨w.heap.size,1,none⟩) (Nat.le_refl _) _
      have H9:=Lib.hid hb9
      clear r2 hb9
      go_wp2_with fail
      refine bodyPost_ret (v:=p2V pb pb) (by simp [results,Tryz.results180,go_sem,t0,t1]) rfl ?_
      have hz:mB = 0:=by have h9:=HF.out.2;rw [beq_iff_eq] at h9;omega
      have hz2:mB = 0:=by have h9:=HF.out.2;rw [beq_iff_eq] at h9;omega
      have hnt:=HX.out.1.nt.below H9.out HX.out.1.hB (Nat.le_trans HX.out.1.hB H9.out.size)
      exact ⟨t.b,t.b,by rw [HP.out.2],hnt.b,hnt.b,HE.out.2 hz,HE.out.2 hz2,H9.out⟩
    | false =>
      rw [show keptP pa pb false false = (none,none) from rfl,show (false || false) = false from rfl]
      clear HK
      obtain ⟨W5,hW5⟩:∃ W5,W5 = w4.alloc (.cells #[.pointer none,.pointer none] 97):=⟨_,rfl⟩
      have hb5:Below w4.heap.size w4 W5:=by rw [hW5];exact below_alloc _ _
      have HB5:=Lib.hid (And.intro hb5 (Below.andThen HB4.out.1 hb5))
      have hAn:=HAn.out W5 HB5.out.2
      rw [hW5] at hAn
      have HAn5:=Lib.hid hAn
      clear hb5 hW5 hAn HAn
      go_upto_region 7 with ((with_reducible refine HAn5.out.mono ?_);rintro e w6 ⟨DN,dN,mN,rfl,hmN,hrN,hb6⟩;have HN6:=Lib.hid (And.intro hmN (And.intro hrN hb6));clear hmN hrN hb6 HAn5)
      have hb46:Below w4.heap.size w4 w6:=Below.andThen (below_alloc w4 _) HN6.out.2.2
      have hc0:CandS w6 k l c0 t P M none DN mN dN mN:=HX.out.1.anew HN6.out.2.1 HN6.out.1 (by rw [HN6.out.1];exact HX.out.2.2.2)
      have hd6:=keepz HB4.out.2.1 hb46
      have hd7:=heap_past (.cells #[.pointer none,.slice DN mN dN] 294) hd6
      have d0:(w6.alloc (.cells #[.pointer none,.slice DN mN dN] 294)).cell? ⟨gd,0,none⟩ = some (.pointer pa):=by rw [cell_of_row _ _ _ _ _ (0,0) hd7];rfl
      have d1:(w6.alloc (.cells #[.pointer none,.slice DN mN dN] 294)).cell? ⟨gd,1,none⟩ = some (.slice DA mA dA):=by rw [cell_of_row _ _ _ _ _ (0,0) hd7];rfl
      have d2:(w6.alloc (.cells #[.pointer none,.slice DN mN dN] 294)).cell? ⟨gd,2,none⟩ = some (.pointer pb):=by rw [cell_of_row _ _ _ _ _ (0,0) hd7];rfl
      have d3:(w6.alloc (.cells #[.pointer none,.slice DN mN dN] 294)).cell? ⟨gd,3,none⟩ = some (.slice DB mB dB):=by rw [cell_of_row _ _ _ _ _ (0,0) hd7];rfl
      have hb26:=Below.andThen HB4.out.2.2.2 hb46
      have H6:=Lib.hid (And.intro (Below.andThen HB4.out.1 hb46) (And.intro (keepz HB4.out.2.2.1 hb46) (And.intro hc0 (And.intro (RowZ.below (C:=w2.heap.size) HR.out.2.1 hb26 (Nat.le_refl _)) (RowZ.below (C:=w2.heap.size) HR.out.2.2.2 hb26 (Nat.le_refl _))))))
      have H7:=Lib.hid (And.intro (below_alloc w6 (.cells #[.pointer none,.slice DN mN dN] 294)) (heap_at w6 (.cells #[.pointer none,.slice DN mN dN] 294) _ rfl))
      have HMM:=Lib.hid (And.intro HR.out.1 HR.out.2.2.1)
      clear hb46 hc0 hd6 hd7 hb26 z0 z1 zf y0 y1 yf HE HF HN6 HR
      go_wp2_with fail
      clear d0 d1 d2 d3
      obtain ⟨gb,hgb⟩:∃ gb,w6.heap.size = gb:=⟨_,rfl⟩
      have HGB:=Lib.hid hgb
      rw [hgb] at H7
      rw [hgb]
      clear hgb
      go_loopw [48] (fun i wr => ∃ (j:Nat) (n:Option T) (D2:Option Addr) (m d2 c:Nat),j≤2∧i = .int .i64 (j:Int)∧wr.heap[gb]? = some (.cells #[.pointer (rootP n),.slice D2 m d2] 294 (0,0))∧CandS w6 k l c0 t P M n D2 m d2 c∧Below gb w6 wr) (fun i _ => 2 - (intOf i).toNat)
      case atStart => exact ⟨0,none,DN,mN,dN,mN,by omega,rfl,H7.out.2,H6.out.2.2.1,H7.out.1⟩
      case round =>
        clear H7
        obtain ⟨j,n,D2,m,d2,c,hj,rfl,hcb,hcd,hbr⟩:=hrel
        have hbr6:Below w6.heap.size w6 wr:=by rw [HGB.out];exact hbr
        have HCo:=Lib.hid fun (w9:World) (hb:Below wr.heap.size wr w9) => hcd.cost (Below.andThen hbr6 hb)
        have HNo:=Lib.hid (hcd.node HX.out.1 H6.out.1 hbr6)
        have HC:=Lib.hid (And.intro hcd (And.intro hbr hbr6))
        obtain ⟨pn,hpn⟩:∃ v,rootP n = v:=⟨_,rfl⟩
        rw [hpn] at hcb HCo HNo
        have HPn:=Lib.hid hpn
        have hmc:(c:Int)≤196608:=by
          have h1:=hcd.le
          have h2:(wantL (plsOf 0 P M)).length≤(edL (plsOf 0 P M) fun _ => none).length:=by rw [ed_want];exact Nat.le_refl _
          have h3:=HX.out.2.2.2
          omega
        clear hcd hbr hbr6 hpn
        rcases (show j = 0∨j = 1∨j = 2 by omega) with rfl | rfl | rfl
        · have i0:∀ w:World,(Instr.index 296 (.agg #[.pointer pa,.slice DA mA dA,.pointer pb,.slice DB mB dB]) (.int .i64 0)).run Tryz.prog w = .ok (.agg #[.pointer pa,.slice DA mA dA]) w:=fun _ => by kernel_rfl
          simp only [show ((0:Nat):Int) = 0 from rfl] at *
          go_upto_region 10 with fail
          obtain ⟨W8,hW8⟩:∃ W8,W8 = wr.alloc (.cells #[.pointer pa,.slice DA mA dA] 294):=⟨_,rfl⟩
          have hb8:Below wr.heap.size wr W8:=by rw [hW8];exact below_alloc _ _
          have hx8:W8.heap[wr.heap.size]? = some (.cells #[.pointer pa,.slice DA mA dA] 294 (0,0)):=by rw [hW8];exact heap_at wr _ _ rfl
          rw [← hW8]
          have hcb8:=keepz hcb hb8
          have x0:∀ w9,Below W8.heap.size W8 w9→w9.cell? ⟨wr.heap.size,0,none⟩ = some (.pointer pa):=fun w9 hb => (pr_cells (keepz hx8 hb)).1
          have x1:∀ w9,Below W8.heap.size W8 w9→w9.cell? ⟨wr.heap.size,1,none⟩ = some (.slice DA mA dA):=fun w9 hb => (pr_cells (keepz hx8 hb)).2.1
          have b0:∀ w9,Below W8.heap.size W8 w9→w9.cell? ⟨gb,0,none⟩ = some (.pointer pn):=fun w9 hb => (pr_cells (keepz hcb8 hb)).1
          have b1:∀ w9,Below W8.heap.size W8 w9→w9.cell? ⟨gb,1,none⟩ = some (.slice D2 m d2):=fun w9 hb => (pr_cells (keepz hcb8 hb)).2.1
          obtain ⟨cx,hcx⟩:∃ cx,cstL (fun x => Tri.at x.t (0 + 1)) (edL (plsOf 0 P M) fun x => Tri.at x.t (0 + 1)) = cx:=⟨_,rfl⟩
          have HCx:Hid (∀ w9,Below W8.heap.size W8 w9→Calls Tryz.prog 230 #[.agg #[.pointer pa,.slice DA mA dA]] w9 fun e w' => e = .returned (.int .i64 (cx:Int))∧Below w9.heap.size w9 w'):=Lib.hid fun w9 hb => by
            rw [← hcx]
            exact sCost_c (RowZ.below (C:=w6.heap.size) H6.out.2.2.2.1 (Below.andThen (Below.andThen HC.out.2.2 hb8) hb) (Nat.le_refl _)) HMM.out.1.symm (by rw [HMM.out.1];exact HX.out.2.1)
          have hcx9:(cx:Int)≤196608:=by
            have h1:=(cstL_bd (fun x => Tri.at x.t (0 + 1)) (edL (plsOf 0 P M) fun x => Tri.at x.t (0 + 1))).2
            have h2:=HX.out.2.1
            omega
          have HV8:=Lib.hid (And.intro hb8 (And.intro hcb8 hcx))
          have HL8:wr.heap.size≤W8.heap.size:=hb8.size
          have h88:=Below.refl W8.heap.size W8
          obtain ⟨r,hr⟩:∃ r,decide (cx < c) = r:=⟨_,rfl⟩
          have hr':decide ((cx:Int) < (c:Int)) = r:=by rw [← hr];simp
          have HRr:=Lib.hid hr
          clear hW8 hb8 hcb hcb8 hcx hx8 i0 HNo
          go_region_held3 (fun w9 => Below W8.heap.size W8 w9) (((repeat first | refine bD ?_ | with_reducible refine bN ?_ | refine bA ?_ | refine bS ?_);first | exact bR | assumption | exact bN bR | exact bN (bN bR))) (first
            | (go_at_call 230;refine (HCx.out _ (show Below W8.heap.size W8 _ by ((repeat first | refine bD ?_ | with_reducible refine bN ?_ | refine bA ?_ | refine bS ?_);first | exact bR | assumption | exact bN bR | exact bN (bN bR)))).mono ?_;rintro e wa ⟨rfl,hba⟩;have hBa:Below W8.heap.size W8 wa:=Below.trans (show Below W8.heap.size W8 _ by ((repeat first | refine bD ?_ | with_reducible refine bN ?_ | refine bA ?_ | refine bS ?_);first | exact bR | assumption | exact bN bR | exact bN (bN bR))) (hba.mono (Below.size (show Below W8.heap.size W8 _ by ((repeat first | refine bD ?_ | with_reducible refine bN ?_ | refine bA ?_ | refine bS ?_);first | exact bR | assumption | exact bN bR | exact bN (bN bR)))));clear hba HCx)
            | (go_at_call 230;refine (HCo.out _ (Below.andThen HV8.out.1 (show Below W8.heap.size W8 _ by ((repeat first | refine bD ?_ | with_reducible refine bN ?_ | refine bA ?_ | refine bS ?_);first | exact bR | assumption | exact bN bR | exact bN (bN bR))))).mono ?_;rintro e wb ⟨rfl,hbb⟩;have hBb:Below W8.heap.size W8 wb:=Below.trans (show Below W8.heap.size W8 _ by ((repeat first | refine bD ?_ | with_reducible refine bN ?_ | refine bA ?_ | refine bS ?_);first | exact bR | assumption | exact bN bR | exact bN (bN bR))) (hbb.mono (Below.size (show Below W8.heap.size W8 _ by ((repeat first | refine bD ?_ | with_reducible refine bN ?_ | refine bA ?_ | refine bS ?_);first | exact bR | assumption | exact bN bR | exact bN (bN bR)))));clear hbb HCo))
          have hX0:=x0 wb hBb
          have hX1:=x1 wb hBb
          have hcb9:=keepz HV8.out.2.1 hBb
          obtain ⟨g0,g1,gf⟩:=pr_cells hcb9
          have HW9:=Lib.hid (And.intro (Below.andThen HV8.out.1 hBb) hcb9)
          clear x0 x1 b0 b1 hcb9
          cases r with
          | true =>
            go_wp2_with fail
            go_roundw
            case rel =>
              have hlt:cx < c:=of_decide_eq_true HRr.out
              refine ⟨0 + 1,Tri.at t (0 + 1),DA,mA,dA,cx,by omega,by first | rfl | go_num,?_,?_,?_⟩
              · have h9:=set2 (.pointer pa) (.slice DA mA dA) HW9.out.2
                rw [show rootP (Tri.at t (0 + 1)) = pa from HP.out.1]
                exact h9
              · exact HX.out.1.side H6.out.1 (s:=0) (by omega) H6.out.2.2.2.1 HMM.out.1 (by rw [HMM.out.1];exact HX.out.2.1) HC.out.1.le HV8.out.2.2.symm hlt
              · have hgs:gb≤wr.heap.size:=by have:=HC.out.2.1.size;rw [HGB.out] at this;exact this
                exact ((HC.out.2.1.trans (HW9.out.1.mono hgs)).setCell (p:=⟨gb,0,none⟩) (Nat.le_refl _) _).setCell (p:=⟨gb,1,none⟩) (Nat.le_refl _) _
            case measure =>
              show 2 - ((0:Int) + 1).toNat < 2 - (0:Int).toNat
              omega
          | false =>
            go_wp2_with fail
            go_roundw
            case rel =>
              refine ⟨0 + 1,n,D2,m,d2,c,by omega,by first | rfl | go_num,?_,HC.out.1,?_⟩
              · rw [HPn.out];exact HW9.out.2
              · exact HC.out.2.1.trans (HW9.out.1.mono (by have:=HC.out.2.1.size;rw [HGB.out] at this;exact this))
            case measure =>
              show 2 - ((0:Int) + 1).toNat < 2 - (0:Int).toNat
              omega
        · have i0:∀ w:World,(Instr.index 296 (.agg #[.pointer pa,.slice DA mA dA,.pointer pb,.slice DB mB dB]) (.int .i64 1)).run Tryz.prog w = .ok (.agg #[.pointer pb,.slice DB mB dB]) w:=fun _ => by kernel_rfl
          simp only [show ((1:Nat):Int) = 1 from rfl] at *
          go_upto_region 10 with fail
          obtain ⟨W8,hW8⟩:∃ W8,W8 = wr.alloc (.cells #[.pointer pb,.slice DB mB dB] 294):=⟨_,rfl⟩
          have hb8:Below wr.heap.size wr W8:=by rw [hW8];exact below_alloc _ _
          have hx8:W8.heap[wr.heap.size]? = some (.cells #[.pointer pb,.slice DB mB dB] 294 (0,0)):=by rw [hW8];exact heap_at wr _ _ rfl
          rw [← hW8]
          have hcb8:=keepz hcb hb8
          have x0:∀ w9,Below W8.heap.size W8 w9→w9.cell? ⟨wr.heap.size,0,none⟩ = some (.pointer pb):=fun w9 hb => (pr_cells (keepz hx8 hb)).1
          have x1:∀ w9,Below W8.heap.size W8 w9→w9.cell? ⟨wr.heap.size,1,none⟩ = some (.slice DB mB dB):=fun w9 hb => (pr_cells (keepz hx8 hb)).2.1
          have b0:∀ w9,Below W8.heap.size W8 w9→w9.cell? ⟨gb,0,none⟩ = some (.pointer pn):=fun w9 hb => (pr_cells (keepz hcb8 hb)).1
          have b1:∀ w9,Below W8.heap.size W8 w9→w9.cell? ⟨gb,1,none⟩ = some (.slice D2 m d2):=fun w9 hb => (pr_cells (keepz hcb8 hb)).2.1
          obtain ⟨cx,hcx⟩:∃ cx,cstL (fun x => Tri.at x.t (1 + 1)) (edL (plsOf 1 P M) fun x => Tri.at x.t (1 + 1)) = cx:=⟨_,rfl⟩
          have HCx:Hid (∀ w9,Below W8.heap.size W8 w9→Calls Tryz.prog 230 #[.agg #[.pointer pb,.slice DB mB dB]] w9 fun e w' => e = .returned (.int .i64 (cx:Int))∧Below w9.heap.size w9 w'):=Lib.hid fun w9 hb => by
            rw [← hcx]
            exact sCost_c (RowZ.below (C:=w6.heap.size) H6.out.2.2.2.2 (Below.andThen (Below.andThen HC.out.2.2 hb8) hb) (Nat.le_refl _)) HMM.out.2.symm (by rw [HMM.out.2];exact HX.out.2.2.1)
          have hcx9:(cx:Int)≤196608:=by
            have h1:=(cstL_bd (fun x => Tri.at x.t (1 + 1)) (edL (plsOf 1 P M) fun x => Tri.at x.t (1 + 1))).2
            have h2:=HX.out.2.2.1
            omega
          have HV8:=Lib.hid (And.intro hb8 (And.intro hcb8 hcx))
          have HL8:wr.heap.size≤W8.heap.size:=hb8.size
          have h88:=Below.refl W8.heap.size W8
          obtain ⟨r,hr⟩:∃ r,decide (cx < c) = r:=⟨_,rfl⟩
          have hr':decide ((cx:Int) < (c:Int)) = r:=by rw [← hr];simp
          have HRr:=Lib.hid hr
          clear hW8 hb8 hcb hcb8 hcx hx8 i0 HNo
          go_region_held3 (fun w9 => Below W8.heap.size W8 w9) (((repeat first | refine bD ?_ | with_reducible refine bN ?_ | refine bA ?_ | refine bS ?_);first | exact bR | assumption | exact bN bR | exact bN (bN bR))) (first
            | (go_at_call 230;refine (HCx.out _ (show Below W8.heap.size W8 _ by ((repeat first | refine bD ?_ | with_reducible refine bN ?_ | refine bA ?_ | refine bS ?_);first | exact bR | assumption | exact bN bR | exact bN (bN bR)))).mono ?_;rintro e wa ⟨rfl,hba⟩;have hBa:Below W8.heap.size W8 wa:=Below.trans (show Below W8.heap.size W8 _ by ((repeat first | refine bD ?_ | with_reducible refine bN ?_ | refine bA ?_ | refine bS ?_);first | exact bR | assumption | exact bN bR | exact bN (bN bR))) (hba.mono (Below.size (show Below W8.heap.size W8 _ by ((repeat first | refine bD ?_ | with_reducible refine bN ?_ | refine bA ?_ | refine bS ?_);first | exact bR | assumption | exact bN bR | exact bN (bN bR)))));clear hba HCx)
            | (go_at_call 230;refine (HCo.out _ (Below.andThen HV8.out.1 (show Below W8.heap.size W8 _ by ((repeat first | refine bD ?_ | with_reducible refine bN ?_ | refine bA ?_ | refine bS ?_);first | exact bR | assumption | exact bN bR | exact bN (bN bR))))).mono ?_;rintro e wb ⟨rfl,hbb⟩;have hBb:Below W8.heap.size W8 wb:=Below.trans (show Below W8.heap.size W8 _ by ((repeat first | refine bD ?_ | with_reducible refine bN ?_ | refine bA ?_ | refine bS ?_);first | exact bR | assumption | exact bN bR | exact bN (bN bR))) (hbb.mono (Below.size (show Below W8.heap.size W8 _ by ((repeat first | refine bD ?_ | with_reducible refine bN ?_ | refine bA ?_ | refine bS ?_);first | exact bR | assumption | exact bN bR | exact bN (bN bR)))));clear hbb HCo))
          have hX0:=x0 wb hBb
          have hX1:=x1 wb hBb
          have hcb9:=keepz HV8.out.2.1 hBb
          obtain ⟨g0,g1,gf⟩:=pr_cells hcb9
          have HW9:=Lib.hid (And.intro (Below.andThen HV8.out.1 hBb) hcb9)
          clear x0 x1 b0 b1 hcb9
          cases r with
          | true =>
            go_wp2_with fail
            go_roundw
            case rel =>
              have hlt:cx < c:=of_decide_eq_true HRr.out
              refine ⟨1 + 1,Tri.at t (1 + 1),DB,mB,dB,cx,by omega,by first | rfl | go_num,?_,?_,?_⟩
              · have h9:=set2 (.pointer pb) (.slice DB mB dB) HW9.out.2
                rw [show rootP (Tri.at t (1 + 1)) = pb from HP.out.2]
                exact h9
              · exact HX.out.1.side H6.out.1 (s:=1) (by omega) H6.out.2.2.2.2 HMM.out.2 (by rw [HMM.out.2];exact HX.out.2.2.1) HC.out.1.le HV8.out.2.2.symm hlt
              · have hgs:gb≤wr.heap.size:=by have:=HC.out.2.1.size;rw [HGB.out] at this;exact this
                exact ((HC.out.2.1.trans (HW9.out.1.mono hgs)).setCell (p:=⟨gb,0,none⟩) (Nat.le_refl _) _).setCell (p:=⟨gb,1,none⟩) (Nat.le_refl _) _
            case measure =>
              show 2 - ((1:Int) + 1).toNat < 2 - (1:Int).toNat
              omega
          | false =>
            go_wp2_with fail
            go_roundw
            case rel =>
              refine ⟨1 + 1,n,D2,m,d2,c,by omega,by first | rfl | go_num,?_,HC.out.1,?_⟩
              · rw [HPn.out];exact HW9.out.2
              · exact HC.out.2.1.trans (HW9.out.1.mono (by have:=HC.out.2.1.size;rw [HGB.out] at this;exact this))
            case measure =>
              show 2 - ((1:Int) + 1).toNat < 2 - (1:Int).toNat
              omega
        · simp only [show ((2:Nat):Int) = 2 from rfl] at *
          obtain ⟨b0,b1,-⟩:=pr_cells hcb
          have hr9:=keepz H6.out.2.1 HC.out.2.2
          have HR9:=Lib.hid hr9
          clear hr9 hcb HCo
          go_wp2_with fail
          refine HNo.out.mono ?_
          rintro e w8 ⟨R,rfl,hn8,he8,hb8⟩
          have H8:=Lib.hid (And.intro hn8 (And.intro he8 hb8))
          clear hn8 he8 hb8 HNo b0 b1
          go_wp2_with fail
          refine (HTw.out _ _).mono ?_
          rintro e w9 ⟨rfl,hb9⟩
          have hr9:=keepz (keepz HR9.out H8.out.2.2) hb9
          obtain ⟨z0,z1,zf⟩:=pr_cells hr9
          obtain ⟨t0,t1,-⟩:=pr_cells (set2 (.pointer (rootP R)) (.pointer (rootP R)) hr9)
          have hbw:Below w.heap.size w ((w9.setCell ⟨w.heap.size,0,none⟩ (.pointer (rootP R))).setCell ⟨w.heap.size,1,none⟩ (.pointer (rootP R))):=((Below.andThen (Below.andThen (Below.andThen H6.out.1 HC.out.2.2) H8.out.2.2) hb9).setCell (p:=⟨w.heap.size,0,none⟩) (Nat.le_refl _) _).setCell (p:=⟨w.heap.size,1,none⟩) (Nat.le_refl _) _
          have hkp:Kp k w9 ((w9.setCell ⟨w.heap.size,0,none⟩ (.pointer (rootP R))).setCell ⟨w.heap.size,1,none⟩ (.pointer (rootP R))):=pair_keeps hr9 (by decide) _ _
          have H9:=Lib.hid (And.intro hbw (And.intro hkp hb9))
          clear hr9 hbw hkp hb9
          go_wp2_with fail
          refine bodyPost_ret (v:=p2V (rootP R) (rootP R)) (by simp [results,Tryz.results180,go_sem,t0,t1]) rfl ?_
          have hsz:w9.heap.size≤((w9.setCell ⟨w.heap.size,0,none⟩ (.pointer (rootP R))).setCell ⟨w.heap.size,1,none⟩ (.pointer (rootP R))).heap.size:=by simp
          have hnR:NodeO ((w9.setCell ⟨w.heap.size,0,none⟩ (.pointer (rootP R))).setCell ⟨w.heap.size,1,none⟩ (.pointer (rootP R))) ((w9.setCell ⟨w.heap.size,0,none⟩ (.pointer (rootP R))).setCell ⟨w.heap.size,1,none⟩ (.pointer (rootP R))).heap.size k R:=fun x hx =>
            (H9.out.2.1 _ _ (Nat.le_refl _) (H8.out.1.below H9.out.2.2 (Nat.le_refl _) H9.out.2.2.size x hx)).below (Below.refl _ _) hsz hsz
          exact ⟨R,R,rfl,hnR,hnR,H8.out.2.1,H8.out.2.1,H9.out.1⟩
/-! ### rows cut -/
theorem RowZ.take {α:Type} {e:TypeId} {n:Nat} {Q:(Nat→Option Value)→α→Prop} {Z:Nat→Value→Prop} {w:World} {base g len d:Nat} {L:List α} (h:RowZ e n Q Z w base (.slice (some ⟨g,0,none⟩) len d) L) (hQ:QOk n Q) (hn:0 < n) (hz:∀ f x,Q f x→∀ j c,j < n→f j = some c→Z j c) {m:Nat} (hm:m≤L.length):RowZ e n Q Z w base (.slice (some ⟨g,0,none⟩) m d) (L.take m):=by
  rcases h with ⟨h1,-⟩ | ⟨g',cap,cur,vs,h1,hg,hh,h2,h3,h4,h5,h6,h7⟩
  · simp at h1
  · simp only [Value.slice.injEq,Option.some.injEq,Addr.mk.injEq,and_true] at h1
    obtain ⟨rfl,-,rfl⟩:=h1
    have hl:(L.take m).length = m:=by rw [List.length_take];omega
    have hmn:m * n≤L.length * n:=Nat.mul_le_mul_right _ hm
    have hget:∀ i,i < L.length * n→vs[i]? = cur[i]?:=fun i hi => by
      rw [← h5,List.getElem?_take,if_pos hi]
      simp
    refine .inr ⟨g,d,cur,cur.toList.take (m * n),by rw [hl],hg,hh,by omega,h3,h4,by rw [hl],⟨?_,fun i x hx => ?_⟩,fun i c hi hc => ?_⟩
    · have hlc:cur.toList.length = d * n:=by rw [← h4];simp
      rw [hl,List.length_take,hlc]
      have:L.length * n≤d * n:=Nat.mul_le_mul_right _ h2
      omega
    · have hi:i < m:=by have:=(List.getElem?_eq_some_iff.1 hx).1;omega
      rw [List.getElem?_take,if_pos hi] at hx
      refine hQ.ext _ _ _ (fun j hj => ?_) (h6.2 i x hx)
      have hij:i * n + j < m * n:=idx_lt hi hj
      rw [hget _ (by omega),List.getElem?_take,if_pos hij]
      simp
    · rcases Nat.lt_or_ge i (L.length * n) with c1 | c1
      · have hd:i / n < L.length:=Nat.div_lt_of_lt_mul (by rw [Nat.mul_comm];exact c1)
        obtain ⟨x,hx⟩:=get_lt hd
        have e1:i / n * n + i % n = i:=by rw [Nat.mul_comm];exact Nat.div_add_mod i n
        refine hz _ x (h6.2 _ x hx) (i % n) c (Nat.mod_lt _ hn) ?_
        show vs[i / n * n + i % n]? = _
        rw [e1,hget i c1]
        exact hc
      · exact h7 i c c1 hc
/-! ### rows of steps -/
def SkQ (f:Nat→Option Value) (q:Nat):Prop:=f 0 = some (.pointer (some ⟨q,0,none⟩))
theorem skQ_ok:QOk 1 SkQ where
  ext:=by
    rintro f g s h h0
    exact (h 0 (by omega)).symm.trans h0
  has:=by
    rintro f s h0 j hj
    have:j = 0:=by omega
    subst this
    exact ⟨_,h0,rfl⟩
theorem skQ_nu:∀ f x,SkQ f x→∀ j c,j < 1→f j = some c→NU c:=by
  intro f x h0 j c hj hc
  have:j = 0:=by omega
  subst this
  have h0':f 0 = some (.pointer (some ⟨x,0,none⟩)):=h0
  rw [h0'] at hc
  cases hc
  exact nu_ptr _
theorem nz_ptr:∀ i c,(Value.pointer none).cells[i]? = some c→NZ i c:=by
  intro i c hc
  have hi:i = 0:=by have:=(Array.getElem?_eq_some_iff.1 hc).1;simp [Value.cells] at this;omega
  subst hi
  have hc':some (Value.pointer none) = some c:=hc
  cases hc'
  exact nu_ptr _
abbrev SkRow (w:World) (base:Nat) (v:Value) (L:List Nat):Prop:=RowZ 179 1 SkQ NZ w base v L
theorem SkRow.keeps {k:Nat} {w w':World} {base:Nat} {v:Value} {L:List Nat} (h:SkRow w base v L) (hgr:w.grownBy w' v.ownBlock):Kp k w w' :=
  RowZ.keeps h (by omega) skQ_nu (fun _ _ h => h) (by decide) hgr
/-! ### frames -/
structure FmS where
  q:Nat
  l:Nat
  t:Tri
  P:List PlS
  D:Option Addr
  d:Nat
def FmS.v (f:FmS):Value:=.slice f.D f.P.length f.d
def FmS.own (f:FmS) (b:Nat):Prop:=b = f.q∨f.v.ownBlock = some b
structure FrS (w:World) (B k:Nat) (f:FmS):Prop where
  ok:∃ c0,Tr.FrmOk k f.l c0 f.t∧∀ x∈f.t.list,Tr.Wf k x∧x.lv≤f.l + 1∧Z.cut x.pre (f.l + 1) = c0
  nt:TriN w B k f.t
  ho:f.t.o = none
  rem:f.P ++ f.t.rem f.l (nextP f.P) = f.t.rem f.l 0
  n5:nextP f.P≤65536
  n6:f.P.length≤nextP f.P
  ne:f.t.list≠[]
structure FrC (base:Nat) (wr:World) (f:FmS):Prop where
  cell:wr.heap[f.q]? = some (.cells (stS f.t f.l f.v) 245 (0,0))
  row:PsRow wr base f.v f.P
  vq:f.v.ownBlock≠some f.q
  qb:base≤f.q
theorem FrC.lt {base:Nat} {wr:World} {f:FmS} (h:FrC base wr f):∀ b,f.own b→base≤b∧b < wr.heap.size:=fun b hb => by
  rcases hb with rfl | hb
  · exact ⟨h.qb,(Array.getElem?_eq_some_iff.1 h.cell).1⟩
  · exact h.row.lt b hb
theorem FrC.carry {base:Nat} {wr wr':World} {f:FmS} (h:FrC base wr f) (hb:∀ b,f.own b→wr'.heap[b]? = wr.heap[b]?):FrC base wr' f :=
  ⟨(hb _ (.inl rfl)).trans h.cell,h.row.block fun q hq => hb q (.inr hq),h.vq,h.qb⟩
theorem FrS.place {w:World} {B k:Nat} {f:FmS} (h:FrS w B k f) {x:Nat × Tri} {n:Nat} (hx:x∈f.t.rem f.l n):TriN w B k x.2∧Tr.TriOk k f.l x.2∧x.2.list≠[]∧x.1 < 65536∧n≤x.1∧x.2.o = none:=by
  obtain ⟨c0,hf,-⟩:=h.ok
  obtain ⟨h1,h2,h3,h4,ho,ha,hb⟩:=hf.place hx
  refine ⟨⟨fun y e => sd_node h.nt.o (ho y e),fun y e => sd_node h.nt.a (ha y e),fun y e => sd_node h.nt.b (hb y e)⟩,h1,h2,h3,h4,?_⟩
  cases e:x.2.o with
  | none => rfl
  | some y =>
    have:=ho y e
    rw [h.ho] at this
    cases this
def LevS2:List FmS→Prop
  | [] => True
  | f :: S => f.l + (S.length + 1)≤64∧LevS2 S
def roomS:List FmS→Nat
  | [] => 64
  | f :: _ => f.l
theorem LevS2.room:∀ {S:List FmS},LevS2 S→roomS S + S.length≤64
  | [],_ => Nat.le_refl _
  | _ :: _,h => h.1
def wSS (S:List FmS):Nat:=(S.map fun f => Tr.w3M (f.t.rem f.l (nextP f.P))).sum
theorem wSS_cons (f:FmS) (S:List FmS):wSS (f :: S) = Tr.w3M (f.t.rem f.l (nextP f.P)) + wSS S:=by simp [wSS]
/-! ### who is told -/
def All2 {ρ:Type} (R:Tri→ρ→Prop) (P:List PlS) (xs:List ρ):Prop:=P.length = xs.length∧∀ (i:Nat) (p:PlS) (x:ρ),P[i]? = some p→xs[i]? = some x→R p.2 x
theorem All2.nil {ρ:Type} (R:Tri→ρ→Prop):All2 R [] []:=⟨rfl,fun i p x h => by simp at h⟩
theorem All2.snoc {ρ:Type} {R:Tri→ρ→Prop} {P:List PlS} {xs:List ρ} (h:All2 R P xs) {p:PlS} {x:ρ} (hr:R p.2 x):All2 R (P ++ [p]) (xs ++ [x]):=by
  refine ⟨by simp [h.1],fun i q y hq hy => ?_⟩
  rcases Nat.lt_or_ge i P.length with c | c
  · rw [List.getElem?_append_left c] at hq
    rw [List.getElem?_append_left (by rw [← h.1];exact c)] at hy
    exact h.2 i q y hq hy
  · have hi:=(List.getElem?_eq_some_iff.1 hq).1
    simp only [List.length_append,List.length_singleton] at hi
    have:i = P.length:=by omega
    subst this
    rw [List.getElem?_append_right (Nat.le_refl _)] at hq
    rw [List.getElem?_append_right (by rw [h.1];exact Nat.le_refl _)] at hy
    simp only [Nat.sub_self,List.getElem?_cons_zero,Option.some.injEq] at hq
    rw [h.1] at hy
    simp only [Nat.sub_self,List.getElem?_cons_zero,Option.some.injEq] at hy
    subst hq hy
    exact hr
def TermS (kf:Tri→Bool) (u:Tri):Prop:=u.a = none∨u.b = none∨kf u = true∨∃ p g v g' v',u.a = some (.ent g p v)∧u.b = some (.ent g' p v')
def lvV:Option (Nat × Array Value)→Value
  | none => Value.nilFunc
  | some (f,l) => .func (.func f) #[] l
structure VisitL {ρ:Type} (fk:Nat) (lk:Array Value) (ft:Nat) (lt:Array Value) (lv:Option (Nat × Array Value)) (B k Mx:Nat) (kf:Tri→Bool) (R:Tri→ρ→Prop) (N:Tri→Prop) (Inv:List ρ→World→(Nat→Prop)→Prop) (Stop:World→Prop):Prop where
  entk:∀ args w,(callFunc fk args).run Tryz.prog w = .ok (.enter fk args) w
  entt:∀ args w,(callFunc ft args).run Tryz.prog w = .ok (.enter ft args) w
  entl:∀ fl ll,lv = some (fl,ll)→∀ args w,(callFunc fl args).run Tryz.prog w = .ok (.enter fl args) w
  frame:∀ us w w' F,Inv us w F→w.heap.size≤w'.heap.size→(∀ b,F b→w'.heap[b]? = w.heap[b]?)→Kp k w w'→Inv us w' F
  inb:∀ us w F,Inv us w F→∀ b,F b→b < w.heap.size∧B≤b
  up:∀ l c0 t a u,Tr.FrmOk k l c0 t→t.o = none→(a,u)∈t.rem l 0→N u→N t
  known:∀ us w F u x y,Inv us w F→TriN w B k u→u.o = none→u.a = some x→u.b = some y→B≤w.heap.size→Calls Tryz.prog fk (#[prS u] ++ lk) w fun e w' => e = .returned (.bool (kf u))∧Below w.heap.size w w'
  tell:∀ us w F u,Inv us w F→TriN w B k u→u.o = none→TermS kf u→B≤w.heap.size→us.length + 1≤Mx→Calls Tryz.prog ft (#[prS u] ++ lt) w fun e w' => ∃ F':Nat→Prop,(∀ b,F' b→F b∨w.heap.size≤b)∧Foot F w w' ∧
    ((e = .returned (.bool true)∧(∃ x,R u x∧Inv (us ++ [x]) w' F')∧Kp k w w')∨(e = .returned (.bool false)∧Stop w'∧N u))
  leaven:lv = none→∀ us xs w F f,Inv (us ++ xs) w F→FrS w B k f→f.t.rem f.l (nextP f.P) = []→All2 R f.P xs→∃ x,R f.t x∧Inv (us ++ [x]) w F
  leave:∀ fl ll,lv = some (fl,ll)→∀ us xs w F f base,Inv (us ++ xs) w F→FrS w B k f→FrC base w f→(∀ b,f.own b→¬ F b)→f.t.rem f.l (nextP f.P) = []→All2 R f.P xs→B≤w.heap.size→(us ++ xs).length≤Mx→cnt3 f.t≤1000000000 →
    Calls Tryz.prog fl (#[.pointer (some ⟨f.q,0,none⟩)] ++ ll) w fun e w' => e = .returned (.tuple #[])∧∃ x F',R f.t x∧Inv (us ++ [x]) w' F'∧(∀ b,F' b→F b∨w.heap.size≤b)∧Foot F w w'∧Kp k w w'
def PendS {ρ:Type} (R:Tri→ρ→Prop) (t0:Tri):Tri→List FmS→List ρ→Prop
  | u,[],us => u = t0∧us = []
  | u,f :: S,us => ∃ P' a us' xs,f.P = P' ++ [(a,u)]∧us = us' ++ xs∧All2 R P' xs∧PendS R t0 f.t S us'
def DoneS {ρ:Type} (R:Tri→ρ→Prop) (t0:Tri):List FmS→List ρ→Prop
  | [],us => ∃ x,us = [x]∧R t0 x
  | f :: S,us => ∃ us' xs,us = us' ++ xs∧All2 R f.P xs∧PendS R t0 f.t S us'
theorem PendS.done {ρ:Type} {R:Tri→ρ→Prop} {t0 u:Tri} {S:List FmS} {us:List ρ} (h:PendS R t0 u S us) {x:ρ} (hr:R u x):DoneS R t0 S (us ++ [x]):=by
  cases S with
  | nil =>
    obtain ⟨rfl,rfl⟩:=h
    exact ⟨x,rfl,hr⟩
  | cons f S =>
    obtain ⟨P',a,us',xs,hP,rfl,ha,hp⟩:=h
    refine ⟨us',xs ++ [x],by simp,?_,hp⟩
    rw [hP]
    exact ha.snoc (p:=(a,u)) hr
theorem PendS.fail {ρ:Type} {R:Tri→ρ→Prop} {N:Tri→Prop} {w:World} {B k:Nat} (hup:∀ l c0 t a u,Tr.FrmOk k l c0 t→t.o = none→(a,u)∈t.rem l 0→N u→N t) {t0:Tri}:∀ {S:List FmS} {u:Tri} {us:List ρ},PendS R t0 u S us→(∀ f∈S,FrS w B k f)→N u→N t0
  | [],_,_,h,_,hn => h.1 ▸ hn
  | f :: S,u,us,h,hf,hn => by
    obtain ⟨P',a,us',xs,hP,-,-,hp⟩:=h
    have hfs:=hf f List.mem_cons_self
    obtain ⟨c0,hfo,-⟩:=hfs.ok
    refine PendS.fail hup hp (fun g hg => hf g (List.mem_cons_of_mem _ hg)) (hup f.l c0 f.t a u hfo hfs.ho ?_ hn)
    rw [← hfs.rem,hP]
    simp
end Go.Proofs.YtkeepngaaleakaaGreatDoor
