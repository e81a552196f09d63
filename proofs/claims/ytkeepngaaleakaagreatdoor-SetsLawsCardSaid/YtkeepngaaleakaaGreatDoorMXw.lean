import Derived.Test.YtkeepngaaleakaaGreatDoorMXt
namespace Go.Proofs.YtkeepngaaleakaaGreatDoor
open Go.ChangeShapes Go.WideShapes Go.ChangeAt Go.RowKit
open Tr (T S4 Ent Tri KL)
theorem bb_cells {w':World} {g:Nat} {a b:Value} {ty:TypeId} (h:w'.heap[g]? = some (.cells #[a,b] ty (0,0))):w'.cell? ⟨g,0,none⟩ = some a∧w'.cell? ⟨g,1,none⟩ = some b∧∀ i,w'.frozen? ⟨g,i,none⟩ = false:=by
  refine ⟨?_,?_,fun i => frozen_of_row w' g i _ _ h⟩
  all_goals rw [cell_of_row w' _ _ _ _ (0,0) h];rfl
theorem setB {W:World} {g:Nat} {a b:Value} {ty:TypeId} (x y:Value) (h:W.heap[g]? = some (.cells #[a,b] ty (0,0))):((W.setCell ⟨g,0,none⟩ x).setCell ⟨g,1,none⟩ y).heap[g]? = some (.cells #[x,y] ty (0,0)):=set2 x y h
theorem drew_hp (w:World):w.drew.heap = w.heap:=rfl
theorem ent_sum (g v:Nat) (p:List Nat):(Tr.sums (Tr.entsO (some (.ent g p v)))).s = v:=by
  simp [Tr.entsO,Tr.T.ents,Tr.sums,Tr.sumsF,Tr.tog,Tr.s0,Tr.s1]
set_option maxRecDepth 1000000 in
set_option maxHeartbeats 8000000 in
theorem sEntry_c {w:World} {B k g g':Nat} {u:Tri} {p:List Nat} {v v' z:Nat} (hu:TriN w B k u) (ha:u.a = some (.ent g p v)) (hb:u.b = some (.ent g' p v')) (hB:B≤w.heap.size) (hz:z < 18446744073709551616) :
    Calls Tryz.prog 129 #[p2V (rootP u.a) (rootP u.b),.int .u64 (z:Int)] w fun e w' => ∃ X Y:Option T,e = .returned (p2V (rootP X) (rootP Y))∧NodeO w' w'.heap.size k X∧NodeO w' w'.heap.size k Y∧Tr.entsO X = [(p,z)]∧Tr.entsO Y = [(p,z)]∧Below w.heap.size w w':=by
  obtain ⟨W0,hW0⟩:∃ W0,W0 = (w.alloc (.cells #[.pointer (rootP u.a),.pointer (rootP u.b)] 97)).alloc (.cells #[.pointer none,.pointer none] 97):=⟨_,rfl⟩
  have hb0:Below w.heap.size w W0:=by rw [hW0];exact Below.andThen (below_alloc _ _) (below_alloc _ _)
  have hr0:W0.heap[w.heap.size]? = some (.cells #[.pointer (rootP u.a),.pointer (rootP u.b)] 97 (0,0)):=by rw [hW0];exact keepz (heap_at w _ _ rfl) (below_alloc _ _)
  have hq0:W0.heap[w.heap.size + 1]? = some (.cells #[.pointer none,.pointer none] 97 (0,0)):=by
    rw [hW0]
    have h:=heap_at (w.alloc (.cells #[.pointer (rootP u.a),.pointer (rootP u.b)] 97)) (.cells #[.pointer none,.pointer none] 97) _ rfl
    rw [World.size_alloc] at h
    exact h
  have hlt:w.heap.size < W0.heap.size:=(Array.getElem?_eq_some_iff.1 hr0).1
  have m0:∀ w2,Below W0.heap.size W0 w2→w2.cell? ⟨w.heap.size,0,none⟩ = some (.pointer (rootP u.a)):=fun w2 hb => by rw [cell_of_row w2 _ _ _ _ (0,0) ((hb.block _ hlt).trans hr0)];rfl
  have m1:∀ w2,Below W0.heap.size W0 w2→w2.cell? ⟨w.heap.size,1,none⟩ = some (.pointer (rootP u.b)):=fun w2 hb => by rw [cell_of_row w2 _ _ _ _ (0,0) ((hb.block _ hlt).trans hr0)];rfl
  have hB0:B≤W0.heap.size:=Nat.le_trans hB hb0.size
  have H1:Hid (∀ w2,Below W0.heap.size W0 w2→Calls Tryz.prog 92 #[.pointer (rootP u.a)] w2 fun e w3 => ∃ x y z:Int,e = .returned (.agg #[.int .u64 x,.int .u64 (v:Int),.int .u64 y,.int .u64 z])∧Below w2.heap.size w2 w3):=Lib.hid fun w2 h2 => by
    refine (nSums_o (hu.a.below (Below.andThen hb0 h2) hB (Nat.le_refl _)) (Nat.le_trans hB0 h2.size)).mono ?_
    rintro e w3 ⟨rfl,hb3⟩
    have hs:(Tr.sums (Tr.entsO u.a)).s = v:=by rw [ha,ent_sum]
    exact ⟨_,_,_,by rw [sumsV,hs],hb3⟩
  have H2:Hid (∀ w2,Below W0.heap.size W0 w2→Calls Tryz.prog 92 #[.pointer (rootP u.b)] w2 fun e w3 => ∃ x y z:Int,e = .returned (.agg #[.int .u64 x,.int .u64 (v':Int),.int .u64 y,.int .u64 z])∧Below w2.heap.size w2 w3):=Lib.hid fun w2 h2 => by
    refine (nSums_o (hu.b.below (Below.andThen hb0 h2) hB (Nat.le_refl _)) (Nat.le_trans hB0 h2.size)).mono ?_
    rintro e w3 ⟨rfl,hb3⟩
    have hs:(Tr.sums (Tr.entsO u.b)).s = v':=by rw [hb,ent_sum]
    exact ⟨_,_,_,by rw [sumsV,hs],hb3⟩
  have HW:=Lib.hid (And.intro hW0 (And.intro hb0 (And.intro hr0 hq0)))
  have h00:=Below.refl W0.heap.size W0
  have HX:=Lib.hid (And.intro hu (And.intro ha (And.intro hb (And.intro hB hz))))
  clear hu ha hb hB hz hr0 hlt hB0 hW0 hb0 hq0
  obtain ⟨pa,hpa⟩:∃ p,rootP u.a = p:=⟨_,rfl⟩
  obtain ⟨pb,hpb⟩:∃ p,rootP u.b = p:=⟨_,rfl⟩
  rw [hpa] at H1 m0
  rw [hpb] at H2 m1
  rw [hpa,hpb]
  have HP:=Lib.hid (And.intro hpa hpb)
  clear hpa hpb
  obtain ⟨f0,hf0⟩:∃ f,((v:Int) == (z:Int)) = f:=⟨_,rfl⟩
  obtain ⟨f1,hf1⟩:∃ f,((v':Int) == (z:Int)) = f:=⟨_,rfl⟩
  have i1:=sum_sum
  have hW2:W0 = (w.alloc (.cells #[.pointer pa,.pointer pb] 97)).alloc (.cells #[.pointer none,.pointer none] 97):=by rw [← HP.out.1,← HP.out.2];exact HW.out.1
  have HW2:=Lib.hid hW2
  clear hW2
  go_enter Tryz.func129,Tryz.ntmps129
  go_upto_region 1 with fail
  rw [← HW2.out]
  go_cut [5] from 10 (fun q wx => ∃ gf,q = Value.pointer (some ⟨gf,0,none⟩)∧wx.heap[gf]? = some (.cells #[.bool f0,.bool f1] 236 (0,0))∧Below W0.heap.size W0 wx)
  case first =>
    have x00:=m0 W0 (Below.refl _ _)
    have x01:=m1 W0 (Below.refl _ _)
    have HM:=Lib.hid (And.intro m0 m1)
    have xa0:∀ ob,(W0.alloc ob).cell? ⟨w.heap.size,0,none⟩ = some (.pointer pa):=fun ob => m0 _ (below_alloc W0 ob)
    have xa1:∀ ob,(W0.alloc ob).cell? ⟨w.heap.size,1,none⟩ = some (.pointer pb):=fun ob => m1 _ (below_alloc W0 ob)
    clear m0 m1
    go_region_law ((first
      | (go_simp;go_at_call 92;with_reducible (refine (H1.out _ ?hb0).mono ?_);(case hb0 => exact (show Below W0.heap.size W0 _ by ((repeat first | refine bD ?_ | with_reducible refine bN ?_ | refine bA ?_ | refine bS ?_);first | exact bR | assumption | exact bN bR | exact bN (bN bR))));rintro e wa ⟨x1,x2,x3,rfl,hba⟩;have hBa:Below W0.heap.size W0 wa:=Below.trans (show Below W0.heap.size W0 _ by ((repeat first | refine bD ?_ | with_reducible refine bN ?_ | refine bA ?_ | refine bS ?_);first | exact bR | assumption | exact bN bR | exact bN (bN bR))) (hba.mono (Below.size (show Below W0.heap.size W0 _ by ((repeat first | refine bD ?_ | with_reducible refine bN ?_ | refine bA ?_ | refine bS ?_);first | exact bR | assumption | exact bN bR | exact bN (bN bR)))));have haa:=Below.refl wa.heap.size wa;have x02:=HM.out.2 wa hBa;have xa2:∀ ob,(wa.alloc ob).cell? ⟨w.heap.size,1,none⟩ = some (.pointer pb):=fun ob => HM.out.2 _ (hBa.trans ((below_alloc wa ob).mono hBa.size));(first | have k1:wa.heap[W0.heap.size]? = some (.cells #[.bool false,.bool false] 236 (0,0)):=Eq.trans (hba.block W0.heap.size (by simp)) (heap_at W0 (.cells #[.bool false,.bool false] 236) _ rfl) | have k1:wa.heap[W0.heap.size]? = some (.cells #[.bool false,.bool false] 236 (0,0)):=Eq.trans (hba.block W0.heap.size (by simp)) (Eq.trans (congrArg (fun (h:Array Obj) => h[W0.heap.size]?) (drew_hp (W0.alloc (.cells #[.bool false,.bool false] 236)))) (heap_at W0 (.cells #[.bool false,.bool false] 236) _ rfl)) | have k1:True:=True.intro))
      | (go_simp;go_at_call 92;with_reducible (refine (H2.out _ ?hb1).mono ?_);(case hb1 => exact (hBa.trans (Below.mono (show Below wa.heap.size wa _ by ((repeat first | refine bD ?_ | with_reducible refine bN ?_ | refine bA ?_ | refine bS ?_);first | exact bR | assumption | exact bN bR | exact bN (bN bR))) hBa.size)));rintro e wd ⟨y1,y2,y3,rfl,hbd⟩;have hBd:Below W0.heap.size W0 wd:=hBa.trans (Below.mono (Below.trans (show Below wa.heap.size wa _ by ((repeat first | refine bD ?_ | with_reducible refine bN ?_ | refine bA ?_ | refine bS ?_);first | exact bR | assumption | exact bN bR | exact bN (bN bR))) (hbd.mono (Below.size (show Below wa.heap.size wa _ by ((repeat first | refine bD ?_ | with_reducible refine bN ?_ | refine bA ?_ | refine bS ?_);first | exact bR | assumption | exact bN bR | exact bN (bN bR)))))) hBa.size);(first | (have k2:wd.heap[wa.heap.size]? = some (.cells #[.bool false,.bool false] 236 (0,0)):=Eq.trans (hbd.block wa.heap.size (by simp)) (heap_at wa (.cells #[.bool false,.bool false] 236) _ rfl);have c0:=(bb_cells k2).1;have c1:=(bb_cells k2).2.1;have cf0:=(bb_cells k2).2.2 0;have cf1:=(bb_cells k2).2.2 1) | (have k2:wd.heap[W0.heap.size]? = some (.cells #[.bool false,.bool false] 236 (0,0)):=Eq.trans (hbd.block W0.heap.size (Array.getElem?_eq_some_iff.1 k1).1) k1;have c0:=(bb_cells k2).1;have c1:=(bb_cells k2).2.1;have cf0:=(bb_cells k2).2.2 0;have cf1:=(bb_cells k2).2.2 1) | skip))))
    all_goals go_wp2_with fail
    all_goals go_meet
    all_goals first
      | exact ⟨_,rfl,heap_at wd _ _ rfl,hBd.trans ((below_alloc wd _).mono hBd.size)⟩
      | exact ⟨_,rfl,setB _ _ k2,(hBd.setCell (p:=⟨W0.heap.size,0,none⟩) (Nat.le_refl _) _).setCell (p:=⟨W0.heap.size,1,none⟩) (Nat.le_refl _) _⟩
      | exact ⟨_,rfl,setB _ _ k2,(hBd.setCell (p:=⟨wa.heap.size,0,none⟩) hBa.size _).setCell (p:=⟨wa.heap.size,1,none⟩) hBa.size _⟩
      | trace_state
  case rest =>
  obtain ⟨gf,rfl,hgf,hbc⟩:=hcut
  have x0:=m0 wc hbc
  have x1:=m1 wc hbc
  obtain ⟨c0,c1,-⟩:=bb_cells hgf
  have HKp:=Lib.hid fun (w1:World) => sKeptP_c pa pb f0 f1 w1
  have HC:=Lib.hid (And.intro hbc (And.intro hgf (keepz HW.out.2.2.2 hbc)))
  have HF:=Lib.hid (And.intro hf0 hf1)
  have HMm:=Lib.hid (And.intro m0 m1)
  clear m0 m1 h00 hgf hbc H1 H2 HW2 i1 hf0 hf1
  go_wp2_with fail
  refine (HKp.out _).mono ?_
  rintro e w3 ⟨rfl,hb3⟩
  have hB3:Below wc.heap.size wc w3:=hb3
  obtain ⟨q0,q1,qf⟩:=pr_cells (keepz HC.out.2.2 hB3)
  have qf0:=qf 0
  have qf1:=qf 1
  have H3:=Lib.hid (And.intro hB3 (keepz HC.out.2.2 hB3))
  have x3:w3.cell? ⟨w.heap.size,0,none⟩ = some (.pointer pa):=HMm.out.1 w3 (HC.out.1.trans (hB3.mono HC.out.1.size))
  have hn:w3.heap.size≠w.heap.size + 1:=by have:=(Array.getElem?_eq_some_iff.1 (keepz HC.out.2.2 hB3)).1;omega
  clear hb3 hB3 qf HKp x0 x1 c0 c1
  cases f0 with
  | true =>
    cases f1 with
    | true =>
      rw [show keptP pa pb true true = (pa,pb) from rfl,show (true || true) = true from rfl]
      have hq4:=heap_past (.cells #[.pointer pa,.pointer pb] 97) H3.out.2
      obtain ⟨q0,q1,qf⟩:=pr_cells hq4
      have qf0:=qf 0
      have qf1:=qf 1
      have r2:=set2 (.pointer pa) (.pointer pb) hq4
      obtain ⟨t0,t1,-⟩:=pr_cells r2
      have hb9:Below w.heap.size w (((w3.alloc (.cells #[.pointer pa,.pointer pb] 97)).setCell ⟨w.heap.size + 1,0,none⟩ (.pointer pa)).setCell ⟨w.heap.size + 1,1,none⟩ (.pointer pb)):=((Below.andThen HW.out.2.1 (Below.andThen HC.out.1 (Below.andThen H3.out.1 (below_alloc w3 _)))).setCell (p:=⟨w.heap.size + 1,0,none⟩) (Nat.le_succ _) _).setCell (p:=⟨w.heap.size + 1,1,none⟩) (Nat.le_succ _) _
      have H9:=Lib.hid hb9
      clear hq4 qf r2 hb9
      go_wp2_with fail
      refine bodyPost_ret (v:=p2V pa pb) (by simp [results,Tryz.results129,go_sem,t0,t1]) rfl ?_
      obtain ⟨hu,ha,hb,hB,hz⟩:=HX.out
      have hna:=hu.a.below H9.out hB (Nat.le_trans hB H9.out.size)
      have hnb:=hu.b.below H9.out hB (Nat.le_trans hB H9.out.size)
      have ez:v = z:=by have h:=HF.out.1;rw [beq_iff_eq] at h;omega
      have ea:Tr.entsO u.a = [(p,z)]:=by rw [ha,← ez];simp [Tr.entsO,Tr.T.ents]
      have ez':v' = z:=by have h:=HF.out.2;rw [beq_iff_eq] at h;omega
      have eb:Tr.entsO u.b = [(p,z)]:=by rw [hb,← ez'];simp [Tr.entsO,Tr.T.ents]
      exact ⟨u.a,u.b,by rw [HP.out.1,HP.out.2],hna,hnb,ea,eb,H9.out⟩
    | false =>
      rw [show keptP pa pb true false = (pa,pa) from rfl,show (true || false) = true from rfl]
      have hq4:=heap_past (.cells #[.pointer pa,.pointer pa] 97) H3.out.2
      obtain ⟨q0,q1,qf⟩:=pr_cells hq4
      have qf0:=qf 0
      have qf1:=qf 1
      have r2:=set2 (.pointer pa) (.pointer pa) hq4
      obtain ⟨t0,t1,-⟩:=pr_cells r2
      have hb9:Below w.heap.size w (((w3.alloc (.cells #[.pointer pa,.pointer pa] 97)).setCell ⟨w.heap.size + 1,0,none⟩ (.pointer pa)).setCell ⟨w.heap.size + 1,1,none⟩ (.pointer pa)):=((Below.andThen HW.out.2.1 (Below.andThen HC.out.1 (Below.andThen H3.out.1 (below_alloc w3 _)))).setCell (p:=⟨w.heap.size + 1,0,none⟩) (Nat.le_succ _) _).setCell (p:=⟨w.heap.size + 1,1,none⟩) (Nat.le_succ _) _
      have H9:=Lib.hid hb9
      clear hq4 qf r2 hb9
      go_wp2_with fail
      refine bodyPost_ret (v:=p2V pa pa) (by simp [results,Tryz.results129,go_sem,t0,t1]) rfl ?_
      obtain ⟨hu,ha,hb,hB,hz⟩:=HX.out
      have hna:=hu.a.below H9.out hB (Nat.le_trans hB H9.out.size)
      have hnb:=hu.b.below H9.out hB (Nat.le_trans hB H9.out.size)
      have ez:v = z:=by have h:=HF.out.1;rw [beq_iff_eq] at h;omega
      have ea:Tr.entsO u.a = [(p,z)]:=by rw [ha,← ez];simp [Tr.entsO,Tr.T.ents]
      exact ⟨u.a,u.a,by rw [HP.out.1],hna,hna,ea,ea,H9.out⟩
  | false =>
    cases f1 with
    | true =>
      rw [show keptP pa pb false true = (pb,pb) from rfl,show (false || true) = true from rfl]
      have hq4:=heap_past (.cells #[.pointer pb,.pointer pb] 97) H3.out.2
      obtain ⟨q0,q1,qf⟩:=pr_cells hq4
      have qf0:=qf 0
      have qf1:=qf 1
      have r2:=set2 (.pointer pb) (.pointer pb) hq4
      obtain ⟨t0,t1,-⟩:=pr_cells r2
      have hb9:Below w.heap.size w (((w3.alloc (.cells #[.pointer pb,.pointer pb] 97)).setCell ⟨w.heap.size + 1,0,none⟩ (.pointer pb)).setCell ⟨w.heap.size + 1,1,none⟩ (.pointer pb)):=((Below.andThen HW.out.2.1 (Below.andThen HC.out.1 (Below.andThen H3.out.1 (below_alloc w3 _)))).setCell (p:=⟨w.heap.size + 1,0,none⟩) (Nat.le_succ _) _).setCell (p:=⟨w.heap.size + 1,1,none⟩) (Nat.le_succ _) _
      have H9:=Lib.hid hb9
      clear hq4 qf r2 hb9
      go_wp2_with fail
      refine bodyPost_ret (v:=p2V pb pb) (by simp [results,Tryz.results129,go_sem,t0,t1]) rfl ?_
      obtain ⟨hu,ha,hb,hB,hz⟩:=HX.out
      have hna:=hu.a.below H9.out hB (Nat.le_trans hB H9.out.size)
      have hnb:=hu.b.below H9.out hB (Nat.le_trans hB H9.out.size)
      have ez':v' = z:=by have h:=HF.out.2;rw [beq_iff_eq] at h;omega
      have eb:Tr.entsO u.b = [(p,z)]:=by rw [hb,← ez'];simp [Tr.entsO,Tr.T.ents]
      exact ⟨u.b,u.b,by rw [HP.out.2],hnb,hnb,eb,eb,H9.out⟩
    | false =>
      rw [show keptP pa pb false false = (none,none) from rfl,show (false || false) = false from rfl]
      obtain ⟨hu,ha,hb,hB,hz⟩:=HX.out
      have hna:=hu.a _ ha
      have hlen:p.length = k:=hna.1.len
      have k1:=hna.1.k1
      have k16:=hna.1.k16
      obtain ⟨kp,hnd⟩:=hna.2.nd
      have hbw:Below w.heap.size w w3:=Below.andThen HW.out.2.1 (Below.andThen HC.out.1 H3.out.1)
      have hpa:pa = some ⟨g,0,none⟩:=HP.out.1.symm.trans (by rw [ha];rfl)
      have HPx:Hid (∀ w1,Below w.heap.size w w1→Calls Tryz.prog 121 #[.pointer pa] w1 fun e w' => ∃ h d,e = .returned (.slice (some ⟨h,0,none⟩) p.length d)∧Pts w' w'.heap.size (some ⟨h,0,none⟩) p∧Below w1.heap.size w1 w'):=Lib.hid fun w1 h1 => by
        rw [hpa]
        refine (nPrefix_c (hnd.below h1 hB (Nat.le_refl _)) (Nat.le_trans hB h1.size) (by intro e;have e':p = []:=e;rw [e'] at hlen;simp at hlen;omega) (by show p.length≤_;omega)).mono ?_
        rintro e w' ⟨h,d,rfl,ho,hb'⟩
        obtain ⟨A,c,hv,hp⟩:=ho.pts
        simp only [Value.slice.injEq] at hv
        rw [← hv.1] at hp
        exact ⟨h,d,rfl,hp,hb'⟩
      have HLf:Hid (∀ (w1:World) (h d:Nat),Pts w1 w1.heap.size (some ⟨h,0,none⟩) p→Calls Tryz.prog 101 #[.slice (some ⟨h,0,none⟩) p.length d,.int .u64 (z:Int)] w1 fun e w' => ∃ g2,e = .returned (.tuple #[.pointer (some ⟨g2,0,none⟩),.int .i64 0])∧Node w' w'.heap.size k (.ent g2 p z)∧Below w1.heap.size w1 w'):=Lib.hid fun w1 h d hp => by
        refine (nLeaf_c p (some ⟨h,0,none⟩) d w1.heap.size z w1 (Nat.le_refl _) hp (by omega) (by omega) hz).mono ?_
        rintro e w' ⟨g2,rfl,hn2,-,hb'⟩
        rw [hlen] at hn2
        exact ⟨g2,rfl,hn2,hb'⟩
      have HTw:=Lib.hid fun (a:Option Addr) (w1:World) => sTwice_c a w1
      have hq4:=heap_past (.cells #[.pointer none,.pointer none] 97) H3.out.2
      have x4:(w3.alloc (.cells #[.pointer none,.pointer none] 97)).cell? ⟨w.heap.size,0,none⟩ = some (.pointer pa):=HMm.out.1 _ (HC.out.1.trans ((Below.andThen H3.out.1 (below_alloc w3 _)).mono HC.out.1.size))
      have H4:=Lib.hid (And.intro hq4 (Below.andThen hbw (below_alloc w3 (.cells #[.pointer none,.pointer none] 97))))
      clear hu ha hb hB hz hna hlen k1 k16 hnd hbw hpa hq4 q0 q1 qf0 qf1 x3
      go_wp2_with fail
      refine (HPx.out _ H4.out.2).mono ?_
      rintro e w5 ⟨h,d,rfl,hp,hb5⟩
      have H5:=Lib.hid (And.intro (keepz H4.out.1 hb5) (Below.andThen H4.out.2 hb5))
      have HL5:=Lib.hid (HLf.out w5 h d hp)
      clear hp hb5 HPx HLf
      go_wp2_with fail
      refine HL5.out.mono ?_
      rintro e w6 ⟨g2,rfl,hn2,hb6⟩
      have H6:=Lib.hid (And.intro (keepz H5.out.1 hb6) (And.intro (Below.andThen H5.out.2 hb6) hn2))
      clear hn2 hb6 HL5
      go_wp2_with fail
      refine (HTw.out _ _).mono ?_
      rintro e w7 ⟨rfl,hb7⟩
      have hq7:=keepz H6.out.1 hb7
      obtain ⟨q0,q1,qf⟩:=pr_cells hq7
      have qf0:=qf 0
      have qf1:=qf 1
      have r2:=set2 (.pointer (some ⟨g2,0,none⟩)) (.pointer (some ⟨g2,0,none⟩)) hq7
      obtain ⟨t0,t1,-⟩:=pr_cells r2
      have hnN:NodeO w7 w7.heap.size k (some (.ent g2 p z)):=fun t e => by cases e;exact H6.out.2.2.below hb7 (Nat.le_refl _) hb7.size
      have hb9:Below w.heap.size w ((w7.setCell ⟨w.heap.size + 1,0,none⟩ (.pointer (some ⟨g2,0,none⟩))).setCell ⟨w.heap.size + 1,1,none⟩ (.pointer (some ⟨g2,0,none⟩))):=((Below.andThen H6.out.2.1 hb7).setCell (p:=⟨w.heap.size + 1,0,none⟩) (Nat.le_succ _) _).setCell (p:=⟨w.heap.size + 1,1,none⟩) (Nat.le_succ _) _
      have H9:=Lib.hid (And.intro (Kp.nodeO (pair_keeps (k:=k) hq7 (by decide) (some ⟨g2,0,none⟩) (some ⟨g2,0,none⟩)) (by simp) hnN) hb9)
      clear hq7 qf r2 hb7 hnN hb9 HTw
      go_wp2_with fail
      refine bodyPost_ret (v:=p2V (some ⟨g2,0,none⟩) (some ⟨g2,0,none⟩)) (by simp [results,Tryz.results129,go_sem,t0,t1]) rfl ?_
      exact ⟨some (.ent g2 p z),some (.ent g2 p z),rfl,H9.out.1,H9.out.1,by simp [Tr.entsO,Tr.T.ents],by simp [Tr.entsO,Tr.T.ents],H9.out.2⟩
end Go.Proofs.YtkeepngaaleakaaGreatDoor
