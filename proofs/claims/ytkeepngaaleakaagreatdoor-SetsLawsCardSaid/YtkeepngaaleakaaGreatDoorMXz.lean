import Derived.Test.YtkeepngaaleakaaGreatDoorMXw
import Derived.Test.YtkeepngaaleakaaGreatDoorMXx
namespace Go.Proofs.YtkeepngaaleakaaGreatDoor
open Go.ChangeShapes Go.WideShapes Go.ChangeAt Go.RowKit
open Tr (T S4 Ent Tri KL)
abbrev rKf (r:Int) (u:Tri):Bool:=(r != 5 && r != 6) && decide (rootP u.a = rootP u.b)
theorem rKf_same {w:World} {B k:Nat} {u:Tri} {r:Int} (un:Bool) (hu:TriN w B k u) (ho:u.o = none) (h2:r≠2) (h:rKf r u = true):Tr.entsO u.a = Tr.ppT (Tr.jG r un un true) u∧Tr.entsO u.b = Tr.ppT (Tr.jG r un un true) u:=by
  simp only [rKf,Bool.and_eq_true,bne_iff_ne,decide_eq_true_eq] at h
  have he:=nodeO_same hu.a hu.b h.2
  rw [pp_j _ _ _ _ ho,← he,Tr.jL_same _ _ h2 h.1.1 h.1.2 (zdJ hu.a)]
  exact ⟨rfl,rfl⟩
set_option maxRecDepth 1000000 in
set_option maxHeartbeats 8000000 in
theorem sRule2_c {w:World} {B k hk hr:Nat} {u:Tri} {r:Int} (un:Bool) (hhk:w.heap[hk]? = some (.cells #[.func (.func 126) #[] #[.pointer (some ⟨hr,0,none⟩)]] 99 (0,0))) (hhr:w.heap[hr]? = some (.cells #[.int .i64 r] 3 (0,0))) (hrr:r = 1∨r = 3∨r = 4∨r = 5∨r = 6) (hu:TriN w B k u) (ho:u.o = none) {x y:T} (ha:u.a = some x) (hb:u.b = some y) (ht:rKf r u = true∨∃ p g v g' v',x = .ent g p v∧y = .ent g' p v') (hB:B≤w.heap.size) :
    Calls Tryz.prog 128 #[prS u,.pointer (some ⟨hk,0,none⟩),.pointer (some ⟨hr,0,none⟩)] w (TwoE k (Tr.jG r un un true) u w):=by
  have h2:r≠2:=by omega
  obtain ⟨W0,hW0⟩:∃ W0,W0 = (w.alloc (.cells #[.pointer (rootP u.a),.pointer (rootP u.b)] 97)).alloc (.cells #[.pointer none,.pointer none] 97):=⟨_,rfl⟩
  have hb0:Below w.heap.size w W0:=by rw [hW0];exact Below.andThen (below_alloc _ _) (below_alloc _ _)
  have hr0:W0.heap[w.heap.size]? = some (.cells #[.pointer (rootP u.a),.pointer (rootP u.b)] 97 (0,0)):=by rw [hW0];exact keepz (heap_at w _ _ rfl) (below_alloc _ _)
  have hq0:W0.heap[w.heap.size + 1]? = some (.cells #[.pointer none,.pointer none] 97 (0,0)):=by
    rw [hW0]
    have h:=heap_at (w.alloc (.cells #[.pointer (rootP u.a),.pointer (rootP u.b)] 97)) (.cells #[.pointer none,.pointer none] 97) _ rfl
    rw [World.size_alloc] at h
    exact h
  have hhk0:=keepz hhk hb0
  have hhr0:=keepz hhr hb0
  have ck:W0.cell? ⟨hk,0,none⟩ = some (.func (.func 126) #[] #[.pointer (some ⟨hr,0,none⟩)]):=by rw [cell_of_row W0 _ _ _ _ (0,0) hhk0];rfl
  obtain ⟨a0,a1,-⟩:=pr_cells hr0
  have hent:∀ args w,(callFunc 126 args).run Tryz.prog w = .ok (.enter 126 args) w:=enters_of Tryz.func126 (by kernel_rfl) rfl
  have HKn:=Lib.hid (sKnown_c (r:=r) hhr0 (hu.below hb0 hB (Nat.le_refl _)) (Nat.le_trans hB hb0.size))
  have HX:=Lib.hid (And.intro hu (And.intro ho (And.intro ha (And.intro hb (And.intro hB (And.intro h2 hrr))))))
  have HT:=Lib.hid ht
  have HW:=Lib.hid hW0
  have HM:=Lib.hid (And.intro hb0 (And.intro hr0 (And.intro hq0 hhr0)))
  clear hhk hhr hrr hu ho ha hb ht hB hW0 hb0 hr0 hq0 hhk0 hhr0 h2
  obtain ⟨pa,hpa⟩:∃ p,rootP u.a = p:=⟨_,rfl⟩
  obtain ⟨pb,hpb⟩:∃ p,rootP u.b = p:=⟨_,rfl⟩
  obtain ⟨f,hf⟩:∃ f,((r != 5 && r != 6) && decide (rootP u.a = rootP u.b)) = f:=⟨_,rfl⟩
  rw [hf] at HKn
  rw [hpa,hpb] at HW HM
  rw [hpa] at a0
  rw [hpb] at a1
  have hKn':Calls Tryz.prog 126 #[p2V pa pb,.pointer (some ⟨hr,0,none⟩)] W0 fun e w' => e = .returned (.bool f)∧Below W0.heap.size W0 w':=by
    have h:=HKn.out
    rw [← hpa,← hpb]
    exact h
  have HKn:=Lib.hid hKn'
  have HF:=Lib.hid hf
  have HP:=Lib.hid (And.intro hpa hpb)
  show Calls Tryz.prog 128 #[p2V (rootP u.a) (rootP u.b),.pointer (some ⟨hk,0,none⟩),.pointer (some ⟨hr,0,none⟩)] w (TwoE k (Tr.jG r un un true) u w)
  rw [hpa,hpb]
  clear hf hpa hpb hKn'
  go_enter Tryz.func128,Tryz.ntmps128
  go_upto_region 1 with fail
  rw [← HW.out]
  go_wp2_with fail
  go_at_fn 126
  refine HKn.out.mono ?_
  rintro e w1 ⟨rfl,hb1⟩
  obtain ⟨hb0,hr0,hq0,hhr0⟩:=HM.out
  have hr1:=keepz hr0 hb1
  have hq1:=keepz hq0 hb1
  have hhr1:=keepz hhr0 hb1
  have hbw1:=Below.andThen hb0 hb1
  obtain ⟨b0,b1,-⟩:=pr_cells hr1
  obtain ⟨q0,q1,qf⟩:=pr_cells hq1
  have qf0:=qf 0
  have qf1:=qf 1
  clear hb0 hr0 hq0 hhr0 hb1 HM HKn HW ck a0 a1 hent qf
  cases f with
  | true =>
    have r2:=set2 (.pointer pa) (.pointer pb) hq1
    obtain ⟨t0,t1,-⟩:=pr_cells r2
    have H1:=Lib.hid (And.intro (pair_keeps (k:=k) hq1 (by decide) pa pb) (And.intro hbw1 ((hbw1.setCell (p:=⟨w.heap.size + 1,0,none⟩) (by show w.heap.size≤w.heap.size + 1;omega) (.pointer pa)).setCell (p:=⟨w.heap.size + 1,1,none⟩) (by show w.heap.size≤w.heap.size + 1;omega) (.pointer pb))))
    clear hr1 hq1 hhr1 hbw1 r2
    go_wp2_with fail
    refine bodyPost_ret (v:=p2V pa pb) (by simp [results,Tryz.results128,go_sem,t0,t1]) rfl ?_
    obtain ⟨hu,ho,ha,hb,hB,h2,-⟩:=HX.out
    obtain ⟨hkp,hbw1,hb9⟩:=H1.out
    obtain ⟨e1,e2⟩:=rKf_same un hu ho h2 HF.out
    have hna:=Kp.nodeO hkp (by simp) (hu.a.below hbw1 hB (Nat.le_trans hB hbw1.size))
    have hnb:=Kp.nodeO hkp (by simp) (hu.b.below hbw1 hB (Nat.le_trans hB hbw1.size))
    exact ⟨u.a,u.b,by rw [HP.out.1,HP.out.2],hna,hnb,e1,e2,hb9⟩
  | false =>
    obtain ⟨p,g,v,g',v',hx,hy⟩:∃ p g v g' v',x = .ent g p v∧y = .ent g' p v':=HT.out.resolve_left (by rw [show rKf r u = false from HF.out];decide)
    obtain ⟨hu,ho,ha,hb,hB,h2,hrr⟩:=HX.out
    have hea:=ent_zd hu.a (ha.trans (congrArg some hx))
    have heb:=ent_zd hu.b (hb.trans (congrArg some hy))
    have hpp:Tr.ppT (Tr.jG r un un true) u = [(p,ruleV r v v')]:=by
      rw [pp_j _ _ _ _ ho,hea.1,heb.1,Tr.jL_ones _ _ _ hea.2.1 hea.2.2 heb.2.2]
      unfold ruleW
      rw [if_neg h2]
    have m0:∀ w2:World,(w2.heap[w.heap.size]? = w1.heap[w.heap.size]?∧w2.heap[hr]? = w1.heap[hr]?)→w2.cell? ⟨w.heap.size,0,none⟩ = some (.pointer pa):=fun w2 hb => (pr_cells (hb.1.trans hr1)).1
    have m1:∀ w2:World,(w2.heap[w.heap.size]? = w1.heap[w.heap.size]?∧w2.heap[hr]? = w1.heap[hr]?)→w2.cell? ⟨w.heap.size,1,none⟩ = some (.pointer pb):=fun w2 hb => (pr_cells (hb.1.trans hr1)).2.1
    have mr:∀ w2:World,(w2.heap[w.heap.size]? = w1.heap[w.heap.size]?∧w2.heap[hr]? = w1.heap[hr]?)→w2.cell? ⟨hr,0,none⟩ = some (.int .i64 r):=fun w2 hb => by rw [cell_of_row w2 _ _ _ _ (0,0) (hb.2.trans hhr1)];rfl
    have l0:w.heap.size < w1.heap.size:=(Array.getElem?_eq_some_iff.1 hr1).1
    have l1:hr < w1.heap.size:=(Array.getElem?_eq_some_iff.1 hhr1).1
    have l2:hr≠w.heap.size + 1:=fun e => by
      rw [e] at hhr1
      rw [hhr1] at hq1
      simp at hq1
    have LL:=Lib.hid (And.intro l0 (And.intro l1 l2))
    have H1:Hid (∀ w2,Below w1.heap.size w1 w2→Calls Tryz.prog 92 #[.pointer pa] w2 fun e w3 => ∃ x y z:Int,e = .returned (.agg #[.int .u64 x,.int .u64 (v:Int),.int .u64 y,.int .u64 z])∧Below w2.heap.size w2 w3):=Lib.hid fun w2 h2 => by
      have hbb:=Below.andThen hbw1 h2
      have hh:=nSums_o (hu.a.below hbb hB (Nat.le_refl _)) (Nat.le_trans hB hbb.size)
      rw [HP.out.1] at hh
      refine hh.mono ?_
      rintro e w3 ⟨rfl,hb3⟩
      have hs:(Tr.sums (Tr.entsO u.a)).s = v:=by rw [ha,hx,ent_sum]
      exact ⟨_,_,_,by rw [sumsV,hs],hb3⟩
    have H2:Hid (∀ w2,Below w1.heap.size w1 w2→Calls Tryz.prog 92 #[.pointer pb] w2 fun e w3 => ∃ x y z:Int,e = .returned (.agg #[.int .u64 x,.int .u64 (v':Int),.int .u64 y,.int .u64 z])∧Below w2.heap.size w2 w3):=Lib.hid fun w2 h2 => by
      have hbb:=Below.andThen hbw1 h2
      have hh:=nSums_o (hu.b.below hbb hB (Nat.le_refl _)) (Nat.le_trans hB hbb.size)
      rw [HP.out.2] at hh
      refine hh.mono ?_
      rintro e w3 ⟨rfl,hb3⟩
      have hs:(Tr.sums (Tr.entsO u.b)).s = v':=by rw [hb,hy,ent_sum]
      exact ⟨_,_,_,by rw [sumsV,hs],hb3⟩
    have H3:Hid (∀ w2,Calls Tryz.prog 130 #[.int .i64 r,.int .u64 (v:Int),.int .u64 (v':Int)] w2 fun e w' => e = .returned (.int .u64 (ruleV r v v':Int))∧Below w2.heap.size w2 w'):=Lib.hid fun w2 => sBy_c hrr hea.2.2 heb.2.2 w2
    have H4:Hid (∀ w2,Below w1.heap.size w1 w2→Calls Tryz.prog 129 #[p2V pa pb,.int .u64 (ruleV r v v':Int)] w2 fun e w' => ∃ X Y:Option T,e = .returned (p2V (rootP X) (rootP Y))∧NodeO w' w'.heap.size k X∧NodeO w' w'.heap.size k Y∧Tr.entsO X = [(p,ruleV r v v')]∧Tr.entsO Y = [(p,ruleV r v v')]∧Below w2.heap.size w2 w'):=Lib.hid fun w2 h2 => by
      have hbb:=Below.andThen hbw1 h2
      have hh:=sEntry_c (hu.below hbb hB (Nat.le_refl _)) (ha.trans (congrArg some hx)) (hb.trans (congrArg some hy)) (Nat.le_trans hB hbb.size) (z:=ruleV r v v') (Tr.ruleV_lt hea.2.2 heb.2.2)
      rw [HP.out.1,HP.out.2] at hh
      exact hh
    have i1:=sum_sum
    have hlt1:=(Array.getElem?_eq_some_iff.1 hq1).1
    have HQ:=Lib.hid (And.intro hq1 (And.intro hbw1 hlt1))
    have HPP:=Lib.hid hpp
    have h00:=Below.refl w1.heap.size w1
    obtain ⟨z,hz⟩:∃ z,ruleV r v v' = z:=⟨_,rfl⟩
    rw [hz] at H3 H4 HPP
    clear hr1 hq1 hhr1 hbw1 hu ho ha hb hB h2 hrr hea heb hpp hx hy HX HT HF hlt1 q0 q1 qf0 qf1 b0 b1 hz l0 l1 l2
    go_wp2_with fail
    go_region_held3 (fun w2:World => w2.heap[w.heap.size]? = w1.heap[w.heap.size]?∧w2.heap[hr]? = w1.heap[hr]?) (first | exact hS9 | exact ⟨(show Below w1.heap.size w1 _ by ((repeat first | refine bD ?_ | with_reducible refine bN ?_ | refine bA ?_ | refine bS ?_);first | exact bR | assumption | exact bN bR | exact bN (bN bR))).block _ LL.out.1,(show Below w1.heap.size w1 _ by ((repeat first | refine bD ?_ | with_reducible refine bN ?_ | refine bA ?_ | refine bS ?_);first | exact bR | assumption | exact bN bR | exact bN (bN bR))).block _ LL.out.2.1⟩) (first
      | (go_at_call 92;refine (H1.out _ (show Below w1.heap.size w1 _ by ((repeat first | refine bD ?_ | with_reducible refine bN ?_ | refine bA ?_ | refine bS ?_);first | exact bR | assumption | exact bN bR | exact bN (bN bR)))).mono ?_;rintro e wa ⟨x1,x2,x3,rfl,hba⟩;have hBa:Below w1.heap.size w1 wa:=Below.trans (show Below w1.heap.size w1 _ by ((repeat first | refine bD ?_ | with_reducible refine bN ?_ | refine bA ?_ | refine bS ?_);first | exact bR | assumption | exact bN bR | exact bN (bN bR))) (hba.mono (Below.size (show Below w1.heap.size w1 _ by ((repeat first | refine bD ?_ | with_reducible refine bN ?_ | refine bA ?_ | refine bS ?_);first | exact bR | assumption | exact bN bR | exact bN (bN bR)))));clear hba H1)
      | (go_at_call 92;refine (H2.out _ (show Below w1.heap.size w1 _ by ((repeat first | refine bD ?_ | with_reducible refine bN ?_ | refine bA ?_ | refine bS ?_);first | exact bR | assumption | exact bN bR | exact bN (bN bR)))).mono ?_;rintro e wc ⟨y1,y2,y3,rfl,hbc⟩;have hBc:Below w1.heap.size w1 wc:=Below.trans (show Below w1.heap.size w1 _ by ((repeat first | refine bD ?_ | with_reducible refine bN ?_ | refine bA ?_ | refine bS ?_);first | exact bR | assumption | exact bN bR | exact bN (bN bR))) (hbc.mono (Below.size (show Below w1.heap.size w1 _ by ((repeat first | refine bD ?_ | with_reducible refine bN ?_ | refine bA ?_ | refine bS ?_);first | exact bR | assumption | exact bN bR | exact bN (bN bR)))));clear hbc H2)
      | (go_at_call 130;refine (H3.out _).mono ?_;rintro e wd ⟨rfl,hbd⟩;have hBd:Below w1.heap.size w1 wd:=Below.trans (show Below w1.heap.size w1 _ by ((repeat first | refine bD ?_ | with_reducible refine bN ?_ | refine bA ?_ | refine bS ?_);first | exact bR | assumption | exact bN bR | exact bN (bN bR))) (hbd.mono (Below.size (show Below w1.heap.size w1 _ by ((repeat first | refine bD ?_ | with_reducible refine bN ?_ | refine bA ?_ | refine bS ?_);first | exact bR | assumption | exact bN bR | exact bN (bN bR)))));clear hbd H3)
      | (go_at_call 129;refine (H4.out _ (show Below w1.heap.size w1 _ by ((repeat first | refine bD ?_ | with_reducible refine bN ?_ | refine bA ?_ | refine bS ?_);first | exact bR | assumption | exact bN bR | exact bN (bN bR)))).mono ?_;rintro e w9 ⟨X,Y,rfl,n1,n2,n3,n4,hb9⟩;have hB9:Below w1.heap.size w1 w9:=Below.trans (show Below w1.heap.size w1 _ by ((repeat first | refine bD ?_ | with_reducible refine bN ?_ | refine bA ?_ | refine bS ?_);first | exact bR | assumption | exact bN bR | exact bN (bN bR))) (hb9.mono (Below.size (show Below w1.heap.size w1 _ by ((repeat first | refine bD ?_ | with_reducible refine bN ?_ | refine bA ?_ | refine bS ?_);first | exact bR | assumption | exact bN bR | exact bN (bN bR)))));have z0:=(pr_cells (keepz HQ.out.1 hB9)).1;have z1:=(pr_cells (keepz HQ.out.1 hB9)).2.1;have zf0:=(pr_cells (keepz HQ.out.1 hB9)).2.2 0;have zf1:=(pr_cells (keepz HQ.out.1 hB9)).2.2 1;have hfo:Foot (fun b => b = w.heap.size + 1) w1 ((w9.setCell ⟨w.heap.size + 1,0,none⟩ (.pointer (rootP X))).setCell ⟨w.heap.size + 1,1,none⟩ (.pointer (rootP Y))):=((Foot.of_below hB9).trans (F1:=fun b => b = w.heap.size + 1) (Foot.setCell w9 (F:=fun b => b = w.heap.size + 1) (a:=⟨w.heap.size + 1,0,none⟩) rfl _) (fun b hb => .inl hb)).trans (F1:=fun b => b = w.heap.size + 1) (Foot.setCell _ (F:=fun b => b = w.heap.size + 1) (a:=⟨w.heap.size + 1,1,none⟩) rfl _) (fun b hb => .inl hb);have hS9:=And.intro (hfo.block w.heap.size LL.out.1 (by omega)) (hfo.block hr LL.out.2.1 LL.out.2.2);have HN:=Lib.hid (And.intro n1 (And.intro n2 (And.intro n3 (And.intro n4 hB9))));clear hb9 H4 n1 n2 n3 n4 hfo))
    all_goals (
      clear m0 m1 mr hS9
      have r2:=set2 (.pointer (rootP X)) (.pointer (rootP Y)) (keepz HQ.out.1 HN.out.2.2.2.2)
      obtain ⟨t0,t1,-⟩:=pr_cells r2
      have hbw9:=Below.andThen HQ.out.2.1 HN.out.2.2.2.2
      have H9:=Lib.hid (And.intro (pair_keeps (k:=k) (keepz HQ.out.1 HN.out.2.2.2.2) (by decide) (rootP X) (rootP Y)) ((hbw9.setCell (p:=⟨w.heap.size + 1,0,none⟩) (by show w.heap.size≤w.heap.size + 1;omega) (.pointer (rootP X))).setCell (p:=⟨w.heap.size + 1,1,none⟩) (by show w.heap.size≤w.heap.size + 1;omega) (.pointer (rootP Y))))
      clear r2 hbw9
      go_wp2_with fail
      refine bodyPost_ret (v:=p2V (rootP X) (rootP Y)) (by simp [results,Tryz.results128,go_sem,t0,t1]) rfl ?_
      exact ⟨X,Y,rfl,Kp.nodeO H9.out.1 (by simp) HN.out.1,Kp.nodeO H9.out.1 (by simp) HN.out.2.1,by rw [HPP.out];exact HN.out.2.2.1,by rw [HPP.out];exact HN.out.2.2.2.1,H9.out.2⟩)
def AloneS (B k fa:Nat) (la:Array Value) (g:G3):Prop:=∀ w u,TriN w B k u→u.o = none→((rootP u.a).isSome && (rootP u.b).isSome) = false→B≤w.heap.size→Calls Tryz.prog fa (#[prS u] ++ la) w fun e w' => ∃ x,e = .returned (.pointer (rootP x))∧NodeO w' w'.heap.size k x∧Tr.entsO x = Tr.ppT g u∧Below w.heap.size w w'
theorem ents_no:Tr.entsO (none:Option T) = []:=rfl
theorem rootP_none {o:Option T} (h:(rootP o).isSome = false):o = none:=by
  cases o with
  | none => rfl
  | some t => cases h
theorem either_alone (B k:Nat) (r:Int):AloneS B k 64 #[] (Tr.jG r true true true):=fun w u hu ho hab hB => by
  refine (sEither_c (rootP u.a) (rootP u.b) w).mono ?_
  rintro e w' ⟨rfl,hb⟩
  have za:=zdJ hu.a
  have zb:=zdJ hu.b
  rw [pp_j _ _ _ _ ho]
  cases ha:u.a with
  | none =>
    refine ⟨u.b,rfl,hu.b.below hb hB (Nat.le_trans hB hb.size),?_,hb⟩
    rw [ents_no,Tr.jL_right _ _ _ _ zb]
    rfl
  | some t =>
    have hbn:u.b = none:=rootP_none (by rw [ha] at hab;exact hab)
    refine ⟨some t,by rw [hbn];rfl,by rw [← ha];exact hu.a.below hb hB (Nat.le_trans hB hb.size),?_,hb⟩
    rw [hbn,ents_no,Tr.jL_left _ _ _ _ (by rw [← ha];exact za)]
    rfl
theorem neither_alone (B k:Nat) (r:Int):AloneS B k 65 #[] (Tr.jG r false false true):=fun w u hu ho hab hB => by
  refine (sNeither_c (rootP u.a) (rootP u.b) w).mono ?_
  rintro e w' ⟨rfl,hb⟩
  have za:=zdJ hu.a
  have zb:=zdJ hu.b
  rw [pp_j _ _ _ _ ho]
  refine ⟨none,rfl,fun _ e => (by cases e),?_,hb⟩
  cases ha:u.a with
  | none => rw [ents_no,Tr.jL_right _ _ _ _ zb];rfl
  | some t =>
    have hbn:u.b = none:=rootP_none (by rw [ha] at hab;exact hab)
    rw [hbn,ents_no,Tr.jL_left _ _ _ _ (by rw [← ha];exact za)]
    rfl
theorem first_alone (B k:Nat):AloneS B k 68 #[] (Tr.jG 1 true false false):=fun w u hu ho hab hB => by
  refine (sFirst_c (rootP u.a) (rootP u.b) w).mono ?_
  rintro e w' ⟨rfl,hb⟩
  have za:=zdJ hu.a
  have zb:=zdJ hu.b
  rw [pp_j _ _ _ _ ho]
  refine ⟨u.a,rfl,hu.a.below hb hB (Nat.le_trans hB hb.size),?_,hb⟩
  cases ha:u.a with
  | none => rw [ents_no,Tr.jL_right _ _ _ _ zb];rfl
  | some t =>
    have hbn:u.b = none:=rootP_none (by rw [ha] at hab;exact hab)
    rw [hbn,ents_no,Tr.jL_left _ _ _ _ (by rw [← ha];exact za)]
    rfl
def RuleI (hk hr:Nat) (r:Int) (w:World):Prop:=w.heap[hk]? = some (.cells #[.func (.func 126) #[] #[.pointer (some ⟨hr,0,none⟩)]] 99 (0,0))∧w.heap[hr]? = some (.cells #[.int .i64 r] 3 (0,0))
theorem rule_mk {fa:Nat} {la:Array Value} {un:Bool} {B k hk hr:Nat} {r:Int} (hkB:B≤hk) (hrB:B≤hr) (hrr:r = 1∨r = 3∨r = 4∨r = 5∨r = 6) (enta:∀ args w,(callFunc fa args).run Tryz.prog w = .ok (.enter fa args) w) (hal:AloneS B k fa la (Tr.jG r un un true)) :
    MkS 126 #[.pointer (some ⟨hr,0,none⟩)] fa la 128 #[.pointer (some ⟨hk,0,none⟩),.pointer (some ⟨hr,0,none⟩)] B k (rKf r) (Tr.jG r un un true) (RuleI hk hr r) (fun b => b = hk∨b = hr) where
  entk:=enters_of Tryz.func126 (by kernel_rfl) rfl
  enta:=enta
  entb:=enters_of Tryz.func128 (by kernel_rfl) rfl
  stay:=fun w w' hI _ hb => ⟨(hb hk (.inl rfl)).trans hI.1,(hb hr (.inr rfl)).trans hI.2⟩
  inb:=fun w hI b hb => by
    rcases hb with rfl | rfl
    · exact ⟨(Array.getElem?_eq_some_iff.1 hI.1).1,hkB⟩
    · exact ⟨(Array.getElem?_eq_some_iff.1 hI.2).1,hrB⟩
  gn:=Tr.jG_none _ _ _ _
  known:=fun w u x y hI hu _ _ _ hB => sKnown_c hI.2 hu hB
  alone:=fun w u _ hu ho hab hB => hal w u hu ho hab hB
  both:=fun w u x y hI hu ho ha hb ht hB => sRule2_c un hI.1 hI.2 hrr hu ho ha hb ht hB
theorem less_mk {B k:Nat}:MkS 67 #[] 68 #[] 69 #[] B k sameKf (Tr.jG 1 true false false) (fun _ => True) (fun _ => False) where
  entk:=enters_of Tryz.func67 (by kernel_rfl) rfl
  enta:=enters_of Tryz.func68 (by kernel_rfl) rfl
  entb:=enters_of Tryz.func69 (by kernel_rfl) rfl
  stay:=fun _ _ _ _ _ => trivial
  inb:=fun _ _ _ h => h.elim
  gn:=Tr.jG_none _ _ _ _
  known:=fun w u x y _ hu _ _ _ hB => sSame_c hu.a hu.b hB
  alone:=fun w u _ hu ho hab hB => first_alone B k w u hu ho hab hB
  both:=fun w u x y _ hu ho ha hb ht hB => by
    refine (sWithout1_c (rootP u.a) (rootP u.b) w).mono ?_
    rintro e w' ⟨rfl,hbb⟩
    have he:Tr.ppT (Tr.jG 1 true false false) u = []:=by
      rw [pp_j _ _ _ _ ho]
      rcases ht with e | ⟨p,g,v,g',v',rfl,rfl⟩
      · rw [← nodeO_same hu.a hu.b (of_decide_eq_true e),Tr.jL_gone _ _ _ (zdJ hu.a)]
      · obtain ⟨a1,a2,a3⟩:=ent_zd hu.a ha
        obtain ⟨b1,b2,b3⟩:=ent_zd hu.b hb
        rw [a1,b1,Tr.jL_onesn _ _ _ a2 a3 b3]
    exact ⟨none,none,rfl,fun _ e => (by cases e),fun _ e => (by cases e),by rw [he];rfl,by rw [he];rfl,hbb⟩
end Go.Proofs.YtkeepngaaleakaaGreatDoor
