import Derived.Test.YtkeepngaaleakaaGreatDoorMXx
namespace Go.Proofs.YtkeepngaaleakaaGreatDoor
open Go.ChangeShapes Go.WideShapes Go.ChangeAt Go.RowKit
open Tr (T S4 Ent Tri KL)
namespace Tr
theorem jL_pts {k:Nat} {A B:List Ent} (r:Int) (l q m:Bool) (hA:ZD k A) (hB:ZD k B):(ptsU A B).filterMap (fun e => ppAt (jG r l q m) [] A B e.1) = jL r l q m A B:=by
  have hn:=ZD.nil k
  have hg:=jG_none r l q m
  obtain ⟨z,hd,-,hp⟩:=ptsU_zs hA.1 hA.2 hB.2
  refine ppL_uniq hg hn.1 hA.1 hB.1 hn.2 hA.2 hB.2 (xs_filterMap z) fun c => ?_
  rw [List.mem_filterMap]
  constructor
  · rintro ⟨e,he,hc⟩
    obtain ⟨x,hx,rfl⟩:=Option.map_eq_some_iff.1 hc
    exact ⟨⟨(hd e he).1,(hd e he).2.1⟩,hx⟩
  · rintro ⟨⟨h1,h2⟩,h3⟩
    obtain ⟨p,x⟩:=c
    simp only at h1 h2 h3
    have hex:(∃ v,(p,v)∈A)∨∃ v,(p,v)∈B:=by
      cases eA:getE A p with
      | some v => exact .inl ⟨v,(getE_iff hA.1 hA.2 h1 h2).1 eA⟩
      | none =>
        cases eB:getE B p with
        | some v => exact .inr ⟨v,(getE_iff hB.1 hB.2 h1 h2).1 eB⟩
        | none => rw [eA,eB,getE_nil,hg] at h3;cases h3
    obtain ⟨u,hu⟩:=(hp p).2 hex
    exact ⟨(p,u),hu,by unfold ppAt;rw [h3];rfl⟩
end Tr
set_option maxRecDepth 100000 in
theorem r15value_c {r:Int} {v u:Nat} (hr:1≤r∧r≤6) (hv:v < 18446744073709551616) (hu:u < 18446744073709551616) (w:World):Calls Tryz.prog 73 #[.int .i64 r,.int .u64 (v:Int),.int .u64 (u:Int)] w fun e w' => e = .returned (.int .u64 (ruleW r v u:Int))∧w = w':=by
  have hr':r = 1∨r = 2∨r = 3∨r = 4∨r = 5∨r = 6:=by omega
  clear hr
  by_cases hlt:u < v
  · have d1:decide ((u:Int) < (v:Int)) = true:=decide_eq_true (by omega)
    have d1':decide (u < v) = true:=decide_eq_true hlt
    rcases hr' with rfl | rfl | rfl | rfl | rfl | rfl
    · go_enter Tryz.func73,Tryz.ntmps73
      go_wp2_with fail
      refine bodyPost_ret (v:=.int .u64 ((v:Int))) (by simp [results,Tryz.results73,go_sem]) rfl ⟨?_,rfl⟩
      have h:((ruleW 1 v u:Nat):Int) = (v:Int):=by simp [ruleW,ruleV]
      rw [h]
    · go_enter Tryz.func73,Tryz.ntmps73
      go_wp2_with fail
      refine bodyPost_ret (v:=.int .u64 ((u:Int))) (by simp [results,Tryz.results73,go_sem]) rfl ⟨?_,rfl⟩
      have h:((ruleW 2 v u:Nat):Int) = (u:Int):=by simp [ruleW]
      rw [h]
    · go_enter Tryz.func73,Tryz.ntmps73
      go_wp2_with fail
      refine bodyPost_ret (v:=.int .u64 ((u:Int))) (by simp [results,Tryz.results73,go_sem]) rfl ⟨?_,rfl⟩
      have h:((ruleW 3 v u:Nat):Int) = (u:Int):=by simp [ruleW,ruleV] <;> omega
      rw [h]
    · go_enter Tryz.func73,Tryz.ntmps73
      go_wp2_with fail
      refine bodyPost_ret (v:=.int .u64 ((v:Int))) (by simp [results,Tryz.results73,go_sem]) rfl ⟨?_,rfl⟩
      have h:((ruleW 4 v u:Nat):Int) = (v:Int):=by simp [ruleW,ruleV] <;> omega
      rw [h]
    · go_enter Tryz.func73,Tryz.ntmps73
      go_wp2_with fail
      refine bodyPost_ret (v:=.int .u64 (IntKind.u64.wrap ((v:Int) + (u:Int)))) (by simp [results,Tryz.results73,go_sem]) rfl ⟨?_,rfl⟩
      have h:((ruleW 5 v u:Nat):Int) = IntKind.u64.wrap ((v:Int) + (u:Int)):=by rw [IntKind.wrap_u64];simp [ruleW,ruleV]
      rw [h]
    · go_enter Tryz.func73,Tryz.ntmps73
      go_wp2_with fail
      refine bodyPost_ret (v:=.int .u64 ((v:Int) - (u:Int))) (by simp [results,Tryz.results73,go_sem]) rfl ⟨?_,rfl⟩
      have h:((ruleW 6 v u:Nat):Int) = (v:Int) - (u:Int):=by simp [ruleW,ruleV] <;> omega
      rw [h]
  · have d1:decide ((u:Int) < (v:Int)) = false:=decide_eq_false (by omega)
    have d1':decide (u < v) = false:=decide_eq_false hlt
    rcases hr' with rfl | rfl | rfl | rfl | rfl | rfl
    · go_enter Tryz.func73,Tryz.ntmps73
      go_wp2_with fail
      refine bodyPost_ret (v:=.int .u64 ((v:Int))) (by simp [results,Tryz.results73,go_sem]) rfl ⟨?_,rfl⟩
      have h:((ruleW 1 v u:Nat):Int) = (v:Int):=by simp [ruleW,ruleV]
      rw [h]
    · go_enter Tryz.func73,Tryz.ntmps73
      go_wp2_with fail
      refine bodyPost_ret (v:=.int .u64 ((u:Int))) (by simp [results,Tryz.results73,go_sem]) rfl ⟨?_,rfl⟩
      have h:((ruleW 2 v u:Nat):Int) = (u:Int):=by simp [ruleW]
      rw [h]
    · go_enter Tryz.func73,Tryz.ntmps73
      go_wp2_with fail
      refine bodyPost_ret (v:=.int .u64 ((v:Int))) (by simp [results,Tryz.results73,go_sem]) rfl ⟨?_,rfl⟩
      have h:((ruleW 3 v u:Nat):Int) = (v:Int):=by simp [ruleW,ruleV] <;> omega
      rw [h]
    · go_enter Tryz.func73,Tryz.ntmps73
      go_wp2_with fail
      refine bodyPost_ret (v:=.int .u64 ((u:Int))) (by simp [results,Tryz.results73,go_sem]) rfl ⟨?_,rfl⟩
      have h:((ruleW 4 v u:Nat):Int) = (u:Int):=by simp [ruleW,ruleV] <;> omega
      rw [h]
    · go_enter Tryz.func73,Tryz.ntmps73
      go_wp2_with fail
      refine bodyPost_ret (v:=.int .u64 (IntKind.u64.wrap ((v:Int) + (u:Int)))) (by simp [results,Tryz.results73,go_sem]) rfl ⟨?_,rfl⟩
      have h:((ruleW 5 v u:Nat):Int) = IntKind.u64.wrap ((v:Int) + (u:Int)):=by rw [IntKind.wrap_u64];simp [ruleW,ruleV]
      rw [h]
    · go_enter Tryz.func73,Tryz.ntmps73
      go_wp2_with fail
      refine bodyPost_ret (v:=.int .u64 ((u:Int) - (v:Int))) (by simp [results,Tryz.results73,go_sem]) rfl ⟨?_,rfl⟩
      have h:((ruleW 6 v u:Nat):Int) = (u:Int) - (v:Int):=by simp [ruleW,ruleV] <;> omega
      rw [h]
structure EnI (w2:World) (B base g1:Nat) (M1:List Ent) (D:Option Addr) (m1 d:Nat) (W:World):Prop where
  own1:OwnL 57 2 (EntQ w2 B) W base (.slice D m1 d) M1
  len1:M1.length = m1
  at1:∀ q,D.map (·.block) = some q→q = g1∨w2.heap.size≤q
  old:base≤W.heap.size
  foot:Foot (fun b => b = g1) w2 W
section
variable {w2 W W' w5:World} {B base g1 m1 d d':Nat} {M1:List Ent} {D D':Option Addr} {x:Ent}
theorem EnI.below (h:EnI w2 B base g1 M1 D m1 d W) (hb:Below W.heap.size W W'):EnI w2 B base g1 M1 D m1 d W' :=
  ⟨h.own1.below hb (Nat.le_refl _),h.len1,h.at1,Nat.le_trans h.old hb.size,h.foot.trans (Foot.of_below (F:=fun b => b = g1) hb) (fun _ hb => .inl hb)⟩
theorem EnI.app (h:EnI w2 B base g1 M1 D m1 d W) (hb:Below W.heap.size W W') (hown:OwnL 57 2 (EntQ w2 B) w5 base (.slice D' (m1 + 1) d') (M1 ++ [x])) (hgr:W'.grownBy w5 (Value.slice D m1 d).ownBlock)
    (hat:(Value.slice D' (m1 + 1) d').ownBlock = (Value.slice D m1 d).ownBlock∨(Value.slice D' (m1 + 1) d').ownBlock = some W'.heap.size):EnI w2 B base g1 (M1 ++ [x]) D' (m1 + 1) d' w5:=by
  have hl:=h.len1
  subst hl
  rw [own_block,own_block] at hat
  rw [own_block] at hgr
  have s1:=hb.size
  have sf:=h.foot.size
  refine ⟨hown,by simp,fun q hq => ?_,Nat.le_trans h.old (Nat.le_trans s1 hgr.size),?_⟩
  · rcases hat with e | e
    · exact h.at1 q (by rw [← e];exact hq)
    · rw [e] at hq;simp only [Option.some.injEq] at hq;exact .inr (by omega)
  · refine h.foot.trans (F1:=fun b => D.map (·.block) = some b) ⟨hgr.os.trans hb.os,hgr.tape.trans hb.tape,hgr.output.trans hb.output,Nat.le_trans s1 hgr.size,fun b hlt hn => (hgr.block b (by omega) (fun e => hn e.symm)).trans (hb.block b hlt)⟩ fun b hb' => ?_
    rcases h.at1 b hb' with e | e
    · exact .inl e
    · exact .inr e
end
theorem EnI.cell {w2 W:World} {B base g1 m1 d b i:Nat} {M1:List Ent} {D:Option Addr} {x:Value} (h:EnI w2 B base g1 M1 D m1 d W) (hb:b < w2.heap.size) (h1:b≠g1) (hv:w2.cell? ⟨b,i,none⟩ = some x):W.cell? ⟨b,i,none⟩ = some x :=
  (World.cell?_of_block (a:=⟨b,i,none⟩) (h.foot.block b hb h1)).trans hv
theorem jg_val {r:Int} {l q m:Bool} {k:Nat} {A B:List Ent} (hA:Tr.ZD k A) (hB:Tr.ZD k B) {p:List Nat} (hp:p.length = k) (ho:Z.Ok p) {v:Nat} (h:Tr.jG r l q m none (Tr.getE A p) (Tr.getE B p) = some v):v < 18446744073709551616:=by
  have hJ:=Tr.jL_zd r l q m hA hB
  exact (hJ.2 (p,v) ((Tr.getE_iff hJ.1 hJ.2 hp ho).1 ((Tr.getE_jL r l q m hA hB hp ho).trans h))).2.2
set_option maxRecDepth 1000000 in
set_option maxHeartbeats 16000000 in
theorem r15join_c {w:World} {L M:List Ent} {A A':Option Addr} {c c' n n' k:Nat} (hL:Tr.ZD k L) (hM:Tr.ZD k M) (hA:Ents w w.heap.size A L) (hA':Ents w w.heap.size A' M) (hn:L.length = n) (hn':M.length = n') (hc:n≤c) (k1:1≤k) (k16:k≤16) (hl:n + n'≤100000) {r:Int} (hr:1≤r∧r≤6) (lf rg bo:Bool) {C:List Ent} (hC:Tr.jL r lf rg bo L M = C) {N:Nat} (hN:C.length = N) :
    Calls Tryz.prog 26 #[.slice A n c,.slice A' n' c',.int .i64 r,.bool lf,.bool rg,.bool bo] w fun e w' => ∃ D d,e = .returned (.slice D N d)∧Ents w' w'.heap.size D C∧N≤d∧Below w.heap.size w w':=by
  have hal:=below_alloc w (.cells #[] 57)
  have ho0:∀ Q,OwnL 57 2 Q (w.alloc (.cells #[] 57)) w.heap.size (.slice (some ⟨w.heap.size,0,none⟩) 0 0) ([]:List Ent):=fun Q => ownL_nil (n:=2) (Q:=Q) 57 w
  have hmt:=heap_at w (.cells #[] 57) _ rfl
  obtain ⟨W0,hW0⟩:∃ W0,W0 = w.alloc (.cells #[] 57):=⟨_,rfl⟩
  rw [← hW0] at hal ho0 hmt
  have hsz:w.heap.size < W0.heap.size:=(Array.getElem?_eq_some_iff.1 hmt).1
  have HP:=Lib.hid (r12points_c (w:=W0) (B:=w.heap.size) (c:=c) (c':=c') hL.1 hL.2 hM.2 (Ents.below hA hal (Nat.le_refl _) (Nat.le_refl _)) (Ents.below hA' hal (Nat.le_refl _) (Nat.le_refl _)) hal.size hn hn' hc k1 k16 hl)
  obtain ⟨zU,dU,lU,-⟩:=Tr.ptsU_zs hL.1 hL.2 hM.2
  have HX:=Lib.hid (And.intro hL (And.intro hM (And.intro hA (And.intro hA' (And.intro hn (And.intro hn' (And.intro k1 (And.intro k16 (And.intro hl hr)))))))))
  have HC:=Lib.hid (And.intro hC (And.intro hN (And.intro dU lU)))
  have HB0:=Lib.hid (And.intro hal (And.intro ho0 (And.intro hmt hsz)))
  have HW0:=Lib.hid hW0
  have n99:(n:Int)≤100000:=by omega
  clear hL hM hA hA' hn hn' hc k1 k16 hl hr hC hN hal ho0 hmt hsz zU dU lU hW0
  go_enter Tryz.func26,Tryz.ntmps26
  go_upto_region 2 with fail
  rw [← HW0.out]
  clear HW0
  go_wp2_with fail
  refine HP.out.mono ?_
  rintro e w2 ⟨D2,d2,N2,rfl,hN2,hE2,hd2,hb2⟩
  have hB2:=Below.trans HB0.out.1 (hb2.mono HB0.out.1.size)
  have hm2:=(hb2.block w.heap.size HB0.out.2.2.2).trans HB0.out.2.2.1
  obtain ⟨U,hU⟩:∃ U,Tr.ptsU L M = U:=⟨_,rfl⟩
  rw [hU] at hN2 hE2
  obtain ⟨fM,hfM⟩:∃ f:Ent→Option Ent,f = fun e => Tr.ppAt (Tr.jG r lf rg bo) [] L M e.1:=⟨_,rfl⟩
  have hst:EnI w2 w.heap.size w.heap.size w.heap.size [] (some ⟨w.heap.size,0,none⟩) 0 0 w2:=⟨(HB0.out.2.1 _).below hb2 (Nat.le_refl _),rfl,fun q hq => by simp only [Option.map_some,Option.some.injEq] at hq;exact .inl hq.symm,hB2.size,Foot.of_below (Below.refl _ _)⟩
  have hn2:N2≤100000:=by
    have h1:=HC.out.2.2.2
    rw [hU,hN2,HX.out.2.2.2.2.1,HX.out.2.2.2.2.2.1] at h1
    have:=HX.out.2.2.2.2.2.2.2.2.1
    omega
  have hn29:(N2:Int)≤100000:=by omega
  have H2:=Lib.hid (And.intro hN2 (And.intro hE2 (And.intro hB2 (And.intro hm2 (And.intro hU (And.intro hfM hn2))))))
  have HS:=Lib.hid hst
  clear hN2 hE2 hd2 hb2 hB2 hm2 hU hfM hst hn2 HP
  go_wp2_with fail
  go_loopw [13,15] (fun u v wr => ∃ (j m:Nat) (D:Option Addr) (d:Nat),u = .slice D m d∧v = .int .i64 (j:Int)∧j≤N2∧EnI w2 w.heap.size w.heap.size w.heap.size ((U.take j).filterMap fM) D m d wr) (fun _ v _ => N2 - (intOf v).toNat)
  case atStart => exact ⟨0,0,_,0,rfl,rfl,Nat.zero_le _,HS.out⟩
  case round =>
    clear HS
    obtain ⟨j,m,D,d,rfl,rfl,hj,hI⟩:=hrel
    by_cases hlt:j < N2
    · obtain ⟨e,he⟩:=get_lt (us:=U) (k:=j) (by rw [H2.out.1];exact hlt)
      have hde:=HC.out.2.2.1 e (by rw [H2.out.2.2.2.2.1];exact List.mem_of_getElem? he)
      obtain ⟨b,off,P,pc,hAA,hbl,v0,-,pp,-,-⟩:=H2.out.2.1.at he
      have hbne:b≠w.heap.size:=fun e => by
        subst e
        rw [cell_of_row w2 _ _ _ _ (0,0) H2.out.2.2.2.1] at v0
        simp at v0
      subst hAA
      have hbw:Below w.heap.size w2 wr:=hI.foot.below H2.out.2.2.1.size (fun b hb => by omega)
      have hBw:=H2.out.2.2.1.trans hbw
      obtain ⟨np,hnp⟩:∃ np,e.1.length = np:=⟨_,rfl⟩
      rw [hnp] at v0
      have z0:wr.cell? ⟨b,off + j * 2,none⟩ = some (.slice P np pc):=hI.cell hbl hbne v0
      have ppw:Pts wr w.heap.size P e.1:=pp.below' hbw (Nat.le_refl _)
      obtain ⟨hL,hM,hA,hA',hn,hn',k1,k16,hl,hr⟩:=HX.out
      obtain ⟨g,hg⟩:∃ g,Tr.getE L e.1 = g:=⟨_,rfl⟩
      obtain ⟨g',hg'⟩:∃ g',Tr.getE M e.1 = g':=⟨_,rfl⟩
      have hG1:=rget6_c (c:=c) (c':=pc) hL.1 hL.2 (Ents.below hA hBw (Nat.le_refl _) hBw.size) ppw hde.1 k1 k16 (by omega) g hg
      have hG2:=rget6_c (c:=c') (c':=pc) hM.1 hM.2 (Ents.below hA' hBw (Nat.le_refl _) hBw.size) ppw hde.1 k1 k16 (by omega) g' hg'
      rw [hn,hnp] at hG1
      rw [hn',hnp] at hG2
      have hfm:fM e = (Tr.jG r lf rg bo none g g').map fun v => (e.1,v):=by
        rw [H2.out.2.2.2.2.2.1,← hg,← hg']
        rfl
      have hrv:∀ v,Tr.jG r lf rg bo none g g' = some v→v < 18446744073709551616:=fun v h => jg_val hL hM hde.1 hde.2.1 (by rw [hg,hg'];exact h)
      have hlt1:=getE_lt hL.1 hL.2 hde.1 hde.2.1 hg
      have hlt2:=getE_lt hM.1 hM.2 hde.1 hde.2.1 hg'
      have hmj:m≤j:=by
        rw [← hI.len1]
        exact Nat.le_trans (List.length_filterMap_le _ _) (by rw [List.length_take];omega)
      have hm9:m≤100000:=by omega
      have hft:=filterMap_take fM he
      obtain ⟨M1,hM1⟩:∃ M1,(U.take j).filterMap fM = M1:=⟨_,rfl⟩
      rw [hM1] at hI hft
      have HE:=Lib.hid (And.intro hft (And.intro hfm (And.intro hrv (And.intro pp (And.intro hnp (And.intro hlt (And.intro (show np≤16 by rw [← hnp,hde.1];exact k16) (And.intro hlt1 (And.intro hlt2 (And.intro hbl (And.intro hbne v0)))))))))))
      have HI:=Lib.hid hI
      have HG1:=Lib.hid hG1
      have HG2:=Lib.hid hG2
      have f1:decide ((j:Int) < (N2:Int)) = true:=decide_eq_true (by omega)
      have f1':decide (j < N2) = true:=decide_eq_true hlt
      have n1:(0:Int)≤(j:Int):=by omega
      have n2:(j:Int) < (N2:Int):=by omega
      have n3:(j:Int)≤100000:=by omega
      have hVal:∀ x y,g = some x→g' = some y→Hid (∀ w',Calls Tryz.prog 73 #[.int .i64 r,.int .u64 (x:Int),.int .u64 (y:Int)] w' fun e w'' => e = .returned (.int .u64 (ruleW r x y:Int))∧w' = w''):=fun x y e1 e2 => Lib.hid fun w' => r15value_c hr (by rw [e1] at hlt1;exact hlt1) (by rw [e2] at hlt2;exact hlt2) w'
      clear hI hde hbl v0 pp hbne hbw hBw ppw hg hg' hL hM hA hA' hn hn' k1 k16 hl hr hfm hrv hlt1 hlt2 hnp hlt he hj hmj hft hM1 hG1 hG2
      cases g with
      | none =>
        have HG1':Hid (Calls Tryz.prog 72 #[.slice A n c,.slice P np pc] wr fun e w' => e = .returned (.tuple #[.int .u64 0,.bool false])∧wr = w'):=HG1
        clear HG1 hVal
        cases g' with
        | none =>
          have HG2':Hid (Calls Tryz.prog 72 #[.slice A' n' c',.slice P np pc] wr fun e w' => e = .returned (.tuple #[.int .u64 0,.bool false])∧wr = w'):=HG2
          clear HG2
          go_wp2_with fail
          refine HG1'.out.mono ?_
          rintro e' w3 ⟨rfl,rfl⟩
          clear HG1'
          go_wp2_with fail
          refine HG2'.out.mono ?_
          rintro e' w3 ⟨rfl,rfl⟩
          clear HG2'
          go_wp2_with fail
          go_roundw
          case rel =>
            refine ⟨j + 1,m,D,d,rfl,by first | rfl | go_num,by have:=HE.out.2.2.2.2.2.1;omega,?_⟩
            rw [HE.out.1,HE.out.2.1]
            simpa [Tr.jG] using HI.out
          case measure =>
            have:=HE.out.2.2.2.2.2.1
            show N2 - ((j:Int) + 1).toNat < N2 - (j:Int).toNat
            omega
        | some y =>
          have HG2':Hid (Calls Tryz.prog 72 #[.slice A' n' c',.slice P np pc] wr fun e w' => e = .returned (.tuple #[.int .u64 (y:Int),.bool true])∧wr = w'):=HG2
          clear HG2
          cases rg with
          | false =>
            go_wp2_with fail
            refine HG1'.out.mono ?_
            rintro e' w3 ⟨rfl,rfl⟩
            clear HG1'
            go_wp2_with fail
            refine HG2'.out.mono ?_
            rintro e' w3 ⟨rfl,rfl⟩
            clear HG2'
            go_wp2_with fail
            go_roundw
            case rel =>
              refine ⟨j + 1,m,D,d,rfl,by first | rfl | go_num,by have:=HE.out.2.2.2.2.2.1;omega,?_⟩
              rw [HE.out.1,HE.out.2.1]
              simpa [Tr.jG] using HI.out
            case measure =>
              have:=HE.out.2.2.2.2.2.1
              show N2 - ((j:Int) + 1).toNat < N2 - (j:Int).toNat
              omega
          | true =>
            go_wp2_with fail
            refine HG1'.out.mono ?_
            rintro e' w3 ⟨rfl,rfl⟩
            clear HG1'
            go_wp2_with fail
            refine HG2'.out.mono ?_
            rintro e' w3 ⟨rfl,rfl⟩
            clear HG2'
            go_wp2_with (at_builtin;refine wpList_append_list (Q:=EntQ w2 w.heap.size) 30 57 (.agg #[.slice none 0 0,.int .u64 0]) 32 Tryz.underlying30 infoE2 (by rfl) (by omega) (by omega) (entQ_ok w2 w.heap.size) (by rfl) _ _ (by rfl) w.heap.size (.slice D m d) M1 [((e.1,y):Ent)] (m + 1) (by rw [HI.out.len1];rfl) (by rfl) (by exact HI.out.own1.below (below_alloc _ _) (Nat.le_refl _)) _ _ 1 1 (by rfl) (by rfl) (by exact lst_pt HE.out.2.2.2.1 HE.out.2.2.2.2.1 HE.out.2.2.2.2.2.2.1 (HE.out.2.2.1 y rfl)) (by omega) (by have:=HI.out.old;simp;omega) ?_;intro D5 d5 w8 hown5 hgrow5 hat5;have HN1:=Lib.hid (HI.out.app (below_alloc _ _) hown5 hgrow5 hat5);clear hown5 hgrow5 hat5)
            go_roundw
            case rel =>
              refine ⟨j + 1,m + 1,D5,d5,rfl,by first | rfl | go_num,by have:=HE.out.2.2.2.2.2.1;omega,?_⟩
              rw [HE.out.1,HE.out.2.1]
              simpa [Tr.jG] using HN1.out
            case measure =>
              have:=HE.out.2.2.2.2.2.1
              show N2 - ((j:Int) + 1).toNat < N2 - (j:Int).toNat
              omega
      | some x =>
        have HG1':Hid (Calls Tryz.prog 72 #[.slice A n c,.slice P np pc] wr fun e w' => e = .returned (.tuple #[.int .u64 (x:Int),.bool true])∧wr = w'):=HG1
        clear HG1
        cases g' with
        | none =>
          clear hVal
          have HG2':Hid (Calls Tryz.prog 72 #[.slice A' n' c',.slice P np pc] wr fun e w' => e = .returned (.tuple #[.int .u64 0,.bool false])∧wr = w'):=HG2
          clear HG2
          cases lf with
          | false =>
            go_wp2_with fail
            refine HG1'.out.mono ?_
            rintro e' w3 ⟨rfl,rfl⟩
            clear HG1'
            go_wp2_with fail
            refine HG2'.out.mono ?_
            rintro e' w3 ⟨rfl,rfl⟩
            clear HG2'
            go_wp2_with fail
            go_roundw
            case rel =>
              refine ⟨j + 1,m,D,d,rfl,by first | rfl | go_num,by have:=HE.out.2.2.2.2.2.1;omega,?_⟩
              rw [HE.out.1,HE.out.2.1]
              simpa [Tr.jG] using HI.out
            case measure =>
              have:=HE.out.2.2.2.2.2.1
              show N2 - ((j:Int) + 1).toNat < N2 - (j:Int).toNat
              omega
          | true =>
            go_wp2_with fail
            refine HG1'.out.mono ?_
            rintro e' w3 ⟨rfl,rfl⟩
            clear HG1'
            go_wp2_with fail
            refine HG2'.out.mono ?_
            rintro e' w3 ⟨rfl,rfl⟩
            clear HG2'
            go_wp2_with (at_builtin;refine wpList_append_list (Q:=EntQ w2 w.heap.size) 30 57 (.agg #[.slice none 0 0,.int .u64 0]) 32 Tryz.underlying30 infoE2 (by rfl) (by omega) (by omega) (entQ_ok w2 w.heap.size) (by rfl) _ _ (by rfl) w.heap.size (.slice D m d) M1 [((e.1,x):Ent)] (m + 1) (by rw [HI.out.len1];rfl) (by rfl) (by exact HI.out.own1.below (below_alloc _ _) (Nat.le_refl _)) _ _ 1 1 (by rfl) (by rfl) (by exact lst_pt HE.out.2.2.2.1 HE.out.2.2.2.2.1 HE.out.2.2.2.2.2.2.1 (HE.out.2.2.1 x rfl)) (by omega) (by have:=HI.out.old;simp;omega) ?_;intro D5 d5 w8 hown5 hgrow5 hat5;have HN1:=Lib.hid (HI.out.app (below_alloc _ _) hown5 hgrow5 hat5);clear hown5 hgrow5 hat5)
            go_roundw
            case rel =>
              refine ⟨j + 1,m + 1,D5,d5,rfl,by first | rfl | go_num,by have:=HE.out.2.2.2.2.2.1;omega,?_⟩
              rw [HE.out.1,HE.out.2.1]
              simpa [Tr.jG] using HN1.out
            case measure =>
              have:=HE.out.2.2.2.2.2.1
              show N2 - ((j:Int) + 1).toNat < N2 - (j:Int).toNat
              omega
        | some y =>
          have HG2':Hid (Calls Tryz.prog 72 #[.slice A' n' c',.slice P np pc] wr fun e w' => e = .returned (.tuple #[.int .u64 (y:Int),.bool true])∧wr = w'):=HG2
          clear HG2
          have HV:=hVal x y rfl rfl
          clear hVal
          cases bo with
          | false =>
            go_wp2_with fail
            refine HG1'.out.mono ?_
            rintro e' w3 ⟨rfl,rfl⟩
            clear HG1'
            go_wp2_with fail
            refine HG2'.out.mono ?_
            rintro e' w3 ⟨rfl,rfl⟩
            clear HG2'
            go_wp2_with fail
            go_roundw
            case rel =>
              refine ⟨j + 1,m,D,d,rfl,by first | rfl | go_num,by have:=HE.out.2.2.2.2.2.1;omega,?_⟩
              rw [HE.out.1,HE.out.2.1]
              simpa [Tr.jG] using HI.out
            case measure =>
              have:=HE.out.2.2.2.2.2.1
              show N2 - ((j:Int) + 1).toNat < N2 - (j:Int).toNat
              omega
          | true =>
            have hq:Tr.jG r lf rg true none (some x) (some y) = some (ruleW r x y):=rfl
            have hRW:=HE.out.2.2.1 _ hq
            obtain ⟨z,hz⟩:∃ z,ruleW r x y = z:=⟨_,rfl⟩
            rw [hz] at hq hRW HV
            have HQ:=Lib.hid (And.intro hq hRW)
            clear hq hRW hz
            go_wp2_with fail
            refine HG1'.out.mono ?_
            rintro e' w3 ⟨rfl,rfl⟩
            clear HG1'
            go_wp2_with fail
            refine HG2'.out.mono ?_
            rintro e' w3 ⟨rfl,rfl⟩
            clear HG2'
            have hb0:Below wr.heap.size wr wr:=Below.refl _ _
            have a0:∀ w':World,w'.heap[b]? = wr.heap[b]?→w'.cell? ⟨b,off + j * 2,none⟩ = some (.slice P np pc):=fun w' h => (World.cell?_of_block (a:=⟨b,off + j * 2,none⟩) h).trans z0
            have hbr:b < wr.heap.size:=Nat.lt_of_lt_of_le HE.out.2.2.2.2.2.2.2.2.2.1 HI.out.foot.size
            go_wp2_with fail
            go_region_held3 (fun w':World => w'.heap[b]? = wr.heap[b]?) (first | exact hS6 | exact (show Below wr.heap.size wr _ by ((repeat first | refine bD ?_ | with_reducible refine bN ?_ | refine bA ?_ | refine bS ?_);first | exact bR | assumption | exact bN bR | exact bN (bN bR))).block _ hbr)
              (first
                | (go_at_call 73;refine (HV.out _).mono ?_;rintro e wv ⟨rfl,rfl⟩)
                | (refine step_append_list (Q:=EntQ w2 w.heap.size) 30 57 (.agg #[.slice none 0 0,.int .u64 0]) 32 Tryz.underlying30 infoE2 (by rfl) (by omega) (by omega) (entQ_ok w2 w.heap.size) (by rfl) _ _ (by rfl) w.heap.size (.slice D m d) M1 [((e.1,z):Ent)] (m + 1) (by rw [HI.out.len1];rfl) (by rfl) (by exact OwnL.below HI.out.own1 (show Below wr.heap.size wr _ by ((repeat first | refine bD ?_ | with_reducible refine bN ?_ | refine bA ?_ | refine bS ?_);first | exact bR | assumption | exact bN bR | exact bN (bN bR))) (Nat.le_refl _)) (wr.heap.size + 1) (some ⟨wr.heap.size,0,none⟩) 1 1 (by rfl) (by rfl) (by exact lst_pt HE.out.2.2.2.1 HE.out.2.2.2.2.1 HE.out.2.2.2.2.2.2.1 HQ.out.2) (by omega) (by have:=HI.out.old;simp;omega) ?_;intro D5 d5 w8 hown5 hgrow5 hat5;have HN1:=Lib.hid (HI.out.app (show Below wr.heap.size wr _ by ((repeat first | refine bD ?_ | with_reducible refine bN ?_ | refine bA ?_ | refine bS ?_);first | exact bR | assumption | exact bN bR | exact bN (bN bR))) hown5 hgrow5 hat5);have hS6:w8.heap[b]? = wr.heap[b]?:=(HN1.out.foot.block b HE.out.2.2.2.2.2.2.2.2.2.1 HE.out.2.2.2.2.2.2.2.2.2.2.1).trans (HI.out.foot.block b HE.out.2.2.2.2.2.2.2.2.2.1 HE.out.2.2.2.2.2.2.2.2.2.2.1).symm;clear hown5 hgrow5 hat5))
            all_goals (
              clear a0 hS6
              go_wp2_with fail
              go_roundw
              case rel =>
                refine ⟨j + 1,m + 1,D5,d5,rfl,by first | rfl | go_num,by have:=HE.out.2.2.2.2.2.1;omega,?_⟩
                rw [HE.out.1,HE.out.2.1,HQ.out.1]
                simpa using HN1.out
              case measure =>
                have:=HE.out.2.2.2.2.2.1
                show N2 - ((j:Int) + 1).toNat < N2 - (j:Int).toNat
                omega)
    · have hjn:N2 = j:=by omega
      subst hjn
      have f1:decide ((N2:Int) < (N2:Int)) = false:=decide_eq_false (by omega)
      have f1':decide (N2 < N2) = false:=decide_eq_false (by omega)
      have htk:U.take N2 = U:=by rw [← H2.out.1,List.take_length]
      have hMM:U.filterMap fM = C:=by rw [← HC.out.1,← Tr.jL_pts r lf rg bo HX.out.1 HX.out.2.1,H2.out.2.2.2.2.2.1,H2.out.2.2.2.2.1]
      rw [htk,hMM] at hI
      have hmN:N = m:=by rw [← HC.out.2.1];exact hI.len1
      subst hmN
      have hbw:Below w.heap.size w2 wr:=hI.foot.below H2.out.2.2.1.size (fun b hb => by omega)
      have ho1:OwnE wr w.heap.size w.heap.size (.slice D N d) C:=hI.own1.imp (entQ_mono fun p hp => hbw.cell hp)
      obtain ⟨D',d',hv,hd,hE⟩:=ho1.entL
      rw [HC.out.2.1] at hv hd
      simp only [Value.slice.injEq] at hv
      obtain ⟨rfl,-,rfl⟩:=hv
      have hEn:Ents wr wr.heap.size D C:=hE.ents (Nat.le_trans H2.out.2.2.1.size hbw.size) (Nat.le_refl _)
      have HR:=Lib.hid (And.intro hEn (And.intro hd (H2.out.2.2.1.trans hbw)))
      clear hI htk hMM hbw ho1 hE hd hEn hlt hj
      go_wp2_with fail
      go_ret
      exact ⟨D,d,rfl,HR.out.1,HR.out.2.1,HR.out.2.2⟩
end Go.Proofs.YtkeepngaaleakaaGreatDoor
