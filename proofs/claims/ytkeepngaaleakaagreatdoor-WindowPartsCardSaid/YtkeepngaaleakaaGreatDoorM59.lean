import Derived.Test.YtkeepngaaleakaaGreatDoorM55
namespace Go.Proofs.YtkeepngaaleakaaGreatDoor
open Go.ChangeShapes Go.WideShapes Go.ChangeAt Go.RowKit
open Tr (T S4 Ent)
set_option maxRecDepth 1000000 in
set_option maxHeartbeats 8000000 in
theorem wthrough_c {fid h B k n n':Nat} {W:List T} {go:List T→Bool} {Inv:List T→World→(Nat→Prop)→Prop} (hv:VisitW fid h B k W go Inv) {w:World} {F:Nat→Prop} (hI:Inv [] w F) (hgo:go [] = true) {o:Option T} (hn:NodeO w B k o) (hB:B≤w.heap.size)
    (hT:∀ w',Below B w w'→Tz w') {lo hi:List Nat} {C C':Option Addr} (hX:BoxP w B k C lo C' hi) (hW:W = wholesO lo hi o) (hlen:lvO o≤64) :
    Calls Tryz.prog 108 #[gdV C lo.length n C' hi.length n' (.func (.func fid) #[] #[.pointer (some ⟨h,0,none⟩)]) (.func (.func 212) #[] #[]),.pointer (rootP o)] w fun e w' =>
      (∃ z,e = .returned (.pointer z))∧∃ F',Inv (metTo go [] W) w' F'∧(∀ b,F' b→F b∨w.heap.size≤b)∧Foot F w w':=by
  have hent:=hv.ent
  have HV:=Lib.hid hv
  have hFlt:∀ b,F b→b < w.heap.size∧B≤b:=hv.inb _ _ _ hI
  have D0:=down_start hv hI hgo hn (gdC C lo.length n C' hi.length n' fid h) hW hlen
  have HX:=Lib.hid (And.intro hn (And.intro hB (And.intro hT (And.intro hX hFlt))))
  have HD:=Lib.hid D0
  clear hv hn hB hT hX hFlt D0 hI hgo hW hlen
  go_enter Tryz.func108,Tryz.ntmps108
  go_wp2_with fail
  refine wp_scope_three (fun m a' w' => ∃ (o:Option T) (S:List WFr) (D:Option Addr) (d:Nat),Slo a' (gdV C lo.length n C' hi.length n' (.func (.func fid) #[] #[.pointer (some ⟨h,0,none⟩)]) (.func (.func 212) #[] #[])) (.pointer (rootP o)) (.pointer (some ⟨w.heap.size,0,none⟩)) (.slice D S.length d)∧DownI h B k W go Inv lo hi (gdC C lo.length n C' hi.length n' fid h) w F o S D d w' m) (fun m a' w' => ∃ (z:Option Addr) (S:List WFr) (D:Option Addr) (d:Nat),Slo a' (gdV C lo.length n C' hi.length n' (.func (.func fid) #[] #[.pointer (some ⟨h,0,none⟩)]) (.func (.func 212) #[] #[])) (.pointer z) (.pointer (some ⟨w.heap.size,0,none⟩)) (.slice D S.length d)∧UpI h B k W go Inv lo hi (gdC C lo.length n C' hi.length n' fid h) w F S D d w' m) (fun m a' w' => ∃ (x:Value) (S:List WFr) (D:Option Addr) (d:Nat),Slo a' (gdV C lo.length n C' hi.length n' (.func (.func fid) #[] #[.pointer (some ⟨h,0,none⟩)]) (.func (.func 212) #[] #[])) x (.pointer (some ⟨w.heap.size,0,none⟩)) (.slice D S.length d)∧NextI h B k W go Inv lo hi (gdC C lo.length n C' hi.length n' fid h) w F S D d w' m) rfl rfl rfl ?up ?next ?down ?first
  case first =>
    intro hp
    have HP:=Lib.hid hp
    clear hp
    go_wp2_with fail
    refine wp_label ?_
    simp only [Exit.then]
    rename_i hK
    apply hK
    exact HP.out _ _ _ ⟨o,[],none,0,⟨rfl,rfl,rfl,rfl,rfl,rfl⟩,HD.out⟩
  case up =>
    intro m a' w' h
    obtain ⟨z,S,D,d,hs,hU⟩:=h
    obtain ⟨V,rfl⟩:=hs.lit
    clear hs
    cases S with
    | nil =>
      have HU:=Lib.hid hU
      clear hU
      simp only [List.length_nil]
      go_wp2_with fail
      simp only [jumpsTo]
      refine bodyPost_ret (v:=.pointer z) (by simp [results,Tryz.results108,go_sem]) rfl ?_
      obtain ⟨us,F',e1,e2,e3,e4,e5,-⟩:=HU.out.thr.us
      exact ⟨⟨z,rfl⟩,F',by rw [e3];simpa [restW_nil,metTo] using e4,e5,HU.out.thr.foot⟩
    | cons x S =>
      obtain ⟨o',a0,p0,A0,m0,c0⟩:=x
      obtain ⟨q,cs,hD,hq1,hq2,hd,hcs,hfr⟩:=hU.thr.top
      subst hD
      have hlev:=hU.thr.lev.1
      have hfa:=hU.thr.fr _ List.mem_cons_self
      have hma:(m0:Int)≤a0:=hU.ms _ List.mem_cons_self
      have ha0:a0≤65536:=hfa.2.2
      have hAq:A0.map (·.block)≠some q:=fun e => hU.thr.sep _ List.mem_cons_self q e rfl
      obtain ⟨f0,f1,f2,f3,f4,f5,f6⟩:=hfr
      obtain ⟨L,hL,hrow⟩:=hU.thr.rows _ List.mem_cons_self
      have HU:=Lib.hid hU
      have HR:=Lib.hid (And.intro hL (And.intro hrow (And.intro hAq (And.intro hq1 (And.intro hcs (And.intro hd f6))))))
      have k4:w'.cell? ⟨q,S.length * 7 + 4,none⟩ = some (.int .i64 a0):=wbox_cells hcs f4
      have k5:w'.cell? ⟨q,S.length * 7 + 5,none⟩ = some (.pointer p0):=wbox_cells hcs f5
      have k6:w'.cell? ⟨q,S.length * 7 + 6,none⟩ = some (.slice A0 m0 c0):=wbox_cells hcs f6
      have k4a:∀ ob,(w'.alloc ob).cell? ⟨q,S.length * 7 + 4,none⟩ = some (.int .i64 a0):=fun ob => ((below_alloc w' ob).cell (p:=⟨q,_,none⟩) hq2).trans k4
      have k5a:∀ ob,(w'.alloc ob).cell? ⟨q,S.length * 7 + 5,none⟩ = some (.pointer p0):=fun ob => ((below_alloc w' ob).cell (p:=⟨q,_,none⟩) hq2).trans k5
      have k6a:∀ ob,(w'.alloc ob).cell? ⟨q,S.length * 7 + 6,none⟩ = some (.slice A0 m0 c0):=fun ob => ((below_alloc w' ob).cell (p:=⟨q,_,none⟩) hq2).trans k6
      have hw0:w.heap.size + 1≤w'.heap.size:=HU.out.thr.lt
      have hm1:m0 + 1≤8000000000:=by omega
      have HM:=Lib.hid (And.intro hm1 (And.intro hma hw0))
      have e4:((S.length + 1:Nat):Int) - 1 = (S.length:Int):=by omega
      have m1:(0:Int)≤(S.length:Int):=by omega
      have m2:(S.length:Int) < ((S.length + 1:Nat):Int):=by omega
      have d0:(((S.length + 1:Nat):Int) == 0) = false:=by rw [beq_eq_false_iff_ne];omega
      have d1:decide ((S.length:Int) < 0) = false:=decide_eq_false (by omega)
      have hS:S.length≤64:=by omega
      clear hU hfa hlev hL hrow hAq f0 f1 f2 f3 f4 f5 f6 hq1 hcs hd hma hm1 hw0
      simp only [List.length_cons]
      go_wp2_with fail
      go_region_law ((refine step_append_list (Q:=MeQ) 157 160 (.agg #[.int .i64 0,.pointer none,.pointer none]) 24 Tryz.underlying157 infoWMet (by rfl) (by omega) (by omega) meQ_ok (by rfl) _ _ (by rfl) (w.heap.size + 1) (.slice A0 m0 c0) L [(a0,p0,z)] (m0 + 1) (by rw [HR.out.1];rfl) (by rfl) (by exact HR.out.2.1.below (by ((repeat first | refine bD ?_ | with_reducible refine bN ?_ | refine bA ?_ | refine bS ?_);first | exact bR | assumption | exact bN bR | exact bN (bN bR))) (Nat.le_refl _)) _ _ 1 1 (by rfl) (by rfl) (by exact lst_at meQ_ok _ (a0,p0,z) (by rfl) (by exact ⟨rfl,rfl,rfl⟩)) HM.out.1 (by have:=HM.out.2.2;simp;omega) ?_;intro D5 d5 w5 hown5 hgrow5 hat5;have hgr5:(w'.alloc (.cells #[.int .i64 a0,.pointer p0,.pointer z] 160)).grownBy w5 (Value.slice A0 m0 c0).ownBlock:=⟨hgrow5.os,hgrow5.tape,hgrow5.output,hgrow5.size,hgrow5.block⟩;have hq5:=row_after HR.out.2.2.2.2.1 HR.out.2.2.1 hgr5;have c5:=wbox_cells hq5 HR.out.2.2.2.2.2.2;have z5:w5.frozen? ⟨q,S.length * 7 + 6,none⟩ = false:=frozen_of_row w5 q _ _ _ hq5;clear hgrow5 hq5))
      all_goals go_wp2_with fail
      all_goals go_step3
      all_goals (
        obtain ⟨m',hm',hN⟩:=up_next HV.out HU.out (M:=L ++ [(a0,p0,z)]) (by rw [List.length_append,HR.out.1];rfl) hown5 hgr5 hat5
        exact ⟨m',hm',_,_,_,_,⟨rfl,rfl,rfl,rfl,rfl,rfl⟩,hN⟩)
  case next =>
    intro m hup a' w' h
    have HUp:=Lib.hid hup
    clear hup
    obtain ⟨x1,S,D,d,hs,hN⟩:=h
    obtain ⟨V,rfl⟩:=hs.lit
    clear hs
    cases S with
    | nil => exact absurd rfl hN.ne
    | cons x S =>
      obtain ⟨o',a0,p0,A0,m0,c0⟩:=x
      obtain ⟨q,cs,hD,hq1,hq2,hd,hcs,hfr⟩:=hN.thr.top
      subst hD
      have hlev:=hN.thr.lev.1
      have hfa:=hN.thr.fr _ List.mem_cons_self
      have hbe:Below B w w':=hN.thr.foot.below HX.out.2.1 (fun b hb => (HX.out.2.2.2.2 b hb).2)
      have hT':∀ w2,Below B w' w2→Tz w2:=fun w2 h2 => HX.out.2.2.1 w2 (hbe.trans h2)
      have hBq:B≤q:=by have:=HX.out.2.1;omega
      have HC:=Lib.hid (stepNext_o (hfa.1.below hbe (Nat.le_refl _) (Nat.le_refl _)) hT' hBq hcs hfr hfa.2.1 hfa.2.2)
      have HN:=Lib.hid hN
      have HF:=Lib.hid (And.intro hcs (And.intro hfr (And.intro hfa (And.intro hd hlev))))
      have e4:((S.length + 1:Nat):Int) - 1 = (S.length:Int):=by omega
      have m1:(0:Int)≤(S.length:Int):=by omega
      have m2:(S.length:Int) < ((S.length + 1:Nat):Int):=by omega
      have d1:decide ((S.length:Int) < 0) = false:=decide_eq_false (by omega)
      have hS:S.length≤64:=by omega
      clear hN hlev hfa hbe hT' hBq hcs hfr hd hq1
      simp only [List.length_cons]
      go_wp2_with fail
      refine HC.out.mono ?_
      rintro e w2 ⟨a2,p2,ha1,ha2,rfl,hx,hq3,hf⟩
      clear HC
      cases hb:beyO lo hi o' a0 with
      | nil =>
        have hpd:=pend_done (x:=⟨o',a0,p0,A0,m0,c0⟩) hb
        have hthr:=HN.out.thr.off HV.out HF.out.1 hq3 hf hpd.1
        have f0:(stepTo cs (S.length * 7) a2 p2)[S.length * 7 + 0]? = some (.pointer (rootP o')):=by rw [stepTo_other (by omega) (by omega)];exact HF.out.2.1.1
        have f6:(stepTo cs (S.length * 7) a2 p2)[S.length * 7 + 6]? = some (.slice A0 m0 c0):=by rw [stepTo_other (by omega) (by omega)];exact HF.out.2.1.2.2.2.2.2.2
        have k0:w2.cell? ⟨q,S.length * 7,none⟩ = some (.pointer (rootP o')):=wbox_cells hq3 f0
        have k6:w2.cell? ⟨q,S.length * 7 + 6,none⟩ = some (.slice A0 m0 c0):=wbox_cells hq3 f6
        have g2:w2.cell? ⟨w.heap.size,3,none⟩ = some (.func (.func 212) #[] #[]):=wbox_cells hthr.box rfl
        have HT:=Lib.hid (And.intro hthr hpd.2)
        have HS:=Lib.hid (slice_topW w2 q 0 (S.length + 1) d S.length (by omega) HF.out.2.2.2.1)
        clear hpd hthr f0 f6 hq3 hf hx hb
        simp only [List.isEmpty_nil,Bool.not_true]
        go_wp2_with fail
        go_quiet ((go_at_call 212;exact Calls.quiet_of_same ((weach2_c _ _ _).mono fun e w' h => ⟨h.1,h.2.symm⟩)))
        have hst:=(slice_topW (w2.drewN nq) q 0 (S.length + 1) d S.length (by omega) HF.out.2.2.2.1)
        clear k0 k6 g2 HS
        go_wp2_with fail
        refine wp_label ?_
        simp only [Exit.then]
        rename_i hK
        apply hK
        have hcnt:=HN.out.cnt
        rw [todoW_cons,HT.out.2] at hcnt
        refine HUp.out (4 * todoW lo hi S + 2 * S.length + 2) _ _ (by simp only [List.length_cons] at hcnt;omega) ⟨rootP o',S,some ⟨q,0,none⟩,d,⟨rfl,rfl,rfl,rfl,rfl,rfl⟩,HT.out.1.below HV.out (below_drewN nq (Below.refl _ _)),HN.out.ms,rfl⟩
      | cons y r =>
        obtain ⟨e1,e2,e3,e5⟩:=hx y r hb
        have hmem:=mem_beyO (lo:=lo) (hi:=hi) (o:=o') (a:=a0) (x:=y) (by rw [hb];exact List.mem_cons_self)
        subst e1 e2
        have hps:=pend_step (p:=p0) (p':=some ⟨y.2.blk,0,none⟩) (A:=A0) (m:=m0) (c:=c0) hb e5
        have hthr:=HN.out.thr.on HV.out HF.out.1 hq3 hf ha1 ha2 hps.1
        obtain ⟨hy1,hy2,hy3⟩:=kid_o HF.out.2.2.1.1 hmem.1
        have hD:DownI h B k W go Inv lo hi (gdC C lo.length n C' hi.length n' fid h) w F (some y.2) (⟨o',(y.1:Int),some ⟨y.2.blk,0,none⟩,A0,m0,c0⟩ :: S) (some ⟨q,0,none⟩) d w2 (m - 1):=by
          have hcnt:=HN.out.cnt
          have hlv:=HF.out.2.2.2.2
          refine ⟨hthr,NodeO.some hy1,?_,fun x hx => ?_,?_⟩
          · show y.2.lv + (S.length + 1 + 1)≤65
            omega
          · rcases List.mem_cons.1 hx with rfl | hx
            · have:=HN.out.mt _ rfl
              have:=hmem.2
              simp only at *
              omega
            · exact HN.out.ms x hx
          · rw [todoW_cons] at hcnt ⊢
            rw [hps.2] at hcnt
            show m - 1 = 4 * (todoO (some y.2) + _) + _
            simp only [List.length_cons] at hcnt ⊢
            omega
        have hm1:m - 1 < m:=by have hcnt:=HN.out.cnt;omega
        have f5:(stepTo cs (S.length * 7) (y.1:Int) (some ⟨y.2.blk,0,none⟩))[S.length * 7 + 5]? = some (.pointer (some ⟨y.2.blk,0,none⟩)):=by
          have h5:=(Array.getElem?_eq_some_iff.1 HF.out.2.1.2.2.2.2.2.1).1
          unfold stepTo
          rw [Array.getElem?_setIfInBounds_self_of_lt (by simpa using h5)]
        have k5:w2.cell? ⟨q,S.length * 7 + 5,none⟩ = some (.pointer (some ⟨y.2.blk,0,none⟩)):=wbox_cells hq3 f5
        have HD2:=Lib.hid (And.intro hm1 hD)
        clear hps hthr hy1 hy2 hy3 hD hm1 f5 hq3 hf hx hb hmem e3 e5
        simp only [List.isEmpty_cons,Bool.not_false]
        go_wp2_with fail
        go_step3
        exact ⟨_,HD2.out.1,some y.2,_,_,_,⟨rfl,rfl,rfl,rfl,rfl,rfl⟩,HD2.out.2⟩
  case down =>
    intro m hnext a' w' h
    have HNx:=Lib.hid hnext
    clear hnext
    obtain ⟨o',S,D,d,hs,hD⟩:=h
    obtain ⟨V,rfl⟩:=hs.lit
    clear hs
    have hbe:Below B w w':=hD.thr.foot.below HX.out.2.1 (fun b hb => (HX.out.2.2.2.2 b hb).2)
    have hX':=HX.out.2.2.2.1.below hbe (Nat.le_refl _) (Nat.le_refl _)
    have hBw:B≤w'.heap.size:=Nat.le_trans HX.out.2.1 hD.thr.foot.size
    have hnd:=hD.nd.below hbe (Nat.le_refl _) (Nat.le_refl _)
    have g0:w'.cell? ⟨w.heap.size,0,none⟩ = some (.slice C lo.length n):=wbox_cells hD.thr.box rfl
    have g1:w'.cell? ⟨w.heap.size,1,none⟩ = some (.slice C' hi.length n'):=wbox_cells hD.thr.box rfl
    have g2:w'.cell? ⟨w.heap.size,2,none⟩ = some (.func (.func fid) #[] #[.pointer (some ⟨h,0,none⟩)]):=wbox_cells hD.thr.box rfl
    have g3:w'.cell? ⟨w.heap.size,3,none⟩ = some (.func (.func 212) #[] #[]):=wbox_cells hD.thr.box rfl
    cases hwh:whO lo hi o' with
    | true =>
      obtain ⟨t,rfl⟩:∃ t,o' = some t:=by
        cases o' with
        | none => cases hwh
        | some t => exact ⟨t,rfl⟩
      have HL:=Lib.hid (look_yes n n' (.func (.func fid) #[] #[.pointer (some ⟨h,0,none⟩)]) (.func (.func 212) #[] #[]) (hnd t rfl) hX' hBw hwh)
      have HD2:=Lib.hid (And.intro hD (And.intro hbe (And.intro hBw hwh)))
      clear hD hbe hX' hBw hnd hwh
      simp only [rootP]
      go_wp2_with fail
      refine HL.out.mono ?_
      rintro e w2 ⟨rfl,hb2⟩
      have HB2:=Lib.hid hb2
      clear HL hb2 g0 g1 g2 g3
      go_upto_region 5 with fail
      obtain ⟨W1,hW1⟩:∃ W1,W1 = w2.alloc (.cells #[.int .i64 0,.int .i64 0,.int .i64 0] 222):=⟨_,rfl⟩
      have hbw:Below w'.heap.size w' W1:=by rw [hW1];exact HB2.out.trans ((below_alloc w2 _).mono HB2.out.size)
      rw [← hW1]
      clear hW1
      have hthr:=HD2.out.1.thr.below HV.out hbw
      rw [show wholesO lo hi (some t) = [t] from Tr.wholes_whole HD2.out.2.2.2] at hthr
      have g2:W1.cell? ⟨w.heap.size,2,none⟩ = some (.func (.func fid) #[] #[.pointer (some ⟨h,0,none⟩)]):=wbox_cells hthr.box rfl
      obtain ⟨on,hc⟩:=hthr.told HV.out ((HD2.out.1.nd t rfl).below (HD2.out.2.1.trans (hbw.mono HD2.out.2.2.1)) (Nat.le_refl _) (Nat.le_refl _)) (Nat.le_trans HD2.out.2.2.1 hbw.size) (fun w9 h9 => HX.out.2.2.1 w9 ((HD2.out.2.1.trans (hbw.mono HD2.out.2.2.1)).trans h9))
      have HC:=Lib.hid hc
      clear hthr hc hbw
      go_wp2_with fail
      refine HC.out.mono ?_
      rintro e w3 ⟨rfl,hon,hoff⟩
      have HO:=Lib.hid (And.intro hon hoff)
      clear HC hon hoff g2
      cases on with
      | true =>
        go_wp2_with fail
        go_step3
        have hcnt:=HD2.out.1.cnt
        have hpos:=todoN_pos (some t)
        exact ⟨4 * todoW lo hi S + 2 * S.length + 2,by omega,some ⟨t.blk,0,none⟩,S,D,d,⟨rfl,rfl,rfl,rfl,rfl,rfl⟩,HO.out.1 (by first | rfl | trivial),HD2.out.1.ms,rfl⟩
      | false =>
        go_wp2_with fail
        simp only [jumpsTo]
        refine bodyPost_ret (v:=.pointer none) (by simp [results,Tryz.results108,go_sem]) rfl ?_
        exact ⟨⟨none,rfl⟩,HO.out.2 (by first | rfl | trivial)⟩
    | false =>
      have hl:=look_o_no n n' (.func (.func fid) #[] #[.pointer (some ⟨h,0,none⟩)]) (.func (.func 212) #[] #[]) hnd hX' hBw hwh
      unfold leftO at hl
      obtain ⟨z1,hz1⟩:∃ z:Int,z = (mk1 o':Int):=⟨_,rfl⟩
      obtain ⟨z2,hz2⟩:∃ z:Int,z = (mk2 lo hi o':Int):=⟨_,rfl⟩
      obtain ⟨z3,hz3⟩:∃ z:Int,z = (mk3 lo hi o':Int):=⟨_,rfl⟩
      rw [← hz1,← hz2,← hz3] at hl
      have HZ:=Lib.hid (And.intro hz1 (And.intro hz2 hz3))
      have HL:=Lib.hid hl
      clear hl hz1 hz2 hz3
      have HD2:=Lib.hid (And.intro hD (And.intro hbe (And.intro hBw hwh)))
      clear hD hbe hX' hBw hnd hwh
      go_wp2_with fail
      refine HL.out.mono ?_
      rintro e w2 ⟨rfl,hb2⟩
      have HB2:=Lib.hid hb2
      clear HL hb2 g0 g1 g2 g3
      go_upto_region 9 with fail
      obtain ⟨W1,hW1⟩:∃ W1,W1 = w2.alloc (.cells #[.int .i64 z1,.int .i64 z2,.int .i64 z3] 222):=⟨_,rfl⟩
      have hbw:Below w'.heap.size w' W1:=by rw [hW1];exact HB2.out.trans ((below_alloc w2 _).mono HB2.out.size)
      have hmk:W1.heap[w2.heap.size]? = some (.cells #[.int .i64 z1,.int .i64 z2,.int .i64 z3] 222 (0,0)):=by rw [hW1];exact heap_at _ _ _ rfl
      have c0:W1.cell? ⟨w2.heap.size,0,none⟩ = some (.int .i64 z1):=wbox_cells hmk rfl
      have c1:W1.cell? ⟨w2.heap.size,1,none⟩ = some (.int .i64 z2):=wbox_cells hmk rfl
      have c2:W1.cell? ⟨w2.heap.size,2,none⟩ = some (.int .i64 z3):=wbox_cells hmk rfl
      rw [← hW1]
      have hsz1:=hbw.size
      have hthr:=HD2.out.1.thr.below HV.out hbw
      have hw0:w.heap.size + 1≤W1.heap.size:=hthr.lt
      have HT:=Lib.hid hthr
      have hl65:=HD2.out.1.lv
      clear hthr hmk hW1 HB2
      go_wp2_with (at_builtin;refine wpList_append_list (Q:=FrQ lo hi) 219 226 (.agg #[.pointer none,.int .i64 0,.int .i64 0,.int .i64 0,.int .i64 0,.pointer none,.slice none 0 0]) 72 Tryz.underlying219 infoWStep (by rfl) (by omega) (by omega) (frQ_ok lo hi) (by rfl) _ _ (by rfl) (w.heap.size + 1) (.slice D S.length d) S.reverse [⟨o',-1,none,none,0,0⟩] (S.length + 1) (by simp) (by rfl) (by exact HT.out.stk.below (below_alloc _ _) (Nat.le_refl _)) _ _ 1 1 (by rfl) (by rfl) (by exact lst_at (frQ_ok lo hi) #[.pointer (rootP o'),.int .i64 z1,.int .i64 z2,.int .i64 z3,.int .i64 (-1),.pointer none,.slice none 0 0] (⟨o',-1,none,none,0,0⟩:WFr) (by rfl) (by exact ⟨rfl,by rw [← HZ.out.1];rfl,by rw [← HZ.out.2.1];rfl,by rw [← HZ.out.2.2];rfl,rfl,rfl,rfl⟩)) (by omega) (by simp;omega) ?_;intro D5 d5 w5 hown5 hgrow5 hat5)
      refine wp_label ?_
      simp only [Exit.then]
      rename_i hK
      apply hK
      rw [own_block] at hgrow5
      rw [own_block,own_block] at hat5
      have hs:(W1.alloc (.cells #[.pointer (rootP o'),.int .i64 z1,.int .i64 z2,.int .i64 z3,.int .i64 (-1),.pointer none,.slice none 0 0] 226)).heap.size = W1.heap.size + 1:=by simp
      rw [hs] at hat5
      have hp:=HT.out.push HV.out HD2.out.1.nd HD2.out.2.2.2 HD2.out.1.lv hown5 hgrow5 hat5
      have hcnt:=HD2.out.1.cnt
      have hpush:=todoN_push lo hi o' none none 0 0
      refine HNx.out (4 * todoW lo hi (⟨o',-1,none,none,0,0⟩ :: S) + 2 * (S.length + 1) + 1) _ _ (by rw [todoW_cons];omega) ⟨_,_,D5,d5,⟨rfl,rfl,rfl,rfl,rfl,rfl⟩,hp,by simp,HD2.out.1.ms,fun x hx => ?_,by simp⟩
      simp only [List.head?_cons,Option.some.injEq] at hx
      subst hx
      show ((0:Nat):Int)≤-1 + 1
      omega
end Go.Proofs.YtkeepngaaleakaaGreatDoor
