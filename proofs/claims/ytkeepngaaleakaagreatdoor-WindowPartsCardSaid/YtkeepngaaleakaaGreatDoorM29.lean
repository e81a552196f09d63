import Derived.Test.YtkeepngaaleakaaGreatDoorM28
namespace Go.Proofs.YtkeepngaaleakaaGreatDoor
open Go.ChangeShapes Go.WideShapes Go.ChangeAt Go.RowKit
open Tr (T S4 Ent)
theorem Stp.turn {w:World} {B g k:Nat} {kk:Int} {o:Option T} {S0:List (T × Nat)} {D0:Option Addr} {μ:List (T × Nat)→Nat} {m:Nat} {S:List (T × Nat)} {D:Option Addr} {d:Nat} {w':World} {S':List (T × Nat)} {D':Option Addr} {d':Nat} {w2:World}
    (h:Stp w B g k kk o S0 D0 μ m S D d w') (hc:CurAt w2 B g k kk o S' D' d') (hf:Foot (Cf g D) w' w2) (hn:∀ b,Cf g D' b→Cf g D b∨w'.heap.size≤b):Stp w B g k kk o S' D0 μ (μ S') S' D' d' w2:=by
  have h1:Stp w B g k kk o S D0 μ m S D d w':=⟨h.cur,rfl,rfl,h.foot,h.far,h.old,h.box,h.cnt⟩
  have hlt:=h.lt
  refine ⟨hc,rfl,rfl,h.foot.trans hf (fun b hb => ?_),fun b hb => ?_,h.old,(hf.block _ hlt h.out).trans h.box,rfl⟩
  · rcases h.far b hb with hb | hb
    · exact .inl hb
    · exact .inr (Nat.le_of_lt hb)
  · rcases hn b hb with hb | hb
    · exact h.far b hb
    · exact .inr (by omega)
theorem Stp.re {w:World} {B g k:Nat} {kk:Int} {o:Option T} {S0 S1:List (T × Nat)} {D0:Option Addr} {μ:List (T × Nat)→Nat} {m:Nat} {S:List (T × Nat)} {D:Option Addr} {d:Nat} {w':World}
    (h:Stp w B g k kk o S1 D0 μ m S D d w') (hb:Tr.bef S = Tr.bef S0) (ha:Tr.aft S = Tr.aft S0):Stp w B g k kk o S0 D0 μ m S D d w':=⟨h.cur,hb,ha,h.foot,h.far,h.old,h.box,h.cnt⟩
theorem told_some {w w' W3:World} {B g k:Nat} {kk:Int} {o:Option T} {S0:List (T × Nat)} {D0:Option Addr} {μ:List (T × Nat)→Nat} {m:Nat} {S:List (T × Nat)} {D:Option Addr} {d:Nat} (h3:Stp w B g k kk o S0 D0 μ m S D d W3)
    {p:List Nat} {v hh dd:Nat} (ho:Own w' W3.heap.size (.slice (some ⟨hh,0,none⟩) p.length dd) p) (x y:Value) :
    Told w ((w'.setCell ⟨w.heap.size,0,none⟩ x).setCell ⟨w.heap.size,1,none⟩ y) g D (some (p,v)) (.returned (.tuple #[entryV (some ⟨hh,0,none⟩) p.length dd v,.bool true])):=by
  have h1:=(ho.2.lt hh rfl).1
  have h2:=h3.lt
  have hn:(Value.slice (some ⟨hh,0,none⟩) p.length dd).ownBlock≠some w.heap.size:=fun e => by simp only [Value.ownBlock,Option.some.injEq] at e;omega
  refine ⟨hh,dd,rfl,own_set (own_set (ho.mono (Nat.le_of_lt h2)) (a:=⟨w.heap.size,0,none⟩) hn x) (a:=⟨w.heap.size,1,none⟩) hn y,fun hc => ?_⟩
  have:=(h3.cur.mem.lt hh hc).2
  omega
set_option maxRecDepth 1000000 in
set_option maxHeartbeats 4000000 in
theorem next_c {w:World} {B g k:Nat} {kk:Int} {o:Option T} {S0:List (T × Nat)} {D0:Option Addr} {d0:Nat} (h:CurAt w B g k kk o S0 D0 d0) (hT:∀ w',Below B w w'→Tz w') :
    Calls Tryz.prog 214 #[.pointer (some ⟨g,0,none⟩)] w fun e w' => ∃ S D d,CurAt w' B g k kk o S D d∧Foot (Cf g D0) w w'∧(∀ b,Cf g D b→Cf g D0 b∨w.heap.size≤b)∧Told w w' g D (Tr.aft S0).head? e∧Tr.bef S = Tr.bef S0 ++ (Tr.aft S0).take 1∧Tr.aft S = (Tr.aft S0).drop 1:=by
  have hal:=below_alloc w (.cells #[.slice none 0 0,.int .u64 0] 57)
  have H0:=Lib.hid (show Stp w B g k kk o S0 D0 Tr.mN (Tr.mN S0) S0 D0 d0 (w.alloc (.cells #[.slice none 0 0,.int .u64 0] 57)) from ⟨h.below hal,rfl,rfl,Foot.of_below hal,fun b hb => .inl hb,fun b hb => (h.mem.lt b hb).2,heap_at w _ _ rfl,rfl⟩)
  have HX:=Lib.hid (And.intro h hT)
  clear h hT hal
  go_enter Tryz.func214,Tryz.ntmps214
  go_wp2_with fail
  refine wp_scope_count 0 (fun m a' w' => ∃ (S:List (T × Nat)) (D:Option Addr) (d:Nat) (u1 u4 u5 u6 u7 u8 u9 u10 u11 u12 u13 u14 u15 u16 u17 u18 u19 u20 u21 u22 u23 u24 u25 u26 u27 u28 u29 u30 u31 u32 u33 u34 u35 u36 u37 u38 u39 u40 u41 u42 u43 u44 u45 u46 u47 u48 u49 u50 u51 u52 u53 u54 u55 u56 u57 u58 u59 u60 u61 u62 u63 u64 u65 u66:Value),
      a' = { tmps:=#[.pointer (some ⟨g,0,none⟩),u1,.pointer (some ⟨w.heap.size,0,none⟩),.bool false,u4,u5,u6,u7,u8,u9,u10,u11,u12,u13,u14,u15,u16,u17,u18,u19,u20,u21,u22,u23,u24,u25,u26,u27,u28,u29,u30,u31,u32,u33,u34,u35,u36,u37,u38,u39,u40,u41,u42,u43,u44,u45,u46,u47,u48,u49,u50,u51,u52,u53,u54,u55,u56,u57,u58,u59,u60,u61,u62,u63,u64,u65,u66],defers:=[] }∧Stp w B g k kk o S0 D0 Tr.mN m S D d w') rfl ?first ?pass
  case first =>
    intro hp
    refine wp_seq (wp_label (hp _ _ _ ⟨S0,D0,d0,_,_,_,_,_,_,_,_,_,_,_,_,_,_,_,_,_,_,_,_,_,_,_,_,_,_,_,_,_,_,_,_,_,_,_,_,_,_,_,_,_,_,_,_,_,_,_,_,_,_,_,_,_,_,_,_,_,_,_,_,_,_,_,_,rfl,H0.out⟩))
  case pass =>
    rintro m a' w' ⟨S,D,d,u1,u4,u5,u6,u7,u8,u9,u10,u11,u12,u13,u14,u15,u16,u17,u18,u19,u20,u21,u22,u23,u24,u25,u26,u27,u28,u29,u30,u31,u32,u33,u34,u35,u36,u37,u38,u39,u40,u41,u42,u43,u44,u45,u46,u47,u48,u49,u50,u51,u52,u53,u54,u55,u56,u57,u58,u59,u60,u61,u62,u63,u64,u65,u66,rfl,hst⟩
    clear H0
    cases S with
    | nil =>
      obtain ⟨b0,b1,f0,f1⟩:=box_cells hst.box
      obtain ⟨r0,r1⟩:=res_cells hst.box (.slice none 0 0) (.int .u64 0)
      have HL:=Lib.hid (last_none hst.cur.mem)
      have HS:=Lib.hid hst
      clear hst
      go_wp2_with (go_at_call 249;refine HL.out.mono ?_;rintro e w2 ⟨rfl,rfl⟩)
      simp only [Exit.jump]
      refine bodyPost_ret (v:=.tuple #[entryV none 0 0 0,.bool false]) (by simp [results,Tryz.results214,go_sem,r0,r1]) rfl ?_
      obtain ⟨z1,z2,z3⟩:=HS.out.res (.slice none 0 0) (.int .u64 0)
      have ha:Tr.aft S0 = []:=HS.out.aft.symm
      refine ⟨[],D,d,z1,z2,z3,?_,?_,?_⟩
      · rw [ha];rfl
      · rw [ha,← HS.out.bef];rfl
      · rw [ha];rfl
    | cons x R =>
      obtain ⟨t,n⟩:=x
      obtain ⟨q,hD,hBq,hqs,hqg,hcap,-,-,-⟩:=hst.cur.mem.top
      subst hD
      have hlen:=hst.cur.len
      have hnd:=hst.cur.nodes (t,n) List.mem_cons_self
      have hn64:n≤65536:=hnd.2
      have hl65:R.length≤64:=by rw [List.length_cons] at hlen;omega
      have HB:Hid (∀ w2,Stp w B g k kk o S0 D0 Tr.mN m ((t,n) :: R) (some ⟨q,0,none⟩) d w2→Below B w w2∧Node w2 B k t∧w2.cell? ⟨q,R.length * 2,none⟩ = some (.pointer (some ⟨t.blk,0,none⟩))∧w2.cell? ⟨q,R.length * 2 + 1,none⟩ = some (.int .i64 (n:Int))∧w2.frozen? ⟨q,R.length * 2 + 1,none⟩ = false):=Lib.hid fun w2 h2 => by
        obtain ⟨q',hD',-,-,-,-,k0,k1,fz⟩:=h2.cur.mem.top
        simp only [Option.some.injEq,Addr.mk.injEq,and_true] at hD'
        subst hD'
        have hb:Below B w w2:=h2.foot.below HX.out.1.size fun b hb => (HX.out.1.mem.lt b hb).1
        exact ⟨hb,(h2.cur.nodes (t,n) List.mem_cons_self).1,k0,k1,fz⟩
      have HL:Hid (Calls Tryz.prog 249 #[.pointer (some ⟨g,0,none⟩)] w' fun e w2 => e = .returned (.pointer (some ⟨q,R.length * 2,none⟩))∧Stp w B g k kk o S0 D0 Tr.mN m ((t,n) :: R) (some ⟨q,0,none⟩) d w2):=Lib.hid ((last_c hst.cur.mem (by omega)).mono fun e w2 ⟨he,i,hi⟩ => ⟨he,by rw [hi];exact hst.drew i⟩)
      have hwf:=hnd.1.1
      clear hst hnd hlen
      by_cases hent:t.lv = 0∧n = 0
      · obtain ⟨hlv,hn0⟩:=hent
        cases t with
        | br => exact absurd hlv (by simp [T.lv])
        | ent eb p v =>
          have hN:∀ w2,Node w2 B k (.ent eb p v)→NdAt w2 B eb (-1) p v none (Tr.s1 v):=fun w2 h2 => by cases h2.2 with | ent _ _ _ h => exact h
          have hpl:p≠[]∧p.length≤1000000:=by
            cases hwf with
            | ent _ _ _ k1 k16 hl ho hv => exact ⟨by intro e;rw [e] at hl;simp at hl;omega,by omega⟩
          have d1:decide ((-1:Int) < 0) = true:=by decide
          have HP:=Lib.hid hpl
          have hv64:v < 18446744073709551616:=by cases hwf with | ent _ _ _ k1 k16 hl ho hv => exact hv
          clear hpl hwf hlv
          subst hn0
          simp only [T.blk] at HL HB
          go_upto_region 6 with (first
            | (go_at_call 249;refine HL.out.mono ?_;rintro e w2 ⟨rfl,hst2⟩;have HS:=Lib.hid hst2;obtain ⟨-,hnd2,k0,k1,fz⟩:=HB.out w2 hst2;clear hst2)
            | (go_at_call 120;refine (nLevel_c (hN _ hnd2)).mono ?_;rintro e w3 ⟨rfl,rfl⟩))
          have G:=HS.out.cur.gap 65536 (by omega)
          rw [show ((65536:Nat):Int) = 65536 from rfl] at G
          have St3:=HS.out.turn G.1 G.2 (fun _ hb => .inl hb)
          obtain ⟨W3,hW3⟩:∃ W3,W3 = w2.setCell ⟨q,R.length * 2 + 1,none⟩ (.int .i64 65536):=⟨_,rfl⟩
          have hk3:W3.cell? ⟨q,R.length * 2,none⟩ = some (.pointer (some ⟨eb,0,none⟩)):=by
            obtain ⟨q',hD',-,-,-,-,k0',-,-⟩:=St3.cur.mem.top
            simp only [Option.some.injEq,Addr.mk.injEq,and_true] at hD'
            subst hD'
            rw [hW3];exact k0'
          rw [← hW3] at St3 ⊢
          have H3:=Lib.hid (And.intro St3 (And.intro (hN _ (St3.cur.nodes _ List.mem_cons_self).1) St3.cur.size))
          clear G St3 k0 k1 fz hnd2 hW3 HB HL
          go_wp2_with (go_at_call 88;refine (nEntry_ent H3.out.2.1 H3.out.2.2 HP.out.1 HP.out.2).mono ?_;rintro e w4 ⟨hh,dd,rfl,ho4,hb4⟩;have St4:=H3.out.1.below hb4;obtain ⟨b0,b1,f0,f1⟩:=box_cells St4.box;obtain ⟨r0,r1⟩:=res_cells St4.box (.slice (some ⟨hh,0,none⟩) p.length dd) (.int .u64 (v:Int));have H4:=Lib.hid (And.intro St4 ho4);clear St4 ho4 hb4)
          simp only [Exit.jump]
          refine bodyPost_ret (v:=.tuple #[entryV (some ⟨hh,0,none⟩) p.length dd v,.bool true]) (by simp [results,Tryz.results214,go_sem,r0,r1]) rfl ?_
          obtain ⟨z1,z2,z3⟩:=H4.out.1.res (.slice (some ⟨hh,0,none⟩) p.length dd) (.int .u64 (v:Int))
          have ht:=told_some (p:=p) (v:=v) H3.out.1 H4.out.2 (.slice (some ⟨hh,0,none⟩) p.length dd) (.int .u64 (v:Int))
          have ha:=HS.out.aft
          have hb:=HS.out.bef
          have ha':Tr.aft S0 = (p,v) :: Tr.aftR R:=ha.symm
          have hb':Tr.bef S0 = Tr.foreR R:=by rw [← hb];exact List.append_nil _
          refine ⟨_,_,_,z1,z2,z3,?_,?_,?_⟩
          · rw [ha'];exact ht
          · rw [ha',hb'];rfl
          · rw [ha'];rfl
      · obtain ⟨kx,hkx⟩:∃ kx,t.ks[Sl.idx t.ks (n:Int)]? = kx:=⟨_,rfl⟩
        obtain ⟨lv,hlv⟩:∃ lv,levI t = lv:=⟨_,rfl⟩
        have HLev:Hid (∀ w2,Node w2 B k t→Calls Tryz.prog 120 #[.pointer (some ⟨t.blk,0,none⟩)] w2 fun e w3 => e = .returned (.int .i64 lv)∧w2 = w3):=Lib.hid fun w2 h2 => by
          obtain ⟨kp,h3⟩:=h2.2.nd
          rw [hlv] at h3
          exact nLevel_c h3
        have HFr:Hid (∀ w2,Stp w B g k kk o S0 D0 Tr.mN m ((t,n) :: R) (some ⟨q,0,none⟩) d w2→∀ i,Calls Tryz.prog 149 #[.pointer (some ⟨t.blk,0,none⟩),.int .i64 (n:Int)] (w2.drewN i) fun e w3 => e = .returned (atKid (kidP kx).1 (kidP kx).2)∧∃ j,w3 = (w2.drewN i).drewN j):=Lib.hid fun w2 h2 i =>
          nFrom_c ((HB.out w2 h2).2.1.below (below_drewN i (Below.refl w2.heap.size w2)) h2.cur.size (Nat.le_refl _)).2 (HX.out.2 (w2.drewN i) (below_drewN i (HB.out w2 h2).1)) (n:Int) (by omega) (by omega) _ (by rw [hkx])
        have HC:=Lib.hid (And.intro hent (And.intro hkx (And.intro hlv hwf)))
        have hnI:(n:Int)≤65536:=by omega
        have hn0I:(0:Int)≤(n:Int):=by omega
        clear hent hkx hwf
        by_cases h0:t.lv = 0
        · have d1:decide (lv < 0) = true:=decide_eq_true (by rw [← hlv];simp only [levI,h0];omega)
          have e0:((n:Int) == 0) = false:=by have:n≠0:=fun e => HC.out.1 ⟨h0,e⟩;simp;omega
          clear hlv h0
          go_upto_region 7 with (first
            | (go_at_call 249;refine HL.out.mono ?_;rintro e w2 ⟨rfl,hst2⟩;have HS:=Lib.hid hst2;obtain ⟨-,hnd2,k0,k1,fz⟩:=HB.out w2 hst2;clear hst2)
            | (go_at_call 120;refine (HLev.out _ hnd2).mono ?_;rintro e w3 ⟨rfl,rfl⟩))
          cases kx with
          | some y =>
            obtain ⟨a,s⟩:=y
            have HF2:Hid (∀ i,Calls Tryz.prog 149 #[.pointer (some ⟨t.blk,0,none⟩),.int .i64 (n:Int)] (w2.drewN i) fun e w3 => e = .returned (atKid a (some ⟨s.blk,0,none⟩))∧∃ j,w3 = (w2.drewN i).drewN j):=Lib.hid (HFr.out w2 HS.out)
            clear HFr
            go_quiet ((go_at_call 149;with_reducible exact Calls.quiet_of (HF2.out _)))
            have StW:=HS.out.drew nq
            obtain ⟨-,-,k0',k1',fz'⟩:=HB.out _ StW
            have hmem:(a,s)∈t.ks:=List.mem_of_getElem? HC.out.2.1
            have ha16:a < 65536:=HC.out.2.2.2.lt16 _ hmem
            have G:=StW.cur.gap a (by omega)
            obtain ⟨W,hW⟩:∃ W,W = w2.drewN nq:=⟨_,rfl⟩
            rw [← hW] at StW k0' k1' fz' G ⊢
            have HSW:=Lib.hid (And.intro StW (And.intro hmem (And.intro ha16 G)))
            clear StW k0 k1 fz hW hnd2 HB HL HLev hmem ha16 G HF2
            go_upto_region 10 with fail
            obtain ⟨StW,hmem,ha16,G⟩:=HSW.out
            obtain ⟨W3,hW3⟩:∃ W3,W3 = W.setCell ⟨q,R.length * 2 + 1,none⟩ (.int .i64 (a:Int)):=⟨_,rfl⟩
            rw [← hW3] at G ⊢
            have HST:Hid (Calls Tryz.prog 250 #[.pointer (some ⟨g,0,none⟩),.pointer (some ⟨s.blk,0,none⟩),.int .i64 0] W3 fun e w' => e = .returned (.tuple #[]) ∧
                ∃ D' d',CurM w' B g kk (rootP o) ((s,0) :: (t,a) :: R) D' d'∧Foot (Cf g (some ⟨q,0,none⟩)) W3 w'∧(∀ b,Cf g D' b→Cf g (some ⟨q,0,none⟩) b∨W3.heap.size≤b)):=Lib.hid (step_c G.1.mem (by rw [List.length_cons];omega) G.1.size s 0)
            have HW3:=Lib.hid hW3
            clear k0' k1' fz' StW hmem ha16 G hW3
            go_wp2_with (go_at_call 250;refine HST.out.mono ?_;rintro e w5 ⟨rfl,D5,d5,hm5,hf5,hn5⟩)
            go_step3
            obtain ⟨StW,hmem,ha16,G⟩:=HSW.out
            rw [← HW3.out] at G
            have hP:=Tr.next_push (R:=R) HC.out.2.2.2 HC.out.2.1
            have Stn:=StW.next (CurAt.push G.1 hmem (by omega) hm5 hf5) hP.1 hP.2 (G.2.trans hf5 (fun b hb => .inl hb)) (fun b hb => (hn5 b hb).elim .inl (fun h => .inr (Nat.le_trans G.2.size h)))
            exact ⟨rfl,_,by rw [StW.cnt];exact Tr.mN_push (R:=R) HC.out.2.2.2 HC.out.2.1,_,D5,d5,_,_,_,_,_,_,_,_,_,_,_,_,_,_,_,_,_,_,_,_,_,_,_,_,_,_,_,_,_,_,_,_,_,_,_,_,_,_,_,_,_,_,_,_,_,_,_,_,_,_,_,_,_,_,_,_,_,_,_,_,_,_,_,_,rfl,Stn⟩
          | none =>
            have HF2:Hid (∀ i,Calls Tryz.prog 149 #[.pointer (some ⟨t.blk,0,none⟩),.int .i64 (n:Int)] (w2.drewN i) fun e w3 => e = .returned (atKid 0 none)∧∃ j,w3 = (w2.drewN i).drewN j):=Lib.hid (HFr.out w2 HS.out)
            clear HFr
            go_quiet ((go_at_call 149;with_reducible exact Calls.quiet_of (HF2.out _)))
            have StW:=HS.out.drew nq
            obtain ⟨W,hW⟩:∃ W,W = w2.drewN nq:=⟨_,rfl⟩
            rw [← hW] at StW ⊢
            have HSW:=Lib.hid StW
            clear StW k0 k1 fz hW hnd2 HB HL HLev HF2
            have hend:Hid (Tr.aftT t n = []):=Lib.hid (Tr.aftT_end HC.out.2.1 (fun e0 en => HC.out.1 ⟨e0,en⟩))
            cases R with
            | nil =>
              have HU:=Lib.hid (up_no HSW.out.cur.mem (by simp))
              obtain ⟨b0,b1,f0,f1⟩:=box_cells HSW.out.box
              obtain ⟨r0,r1⟩:=res_cells HSW.out.box (.slice none 0 0) (.int .u64 0)
              go_wp2_with (go_at_call 251;refine HU.out.mono ?_;rintro e w5 ⟨rfl,rfl⟩)
              simp only [Exit.jump]
              refine bodyPost_ret (v:=.tuple #[entryV none 0 0 0,.bool false]) (by simp [results,Tryz.results214,go_sem,r0,r1]) rfl ?_
              obtain ⟨z1,z2,z3⟩:=HSW.out.res (.slice none 0 0) (.int .u64 0)
              have ha:Tr.aft S0 = []:=by
                rw [← HSW.out.aft]
                show Tr.aftT t n ++ [] = []
                rw [hend.out,List.append_nil]
              refine ⟨_,_,_,z1,z2,z3,?_,?_,?_⟩
              · rw [ha];rfl
              · rw [ha,HSW.out.bef];simp
              · rw [ha,HSW.out.aft];exact ha
            | cons z R' =>
              obtain ⟨u,a⟩:=z
              have HU:Hid (Calls Tryz.prog 251 #[.pointer (some ⟨g,0,none⟩)] W fun e w5 => e = .returned (.bool true)∧Stp w B g k kk o ((u,a) :: R') D0 Tr.mN (Tr.mN ((u,a) :: R')) ((u,a) :: R') (some ⟨q,0,none⟩) d w5):=Lib.hid ((up_c HSW.out.cur.mem (by simp) (by omega)).mono fun e w5 ⟨he,i,hi⟩ => ⟨he,by
                have G5:=(HSW.out.drew i).cur.pop
                rw [← hi] at G5
                exact (HSW.out.drew i).turn G5.1 G5.2 (fun _ hb => .inl hb)⟩)
              have hup:=HSW.out.cur.chain.up
              have hwu:=(HSW.out.cur.nodes (u,a) (List.mem_cons_of_mem _ List.mem_cons_self)).1.1
              have ha16:a < 65536:=hwu.lt16 _ hup.1
              have HUP:=Lib.hid (And.intro hup.1 (And.intro hwu ha16))
              have HL2:Hid (∀ w5,Stp w B g k kk o ((u,a) :: R') D0 Tr.mN (Tr.mN ((u,a) :: R')) ((u,a) :: R') (some ⟨q,0,none⟩) d w5→Calls Tryz.prog 249 #[.pointer (some ⟨g,0,none⟩)] w5 fun e w6 => e = .returned (.pointer (some ⟨q,R'.length * 2,none⟩))∧Stp w B g k kk o ((u,a) :: R') D0 Tr.mN (Tr.mN ((u,a) :: R')) ((u,a) :: R') (some ⟨q,0,none⟩) d w6∧w6.cell? ⟨q,R'.length * 2 + 1,none⟩ = some (.int .i64 (a:Int))∧w6.frozen? ⟨q,R'.length * 2 + 1,none⟩ = false):=Lib.hid fun w5 h5 => (last_c h5.cur.mem (by simp only [List.length_cons] at hl65;omega)).mono fun e w6 ⟨he,i,hi⟩ => ⟨he,by
                have h6:=h5.drew i
                rw [← hi] at h6
                obtain ⟨q',hD',-,-,-,-,-,k1,fz⟩:=h6.cur.mem.top
                simp only [Option.some.injEq,Addr.mk.injEq,and_true] at hD'
                subst hD'
                exact ⟨h6,k1,fz⟩⟩
              have ha1:(a:Int) + 1≤65536:=by omega
              have ha0:(0:Int)≤(a:Int):=by omega
              clear hup hwu ha16 hl65 hcap
              go_wp2_with (first
                | (go_at_call 251;refine HU.out.mono ?_;rintro e w5 ⟨rfl,hst5⟩;have H5:=Lib.hid hst5;clear hst5)
                | (go_at_call 249;refine (HL2.out _ H5.out).mono ?_;rintro e w6 ⟨rfl,hst6,k1,fz⟩;have H6:=Lib.hid hst6;clear hst6))
              go_step3
              have G6:=H6.out.cur.gap (a + 1) (by omega)
              rw [show ((a + 1:Nat):Int) = (a:Int) + 1 by omega] at G6
              have hP:=Tr.next_pop (R:=R') HUP.out.2.1 HUP.out.1 hend.out
              have St7:=(H6.out.turn G6.1 G6.2 (fun _ hb => .inl hb)).re (hP.1.trans HSW.out.bef) (hP.2.trans HSW.out.aft)
              exact ⟨rfl,_,by rw [HSW.out.cnt];exact Tr.mN_pop HUP.out.2.1 HUP.out.1,_,_,d,_,_,_,_,_,_,_,_,_,_,_,_,_,_,_,_,_,_,_,_,_,_,_,_,_,_,_,_,_,_,_,_,_,_,_,_,_,_,_,_,_,_,_,_,_,_,_,_,_,_,_,_,_,_,_,_,_,_,_,_,_,_,_,_,rfl,St7⟩
        · have d1:decide (lv < 0) = false:=decide_eq_false (by rw [← hlv];simp only [levI];omega)
          clear hlv h0
          go_upto_region 7 with (first
            | (go_at_call 249;refine HL.out.mono ?_;rintro e w2 ⟨rfl,hst2⟩;have HS:=Lib.hid hst2;obtain ⟨-,hnd2,k0,k1,fz⟩:=HB.out w2 hst2;clear hst2)
            | (go_at_call 120;refine (HLev.out _ hnd2).mono ?_;rintro e w3 ⟨rfl,rfl⟩))
          cases kx with
          | some y =>
            obtain ⟨a,s⟩:=y
            have HF2:Hid (∀ i,Calls Tryz.prog 149 #[.pointer (some ⟨t.blk,0,none⟩),.int .i64 (n:Int)] (w2.drewN i) fun e w3 => e = .returned (atKid a (some ⟨s.blk,0,none⟩))∧∃ j,w3 = (w2.drewN i).drewN j):=Lib.hid (HFr.out w2 HS.out)
            clear HFr
            go_quiet ((go_at_call 149;with_reducible exact Calls.quiet_of (HF2.out _)))
            have StW:=HS.out.drew nq
            obtain ⟨-,-,k0',k1',fz'⟩:=HB.out _ StW
            have hmem:(a,s)∈t.ks:=List.mem_of_getElem? HC.out.2.1
            have ha16:a < 65536:=HC.out.2.2.2.lt16 _ hmem
            have G:=StW.cur.gap a (by omega)
            obtain ⟨W,hW⟩:∃ W,W = w2.drewN nq:=⟨_,rfl⟩
            rw [← hW] at StW k0' k1' fz' G ⊢
            have HSW:=Lib.hid (And.intro StW (And.intro hmem (And.intro ha16 G)))
            clear StW k0 k1 fz hW hnd2 HB HL HLev hmem ha16 G HF2
            go_upto_region 10 with fail
            obtain ⟨StW,hmem,ha16,G⟩:=HSW.out
            obtain ⟨W3,hW3⟩:∃ W3,W3 = W.setCell ⟨q,R.length * 2 + 1,none⟩ (.int .i64 (a:Int)):=⟨_,rfl⟩
            rw [← hW3] at G ⊢
            have HST:Hid (Calls Tryz.prog 250 #[.pointer (some ⟨g,0,none⟩),.pointer (some ⟨s.blk,0,none⟩),.int .i64 0] W3 fun e w' => e = .returned (.tuple #[]) ∧
                ∃ D' d',CurM w' B g kk (rootP o) ((s,0) :: (t,a) :: R) D' d'∧Foot (Cf g (some ⟨q,0,none⟩)) W3 w'∧(∀ b,Cf g D' b→Cf g (some ⟨q,0,none⟩) b∨W3.heap.size≤b)):=Lib.hid (step_c G.1.mem (by rw [List.length_cons];omega) G.1.size s 0)
            have HW3:=Lib.hid hW3
            clear k0' k1' fz' StW hmem ha16 G hW3
            go_wp2_with (go_at_call 250;refine HST.out.mono ?_;rintro e w5 ⟨rfl,D5,d5,hm5,hf5,hn5⟩)
            go_step3
            obtain ⟨StW,hmem,ha16,G⟩:=HSW.out
            rw [← HW3.out] at G
            have hP:=Tr.next_push (R:=R) HC.out.2.2.2 HC.out.2.1
            have Stn:=StW.next (CurAt.push G.1 hmem (by omega) hm5 hf5) hP.1 hP.2 (G.2.trans hf5 (fun b hb => .inl hb)) (fun b hb => (hn5 b hb).elim .inl (fun h => .inr (Nat.le_trans G.2.size h)))
            exact ⟨rfl,_,by rw [StW.cnt];exact Tr.mN_push (R:=R) HC.out.2.2.2 HC.out.2.1,_,D5,d5,_,_,_,_,_,_,_,_,_,_,_,_,_,_,_,_,_,_,_,_,_,_,_,_,_,_,_,_,_,_,_,_,_,_,_,_,_,_,_,_,_,_,_,_,_,_,_,_,_,_,_,_,_,_,_,_,_,_,_,_,_,_,_,_,rfl,Stn⟩
          | none =>
            have HF2:Hid (∀ i,Calls Tryz.prog 149 #[.pointer (some ⟨t.blk,0,none⟩),.int .i64 (n:Int)] (w2.drewN i) fun e w3 => e = .returned (atKid 0 none)∧∃ j,w3 = (w2.drewN i).drewN j):=Lib.hid (HFr.out w2 HS.out)
            clear HFr
            go_quiet ((go_at_call 149;with_reducible exact Calls.quiet_of (HF2.out _)))
            have StW:=HS.out.drew nq
            obtain ⟨W,hW⟩:∃ W,W = w2.drewN nq:=⟨_,rfl⟩
            rw [← hW] at StW ⊢
            have HSW:=Lib.hid StW
            clear StW k0 k1 fz hW hnd2 HB HL HLev HF2
            have hend:Hid (Tr.aftT t n = []):=Lib.hid (Tr.aftT_end HC.out.2.1 (fun e0 en => HC.out.1 ⟨e0,en⟩))
            cases R with
            | nil =>
              have HU:=Lib.hid (up_no HSW.out.cur.mem (by simp))
              obtain ⟨b0,b1,f0,f1⟩:=box_cells HSW.out.box
              obtain ⟨r0,r1⟩:=res_cells HSW.out.box (.slice none 0 0) (.int .u64 0)
              go_wp2_with (go_at_call 251;refine HU.out.mono ?_;rintro e w5 ⟨rfl,rfl⟩)
              simp only [Exit.jump]
              refine bodyPost_ret (v:=.tuple #[entryV none 0 0 0,.bool false]) (by simp [results,Tryz.results214,go_sem,r0,r1]) rfl ?_
              obtain ⟨z1,z2,z3⟩:=HSW.out.res (.slice none 0 0) (.int .u64 0)
              have ha:Tr.aft S0 = []:=by
                rw [← HSW.out.aft]
                show Tr.aftT t n ++ [] = []
                rw [hend.out,List.append_nil]
              refine ⟨_,_,_,z1,z2,z3,?_,?_,?_⟩
              · rw [ha];rfl
              · rw [ha,HSW.out.bef];simp
              · rw [ha,HSW.out.aft];exact ha
            | cons z R' =>
              obtain ⟨u,a⟩:=z
              have HU:Hid (Calls Tryz.prog 251 #[.pointer (some ⟨g,0,none⟩)] W fun e w5 => e = .returned (.bool true)∧Stp w B g k kk o ((u,a) :: R') D0 Tr.mN (Tr.mN ((u,a) :: R')) ((u,a) :: R') (some ⟨q,0,none⟩) d w5):=Lib.hid ((up_c HSW.out.cur.mem (by simp) (by omega)).mono fun e w5 ⟨he,i,hi⟩ => ⟨he,by
                have G5:=(HSW.out.drew i).cur.pop
                rw [← hi] at G5
                exact (HSW.out.drew i).turn G5.1 G5.2 (fun _ hb => .inl hb)⟩)
              have hup:=HSW.out.cur.chain.up
              have hwu:=(HSW.out.cur.nodes (u,a) (List.mem_cons_of_mem _ List.mem_cons_self)).1.1
              have ha16:a < 65536:=hwu.lt16 _ hup.1
              have HUP:=Lib.hid (And.intro hup.1 (And.intro hwu ha16))
              have HL2:Hid (∀ w5,Stp w B g k kk o ((u,a) :: R') D0 Tr.mN (Tr.mN ((u,a) :: R')) ((u,a) :: R') (some ⟨q,0,none⟩) d w5→Calls Tryz.prog 249 #[.pointer (some ⟨g,0,none⟩)] w5 fun e w6 => e = .returned (.pointer (some ⟨q,R'.length * 2,none⟩))∧Stp w B g k kk o ((u,a) :: R') D0 Tr.mN (Tr.mN ((u,a) :: R')) ((u,a) :: R') (some ⟨q,0,none⟩) d w6∧w6.cell? ⟨q,R'.length * 2 + 1,none⟩ = some (.int .i64 (a:Int))∧w6.frozen? ⟨q,R'.length * 2 + 1,none⟩ = false):=Lib.hid fun w5 h5 => (last_c h5.cur.mem (by simp only [List.length_cons] at hl65;omega)).mono fun e w6 ⟨he,i,hi⟩ => ⟨he,by
                have h6:=h5.drew i
                rw [← hi] at h6
                obtain ⟨q',hD',-,-,-,-,-,k1,fz⟩:=h6.cur.mem.top
                simp only [Option.some.injEq,Addr.mk.injEq,and_true] at hD'
                subst hD'
                exact ⟨h6,k1,fz⟩⟩
              have ha1:(a:Int) + 1≤65536:=by omega
              have ha0:(0:Int)≤(a:Int):=by omega
              clear hup hwu ha16 hl65 hcap
              go_wp2_with (first
                | (go_at_call 251;refine HU.out.mono ?_;rintro e w5 ⟨rfl,hst5⟩;have H5:=Lib.hid hst5;clear hst5)
                | (go_at_call 249;refine (HL2.out _ H5.out).mono ?_;rintro e w6 ⟨rfl,hst6,k1,fz⟩;have H6:=Lib.hid hst6;clear hst6))
              go_step3
              have G6:=H6.out.cur.gap (a + 1) (by omega)
              rw [show ((a + 1:Nat):Int) = (a:Int) + 1 by omega] at G6
              have hP:=Tr.next_pop (R:=R') HUP.out.2.1 HUP.out.1 hend.out
              have St7:=(H6.out.turn G6.1 G6.2 (fun _ hb => .inl hb)).re (hP.1.trans HSW.out.bef) (hP.2.trans HSW.out.aft)
              exact ⟨rfl,_,by rw [HSW.out.cnt];exact Tr.mN_pop HUP.out.2.1 HUP.out.1,_,_,d,_,_,_,_,_,_,_,_,_,_,_,_,_,_,_,_,_,_,_,_,_,_,_,_,_,_,_,_,_,_,_,_,_,_,_,_,_,_,_,_,_,_,_,_,_,_,_,_,_,_,_,_,_,_,_,_,_,_,_,_,_,_,_,_,rfl,St7⟩
end Go.Proofs.YtkeepngaaleakaaGreatDoor
