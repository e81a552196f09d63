import Derived.Test.YtmkejbfgdmbejaaGreatDoorMV6
namespace Go.Proofs.YtmkejbfgdmbejaaGreatDoor
open Go.ChangeShapes Go.WideShapes Go.ChangeAt Go.RowKit
open Tr (T S4 Ent Tri KL)
structure SloM (a:Act) (x2 x3 x5 x6 x7:Value):Prop where
  d:a.defers = []
  n:a.tmps.size = 62
  s2:a.tmps[2]? = some x2
  s3:a.tmps[3]? = some x3
  s5:a.tmps[5]? = some x5
  s6:a.tmps[6]? = some x6
  s7:a.tmps[7]? = some x7
theorem SloM.lit {a:Act} {x2 x3 x5 x6 x7:Value} (h:SloM a x2 x3 x5 x6 x7):∃ V:Nat→Value,a = { tmps:=#[V 0,V 1,x2,x3,V 4,x5,x6,x7,V 8,V 9,V 10,V 11,V 12,V 13,V 14,V 15,V 16,V 17,V 18,V 19,V 20,V 21,V 22,V 23,V 24,V 25,V 26,V 27,V 28,V 29,V 30,V 31,V 32,V 33,V 34,V 35,V 36,V 37,V 38,V 39,V 40,V 41,V 42,V 43,V 44,V 45,V 46,V 47,V 48,V 49,V 50,V 51,V 52,V 53,V 54,V 55,V 56,V 57,V 58,V 59,V 60,V 61],defers:=[] }:=by
  refine ⟨fun i => a.tmps.toList.getD i undef,?_⟩
  have e:=slotsN_arr h.n
  obtain ⟨t,d⟩:=a
  have hd:d = []:=h.d
  have h2:=slotsN_some h.s2
  have h3:=slotsN_some h.s3
  have h5:=slotsN_some h.s5
  have h6:=slotsN_some h.s6
  have h7:=slotsN_some h.s7
  simp only at h2 h3 h5 h6 h7 e
  subst hd
  rw [← h2,← h3,← h5,← h6,← h7]
  congr 1
theorem infoStepP:(Tryz.prog.info? 101).map (fun i => (i.zero,i.size,i.bytes)) = some (some (.pointer none),1,8):=by kernel_rfl
theorem sptr_ne (w:World) (a:Addr):(binOp .neq 101 (.pointer (some a)) (.pointer none)).run Tryz.prog w = .ok (.bool true) w:=by
  have h2:∀ d:Nat,(Op.equalIn (d + 1) 101 (.pointer (some a)) (.pointer none)).run Tryz.prog w = .ok false w:=fun d => by
    simp [Op.equalIn,run_underlying Tryz.underlying101]
  simp only [binOp]
  simp [Op.equal,Op.maxDepth,h2 9999]
theorem sptr_no (w:World):(binOp .neq 101 (.pointer none) (.pointer none)).run Tryz.prog w = .ok (.bool false) w:=by
  have h2:∀ d:Nat,(Op.equalIn (d + 1) 101 (.pointer none) (.pointer none)).run Tryz.prog w = .ok true w:=fun d => by
    simp [Op.equalIn,run_underlying Tryz.underlying101]
  simp only [binOp]
  simp [Op.equal,Op.maxDepth,h2 9999]
theorem slice_topM (w:World) (b off n c i:Nat) (h2:i≤n) (h3:n≤c) :
    (Instr.sliceAt 175 (.slice (some ⟨b,off,none⟩) n c) none (some (.int .i64 (i:Int))) none).run Tryz.prog w = .ok (.slice (some ⟨b,off,none⟩) i c) w:=by
  have ht:Tryz.prog.underlying 175 = some (.slice 101):=Tryz.underlying175
  have hel:Tryz.prog.elem 175 = 101:=by simp [Program.elem,ht]
  have hs:Tryz.prog.underlying 175 = some (.slice (Tryz.prog.elem 175)):=by rw [hel];exact ht
  have hsz:∀ w,(sizeOf 101).run Tryz.prog w = .ok 1 w:=fun w => by
    obtain ⟨i0,hi0,-,hz,-⟩:=info_parts infoStepP
    simp [sizeOf,typeInfo,hi0,hz]
  rw [run_sliceAt_slice w _ _ _ _ _ hs,run_slice_h w _ _ _ _ hs .i64 (i:Int) (by omega) (by omega),hel,hsz]
  simp [Result.andThen,sliced]
  intro _
  rw [Go.WideShapes.add_plain,Nat.add_zero]
theorem at_cells {w':World} {g:Nat} {β:Tri} (h:w'.heap[g]? = some (.cells #[.pointer (rootP β.o),.pointer (rootP β.a),.pointer (rootP β.b)] 98 (0,0))):w'.cell? ⟨g,0,none⟩ = some (.pointer (rootP β.o))∧w'.cell? ⟨g,1,none⟩ = some (.pointer (rootP β.a))∧w'.cell? ⟨g,2,none⟩ = some (.pointer (rootP β.b))∧∀ i,w'.frozen? ⟨g,i,none⟩ = false:=by
  refine ⟨?_,?_,?_,fun i => frozen_of_row w' g i _ _ h⟩
  all_goals rw [cell_of_row w' _ _ _ _ (0,0) h];rfl
theorem lock_cells {w':World} {g:Nat} {fv jv:Value} (h:w'.heap[g]? = some (.cells #[fv,jv] 104 (0,0))):w'.cell? ⟨g,0,none⟩ = some fv∧w'.cell? ⟨g,1,none⟩ = some jv:=by
  refine ⟨?_,?_⟩
  all_goals rw [cell_of_row w' _ _ _ _ (0,0) h];rfl
theorem ThrM.topped {B k:Nat} {C P:TdM} {mk:Bool} {r:Int} {Inv:TdM→World→(Nat→Prop)→Prop} {fv jv:Value} {w w1:World} {F0:Nat→Prop} {S:List Fm} {D:Option Addr} {d:Nat} {β:Tri} {f:Fm} (s:ThrM B k C mk r Inv fv jv w F0 P (f :: S) D d β w1):∃ g,D = some ⟨g,0,none⟩∧w1.cell? ⟨g,S.length,none⟩ = some (.pointer (some ⟨f.q,0,none⟩)):=by
  obtain ⟨us,F,A,-,hi⟩:=s.inn
  have hr:=hi.row
  rw [List.reverse_cons] at hr
  obtain ⟨g,d',cur,hvE,-,-,hgh,hQ⟩:=RowZ.at qSt_ok hr (i:=S.length) (x:=f) (by simp)
  simp only [Value.slice.injEq] at hvE
  refine ⟨g,hvE.1,?_⟩
  rw [cell_of_row w1 _ _ _ _ (0,0) hgh]
  unfold QSt at hQ
  simpa using hQ
theorem ThrM.topcap {B k:Nat} {C P:TdM} {mk:Bool} {r:Int} {Inv:TdM→World→(Nat→Prop)→Prop} {fv jv:Value} {w w1:World} {F0:Nat→Prop} {S:List Fm} {D:Option Addr} {d:Nat} {β:Tri} {f:Fm} (s:ThrM B k C mk r Inv fv jv w F0 P (f :: S) D d β w1):S.length + 1≤d:=by
  obtain ⟨us,F,A,-,hi⟩:=s.inn
  obtain ⟨D',d',he,hd⟩:=RowZ.slice hi.row
  simp only [Value.slice.injEq] at he
  simp only [List.length_reverse,List.length_cons] at hd
  omega
theorem FrM.vcons {base:Nat} {w1:World} {f:Fm} (h:FrM base w1 f) {ps:List Pl} {x:Pl} (hps:f.ps = ps ++ [x]):∃ g,f.v = .slice (some ⟨g,0,none⟩) (ps.length + 1) f.d:=by
  obtain ⟨g,d',cur,hvE,-⟩:=RowZ.at plQ_ok h.row (i:=ps.length) (x:=x) (by rw [hps];simp)
  refine ⟨g,?_⟩
  unfold Fm.v at hvE ⊢
  simp only [Value.slice.injEq] at hvE ⊢
  exact ⟨hvE.1,by rw [hps];simp,trivial⟩
set_option maxRecDepth 1000000 in
set_option maxHeartbeats 8000000 in
theorem mthrough_c {fc fj:Nat} {lc lj:Array Value} {B k M:Nat} {mk:Bool} {r:Int} {Inv:TdM→World→(Nat→Prop)→Prop} (hv:VisitM fc lc fj lj B k M mk r Inv) {w:World} {F0:Nat→Prop} (hI:Inv [] w F0) {t0:Tri} (hu:TriN w B k t0) (hk:k≤16) (hB:B≤w.heap.size) (hT:∀ w',Below B w w'→Tz w') (hM:(Tr.ppT Tr.clG t0).length≤M) (hcn:cnt3 t0≤1000000000) :
    Calls Tryz.prog 57 #[.agg #[.func (.func fc) #[] lc,.func (.func fj) #[] lj],trV t0] w fun e w' => EndM B k (Tr.ppT Tr.clG t0) mk r Inv w F0 t0 e w':=by
  have hentc:=hv.entc
  have hentj:=hv.entj
  obtain ⟨C,hC⟩:∃ C,Tr.ppT Tr.clG t0 = C:=⟨_,rfl⟩
  have hF0:∀ b,F0 b→b < w.heap.size∧B≤b:=hv.inb _ _ _ hI
  obtain ⟨W0,hW0⟩:∃ W0,W0 = (w.alloc (.cells #[.func (.func fc) #[] lc,.func (.func fj) #[] lj] 104)).alloc (.cells #[.pointer (rootP t0.o),.pointer (rootP t0.a),.pointer (rootP t0.b)] 98):=⟨_,rfl⟩
  have hal:Below w.heap.size w W0:=by rw [hW0];exact Below.andThen (below_alloc _ _) (below_alloc _ _)
  have hbx:W0.heap[w.heap.size]? = some (.cells #[.func (.func fc) #[] lc,.func (.func fj) #[] lj] 104 (0,0)):=by
    rw [hW0]
    exact keepz (heap_at w _ _ rfl) (below_alloc _ _)
  have hat:W0.heap[w.heap.size + 1]? = some (.cells #[.pointer (rootP t0.o),.pointer (rootP t0.a),.pointer (rootP t0.b)] 98 (0,0)):=by
    rw [hW0]
    have:=heap_at (w.alloc (.cells #[.func (.func fc) #[] lc,.func (.func fj) #[] lj] 104)) (.cells #[.pointer (rootP t0.o),.pointer (rootP t0.a),.pointer (rootP t0.b)] 98) _ rfl
    rw [World.size_alloc] at this
    exact this
  have hstart:DownM B k C mk r Inv (.func (.func fc) #[] lc) (.func (.func fj) #[] lj) w F0 t0 t0 [] none 0 W0 (4 * (Tr.wgt3 t0 + wSM []) + 2 * 0 + 1) :=
    ⟨⟨⟨[],F0,fun _ => False,by rw [hC];simp [clS],⟨hv.frame _ _ _ _ hI hal.size (fun b hb => hal.block b (hF0 b hb).1),fun b hb => .inl hb,fun b hb => (by simp [Value.ownBlock] at hb),fun f hf => (by cases hf),fun f hf => (by cases hf),fun q hq => hq.elim,rowZ_nil _ _ _⟩⟩,Foot.of_below hal,hbx,hat,⟨fun f hf => (by cases hf),fun f hf => (by cases hf),fun f hf => (by cases hf),List.Pairwise.nil,List.Pairwise.nil⟩,trivial⟩,hu,tri_top hu,rfl,rfl⟩
  rw [hW0] at hstart
  have HS:=Lib.hid hstart
  have HV:=Lib.hid hv
  have HX:=Lib.hid (And.intro hF0 (And.intro hB (And.intro hT (And.intro hk (And.intro (show C.length≤M by rw [← hC];exact hM) hcn)))))
  rw [hC]
  clear hv hI hu hk hB hT hM hcn hstart hal hF0 hC hbx hat hW0
  clear W0
  go_enter Tryz.func57,Tryz.ntmps57
  go_wp2_with fail
  refine wp_scope_threeM (fun m a' w' => ∃ (x6:Value) (u β:Tri) (n:Option T) (S:List Fm) (D:Option Addr) (d:Nat),SloM a' (.pointer (some ⟨w.heap.size,0,none⟩)) (.pointer (some ⟨w.heap.size + 1,0,none⟩)) (.slice D S.length d) x6 (.pointer (rootP n))∧UpM B k C mk r Inv (.func (.func fc) #[] lc) (.func (.func fj) #[] lj) w F0 t0 u β n S D d w' m)
    (fun m a' w' => ∃ (x6 x7:Value) (u:Tri) (S:List Fm) (D:Option Addr) (d:Nat),SloM a' (.pointer (some ⟨w.heap.size,0,none⟩)) (.pointer (some ⟨w.heap.size + 1,0,none⟩)) (.slice D S.length d) x6 x7∧DownM B k C mk r Inv (.func (.func fc) #[] lc) (.func (.func fj) #[] lj) w F0 t0 u S D d w' m)
    (fun m a' w' => ∃ (x7:Value) (f:Fm) (β:Tri) (S:List Fm) (D:Option Addr) (d:Nat),SloM a' (.pointer (some ⟨w.heap.size,0,none⟩)) (.pointer (some ⟨w.heap.size + 1,0,none⟩)) (.slice D (S.length + 1) d) (.pointer (some ⟨f.q,0,none⟩)) x7∧NextM B k C mk r Inv (.func (.func fc) #[] lc) (.func (.func fj) #[] lj) w F0 t0 f β S D d w' m) rfl rfl rfl ?next ?up ?down ?first
  case first =>
    intro hp
    have HP:=Lib.hid hp
    clear hp
    go_wp2_with fail
    refine wp_label ?_
    simp only [Exit.then]
    rename_i hK
    apply hK
    exact HP.out _ _ _ ⟨_,_,t0,[],none,0,⟨rfl,rfl,rfl,rfl,rfl,rfl,rfl⟩,HS.out⟩
  case down =>
    rintro m hup a' w' ⟨x6,x7,u,S,D,d,hs,hI⟩
    obtain ⟨V,rfl⟩:=hs.lit
    clear hs HS
    have HI:=Lib.hid hI
    have HUp:=Lib.hid hup
    have hB':Below B w w':=hI.thr.old (fun b hb => (HX.out.1 b hb).2) HX.out.2.1
    have hBw:B≤w'.heap.size:=Nat.le_trans HX.out.2.1 hI.thr.foot.size
    have huw:TriN w' B k u:=hI.hu.below hB' (Nat.le_refl _) (Nat.le_refl _)
    have HQ:=Lib.hid fun (w2:World) (hb:Below w'.heap.size w' w2) => at_cells (keepz hI.thr.atb hb)
    have HBc:=Lib.hid (bcN_c huw hBw)
    have HE:=Lib.hid (And.intro hB' (And.intro hBw huw))
    obtain ⟨q0,q1,q2,-⟩:=HQ.out w' (Below.refl _ _)
    clear hI hup hB' hBw huw
    go_wp2_with fail
    refine HBc.out.mono ?_
    rintro e w1 ⟨he,hb1⟩
    clear HBc q0 q1 q2
    rcases he with ⟨n,rfl,hn,hbe⟩ | ⟨rfl,hne⟩
    · have HU:=Lib.hid (HI.out.up HV.out HE.out.1 hb1 HE.out.2.1 hn hbe)
      clear hb1 hn hbe
      go_wp2_with fail
      go_step3
      obtain ⟨m',h1,h2⟩:=HU.out
      exact ⟨m',h1,_,u,u,n,S,D,d,⟨rfl,rfl,rfl,rfl,rfl,rfl,rfl⟩,h2⟩
    · have HB1:=Lib.hid hb1
      obtain ⟨q0,q1,q2,-⟩:=HQ.out w1 hb1
      have HNe:=Lib.hid hne
      rcases Tr.lvlT_ent HI.out.ok hne with ⟨l,hl⟩ | ⟨hl,p,hent⟩
      · have hrm:=roomM_le HI.out.thr.lev
        obtain ⟨-,-,hln,-⟩:=frame_side HI.out.ok hrm hne hl
        have HSt:=Lib.hid (mStep_c (HE.out.2.2.below hb1 (C:=w'.heap.size) HE.out.2.1 (Nat.le_refl _)) (Nat.le_trans HE.out.2.1 hb1.size) hl HX.out.2.2.2.1 (by omega))
        have HL:=Lib.hid hl
        have HS64:=Lib.hid (show S.length≤64 by have:=HI.out.thr.lev.room;omega)
        have hpn:=sptr_ne
        clear hl hb1 hne hrm hln
        go_wp2_with fail
        refine HSt.out.mono ?_
        rintro e w2 ⟨q,rfl,hq0,hqc,hb2⟩
        have HQq:=Lib.hid (And.intro (Nat.le_trans HB1.out.size hq0) hqc)
        have HB2:=Lib.hid (Below.andThen HB1.out hb2)
        obtain ⟨us,F,A,hCe,hIn⟩:=HI.out.thr.inn
        have HIn:=Lib.hid (And.intro hCe hIn)
        have HW:=Lib.hid (show w.heap.size + 2≤w2.heap.size by have h1:=(Array.getElem?_eq_some_iff.1 HI.out.thr.atb).1;have h2:=HB2.out.size;omega)
        have HB3:=Lib.hid (Below.andThen HB2.out (below_alloc w2 (.cells #[.pointer (some ⟨q,0,none⟩)] 101)))
        clear q0 q1 q2 hq0 hqc hb2 hCe hIn HSt
        go_wp2_with (at_builtin;refine wpList_append_rowZ (Q:=QSt) (Z:=ZSt A) 175 101 (.pointer none) 8 Tryz.underlying175 infoStepP (by rfl) (by omega) (by omega) qSt_ok (fun i c hc => by
          have hi:i = 0:=by have:=(Array.getElem?_eq_some_iff.1 hc).1;simp [Value.cells] at this;omega
          subst hi
          have hc':some (Value.pointer none) = some c:=hc
          cases hc'
          exact .inl rfl) (by rfl) _ _ (by rfl) (w.heap.size + 2) (.slice D S.length d) S.reverse (S.length + 1) (by simp) (by rfl) (by exact HIn.out.2.row.below (C:=w'.heap.size) HB3.out (Nat.le_refl _)) ⟨q,l,u,[],none,0⟩ [.pointer (some ⟨q,0,none⟩)] (by rfl) (by exact rfl) ⟨w2.heap.size,0,none⟩ 1 (by rfl) (by exact news_at _ _ _) (by have:=HS64.out;simp;omega) (by have:=HW.out;simp;omega) ?_;intro D5 d5 w5 hown5 hgrow5 hat5 hch5)
        go_step3
        rw [List.length_reverse] at *
        obtain ⟨m',h1,h2⟩:=HI.out.push HV.out HNe.out HL.out HIn.out.1 HIn.out.2 HB3.out HQq.out.1 (keepz HQq.out.2 (below_alloc _ _)) hgrow5 hown5 hat5
        exact ⟨m',h1,_,⟨q,l,u,[],none,0⟩,u,S,D5,d5,⟨rfl,rfl,rfl,rfl,rfl,rfl,rfl⟩,h2⟩
      · have HSt:=Lib.hid (mStep_no (HE.out.2.2.below hb1 (C:=w'.heap.size) HE.out.2.1 (Nat.le_refl _)) (Nat.le_trans HE.out.2.1 hb1.size) hl HX.out.2.2.2.1)
        have HEn:Hid (EntT p u):=Lib.hid hent
        have hpn:=sptr_no
        clear hl hb1 hne hent
        go_wp2_with fail
        refine HSt.out.mono ?_
        rintro e w2 ⟨rfl,hb2⟩
        have HB2:=Lib.hid (Below.andThen HB1.out hb2)
        have HTe:=Lib.hid (tEntry_c (HE.out.2.2.below HB2.out (C:=w'.heap.size) HE.out.2.1 (Nat.le_refl _)) HEn.out (Nat.le_trans HE.out.2.1 HB2.out.size))
        clear q0 q1 q2 hb2 HSt
        obtain ⟨q0,q1,q2,-⟩:=HQ.out w2 HB2.out
        go_wp2_with fail
        refine HTe.out.mono ?_
        rintro e w3 ⟨he,hb3⟩
        clear HTe q0 q1 q2
        rcases he with ⟨n,rfl,hn,hbe⟩ | ⟨rfl,hbc⟩
        · have HU:=Lib.hid (HI.out.up HV.out HE.out.1 (Below.andThen HB2.out hb3) HE.out.2.1 hn hbe)
          clear hb3 hn hbe
          go_wp2_with fail
          refine wp_label ?_
          simp only [Exit.then]
          rename_i hK
          apply hK
          obtain ⟨m',h1,h2⟩:=HU.out
          exact HUp.out _ _ _ (Nat.le_of_lt h1) ⟨_,u,u,n,S,D,d,⟨rfl,rfl,rfl,rfl,rfl,rfl,rfl⟩,h2⟩
        · have HB3:=Lib.hid (Below.andThen HB2.out hb3)
          have HTd:=Lib.hid (HI.out.clash HV.out HX.out.1 HE.out.1 HB3.out HX.out.2.1 HEn.out hbc HX.out.2.2.2.2.1)
          obtain ⟨q0,q1,q2,-⟩:=HQ.out w3 HB3.out
          have q3:=(lock_cells (HI.out.thr.below HV.out HB3.out).box).1
          clear hb3 hbc
          go_wp2_with fail
          go_at_fn fc
          refine HTd.out.mono ?_
          rintro e w4 ⟨rfl,hU⟩
          clear HTd
          obtain ⟨n,hn⟩:∃ n,(if mk = true then pickT r u else (none:Option T)) = n:=⟨_,rfl⟩
          rw [hn] at hU
          rw [hn]
          clear hn
          have HU:=Lib.hid hU
          clear hU
          go_wp2_with fail
          refine wp_label ?_
          simp only [Exit.then]
          rename_i hK
          apply hK
          obtain ⟨m',h1,h2⟩:=HU.out
          exact HUp.out _ _ _ (Nat.le_of_lt h1) ⟨_,u,u,n,S,D,d,⟨rfl,rfl,rfl,rfl,rfl,rfl,rfl⟩,h2⟩
  case up =>
    rintro m hnx a' w' ⟨x6,u,β,n,S,D,d,hs,hI⟩
    obtain ⟨V,rfl⟩:=hs.lit
    clear hs HS
    have HI:=Lib.hid hI
    have HNx:=Lib.hid hnx
    cases S with
    | nil =>
      have HD:=Lib.hid hI.done
      clear hI hnx
      go_wp2_with fail
      simp only [jumpsN]
      refine bodyPost_ret (v:=.pointer (rootP n)) (by simp [results,Tryz.results57,go_sem]) rfl ?_
      exact HD.out
    | cons f S =>
      obtain ⟨⟨ps,a,hps,-⟩,-⟩:=hI.pend
      have hf:=List.mem_cons_self (a:=f) (l:=S)
      have hfa:=hI.thr.st.fa f hf
      have hfm:=hI.thr.st.fm f hf
      obtain ⟨g,rfl,hcs⟩:=hI.thr.topped
      obtain ⟨g2,hv2⟩:=hfm.vcons hps
      have hl:=hfa.n6
      have hl5:=hfa.n5
      have hlp:f.ps.length = ps.length + 1:=by rw [hps];simp
      have hcell:=hfm.cell
      have hrow:=hfm.row
      rw [hv2] at hcell hrow
      rw [hps] at hrow
      have HMg:=Lib.hid (mMerge_c (k:=k) n hcell hrow (by omega))
      have hS64:=hI.thr.lev.1
      have e4:((S.length + 1:Nat):Int) - 1 = (S.length:Int):=by omega
      have m1:(0:Int)≤(S.length:Int):=by omega
      have m2:(S.length:Int) < ((S.length + 1:Nat):Int):=by omega
      have m3:(S.length:Int)≤64:=by omega
      have d1:decide ((S.length:Int) < 0) = false:=decide_eq_false (by omega)
      have z1:(((S.length + 1:Nat):Int) == 0) = false:=by rw [beq_eq_false_iff_ne];omega
      have HH:=Lib.hid (And.intro hps (And.intro hv2 (hI.thr.old (fun b hb => (HX.out.1 b hb).2) HX.out.2.1)))
      clear hI hnx hf hfa hfm hl hl5 hlp hcell hrow hps hv2 hS64
      go_wp2_with fail
      refine HMg.out.mono ?_
      rintro e w1 ⟨rfl,h1,h2,h3⟩
      have HM1:=Lib.hid (And.intro h1 (And.intro h2 h3))
      clear h1 h2 h3 HMg
      go_wp2_with fail
      refine wp_label ?_
      simp only [Exit.then]
      rename_i hK
      apply hK
      obtain ⟨m',h1,h2⟩:=HI.out.merge HV.out HH.out.2.2 HH.out.1 HH.out.2.1 HM1.out.1 HM1.out.2.1 HM1.out.2.2
      exact HNx.out _ _ _ (Nat.le_of_lt h1) ⟨_,{ f with ps:=ps ++ [⟨a,u,n⟩] },β,S,some ⟨g,0,none⟩,d,⟨rfl,rfl,rfl,rfl,rfl,rfl,rfl⟩,h2⟩
  case next =>
    rintro m a' w' ⟨x7,f,β,S,D,d,hs,hI⟩
    obtain ⟨V,rfl⟩:=hs.lit
    clear hs HS
    have HI:=Lib.hid hI
    have hf:=List.mem_cons_self (a:=f) (l:=S)
    have hfa:=hI.thr.st.fa f hf
    have hfm:=hI.thr.st.fm f hf
    have hB':Below B w w':=hI.thr.old (fun b hb => (HX.out.1 b hb).2) HX.out.2.1
    have hBw:B≤w'.heap.size:=Nat.le_trans HX.out.2.1 hI.thr.foot.size
    have hbs:w.heap.size + 2≤w'.heap.size:=(Array.getElem?_eq_some_iff.1 hI.thr.atb).1
    obtain ⟨c0,hfo,-⟩:=hfa.ok
    have HO:=Lib.hid (mOn_c (hfa.nt.below hB' (Nat.le_refl _) (Nat.le_refl _)) hBw (fun v hv => HX.out.2.2.1 v (hB'.trans (hv.mono hBw))) hfo hfm.cell hfm.row hfm.vq hbs (Nat.le_trans hfa.n6 hfa.n5) rfl hfa.n5)
    obtain ⟨g,rfl,hcs⟩:=hI.thr.topped
    have hdc:=hI.thr.topcap
    have hS64:=hI.thr.lev.1
    have e4:((S.length + 1:Nat):Int) - 1 = (S.length:Int):=by omega
    have m1:(0:Int)≤(S.length:Int):=by omega
    have m2:(S.length:Int) < ((S.length + 1:Nat):Int):=by omega
    have m3:(S.length:Int)≤64:=by omega
    have d1:decide ((S.length:Int) < 0) = false:=decide_eq_false (by omega)
    have HC:=Lib.hid hdc
    clear hI hf hfa hfm hB' hBw hbs hfo hdc hS64 hcs
    go_wp2_with fail
    refine HO.out.mono ?_
    rintro e w1 he
    clear HO
    rcases he with ⟨hrem,rfl,hb⟩ | ⟨a,u,D5,d5,hrem,ha,rfl,hq,hrow,hob,hfo,hk⟩
    · have HN:=Lib.hid (HI.out.nothing HV.out HX.out.1 HX.out.2.1 hb)
      obtain ⟨q0,q1,q2,qf⟩:=at_cells (HI.out.thr.below HV.out hb).atb
      have q3:=(lock_cells HN.out.box).2
      have f0:=qf 0
      have f1:=qf 1
      have f2:=qf 2
      have HR:=Lib.hid hrem
      clear hrem hb qf
      go_wp2_with fail
      go_at_fn fj
      refine (HI.out.join HV.out HX.out.1 HX.out.2.1 HR.out HN.out HX.out.2.2.2.2.2).mono ?_
      rintro e w3 ⟨R,m',rfl,h1,h2⟩
      have HU:=Lib.hid (And.intro h1 h2)
      have hst:=slice_topM w3 g 0 (S.length + 1) d S.length (by omega) HC.out
      clear h1 h2 HN q0 q1 q2 q3 f0 f1 f2
      go_wp2_with fail
      go_step3
      exact ⟨m',HU.out.1,_,f.t,tri0,R,S,some ⟨g,0,none⟩,d,⟨rfl,rfl,rfl,rfl,rfl,rfl,rfl⟩,HU.out.2⟩
    · have HF:=Lib.hid (HI.out.found HV.out HX.out.1 HX.out.2.1 hrem ha hq hrow hob hfo hk)
      obtain ⟨q0,q1,q2,qf⟩:=at_cells (HI.out.thr.found HV.out hrem ha hq hrow hob hfo hk).atb
      have f0:=qf 0
      have f1:=qf 1
      have f2:=qf 2
      have hq5:=HI.out
      clear hq5 hrem ha hq hrow hob hfo hk qf
      go_wp2_with fail
      go_step3
      obtain ⟨m',h1,h2⟩:=HF.out
      exact ⟨m',h1,_,_,u,⟨f.q,f.l,f.t,f.ps ++ [⟨a,u,none⟩],D5,d5⟩ :: S,some ⟨g,0,none⟩,d,⟨rfl,rfl,rfl,rfl,rfl,rfl,rfl⟩,h2⟩
end Go.Proofs.YtmkejbfgdmbejaaGreatDoor
