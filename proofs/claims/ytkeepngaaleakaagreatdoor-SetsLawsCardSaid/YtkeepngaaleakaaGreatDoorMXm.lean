import Derived.Test.YtkeepngaaleakaaGreatDoorMXl
namespace Go.Proofs.YtkeepngaaleakaaGreatDoor
open Go.ChangeShapes Go.WideShapes Go.ChangeAt Go.RowKit
open Tr (T S4 Ent Tri KL)
structure SloL (a:Act) (x2 x3 x4 x5:Value):Prop where
  d:a.defers = []
  n:a.tmps.size = 54
  s2:a.tmps[2]? = some x2
  s3:a.tmps[3]? = some x3
  s4:a.tmps[4]? = some x4
  s5:a.tmps[5]? = some x5
theorem SloL.lit {a:Act} {x2 x3 x4 x5:Value} (h:SloL a x2 x3 x4 x5):∃ V:Nat→Value,a = { tmps:=#[V 0,V 1,x2,x3,x4,x5,V 6,V 7,V 8,V 9,V 10,V 11,V 12,V 13,V 14,V 15,V 16,V 17,V 18,V 19,V 20,V 21,V 22,V 23,V 24,V 25,V 26,V 27,V 28,V 29,V 30,V 31,V 32,V 33,V 34,V 35,V 36,V 37,V 38,V 39,V 40,V 41,V 42,V 43,V 44,V 45,V 46,V 47,V 48,V 49,V 50,V 51,V 52,V 53],defers:=[] }:=by
  refine ⟨fun i => a.tmps.toList.getD i undef,?_⟩
  have e:=slotsN_arr h.n
  obtain ⟨t,d⟩:=a
  have hd:d = []:=h.d
  have h2:=slotsN_some h.s2
  have h3:=slotsN_some h.s3
  have h4:=slotsN_some h.s4
  have h5:=slotsN_some h.s5
  simp only at h2 h3 h4 h5 e
  subst hd
  rw [← h2,← h3,← h4,← h5]
  congr 1
theorem infoSkP:(Tryz.prog.info? 179).map (fun i => (i.zero,i.size,i.bytes)) = some (some (.pointer none),1,8):=by kernel_rfl
theorem skptr_ne (w:World) (a:Addr):(binOp .neq 179 (.pointer (some a)) (.pointer none)).run Tryz.prog w = .ok (.bool true) w:=by
  have h2:∀ d:Nat,(Op.equalIn (d + 1) 179 (.pointer (some a)) (.pointer none)).run Tryz.prog w = .ok false w:=fun d => by
    simp [Op.equalIn,run_underlying Tryz.underlying179]
  simp only [binOp]
  simp [Op.equal,Op.maxDepth,h2 9999]
theorem skptr_no (w:World):(binOp .neq 179 (.pointer none) (.pointer none)).run Tryz.prog w = .ok (.bool false) w:=by
  have h2:∀ d:Nat,(Op.equalIn (d + 1) 179 (.pointer none) (.pointer none)).run Tryz.prog w = .ok true w:=fun d => by
    simp [Op.equalIn,run_underlying Tryz.underlying179]
  simp only [binOp]
  simp [Op.equal,Op.maxDepth,h2 9999]
theorem fnS_no (w:World):(binOp .neq 108 .nilFunc .nilFunc).run Tryz.prog w = .ok (.bool false) w:=by
  have h2:∀ d:Nat,(Op.equalIn (d + 1) 108 .nilFunc .nilFunc).run Tryz.prog w = .ok true w:=fun d => by
    simp [Op.equalIn,run_underlying Tryz.underlying108]
  simp only [binOp]
  simp [Op.equal,Op.maxDepth,h2 9999]
theorem fnS_ne (w:World) (f:Nat) (l:Array Value):(binOp .neq 108 (.func (.func f) #[] l) .nilFunc).run Tryz.prog w = .ok (.bool true) w:=by
  have h2:∀ d:Nat,(Op.equalIn (d + 1) 108 (.func (.func f) #[] l) .nilFunc).run Tryz.prog w = .ok false w:=fun d => by
    simp [Op.equalIn,run_underlying Tryz.underlying108]
  simp only [binOp]
  simp [Op.equal,Op.maxDepth,h2 9999]
theorem slice_topS (w:World) (b off n c i:Nat) (h2:i≤n) (h3:n≤c) :
    (Instr.sliceAt 178 (.slice (some ⟨b,off,none⟩) n c) none (some (.int .i64 (i:Int))) none).run Tryz.prog w = .ok (.slice (some ⟨b,off,none⟩) i c) w:=by
  have ht:Tryz.prog.underlying 178 = some (.slice 179):=Tryz.underlying178
  have hel:Tryz.prog.elem 178 = 179:=by simp [Program.elem,ht]
  have hs:Tryz.prog.underlying 178 = some (.slice (Tryz.prog.elem 178)):=by rw [hel];exact ht
  have hsz:∀ w,(sizeOf 179).run Tryz.prog w = .ok 1 w:=fun w => by
    obtain ⟨i0,hi0,-,hz,-⟩:=info_parts infoSkP
    simp [sizeOf,typeInfo,hi0,hz]
  rw [run_sliceAt_slice w _ _ _ _ _ hs,run_slice_h w _ _ _ _ hs .i64 (i:Int) (by omega) (by omega),hel,hsz]
  simp [Result.andThen,sliced]
  intro _
  rw [Go.WideShapes.add_plain,Nat.add_zero]
theorem atS_cells {w':World} {g:Nat} {β:Tri} (h:w'.heap[g]? = some (.cells #[.pointer (rootP β.a),.pointer (rootP β.b)] 97 (0,0))):w'.cell? ⟨g,0,none⟩ = some (.pointer (rootP β.a))∧w'.cell? ⟨g,1,none⟩ = some (.pointer (rootP β.b))∧∀ i,w'.frozen? ⟨g,i,none⟩ = false:=by
  refine ⟨?_,?_,fun i => frozen_of_row w' g i _ _ h⟩
  all_goals rw [cell_of_row w' _ _ _ _ (0,0) h];rfl
theorem lockS_cells {w':World} {g:Nat} {a b c:Value} (h:w'.heap[g]? = some (.cells #[a,b,c] 110 (0,0))):w'.cell? ⟨g,0,none⟩ = some a∧w'.cell? ⟨g,1,none⟩ = some b∧w'.cell? ⟨g,2,none⟩ = some c:=by
  refine ⟨?_,?_,?_⟩
  all_goals rw [cell_of_row w' _ _ _ _ (0,0) h];rfl
theorem wp_scope_twoF {P:Program} {c r0 r1:Code} {Q:Exit→Act→World→Prop} {a:Act} {w:World} (J0 J1:Nat→Act→World→Prop)
    (h0:findLabel c 0 = some (Code.skip.seq r0)) (h1:findLabel c 1 = some (Code.skip.seq r1))
    (next:∀ m a w,J1 m a w→r1.wp P (jumpsN (fun l a' w' => ∃ m',m' < m∧J2N J0 J1 l m' a' w') Q) a w)
    (down:∀ m,(∀ m' a w,m'≤m→J1 m' a w→r1.wp P (jumpsN (fun l a' w' => ∃ m',m' < m∧J2N J0 J1 l m' a' w') Q) a w) →
      ∀ a w,J0 m a w→r0.wp P (jumpsN (fun l a' w' => ∃ m',m' < m∧J2N J0 J1 l m' a' w') Q) a w)
    (first:(∀ m a w,J0 m a w→r0.wp P (jumpsN (fun l a' w' => ∃ m',J2N J0 J1 l m' a' w') Q) a w)→c.wp P (jumpsN (fun l a' w' => ∃ m',J2N J0 J1 l m' a' w') Q) a w):(Code.scope c).wp P Q a w:=by
  have dn:∀ m a w,J0 m a w→r0.wp P (jumpsN (fun l a' w' => ∃ m',m' < m∧J2N J0 J1 l m' a' w') Q) a w :=
    fun m a w h => down m (fun m' a w hm h => jumpsN_le (next m' a w h) hm) a w h
  refine wp_scope_labelsN (fun l => match l with | 0 => Code.skip.seq r0 | _ => Code.skip.seq r1) (J2N J0 J1) ?_ (first fun m a w h => jumpsN_any (dn m a w h)) ?_
  · intro l m a w h
    match l,h with
    | 0,_ => exact h0
    | 1,_ => exact h1
  · intro l m a w h
    match l,h with
    | 0,h => exact wp_seq (wp_skip (dn m a w h))
    | 1,h => exact wp_seq (wp_skip (next m a w h))
set_option maxRecDepth 1000000 in
set_option maxHeartbeats 8000000 in
theorem sThrough_c {ρ:Type} {fk ft:Nat} {lk lt:Array Value} {lv:Option (Nat × Array Value)} {B k Mx:Nat} {kf:Tri→Bool} {R:Tri→ρ→Prop} {N:Tri→Prop} {Inv:List ρ→World→(Nat→Prop)→Prop} {Stop:World→Prop} (hv:VisitL fk lk ft lt lv B k Mx kf R N Inv Stop) {w:World} {F0:Nat→Prop} (hI:Inv [] w F0) {t0:Tri} (hu:TriN w B k t0) (ho:t0.o = none) (hB:B≤w.heap.size) (hT:∀ w',Below B w w'→Tz w') (hM:Tr.wgt3 t0≤Mx) (hcn:cnt3 t0≤1000000000) :
    Calls Tryz.prog 77 #[.agg #[.func (.func fk) #[] lk,.func (.func ft) #[] lt,lvV lv],prS t0] w fun e w' => EndL R Inv w F0 t0 N Stop e w':=by
  have hentk:=hv.entk
  have hentt:=hv.entt
  have hF0:∀ b,F0 b→b < w.heap.size∧B≤b:=hv.inb _ _ _ hI
  obtain ⟨xv,hxv⟩:∃ xv,lvV lv = xv:=⟨_,rfl⟩
  obtain ⟨W0,hW0⟩:∃ W0,W0 = (w.alloc (.cells #[.func (.func fk) #[] lk,.func (.func ft) #[] lt,xv] 110)).alloc (.cells #[.pointer (rootP t0.a),.pointer (rootP t0.b)] 97):=⟨_,rfl⟩
  have hal:Below w.heap.size w W0:=by rw [hW0];exact Below.andThen (below_alloc _ _) (below_alloc _ _)
  have hbx:W0.heap[w.heap.size]? = some (.cells #[.func (.func fk) #[] lk,.func (.func ft) #[] lt,xv] 110 (0,0)):=by
    rw [hW0]
    exact keepz (heap_at w _ _ rfl) (below_alloc _ _)
  have hat:W0.heap[w.heap.size + 1]? = some (.cells #[.pointer (rootP t0.a),.pointer (rootP t0.b)] 97 (0,0)):=by
    rw [hW0]
    have:=heap_at (w.alloc (.cells #[.func (.func fk) #[] lk,.func (.func ft) #[] lt,xv] 110)) (.cells #[.pointer (rootP t0.a),.pointer (rootP t0.b)] 97) _ rfl
    rw [World.size_alloc] at this
    exact this
  have hstart:DownS B k Mx R Inv (.func (.func fk) #[] lk) (.func (.func ft) #[] lt) xv w F0 t0 t0 [] [] none 0 F0 W0 (4 * (Tr.wgt3 t0 + wSS []) + 2 * 0):=by
    refine ⟨⟨hv.frame _ _ _ _ hI hal.size (fun b hb => hal.block b (hF0 b hb).1) (Kp.of_below hal),fun b hb => .inl hb,Foot.of_below hal,hbx,hat,rowZ_nil _ _ _,fun b hb => (by simp [Value.ownBlock] at hb),fun f hf => (by cases hf),fun f hf => (by cases hf),fun f hf => (by cases hf),List.Pairwise.nil,trivial⟩,hu,ho,tri_top hu,⟨rfl,rfl⟩,?_,rfl⟩
    simp only [wSS,List.length_nil,List.map_nil,List.sum_nil]
    omega
  rw [hW0] at hstart
  have HS:=Lib.hid hstart
  have HV:=Lib.hid hv
  have HX:=Lib.hid (And.intro hF0 (And.intro hB (And.intro hT (And.intro hcn hxv))))
  rw [hxv]
  clear hv hI hu hB hT hM hcn hstart hal hF0 hbx hat hW0 hxv ho
  clear W0
  go_enter Tryz.func77,Tryz.ntmps77
  go_wp2_with fail
  refine wp_scope_twoF (fun m a' w' => ∃ (x5:Value) (u:Tri) (us:List ρ) (S:List FmS) (D:Option Addr) (d:Nat) (F:Nat→Prop),SloL a' (.pointer (some ⟨w.heap.size,0,none⟩)) (.pointer (some ⟨w.heap.size + 1,0,none⟩)) (.slice D S.length d) x5∧DownS B k Mx R Inv (.func (.func fk) #[] lk) (.func (.func ft) #[] lt) xv w F0 t0 u us S D d F w' m)
    (fun m a' w' => ∃ (x5:Value) (us:List ρ) (S:List FmS) (D:Option Addr) (d:Nat) (β:Tri) (F:Nat→Prop),SloL a' (.pointer (some ⟨w.heap.size,0,none⟩)) (.pointer (some ⟨w.heap.size + 1,0,none⟩)) (.slice D S.length d) x5∧NextS B k Mx R Inv (.func (.func fk) #[] lk) (.func (.func ft) #[] lt) xv w F0 t0 us S D d β F w' m) rfl rfl ?next ?down ?first
  case first =>
    intro hp
    have HP:=Lib.hid hp
    clear hp
    go_wp2_with fail
    refine wp_label ?_
    simp only [Exit.then]
    rename_i hK
    apply hK
    exact HP.out _ _ _ ⟨_,t0,[],[],none,0,F0,⟨rfl,rfl,rfl,rfl,rfl,rfl⟩,HS.out⟩
  case down =>
    rintro m hnx a' w' ⟨x5,u,us,S,D,d,F,hs,hI⟩
    obtain ⟨V,rfl⟩:=hs.lit
    clear hs HS
    have HI:=Lib.hid hI
    have HNx:=Lib.hid hnx
    have hB':Below B w w':=hI.thr.old (fun b hb => (HX.out.1 b hb).2) HX.out.2.1
    have hBw:B≤w'.heap.size:=Nat.le_trans HX.out.2.1 hI.thr.foot.size
    have huw:TriN w' B k u:=hI.hu.below hB' (Nat.le_refl _) (Nat.le_refl _)
    have HQ:=Lib.hid fun (w2:World) (hb:Below w'.heap.size w' w2) => atS_cells (keepz hI.thr.atb hb)
    have HL:=Lib.hid fun (w2:World) (hb:Below w'.heap.size w' w2) => lockS_cells (keepz hI.thr.box hb)
    have HE:=Lib.hid (And.intro hB' (And.intro hBw huw))
    have HTd:=Lib.hid fun (w2:World) (hb:Below w'.heap.size w' w2) (ht:TermS kf u) => hI.told HV.out HX.out.1 HX.out.2.1 hb ht
    obtain ⟨q0,q1,-⟩:=HQ.out w' (Below.refl _ _)
    have hpn:=skptr_no
    have hps:=skptr_ne
    clear hI hnx hB' hBw huw
    cases hab:((rootP u.a).isSome && (rootP u.b).isSome) with
    | false =>
      have HSt:=Lib.hid (sStep_nil (rootP u.a) (rootP u.b) hab w')
      have HTm:Hid (TermS kf u):=Lib.hid (by
        cases ha:u.a with
        | none => exact .inl ha
        | some x =>
          cases hb:u.b with
          | none => exact .inr (.inl hb)
          | some y => rw [ha,hb] at hab;cases hab)
      clear hab
      go_wp2_with fail
      refine HSt.out.mono ?_
      rintro e w1 ⟨rfl,hb1⟩
      clear HSt q0 q1
      have HB1:=Lib.hid hb1
      obtain ⟨q0,q1,-⟩:=HQ.out w1 HB1.out
      obtain ⟨-,q4,-⟩:=HL.out w1 HB1.out
      have HTl:=Lib.hid (HTd.out w1 HB1.out HTm.out)
      go_wp2_with fail
      go_at_fn ft
      refine HTl.out.mono ?_
      rintro e w9 (⟨rfl,us',F',m',h1,h2⟩ | ⟨rfl,hE⟩)
      · have HU:=Lib.hid (And.intro h1 h2)
        clear h1 h2 HTl q0 q1 q4
        go_wp2_with fail
        refine wp_label ?_
        simp only [Exit.then]
        rename_i hK
        apply hK
        exact HNx.out _ _ _ (Nat.le_of_lt HU.out.1) ⟨_,us',S,D,d,u,F',⟨rfl,rfl,rfl,rfl,rfl,rfl⟩,HU.out.2⟩
      · have HEn:=Lib.hid hE
        clear hE HTl q0 q1 q4
        go_wp2_with fail
        simp only [jumpsN]
        refine bodyPost_ret (v:=.tuple #[]) (results_none rfl _ _ _) rfl ?_
        exact HEn.out
    | true =>
      obtain ⟨x,hxa⟩:∃ x,u.a = some x:=by
        cases ha:u.a with
        | none => rw [ha] at hab;cases hab
        | some x => exact ⟨x,rfl⟩
      obtain ⟨y,hyb⟩:∃ y,u.b = some y:=by
        cases hb:u.b with
        | none => rw [hb,Bool.and_comm] at hab;cases hab
        | some x => exact ⟨x,rfl⟩
      have hne:u.list≠[]:=by rw [Tr.two_list HI.out.ho hxa hyb];exact List.cons_ne_nil _ _
      have hll:=Tr.two_lvl (HE.out.2.2.a x hxa).1 HI.out.ho hxa hyb
      have HXY:=Lib.hid (And.intro hxa hyb)
      clear hab
      rcases Tr.lvlT_ent HI.out.ok hne with ⟨l,hl⟩ | ⟨hl,p,hent⟩
      · obtain ⟨-,-,hln,-⟩:=frame_side HI.out.ok (roomS_le HI.out.thr.lev) hne hl
        have hrm:=roomS_le HI.out.thr.lev
        have HSt:Hid (Calls Tryz.prog 132 #[p2V (rootP u.a) (rootP u.b)] w' fun e w1 => ∃ q,e = .returned (.pointer (some ⟨q,0,none⟩))∧w'.heap.size≤q∧w1.heap[q]? = some (.cells (stS u l (.slice none 0 0)) 245 (0,0))∧Below w'.heap.size w' w1):=Lib.hid (by
          have h:=sStep_yes (HE.out.2.2.a x hxa) (HE.out.2.2.b y hyb) HE.out.2.1 (l:=l) (hll.symm.trans hl) (by omega)
          have e1:stS (two (some x) (some y)) l (.slice none 0 0) = stS u l (.slice none 0 0):=by rw [← hxa,← hyb]
          rw [e1] at h
          rw [hxa,hyb]
          exact h)
        have HLv:=Lib.hid (And.intro hne hl)
        have HS64:=Lib.hid (show S.length≤64 by have:=HI.out.thr.lev.room;omega)
        clear hl hne hll hln hrm hxa hyb
        go_wp2_with fail
        refine HSt.out.mono ?_
        rintro e w1 ⟨q,rfl,hq0,hqc,hb1⟩
        have HQq:=Lib.hid (And.intro hq0 hqc)
        have HB1:=Lib.hid hb1
        have HKn:=Lib.hid (HV.out.known _ _ _ _ _ _ (HI.out.thr.below HV.out (fun b hb => (HX.out.1 b hb).1) hb1).inv (HE.out.2.2.below hb1 HE.out.2.1 (Nat.le_refl _)) HI.out.ho HXY.out.1 HXY.out.2 (Nat.le_trans HE.out.2.1 hb1.size))
        clear HSt q0 q1 hq0 hqc
        obtain ⟨q0,q1,-⟩:=HQ.out w1 HB1.out
        obtain ⟨q3,-,-⟩:=HL.out w1 HB1.out
        clear hb1
        go_wp2_with fail
        go_at_fn fk
        refine HKn.out.mono ?_
        rintro e w2 ⟨rfl,hb2⟩
        have HB2:=Lib.hid (Below.andThen HB1.out hb2)
        have HQ2:=Lib.hid (keepz HQq.out.2 hb2)
        clear HKn q0 q1 q3 hb2
        cases hkn:kf u with
        | true =>
          have HTm:Hid (TermS kf u):=Lib.hid (.inr (.inr (.inl hkn)))
          obtain ⟨q0,q1,-⟩:=HQ.out w2 HB2.out
          obtain ⟨-,q4,-⟩:=HL.out w2 HB2.out
          have HTl:=Lib.hid (HTd.out w2 HB2.out HTm.out)
          go_wp2_with fail
          go_at_fn ft
          refine HTl.out.mono ?_
          rintro e w9 (⟨rfl,us',F',m',h1,h2⟩ | ⟨rfl,hE⟩)
          · have HU:=Lib.hid (And.intro h1 h2)
            clear h1 h2 HTl q0 q1 q4
            go_wp2_with fail
            refine wp_label ?_
            simp only [Exit.then]
            rename_i hK
            apply hK
            exact HNx.out _ _ _ (Nat.le_of_lt HU.out.1) ⟨_,us',S,D,d,u,F',⟨rfl,rfl,rfl,rfl,rfl,rfl⟩,HU.out.2⟩
          · have HEn:=Lib.hid hE
            clear hE HTl q0 q1 q4
            go_wp2_with fail
            simp only [jumpsN]
            refine bodyPost_ret (v:=.tuple #[]) (results_none rfl _ _ _) rfl ?_
            exact HEn.out
        | false =>
          clear hkn
          have HW:=Lib.hid (show w.heap.size + 2≤w2.heap.size by have h1:=HI.out.thr.size;have h2:=HB2.out.size;omega)
          have HB3:=Lib.hid (Below.andThen HB2.out (below_alloc w2 (.cells #[.pointer (some ⟨q,0,none⟩)] 179)))
          go_wp2_with (at_builtin;refine wpList_append_rowZ (Q:=SkQ) (Z:=NZ) 178 179 (.pointer none) 8 Tryz.underlying178 infoSkP (by rfl) (by omega) (by omega) skQ_ok nz_ptr (by rfl) _ _ (by rfl) (w.heap.size + 2) (.slice D S.length d) (S.reverse.map FmS.q) (S.length + 1) (by simp) (by rfl) (by exact HI.out.thr.row.below (C:=w'.heap.size) HB3.out (Nat.le_refl _)) q [.pointer (some ⟨q,0,none⟩)] (by rfl) (by exact rfl) ⟨w2.heap.size,0,none⟩ 1 (by rfl) (by exact news_at _ _ _) (by have:=HS64.out;simp;omega) (by have:=HW.out;simp;omega) ?_;intro D5 d5 w5 hown5 hgrow5 hat5 hch5)
          rw [List.length_map,List.length_reverse] at *
          refine wp_label ?_
          simp only [Exit.then]
          rename_i hK
          apply hK
          obtain ⟨m',h1,h2⟩:=HI.out.push HV.out (fun b hb => (HX.out.1 b hb).1) HLv.out.1 HLv.out.2 HB3.out HQq.out.1 (keepz HQ2.out (below_alloc _ _)) hgrow5 hown5 hat5
          exact HNx.out _ _ _ (Nat.le_of_lt h1) ⟨_,us,⟨q,l,u,[],none,0⟩ :: S,D5,d5,u,F,⟨rfl,rfl,rfl,rfl,rfl,rfl⟩,h2⟩
      · have HSt:Hid (Calls Tryz.prog 132 #[p2V (rootP u.a) (rootP u.b)] w' fun e w1 => e = .returned (.pointer none)∧Below w'.heap.size w' w1):=Lib.hid (by
          rw [hxa,hyb]
          exact sStep_no (HE.out.2.2.a x hxa) (HE.out.2.2.b y hyb) HE.out.2.1 (hll.symm.trans hl))
        have HTm:Hid (TermS kf u):=Lib.hid (by
          obtain ⟨g,v,e1⟩:=hent x (Tr.Tri.mem.2 (.inr (.inl hxa)))
          obtain ⟨g',v',e2⟩:=hent y (Tr.Tri.mem.2 (.inr (.inr hyb)))
          exact .inr (.inr (.inr ⟨p,g,v,g',v',by rw [hxa,e1],by rw [hyb,e2]⟩)))
        clear hl hne hll hent hxa hyb
        go_wp2_with fail
        refine HSt.out.mono ?_
        rintro e w1 ⟨rfl,hb1⟩
        clear HSt q0 q1
        have HB1:=Lib.hid hb1
        obtain ⟨q0,q1,-⟩:=HQ.out w1 HB1.out
        obtain ⟨-,q4,-⟩:=HL.out w1 HB1.out
        have HTl:=Lib.hid (HTd.out w1 HB1.out HTm.out)
        go_wp2_with fail
        go_at_fn ft
        refine HTl.out.mono ?_
        rintro e w9 (⟨rfl,us',F',m',h1,h2⟩ | ⟨rfl,hE⟩)
        · have HU:=Lib.hid (And.intro h1 h2)
          clear h1 h2 HTl q0 q1 q4
          go_wp2_with fail
          refine wp_label ?_
          simp only [Exit.then]
          rename_i hK
          apply hK
          exact HNx.out _ _ _ (Nat.le_of_lt HU.out.1) ⟨_,us',S,D,d,u,F',⟨rfl,rfl,rfl,rfl,rfl,rfl⟩,HU.out.2⟩
        · have HEn:=Lib.hid hE
          clear hE HTl q0 q1 q4
          go_wp2_with fail
          simp only [jumpsN]
          refine bodyPost_ret (v:=.tuple #[]) (results_none rfl _ _ _) rfl ?_
          exact HEn.out
  case next =>
    rintro m a' w' ⟨x5,us,S,D,d,β,F,hs,hI⟩
    obtain ⟨V,rfl⟩:=hs.lit
    clear hs HS
    have HI:=Lib.hid hI
    cases S with
    | nil =>
      have HD:=Lib.hid (hI.end (N:=N) (Stop:=Stop))
      clear hI
      go_wp2_with fail
      simp only [jumpsN]
      refine bodyPost_ret (v:=.tuple #[]) (results_none rfl _ _ _) rfl ?_
      exact HD.out
    | cons f S =>
      have hf:=List.mem_cons_self (a:=f) (l:=S)
      have hfs:=hI.thr.fs f hf
      have hfc:=hI.thr.fc f hf
      have hB':Below B w w':=hI.thr.old (fun b hb => (HX.out.1 b hb).2) HX.out.2.1
      have hBw:B≤w'.heap.size:=Nat.le_trans HX.out.2.1 hI.thr.foot.size
      obtain ⟨c0,⟨-,-,fa,fb,-,-,-⟩,-⟩:=hfs.ok
      have HO:=Lib.hid (sOn_c hfs.ho (hfs.nt.a.below hB' (Nat.le_refl _) (Nat.le_refl _)) (hfs.nt.b.below hB' (Nat.le_refl _) (Nat.le_refl _)) hBw (fun v hv => HX.out.2.2.1 v (hB'.trans (hv.mono hBw))) fa fb hfc.cell hfc.row hfc.vq hI.thr.size (Nat.le_trans hfs.n6 hfs.n5) rfl hfs.n5)
      obtain ⟨g,rfl,hdc,hcs⟩:=hI.thr.topped
      have hS64:=hI.thr.lev.1
      have e4:((S.length + 1:Nat):Int) - 1 = (S.length:Int):=by omega
      have m1:(0:Int)≤(S.length:Int):=by omega
      have m2:(S.length:Int) < ((S.length + 1:Nat):Int):=by omega
      have m3:(S.length:Int)≤64:=by omega
      have d1:decide ((S.length:Int) < 0) = false:=decide_eq_false (by omega)
      have z1:(((S.length + 1:Nat):Int) == 0) = false:=by rw [beq_eq_false_iff_ne];omega
      have HC:=Lib.hid hdc
      clear hI hf hfs hfc hB' hBw fa fb hdc hS64
      go_wp2_with fail
      refine HO.out.mono ?_
      rintro e w1 he
      clear HO
      rcases he with ⟨hrem,rfl,hb⟩ | ⟨a,u,D5,d5,hrem,ha,rfl,hq,hrow,hob,hfo,hk⟩
      · have HN:=Lib.hid (HI.out.nothing HV.out (fun b hb => (HX.out.1 b hb).1) hb)
        obtain ⟨q0,q1,qf⟩:=atS_cells (HI.out.thr.below HV.out (fun b hb => (HX.out.1 b hb).1) hb).atb
        have q3:=(lockS_cells HN.out.box).2.2
        have f0:=qf 0
        have f1:=qf 1
        have HR:=Lib.hid hrem
        clear hrem hb qf
        have hst:=fun w3 => slice_topS w3 g 0 (S.length + 1) d S.length (by omega) HC.out
        cases hlv:lv with
        | none =>
          have hxv:xv = Value.nilFunc:=by rw [← HX.out.2.2.2.2,hlv];rfl
          rw [hxv] at q3
          clear hxv
          have hn:=fnS_no
          have HU:=Lib.hid (HI.out.leaven (hlv ▸ HV.out) HX.out.1 HX.out.2.1 HN.out HR.out)
          clear hlv
          go_wp2_with fail
          go_step3
          obtain ⟨us',F',m',h1,h2⟩:=HU.out
          exact ⟨m',h1,_,us',S,some ⟨g,0,none⟩,d,tri0,F',⟨rfl,rfl,rfl,rfl,rfl,rfl⟩,h2⟩
        | some fl =>
          obtain ⟨fl,ll⟩:=fl
          have hxv:xv = .func (.func fl) #[] ll:=by rw [← HX.out.2.2.2.2,hlv];rfl
          rw [hxv] at q3
          clear hxv
          have hentl:=HV.out.entl fl ll hlv
          have hn:=fnS_ne
          have HLe:=Lib.hid (HI.out.leave (fl:=fl) (ll:=ll) (hlv ▸ HV.out) HX.out.1 HX.out.2.1 HN.out HR.out HX.out.2.2.2.1)
          clear hlv
          go_wp2_with fail
          go_at_fn fl
          refine HLe.out.mono ?_
          rintro e w3 ⟨rfl,us',F',m',h1,h2⟩
          have HU:=Lib.hid (And.intro h1 h2)
          clear h1 h2 HLe HN q0 q1 q3 f0 f1
          go_wp2_with fail
          go_step3
          exact ⟨m',HU.out.1,_,us',S,some ⟨g,0,none⟩,d,tri0,F',⟨rfl,rfl,rfl,rfl,rfl,rfl⟩,HU.out.2⟩
      · have HF:=Lib.hid (HI.out.found HV.out (fun b hb => (HX.out.1 b hb).1) hrem ha hq hrow hob hfo hk)
        obtain ⟨q0,q1,qf⟩:=atS_cells (HI.out.thr.found HV.out hrem ha hq hrow hob hfo hk).atb
        have f0:=qf 0
        have f1:=qf 1
        clear hrem ha hq hrow hob hfo hk qf
        go_wp2_with fail
        go_step3
        obtain ⟨m',h1,h2⟩:=HF.out
        exact ⟨m',h1,_,u,us,⟨f.q,f.l,f.t,f.P ++ [(a,u)],D5,d5⟩ :: S,some ⟨g,0,none⟩,d,F,⟨rfl,rfl,rfl,rfl,rfl,rfl⟩,h2⟩
end Go.Proofs.YtkeepngaaleakaaGreatDoor
