import Derived.Test.YtkeepngaaleakaaGreatDoorM22
import Derived.Test.YtkeepngaaleakaaGreatDoorM23
import Derived.Test.YtkeepngaaleakaaGreatDoorM20
namespace Go.Proofs.YtkeepngaaleakaaGreatDoor
open Go.ChangeShapes Go.WideShapes Go.ChangeAt Go.RowKit
open Tr (T S4 Ent Shp)
theorem idx_kidL (a:Int):∀ (ks:List (Nat × T)),Sl.idx (kidL ks) a = Sl.idx ks a
  | [] => rfl
  | x :: ks => by
    have ih:=idx_kidL a ks
    simp only [kidL,List.map_cons,Sl.idx] at ih ⊢
    rw [ih]
def kidP (x:Option (Nat × T)):Nat × Option Addr:=(x.map fun y => (y.1,some ⟨y.2.blk,0,none⟩)).getD (0,none)
theorem kidL_idx (ks:List (Nat × T)) (a:Int):((kidL ks)[Sl.idx (kidL ks) a]?).getD (0,none) = kidP (ks[Sl.idx ks a]?):=by
  rw [idx_kidL,kidL,List.getElem?_map]
  cases ks[Sl.idx ks a]? <;> rfl
theorem nFrom_c {w:World} {B k:Nat} {t:T} (h:Mem w B k t) (hT:Tz w) (a:Int) (hlo:-9223372036854775808≤a) (hhi:a≤9223372036854775807) (p:Nat × Option Addr) (hp:kidP (t.ks[Sl.idx t.ks a]?) = p) :
    Calls Tryz.prog 149 #[.pointer (some ⟨t.blk,0,none⟩),.int .i64 a] w fun e w' => e = .returned (atKid p.1 p.2)∧∃ n,w' = w.drewN n:=by
  subst hp
  cases h with
  | ent g q v hn =>
    refine (nFrom_ent hn a).mono fun e w' h => ⟨h.1,0,h.2.symm⟩
  | br g l pre ks b hn ha hk => exact nFrom_br hn ha hT a hlo hhi _ (kidL_idx ks a)
def StQ (f:Nat→Option Value) (x:T × Nat):Prop:=f 0 = some (.pointer (some ⟨x.1.blk,0,none⟩))∧f 1 = some (.int .i64 (x.2:Int))
theorem stQ_ok:QOk 2 StQ where
  ext:=by
    rintro f g s h ⟨h0,h1⟩
    exact ⟨(h 0 (by omega)).symm.trans h0,(h 1 (by omega)).symm.trans h1⟩
  has:=by
    rintro f s ⟨h0,h1⟩ j hj
    match j,hj with
    | 0,_ => exact ⟨_,h0,rfl⟩
    | 1,_ => exact ⟨_,h1,rfl⟩
theorem infoSt:(Tryz.prog.info? 205).map (fun i => (i.zero,i.size,i.bytes)) = some (some (.agg #[.pointer none,.int .i64 0]),2,16):=by kernel_rfl
theorem slice_top (w:World) (b off n c i:Nat) (h2:i≤n) (h3:n≤c) :
    (Instr.sliceAt 206 (.slice (some ⟨b,off,none⟩) n c) none (some (.int .i64 (i:Int))) none).run Tryz.prog w = .ok (.slice (some ⟨b,off,none⟩) i c) w:=by
  have ht:Tryz.prog.underlying 206 = some (.slice 205):=Tryz.underlying206
  have hel:Tryz.prog.elem 206 = 205:=by simp [Program.elem,ht]
  have hs:Tryz.prog.underlying 206 = some (.slice (Tryz.prog.elem 206)):=by rw [hel];exact ht
  have hsz:∀ w,(sizeOf 205).run Tryz.prog w = .ok 2 w:=fun w => by
    have h:(Tryz.prog.info? 205).map (·.size) = some 2:=by kernel_rfl
    obtain ⟨i0,hi0,hz⟩:=Option.map_eq_some_iff.1 h
    simp [sizeOf,typeInfo,hi0,hz]
  rw [run_sliceAt_slice w _ _ _ _ _ hs,run_slice_h w _ _ _ _ hs .i64 (i:Int) (by omega) (by omega),hel,hsz]
  simp [Result.andThen,sliced]
  intro _
  rw [Go.WideShapes.add_plain,Nat.add_zero]
abbrev Stk (w:World) (base:Nat) (v:Value) (S:List (T × Nat)):Prop:=OwnL 205 2 StQ w base v S.reverse
structure Thr (fid g B k M:Nat) (Inv:List T→World→(Nat→Prop)→Prop) (w:World) (F:Nat→Prop) (o:Option T) (m:Nat) (S:List (T × Nat)) (D:Option Addr) (d:Nat) (w':World):Prop where
  us:∃ (us:List T) (F':Nat→Prop),Tr.allO o = us ++ Tr.rest S∧Inv us w' F'∧(∀ b,F' b→F b∨w.heap.size≤b)∧¬ F' w.heap.size∧(∀ q,(Value.slice D S.length d).ownBlock = some q→¬ F' q)∧S.length≤us.length
  nodes:∀ x∈S,Node w B k x.1∧x.2≤65536
  foot:Foot F w w'
  box:w'.heap[w.heap.size]? = some (.cells #[.func (.func fid) #[] #[.pointer (some ⟨g,0,none⟩)]] 142)
  stk:Stk w' (w.heap.size + 1) (.slice D S.length d) S
  cnt:m = 2 * (Tr.rest S).length + S.length
theorem own_block (A:Option Addr) (n c:Nat):(Value.slice A n c).ownBlock = A.map (·.block):=by cases A <;> rfl
theorem Thr.pop {fid g B k M:Nat} {Inv:List T→World→(Nat→Prop)→Prop} {w:World} {F:Nat→Prop} {o:Option T} {m:Nat} {S:List (T × Nat)} {D:Option Addr} {d:Nat} {w':World} {t:T} {n:Nat}
    (hv:Visit fid g B k M Inv) (h:Thr fid g B k M Inv w F o m ((t,n) :: S) D d w') (hx:t.ks[Sl.idx t.ks (n:Int)]? = none) (q:Nat):∃ m',m' < m∧Thr fid g B k M Inv w F o m' S D d (w'.drewN q):=by
  obtain ⟨us,F',h1,h2,h3,h4,h5,h6⟩:=h.us
  have hr:=Tr.rest_pop (S:=S) hx
  refine ⟨2 * (Tr.rest S).length + S.length,by rw [h.cnt,hr,List.length_cons];omega,⟨us,F',by rw [h1,hr],hv.frame _ w' (w'.drewN q) _ h2 (Nat.le_refl _) (fun _ _ => rfl),h3,h4,fun q hq => h5 q (by rw [own_block] at hq ⊢;exact hq),by simp at h6;omega⟩,fun x hx => h.nodes x (List.mem_cons_of_mem _ hx),h.foot.drewN _,h.box,?_,rfl⟩
  have h7:=OwnL.take stQ_ok h.stk S.length (by simp)
  rw [show (((t,n) :: S).reverse).take S.length = S.reverse by rw [List.reverse_cons,List.take_append_of_le_length (by simp),List.take_of_length_le (by simp)]] at h7
  exact h7
theorem Thr.drew {fid g B k M:Nat} {Inv:List T→World→(Nat→Prop)→Prop} {w:World} {F:Nat→Prop} {o:Option T} {m:Nat} {S:List (T × Nat)} {D:Option Addr} {d:Nat} {w':World}
    (hv:Visit fid g B k M Inv) (h:Thr fid g B k M Inv w F o m S D d w') (q:Nat):Thr fid g B k M Inv w F o m S D d (w'.drewN q):=by
  obtain ⟨us,F',h1,h2,h3,h4,h5,h6⟩:=h.us
  exact ⟨⟨us,F',h1,hv.frame _ w' (w'.drewN q) _ h2 (Nat.le_refl _) (fun _ _ => rfl),h3,h4,h5,h6⟩,h.nodes,h.foot.drewN _,h.box,h.stk,h.cnt⟩
theorem Stk.top {w:World} {base d n:Nat} {D:Option Addr} {t:T} {S:List (T × Nat)} (h:Stk w base (.slice D (S.length + 1) d) ((t,n) :: S)) :
    ∃ q off,off = 0∧D = some ⟨q,off,none⟩∧base≤q∧q < w.heap.size∧S.length + 1≤d∧w.cell? ⟨q,off + S.length * 2,none⟩ = some (.pointer (some ⟨t.blk,0,none⟩))∧w.cell? ⟨q,off + S.length * 2 + 1,none⟩ = some (.int .i64 (n:Int))∧w.frozen? ⟨q,off + S.length * 2 + 1,none⟩ = false:=by
  have hg:((t,n) :: S).reverse[S.length]? = some (t,n):=by rw [List.reverse_cons,List.getElem?_append_right (by simp)];simp
  obtain ⟨A,c,hv,hc,hl⟩:=OwnL.rd stQ_ok h
  obtain ⟨b,off,hA,hb,hq⟩:=hl (by simp)
  obtain ⟨vs,h1,h2⟩:=h
  rcases h2.2 with ⟨hv',hn⟩ | ⟨q,cap,cur,hv',hge,hh,hnc,r⟩
  · simp at hn
  · simp only [Value.slice.injEq] at hv hv'
    obtain ⟨rfl,-,rfl⟩:=hv'
    obtain ⟨hv1,-,hv2⟩:=hv
    rw [← hv1] at hA
    simp only [Option.some.injEq,Addr.mk.injEq,and_true] at hA
    obtain ⟨rfl,rfl⟩:=hA
    obtain ⟨e0,e1⟩:=hq _ _ hg
    exact ⟨q,0,rfl,rfl,hge,hb,by simpa using hnc,e0,e1,frozen_of_row w q _ _ _ hh⟩
theorem ownL_one {α:Type} {n:Nat} {Q:(Nat→Option Value)→α→Prop} {e:TypeId} {w:World} {base:Nat} (vs:Array Value) (x:α) (hb:base≤w.heap.size) (hs:vs.size = n) (hx:Q (fun j => vs[j]?) x) :
    OwnL e n Q (w.alloc (.cells vs e)) base (.slice (some ⟨w.heap.size,0,none⟩) 1 1) [x]:=by
  refine ⟨vs.toList,⟨by simp [hs],fun i a ha => ?_⟩,by simp [hs],.inr ⟨w.heap.size,1,vs,rfl,hb,heap_at w _ _ rfl,Nat.le_refl _,by unfold maxLen;omega,by simp [hs],List.take_of_length_le (by simp [hs])⟩⟩
  match i with
  | 0 =>
    simp at ha
    subst ha
    simpa using hx
  | i + 1 => simp at ha
theorem lst_at {α:Type} {n:Nat} {Q:(Nat→Option Value)→α→Prop} {e:TypeId} {w:World} (hQ:QOk n Q) (vs:Array Value) (x:α) (hs:vs.size = n) (hx:Q (fun j => vs[j]?) x) :
    Lst n Q (w.alloc (.cells vs e)) (w.heap.size + 1) (some ⟨w.heap.size,0,none⟩) [x]:=by
  obtain ⟨A,c,hv,_,hl⟩:=OwnL.rd hQ (ownL_one (e:=e) (w:=w) (base:=w.heap.size) vs x (Nat.le_refl _) hs hx)
  simp only [Value.slice.injEq] at hv
  obtain ⟨hv,-,-⟩:=hv
  subst hv
  intro hn
  obtain ⟨b,off,hA,hb,hq⟩:=hl hn
  exact ⟨b,off,hA,by simp at hb;exact hb,hq⟩
theorem Thr.push {fid g B k M:Nat} {Inv:List T→World→(Nat→Prop)→Prop} {w:World} {F:Nat→Prop} {o:Option T} {m:Nat} {S:List (T × Nat)} {d:Nat} {w1:World} {t s:T} {n a q off:Nat} {us:List T} {F' F2:Nat→Prop} {w2 w5:World} {D2:Option Addr} {d2:Nat} {v:Value} {ob:Obj}
    (hv:Visit fid g B k M Inv) (h:Thr fid g B k M Inv w F o m ((t,n) :: S) (some ⟨q,off,none⟩) d w1)
    (h1:Tr.allO o = us ++ Tr.rest ((t,n) :: S)) (h3:∀ b,F' b→F b∨w.heap.size≤b) (h4:¬ F' w.heap.size) (h5:¬ F' q) (h6:S.length + 1≤us.length) (hq:w.heap.size + 1≤q) (hqs:q < w1.heap.size)
    (hx:t.ks[Sl.idx t.ks (n:Int)]? = some (a,s)) (hI2:Inv (us ++ [s]) w2 F2) (hF2:∀ b,F2 b→F' b∨w1.heap.size≤b) (hfo:Foot F' w1 w2)
    (hown:OwnL 205 2 StQ w5 (w.heap.size + 1) (.slice D2 (S.length + 1 + 1) d2) (((t,n) :: S).reverse.set S.length (t,a + 1) ++ [(s,0)]))
    (hgr:((w2.setCell ⟨q,off + S.length * 2 + 1,none⟩ v).alloc ob).grownBy w5 (some q))
    (hat:(Value.slice D2 (S.length + 1 + 1) d2).ownBlock = some q∨(Value.slice D2 (S.length + 1 + 1) d2).ownBlock = some (w2.heap.size + 1)) :
    ∃ m',m' < m∧Thr fid g B k M Inv w F o m' ((s,0) :: (t,a + 1) :: S) D2 d2 w5:=by
  obtain ⟨hnt,hn5⟩:=h.nodes (t,n) List.mem_cons_self
  have hsl:Sl.Wf k t.ks:=by
    cases hnt.1 with
    | ent => simp [T.ks] at hx
    | br _ _ _ _ _ hw => exact hw
  have hmem:=List.mem_of_getElem? hx
  have hsn:Node w B k s:=by
    cases t with
    | ent => simp [T.ks] at hx
    | br g' l pre ks => exact hnt.kid hmem
  have ha:=hsl.lt16 _ hmem
  have hr:=Tr.rest_push (S:=S) hsl.srt hx
  have hsz:=hfo.size
  have hws:=h.foot.size
  have hb2:∀ b,b < w2.heap.size→b≠q→w5.heap[b]? = w2.heap[b]?:=fun b hb hne => by
    rw [hgr.block b (by simp;omega) (by simpa using hne),Below.heap_alloc _ _ _ (by simp;omega)]
    exact Below.heap_setCell _ _ _ _ (fun e => hne e)
  have hnF2:¬ F2 q:=fun hh => by rcases hF2 q hh with hh | hh;exact h5 hh;omega
  have hinb:=hv.inb _ _ _ hI2
  refine ⟨2 * (Tr.rest ((s,0) :: (t,a + 1) :: S)).length + (S.length + 2),by rw [h.cnt,hr];simp only [List.length_cons];omega,⟨us ++ [s],F2,by rw [h1,hr];simp,?_,?_,?_,?_,by simp;omega⟩,?_,?_,?_,?_,rfl⟩
  · exact hv.frame _ w2 w5 _ hI2 (Nat.le_trans (by simp) hgr.size) fun b hb => hb2 b (hinb b hb).1 (fun e => hnF2 (e ▸ hb))
  · intro b hb
    rcases hF2 b hb with hh | hh
    · exact h3 b hh
    · exact .inr (by omega)
  · intro hh
    rcases hF2 _ hh with hh | hh
    · exact h4 hh
    · have:=(Array.getElem?_eq_some_iff.1 h.box).1;omega
  · intro q2 hq2
    rw [own_block] at hq2
    rw [own_block] at hat
    rcases hat with e | e
    · rw [e] at hq2;cases hq2;exact hnF2
    · rw [e] at hq2;cases hq2;intro hh;have:=(hinb _ hh).1;omega
  · intro x hx'
    simp only [List.mem_cons] at hx'
    rcases hx' with rfl | rfl | hx'
    · exact ⟨hsn,by show (0:Nat)≤65536;omega⟩
    · exact ⟨hnt,by show a + 1≤65536;have:a < 65536:=ha;omega⟩
    · exact h.nodes x (List.mem_cons_of_mem _ hx')
  · refine (h.foot.trans hfo h3).trans (F1:=fun b => b = q) ⟨?_,?_,?_,?_,fun b hb hne => hb2 b hb hne⟩ (fun b hb => .inr (by omega))
    · exact hgr.os
    · exact hgr.tape
    · exact hgr.output
    · exact Nat.le_trans (by simp) hgr.size
  · have hlt:=(Array.getElem?_eq_some_iff.1 h.box).1
    rw [hb2 _ (by omega) (by omega),hfo.block _ hlt h4]
    exact h.box
  · have hrev:((t,n) :: S).reverse.set S.length (t,a + 1) ++ [(s,0)] = ((s,0) :: (t,a + 1) :: S).reverse:=by
      simp only [List.reverse_cons]
      rw [List.set_append_right _ _ (by simp)]
      simp
    rw [hrev] at hown
    exact hown
set_option maxRecDepth 1000000 in
set_option maxHeartbeats 4000000 in
theorem through_c {fid g B k M:Nat} {Inv:List T→World→(Nat→Prop)→Prop} (hv:Visit fid g B k M Inv) {w:World} {F:Nat→Prop} (hI:Inv [] w F) {o:Option T} (hn:NodeO w B k o) (hB:B≤w.heap.size) (hT:∀ w',Below B w w'→Tz w') (hM:(Tr.allO o).length≤M) (hM2:M≤1000000000) :
    Calls Tryz.prog 97 #[.agg #[.func (.func fid) #[] #[.pointer (some ⟨g,0,none⟩)]],.pointer (rootP o)] w fun e w' =>
      e = .returned (.tuple #[])∧∃ F',Inv (Tr.allO o) w' F'∧(∀ b,F' b→F b∨w.heap.size≤b)∧Foot F w w':=by
  have hent:=hv.ent
  have HV:=Lib.hid hv
  have HX:=Lib.hid (And.intro hn (And.intro hB (And.intro hT (And.intro hM hM2))))
  have hal:=below_alloc w (.cells #[.func (.func fid) #[] #[.pointer (some ⟨g,0,none⟩)]] 142)
  have hI0:=HV.out.frame _ _ (w.alloc (.cells #[.func (.func fid) #[] #[.pointer (some ⟨g,0,none⟩)]] 142)) _ hI hal.size (fun b hb => hal.block b (HV.out.inb _ _ _ hI b hb).1)
  have hx0:(w.alloc (.cells #[.func (.func fid) #[] #[.pointer (some ⟨g,0,none⟩)]] 142)).heap[w.heap.size]? = some (.cells #[.func (.func fid) #[] #[.pointer (some ⟨g,0,none⟩)]] 142):=heap_at w _ _ rfl
  have hF0:¬ F w.heap.size:=fun h => by have:=(HV.out.inb _ _ _ hI _ h).1;omega
  have H0:=Lib.hid (And.intro hI0 (And.intro hx0 (And.intro hF0 (And.intro (Foot.of_below (F:=F) hal) (And.intro hI hal)))))
  clear hv hn hB hT hM hM2 hI hal hI0 hx0 hF0
  go_enter Tryz.func97,Tryz.ntmps97
  go_wp2_with fail
  refine wp_scope_count 0 (fun m a' w' => ∃ (S:List (T × Nat)) (D:Option Addr) (d:Nat) (u3 u5 u6 u7 u8 u9 u10 u11 u12 u13 u14 u15 u16 u17 u18 u19 u20 u21 u22 u23 u24 u25 u26 u27 u28 u29 u30 u31 u32 u33 u34 u35 u36 u37 u38 u39 u40 u41 u42 u43 u44 u45 u46 u47 u48 u49 u50 u51 u52 u53 u54 u55:Value),
      a' = { tmps:=#[.agg #[.func (.func fid) #[] #[.pointer (some ⟨g,0,none⟩)]],.pointer (rootP o),.pointer (some ⟨w.heap.size,0,none⟩),u3,.slice D S.length d,u5,u6,u7,u8,u9,u10,u11,u12,u13,u14,u15,u16,u17,u18,u19,u20,u21,u22,u23,u24,u25,u26,u27,u28,u29,u30,u31,u32,u33,u34,u35,u36,u37,u38,u39,u40,u41,u42,u43,u44,u45,u46,u47,u48,u49,u50,u51,u52,u53,u54,u55],defers:=[] }∧Thr fid g B k M Inv w F o m S D d w') rfl ?first ?pass
  case first =>
    intro hp
    have HP:=Lib.hid hp
    clear hp
    cases o with
    | none =>
      simp only [rootP]
      go_wp2_with fail
      simp only [Exit.jump]
      refine bodyPost_ret (results_none rfl _ _ _) rfl ?_
      exact ⟨rfl,F,H0.out.1,fun b hb => .inl hb,H0.out.2.2.2.1⟩
    | some t =>
      obtain ⟨W,hW⟩:∃ W,W = w.alloc (.cells #[.func (.func fid) #[] #[.pointer (some ⟨g,0,none⟩)]] 142):=⟨_,rfl⟩
      have hbel:=H0.out.2.2.2.2.2
      have hI0:=H0.out.1
      have hbox:=H0.out.2.1
      have hft:=H0.out.2.2.2.1
      rw [← hW] at hbel hI0 hbox hft
      have hnt:=HX.out.1 t rfl
      have hnF:=H0.out.2.2.1
      have HF:=Lib.hid (HV.out.call [] W F t hI0 (hnt.below hbel HX.out.2.1 (Nat.le_refl _)) (Nat.le_trans HX.out.2.1 hbel.size) (by have h1:=HX.out.2.2.2.1;simp only [Tr.allO] at h1;rw [Tr.all_eq] at h1;simp at h1 ⊢;omega))
      have HR:=Lib.hid (And.intro hbel (And.intro hbox (And.intro hft (And.intro hnt (And.intro hI0 hnF)))))
      have q0:W.cell? ⟨w.heap.size,0,none⟩ = some (.func (.func fid) #[] #[.pointer (some ⟨g,0,none⟩)]):=by rw [cell_of_row W _ _ _ _ (0,0) hbox];rfl
      clear hbel hI0 hbox hft hnt hnF
      simp only [rootP]
      rw [← hW]
      clear hW H0
      go_wp2_with fail
      refine HF.out.mono ?_
      rintro e w2 ⟨rfl,F2,hi2,hF2,hfo2⟩
      obtain ⟨hbel,hbox,hft,hnt,hI0,hnF⟩:=HR.out
      have hws:w.heap.size < W.heap.size:=(Array.getElem?_eq_some_iff.1 hbox).1
      have HR2:=Lib.hid (And.intro hi2 (And.intro hF2 (And.intro hfo2 (And.intro hbox (And.intro hft (And.intro hnF hws))))))
      clear hi2 hF2 hfo2 HF HR q0 hbel hbox hft hI0 hnF hws
      go_wp2_with fail
      refine wp_label ?_
      simp only [Exit.then]
      rename_i hK
      apply hK
      refine HP.out (2 * (Tr.rest [(t,0)]).length + 1) _ _ ⟨[(t,0)],some ⟨w2.heap.size,0,none⟩,1,_,_,_,_,_,_,_,_,_,_,_,_,_,_,_,_,_,_,_,_,_,_,_,_,_,_,_,_,_,_,_,_,_,_,_,_,_,_,_,_,_,_,_,_,_,_,_,_,_,_,_,_,rfl,?_⟩
      obtain ⟨hi2,hF2,hfo2,hbox,hft,hnF,hws⟩:=HR2.out
      have hinb:=HV.out.inb _ _ _ hi2
      have hb3:=below_alloc w2 (.cells #[.pointer (some ⟨t.blk,0,none⟩),.int .i64 0] 205)
      have h2s:=hfo2.size
      refine ⟨⟨[t],F2,?_,?_,?_,?_,?_,?_⟩,?_,?_,?_,?_,rfl⟩
      · exact (Tr.rest_one t).symm
      · exact HV.out.frame _ w2 _ _ hi2 hb3.size fun b hb => hb3.block b (hinb b hb).1
      · intro b hb
        rcases hF2 b hb with hh | hh
        · exact .inl hh
        · exact .inr (by omega)
      · intro hh
        rcases hF2 _ hh with hh | hh
        · exact hnF hh
        · omega
      · intro q hq hh
        simp only [Value.ownBlock,Option.some.injEq] at hq
        have:=(hinb q hh).1
        omega
      · simp
      · intro x hx
        simp only [List.mem_singleton] at hx
        subst hx
        exact ⟨hnt,by show (0:Nat)≤65536;omega⟩
      · exact (hft.trans hfo2 (fun b hb => .inl hb)).trans (Foot.of_below (F:=F) hb3) (fun b hb => .inl hb)
      · rw [hb3.block _ (by omega),hfo2.block _ hws hnF]
        exact hbox
      · exact ownL_one _ (t,0) (by omega) rfl ⟨rfl,rfl⟩
  case pass =>
    rintro m a' w' ⟨S,D,d,u3,u5,u6,u7,u8,u9,u10,u11,u12,u13,u14,u15,u16,u17,u18,u19,u20,u21,u22,u23,u24,u25,u26,u27,u28,u29,u30,u31,u32,u33,u34,u35,u36,u37,u38,u39,u40,u41,u42,u43,u44,u45,u46,u47,u48,u49,u50,u51,u52,u53,u54,u55,rfl,hthr⟩
    cases S with
    | nil =>
      obtain ⟨us,F',h1,h2,h3,h4,h5,h6⟩:=hthr.us
      have HR:=Lib.hid (And.intro h1 (And.intro h2 (And.intro h3 hthr.foot)))
      clear h1 h2 h3 h4 h5 h6 hthr
      go_wp2_with fail
      simp only [Exit.jump]
      refine bodyPost_ret (results_none rfl _ _ _) rfl ?_
      obtain ⟨h1,h2,h3,h4⟩:=HR.out
      simp only [Tr.rest,List.append_nil] at h1
      exact ⟨rfl,F',by rw [h1];exact h2,h3,h4⟩
    | cons x S =>
      obtain ⟨t,n⟩:=x
      obtain ⟨q,off,hoff,hD,hbq,hqs,hcap,k0,k1,fz⟩:=Stk.top hthr.stk
      have HI:=Lib.hid H0.out.2.2.2.2.1
      subst hD
      have HOF:=Lib.hid hoff
      clear hoff
      have hnd:=hthr.nodes (t,n) List.mem_cons_self
      have hBw:B≤w'.heap.size:=Nat.le_trans HX.out.2.1 hthr.foot.size
      have hbe:Below B w w':=hthr.foot.below HX.out.2.1 (fun b hb => (HV.out.inb _ _ _ H0.out.2.2.2.2.1 b hb).2)
      have hT':Tz w':=HX.out.2.2.1 w' hbe
      have hn64:n≤65536:=hnd.2
      have hS:S.length≤1000000000:=by
        obtain ⟨us,F',h1,h2,h3,h4,h5,h6⟩:=hthr.us
        have h7:=congrArg List.length h1
        rw [List.length_append] at h7
        simp only [List.length_cons] at h6
        have h8:=HX.out.2.2.2.1
        have h9:=HX.out.2.2.2.2
        omega
      obtain ⟨kx,hkx⟩:∃ kx,t.ks[Sl.idx t.ks (n:Int)]? = kx:=⟨_,rfl⟩
      have HFr:Hid (∀ i,Calls Tryz.prog 149 #[.pointer (some ⟨t.blk,0,none⟩),.int .i64 (n:Int)] (w'.drewN i) fun e w'' => e = .returned (atKid (kidP kx).1 (kidP kx).2)∧∃ j,w'' = (w'.drewN i).drewN j):=Lib.hid fun i =>
        nFrom_c (w:=w'.drewN i) ((hnd.1.below hbe (Nat.le_refl _) (Nat.le_refl _)).below (below_drewN i (Below.refl w'.heap.size w')) (Nat.le_trans HX.out.2.1 hthr.foot.size) (Nat.le_refl _)).2 hT' (n:Int) (by omega) (by omega) _ (by rw [hkx])
      have e4:((S.length + 1:Nat):Int) - 1 = (S.length:Int):=by omega
      have m1:(0:Int)≤(S.length:Int):=by omega
      have m2:(S.length:Int) < ((S.length + 1:Nat):Int):=by omega
      have d1:decide ((S.length:Int) < 0) = false:=decide_eq_false (by omega)
      have HH:=Lib.hid (And.intro hthr (And.intro hkx (And.intro hbq (And.intro hqs (And.intro hcap (And.intro hn64 (And.intro hnd hBw)))))))
      clear hthr hkx hbq hqs hcap hnd hBw hbe hT' H0
      cases kx with
      | none =>
        have HFr:Hid (∀ i,Calls Tryz.prog 149 #[.pointer (some ⟨t.blk,0,none⟩),.int .i64 (n:Int)] (w'.drewN i) fun e w'' => e = .returned (atKid 0 none)∧∃ j,w'' = (w'.drewN i).drewN j):=HFr
        go_wp2_with fail
        go_quiet ((go_at_call 149;exact Calls.quiet_of (HFr.out _)))
        have HST:=Lib.hid (slice_top (w'.drewN nq) q off (S.length + 1) d S.length (by omega) HH.out.2.2.2.2.1)
        have hst:=HST.out
        go_wp2_with fail
        go_step3
        obtain ⟨m',hm',hp⟩:=HH.out.1.pop HV.out HH.out.2.1 nq
        exact ⟨rfl,m',hm',S,some ⟨q,off,none⟩,d,_,_,_,_,_,_,_,_,_,_,_,_,_,_,_,_,_,_,_,_,_,_,_,_,_,_,_,_,_,_,_,_,_,_,_,_,_,_,_,_,_,_,_,_,_,_,_,_,_,_,_,_,rfl,hp⟩
      | some y =>
        obtain ⟨a,s⟩:=y
        have HFr:Hid (∀ i,Calls Tryz.prog 149 #[.pointer (some ⟨t.blk,0,none⟩),.int .i64 (n:Int)] (w'.drewN i) fun e w'' => e = .returned (atKid a (some ⟨s.blk,0,none⟩))∧∃ j,w'' = (w'.drewN i).drewN j):=HFr
        go_wp2_with fail
        go_quiet ((go_at_call 149;exact Calls.quiet_of (HFr.out _)))
        obtain ⟨W,hW⟩:∃ W,W = w'.drewN nq:=⟨_,rfl⟩
        have hthr:=HH.out.1.drew HV.out nq
        have hqs:=HH.out.2.2.2.1
        have k1':W.cell? ⟨q,off + S.length * 2 + 1,none⟩ = some (.int .i64 (n:Int)):=by rw [hW];exact k1
        have fz':W.frozen? ⟨q,off + S.length * 2 + 1,none⟩ = false:=by rw [hW];exact fz
        rw [← hW] at hthr
        have hqs':q < W.heap.size:=by rw [hW];exact hqs
        rw [← hW]
        clear k0 k1 fz hW hqs
        obtain ⟨us,F',h1,h2,h3,h4,h5,h6⟩:=hthr.us
        have hnd:=HH.out.2.2.2.2.2.2.1
        have hmem:=List.mem_of_getElem? HH.out.2.1
        have hsn:Node w B k s:=by
          cases t with
          | ent => simp [T.ks] at hmem
          | br g' l pre ks => exact hnd.1.kid hmem
        have ha16:a < 65536:=by
          cases hnd.1.1 with
          | ent => simp [T.ks] at hmem
          | br _ _ _ _ _ hw => exact hw.lt16 _ hmem
        have hbe:Below B w W:=hthr.foot.below HX.out.2.1 (fun b hb => (HV.out.inb _ _ _ HI.out b hb).2)
        have hul:us.length < M:=by
          have h7:=congrArg List.length h1
          rw [Tr.rest_push (by cases hnd.1.1 with | ent => exact Sl.srt_nil | br _ _ _ _ _ hw => exact hw.srt) HH.out.2.1,List.length_append,List.length_cons] at h7
          have h8:=HX.out.2.2.2.1
          omega
        have HM:=Lib.hid (HV.out.call us W F' s h2 (hsn.below hbe (Nat.le_refl _) (Nat.le_refl _)) (Nat.le_trans HX.out.2.1 hthr.foot.size) hul)
        have q0:W.cell? ⟨w.heap.size,0,none⟩ = some (.func (.func fid) #[] #[.pointer (some ⟨g,0,none⟩)]):=by rw [cell_of_row W _ _ _ _ (0,0) hthr.box];rfl
        have hq5:¬ F' q:=h5 q rfl
        have HT:=Lib.hid (And.intro hthr (And.intro h1 (And.intro h3 (And.intro h4 (And.intro hq5 (And.intro h6 (And.intro hqs' (And.intro k1' (And.intro fz' hnd)))))))))
        clear hthr h1 h2 h3 h4 h5 h6 hnd hmem hsn hbe hul hq5 hqs' k1' fz'
        go_wp2_with fail
        refine HM.out.mono ?_
        rintro e w2 ⟨rfl,F2,hi2,hF2,hfo2⟩
        have hqb:w2.heap[q]? = W.heap[q]?:=hfo2.block q HT.out.2.2.2.2.2.2.1 HT.out.2.2.2.2.1
        have k1:w2.cell? ⟨q,off + S.length * 2 + 1,none⟩ = some (.int .i64 (n:Int)):=(World.cell?_of_block (a:=⟨q,off + S.length * 2 + 1,none⟩) hqb).trans HT.out.2.2.2.2.2.2.2.1
        have fz:w2.frozen? ⟨q,off + S.length * 2 + 1,none⟩ = false:=(World.frozen?_of_block (a:=⟨q,off + S.length * 2 + 1,none⟩) hqb).trans HT.out.2.2.2.2.2.2.2.2.1
        have H2:=Lib.hid (And.intro hi2 (And.intro hF2 (And.intro hfo2 hqb)))
        clear hi2 hF2 hfo2 hqb q0 HM
        obtain ⟨D0,hD0⟩:∃ D0:Value,D0 = .slice (some ⟨q,off,none⟩) (S.length + 1) d:=⟨_,rfl⟩
        have hset:=HT.out.1.stk.block (w':=w2) (fun q' hq' => by simp only [Value.ownBlock,Option.some.injEq] at hq';subst hq';exact H2.out.2.2.2)
        obtain ⟨g2,hg2,hset2⟩:=OwnL.set (i:=S.length) (j:=1) (x:=(t,a + 1)) (u:=.int .i64 ((a + 1:Nat):Int)) hset stQ_ok (by simp) (by omega) (by
          intro f y hy hf
          rw [List.reverse_cons,List.getElem?_append_right (by simp)] at hy
          simp at hy
          subst hy
          exact ⟨hf.1,rfl⟩)
        have hqg:q = g2:=by simp only [Option.some.injEq,Addr.mk.injEq] at hg2;exact hg2.1
        rw [← hqg] at hset2
        clear hg2 hqg
        rw [show S.length * 2 + 1 = off + S.length * 2 + 1 by have:=HOF.out;omega] at hset2
        have HS2:=Lib.hid hset2
        have HB1:=Lib.hid (show w.heap.size + 1≤w2.heap.size by have h1:=(Array.getElem?_eq_some_iff.1 HT.out.1.box).1;have h2:=H2.out.2.2.1.size;omega)
        clear hset hset2 hD0
        rw [show ((a + 1:Nat):Int) = (a:Int) + 1 by omega] at HS2
        go_upto_region 11 with fail
        obtain ⟨W3,hW3⟩:∃ W3,W3 = w2.setCell ⟨q,off + S.length * 2 + 1,none⟩ (.int .i64 ((a:Int) + 1)):=⟨_,rfl⟩
        have HSZ:Hid (W3.heap.size = w2.heap.size):=Lib.hid (by rw [hW3];simp)
        rw [← hW3] at HS2 ⊢
        have HW3:=Lib.hid hW3
        clear hW3 k1 fz
        go_wp2_with (at_builtin;refine wpList_append_list (Q:=StQ) 206 205 (.agg #[.pointer none,.int .i64 0]) 16 Tryz.underlying206 infoSt (by rfl) (by omega) (by omega) stQ_ok (by rfl) _ _ (by rfl) (w.heap.size + 1) (.slice (some ⟨q,off,none⟩) (S.length + 1) d) (((t,n) :: S).reverse.set S.length (t,a + 1)) [(s,0)] (S.length + 1 + 1) (by simp) (by rfl) (by exact HS2.out.below (below_alloc _ _) (Nat.le_refl _)) _ _ 1 1 (by rfl) (by rfl) (by exact lst_at stQ_ok #[.pointer (some ⟨s.blk,0,none⟩),.int .i64 0] (s,0) (by rfl) (by exact ⟨rfl,rfl⟩)) (by omega) (by have:=HB1.out;have:=HSZ.out;simp;omega) ?_;intro D5 d5 w5 hown5 hgrow5 hat5)
        go_step3
        obtain ⟨hthr,h1,h3,h4,hq5,h6,hqs',-,-,-⟩:=HT.out
        obtain ⟨hi2,hF2,hfo2,-⟩:=H2.out
        rw [HW3.out] at hgrow5
        have hat5':(Value.slice D5 (S.length + 1 + 1) d5).ownBlock = some q∨(Value.slice D5 (S.length + 1 + 1) d5).ownBlock = some (w2.heap.size + 1):=by
          rcases hat5 with e | e
          · exact .inl e
          · refine .inr (e.trans ?_)
            have:=HSZ.out
            simp [this]
        obtain ⟨m',hm',hp⟩:=Thr.push HV.out hthr h1 h3 h4 hq5 (by simpa using h6) HH.out.2.2.1 hqs' HH.out.2.1 hi2 hF2 hfo2 hown5 hgrow5 hat5'
        exact ⟨rfl,m',hm',(s,0) :: (t,a + 1) :: S,D5,d5,_,_,_,_,_,_,_,_,_,_,_,_,_,_,_,_,_,_,_,_,_,_,_,_,_,_,_,_,_,_,_,_,_,_,_,_,_,_,_,_,_,_,_,_,_,_,_,_,_,_,_,_,rfl,hp⟩
end Go.Proofs.YtkeepngaaleakaaGreatDoor
