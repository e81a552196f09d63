import Derived.Laws.StructEq
import Derived.Test.YtkeepngaaleakaaGreatDoorM22
import Derived.Test.YtkeepngaaleakaaGreatDoorM20
import Derived.Test.YtkeepngaaleakaaGreatDoorM17
namespace Go.Proofs.YtkeepngaaleakaaGreatDoor
open Go.ChangeShapes Go.WideShapes Go.ChangeAt Go.RowKit
open Tr (T S4 Ent Shp)
theorem idx_kidL (a:Int):∀ (ks:List (Nat × T)),Sl.idx (kidL ks) a = Sl.idx ks a
  | [] => rfl
  | x :: ks => by
    have ih:=idx_kidL a ks
    simp only [kidL,List.map_cons,Sl.idx] at ih ⊢
    rw [ih]
def kidP (x:Option (Nat × T)):Nat × Option Addr:=(x.map fun y => (y.1,some ⟨y.2.blk,0,none⟩)).getD (0,none)
theorem kidL_idx (ks:List (Nat × T)) (a:Int):((kidL ks)[Sl.idx (kidL ks) a]?).getD (0,none) = kidP (ks[Sl.idx ks a]?):=by
  rw [idx_kidL,kidL,List.getElem?_map]
  cases ks[Sl.idx ks a]? <;> rfl
theorem nFrom_c {w:World} {B k:Nat} {t:T} (h:Mem w B k t) (hT:Tz w) (a:Int) (hlo:-9223372036854775808≤a) (hhi:a≤9223372036854775807) (p:Nat × Option Addr) (hp:kidP (t.ks[Sl.idx t.ks a]?) = p) :
    Calls Tryz.prog 149 #[.pointer (some ⟨t.blk,0,none⟩),.int .i64 a] w fun e w' => e = .returned (atKid p.1 p.2)∧∃ n,w' = w.drewN n:=by
  subst hp
  cases h with
  | ent g q v hn =>
    refine (nFrom_ent hn a).mono fun e w' h => ⟨h.1,0,h.2.symm⟩
  | br g l pre ks b hn ha hk => exact nFrom_br hn ha hT a hlo hhi _ (kidL_idx ks a)
def StQ (f:Nat→Option Value) (x:T × Nat):Prop:=f 0 = some (.pointer (some ⟨x.1.blk,0,none⟩))∧f 1 = some (.int .i64 (x.2:Int))
theorem stQ_ok:QOk 2 StQ where
  ext:=by
    rintro f g s h ⟨h0,h1⟩
    exact ⟨(h 0 (by omega)).symm.trans h0,(h 1 (by omega)).symm.trans h1⟩
  has:=by
    rintro f s ⟨h0,h1⟩ j hj
    match j,hj with
    | 0,_ => exact ⟨_,h0,rfl⟩
    | 1,_ => exact ⟨_,h1,rfl⟩
theorem infoSt:(Tryz.prog.info? 205).map (fun i => (i.zero,i.size,i.bytes)) = some (some (.agg #[.pointer none,.int .i64 0]),2,16):=by kernel_rfl
theorem slice_top (w:World) (b off n c i:Nat) (h2:i≤n) (h3:n≤c) :
    (Instr.sliceAt 206 (.slice (some ⟨b,off,none⟩) n c) none (some (.int .i64 (i:Int))) none).run Tryz.prog w = .ok (.slice (some ⟨b,off,none⟩) i c) w:=by
  have ht:Tryz.prog.underlying 206 = some (.slice 205):=Tryz.underlying206
  have hel:Tryz.prog.elem 206 = 205:=by simp [Program.elem,ht]
  have hs:Tryz.prog.underlying 206 = some (.slice (Tryz.prog.elem 206)):=by rw [hel];exact ht
  have hsz:∀ w,(sizeOf 205).run Tryz.prog w = .ok 2 w:=fun w => by
    have h:(Tryz.prog.info? 205).map (·.size) = some 2:=by kernel_rfl
    obtain ⟨i0,hi0,hz⟩:=Option.map_eq_some_iff.1 h
    simp [sizeOf,typeInfo,hi0,hz]
  rw [run_sliceAt_slice w _ _ _ _ _ hs,run_slice_h w _ _ _ _ hs .i64 (i:Int) (by omega) (by omega),hel,hsz]
  simp [Result.andThen,sliced]
  intro _
  rw [Go.WideShapes.add_plain,Nat.add_zero]
abbrev Stk (w:World) (base:Nat) (v:Value) (S:List (T × Nat)):Prop:=OwnL 205 2 StQ w base v S.reverse
structure Thr (fid g B k M:Nat) (Inv:List T→World→(Nat→Prop)→Prop) (w:World) (F:Nat→Prop) (o:Option T) (m:Nat) (S:List (T × Nat)) (D:Option Addr) (d:Nat) (w':World):Prop where
  us:∃ (us:List T) (F':Nat→Prop),Tr.allO o = us ++ Tr.rest S∧Inv us w' F'∧(∀ b,F' b→F b∨w.heap.size≤b)∧¬ F' w.heap.size∧(∀ q,(Value.slice D S.length d).ownBlock = some q→¬ F' q)∧S.length≤us.length
  nodes:∀ x∈S,Node w B k x.1∧x.2≤65536
  foot:Foot F w w'
  box:w'.heap[w.heap.size]? = some (.cells #[.func (.func fid) #[] #[.pointer (some ⟨g,0,none⟩)]] 142)
  stk:Stk w' (w.heap.size + 1) (.slice D S.length d) S
  cnt:m = 2 * (Tr.rest S).length + S.length
theorem own_block (A:Option Addr) (n c:Nat):(Value.slice A n c).ownBlock = A.map (·.block):=by cases A <;> rfl
theorem Thr.pop {fid g B k M:Nat} {Inv:List T→World→(Nat→Prop)→Prop} {w:World} {F:Nat→Prop} {o:Option T} {m:Nat} {S:List (T × Nat)} {D:Option Addr} {d:Nat} {w':World} {t:T} {n:Nat}
    (hv:Visit fid g B k M Inv) (h:Thr fid g B k M Inv w F o m ((t,n) :: S) D d w') (hx:t.ks[Sl.idx t.ks (n:Int)]? = none) (q:Nat):∃ m',m' < m∧Thr fid g B k M Inv w F o m' S D d (w'.drewN q):=by
  obtain ⟨us,F',h1,h2,h3,h4,h5,h6⟩:=h.us
  have hr:=Tr.rest_pop (S:=S) hx
  refine ⟨2 * (Tr.rest S).length + S.length,by rw [h.cnt,hr,List.length_cons];omega,⟨us,F',by rw [h1,hr],hv.frame _ w' (w'.drewN q) _ h2 (Nat.le_refl _) (fun _ _ => rfl),h3,h4,fun q hq => h5 q (by rw [own_block] at hq ⊢;exact hq),by simp at h6;omega⟩,fun x hx => h.nodes x (List.mem_cons_of_mem _ hx),h.foot.drewN _,h.box,?_,rfl⟩
  have h7:=OwnL.take stQ_ok h.stk S.length (by simp)
  rw [show (((t,n) :: S).reverse).take S.length = S.reverse by rw [List.reverse_cons,List.take_append_of_le_length (by simp),List.take_of_length_le (by simp)]] at h7
  exact h7
theorem Thr.drew {fid g B k M:Nat} {Inv:List T→World→(Nat→Prop)→Prop} {w:World} {F:Nat→Prop} {o:Option T} {m:Nat} {S:List (T × Nat)} {D:Option Addr} {d:Nat} {w':World}
    (hv:Visit fid g B k M Inv) (h:Thr fid g B k M Inv w F o m S D d w') (q:Nat):Thr fid g B k M Inv w F o m S D d (w'.drewN q):=by
  obtain ⟨us,F',h1,h2,h3,h4,h5,h6⟩:=h.us
  exact ⟨⟨us,F',h1,hv.frame _ w' (w'.drewN q) _ h2 (Nat.le_refl _) (fun _ _ => rfl),h3,h4,h5,h6⟩,h.nodes,h.foot.drewN _,h.box,h.stk,h.cnt⟩
theorem Stk.top {w:World} {base d n:Nat} {D:Option Addr} {t:T} {S:List (T × Nat)} (h:Stk w base (.slice D (S.length + 1) d) ((t,n) :: S)) :
    ∃ q off,off = 0∧D = some ⟨q,off,none⟩∧base≤q∧q < w.heap.size∧S.length + 1≤d∧w.cell? ⟨q,off + S.length * 2,none⟩ = some (.pointer (some ⟨t.blk,0,none⟩))∧w.cell? ⟨q,off + S.length * 2 + 1,none⟩ = some (.int .i64 (n:Int))∧w.frozen? ⟨q,off + S.length * 2 + 1,none⟩ = false:=by
  have hg:((t,n) :: S).reverse[S.length]? = some (t,n):=by rw [List.reverse_cons,List.getElem?_append_right (by simp)];simp
  obtain ⟨A,c,hv,hc,hl⟩:=OwnL.rd stQ_ok h
  obtain ⟨b,off,hA,hb,hq⟩:=hl (by simp)
  obtain ⟨vs,h1,h2⟩:=h
  rcases h2.2 with ⟨hv',hn⟩ | ⟨q,cap,cur,hv',hge,hh,hnc,r⟩
  · simp at hn
  · simp only [Value.slice.injEq] at hv hv'
    obtain ⟨rfl,-,rfl⟩:=hv'
    obtain ⟨hv1,-,hv2⟩:=hv
    rw [← hv1] at hA
    simp only [Option.some.injEq,Addr.mk.injEq,and_true] at hA
    obtain ⟨rfl,rfl⟩:=hA
    obtain ⟨e0,e1⟩:=hq _ _ hg
    exact ⟨q,0,rfl,rfl,hge,hb,by simpa using hnc,e0,e1,frozen_of_row w q _ _ _ hh⟩
theorem ownL_one {α:Type} {n:Nat} {Q:(Nat→Option Value)→α→Prop} {e:TypeId} {w:World} {base:Nat} (vs:Array Value) (x:α) (hb:base≤w.heap.size) (hs:vs.size = n) (hx:Q (fun j => vs[j]?) x) :
    OwnL e n Q (w.alloc (.cells vs e)) base (.slice (some ⟨w.heap.size,0,none⟩) 1 1) [x]:=by
  refine ⟨vs.toList,⟨by simp [hs],fun i a ha => ?_⟩,by simp [hs],.inr ⟨w.heap.size,1,vs,rfl,hb,heap_at w _ _ rfl,Nat.le_refl _,by unfold maxLen;omega,by simp [hs],List.take_of_length_le (by simp [hs])⟩⟩
  match i with
  | 0 =>
    simp at ha
    subst ha
    simpa using hx
  | i + 1 => simp at ha
theorem lst_at {α:Type} {n:Nat} {Q:(Nat→Option Value)→α→Prop} {e:TypeId} {w:World} (hQ:QOk n Q) (vs:Array Value) (x:α) (hs:vs.size = n) (hx:Q (fun j => vs[j]?) x) :
    Lst n Q (w.alloc (.cells vs e)) (w.heap.size + 1) (some ⟨w.heap.size,0,none⟩) [x]:=by
  obtain ⟨A,c,hv,_,hl⟩:=OwnL.rd hQ (ownL_one (e:=e) (w:=w) (base:=w.heap.size) vs x (Nat.le_refl _) hs hx)
  simp only [Value.slice.injEq] at hv
  obtain ⟨hv,-,-⟩:=hv
  subst hv
  intro hn
  obtain ⟨b,off,hA,hb,hq⟩:=hl hn
  exact ⟨b,off,hA,by simp at hb;exact hb,hq⟩
theorem Thr.push {fid g B k M:Nat} {Inv:List T→World→(Nat→Prop)→Prop} {w:World} {F:Nat→Prop} {o:Option T} {m:Nat} {S:List (T × Nat)} {d:Nat} {w1:World} {t s:T} {n a q off:Nat} {us:List T} {F' F2:Nat→Prop} {w2 w5:World} {D2:Option Addr} {d2:Nat} {v:Value} {ob:Obj}
    (hv:Visit fid g B k M Inv) (h:Thr fid g B k M Inv w F o m ((t,n) :: S) (some ⟨q,off,none⟩) d w1)
    (h1:Tr.allO o = us ++ Tr.rest ((t,n) :: S)) (h3:∀ b,F' b→F b∨w.heap.size≤b) (h4:¬ F' w.heap.size) (h5:¬ F' q) (h6:S.length + 1≤us.length) (hq:w.heap.size + 1≤q) (hqs:q < w1.heap.size)
    (hx:t.ks[Sl.idx t.ks (n:Int)]? = some (a,s)) (hI2:Inv (us ++ [s]) w2 F2) (hF2:∀ b,F2 b→F' b∨w1.heap.size≤b) (hfo:Foot F' w1 w2)
    (hown:OwnL 205 2 StQ w5 (w.heap.size + 1) (.slice D2 (S.length + 1 + 1) d2) (((t,n) :: S).reverse.set S.length (t,a + 1) ++ [(s,0)]))
    (hgr:((w2.setCell ⟨q,off + S.length * 2 + 1,none⟩ v).alloc ob).grownBy w5 (some q))
    (hat:(Value.slice D2 (S.length + 1 + 1) d2).ownBlock = some q∨(Value.slice D2 (S.length + 1 + 1) d2).ownBlock = some (w2.heap.size + 1)) :
    ∃ m',m' < m∧Thr fid g B k M Inv w F o m' ((s,0) :: (t,a + 1) :: S) D2 d2 w5:=by
  obtain ⟨hnt,hn5⟩:=h.nodes (t,n) List.mem_cons_self
  have hsl:Sl.Wf k t.ks:=by
    cases hnt.1 with
    | ent => simp [T.ks] at hx
    | br _ _ _ _ _ hw => exact hw
  have hmem:=List.mem_of_getElem? hx
  have hsn:Node w B k s:=by
    cases t with
    | ent => simp [T.ks] at hx
    | br g' l pre ks => exact hnt.kid hmem
  have ha:=hsl.lt16 _ hmem
  have hr:=Tr.rest_push (S:=S) hsl.srt hx
  have hsz:=hfo.size
  have hws:=h.foot.size
  have hb2:∀ b,b < w2.heap.size→b≠q→w5.heap[b]? = w2.heap[b]?:=fun b hb hne => by
    rw [hgr.block b (by simp;omega) (by simpa using hne),Below.heap_alloc _ _ _ (by simp;omega)]
    exact Below.heap_setCell _ _ _ _ (fun e => hne e)
  have hnF2:¬ F2 q:=fun hh => by rcases hF2 q hh with hh | hh;exact h5 hh;omega
  have hinb:=hv.inb _ _ _ hI2
  refine ⟨2 * (Tr.rest ((s,0) :: (t,a + 1) :: S)).length + (S.length + 2),by rw [h.cnt,hr];simp only [List.length_cons];omega,⟨us ++ [s],F2,by rw [h1,hr];simp,?_,?_,?_,?_,by simp;omega⟩,?_,?_,?_,?_,rfl⟩
  · exact hv.frame _ w2 w5 _ hI2 (Nat.le_trans (by simp) hgr.size) fun b hb => hb2 b (hinb b hb).1 (fun e => hnF2 (e ▸ hb))
  · intro b hb
    rcases hF2 b hb with hh | hh
    · exact h3 b hh
    · exact .inr (by omega)
  · intro hh
    rcases hF2 _ hh with hh | hh
    · exact h4 hh
    · have:=(Array.getElem?_eq_some_iff.1 h.box).1;omega
  · intro q2 hq2
    rw [own_block] at hq2
    rw [own_block] at hat
    rcases hat with e | e
    · rw [e] at hq2;cases hq2;exact hnF2
    · rw [e] at hq2;cases hq2;intro hh;have:=(hinb _ hh).1;omega
  · intro x hx'
    simp only [List.mem_cons] at hx'
    rcases hx' with rfl | rfl | hx'
    · exact ⟨hsn,by show (0:Nat)≤65536;omega⟩
    · exact ⟨hnt,by show a + 1≤65536;have:a < 65536:=ha;omega⟩
    · exact h.nodes x (List.mem_cons_of_mem _ hx')
  · refine (h.foot.trans hfo h3).trans (F1:=fun b => b = q) ⟨?_,?_,?_,?_,fun b hb hne => hb2 b hb hne⟩ (fun b hb => .inr (by omega))
    · exact hgr.os
    · exact hgr.tape
    · exact hgr.output
    · exact Nat.le_trans (by simp) hgr.size
  · have hlt:=(Array.getElem?_eq_some_iff.1 h.box).1
    rw [hb2 _ (by omega) (by omega),hfo.block _ hlt h4]
    exact h.box
  · have hrev:((t,n) :: S).reverse.set S.length (t,a + 1) ++ [(s,0)] = ((s,0) :: (t,a + 1) :: S).reverse:=by
      simp only [List.reverse_cons]
      rw [List.set_append_right _ _ (by simp)]
      simp
    rw [hrev] at hown
    exact hown
set_option maxRecDepth 1000000 in
set_option maxHeartbeats 4000000 in
theorem through_c {fid g B k M:Nat} {Inv:List T→World→(Nat→Prop)→Prop} (hv:Visit fid g B k M Inv) {w:World} {F:Nat→Prop} (hI:Inv [] w F) {o:Option T} (hn:NodeO w B k o) (hB:B≤w.heap.size) (hT:∀ w',Below B w w'→Tz w') (hM:(Tr.allO o).length≤M) (hM2:M≤1000000000) :
    Calls Tryz.prog 97 #[.agg #[.func (.func fid) #[] #[.pointer (some ⟨g,0,none⟩)]],.pointer (rootP o)] w fun e w' =>
      e = .returned (.tuple #[])∧∃ F',Inv (Tr.allO o) w' F'∧(∀ b,F' b→F b∨w.heap.size≤b)∧Foot F w w':=by
  have hent:=hv.ent
  have HV:=Lib.hid hv
  have HX:=Lib.hid (And.intro hn (And.intro hB (And.intro hT (And.intro hM hM2))))
  have hal:=below_alloc w (.cells #[.func (.func fid) #[] #[.pointer (some ⟨g,0,none⟩)]] 142)
  have hI0:=HV.out.frame _ _ (w.alloc (.cells #[.func (.func fid) #[] #[.pointer (some ⟨g,0,none⟩)]] 142)) _ hI hal.size (fun b hb => hal.block b (HV.out.inb _ _ _ hI b hb).1)
  have hx0:(w.alloc (.cells #[.func (.func fid) #[] #[.pointer (some ⟨g,0,none⟩)]] 142)).heap[w.heap.size]? = some (.cells #[.func (.func fid) #[] #[.pointer (some ⟨g,0,none⟩)]] 142):=heap_at w _ _ rfl
  have hF0:¬ F w.heap.size:=fun h => by have:=(HV.out.inb _ _ _ hI _ h).1;omega
  have H0:=Lib.hid (And.intro hI0 (And.intro hx0 (And.intro hF0 (And.intro (Foot.of_below (F:=F) hal) (And.intro hI hal)))))
  clear hv hn hB hT hM hM2 hI hal hI0 hx0 hF0
  go_enter Tryz.func97,Tryz.ntmps97
  go_wp2_with fail
  refine wp_scope_count 0 (fun m a' w' => ∃ (S:List (T × Nat)) (D:Option Addr) (d:Nat) (u3 u5 u6 u7 u8 u9 u10 u11 u12 u13 u14 u15 u16 u17 u18 u19 u20 u21 u22 u23 u24 u25 u26 u27 u28 u29 u30 u31 u32 u33 u34 u35 u36 u37 u38 u39 u40 u41 u42 u43 u44 u45 u46 u47 u48 u49 u50 u51 u52 u53 u54 u55:Value),
      a' = { tmps:=#[.agg #[.func (.func fid) #[] #[.pointer (some ⟨g,0,none⟩)]],.pointer (rootP o),.pointer (some ⟨w.heap.size,0,none⟩),u3,.slice D S.length d,u5,u6,u7,u8,u9,u10,u11,u12,u13,u14,u15,u16,u17,u18,u19,u20,u21,u22,u23,u24,u25,u26,u27,u28,u29,u30,u31,u32,u33,u34,u35,u36,u37,u38,u39,u40,u41,u42,u43,u44,u45,u46,u47,u48,u49,u50,u51,u52,u53,u54,u55],defers:=[] }∧Thr fid g B k M Inv w F o m S D d w') rfl ?first ?pass
  case first =>
    intro hp
    have HP:=Lib.hid hp
    clear hp
    cases o with
    | none =>
      simp only [rootP]
      go_wp2_with fail
      simp only [Exit.jump]
      refine bodyPost_ret (results_none rfl _ _ _) rfl ?_
      exact ⟨rfl,F,H0.out.1,fun b hb => .inl hb,H0.out.2.2.2.1⟩
    | some t =>
      obtain ⟨W,hW⟩:∃ W,W = w.alloc (.cells #[.func (.func fid) #[] #[.pointer (some ⟨g,0,none⟩)]] 142):=⟨_,rfl⟩
      have hbel:=H0.out.2.2.2.2.2
      have hI0:=H0.out.1
      have hbox:=H0.out.2.1
      have hft:=H0.out.2.2.2.1
      rw [← hW] at hbel hI0 hbox hft
      have hnt:=HX.out.1 t rfl
      have hnF:=H0.out.2.2.1
      have HF:=Lib.hid (HV.out.call [] W F t hI0 (hnt.below hbel HX.out.2.1 (Nat.le_refl _)) (Nat.le_trans HX.out.2.1 hbel.size) (by have h1:=HX.out.2.2.2.1;simp only [Tr.allO] at h1;rw [Tr.all_eq] at h1;simp at h1 ⊢;omega))
      have HR:=Lib.hid (And.intro hbel (And.intro hbox (And.intro hft (And.intro hnt (And.intro hI0 hnF)))))
      have q0:W.cell? ⟨w.heap.size,0,none⟩ = some (.func (.func fid) #[] #[.pointer (some ⟨g,0,none⟩)]):=by rw [cell_of_row W _ _ _ _ (0,0) hbox];rfl
      clear hbel hI0 hbox hft hnt hnF
      simp only [rootP]
      rw [← hW]
      clear hW H0
      go_wp2_with fail
      refine HF.out.mono ?_
      rintro e w2 ⟨rfl,F2,hi2,hF2,hfo2⟩
      obtain ⟨hbel,hbox,hft,hnt,hI0,hnF⟩:=HR.out
      have hws:w.heap.size < W.heap.size:=(Array.getElem?_eq_some_iff.1 hbox).1
      have HR2:=Lib.hid (And.intro hi2 (And.intro hF2 (And.intro hfo2 (And.intro hbox (And.intro hft (And.intro hnF hws))))))
      clear hi2 hF2 hfo2 HF HR q0 hbel hbox hft hI0 hnF hws
      go_wp2_with fail
      refine wp_label ?_
      simp only [Exit.then]
      rename_i hK
      apply hK
      refine HP.out (2 * (Tr.rest [(t,0)]).length + 1) _ _ ⟨[(t,0)],some ⟨w2.heap.size,0,none⟩,1,_,_,_,_,_,_,_,_,_,_,_,_,_,_,_,_,_,_,_,_,_,_,_,_,_,_,_,_,_,_,_,_,_,_,_,_,_,_,_,_,_,_,_,_,_,_,_,_,_,_,_,_,rfl,?_⟩
      obtain ⟨hi2,hF2,hfo2,hbox,hft,hnF,hws⟩:=HR2.out
      have hinb:=HV.out.inb _ _ _ hi2
      have hb3:=below_alloc w2 (.cells #[.pointer (some ⟨t.blk,0,none⟩),.int .i64 0] 205)
      have h2s:=hfo2.size
      refine ⟨⟨[t],F2,?_,?_,?_,?_,?_,?_⟩,?_,?_,?_,?_,rfl⟩
      · exact (Tr.rest_one t).symm
      · exact HV.out.frame _ w2 _ _ hi2 hb3.size fun b hb => hb3.block b (hinb b hb).1
      · intro b hb
        rcases hF2 b hb with hh | hh
        · exact .inl hh
        · exact .inr (by omega)
      · intro hh
        rcases hF2 _ hh with hh | hh
        · exact hnF hh
        · omega
      · intro q hq hh
        simp only [Value.ownBlock,Option.some.injEq] at hq
        have:=(hinb q hh).1
        omega
      · simp
      · intro x hx
        simp only [List.mem_singleton] at hx
        subst hx
        exact ⟨hnt,by show (0:Nat)≤65536;omega⟩
      · exact (hft.trans hfo2 (fun b hb => .inl hb)).trans (Foot.of_below (F:=F) hb3) (fun b hb => .inl hb)
      · rw [hb3.block _ (by omega),hfo2.block _ hws hnF]
        exact hbox
      · exact ownL_one _ (t,0) (by omega) rfl ⟨rfl,rfl⟩
  case pass =>
    rintro m a' w' ⟨S,D,d,u3,u5,u6,u7,u8,u9,u10,u11,u12,u13,u14,u15,u16,u17,u18,u19,u20,u21,u22,u23,u24,u25,u26,u27,u28,u29,u30,u31,u32,u33,u34,u35,u36,u37,u38,u39,u40,u41,u42,u43,u44,u45,u46,u47,u48,u49,u50,u51,u52,u53,u54,u55,rfl,hthr⟩
    cases S with
    | nil =>
      obtain ⟨us,F',h1,h2,h3,h4,h5,h6⟩:=hthr.us
      have HR:=Lib.hid (And.intro h1 (And.intro h2 (And.intro h3 hthr.foot)))
      clear h1 h2 h3 h4 h5 h6 hthr
      go_wp2_with fail
      simp only [Exit.jump]
      refine bodyPost_ret (results_none rfl _ _ _) rfl ?_
      obtain ⟨h1,h2,h3,h4⟩:=HR.out
      simp only [Tr.rest,List.append_nil] at h1
      exact ⟨rfl,F',by rw [h1];exact h2,h3,h4⟩
    | cons x S =>
      obtain ⟨t,n⟩:=x
      obtain ⟨q,off,hoff,hD,hbq,hqs,hcap,k0,k1,fz⟩:=Stk.top hthr.stk
      have HI:=Lib.hid H0.out.2.2.2.2.1
      subst hD
      have HOF:=Lib.hid hoff
      clear hoff
      have hnd:=hthr.nodes (t,n) List.mem_cons_self
      have hBw:B≤w'.heap.size:=Nat.le_trans HX.out.2.1 hthr.foot.size
      have hbe:Below B w w':=hthr.foot.below HX.out.2.1 (fun b hb => (HV.out.inb _ _ _ H0.out.2.2.2.2.1 b hb).2)
      have hT':Tz w':=HX.out.2.2.1 w' hbe
      have hn64:n≤65536:=hnd.2
      have hS:S.length≤1000000000:=by
        obtain ⟨us,F',h1,h2,h3,h4,h5,h6⟩:=hthr.us
        have h7:=congrArg List.length h1
        rw [List.length_append] at h7
        simp only [List.length_cons] at h6
        have h8:=HX.out.2.2.2.1
        have h9:=HX.out.2.2.2.2
        omega
      obtain ⟨kx,hkx⟩:∃ kx,t.ks[Sl.idx t.ks (n:Int)]? = kx:=⟨_,rfl⟩
      have HFr:Hid (∀ i,Calls Tryz.prog 149 #[.pointer (some ⟨t.blk,0,none⟩),.int .i64 (n:Int)] (w'.drewN i) fun e w'' => e = .returned (atKid (kidP kx).1 (kidP kx).2)∧∃ j,w'' = (w'.drewN i).drewN j):=Lib.hid fun i =>
        nFrom_c (w:=w'.drewN i) ((hnd.1.below hbe (Nat.le_refl _) (Nat.le_refl _)).below (below_drewN i (Below.refl w'.heap.size w')) (Nat.le_trans HX.out.2.1 hthr.foot.size) (Nat.le_refl _)).2 hT' (n:Int) (by omega) (by omega) _ (by rw [hkx])
      have e4:((S.length + 1:Nat):Int) - 1 = (S.length:Int):=by omega
      have m1:(0:Int)≤(S.length:Int):=by omega
      have m2:(S.length:Int) < ((S.length + 1:Nat):Int):=by omega
      have d1:decide ((S.length:Int) < 0) = false:=decide_eq_false (by omega)
      have HH:=Lib.hid (And.intro hthr (And.intro hkx (And.intro hbq (And.intro hqs (And.intro hcap (And.intro hn64 (And.intro hnd hBw)))))))
      clear hthr hkx hbq hqs hcap hnd hBw hbe hT' H0
      cases kx with
      | none =>
        have HFr:Hid (∀ i,Calls Tryz.prog 149 #[.pointer (some ⟨t.blk,0,none⟩),.int .i64 (n:Int)] (w'.drewN i) fun e w'' => e = .returned (atKid 0 none)∧∃ j,w'' = (w'.drewN i).drewN j):=HFr
        go_wp2_with fail
        go_quiet ((go_at_call 149;exact Calls.quiet_of (HFr.out _)))
        have HST:=Lib.hid (slice_top (w'.drewN nq) q off (S.length + 1) d S.length (by omega) HH.out.2.2.2.2.1)
        have hst:=HST.out
        go_wp2_with fail
        go_step3
        obtain ⟨m',hm',hp⟩:=HH.out.1.pop HV.out HH.out.2.1 nq
        exact ⟨rfl,m',hm',S,some ⟨q,off,none⟩,d,_,_,_,_,_,_,_,_,_,_,_,_,_,_,_,_,_,_,_,_,_,_,_,_,_,_,_,_,_,_,_,_,_,_,_,_,_,_,_,_,_,_,_,_,_,_,_,_,_,_,_,_,rfl,hp⟩
      | some y =>
        obtain ⟨a,s⟩:=y
        have HFr:Hid (∀ i,Calls Tryz.prog 149 #[.pointer (some ⟨t.blk,0,none⟩),.int .i64 (n:Int)] (w'.drewN i) fun e w'' => e = .returned (atKid a (some ⟨s.blk,0,none⟩))∧∃ j,w'' = (w'.drewN i).drewN j):=HFr
        go_wp2_with fail
        go_quiet ((go_at_call 149;exact Calls.quiet_of (HFr.out _)))
        obtain ⟨W,hW⟩:∃ W,W = w'.drewN nq:=⟨_,rfl⟩
        have hthr:=HH.out.1.drew HV.out nq
        have hqs:=HH.out.2.2.2.1
        have k1':W.cell? ⟨q,off + S.length * 2 + 1,none⟩ = some (.int .i64 (n:Int)):=by rw [hW];exact k1
        have fz':W.frozen? ⟨q,off + S.length * 2 + 1,none⟩ = false:=by rw [hW];exact fz
        rw [← hW] at hthr
        have hqs':q < W.heap.size:=by rw [hW];exact hqs
        rw [← hW]
        clear k0 k1 fz hW hqs
        obtain ⟨us,F',h1,h2,h3,h4,h5,h6⟩:=hthr.us
        have hnd:=HH.out.2.2.2.2.2.2.1
        have hmem:=List.mem_of_getElem? HH.out.2.1
        have hsn:Node w B k s:=by
          cases t with
          | ent => simp [T.ks] at hmem
          | br g' l pre ks => exact hnd.1.kid hmem
        have ha16:a < 65536:=by
          cases hnd.1.1 with
          | ent => simp [T.ks] at hmem
          | br _ _ _ _ _ hw => exact hw.lt16 _ hmem
        have hbe:Below B w W:=hthr.foot.below HX.out.2.1 (fun b hb => (HV.out.inb _ _ _ HI.out b hb).2)
        have hul:us.length < M:=by
          have h7:=congrArg List.length h1
          rw [Tr.rest_push (by cases hnd.1.1 with | ent => exact Sl.srt_nil | br _ _ _ _ _ hw => exact hw.srt) HH.out.2.1,List.length_append,List.length_cons] at h7
          have h8:=HX.out.2.2.2.1
          omega
        have HM:=Lib.hid (HV.out.call us W F' s h2 (hsn.below hbe (Nat.le_refl _) (Nat.le_refl _)) (Nat.le_trans HX.out.2.1 hthr.foot.size) hul)
        have q0:W.cell? ⟨w.heap.size,0,none⟩ = some (.func (.func fid) #[] #[.pointer (some ⟨g,0,none⟩)]):=by rw [cell_of_row W _ _ _ _ (0,0) hthr.box];rfl
        have hq5:¬ F' q:=h5 q rfl
        have HT:=Lib.hid (And.intro hthr (And.intro h1 (And.intro h3 (And.intro h4 (And.intro hq5 (And.intro h6 (And.intro hqs' (And.intro k1' (And.intro fz' hnd)))))))))
        clear hthr h1 h2 h3 h4 h5 h6 hnd hmem hsn hbe hul hq5 hqs' k1' fz'
        go_wp2_with fail
        refine HM.out.mono ?_
        rintro e w2 ⟨rfl,F2,hi2,hF2,hfo2⟩
        have hqb:w2.heap[q]? = W.heap[q]?:=hfo2.block q HT.out.2.2.2.2.2.2.1 HT.out.2.2.2.2.1
        have k1:w2.cell? ⟨q,off + S.length * 2 + 1,none⟩ = some (.int .i64 (n:Int)):=(World.cell?_of_block (a:=⟨q,off + S.length * 2 + 1,none⟩) hqb).trans HT.out.2.2.2.2.2.2.2.1
        have fz:w2.frozen? ⟨q,off + S.length * 2 + 1,none⟩ = false:=(World.frozen?_of_block (a:=⟨q,off + S.length * 2 + 1,none⟩) hqb).trans HT.out.2.2.2.2.2.2.2.2.1
        have H2:=Lib.hid (And.intro hi2 (And.intro hF2 (And.intro hfo2 hqb)))
        clear hi2 hF2 hfo2 hqb q0 HM
        obtain ⟨D0,hD0⟩:∃ D0:Value,D0 = .slice (some ⟨q,off,none⟩) (S.length + 1) d:=⟨_,rfl⟩
        have hset:=HT.out.1.stk.block (w':=w2) (fun q' hq' => by simp only [Value.ownBlock,Option.some.injEq] at hq';subst hq';exact H2.out.2.2.2)
        obtain ⟨g2,hg2,hset2⟩:=OwnL.set (i:=S.length) (j:=1) (x:=(t,a + 1)) (u:=.int .i64 ((a + 1:Nat):Int)) hset stQ_ok (by simp) (by omega) (by
          intro f y hy hf
          rw [List.reverse_cons,List.getElem?_append_right (by simp)] at hy
          simp at hy
          subst hy
          exact ⟨hf.1,rfl⟩)
        have hqg:q = g2:=by simp only [Option.some.injEq,Addr.mk.injEq] at hg2;exact hg2.1
        rw [← hqg] at hset2
        clear hg2 hqg
        rw [show S.length * 2 + 1 = off + S.length * 2 + 1 by have:=HOF.out;omega] at hset2
        have HS2:=Lib.hid hset2
        have HB1:=Lib.hid (show w.heap.size + 1≤w2.heap.size by have h1:=(Array.getElem?_eq_some_iff.1 HT.out.1.box).1;have h2:=H2.out.2.2.1.size;omega)
        clear hset hset2 hD0
        rw [show ((a + 1:Nat):Int) = (a:Int) + 1 by omega] at HS2
        go_upto_region 11 with fail
        obtain ⟨W3,hW3⟩:∃ W3,W3 = w2.setCell ⟨q,off + S.length * 2 + 1,none⟩ (.int .i64 ((a:Int) + 1)):=⟨_,rfl⟩
        have HSZ:Hid (W3.heap.size = w2.heap.size):=Lib.hid (by rw [hW3];simp)
        rw [← hW3] at HS2 ⊢
        have HW3:=Lib.hid hW3
        clear hW3 k1 fz
        go_wp2_with (at_builtin;refine wpList_append_list (Q:=StQ) 206 205 (.agg #[.pointer none,.int .i64 0]) 16 Tryz.underlying206 infoSt (by rfl) (by omega) (by omega) stQ_ok (by rfl) _ _ (by rfl) (w.heap.size + 1) (.slice (some ⟨q,off,none⟩) (S.length + 1) d) (((t,n) :: S).reverse.set S.length (t,a + 1)) [(s,0)] (S.length + 1 + 1) (by simp) (by rfl) (by exact HS2.out.below (below_alloc _ _) (Nat.le_refl _)) _ _ 1 1 (by rfl) (by rfl) (by exact lst_at stQ_ok #[.pointer (some ⟨s.blk,0,none⟩),.int .i64 0] (s,0) (by rfl) (by exact ⟨rfl,rfl⟩)) (by omega) (by have:=HB1.out;have:=HSZ.out;simp;omega) ?_;intro D5 d5 w5 hown5 hgrow5 hat5)
        go_step3
        obtain ⟨hthr,h1,h3,h4,hq5,h6,hqs',-,-,-⟩:=HT.out
        obtain ⟨hi2,hF2,hfo2,-⟩:=H2.out
        rw [HW3.out] at hgrow5
        have hat5':(Value.slice D5 (S.length + 1 + 1) d5).ownBlock = some q∨(Value.slice D5 (S.length + 1 + 1) d5).ownBlock = some (w2.heap.size + 1):=by
          rcases hat5 with e | e
          · exact .inl e
          · refine .inr (e.trans ?_)
            have:=HSZ.out
            simp [this]
        obtain ⟨m',hm',hp⟩:=Thr.push HV.out hthr h1 h3 h4 hq5 (by simpa using h6) HH.out.2.2.1 hqs' HH.out.2.1 hi2 hF2 hfo2 hown5 hgrow5 hat5'
        exact ⟨rfl,m',hm',(s,0) :: (t,a + 1) :: S,D5,d5,_,_,_,_,_,_,_,_,_,_,_,_,_,_,_,_,_,_,_,_,_,_,_,_,_,_,_,_,_,_,_,_,_,_,_,_,_,_,_,_,_,_,_,_,_,_,_,_,_,_,_,_,rfl,hp⟩
end Go.Proofs.YtkeepngaaleakaaGreatDoor
namespace Go.Proofs.YtkeepngaaleakaaGreatDoor.Tr
open Go.Proofs.YtkeepngaaleakaaGreatDoor.Z
open Go.Proofs.YtkeepngaaleakaaGreatDoor (levI)
/-! ### ahead of a gap,behind it -/
theorem ks_br {t:T} {x:Nat × T} (h:x∈t.ks):∃ g l pre ks,t = .br g l pre ks:=by
  cases t with
  | ent => simp [T.ks] at h
  | br g l pre ks => exact ⟨g,l,pre,ks,rfl⟩
theorem Wf.srt {k:Nat} {t:T} (h:Wf k t):Sl.Srt t.ks:=by
  cases h with
  | ent => exact Sl.srt_nil
  | br _ _ _ _ _ hw => exact hw.srt
/-! ### steps -/
/-! ### how much is left -/
def leftR:List (T × Nat)→Nat
  | [] => 0
  | (t,n) :: R => (allK (t.ks.drop (Sl.idx t.ks (n:Int) + 1))).length + leftR R
def mN:List (T × Nat)→Nat
  | [] => 0
  | (t,n) :: R => 2 * ((allK (t.ks.drop (Sl.idx t.ks (n:Int)))).length + leftR R) + (R.length + 1)
def leftB:List (T × Nat)→Nat
  | [] => 0
  | (t,n) :: R => (allK (t.ks.take (Sl.idx t.ks (n:Int)))).length + leftB R
def mB (S:List (T × Nat)):Nat:=2 * leftB S + S.length
/-! ### the way down to a point -/
def Stop (p:List Nat):Option T→Prop
  | none => True
  | some t => t.lv = 0∨covers t p = false
end Go.Proofs.YtkeepngaaleakaaGreatDoor.Tr
namespace Go.Proofs.YtkeepngaaleakaaGreatDoor
open Go.ChangeShapes Go.WideShapes Go.ChangeAt Go.RowKit
open Tr (T S4 Ent)
def Cf (g:Nat) (D:Option Addr):Nat→Prop:=fun b => b = g∨D.map (·.block) = some b
/-! ### last,up,step -/
def Fr (w0:Nat) (R:Option Addr) (g:Nat) (D:Option Addr):Nat→Prop:=fun b => R.map (·.block)≠some b∧¬ Cf g D b∧w0≤b
end Go.Proofs.YtkeepngaaleakaaGreatDoor
namespace Go.Proofs.YtkeepngaaleakaaGreatDoor
open Go.ChangeShapes
open Tr (T S4 Ent)
structure WFr where
  o:Option T
  a:Int
  p:Option Addr
  A:Option Addr
  m:Nat
  c:Nat
def WFr.own (x:WFr):Option Nat:=x.A.map (·.block)
/-! ### the stack in memory -/
end Go.Proofs.YtkeepngaaleakaaGreatDoor
namespace Go.Proofs.YtkeepngaaleakaaGreatDoor
open Go.ChangeShapes Go.WideShapes Go.ChangeAt Go.RowKit
open Tr (T S4 Ent)
def jumpsN (J:Nat→Act→World→Prop) (Q:Exit→Act→World→Prop):Exit→Act→World→Prop:=fun e a w => match e with
  | .goto l => J l a w
  | e => Q e a w
theorem wp_scope_labelsN {P:Program} {c:Code} {Q:Exit→Act→World→Prop} {a:Act} {w:World} (rest:Nat→Code) (J:Nat→Nat→Act→World→Prop) (hf:∀ l m a w,J l m a w→findLabel c l = some (rest l))
    (first:c.wp P (jumpsN (fun l a' w' => ∃ m,J l m a' w') Q) a w)
    (pass:∀ l m a w,J l m a w→(rest l).wp P (jumpsN (fun l' a' w' => ∃ m',m' < m∧J l' m' a' w') Q) a w):(Code.scope c).wp P Q a w:=by
  intro b k cs
  have key:∀ m l a w,J l m a w→∃ e a' w',Q e a' w'∧Arrives P (lone (b.at a (.code (rest l) :: .inScope c :: k)) cs w) b k cs e a' w':=by
    intro m
    induction m using Nat.strongRecOn with
    | _ m ih =>
      intro l a w hJ
      obtain ⟨e,a₁,w₁,hq,harr⟩:=pass l m a w hJ b (.inScope c :: k) cs
      cases e with
      | normal => exact ⟨.normal,a₁,w₁,hq,Steps.trans harr (.one step_inScope)⟩
      | exit id => exact ⟨.exit id,a₁,w₁,hq,fun k' hk => harr k' (by simp [exitTo,hk])⟩
      | goto l' =>
        obtain ⟨m',hlt,hJ'⟩:=hq
        have hg:gotoIn l' (.inScope c :: k) = some (.code (rest l') :: .inScope c :: k):=by simp [gotoIn,hf l' m' _ _ hJ']
        obtain ⟨e₂,a₂,w₂,hq₂,harr₂⟩:=ih m' hlt l' a₁ w₁ hJ'
        exact ⟨e₂,a₂,w₂,hq₂,.of_steps (harr _ hg) harr₂⟩
      | ret => exact ⟨_,a₁,w₁,hq,harr⟩
      | panic ch => exact ⟨_,a₁,w₁,hq,harr⟩
      | outgrown => exact ⟨_,a₁,w₁,hq,harr⟩
  obtain ⟨e,a₁,w₁,hq,harr⟩:=first b (.inScope c :: k) cs
  cases e with
  | normal => exact ⟨.normal,a₁,w₁,hq,.head step_scope (Steps.trans harr (.one step_inScope))⟩
  | exit id => exact ⟨.exit id,a₁,w₁,hq,fun k' hk => .head step_scope (harr k' (by simp [exitTo,hk]))⟩
  | goto l =>
    obtain ⟨m,hJ'⟩:=hq
    have hg:gotoIn l (.inScope c :: k) = some (.code (rest l) :: .inScope c :: k):=by simp [gotoIn,hf l m _ _ hJ']
    obtain ⟨e₂,a₂,w₂,hq₂,harr₂⟩:=key m l a₁ w₁ hJ'
    exact ⟨e₂,a₂,w₂,hq₂,.of_steps (.head step_scope (harr _ hg)) harr₂⟩
  | ret => exact ⟨_,a₁,w₁,hq,.of_steps (.one step_scope) harr⟩
  | panic ch => exact ⟨_,a₁,w₁,hq,.of_steps (.one step_scope) harr⟩
  | outgrown => exact ⟨_,a₁,w₁,hq,.of_steps (.one step_scope) harr⟩
theorem jumpsN_le {P:Program} {c:Code} {Q:Exit→Act→World→Prop} {a:Act} {w:World} {J:Nat→Nat→Act→World→Prop} {m n:Nat} (h:c.wp P (jumpsN (fun l' a' w' => ∃ m',m' < m∧J l' m' a' w') Q) a w) (hm:m≤n) :
    c.wp P (jumpsN (fun l' a' w' => ∃ m',m' < n∧J l' m' a' w') Q) a w:=Code.wp_mono (by
  intro e a' w' h'
  cases e <;> first | exact h' | (obtain ⟨m',h1,h2⟩:=h';exact ⟨m',Nat.lt_of_lt_of_le h1 hm,h2⟩)) h
theorem jumpsN_any {P:Program} {c:Code} {Q:Exit→Act→World→Prop} {a:Act} {w:World} {J:Nat→Nat→Act→World→Prop} {m:Nat} (h:c.wp P (jumpsN (fun l' a' w' => ∃ m',m' < m∧J l' m' a' w') Q) a w) :
    c.wp P (jumpsN (fun l' a' w' => ∃ m',J l' m' a' w') Q) a w:=Code.wp_mono (by
  intro e a' w' h'
  cases e <;> first | exact h' | (obtain ⟨m',h1,h2⟩:=h';exact ⟨m',h2⟩)) h
def J2N (J0 J1:Nat→Act→World→Prop):Nat→Nat→Act→World→Prop
  | 0 => J0
  | 1 => J1
  | _ => fun _ _ _ => False
theorem slotsN_list (l:List Value):l = (List.range l.length).map fun i => l.getD i undef:=by
  apply List.ext_getElem
  · simp
  · intro i h1 h2
    simp only [List.getElem_map,List.getElem_range]
    rw [List.getD_eq_getElem?_getD,List.getElem?_eq_getElem h1]
    rfl
theorem slotsN_some {a:Array Value} {i:Nat} {x:Value} (h:a[i]? = some x):a.toList.getD i undef = x:=by
  rw [List.getD_eq_getElem?_getD,Array.getElem?_toList,h]
  rfl
theorem slotsN_arr {a:Array Value} {n:Nat} (h:a.size = n):a = ((List.range n).map fun i => a.toList.getD i undef).toArray:=by
  subst h
  have:=slotsN_list a.toList
  rw [Array.length_toList] at this
  rw [← this]
section
variable {W W':World} {r:Nat} {U:List T}
theorem cell_far (hk:∀ b,b≠r→W'.heap[b]? = W.heap[b]?) {g i:Nat} (hg:g≠r) {v:Value} (h:W.cell? ⟨g,i,none⟩ = some v):W'.cell? ⟨g,i,none⟩ = some v :=
  (World.cell?_of_block (w:=W) (a:=⟨g,i,none⟩) (hk g hg)).trans h
end
end Go.Proofs.YtkeepngaaleakaaGreatDoor
namespace Go.Proofs.YtkeepngaaleakaaGreatDoor
open Tr (T S4 Ent)
namespace Tr
open Go.Proofs.YtkeepngaaleakaaGreatDoor.Z
def Bef (L M:List Ent):Prop:=∀ e∈L,∀ f∈M,key e.1 < key f.1
theorem Bef.zs {L M:List Ent} (h:Bef L M) (hL:ZS L) (hM:ZS M):ZS (L ++ M):=List.pairwise_append.2 ⟨hL,hM,h⟩
theorem cut_down {u v:List Nat} (hl:u.length = v.length) (hu:Ok u) (hv:Ok v) {l:Nat} (hc:cut u (l + 1) = cut v (l + 1)) (ha:addr u l = addr v l):cut u l = cut v l:=by
  refine points_eq (by simp [cut_length,hl]) (cut_ok hu l) (cut_ok hv l) fun m hm => ?_
  rw [cut_addr,cut_addr]
  split
  · rcases Nat.lt_or_ge l m with h | h
    · have c1:=cut_addr u (l + 1) m
      have c2:=cut_addr v (l + 1) m
      rw [if_pos (by omega)] at c1 c2
      rw [← c1,← c2,hc]
    · have:m = l:=by omega
      rw [this]
      exact ha
  · rfl
theorem low_of {k:Nat} {n:T} (h:Wf k n) {m:Nat} {c:List Nat} (hc:∀ e∈n.ents,cut e.1 m = c):n.lv≤m∧cut n.pre m = c:=by
  have hlv:n.lv≤m:=by
    have hw:=h
    cases h with
    | ent g p v => exact Nat.zero_le _
    | br g l pre ks h63 hsl h2 hl ho hk hcc =>
      show l + 1≤m
      refine Classical.byContradiction fun hn => ?_
      obtain ⟨x,hx⟩:=get_lt (us:=ks) (k:=0) (by omega)
      obtain ⟨y,hy⟩:=get_lt (us:=ks) (k:=1) (by omega)
      have hxm:=List.mem_of_getElem? hx
      have hym:=List.mem_of_getElem? hy
      have hlt:x.1 < y.1:=by
        have:=List.pairwise_iff_getElem.1 hsl.srt 0 1 (by omega) (by omega) (by omega)
        rw [(List.getElem?_eq_some_iff.1 hx).2,(List.getElem?_eq_some_iff.1 hy).2] at this
        exact this
      obtain ⟨e,he⟩:=List.exists_mem_of_ne_nil _ (hk x hxm).ne
      obtain ⟨f,hf⟩:=List.exists_mem_of_ne_nil _ (hk y hym).ne
      have a1:=kid_addr hw hxm he
      have b1:=kid_addr hw hym hf
      have c1:=cut_addr e.1 m l
      have c2:=cut_addr f.1 m l
      rw [if_pos (by omega)] at c1 c2
      rw [hc e (by rw [ents_br,mem_entsL];exact ⟨x,hxm,he⟩)] at c1
      rw [hc f (by rw [ents_br,mem_entsL];exact ⟨y,hym,hf⟩)] at c2
      omega
  obtain ⟨e,he⟩:=List.exists_mem_of_ne_nil _ h.ne
  exact ⟨hlv,by rw [← h.cut_at he hlv];exact hc e he⟩
/-! ### a node that fits below another one -/
section
variable {k g l:Nat} {pre:List Nat} {ks:List (Nat × T)}
end
section
variable {k g l:Nat} {pre:List Nat} {ks:List (Nat × T)}
end
/-! ### the kids of two nodes of one level and prefix -/
section
variable {k g l:Nat} {pre:List Nat} {ks:List (Nat × T)}
end
section
variable {k ga gb l g:Nat} {pre:List Nat} {ka kb ks:List (Nat × T)}
theorem kids_fit (h:Wf k (.br ga l pre ka)):(∀ x∈ka,Wf k x.2∧x.2.lv≤l∧cut x.2.pre (l + 1) = pre∧addr x.2.pre l = x.1)∧Sl.Srt ka:=by
  cases h with
  | br _ _ _ _ h63 hw h2 hl ho hk hc => exact ⟨fun x hx => ⟨hk x hx,hc x hx⟩,hw.srt⟩
end
end Tr
end Go.Proofs.YtkeepngaaleakaaGreatDoor
namespace Go.Proofs.YtkeepngaaleakaaGreatDoor
open Go.RowKit Go.Shelf
open Tr (T S4 Ent)
attribute [local go_sem] Oper.semAt_some
theorem prefix_at {w w2:World} {B k:Nat} {t:T} (h:Node w B k t) (hB:B≤w.heap.size) (h2:Below w.heap.size w w2) :
    Calls Tryz.prog 121 #[.pointer (some ⟨t.blk,0,none⟩)] w2 fun e w' => ∃ h d,e = .returned (.slice (some ⟨h,0,none⟩) t.pre.length d)∧Pts w' w'.heap.size (some ⟨h,0,none⟩) t.pre∧Below w2.heap.size w2 w':=by
  have hn:=h.below h2 hB (Nat.le_refl _)
  obtain ⟨kp,hnd⟩:=hn.2.nd
  have hlen:=h.1.len
  have k1:=h.1.k1
  have k16:=h.1.k16
  refine (nPrefix_c hnd (Nat.le_trans hB h2.size) (by intro e;rw [e] at hlen;simp at hlen;omega) (by omega)).mono ?_
  rintro e w' ⟨g,d,rfl,ho,hb⟩
  obtain ⟨A',c',hv,hp'⟩:=ho.pts
  simp only [Value.slice.injEq] at hv
  obtain ⟨rfl,-,rfl⟩:=hv
  exact ⟨g,d,rfl,hp',hb⟩
theorem level_at {w w2:World} {B k:Nat} {t:T} (h:Node w B k t) (hB:B≤w.heap.size) (h2:Below w.heap.size w w2) {lev:Int} (hl:levI t = lev) :
    Calls Tryz.prog 120 #[.pointer (some ⟨t.blk,0,none⟩)] w2 fun e w' => e = .returned (.int .i64 lev)∧w2 = w':=by
  have hn:=h.below h2 hB (Nat.le_refl _)
  obtain ⟨kp,hnd⟩:=hn.2.nd
  subst hl
  exact nLevel_c hnd
theorem part_at {w2:World} {k:Nat} {us vs:List Nat} {A A':Option Addr} {c c' B B':Nat} (hp:Pts w2 B A us) (hB:B≤w2.heap.size) (hq:Pts w2 B' A' vs) (hB':B'≤w2.heap.size) (hu:us.length = k) (hv:vs.length = k) (k1:1≤k) (k16:k≤16) {m:Int} (hm:Z.part us vs = m) :
    Calls Tryz.prog 152 #[.slice A us.length c,.slice A' vs.length c'] w2 fun e w' => e = .returned (.tuple #[.int .i64 m,.int .i64 0])∧w2 = w':=by
  subst hm
  exact part_yes A A' c c' us vs w2.heap.size w2 (hp.keep hB (fun _ _ => rfl)) (hq.keep hB' (fun _ _ => rfl)) (by omega) (by omega) (by omega)
theorem addr_at {w2:World} {k l:Nat} {us:List Nat} {A:Option Addr} {c B:Nat} (hp:Pts w2 B A us) (hB:B≤w2.heap.size) (hu:us.length = k) (k1:1≤k) (k16:k≤16) (hl:l≤63) {a:Nat} (ha:Z.addr us l = a) :
    Calls Tryz.prog 160 #[.slice A us.length c,.int .i64 (l:Int)] w2 fun e w' => e = .returned (.tuple #[.int .i64 (a:Int),.int .i64 0])∧w2 = w':=by
  subst ha
  exact addr_yes A c us l w2.heap.size w2 (hp.keep hB (fun _ _ => rfl)) (by omega) (by omega) hl
theorem levI_br (g l:Nat) (pre:List Nat) (ks:List (Nat × T)):levI (.br g l pre ks) = (l:Int):=by simp [levI,T.lv]
end Go.Proofs.YtkeepngaaleakaaGreatDoor
namespace Go.Proofs.YtkeepngaaleakaaGreatDoor
open Tr (T S4 Ent)
namespace Tr
open Go.Proofs.YtkeepngaaleakaaGreatDoor.Z
/-! ### changes -/
abbrev Chg:=List Nat × Option Nat × Option Nat
def ptsU (L M:List Ent):List Ent:=M.foldl (fun A e => putE e.1 0 A) L
theorem ptsU_nil (L:List Ent):ptsU L [] = L:=rfl
theorem ptsU_cons (L:List Ent) (e:Ent) (M:List Ent):ptsU L (e :: M) = ptsU (putE e.1 0 L) M:=rfl
theorem ptsU_snoc (L M:List Ent) (e:Ent):ptsU L (M ++ [e]) = putE e.1 0 (ptsU L M):=by simp [ptsU]
theorem ptsU_take {L M:List Ent} {j:Nat} {e:Ent} (h:M[j]? = some e):ptsU L (M.take (j + 1)) = putE e.1 0 (ptsU L (M.take j)):=by
  rw [List.take_add_one,h]
  exact ptsU_snoc L (M.take j) e
theorem ptsU_zs {k:Nat}:∀ {M L:List Ent},ZS L→Dim k L→Dim k M→ZS (ptsU L M)∧Dim k (ptsU L M)∧(ptsU L M).length≤L.length + M.length∧∀ p,(∃ v,(p,v)∈ptsU L M)↔(∃ v,(p,v)∈L)∨∃ v,(p,v)∈M
  | [],L,hz,hd,_ => ⟨hz,hd,Nat.le_refl _,fun p => by rw [ptsU_nil];simp⟩
  | e :: M,L,hz,hd,hm => by
    have he:=hm e List.mem_cons_self
    obtain ⟨h1,h2,h3,h4⟩:=ptsU_zs (hz.put e.1 0) (Dim.put hz hd he.1 he.2.1 (by omega)) (fun x hx => hm x (List.mem_cons_of_mem _ hx))
    rw [ptsU_cons]
    refine ⟨h1,h2,?_,fun p => ?_⟩
    · have:=length_putE hz e.1 0
      simp only [List.length_cons]
      omega
    · rw [h4 p]
      constructor
      · rintro (⟨v,hv⟩ | ⟨v,hv⟩)
        · rcases (mem_putE hz).1 hv with c | c
          · simp only [Prod.mk.injEq] at c
            exact .inr ⟨e.2,by rw [c.1];exact List.mem_cons_self⟩
          · exact .inl ⟨v,c.1⟩
        · exact .inr ⟨v,List.mem_cons_of_mem _ hv⟩
      · rintro (⟨v,hv⟩ | ⟨v,hv⟩)
        · by_cases c:key p = key e.1
          · have hp:p = e.1:=(key_inj (by rw [(hd _ hv).1,he.1]) (hd _ hv).2.1 he.2.1).1 c
            exact .inl ⟨0,(mem_putE hz).2 (.inl (by rw [hp]))⟩
          · exact .inl ⟨v,(mem_putE hz).2 (.inr ⟨hv,c⟩)⟩
        · rcases List.mem_cons.1 hv with c | c
          · exact .inl ⟨0,(mem_putE hz).2 (.inl (by rw [← c]))⟩
          · exact .inr ⟨v,c⟩
section
variable {k:Nat} {L M:List Ent}
end
/-! ### two rows of kids side by side -/
abbrev Pr:=Nat × Option T × Option T
def FitL (k l:Nat) (c0:List Nat) (xs:List (Nat × T)):Prop:=Sl.Srt xs∧∀ x∈xs,Wf k x.2∧x.2.lv≤l∧cut x.2.pre (l + 1) = c0∧addr x.2.pre l = x.1
theorem FitL.tail {k l:Nat} {c0:List Nat} {x:Nat × T} {xs:List (Nat × T)} (h:FitL k l c0 (x :: xs)):FitL k l c0 xs:=⟨h.1.tail,fun y hy => h.2 y (List.mem_cons_of_mem _ hy)⟩
theorem FitL.ent {k l:Nat} {c0:List Nat} {xs:List (Nat × T)} (h:FitL k l c0 xs) {x:Nat × T} (hx:x∈xs) {e:Ent} (he:e∈x.2.ents):addr e.1 l = x.1∧cut e.1 (l + 1) = c0∧e.1.length = k∧Ok e.1:=by
  obtain ⟨w,hl,hc,ha⟩:=h.2 x hx
  have hd:=w.each e he
  exact ⟨(w.addr_at he hl).trans ha,(w.cut_at he (by omega:x.2.lv≤l + 1)).trans hc,hd.1,hd.2.1⟩
theorem fit_bef {k l:Nat} (hl:l < 64) {c0:List Nat} {x y:Nat × T} {xs ys:List (Nat × T)} (hx:FitL k l c0 xs) (hy:FitL k l c0 ys) (mx:x∈xs) (my:y∈ys) (h:x.1 < y.1):Bef x.2.ents y.2.ents:=fun e he f hf => by
  obtain ⟨a1,a2,a3,a4⟩:=hx.ent mx he
  obtain ⟨b1,b2,b3,b4⟩:=hy.ent my hf
  refine key_addr (by rw [a3,b3]) hl (by rw [a1,b1];exact h) fun m hm => ?_
  have p1:=cut_addr e.1 (l + 1) m
  have p2:=cut_addr f.1 (l + 1) m
  rw [if_pos (by omega)] at p1 p2
  rw [← p1,← p2,a2,b2]
theorem fit_befL {k l:Nat} (hl:l < 64) {c0:List Nat} {x:Nat × T} {xs ys:List (Nat × T)} (hx:FitL k l c0 xs) (hy:FitL k l c0 ys) (mx:x∈xs) (h:∀ y∈ys,x.1 < y.1):Bef x.2.ents (entsL ys):=fun e he f hf => by
  obtain ⟨y,my,hf⟩:=mem_entsL.1 hf
  exact fit_bef hl hx hy mx my (h y my) e he f hf
theorem fit_zd {k l:Nat} (hl:l < 64) {c0:List Nat}:∀ {xs:List (Nat × T)},FitL k l c0 xs→ZS (entsL xs)∧Dim k (entsL xs)
  | [],_ => ⟨ZS.nil,fun e he => by cases he⟩
  | x :: xs,h => by
    obtain ⟨z,d⟩:=fit_zd hl h.tail
    obtain ⟨w,-⟩:=h.2 x List.mem_cons_self
    rw [entsL_cons]
    refine ⟨(fit_befL hl h h.tail List.mem_cons_self h.1.head).zs w.zs z,fun e he => (List.mem_append.1 he).elim (w.dim e) (d e)⟩
theorem dim_nil (k:Nat):Dim k []:=fun e he => by cases he
end Tr
namespace Tr
open Go.Proofs.YtkeepngaaleakaaGreatDoor.Z
/-! ### from an address on -/
def dropF (L:List (Nat × T)) (n:Nat):List (Nat × T):=L.drop (Sl.idx L (n:Int))
theorem dropF_zero (L:List (Nat × T)):dropF L 0 = L:=by
  unfold dropF
  rw [show ((0:Nat):Int) = 0 from rfl,Sl.idx_zero]
  rfl
theorem dropF_mem {L:List (Nat × T)} {n:Nat} {x:Nat × T} (h:x∈dropF L n):x∈L:=List.mem_of_mem_drop h
theorem dropF_head (L:List (Nat × T)) (n:Nat):L[Sl.idx L (n:Int)]? = (dropF L n).head?:=by unfold dropF;rw [List.head?_drop]
theorem dropF_at {L:List (Nat × T)} {n:Nat} {x:Nat × T} {xs:List (Nat × T)} (h:dropF L n = x :: xs):L[Sl.idx L (n:Int)]? = some x:=by rw [dropF_head,h];rfl
theorem dropF_ge {L:List (Nat × T)} {n:Nat} {x:Nat × T} {xs:List (Nat × T)} (h:dropF L n = x :: xs):n≤x.1:=by
  have:=Sl.idx_at L n x (dropF_at h)
  omega
theorem dropF_step {L:List (Nat × T)} (hs:Sl.Srt L) {n:Nat} {x:Nat × T} {xs:List (Nat × T)} (h:dropF L n = x :: xs):dropF L (x.1 + 1) = xs:=by
  have hx:=dropF_at h
  have e1:Sl.idx L (x.1:Int) = Sl.idx L (n:Int):=Sl.idx_of hs hx
  have e2:=Sl.idx_succ hs (x.1:Int)
  have e3:Sl.has L (x.1:Int) = true:=by
    unfold Sl.has
    rw [Sl.get_of_mem hs (List.mem_of_getElem? hx)]
    rfl
  rw [e3,if_pos rfl,e1] at e2
  unfold dropF at h ⊢
  rw [show ((x.1 + 1:Nat):Int) = (x.1:Int) + 1 by omega,e2,← List.drop_drop,h]
  rfl
theorem dropF_skip {L:List (Nat × T)} (_hs:Sl.Srt L) {n m:Nat} (hnm:n≤m) (h:∀ x xs,dropF L n = x :: xs→m≤x.1):dropF L m = dropF L n:=by
  unfold dropF
  congr 1
  refine Sl.idx_uniq L m _ (Sl.idx_le _ _) (fun j p hj hp => ?_) fun p hp => ?_
  · have:=Sl.idx_below L n j p hj hp
    omega
  · rw [dropF_head] at hp
    cases hd:dropF L n with
    | nil => rw [hd] at hp;cases hp
    | cons x xs =>
      have h1:=h x xs hd
      rw [hd] at hp
      have h2:x = p:=Option.some.inj hp
      rw [← h2]
      omega
/-! ### sides,frames -/
structure Sd where
  t:T
  kd:Bool
  a:Nat
def Sd.L (s:Sd):List (Nat × T):=match s.kd with
  | true => s.t.ks
  | false => [(s.a,s.t)]
structure Fr where
  x:Sd
  y:Sd
  n:Nat
def hdA (L:List (Nat × T)):Nat:=match L with
  | [] => 65536
  | x :: _ => x.1
def hdT (L:List (Nat × T)):Option T:=match L with
  | [] => none
  | x :: _ => some x.2
/-! ### how much there is to be done -/
def wgt (x y:Option T):Nat:=max 1 (2 * ((allO x).length + (allO y).length) - 1)
def wM (qs:List Pr):Nat:=(qs.map fun q => wgt q.2.1 q.2.2).sum
theorem all_pos (t:T):1≤t.all.length:=by rw [all_eq];simp
/-! ### a pair's frame -/
def lvl (x y:T):Int:=max (max (Z.part x.pre y.pre) ((x.lv:Int) - 1)) ((y.lv:Int) - 1)
def sdOf (t:T) (l:Nat):Sd:=⟨t,decide (t.lv = l + 1),addr t.pre l⟩
theorem sd_ents {k:Nat} {t:T} (l:Nat) (hl:t.lv≤l + 1) (h:Wf k t):FitL k l (cut t.pre (l + 1)) (sdOf t l).L∧entsL (sdOf t l).L = t.ents ∧
    ((t.lv = l + 1∧(allK (sdOf t l).L).length + 1 = t.all.length)∨(t.lv≤l∧(sdOf t l).L = [(addr t.pre l,t)])):=by
  by_cases c:t.lv = l + 1
  · cases t with
    | ent g p v => simp [T.lv] at c
    | br g l' pre ks =>
      have e:l' = l:=by simp only [T.lv] at c;omega
      subst e
      have hd:(sdOf (.br g l' pre ks) l').L = ks:=by simp [sdOf,Sd.L,T.lv,T.ks]
      rw [hd]
      obtain ⟨f1,f2⟩:=kids_fit h
      have hc:cut pre (l' + 1) = pre:=h.cut_pre
      refine ⟨⟨f2,fun x hx => ?_⟩,(ents_br g l' pre ks).symm,.inl ⟨rfl,by rw [all_br];simp⟩⟩
      obtain ⟨a1,a2,a3,a4⟩:=f1 x hx
      exact ⟨a1,a2,a3.trans hc.symm,a4⟩
  · have hlv:t.lv≤l:=by omega
    have hd:(sdOf t l).L = [(addr t.pre l,t)]:=by simp [sdOf,Sd.L,c]
    rw [hd]
    refine ⟨⟨List.pairwise_singleton _ _,fun x hx => ?_⟩,by rw [entsL_cons,entsL_nil,List.append_nil],.inr ⟨hlv,rfl⟩⟩
    rw [List.mem_singleton.1 hx]
    exact ⟨h,hlv,rfl,rfl⟩
/-! ### the stack -/
abbrev Fl:=Nat × Fr
def room:List Fl→Nat
  | [] => 64
  | f :: _ => f.1
theorem cut_top {p q:List Nat} (hl:p.length = q.length) (hp:Ok p) (hq:Ok q):cut p 64 = cut q 64:=(cut_eq_iff hl hp hq 64).2 (by have:=part_bd hl hp hq;omega)
end Tr
end Go.Proofs.YtkeepngaaleakaaGreatDoor
namespace Go.Proofs.YtkeepngaaleakaaGreatDoor
open Tr (T S4 Ent Chg)
namespace Tr
open Go.Proofs.YtkeepngaaleakaaGreatDoor.Z
/-! ### changes as they lie in memory -/
abbrev Raw:=List Nat × (Bool × Nat) × (Bool × Nat)
/-! ### lists that are right -/
/-! ### the change at a point -/
/-! ### done on entries -/
/-! ### two lists side by side -/
abbrev Pc:=Option Chg × Option Chg
/-! ### one after the other -/
/-! ### the document's way: all that was there -/
end Tr
end Go.Proofs.YtkeepngaaleakaaGreatDoor
namespace Go.Proofs.YtkeepngaaleakaaGreatDoor
open Go.ChangeShapes Go.WideShapes Go.ChangeAt Go.RowKit
open Tr (T S4 Ent Chg Raw)
/-! ### Fits -/
theorem get_lastE {k:Nat} {o:Option T} (hwf:∀ t,o = some t→Tr.Wf k t) {p:List Nat} (hp:p.length = k) (ho:Z.Ok p):entO (Tr.pathT o p).getLast? = ((Tr.getE (Tr.entsO o) p).getD 0,(Tr.getE (Tr.entsO o) p).isSome):=by
  rcases Tr.path_chain hp ho 65 o (fun t e => ⟨hwf t e,by have:=(hwf t e).lv64;omega⟩) with ⟨g,v0,L,h1,-,h3⟩ | ⟨h1,h2,h3⟩
  · rw [Tr.get_here hp ho hwf h3,show Tr.pathT o p = L ++ [.ent g p v0] from h1,List.getLast?_append]
    rfl
  · rw [Tr.get_none hp ho hwf h1 h2]
    rcases h3 with h3 | ⟨L,u,h3,h4⟩
    · rw [show Tr.pathT o p = [] from h3];rfl
    · rw [show Tr.pathT o p = L ++ [u] from h3,List.getLast?_append]
      cases u with
      | ent g q v => exact h4.elim
      | br g l pre ks => rfl
theorem tGetE_c {w:World} {B b k:Nat} {o:Option T} (h:TreeAt w B b k o) (hB:B≤w.heap.size) {p:List Nat} {A:Option Addr} {c m:Nat} (hp:Pts w B A p) (hl:p.length = k) (hm:p.length = m) {g:Option Nat} (hg:Tr.getE (Tr.entsO o) p = g) :
    Calls Tryz.prog 62 #[.pointer (some ⟨b,0,none⟩),.slice A m c] w fun e w' => e = .returned (.tuple #[.int .u64 ((g.getD 0:Nat):Int),.bool g.isSome,.int .i64 0])∧Below w.heap.size w w':=by
  subst hm hg
  exact tGet_c h hB hp hl _ _ (get_lastE (nodeO_wf h.2.2.2.2) hl hp.1)
end Go.Proofs.YtkeepngaaleakaaGreatDoor
