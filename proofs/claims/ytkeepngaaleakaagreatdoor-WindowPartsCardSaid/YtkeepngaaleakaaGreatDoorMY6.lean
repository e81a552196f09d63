import Derived.Test.YtkeepngaaleakaaGreatDoorMY5
import Derived.Test.YtkeepngaaleakaaGreatDoorM62
namespace Go.Proofs.YtkeepngaaleakaaGreatDoor
open Go.ChangeShapes Go.WideShapes Go.ChangeAt Go.RowKit
open Tr (T S4 Ent KL)
abbrev gdP (C:Option Addr) (m n:Nat) (C':Option Addr) (m' n':Nat) (fi fp:Nat):Array Value:=#[.slice C m n,.slice C' m' n',.func (.func fi) #[] #[],.func (.func fp) #[] #[]]
structure PartS (c:Bool) (fi fp B k:Nat) (lo hi:List Nat):Prop where
  enti:∀ args w,(callFunc fi args).run Tryz.prog w = .ok (.enter fi args) w
  entp:∀ args w,(callFunc fp args).run Tryz.prog w = .ok (.enter fp args) w
  whole:∀ w t,Node w B k t→B≤w.heap.size→Tr.whB lo hi t = true→Calls Tryz.prog fi #[.pointer (some ⟨t.blk,0,none⟩)] w fun e w' => ∃ n:Option T,e = .returned (.tuple #[.pointer (rootP n),.bool true])∧NodeO w' w'.heap.size k n∧Bec c lo hi (some t) n∧Below w.heap.size w w'
  part:∀ w o v L base,NodeO w B k o→B≤w.heap.size→RowZ 160 3 MtQ metZ w base v L→(∀ m∈L,MtOk w k m∧Bec c lo hi (some m.x) m.n)→L.map mtX = beyO lo hi o (-1)→whO lo hi o = false→(Tr.entsO o).length≤500000000→Calls Tryz.prog fp #[.pointer (rootP o),v] w (PartE c k lo hi o v w)
section
variable (B k:Nat) (c:Bool) (lo hi:List Nat) (gc:Array Value) (w:World) (o0:Option T)
structure DownP (o:Option T) (S:List PFr) (D:Option Addr) (d:Nat) (w':World) (m:Nat):Prop where
  thr:ThrP B k c lo hi gc w S D d w'
  nd:NodeO w B k o
  sz:(Tr.entsO o).length≤500000000
  lv:lvO o + (S.length + 1)≤65
  pend:PendL lo hi o0 o S
  cnt:m = 4 * (todoN o + todoW lo hi (S.map (·.f))) + 2 * S.length
structure NextP (S:List PFr) (D:Option Addr) (d:Nat) (w':World) (m:Nat):Prop where
  thr:ThrP B k c lo hi gc w S D d w'
  done:∃ x S',S = x :: S'∧DoneP lo hi x∧PendL lo hi o0 x.f.o S'
  cnt:m = 4 * todoW lo hi (S.map (·.f)) + 2 * S.length + 1
structure UpP (z:Option Addr) (S:List PFr) (D:Option Addr) (d:Nat) (w':World) (m:Nat):Prop where
  thr:ThrP B k c lo hi gc w S D d w'
  bec:∃ u n,PendL lo hi o0 u S∧z = rootP n∧NodeO w' w'.heap.size k n∧Bec c lo hi u n
  cnt:m = 4 * todoW lo hi (S.map (·.f)) + 2 * S.length + 2
end
theorem bey_few {lo hi:List Nat} {w:World} {B k:Nat} {o:Option T} (hN:NodeO w B k o):(beyO lo hi o (-1)).length≤65536:=by
  refine Nat.le_trans (List.length_filter_le _ _) ?_
  cases o with
  | none => exact Nat.zero_le _
  | some t =>
    cases t with
    | ent g p v => exact Nat.zero_le _
    | br g l pre ks =>
      have hw:Sl.Wf k ks:=by cases (hN _ rfl).1 with | br _ _ _ _ _ hw => exact hw
      exact hw.len16
theorem PendP.few {lo hi:List Nat} {w:World} {B k:Nat} {x:PFr} {u:Option T} (h:PendP lo hi u x) (hN:NodeO w B k x.f.o):x.L.length + 1≤65536:=by
  obtain ⟨i,t,-,-,-,h⟩:=h
  have h1:=bey_few (lo:=lo) (hi:=hi) hN
  rw [← h,List.length_append,List.length_map,List.length_cons] at h1
  omega
theorem PendP.kid {lo hi:List Nat} {w:World} {B k:Nat} {x:PFr} {u:Option T} (h:PendP lo hi u x) (hN:NodeO w B k x.f.o):∃ (i:Nat) (t:T),u = some t∧x.f.a = (i:Int)∧x.f.p = some ⟨t.blk,0,none⟩∧Node w B k t∧x.L.map mtX ++ (i,t) :: beyO lo hi x.f.o x.f.a = beyO lo hi x.f.o (-1):=by
  obtain ⟨i,t,h1,h2,h3,h4⟩:=h
  have hm:(i,t)∈beyO lo hi x.f.o (-1):=by rw [← h4];simp
  exact ⟨i,t,h1,h2,h3,(kid_o hN (mem_beyO hm).1).1,h4⟩
theorem metZ0:∀ (i:Nat) (c:Value),(Value.agg #[.int .i64 0,.pointer none,.pointer none]).cells[i]? = some c→metZ i c:=by
  intro i c h
  have hi:i < 3:=(Array.getElem?_eq_some_iff.1 h).1
  match i,hi with
  | 0,_ => have h':some (Value.int .i64 0) = some c:=h;cases h';exact ⟨0,rfl⟩
  | 1,_ => have h':some (Value.pointer none) = some c:=h;cases h';rfl
  | 2,_ => have h':some (Value.pointer none) = some c:=h;cases h';rfl
theorem stepZ0:∀ (i:Nat) (c:Value),(Value.agg #[.pointer none,.int .i64 0,.int .i64 0,.int .i64 0,.int .i64 0,.pointer none,.slice none 0 0]).cells[i]? = some c→NU c:=by
  intro i c h
  have hi:i < 7:=(Array.getElem?_eq_some_iff.1 h).1
  match i,hi with
  | 0,_ => have h':some (Value.pointer none) = some c:=h;cases h';exact nu_ptr _
  | 1,_ => have h':some (Value.int .i64 0) = some c:=h;cases h';exact nu_int _
  | 2,_ => have h':some (Value.int .i64 0) = some c:=h;cases h';exact nu_int _
  | 3,_ => have h':some (Value.int .i64 0) = some c:=h;cases h';exact nu_int _
  | 4,_ => have h':some (Value.int .i64 0) = some c:=h;cases h';exact nu_int _
  | 5,_ => have h':some (Value.pointer none) = some c:=h;cases h';exact nu_ptr _
  | 6,_ => have h':some (Value.slice none 0 0) = some c:=h;cases h';exact nu_slice _ _ _
theorem newsW_at (w:World) (us:List Value) (e:TypeId):∀ j u,us[j]? = some u→(w.alloc (.cells us.toArray e)).cell? ((⟨w.heap.size,0,none⟩:Addr).add j) = some u:=fun j u hj => by
  rw [Go.WideShapes.add_plain,Nat.zero_add,cell_of_row _ _ _ _ _ (0,0) (heap_at w _ _ rfl)]
  simpa using hj
theorem upP_next {B k:Nat} {c:Bool} {lo hi:List Nat} {gc:Array Value} {w:World} {o0:Option T} {S:List PFr} {d:Nat} {w1 w2:World} {mm:Nat} {o:Option T} {a:Int} {p A A2:Option Addr} {m cc c2 q:Nat} {L:List Mt} {y:Mt}
    (s:ThrP B k c lo hi gc w (⟨⟨o,a,p,A,m,cc⟩,L⟩ :: S) (some ⟨q,0,none⟩) d w1) (hcnt:mm = 4 * todoW lo hi ((⟨⟨o,a,p,A,m,cc⟩,L⟩ :: S).map (·.f)) + 2 * (S.length + 1) + 2) (hk:L.map mtX ++ (y.a,y.x) :: beyO lo hi o a = beyO lo hi o (-1)) (hp:PendL lo hi o0 o S) {ob:Obj} (hy:MtOk w1 k y) (hbc:Bec c lo hi (some y.x) y.n)
    (hown:RowZ 160 3 MtQ metZ w2 (w.heap.size + 1) (.slice A2 (m + 1) c2) (L ++ [y])) (hgr:(w1.alloc ob).grownBy w2 (Value.slice A m cc).ownBlock) (hat:(Value.slice A2 (m + 1) c2).ownBlock = (Value.slice A m cc).ownBlock∨(Value.slice A2 (m + 1) c2).ownBlock = some (w1.alloc ob).heap.size) :
    ∃ mm',mm' < mm∧NextP B k c lo hi gc w o0 (⟨⟨o,a,p,A2,m + 1,c2⟩,L ++ [y]⟩ :: S) (some ⟨q,0,none⟩) d (w2.setCell ⟨q,S.length * 7 + 6,none⟩ (.slice A2 (m + 1) c2)) mm':=by
  rw [own_P] at hgr
  rw [own_P,own_P] at hat
  have hsz:(w1.alloc ob).heap.size = w1.heap.size + 1:=by simp
  rw [hsz] at hat
  have ht:=s.app hy hbc hown hgr hat
  refine ⟨4 * todoW lo hi ((⟨⟨o,a,p,A2,m + 1,c2⟩,L ++ [y]⟩ :: S:List PFr).map (·.f)) + 2 * (S.length + 1) + 1,?_,ht,⟨_,S,rfl,?_,hp⟩,by simp⟩
  · rw [List.map_cons,todoW_cons] at hcnt ⊢
    have:todo lo hi ⟨o,a,p,A2,m + 1,c2⟩ = todo lo hi ⟨o,a,p,A,m,cc⟩:=rfl
    rw [this]
    have h2:(⟨⟨o,a,p,A,m,cc⟩,L⟩:PFr).f = (⟨o,a,p,A,m,cc⟩:WFr):=rfl
    rw [h2] at hcnt
    omega
  · show (L ++ [y]).map mtX ++ beyO lo hi o a = _
    rw [List.map_append,List.append_assoc]
    exact hk
theorem kid_ents {o:Option T} {x:Nat × T} (hx:x∈ksO o):(Tr.entsO (some x.2)).length≤(Tr.entsO o).length:=by
  cases o with
  | none => cases hx
  | some t =>
    cases t with
    | ent g p v => cases hx
    | br g l pre ks =>
      have h:∀ K:KL,x∈K→x.2.ents.length≤(Tr.entsL K).length:=by
        intro K
        induction K with
        | nil => intro h;cases h
        | cons y K ih =>
          intro h
          rw [Tr.entsL_cons,List.length_append]
          rcases List.mem_cons.1 h with rfl | h
          · omega
          · have:=ih h;omega
      show x.2.ents.length≤(T.br g l pre ks).ents.length
      rw [Tr.ents_br]
      exact h ks hx
theorem Foot.mono {F F':Nat→Prop} {w w':World} (h:Foot F w w') (hF:∀ b,F b→F' b):Foot F' w w':=⟨h.os,h.tape,h.output,h.size,fun b hb hn => h.block b hb fun e => hn (hF b e)⟩
set_option maxRecDepth 1000000 in
set_option maxHeartbeats 16000000 in
theorem wthroughP_c {c:Bool} {fi fp B k n n':Nat} {lo hi:List Nat} (hv:PartS c fi fp B k lo hi) {w:World} {o0:Option T} (hn:NodeO w B k o0) (hB:B≤w.heap.size) (hT:∀ w',Below B w w'→Tz w') {C C':Option Addr} (hX:BoxP w B k C lo C' hi) (hsz:(Tr.entsO o0).length≤500000000) (hlen:lvO o0≤64) :
    Calls Tryz.prog 108 #[(gdV C lo.length n C' hi.length n' (.func (.func fi) #[] #[]) (.func (.func fp) #[] #[])),.pointer (rootP o0)] w fun e w' => ∃ N:Option T,e = .returned (.pointer (rootP N))∧NodeO w' w'.heap.size k N∧Bec c lo hi o0 N∧Below w.heap.size w w':=by
  have henti:=hv.enti
  have hentp:=hv.entp
  have HV:=Lib.hid hv
  have hal:=below_alloc w (.cells (gdP C lo.length n C' hi.length n' fi fp) 85)
  have D0:DownP B k c lo hi (gdP C lo.length n C' hi.length n' fi fp) w o0 o0 [] none 0 (w.alloc (.cells (gdP C lo.length n C' hi.length n' fi fp) 85)) (4 * (todoN o0 + todoW lo hi []) + 2 * 0) :=
    ⟨⟨hal,heap_at w _ _ rfl,fun x hx => (by cases hx),rowZ_nil _ _ _,fun x hx => (by cases hx),fun x hx => (by cases hx),List.Pairwise.nil,fun x hx => (by cases hx),trivial⟩,hn,hsz,by simp;omega,rfl,rfl⟩
  have HX:=Lib.hid (And.intro hB (And.intro hT hX))
  have HD:=Lib.hid D0
  clear hv hn hB hT hX D0 hsz hlen hal
  go_enter Tryz.func108,Tryz.ntmps108
  go_wp2_with fail
  refine wp_scope_three (fun m a' w' => ∃ (o:Option T) (S:List PFr) (D:Option Addr) (d:Nat),Slo a' (gdV C lo.length n C' hi.length n' (.func (.func fi) #[] #[]) (.func (.func fp) #[] #[])) (.pointer (rootP o)) (.pointer (some ⟨w.heap.size,0,none⟩)) (.slice D S.length d)∧DownP B k c lo hi (gdP C lo.length n C' hi.length n' fi fp) w o0 o S D d w' m) (fun m a' w' => ∃ (z:Option Addr) (S:List PFr) (D:Option Addr) (d:Nat),Slo a' (gdV C lo.length n C' hi.length n' (.func (.func fi) #[] #[]) (.func (.func fp) #[] #[])) (.pointer z) (.pointer (some ⟨w.heap.size,0,none⟩)) (.slice D S.length d)∧UpP B k c lo hi (gdP C lo.length n C' hi.length n' fi fp) w o0 z S D d w' m) (fun m a' w' => ∃ (x:Value) (S:List PFr) (D:Option Addr) (d:Nat),Slo a' (gdV C lo.length n C' hi.length n' (.func (.func fi) #[] #[]) (.func (.func fp) #[] #[])) x (.pointer (some ⟨w.heap.size,0,none⟩)) (.slice D S.length d)∧NextP B k c lo hi (gdP C lo.length n C' hi.length n' fi fp) w o0 S D d w' m) rfl rfl rfl ?up ?next ?down ?first
  case first =>
    intro hp
    have HP:=Lib.hid hp
    clear hp
    go_wp2_with fail
    refine wp_label ?_
    simp only [Exit.then]
    rename_i hK
    apply hK
    exact HP.out _ _ _ ⟨o0,[],none,0,⟨rfl,rfl,rfl,rfl,rfl,rfl⟩,HD.out⟩
  case up =>
    intro m a' w' h
    obtain ⟨z,S,D,d,hs,hU⟩:=h
    obtain ⟨V,rfl⟩:=hs.lit
    clear hs
    cases S with
    | nil =>
      have HU:=Lib.hid hU
      clear hU
      simp only [List.length_nil]
      go_wp2_with fail
      simp only [jumpsTo]
      refine bodyPost_ret (v:=.pointer z) (by simp [results,Tryz.results108,go_sem]) rfl ?_
      obtain ⟨u,N,hu,rfl,h1,h2⟩:=HU.out.bec
      have hu':u = o0:=hu
      subst hu'
      exact ⟨N,rfl,h1,h2,HU.out.thr.bel⟩
    | cons x S =>
      obtain ⟨⟨o',a0,p0,A0,m0,c0⟩,L⟩:=x
      obtain ⟨q,cs,hD,hq1,hq2,hd,hcs,hfr⟩:=hU.thr.top
      subst hD
      have hlev:=hU.thr.lev.1
      have hfa:=hU.thr.fr _ List.mem_cons_self
      have hAq:A0.map (·.block)≠some q:=fun e => hU.thr.sep _ List.mem_cons_self q e rfl
      obtain ⟨f0,f1,f2,f3,f4,f5,f6⟩:=hfr
      obtain ⟨hL,hrow⟩:=hU.thr.rows _ List.mem_cons_self
      obtain ⟨u,N,⟨hpe,hpl⟩,hzN,hN1,hN2⟩:=hU.bec
      have hfew:=hpe.few hfa.1
      obtain ⟨i,t,hu,ha0,hp0,hkt,hkk⟩:=hpe.kid hfa.1
      simp only at hL hfew ha0 hp0 hkk
      subst hu ha0 hp0
      have hbw:=hU.thr.bel
      have hok:MtOk w' k ⟨i,t,N⟩:=⟨hkt.below hbw (HX.out.1) (Nat.le_trans HX.out.1 hbw.size),hN1,hN2.sub⟩
      have hcnt:=hU.cnt
      have HU:=Lib.hid (And.intro hU.thr (And.intro hcnt (And.intro hkk (And.intro hpl (And.intro hok hN2)))))
      have HR:=Lib.hid (And.intro hL (And.intro hrow (And.intro hAq (And.intro hq1 (And.intro hcs (And.intro hd f6))))))
      have k4:w'.cell? ⟨q,S.length * 7 + 4,none⟩ = some (.int .i64 (i:Int)):=wbox_cells hcs f4
      have k5:w'.cell? ⟨q,S.length * 7 + 5,none⟩ = some (.pointer (some ⟨t.blk,0,none⟩)):=wbox_cells hcs f5
      have k6:w'.cell? ⟨q,S.length * 7 + 6,none⟩ = some (.slice A0 m0 c0):=wbox_cells hcs f6
      have k4a:∀ ob,(w'.alloc ob).cell? ⟨q,S.length * 7 + 4,none⟩ = some (.int .i64 (i:Int)):=fun ob => ((below_alloc w' ob).cell (p:=⟨q,_,none⟩) hq2).trans k4
      have k5a:∀ ob,(w'.alloc ob).cell? ⟨q,S.length * 7 + 5,none⟩ = some (.pointer (some ⟨t.blk,0,none⟩)):=fun ob => ((below_alloc w' ob).cell (p:=⟨q,_,none⟩) hq2).trans k5
      have k6a:∀ ob,(w'.alloc ob).cell? ⟨q,S.length * 7 + 6,none⟩ = some (.slice A0 m0 c0):=fun ob => ((below_alloc w' ob).cell (p:=⟨q,_,none⟩) hq2).trans k6
      have hw0:w.heap.size + 1≤w'.heap.size:=HU.out.1.lt
      have HM:=Lib.hid (And.intro hfew hw0)
      have HZ:=Lib.hid hzN
      have hzz:(⟨i,t,N⟩:Mt).n = N:=rfl
      have e4:((S.length + 1:Nat):Int) - 1 = (S.length:Int):=by omega
      have m1:(0:Int)≤(S.length:Int):=by omega
      have m2:(S.length:Int) < ((S.length + 1:Nat):Int):=by omega
      have d0:(((S.length + 1:Nat):Int) == 0) = false:=by rw [beq_eq_false_iff_ne];omega
      have d1:decide ((S.length:Int) < 0) = false:=decide_eq_false (by omega)
      have hS:S.length≤64:=by rw [List.length_map] at hlev;omega
      clear hU hfa hlev hL hrow hAq f0 f1 f2 f3 f4 f5 f6 hq1 hcs hd hw0 hpe hpl hzN hN1 hN2 hfew hkt hkk hbw hok hcnt hzz
      simp only [List.length_cons]
      go_wp2_with fail
      go_region_law ((refine step_append_rowZ (Q:=MtQ) (Z:=metZ) 157 160 (.agg #[.int .i64 0,.pointer none,.pointer none]) 24 Tryz.underlying157 infoWMet (by rfl) (by omega) (by omega) mtQ_ok metZ0 (by rfl) _ _ (by rfl) (w.heap.size + 1) (.slice A0 m0 c0) L (m0 + 1) (by rw [HR.out.1]) (by rfl) (RowZ.below (C:=w'.heap.size) HR.out.2.1 (show Below w'.heap.size w' _ by ((repeat first | refine bD ?_ | with_reducible refine bN ?_ | refine bA ?_ | refine bS ?_);first | exact bR | assumption | exact bN bR | exact bN (bN bR))) (Nat.le_refl _)) (⟨i,t,N⟩:Mt) [.int .i64 (i:Int),.pointer (some ⟨t.blk,0,none⟩),.pointer z] (by rfl) (by exact ⟨rfl,rfl,by rw [HZ.out];rfl⟩) ⟨w'.heap.size,0,none⟩ 1 (by rfl) (by exact newsW_at _ _ _) (by have:=HM.out.1;omega) (by have:=HM.out.2;simp;omega) ?_;intro D5 d5 w5 hown5 hgrow5 hat5 hch5;have hgr5:(w'.alloc (.cells #[.int .i64 (i:Int),.pointer (some ⟨t.blk,0,none⟩),.pointer z] 160)).grownBy w5 (Value.slice A0 m0 c0).ownBlock:=⟨hgrow5.os,hgrow5.tape,hgrow5.output,hgrow5.size,hgrow5.block⟩;have hq5:=row_after HR.out.2.2.2.2.1 HR.out.2.2.1 hgr5;have c5:=wbox_cells hq5 HR.out.2.2.2.2.2.2;have z5:w5.frozen? ⟨q,S.length * 7 + 6,none⟩ = false:=frozen_of_row w5 q _ _ _ hq5;clear hgrow5 hq5 hch5))
      all_goals go_wp2_with fail
      all_goals go_step3
      all_goals (
        obtain ⟨m',hm',hN⟩:=upP_next (y:=⟨i,t,N⟩) HU.out.1 HU.out.2.1 HU.out.2.2.1 HU.out.2.2.2.1 HU.out.2.2.2.2.1 HU.out.2.2.2.2.2 hown5 hgr5 hat5
        exact ⟨m',hm',_,_,_,_,⟨rfl,rfl,rfl,rfl,rfl,rfl⟩,hN⟩)
  case next =>
    intro m hup a' w' h
    have HUp:=Lib.hid hup
    clear hup
    obtain ⟨x1,S,D,d,hs,hN⟩:=h
    obtain ⟨V,rfl⟩:=hs.lit
    clear hs
    obtain ⟨x,S,rfl,hdn,hpl⟩:=hN.done
    obtain ⟨⟨o',a0,p0,A0,m0,c0⟩,L⟩:=x
    obtain ⟨q,cs,hD,hq1,hq2,hd,hcs,hfr⟩:=hN.thr.top
    subst hD
    have hlev:=hN.thr.lev.1
    have hfa:=hN.thr.fr _ List.mem_cons_self
    have hbe:Below B w w':=hN.thr.bel.mono HX.out.1
    have hT':∀ w2,Below B w' w2→Tz w2:=fun w2 h2 => HX.out.2.1 w2 (hbe.trans h2)
    have hBq:B≤q:=by have:=HX.out.1;omega
    have HC:=Lib.hid (stepNext_o (hfa.1.below hbe (Nat.le_refl _) (Nat.le_refl _)) hT' hBq hcs hfr hfa.2.1.1 hfa.2.1.2)
    have HN:=Lib.hid hN
    simp only at hpl
    have HPd:=Lib.hid (And.intro (show L.map mtX ++ beyO lo hi o' a0 = beyO lo hi o' (-1) from hdn) hpl)
    have HF:=Lib.hid (And.intro hcs (And.intro hfr (And.intro hfa (And.intro hd hlev))))
    have e4:((S.length + 1:Nat):Int) - 1 = (S.length:Int):=by omega
    have m1:(0:Int)≤(S.length:Int):=by omega
    have m2:(S.length:Int) < ((S.length + 1:Nat):Int):=by omega
    have d1:decide ((S.length:Int) < 0) = false:=decide_eq_false (by omega)
    have hS:S.length≤64:=by rw [List.length_map] at hlev;omega
    clear hN hlev hfa hbe hT' hBq hcs hfr hd hq1 hdn hpl
    simp only [List.length_cons]
    go_wp2_with fail
    refine HC.out.mono ?_
    rintro e w2 ⟨a2,p2,ha1,ha2,rfl,hx,hq3,hf⟩
    clear HC
    cases hb:beyO lo hi o' a0 with
    | nil =>
      have hthr:=HN.out.thr.on HF.out.1 hq3 hf ha1 ha2
      have f0:(stepTo cs (S.length * 7) a2 p2)[S.length * 7 + 0]? = some (.pointer (rootP o')):=by rw [stepTo_other (by omega) (by omega)];exact HF.out.2.1.1
      have f6:(stepTo cs (S.length * 7) a2 p2)[S.length * 7 + 6]? = some (.slice A0 m0 c0):=by rw [stepTo_other (by omega) (by omega)];exact HF.out.2.1.2.2.2.2.2.2
      have k0:∀ w3:World,(w3.heap[q]? = w2.heap[q]?∧w3.heap[w.heap.size]? = w2.heap[w.heap.size]?)→w3.cell? ⟨q,S.length * 7,none⟩ = some (.pointer (rootP o')):=fun w3 h => wbox_cells (h.1.trans hq3) f0
      have k6:∀ w3:World,(w3.heap[q]? = w2.heap[q]?∧w3.heap[w.heap.size]? = w2.heap[w.heap.size]?)→w3.cell? ⟨q,S.length * 7 + 6,none⟩ = some (.slice A0 m0 c0):=fun w3 h => wbox_cells (h.1.trans hq3) f6
      have g2:∀ w3:World,(w3.heap[q]? = w2.heap[q]?∧w3.heap[w.heap.size]? = w2.heap[w.heap.size]?)→w3.cell? ⟨w.heap.size,3,none⟩ = some (.func (.func fp) #[] #[]):=fun w3 h => wbox_cells (h.2.trans hthr.box) rfl
      have hr2:=hthr.rows _ List.mem_cons_self
      have hm2:=hthr.mts _ List.mem_cons_self
      have hkids:L.map mtX = beyO lo hi o' (-1):=by have h:=HPd.out.1;rw [hb,List.append_nil] at h;exact h
      have hfa:=HF.out.2.2.1
      have hbw2:=hthr.bel
      have HPt0:Hid (∀ w3,Below w2.heap.size w2 w3→Calls Tryz.prog fp #[.pointer (rootP o'),.slice A0 m0 c0] w3 (PartE c k lo hi o' (.slice A0 m0 c0) w3)):=Lib.hid fun w3 h3 =>
        HV.out.part w3 o' (.slice A0 m0 c0) L (w.heap.size + 1) (hfa.1.below (Below.andThen hbw2 h3) HX.out.1 (Nat.le_refl _)) (Nat.le_trans HX.out.1 (Below.andThen hbw2 h3).size) (hr2.2.below h3 (Nat.le_refl _)) (fun mm hmm => ⟨(hm2 mm hmm).1.kp (Kp.of_below h3) h3.size,(hm2 mm hmm).2⟩) hkids hfa.2.2.1 hfa.2.2.2
      have hqlt:=hthr.Dlt q rfl
      have hAlt:=PFr.rowlt hr2.2
      have hAq:∀ b,(Value.slice A0 m0 c0).ownBlock = some b→b≠q∧b≠w.heap.size:=fun b hb => by
        rw [own_P] at hb
        exact ⟨fun e => hthr.sep _ List.mem_cons_self b hb (by rw [e];rfl),fun e => by have:=hAlt b hb;omega⟩
      have hpd:todo lo hi ⟨o',a0,p0,A0,m0,c0⟩ = 0:=(pend_done (x:=⟨o',a0,p0,A0,m0,c0⟩) hb).2
      have hsz2:=hthr.lt
      have HPt:Hid (∀ w3,Below w2.heap.size w2 w3→Calls Tryz.prog fp #[.pointer (rootP o'),.slice A0 m0 c0] w3 fun e w9 => ∃ N:Option T,e = .returned (.pointer (rootP N))∧NodeO w9 w9.heap.size k N∧Bec c lo hi o' N∧ThrP B k c lo hi (gdP C lo.length n C' hi.length n' fi fp) w S (some ⟨q,0,none⟩) d w9∧(w9.heap[q]? = w2.heap[q]?∧w9.heap[w.heap.size]? = w2.heap[w.heap.size]?)):=Lib.hid fun w3 h3 => by
        refine (HPt0.out w3 h3).mono ?_
        rintro e w9 ⟨N,rfl,hn9,hb9,hfo9,hk9⟩
        refine ⟨N,rfl,hn9,hb9,(hthr.below h3).part (x:=⟨⟨o',a2,p2,A0,m0,c0⟩,L⟩) (hfo9.mono fun b hb => by rw [own_P] at hb;exact hb) hk9,?_,?_⟩
        · exact (hfo9.block q (Nat.lt_of_lt_of_le hqlt.2 h3.size) fun e => (hAq q e).1 rfl).trans (h3.block q hqlt.2)
        · exact (hfo9.block w.heap.size (Nat.lt_of_lt_of_le hsz2 h3.size) fun e => (hAq _ e).2 rfl).trans (h3.block _ hsz2)
      have HT:=Lib.hid (And.intro hpd (And.intro hqlt.2 hsz2))
      have h22:=Below.refl w2.heap.size w2
      have hst:∀ W:World,(Instr.sliceAt 219 (.slice (some ⟨q,0,none⟩) (S.length + 1) d) none (some (.int .i64 (S.length:Int))) none).run Tryz.prog W = .ok (.slice (some ⟨q,0,none⟩) S.length d) W:=fun W => slice_topW W q 0 (S.length + 1) d S.length (by omega) HF.out.2.2.2.1
      clear hpd hthr f0 f6 hq3 hf hx hb hr2 hm2 hkids hfa hbw2 hqlt hAlt hAq hsz2 HPt0
      simp only [List.isEmpty_nil,Bool.not_true]
      go_wp2_with fail
      go_region_held3 (fun w3:World => w3.heap[q]? = w2.heap[q]?∧w3.heap[w.heap.size]? = w2.heap[w.heap.size]?) (first | exact hS9 | exact ⟨(show Below w2.heap.size w2 _ by ((repeat first | refine bD ?_ | with_reducible refine bN ?_ | refine bA ?_ | refine bS ?_);first | exact bR | assumption | exact bN bR | exact bN (bN bR))).block _ HT.out.2.1,(show Below w2.heap.size w2 _ by ((repeat first | refine bD ?_ | with_reducible refine bN ?_ | refine bA ?_ | refine bS ?_);first | exact bR | assumption | exact bN bR | exact bN (bN bR))).block _ HT.out.2.2⟩)
        ((go_at_fn fp;refine (HPt.out _ (show Below w2.heap.size w2 _ by ((repeat first | refine bD ?_ | with_reducible refine bN ?_ | refine bA ?_ | refine bS ?_);first | exact bR | assumption | exact bN bR | exact bN (bN bR)))).mono ?_;rintro e w9 ⟨N,rfl,hn9,hb9,ht9,hS9⟩;have H9:=Lib.hid (And.intro hn9 (And.intro hb9 ht9));clear hn9 hb9 ht9))
      all_goals (
        clear k0 k6 g2 hS9
        go_wp2_with fail
        refine wp_label ?_
        simp only [Exit.then]
        rename_i hK
        apply hK
        have hcnt:=HN.out.cnt
        rw [List.map_cons,todoW_cons,HT.out.1] at hcnt
        refine HUp.out (4 * todoW lo hi (S.map (·.f)) + 2 * S.length + 2) _ _ (by simp only [List.length_cons] at hcnt;omega) ⟨rootP N,S,some ⟨q,0,none⟩,d,⟨rfl,rfl,rfl,rfl,rfl,rfl⟩,H9.out.2.2,⟨o',N,HPd.out.2,rfl,H9.out.1,H9.out.2.1⟩,rfl⟩)
    | cons y r =>
      obtain ⟨e1,e2,e3,e5⟩:=hx y r hb
      have hmem:=mem_beyO (lo:=lo) (hi:=hi) (o:=o') (a:=a0) (x:=y) (by rw [hb];exact List.mem_cons_self)
      subst e1 e2
      have hps:=pend_step (p:=p0) (p':=some ⟨y.2.blk,0,none⟩) (A:=A0) (m:=m0) (c:=c0) hb e5
      have hthr:=HN.out.thr.on HF.out.1 hq3 hf ha1 ha2
      obtain ⟨hy1,hy2,hy3⟩:=kid_o HF.out.2.2.1.1 hmem.1
      have hysz:(Tr.entsO (some y.2)).length≤500000000:=Nat.le_trans (kid_ents hmem.1) HF.out.2.2.1.2.2.2
      have hpp:PendP lo hi (some y.2) ⟨⟨o',(y.1:Int),some ⟨y.2.blk,0,none⟩,A0,m0,c0⟩,L⟩:=by
        refine ⟨y.1,y.2,rfl,rfl,rfl,?_⟩
        have h:=HPd.out.1
        rw [hb] at h
        rw [← h,e5]
      have hD:DownP B k c lo hi (gdP C lo.length n C' hi.length n' fi fp) w o0 (some y.2) (⟨⟨o',(y.1:Int),some ⟨y.2.blk,0,none⟩,A0,m0,c0⟩,L⟩ :: S) (some ⟨q,0,none⟩) d w2 (m - 1):=by
        have hcnt:=HN.out.cnt
        have hlv:=HF.out.2.2.2.2
        simp only [List.length_map] at hlv
        refine ⟨hthr,NodeO.some hy1,hysz,?_,⟨hpp,HPd.out.2⟩,?_⟩
        · show y.2.lv + (S.length + 1 + 1)≤65
          omega
        · rw [List.map_cons,todoW_cons] at hcnt ⊢
          rw [hps.2] at hcnt
          show m - 1 = 4 * (todoO (some y.2) + _) + _
          simp only [List.length_cons] at hcnt ⊢
          omega
      have hm1:m - 1 < m:=by have hcnt:=HN.out.cnt;omega
      have f5:(stepTo cs (S.length * 7) (y.1:Int) (some ⟨y.2.blk,0,none⟩))[S.length * 7 + 5]? = some (.pointer (some ⟨y.2.blk,0,none⟩)):=by
        have h5:=(Array.getElem?_eq_some_iff.1 HF.out.2.1.2.2.2.2.2.1).1
        unfold stepTo
        rw [Array.getElem?_setIfInBounds_self_of_lt (by simpa using h5)]
      have k5:w2.cell? ⟨q,S.length * 7 + 5,none⟩ = some (.pointer (some ⟨y.2.blk,0,none⟩)):=wbox_cells hq3 f5
      have HD2:=Lib.hid (And.intro hm1 hD)
      clear hps hthr hy1 hy2 hy3 hysz hpp hD hm1 f5 hq3 hf hx hb hmem e3 e5
      simp only [List.isEmpty_cons,Bool.not_false]
      go_wp2_with fail
      go_step3
      exact ⟨_,HD2.out.1,some y.2,_,_,_,⟨rfl,rfl,rfl,rfl,rfl,rfl⟩,HD2.out.2⟩
  case down =>
    intro m hnext a' w' h
    have HNx:=Lib.hid hnext
    clear hnext
    obtain ⟨o',S,D,d,hs,hD⟩:=h
    obtain ⟨V,rfl⟩:=hs.lit
    clear hs
    have hbe:Below B w w':=hD.thr.bel.mono HX.out.1
    have hX':=HX.out.2.2.below hbe (Nat.le_refl _) (Nat.le_refl _)
    have hBw:B≤w'.heap.size:=Nat.le_trans HX.out.1 hD.thr.bel.size
    have hnd:=hD.nd.below hbe (Nat.le_refl _) (Nat.le_refl _)
    have g0:w'.cell? ⟨w.heap.size,0,none⟩ = some (.slice C lo.length n):=wbox_cells hD.thr.box rfl
    have g1:w'.cell? ⟨w.heap.size,1,none⟩ = some (.slice C' hi.length n'):=wbox_cells hD.thr.box rfl
    have g2:w'.cell? ⟨w.heap.size,2,none⟩ = some (.func (.func fi) #[] #[]):=wbox_cells hD.thr.box rfl
    have g3:w'.cell? ⟨w.heap.size,3,none⟩ = some (.func (.func fp) #[] #[]):=wbox_cells hD.thr.box rfl
    cases hwh:whO lo hi o' with
    | true =>
      obtain ⟨t,rfl⟩:∃ t,o' = some t:=by
        cases o' with
        | none => cases hwh
        | some t => exact ⟨t,rfl⟩
      have HL:=Lib.hid (look_yes n n' (.func (.func fi) #[] #[]) (.func (.func fp) #[] #[]) (hnd t rfl) hX' hBw hwh)
      have HD2:=Lib.hid (And.intro hD (And.intro hbe (And.intro hBw hwh)))
      clear hD hbe hX' hBw hnd hwh
      simp only [rootP]
      go_wp2_with fail
      refine HL.out.mono ?_
      rintro e w2 ⟨rfl,hb2⟩
      have HB2:=Lib.hid hb2
      clear HL hb2 g0 g1 g2 g3
      go_upto_region 5 with fail
      obtain ⟨W1,hW1⟩:∃ W1,W1 = w2.alloc (.cells #[.int .i64 0,.int .i64 0,.int .i64 0] 222):=⟨_,rfl⟩
      have hbw:Below w'.heap.size w' W1:=by rw [hW1];exact HB2.out.trans ((below_alloc w2 _).mono HB2.out.size)
      rw [← hW1]
      clear hW1
      have hthr:=HD2.out.1.thr.below hbw
      have g2:W1.cell? ⟨w.heap.size,2,none⟩ = some (.func (.func fi) #[] #[]):=wbox_cells hthr.box rfl
      have hbW:Below B w W1:=HD2.out.2.1.trans (hbw.mono HD2.out.2.2.1)
      have HC:=Lib.hid (HV.out.whole W1 t ((HD2.out.1.nd t rfl).below hbW (Nat.le_refl _) (Nat.le_refl _)) (Nat.le_trans HX.out.1 hthr.bel.size) HD2.out.2.2.2)
      have HT:=Lib.hid hthr
      clear hthr hbw hbW
      go_wp2_with fail
      go_at_fn fi
      refine HC.out.mono ?_
      rintro e w3 ⟨N,rfl,hn3,hb3,hw3⟩
      have HO:=Lib.hid (And.intro (HT.out.below hw3) (And.intro hn3 hb3))
      clear HC hn3 hb3 hw3 g2
      go_wp2_with fail
      go_step3
      have hcnt:=HD2.out.1.cnt
      have hpos:=todoN_pos (some t)
      exact ⟨4 * todoW lo hi (S.map (·.f)) + 2 * S.length + 2,by omega,rootP N,S,D,d,⟨rfl,rfl,rfl,rfl,rfl,rfl⟩,HO.out.1,⟨some t,N,HD2.out.1.pend,rfl,HO.out.2.1,HO.out.2.2⟩,rfl⟩
    | false =>
      have hl:=look_o_no n n' (.func (.func fi) #[] #[]) (.func (.func fp) #[] #[]) hnd hX' hBw hwh
      unfold leftO at hl
      obtain ⟨z1,hz1⟩:∃ z:Int,z = (mk1 o':Int):=⟨_,rfl⟩
      obtain ⟨z2,hz2⟩:∃ z:Int,z = (mk2 lo hi o':Int):=⟨_,rfl⟩
      obtain ⟨z3,hz3⟩:∃ z:Int,z = (mk3 lo hi o':Int):=⟨_,rfl⟩
      rw [← hz1,← hz2,← hz3] at hl
      have HZ:=Lib.hid (And.intro hz1 (And.intro hz2 hz3))
      have HL:=Lib.hid hl
      clear hl hz1 hz2 hz3
      have HD2:=Lib.hid (And.intro hD (And.intro hbe (And.intro hBw hwh)))
      clear hD hbe hX' hBw hnd hwh
      go_wp2_with fail
      refine HL.out.mono ?_
      rintro e w2 ⟨rfl,hb2⟩
      have HB2:=Lib.hid hb2
      clear HL hb2 g0 g1 g2 g3
      go_upto_region 9 with fail
      obtain ⟨W1,hW1⟩:∃ W1,W1 = w2.alloc (.cells #[.int .i64 z1,.int .i64 z2,.int .i64 z3] 222):=⟨_,rfl⟩
      have hbw:Below w'.heap.size w' W1:=by rw [hW1];exact HB2.out.trans ((below_alloc w2 _).mono HB2.out.size)
      have hmk:W1.heap[w2.heap.size]? = some (.cells #[.int .i64 z1,.int .i64 z2,.int .i64 z3] 222 (0,0)):=by rw [hW1];exact heap_at _ _ _ rfl
      have c0:W1.cell? ⟨w2.heap.size,0,none⟩ = some (.int .i64 z1):=wbox_cells hmk rfl
      have c1:W1.cell? ⟨w2.heap.size,1,none⟩ = some (.int .i64 z2):=wbox_cells hmk rfl
      have c2:W1.cell? ⟨w2.heap.size,2,none⟩ = some (.int .i64 z3):=wbox_cells hmk rfl
      rw [← hW1]
      have hsz1:=hbw.size
      have hthr:=HD2.out.1.thr.below hbw
      have hw0:w.heap.size + 1≤W1.heap.size:=hthr.lt
      have HT:=Lib.hid hthr
      have hl65:=HD2.out.1.lv
      clear hthr hmk hW1 HB2
      go_wp2_with (at_builtin;refine wpList_append_rowZ (Q:=FrQ lo hi) (Z:=fun _ c => NU c) 219 226 (.agg #[.pointer none,.int .i64 0,.int .i64 0,.int .i64 0,.int .i64 0,.pointer none,.slice none 0 0]) 72 Tryz.underlying219 infoWStep (by rfl) (by omega) (by omega) (frQ_ok lo hi) stepZ0 (by rfl) _ _ (by rfl) (w.heap.size + 1) (.slice D S.length d) (S.map (·.f)).reverse (S.length + 1) (by simp) (by rfl) (RowZ.below (C:=W1.heap.size) HT.out.stk (below_alloc _ _) (Nat.le_refl _)) (⟨o',-1,none,none,0,0⟩:WFr) [.pointer (rootP o'),.int .i64 z1,.int .i64 z2,.int .i64 z3,.int .i64 (-1),.pointer none,.slice none 0 0] (by rfl) (by exact ⟨rfl,by rw [HZ.out.1];rfl,by rw [HZ.out.2.1];rfl,by rw [HZ.out.2.2];rfl,rfl,rfl,rfl⟩) ⟨W1.heap.size,0,none⟩ 1 (by rfl) (by exact newsW_at _ _ _) (by simp;omega) (by simp;omega) ?_;intro D5 d5 w5 hown5 hgrow5 hat5 hch5;clear hch5)
      refine wp_label ?_
      simp only [Exit.then]
      rename_i hK
      apply hK
      rw [own_P] at hgrow5
      rw [own_P,own_P] at hat5
      have hs:(W1.alloc (.cells #[.pointer (rootP o'),.int .i64 z1,.int .i64 z2,.int .i64 z3,.int .i64 (-1),.pointer none,.slice none 0 0] 226)).heap.size = W1.heap.size + 1:=by simp
      rw [hs] at hat5
      have hp:=HT.out.push HD2.out.1.nd HD2.out.2.2.2 HD2.out.1.sz HD2.out.1.lv hown5 hgrow5 hat5
      have hcnt:=HD2.out.1.cnt
      have hpush:=todoN_push lo hi o' none none 0 0
      exact HNx.out (4 * todoW lo hi ((⟨⟨o',-1,none,none,0,0⟩,[]⟩ :: S:List PFr).map (·.f)) + 2 * (S.length + 1) + 1) _ _ (by rw [List.map_cons,todoW_cons];have h9:(⟨⟨o',-1,none,none,0,0⟩,[]⟩:PFr).f = (⟨o',-1,none,none,0,0⟩:WFr):=rfl;rw [h9];omega) ⟨_,_,D5,d5,⟨rfl,rfl,rfl,rfl,rfl,rfl⟩,hp,⟨_,S,rfl,rfl,HD2.out.1.pend⟩,by simp⟩
theorem wclear1_c (p:Option Addr) (w:World):Calls Tryz.prog 51 #[.pointer p] w fun e w' => e = .returned (.tuple #[.pointer none,.bool true])∧w = w':=by
  go_enter Tryz.func51,Tryz.ntmps51
  go_wp2_with fail
  go_ret2
  exact ⟨rfl,rfl⟩
theorem wkeep1_c (p:Option Addr) (w:World):Calls Tryz.prog 53 #[.pointer p] w fun e w' => e = .returned (.tuple #[.pointer p,.bool true])∧w = w':=by
  go_enter Tryz.func53,Tryz.ntmps53
  go_wp2_with fail
  go_ret2
  exact ⟨rfl,rfl⟩
theorem partS_clear (B k:Nat) (lo hi:List Nat):PartS true 51 52 B k lo hi where
  enti:=enters_of Tryz.func51 (by kernel_rfl) rfl
  entp:=enters_of Tryz.func52 (by kernel_rfl) rfl
  whole:=fun w t hn hB hw => by
    refine (wclear1_c _ w).mono ?_
    rintro e w' ⟨rfl,rfl⟩
    exact ⟨none,rfl,(fun _ e => by cases e),by simpa using bec_whole hn.1 hw true,Below.refl _ _⟩
  part:=fun w o v L base hN hB hrow hm hkids hwh hsz => wpart_clear hN hB hrow (fun m h => (hm m h).1) (fun m h => (hm m h).2) hkids hwh hsz
theorem partS_keep (B k:Nat) (lo hi:List Nat):PartS false 53 54 B k lo hi where
  enti:=enters_of Tryz.func53 (by kernel_rfl) rfl
  entp:=enters_of Tryz.func54 (by kernel_rfl) rfl
  whole:=fun w t hn hB hw => by
    refine (wkeep1_c _ w).mono ?_
    rintro e w' ⟨rfl,rfl⟩
    exact ⟨some t,rfl,NodeO.some (hn.below (Below.refl w.heap.size w) hB hB),by simpa using bec_whole hn.1 hw false,Below.refl _ _⟩
  part:=fun w o v L base hN hB hrow hm hkids hwh hsz => wpart_keep hN hB hrow (fun m h => (hm m h).1) (fun m h => (hm m h).2) hkids hwh hsz
def RestE (c:Bool) (lo hi:List Nat) (b k:Nat) (o:Option T) (w:World) (r:Nat) (N:Option T) (w':World):Prop :=
  TreeX w' r k N∧Tr.entsO N = (Tr.entsO o).filter (kpE c lo hi)∧(r = b↔Tr.entsO N = Tr.entsO o)∧(r≠b→w.heap.size≤r)∧Below w.heap.size w w'
set_option maxRecDepth 1000000 in
set_option maxHeartbeats 4000000 in
theorem wrest_c {c:Bool} {fi fp b k n n':Nat} {lo hi:List Nat} {w:World} {o:Option T} (hv:PartS c fi fp w.heap.size k lo hi) (ht:TreeX w b k o) (hT:∀ w',Below w.heap.size w w'→Tz w') {C C':Option Addr} (hX:BoxP w w.heap.size k C lo C' hi) (hsz:(Tr.entsO o).length≤500000000) :
    Calls Tryz.prog 50 #[.pointer (some ⟨b,0,none⟩),(gdV C lo.length n C' hi.length n' (.func (.func fi) #[] #[]) (.func (.func fp) #[] #[]))] w fun e w' => ∃ (r:Nat) (N:Option T),e = .returned (.tuple #[.pointer (some ⟨r,0,none⟩),.int .i64 0])∧RestE c lo hi b k o w r N w':=by
  have hn:=ht.1.2.2.2.2
  have hbw:=ht.1.1
  have hlv:=lvO_le hn
  have HRf:=Lib.hid (refd_ok ht.1.2.2.2.1 hbw C lo.length n C' hi.length n' (by rw [hX.el];exact hX.k1) (by rw [hX.el];exact hX.k16) (by rw [hX.el,hX.eh]) hX.el)
  obtain ⟨W,hW⟩:∃ W,W = w.alloc (.cells (gdP C lo.length n C' hi.length n' fi fp) 85):=⟨_,rfl⟩
  have hbW:Below w.heap.size w W:=by rw [hW];exact below_alloc _ _
  have hg:W.heap[w.heap.size]? = some (.cells (gdP C lo.length n C' hi.length n' fi fp) 85 (0,0)):=by rw [hW];exact heap_at w _ _ rfl
  have HR:Hid (∀ w1,Below w.heap.size w w1→Calls Tryz.prog 60 #[.pointer (some ⟨b,0,none⟩)] w1 fun e w' => e = .returned (.pointer (rootP o))∧w1 = w'):=Lib.hid fun w1 h1 => tRoot_c (ht.1.2.2.2.1.below h1 hbw)
  have HK:Hid (∀ w1,Below w.heap.size w w1→Calls Tryz.prog 57 #[.pointer (some ⟨b,0,none⟩)] w1 fun e w' => e = .returned (.int .i64 (k:Int))∧w1 = w'):=Lib.hid fun w1 h1 => tK_c (ht.1.2.2.2.1.below h1 hbw)
  have HV:Hid (∀ w1,Below w.heap.size w w1→Calls Tryz.prog 108 #[(gdV C lo.length n C' hi.length n' (.func (.func fi) #[] #[]) (.func (.func fp) #[] #[])),.pointer (rootP o)] w1 fun e w' => ∃ N:Option T,e = .returned (.pointer (rootP N))∧NodeO w' w'.heap.size k N∧Bec c lo hi o N∧Below w1.heap.size w1 w'):=Lib.hid fun w1 hd =>
    wthroughP_c hv (hn.below hd (Nat.le_refl _) (Nat.le_refl _)) hd.size (fun w9 h9 => hT w9 (hd.trans h9)) (hX.below hd (Nat.le_refl _) (Nat.le_refl _)) hsz hlv
  have HX:=Lib.hid (And.intro ht (And.intro hbw (And.intro hbW (And.intro hg hX))))
  have hb0:=Below.refl W.heap.size W
  have c0:W.cell? ⟨w.heap.size,0,none⟩ = some (.slice C lo.length n):=wbox_cells hg rfl
  have c1:W.cell? ⟨w.heap.size,1,none⟩ = some (.slice C' hi.length n'):=wbox_cells hg rfl
  clear hv ht hT hX hsz hn hlv hbw hbW hg
  go_enter Tryz.func50,Tryz.ntmps50
  go_upto_region 1 with fail
  rw [← hW]
  clear hW
  go_wp2_with (
    (go_at_call 107;refine (HRf.out _ HX.out.2.2.1).mono ?_;rintro e w1 ⟨rfl,hb1⟩;have hB1:=HX.out.2.2.1.trans (hb1.mono HX.out.2.2.1.size);have hg1:=(hb1.block w.heap.size (Array.getElem?_eq_some_iff.1 HX.out.2.2.2.1).1).trans HX.out.2.2.2.1)
    )
  clear HRf c0 c1 hb0
  have g0:w1.cell? ⟨w.heap.size,0,none⟩ = some (.slice C lo.length n):=wbox_cells hg1 rfl
  have g1:w1.cell? ⟨w.heap.size,1,none⟩ = some (.slice C' hi.length n'):=wbox_cells hg1 rfl
  have g2:w1.cell? ⟨w.heap.size,2,none⟩ = some (.func (.func fi) #[] #[]):=wbox_cells hg1 rfl
  have g3:w1.cell? ⟨w.heap.size,3,none⟩ = some (.func (.func fp) #[] #[]):=wbox_cells hg1 rfl
  have HB1:=Lib.hid hB1
  have hbb:=Below.refl w1.heap.size w1
  clear hg1 hB1 hb1
  go_region_with (first
    | (go_at_call 60;refine (HR.out _ (HB1.out.trans ((show Below w1.heap.size w1 _ by ((repeat first | refine bD ?_ | with_reducible refine bN ?_ | refine bA ?_ | refine bS ?_);first | exact bR | assumption | exact bN bR | exact bN (bN bR))).mono HB1.out.size))).mono ?_;rintro e w2 ⟨rfl,rfl⟩)
    | (go_at_call 108;refine (HV.out _ (HB1.out.trans ((show Below w1.heap.size w1 _ by ((repeat first | refine bD ?_ | with_reducible refine bN ?_ | refine bA ?_ | refine bS ?_);first | exact bR | assumption | exact bN bR | exact bN (bN bR))).mono HB1.out.size))).mono ?_;rintro e w3 ⟨N,rfl,hn3,hb3,hbl3⟩;have hB3:=HB1.out.trans (((show Below w1.heap.size w1 _ by ((repeat first | refine bD ?_ | with_reducible refine bN ?_ | refine bA ?_ | refine bS ?_);first | exact bR | assumption | exact bN bR | exact bN (bN bR))).trans (hbl3.mono (Below.size (show Below w1.heap.size w1 _ by ((repeat first | refine bD ?_ | with_reducible refine bN ?_ | refine bA ?_ | refine bS ?_);first | exact bR | assumption | exact bN bR | exact bN (bN bR)))))).mono HB1.out.size)))
  all_goals (
    have hno:NodeO w3 w3.heap.size k o:=HX.out.1.1.2.2.2.2.below hB3 (Nat.le_refl _) hB3.size
    have E:=nodeP_one hn3 hno
    obtain ⟨r,hr⟩:∃ r,decide (rootP N = rootP o) = r:=⟨_,rfl⟩
    rw [hr] at E
    have HOf:Hid (∀ w4,Below w3.heap.size w3 w4→Calls Tryz.prog 82 #[.int .i64 (k:Int),.pointer (rootP N)] w4 fun e w' => ∃ r,e = .returned (.tuple #[.pointer (some ⟨r,0,none⟩),.int .i64 0])∧w.heap.size≤r∧TreeX w' r k N∧Below w.heap.size w w'):=Lib.hid fun w4 h4 => by
      refine (tOf_c (hn3.below h4 (Nat.le_refl _) h4.size) (Nat.le_refl _) HX.out.1.1.2.1 HX.out.1.1.2.2.1).mono ?_
      rintro e w' ⟨rfl,ht',hb'⟩
      have hB4:=hB3.trans (h4.mono hB3.size)
      exact ⟨_,rfl,hB4.size,ht',hB4.trans (hb'.mono hB4.size)⟩
    have H3:=Lib.hid (And.intro hn3 (And.intro hb3 (And.intro hB3 (And.intro hno hr))))
    have hb0:=Below.refl w3.heap.size w3
    clear hn3 hb3 hbl3 hB3 hno hr hbb HV HB1 g0 g1 g2 g3
    obtain ⟨PN,hPN⟩:∃ P,rootP N = P:=⟨_,rfl⟩
    obtain ⟨PO,hPO⟩:∃ P,rootP o = P:=⟨_,rfl⟩
    rw [hPN] at HOf
    rw [hPN,hPO] at E
    rw [hPO] at HR
    simp only [hPN,hPO]
    have HP:=Lib.hid (And.intro hPN hPO)
    clear hPN hPO
    cases r with
    | true =>
      go_wp2_with (go_at_call 60;refine (HR.out _ H3.out.2.2.1).mono ?_;rintro e w4 ⟨rfl,rfl⟩)
      go_ret2
      have he:=nodeO_same H3.out.1 H3.out.2.2.2.1 (of_decide_eq_true H3.out.2.2.2.2)
      exact ⟨b,o,rfl,HX.out.1.below H3.out.2.2.1 (Nat.le_refl _),he.symm.trans H3.out.2.1.1,⟨fun _ => rfl,fun _ => rfl⟩,fun h => absurd rfl h,H3.out.2.2.1⟩
    | false =>
      go_wp2_with (first
        | (go_at_call 60;refine (HR.out _ H3.out.2.2.1).mono ?_;rintro e w4 ⟨rfl,rfl⟩)
        | (go_at_call 57;refine (HK.out _ H3.out.2.2.1).mono ?_;rintro e w4 ⟨rfl,rfl⟩)
        | (go_at_call 82;refine (HOf.out _ (show Below w3.heap.size w3 _ by ((repeat first | refine bD ?_ | with_reducible refine bN ?_ | refine bA ?_ | refine bS ?_);first | exact bR | assumption | exact bN bR | exact bN (bN bR)))).mono ?_;rintro e w5 ⟨r,rfl,hr5,ht5,hb5⟩))
      go_ret2
      have hne:r≠b:=by have:=HX.out.2.1;omega
      have hno:=of_decide_eq_false H3.out.2.2.2.2
      refine ⟨r,N,rfl,ht5,H3.out.2.1.1,⟨fun h => absurd h hne,fun h => absurd ?_ hno⟩,fun _ => hr5,hb5⟩
      have hall:∀ e∈Tr.entsO o,kpE c lo hi e = true:=by
        have h1:=H3.out.2.1.1
        rw [h] at h1
        exact List.filter_eq_self.1 h1.symm
      rw [H3.out.2.1.2 hall])
theorem RestE.on {c:Bool} {lo hi:List Nat} {b k:Nat} {o:Option T} {w w1:World} {r:Nat} {N:Option T} {w':World} (h:RestE c lo hi b k o w1 r N w') (hb:Below w.heap.size w w1):RestE c lo hi b k o w r N w' :=
  ⟨h.1,h.2.1,h.2.2.1,fun hr => Nat.le_trans hb.size (h.2.2.2.1 hr),hb.trans (h.2.2.2.2.mono hb.size)⟩
set_option maxRecDepth 1000000 in
set_option maxHeartbeats 4000000 in
theorem wclear_c {b k n n':Nat} {lo hi:List Nat} {w:World} {o:Option T} (ht:TreeX w b k o) (hT:∀ w',Below w.heap.size w w'→Tz w') {C C':Option Addr} (hX:BoxP w w.heap.size k C lo C' hi) (hsz:(Tr.entsO o).length≤500000000) :
    Calls Tryz.prog 17 #[.pointer (some ⟨b,0,none⟩),boxV C lo.length n C' hi.length n'] w fun e w' => ∃ (r:Nat) (N:Option T),e = .returned (.tuple #[.pointer (some ⟨r,0,none⟩),.int .i64 0])∧RestE true lo hi b k o w r N w':=by
  have HR:Hid (∀ w1,Below w.heap.size w w1→Calls Tryz.prog 50 #[.pointer (some ⟨b,0,none⟩),gdV C lo.length n C' hi.length n' (.func (.func 51) #[] #[]) (.func (.func 52) #[] #[])] w1 fun e w' => ∃ (r:Nat) (N:Option T),e = .returned (.tuple #[.pointer (some ⟨r,0,none⟩),.int .i64 0])∧RestE true lo hi b k o w r N w'):=Lib.hid fun w1 h1 => by
    refine (wrest_c (partS_clear w1.heap.size k lo hi) (ht.below h1 (Nat.le_refl _)) (fun w9 h9 => hT w9 (Below.andThen h1 h9)) (hX.below h1 (Nat.le_refl _) h1.size) hsz).mono ?_
    rintro e w' ⟨r,N,rfl,h⟩
    exact ⟨r,N,rfl,h.on h1⟩
  clear ht hT hX hsz
  go_enter Tryz.func17,Tryz.ntmps17
  go_wp2_with (go_at_call 50;refine (HR.out _ (by ((repeat first | refine bD ?_ | with_reducible refine bN ?_ | refine bA ?_ | refine bS ?_);first | exact bR | assumption | exact bN bR | exact bN (bN bR)))).mono ?_;rintro e w1 ⟨r,N,rfl,hr⟩)
  go_ret2
  exact ⟨r,N,rfl,hr⟩
set_option maxRecDepth 1000000 in
set_option maxHeartbeats 4000000 in
theorem wkeep_c {b k n n':Nat} {lo hi:List Nat} {w:World} {o:Option T} (ht:TreeX w b k o) (hT:∀ w',Below w.heap.size w w'→Tz w') {C C':Option Addr} (hX:BoxP w w.heap.size k C lo C' hi) (hsz:(Tr.entsO o).length≤500000000) :
    Calls Tryz.prog 18 #[.pointer (some ⟨b,0,none⟩),boxV C lo.length n C' hi.length n'] w fun e w' => ∃ (r:Nat) (N:Option T),e = .returned (.tuple #[.pointer (some ⟨r,0,none⟩),.int .i64 0])∧RestE false lo hi b k o w r N w':=by
  have HR:Hid (∀ w1,Below w.heap.size w w1→Calls Tryz.prog 50 #[.pointer (some ⟨b,0,none⟩),gdV C lo.length n C' hi.length n' (.func (.func 53) #[] #[]) (.func (.func 54) #[] #[])] w1 fun e w' => ∃ (r:Nat) (N:Option T),e = .returned (.tuple #[.pointer (some ⟨r,0,none⟩),.int .i64 0])∧RestE false lo hi b k o w r N w'):=Lib.hid fun w1 h1 => by
    refine (wrest_c (partS_keep w1.heap.size k lo hi) (ht.below h1 (Nat.le_refl _)) (fun w9 h9 => hT w9 (Below.andThen h1 h9)) (hX.below h1 (Nat.le_refl _) h1.size) hsz).mono ?_
    rintro e w' ⟨r,N,rfl,h⟩
    exact ⟨r,N,rfl,h.on h1⟩
  clear ht hT hX hsz
  go_enter Tryz.func18,Tryz.ntmps18
  go_wp2_with (go_at_call 50;refine (HR.out _ (by ((repeat first | refine bD ?_ | with_reducible refine bN ?_ | refine bA ?_ | refine bS ?_);first | exact bR | assumption | exact bN bR | exact bN (bN bR)))).mono ?_;rintro e w1 ⟨r,N,rfl,hr⟩)
  go_ret2
  exact ⟨r,N,rfl,hr⟩
end Go.Proofs.YtkeepngaaleakaaGreatDoor
