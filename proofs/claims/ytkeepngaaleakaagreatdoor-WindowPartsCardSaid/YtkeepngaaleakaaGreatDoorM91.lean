import Derived.Test.YtkeepngaaleakaaGreatDoorM71
import Derived.Test.YtkeepngaaleakaaGreatDoorM55
import Derived.Test.YtkeepngaaleakaaGreatDoorM30
import Derived.Test.YtkeepngaaleakaaGreatDoorM26
namespace Go.Proofs.YtkeepngaaleakaaGreatDoor
open Go.ChangeShapes Go.WideShapes Go.ChangeAt Go.RowKit
open Tr (T S4 Ent)
theorem srt_ext {V:Type}:∀ {L M:List (Nat × V)},Sl.Srt L→Sl.Srt M→(∀ e,e∈L↔e∈M)→L = M
  | [],[],_,_,_ => rfl
  | [],b :: M,_,_,h => by have:=(h b).2 List.mem_cons_self;cases this
  | a :: L,[],_,_,h => by have:=(h a).1 List.mem_cons_self;cases this
  | a :: L,b :: M,hL,hM,h => by
    obtain ⟨l1,l2⟩:=List.pairwise_cons.1 hL
    obtain ⟨m1,m2⟩:=List.pairwise_cons.1 hM
    have hab:a = b:=by
      rcases List.mem_cons.1 ((h a).1 List.mem_cons_self) with e | e
      · exact e
      · rcases List.mem_cons.1 ((h b).2 List.mem_cons_self) with f | f
        · exact f.symm
        · have:=l1 b f;have:=m1 a e;omega
    subst hab
    congr 1
    refine srt_ext l2 m2 fun e => ⟨fun he => ?_,fun he => ?_⟩
    · rcases List.mem_cons.1 ((h e).1 (List.mem_cons_of_mem _ he)) with f | f
      · rw [f] at he;have:=l1 a he;omega
      · exact f
    · rcases List.mem_cons.1 ((h e).2 (List.mem_cons_of_mem _ he)) with f | f
      · rw [f] at he;have:=m1 a he;omega
      · exact f
theorem rdV_same {w:World} {B B':Nat} {A:Option Addr} {xs ys:List Value} (h:RdV w B A xs) (h':RdV w B' A ys) {i:Nat} {x y:Value} (hx:xs[i]? = some x) (hy:ys[i]? = some y):x = y:=by
  obtain ⟨b,off,hA,-,hc⟩:=h.at hx
  obtain ⟨b',off',hA',-,hc'⟩:=h'.at hy
  rw [hA] at hA'
  simp only [Option.some.injEq,Addr.mk.injEq,and_true] at hA'
  obtain ⟨rfl,rfl⟩:=hA'
  rw [hc] at hc'
  exact Option.some.inj hc'
theorem pts_same {w:World} {B B':Nat} {A:Option Addr} {us vs:List Nat} (h:Pts w B A us) (h':Pts w B' A vs) (hl:us.length = vs.length):us = vs:=by
  refine List.ext_getElem? fun i => ?_
  rcases Nat.lt_or_ge i us.length with hi | hi
  · obtain ⟨x,hx⟩:=get_lt hi
    obtain ⟨y,hy⟩:=get_lt (us:=vs) (k:=i) (by omega)
    have:=rdV_same (pts_rdV h) (pts_rdV h') (vals_get hx) (vals_get hy)
    simp only [Value.int.injEq,true_and] at this
    rw [hx,hy]
    congr 1
    omega
  · rw [List.getElem?_eq_none hi,List.getElem?_eq_none (by omega)]
theorem at_uniq {w:World} {B B' b k:Nat} {L M:Sn.Al} (h:Sn.At w B b k L) (h':Sn.At w B' b k M):L = M:=by
  obtain ⟨wL,hL⟩:=h
  obtain ⟨wM,hM⟩:=h'
  generalize Sl.dense k L = d at hL
  generalize Sl.dense k M = d' at hM
  cases d <;> cases d'
  · obtain ⟨-,A,c,D,c',-,-,k2,k3,-,-,r1,r2⟩:=hL
    obtain ⟨-,A',e,D',e',-,-,k2',k3',-,-,r1',r2'⟩:=hM
    rw [k2] at k2'
    rw [k3] at k3'
    simp only [Option.some.injEq,Value.slice.injEq] at k2' k3'
    obtain ⟨rfl,hl,-⟩:=k2'
    obtain ⟨rfl,-,-⟩:=k3'
    refine List.ext_getElem? fun i => ?_
    rcases Nat.lt_or_ge i L.length with hi | hi
    · obtain ⟨x,hx⟩:=get_lt hi
      obtain ⟨y,hy⟩:=get_lt (us:=M) (k:=i) (by omega)
      have e1:=rdV_same r1 r1' (Sn.u16V_get (Sl.keys_get hx)) (Sn.u16V_get (Sl.keys_get hy))
      have e2:=rdV_same r2.rd r2'.rd (Sn.elV_get (Sl.things_get hx)) (Sn.elV_get (Sl.things_get hy))
      simp only [Value.int.injEq,true_and] at e1
      simp only [Value.pointer.injEq] at e2
      rw [hx,hy]
      congr 1
      exact Prod.ext (by omega) e2
    · rw [List.getElem?_eq_none hi,List.getElem?_eq_none (by omega)]
  · obtain ⟨-,A,c,D,c',-,k1,-⟩:=hL
    obtain ⟨-,-,hne,P,D',e',-,k1',-⟩:=hM
    rw [k1] at k1'
    simp only [Option.some.injEq,Value.int.injEq,true_and] at k1'
    exact absurd (by omega) (Sl.mask_pos hne)
  · obtain ⟨-,-,hne,P,D',e',-,k1',-⟩:=hL
    obtain ⟨-,A,c,D,c',-,k1,-⟩:=hM
    rw [k1] at k1'
    simp only [Option.some.injEq,Value.int.injEq,true_and] at k1'
    exact absurd (by omega) (Sl.mask_pos hne)
  · obtain ⟨-,-,-,P,D,c,-,k1,-,k3,-,-,r⟩:=hL
    obtain ⟨-,-,-,P',D',c',-,k1',-,k3',-,-,r'⟩:=hM
    rw [k1] at k1'
    rw [k3] at k3'
    simp only [Option.some.injEq,Value.int.injEq,true_and] at k1'
    simp only [Option.some.injEq,Value.slice.injEq,true_and] at k3'
    obtain ⟨rfl,-⟩:=k3'
    have hm:Sl.mask L = Sl.mask M:=by omega
    have hg:∀ a:Nat,a < 2 ^ k→Sl.get L (a:Int) = Sl.get M (a:Int):=fun a ha => by
      have h1:=Sl.mask_testBit L a
      have h2:=Sl.mask_testBit M a
      rw [hm,h2] at h1
      have h3:=rdV_same r.rd r'.rd (Sn.elV_get (Sl.row_get none L ha)) (Sn.elV_get (Sl.row_get none M ha))
      simp only [Value.pointer.injEq] at h3
      unfold Sl.has at h1
      cases e1:Sl.get L (a:Int) with
      | none =>
        rw [e1] at h1
        cases e2:Sl.get M (a:Int) with
        | none => rfl
        | some v => rw [e2] at h1;cases h1
      | some u =>
        rw [e1] at h1 h3
        cases e2:Sl.get M (a:Int) with
        | none => rw [e2] at h1;cases h1
        | some v =>
          rw [e2] at h3
          have h4:u = v:=h3
          rw [h4]
    refine srt_ext wL.srt wM.srt fun e => ⟨fun he => ?_,fun he => ?_⟩
    · have h1:=Sl.get_of_mem wL.srt he
      rw [hg e.1 (wL.lt e he)] at h1
      exact (Sl.get_iff wM.srt).1 h1
    · have h1:=Sl.get_of_mem wM.srt he
      rw [← hg e.1 (wM.lt e he)] at h1
      exact (Sl.get_iff wL.srt).1 h1
theorem ndAt_uniq {w:World} {B B' g:Nat} {lev lev':Int} {pre pre':List Nat} {v v':Nat} {kp kp':Option Addr} {s s':S4} (h:NdAt w B g lev pre v kp s) (h':NdAt w B' g lev' pre' v' kp' s'):lev = lev'∧pre = pre'∧v = v'∧kp = kp':=by
  obtain ⟨-,⟨A,c,hp,h1⟩,h0,h2,h3,-⟩:=h
  obtain ⟨-,⟨A',c',hp',h1'⟩,h0',h2',h3',-⟩:=h'
  rw [h0] at h0'
  rw [h1] at h1'
  rw [h2] at h2'
  rw [h3] at h3'
  simp only [Option.some.injEq,Value.int.injEq,true_and] at h0' h2'
  simp only [Option.some.injEq,Value.slice.injEq] at h1'
  simp only [Option.some.injEq,Value.pointer.injEq] at h3'
  obtain ⟨rfl,hl,-⟩:=h1'
  exact ⟨h0',pts_same hp hp' hl,by omega,h3'⟩
theorem entsL_same {P:T→Prop}:∀ {ks ls:List (Nat × T)},kidL ks = kidL ls→(∀ x∈ks,∀ y,P y→x.2.blk = y.blk→x.2.ents = y.ents)→(∀ y∈ls,P y.2)→Tr.entsL ks = Tr.entsL ls
  | [],[],_,_,_ => rfl
  | [],y :: ls,h,_,_ => by simp [kidL] at h
  | x :: ks,[],h,_,_ => by simp [kidL] at h
  | x :: ks,y :: ls,h,h1,h2 => by
    simp only [kidL,List.map_cons,List.cons.injEq,Prod.mk.injEq,Option.some.injEq,Addr.mk.injEq,and_true] at h
    rw [Tr.entsL_cons,Tr.entsL_cons,h1 x List.mem_cons_self y.2 (h2 y List.mem_cons_self) h.1.2,entsL_same (P:=P) h.2 (fun z hz => h1 z (List.mem_cons_of_mem _ hz)) (fun z hz => h2 z (List.mem_cons_of_mem _ hz))]
theorem mem_uniq {w:World} {B B' k:Nat} {x:T} (h:Mem w B k x):∀ {y:T},Mem w B' k y→x.blk = y.blk→x.ents = y.ents:=by
  induction h with
  | ent g p v h hwb =>
    intro y hy e
    cases hy with
    | ent g' p' v' h' _ =>
      have e:g = g':=e
      subst e
      obtain ⟨-,rfl,rfl,-⟩:=ndAt_uniq h h'
      exact (Tr.ents_ent _ _ _).trans (Tr.ents_ent _ _ _).symm
    | br g' l pre ks b h' ha hk _ =>
      have e:g = g':=e
      subst e
      obtain ⟨h1,-⟩:=ndAt_uniq h h'
      omega
  | br g l pre ks b h ha hk hwb ih =>
    intro y hy e
    cases hy with
    | ent g' p' v' h' _ =>
      have e:g = g':=e
      subst e
      obtain ⟨h1,-⟩:=ndAt_uniq h h'
      omega
    | br g' l' pre' ks' b' h' ha' hk' _ =>
      have e:g = g':=e
      subst e
      obtain ⟨-,-,-,h4⟩:=ndAt_uniq h h'
      simp only [Option.some.injEq,Addr.mk.injEq,and_true] at h4
      subst h4
      have h5:=at_uniq ha ha'
      rw [Tr.ents_br,Tr.ents_br]
      exact entsL_same (P:=Mem w B' k) h5 (fun x hx y hy e => ih x hx hy e) (fun y hy => hk' y hy)
theorem node_same {w:World} {B B' k:Nat} {x y:T} (h:Node w B k x) (h':Node w B' k y) (e:x.blk = y.blk):x.ents = y.ents:=mem_uniq h.2 h'.2 e
theorem nodeO_same {w:World} {B B' k:Nat} {x y:Option T} (h:NodeO w B k x) (h':NodeO w B' k y) (e:rootP x = rootP y):Tr.entsO x = Tr.entsO y:=by
  cases x with
  | none =>
    cases y with
    | none => rfl
    | some t => cases e
  | some s =>
    cases y with
    | none => cases e
    | some t =>
      simp only [rootP,Option.some.injEq,Addr.mk.injEq,and_true] at e
      exact node_same (h s rfl) (h' t rfl) e
end Go.Proofs.YtkeepngaaleakaaGreatDoor
namespace Go.Proofs.YtkeepngaaleakaaGreatDoor
open Go.ChangeShapes Go.WideShapes Go.ChangeAt Go.RowKit
open Tr (T S4 Ent Sd Fl Chg)
theorem nptr_ne {w:World} {a b:Nat} (ha:TrB w a) (hb:TrB w b) (hne:a≠b):(binOp .eql 81 (.pointer (some ⟨a,0,none⟩)) (.pointer (some ⟨b,0,none⟩))).run Tryz.prog w = .ok (.bool false) w:=by
  obtain ⟨ca,ta,ha⟩:=ha
  obtain ⟨cb,tb,hb⟩:=hb
  have h:(Tryz.prog.info? 201).map (fun i => decide (i.size = 0)) = some false:=by kernel_rfl
  obtain ⟨j,hj,hs⟩:=Option.map_eq_some_iff.1 h
  exact run_eql_ptr_other w Tryz.underlying81 hj (by simpa using hs) (by intro e;apply hne;exact congrArg (·.block) e) ha hb
theorem nptr_no1 (w:World) (a:Addr):(binOp .eql 81 (.pointer none) (.pointer (some a))).run Tryz.prog w = .ok (.bool false) w:=by
  have h2:∀ d:Nat,(Op.equalIn (d + 1) 81 (.pointer none) (.pointer (some a))).run Tryz.prog w = .ok false w:=fun d => by
    simp [Op.equalIn,run_underlying Tryz.underlying81]
  simp only [binOp]
  simp [Op.equal,Op.maxDepth,h2 9999]
theorem nptr_no2 (w:World) (a:Addr):(binOp .eql 81 (.pointer (some a)) (.pointer none)).run Tryz.prog w = .ok (.bool false) w:=by
  have h2:∀ d:Nat,(Op.equalIn (d + 1) 81 (.pointer (some a)) (.pointer none)).run Tryz.prog w = .ok false w:=fun d => by
    simp [Op.equalIn,run_underlying Tryz.underlying81]
  simp only [binOp]
  simp [Op.equal,Op.maxDepth,h2 9999]
section
variable (B k:Nat) (C:List Chg) (go:Bool) (Inv:List Chg→World→(Nat→Prop)→Prop) (fv:Value) (w:World) (F:Nat→Prop)
end
end Go.Proofs.YtkeepngaaleakaaGreatDoor
