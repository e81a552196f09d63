import Derived.Test.YtmkejbfgdmbejaaGreatDoorM90
import Derived.Test.YtmkejbfgdmbejaaGreatDoorM80
import Derived.Test.YtmkejbfgdmbejaaGreatDoorM26
namespace Go.Proofs.YtmkejbfgdmbejaaGreatDoor
open Go.ChangeShapes Go.WideShapes Go.ChangeAt Go.RowKit
open Tr (T S4 Ent)
theorem srt_ext {V:Type}:∀ {L M:List (Nat × V)},Sl.Srt L→Sl.Srt M→(∀ e,e∈L↔e∈M)→L = M
  | [],[],_,_,_ => rfl
  | [],b :: M,_,_,h => by have:=(h b).2 List.mem_cons_self;cases this
  | a :: L,[],_,_,h => by have:=(h a).1 List.mem_cons_self;cases this
  | a :: L,b :: M,hL,hM,h => by
    obtain ⟨l1,l2⟩:=List.pairwise_cons.1 hL
    obtain ⟨m1,m2⟩:=List.pairwise_cons.1 hM
    have hab:a = b:=by
      rcases List.mem_cons.1 ((h a).1 List.mem_cons_self) with e | e
      · exact e
      · rcases List.mem_cons.1 ((h b).2 List.mem_cons_self) with f | f
        · exact f.symm
        · have:=l1 b f;have:=m1 a e;omega
    subst hab
    congr 1
    refine srt_ext l2 m2 fun e => ⟨fun he => ?_,fun he => ?_⟩
    · rcases List.mem_cons.1 ((h e).1 (List.mem_cons_of_mem _ he)) with f | f
      · rw [f] at he;have:=l1 a he;omega
      · exact f
    · rcases List.mem_cons.1 ((h e).2 (List.mem_cons_of_mem _ he)) with f | f
      · rw [f] at he;have:=m1 a he;omega
      · exact f
theorem rdV_same {w:World} {B B':Nat} {A:Option Addr} {xs ys:List Value} (h:RdV w B A xs) (h':RdV w B' A ys) {i:Nat} {x y:Value} (hx:xs[i]? = some x) (hy:ys[i]? = some y):x = y:=by
  obtain ⟨b,off,hA,-,hc⟩:=h.at hx
  obtain ⟨b',off',hA',-,hc'⟩:=h'.at hy
  rw [hA] at hA'
  simp only [Option.some.injEq,Addr.mk.injEq,and_true] at hA'
  obtain ⟨rfl,rfl⟩:=hA'
  rw [hc] at hc'
  exact Option.some.inj hc'
theorem pts_same {w:World} {B B':Nat} {A:Option Addr} {us vs:List Nat} (h:Pts w B A us) (h':Pts w B' A vs) (hl:us.length = vs.length):us = vs:=by
  refine List.ext_getElem? fun i => ?_
  rcases Nat.lt_or_ge i us.length with hi | hi
  · obtain ⟨x,hx⟩:=get_lt hi
    obtain ⟨y,hy⟩:=get_lt (us:=vs) (k:=i) (by omega)
    have:=rdV_same (pts_rdV h) (pts_rdV h') (vals_get hx) (vals_get hy)
    simp only [Value.int.injEq,true_and] at this
    rw [hx,hy]
    congr 1
    omega
  · rw [List.getElem?_eq_none hi,List.getElem?_eq_none (by omega)]
theorem at_uniq {w:World} {B B' b k:Nat} {L M:Sn.Al} (h:Sn.At w B b k L) (h':Sn.At w B' b k M):L = M:=by
  obtain ⟨wL,hL⟩:=h
  obtain ⟨wM,hM⟩:=h'
  generalize Sl.dense k L = d at hL
  generalize Sl.dense k M = d' at hM
  cases d <;> cases d'
  · obtain ⟨-,A,c,D,c',-,-,k2,k3,-,-,r1,r2⟩:=hL
    obtain ⟨-,A',e,D',e',-,-,k2',k3',-,-,r1',r2'⟩:=hM
    rw [k2] at k2'
    rw [k3] at k3'
    simp only [Option.some.injEq,Value.slice.injEq] at k2' k3'
    obtain ⟨rfl,hl,-⟩:=k2'
    obtain ⟨rfl,-,-⟩:=k3'
    refine List.ext_getElem? fun i => ?_
    rcases Nat.lt_or_ge i L.length with hi | hi
    · obtain ⟨x,hx⟩:=get_lt hi
      obtain ⟨y,hy⟩:=get_lt (us:=M) (k:=i) (by omega)
      have e1:=rdV_same r1 r1' (Sn.u16V_get (Sl.keys_get hx)) (Sn.u16V_get (Sl.keys_get hy))
      have e2:=rdV_same r2 r2' (Sn.elV_get (Sl.things_get hx)) (Sn.elV_get (Sl.things_get hy))
      simp only [Value.int.injEq,true_and] at e1
      simp only [Value.pointer.injEq] at e2
      rw [hx,hy]
      congr 1
      exact Prod.ext (by omega) e2
    · rw [List.getElem?_eq_none hi,List.getElem?_eq_none (by omega)]
  · obtain ⟨-,A,c,D,c',-,k1,-⟩:=hL
    obtain ⟨-,-,hne,P,D',e',-,k1',-⟩:=hM
    rw [k1] at k1'
    simp only [Option.some.injEq,Value.int.injEq,true_and] at k1'
    exact absurd (by omega) (Sl.mask_pos hne)
  · obtain ⟨-,-,hne,P,D',e',-,k1',-⟩:=hL
    obtain ⟨-,A,c,D,c',-,k1,-⟩:=hM
    rw [k1] at k1'
    simp only [Option.some.injEq,Value.int.injEq,true_and] at k1'
    exact absurd (by omega) (Sl.mask_pos hne)
  · obtain ⟨-,-,-,P,D,c,-,k1,-,k3,-,-,r⟩:=hL
    obtain ⟨-,-,-,P',D',c',-,k1',-,k3',-,-,r'⟩:=hM
    rw [k1] at k1'
    rw [k3] at k3'
    simp only [Option.some.injEq,Value.int.injEq,true_and] at k1'
    simp only [Option.some.injEq,Value.slice.injEq,true_and] at k3'
    obtain ⟨rfl,-⟩:=k3'
    have hm:Sl.mask L = Sl.mask M:=by omega
    have hg:∀ a:Nat,a < 2 ^ k→Sl.get L (a:Int) = Sl.get M (a:Int):=fun a ha => by
      have h1:=Sl.mask_testBit L a
      have h2:=Sl.mask_testBit M a
      rw [hm,h2] at h1
      have h3:=rdV_same r r' (Sn.elV_get (Sl.row_get none L ha)) (Sn.elV_get (Sl.row_get none M ha))
      simp only [Value.pointer.injEq] at h3
      unfold Sl.has at h1
      cases e1:Sl.get L (a:Int) with
      | none =>
        rw [e1] at h1
        cases e2:Sl.get M (a:Int) with
        | none => rfl
        | some v => rw [e2] at h1;cases h1
      | some u =>
        rw [e1] at h1 h3
        cases e2:Sl.get M (a:Int) with
        | none => rw [e2] at h1;cases h1
        | some v =>
          rw [e2] at h3
          have h4:u = v:=h3
          rw [h4]
    refine srt_ext wL.srt wM.srt fun e => ⟨fun he => ?_,fun he => ?_⟩
    · have h1:=Sl.get_of_mem wL.srt he
      rw [hg e.1 (wL.lt e he)] at h1
      exact (Sl.get_iff wM.srt).1 h1
    · have h1:=Sl.get_of_mem wM.srt he
      rw [← hg e.1 (wM.lt e he)] at h1
      exact (Sl.get_iff wL.srt).1 h1
theorem ndAt_uniq {w:World} {B B' g:Nat} {lev lev':Int} {pre pre':List Nat} {v v':Nat} {kp kp':Option Addr} {s s':S4} (h:NdAt w B g lev pre v kp s) (h':NdAt w B' g lev' pre' v' kp' s'):lev = lev'∧pre = pre'∧v = v'∧kp = kp':=by
  obtain ⟨-,⟨A,c,hp,h1⟩,h0,h2,h3,-⟩:=h
  obtain ⟨-,⟨A',c',hp',h1'⟩,h0',h2',h3',-⟩:=h'
  rw [h0] at h0'
  rw [h1] at h1'
  rw [h2] at h2'
  rw [h3] at h3'
  simp only [Option.some.injEq,Value.int.injEq,true_and] at h0' h2'
  simp only [Option.some.injEq,Value.slice.injEq] at h1'
  simp only [Option.some.injEq,Value.pointer.injEq] at h3'
  obtain ⟨rfl,hl,-⟩:=h1'
  exact ⟨h0',pts_same hp hp' hl,by omega,h3'⟩
theorem entsL_same {P:T→Prop}:∀ {ks ls:List (Nat × T)},kidL ks = kidL ls→(∀ x∈ks,∀ y,P y→x.2.blk = y.blk→x.2.ents = y.ents)→(∀ y∈ls,P y.2)→Tr.entsL ks = Tr.entsL ls
  | [],[],_,_,_ => rfl
  | [],y :: ls,h,_,_ => by simp [kidL] at h
  | x :: ks,[],h,_,_ => by simp [kidL] at h
  | x :: ks,y :: ls,h,h1,h2 => by
    simp only [kidL,List.map_cons,List.cons.injEq,Prod.mk.injEq,Option.some.injEq,Addr.mk.injEq,and_true] at h
    rw [Tr.entsL_cons,Tr.entsL_cons,h1 x List.mem_cons_self y.2 (h2 y List.mem_cons_self) h.1.2,entsL_same (P:=P) h.2 (fun z hz => h1 z (List.mem_cons_of_mem _ hz)) (fun z hz => h2 z (List.mem_cons_of_mem _ hz))]
theorem mem_uniq {w:World} {B B' k:Nat} {x:T} (h:Mem w B k x):∀ {y:T},Mem w B' k y→x.blk = y.blk→x.ents = y.ents:=by
  induction h with
  | ent g p v h hwb =>
    intro y hy e
    cases hy with
    | ent g' p' v' h' _ =>
      have e:g = g':=e
      subst e
      obtain ⟨-,rfl,rfl,-⟩:=ndAt_uniq h h'
      exact (Tr.ents_ent _ _ _).trans (Tr.ents_ent _ _ _).symm
    | br g' l pre ks b h' ha hk _ =>
      have e:g = g':=e
      subst e
      obtain ⟨h1,-⟩:=ndAt_uniq h h'
      omega
  | br g l pre ks b h ha hk hwb ih =>
    intro y hy e
    cases hy with
    | ent g' p' v' h' _ =>
      have e:g = g':=e
      subst e
      obtain ⟨h1,-⟩:=ndAt_uniq h h'
      omega
    | br g' l' pre' ks' b' h' ha' hk' _ =>
      have e:g = g':=e
      subst e
      obtain ⟨-,-,-,h4⟩:=ndAt_uniq h h'
      simp only [Option.some.injEq,Addr.mk.injEq,and_true] at h4
      subst h4
      have h5:=at_uniq ha ha'
      rw [Tr.ents_br,Tr.ents_br]
      exact entsL_same (P:=Mem w B' k) h5 (fun x hx y hy e => ih x hx hy e) (fun y hy => hk' y hy)
theorem node_same {w:World} {B B' k:Nat} {x y:T} (h:Node w B k x) (h':Node w B' k y) (e:x.blk = y.blk):x.ents = y.ents:=mem_uniq h.2 h'.2 e
theorem nodeO_same {w:World} {B B' k:Nat} {x y:Option T} (h:NodeO w B k x) (h':NodeO w B' k y) (e:rootP x = rootP y):Tr.entsO x = Tr.entsO y:=by
  cases x with
  | none =>
    cases y with
    | none => rfl
    | some t => cases e
  | some s =>
    cases y with
    | none => cases e
    | some t =>
      simp only [rootP,Option.some.injEq,Addr.mk.injEq,and_true] at e
      exact node_same (h s rfl) (h' t rfl) e
end Go.Proofs.YtmkejbfgdmbejaaGreatDoor
namespace Go.Proofs.YtmkejbfgdmbejaaGreatDoor
open Go.ChangeShapes Go.WideShapes Go.ChangeAt Go.RowKit
open Tr (T S4 Ent Sd Fl)
abbrev sdV (p:Option Addr) (kd:Bool) (a:Nat):Value:=.agg #[.pointer p,.bool kd,.int .i64 (a:Int)]
theorem idx_single (a:Nat) (t:T) (n:Nat):Tr.dropF [(a,t)] n = if decide (a < n) = true then [] else [(a,t)]:=by
  by_cases c:a < n
  · rw [if_pos (decide_eq_true c)]
    have h0:=Tr.dropF_skip (L:=[(a,t)]) (List.pairwise_singleton _ _) (n:=a + 1) (m:=n) c (fun x xs e => by
      rw [Tr.dropF_step (List.pairwise_singleton _ _) (n:=0) (x:=(a,t)) (xs:=[]) (Tr.dropF_zero _)] at e
      cases e)
    rw [h0]
    exact Tr.dropF_step (List.pairwise_singleton _ _) (n:=0) (x:=(a,t)) (xs:=[]) (Tr.dropF_zero _)
  · rw [if_neg (by simpa using c),Tr.dropF_skip (L:=[(a,t)]) (List.pairwise_singleton _ _) (n:=0) (m:=n) (Nat.zero_le _) (fun x xs e => by rw [Tr.dropF_zero] at e;cases e;exact Nat.le_of_not_lt c),Tr.dropF_zero]
/-! ### sideOf,stepOf -/
theorem cells_set7 {w:World} {g:Nat} {a0 a1 a2 a3 a4 a5 a6:Value} {ty:TypeId} (b0 b1 b2 b3 b4 b5 b6:Value) (h:w.heap[g]? = some (.cells #[a0,a1,a2,a3,a4,a5,a6] ty (0,0))) :
    (((((((w.setCell ⟨g,0,none⟩ b0).setCell ⟨g,1,none⟩ b1).setCell ⟨g,2,none⟩ b2).setCell ⟨g,3,none⟩ b3).setCell ⟨g,4,none⟩ b4).setCell ⟨g,5,none⟩ b5).setCell ⟨g,6,none⟩ b6).heap[g]? = some (.cells #[b0,b1,b2,b3,b4,b5,b6] ty (0,0)):=by
  have h1:=heap_setCell_same _ g 0 _ ty b0 h
  rw [show (#[a0,a1,a2,a3,a4,a5,a6]:Array Value).setIfInBounds 0 b0 = #[b0,a1,a2,a3,a4,a5,a6] by simp] at h1
  have h2:=heap_setCell_same _ g 1 _ ty b1 h1
  rw [show (#[b0,a1,a2,a3,a4,a5,a6]:Array Value).setIfInBounds 1 b1 = #[b0,b1,a2,a3,a4,a5,a6] by simp] at h2
  have h3:=heap_setCell_same _ g 2 _ ty b2 h2
  rw [show (#[b0,b1,a2,a3,a4,a5,a6]:Array Value).setIfInBounds 2 b2 = #[b0,b1,b2,a3,a4,a5,a6] by simp] at h3
  have h4:=heap_setCell_same _ g 3 _ ty b3 h3
  rw [show (#[b0,b1,b2,a3,a4,a5,a6]:Array Value).setIfInBounds 3 b3 = #[b0,b1,b2,b3,a4,a5,a6] by simp] at h4
  have h5:=heap_setCell_same _ g 4 _ ty b4 h4
  rw [show (#[b0,b1,b2,b3,a4,a5,a6]:Array Value).setIfInBounds 4 b4 = #[b0,b1,b2,b3,b4,a5,a6] by simp] at h5
  have h6:=heap_setCell_same _ g 5 _ ty b5 h5
  rw [show (#[b0,b1,b2,b3,b4,a5,a6]:Array Value).setIfInBounds 5 b5 = #[b0,b1,b2,b3,b4,b5,a6] by simp] at h6
  have h7:=heap_setCell_same _ g 6 _ ty b6 h6
  rw [show (#[b0,b1,b2,b3,b4,b5,a6]:Array Value).setIfInBounds 6 b6 = #[b0,b1,b2,b3,b4,b5,b6] by simp] at h7
  exact h7
end Go.Proofs.YtmkejbfgdmbejaaGreatDoor
namespace Go.Proofs.YtmkejbfgdmbejaaGreatDoor
open Go.ChangeShapes Go.WideShapes Go.ChangeAt Go.RowKit
open Tr (T S4 Ent Sd Fl Chg)
theorem nptr_ne {w:World} {a b:Nat} (ha:TrB w a) (hb:TrB w b) (hne:a≠b):(binOp .eql 74 (.pointer (some ⟨a,0,none⟩)) (.pointer (some ⟨b,0,none⟩))).run Tryz.prog w = .ok (.bool false) w:=by
  obtain ⟨ca,ta,ha⟩:=ha
  obtain ⟨cb,tb,hb⟩:=hb
  have h:(Tryz.prog.info? 202).map (fun i => decide (i.size = 0)) = some false:=by kernel_rfl
  obtain ⟨j,hj,hs⟩:=Option.map_eq_some_iff.1 h
  exact run_eql_ptr_other w Tryz.underlying74 hj (by simpa using hs) (by intro e;apply hne;exact congrArg (·.block) e) ha hb
theorem nptr_no1 (w:World) (a:Addr):(binOp .eql 74 (.pointer none) (.pointer (some a))).run Tryz.prog w = .ok (.bool false) w:=by
  have h2:∀ d:Nat,(Op.equalIn (d + 1) 74 (.pointer none) (.pointer (some a))).run Tryz.prog w = .ok false w:=fun d => by
    simp [Op.equalIn,run_underlying Tryz.underlying74]
  simp only [binOp]
  simp [Op.equal,Op.maxDepth,h2 9999]
theorem nptr_no2 (w:World) (a:Addr):(binOp .eql 74 (.pointer (some a)) (.pointer none)).run Tryz.prog w = .ok (.bool false) w:=by
  have h2:∀ d:Nat,(Op.equalIn (d + 1) 74 (.pointer (some a)) (.pointer none)).run Tryz.prog w = .ok false w:=fun d => by
    simp [Op.equalIn,run_underlying Tryz.underlying74]
  simp only [binOp]
  simp [Op.equal,Op.maxDepth,h2 9999]
section
variable (B k:Nat) (C:List Chg) (go:Bool) (Inv:List Chg→World→(Nat→Prop)→Prop) (fv:Value) (w:World) (F:Nat→Prop)
end
theorem entS_c {w:World} {B k g v m:Nat} {p:List Nat} (h:Node w B k (.ent g p v)) (hB:B≤w.heap.size) (hm:p.length = m) :
    Calls Tryz.prog 97 #[.pointer (some ⟨g,0,none⟩)] w fun e w' => ∃ h d,e = .returned (.tuple #[entryV (some ⟨h,0,none⟩) m d v,.bool true])∧Own w' w.heap.size (.slice (some ⟨h,0,none⟩) m d) p∧Below w.heap.size w w':=by
  have hl:p.length = k:=h.1.len
  have h1:=h.1.k1
  have h16:=h.1.k16
  obtain ⟨kp,hnd⟩:=h.2.nd
  have hh:=nEntry_ent hnd hB (by intro e;rw [show (T.ent g p v).pre = p from rfl] at e;rw [e] at hl;simp at hl;omega) (by show p.length≤_;omega)
  rw [← hm]
  exact hh
end Go.Proofs.YtmkejbfgdmbejaaGreatDoor
