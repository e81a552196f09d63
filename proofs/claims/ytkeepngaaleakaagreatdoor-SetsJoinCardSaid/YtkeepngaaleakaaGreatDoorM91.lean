import Derived.Test.YtkeepngaaleakaaGreatDoorM27
import Derived.Test.YtkeepngaaleakaaGreatDoorMV1
namespace Go.Proofs.YtkeepngaaleakaaGreatDoor
open Go.ChangeShapes Go.WideShapes Go.ChangeAt Go.RowKit
open Tr (T S4 Ent)
theorem srt_ext {V:Type}:∀ {L M:List (Nat × V)},Sl.Srt L→Sl.Srt M→(∀ e,e∈L↔e∈M)→L = M
  | [],[],_,_,_ => rfl
  | [],b :: M,_,_,h => by have:=(h b).2 List.mem_cons_self;cases this
  | a :: L,[],_,_,h => by have:=(h a).1 List.mem_cons_self;cases this
  | a :: L,b :: M,hL,hM,h => by
    obtain ⟨l1,l2⟩:=List.pairwise_cons.1 hL
    obtain ⟨m1,m2⟩:=List.pairwise_cons.1 hM
    have hab:a = b:=by
      rcases List.mem_cons.1 ((h a).1 List.mem_cons_self) with e | e
      · exact e
      · rcases List.mem_cons.1 ((h b).2 List.mem_cons_self) with f | f
        · exact f.symm
        · have:=l1 b f;have:=m1 a e;omega
    subst hab
    congr 1
    refine srt_ext l2 m2 fun e => ⟨fun he => ?_,fun he => ?_⟩
    · rcases List.mem_cons.1 ((h e).1 (List.mem_cons_of_mem _ he)) with f | f
      · rw [f] at he;have:=l1 a he;omega
      · exact f
    · rcases List.mem_cons.1 ((h e).2 (List.mem_cons_of_mem _ he)) with f | f
      · rw [f] at he;have:=m1 a he;omega
      · exact f
theorem rdV_same {w:World} {B B':Nat} {A:Option Addr} {xs ys:List Value} (h:RdV w B A xs) (h':RdV w B' A ys) {i:Nat} {x y:Value} (hx:xs[i]? = some x) (hy:ys[i]? = some y):x = y:=by
  obtain ⟨b,off,hA,-,hc⟩:=h.at hx
  obtain ⟨b',off',hA',-,hc'⟩:=h'.at hy
  rw [hA] at hA'
  simp only [Option.some.injEq,Addr.mk.injEq,and_true] at hA'
  obtain ⟨rfl,rfl⟩:=hA'
  rw [hc] at hc'
  exact Option.some.inj hc'
theorem pts_same {w:World} {B B':Nat} {A:Option Addr} {us vs:List Nat} (h:Pts w B A us) (h':Pts w B' A vs) (hl:us.length = vs.length):us = vs:=by
  refine List.ext_getElem? fun i => ?_
  rcases Nat.lt_or_ge i us.length with hi | hi
  · obtain ⟨x,hx⟩:=get_lt hi
    obtain ⟨y,hy⟩:=get_lt (us:=vs) (k:=i) (by omega)
    have:=rdV_same (pts_rdV h) (pts_rdV h') (vals_get hx) (vals_get hy)
    simp only [Value.int.injEq,true_and] at this
    rw [hx,hy]
    congr 1
    omega
  · rw [List.getElem?_eq_none hi,List.getElem?_eq_none (by omega)]
theorem at_uniq {w:World} {B B' b k:Nat} {L M:Sn.Al} (h:Sn.At w B b k L) (h':Sn.At w B' b k M):L = M:=by
  obtain ⟨wL,hL⟩:=h
  obtain ⟨wM,hM⟩:=h'
  generalize Sl.dense k L = d at hL
  generalize Sl.dense k M = d' at hM
  cases d <;> cases d'
  · obtain ⟨-,A,c,D,c',-,-,k2,k3,-,-,r1,r2⟩:=hL
    obtain ⟨-,A',e,D',e',-,-,k2',k3',-,-,r1',r2'⟩:=hM
    rw [k2] at k2'
    rw [k3] at k3'
    simp only [Option.some.injEq,Value.slice.injEq] at k2' k3'
    obtain ⟨rfl,hl,-⟩:=k2'
    obtain ⟨rfl,-,-⟩:=k3'
    refine List.ext_getElem? fun i => ?_
    rcases Nat.lt_or_ge i L.length with hi | hi
    · obtain ⟨x,hx⟩:=get_lt hi
      obtain ⟨y,hy⟩:=get_lt (us:=M) (k:=i) (by omega)
      have e1:=rdV_same r1 r1' (Sn.u16V_get (Sl.keys_get hx)) (Sn.u16V_get (Sl.keys_get hy))
      have e2:=rdV_same r2.rd r2'.rd (Sn.elV_get (Sl.things_get hx)) (Sn.elV_get (Sl.things_get hy))
      simp only [Value.int.injEq,true_and] at e1
      simp only [Value.pointer.injEq] at e2
      rw [hx,hy]
      congr 1
      exact Prod.ext (by omega) e2
    · rw [List.getElem?_eq_none hi,List.getElem?_eq_none (by omega)]
  · obtain ⟨-,A,c,D,c',-,k1,-⟩:=hL
    obtain ⟨-,-,hne,P,D',e',-,k1',-⟩:=hM
    rw [k1] at k1'
    simp only [Option.some.injEq,Value.int.injEq,true_and] at k1'
    exact absurd (by omega) (Sl.mask_pos hne)
  · obtain ⟨-,-,hne,P,D',e',-,k1',-⟩:=hL
    obtain ⟨-,A,c,D,c',-,k1,-⟩:=hM
    rw [k1] at k1'
    simp only [Option.some.injEq,Value.int.injEq,true_and] at k1'
    exact absurd (by omega) (Sl.mask_pos hne)
  · obtain ⟨-,-,-,P,D,c,-,k1,-,k3,-,-,r⟩:=hL
    obtain ⟨-,-,-,P',D',c',-,k1',-,k3',-,-,r'⟩:=hM
    rw [k1] at k1'
    rw [k3] at k3'
    simp only [Option.some.injEq,Value.int.injEq,true_and] at k1'
    simp only [Option.some.injEq,Value.slice.injEq,true_and] at k3'
    obtain ⟨rfl,-⟩:=k3'
    have hm:Sl.mask L = Sl.mask M:=by omega
    have hg:∀ a:Nat,a < 2 ^ k→Sl.get L (a:Int) = Sl.get M (a:Int):=fun a ha => by
      have h1:=Sl.mask_testBit L a
      have h2:=Sl.mask_testBit M a
      rw [hm,h2] at h1
      have h3:=rdV_same r.rd r'.rd (Sn.elV_get (Sl.row_get none L ha)) (Sn.elV_get (Sl.row_get none M ha))
      simp only [Value.pointer.injEq] at h3
      unfold Sl.has at h1
      cases e1:Sl.get L (a:Int) with
      | none =>
        rw [e1] at h1
        cases e2:Sl.get M (a:Int) with
        | none => rfl
        | some v => rw [e2] at h1;cases h1
      | some u =>
        rw [e1] at h1 h3
        cases e2:Sl.get M (a:Int) with
        | none => rw [e2] at h1;cases h1
        | some v =>
          rw [e2] at h3
          have h4:u = v:=h3
          rw [h4]
    refine srt_ext wL.srt wM.srt fun e => ⟨fun he => ?_,fun he => ?_⟩
    · have h1:=Sl.get_of_mem wL.srt he
      rw [hg e.1 (wL.lt e he)] at h1
      exact (Sl.get_iff wM.srt).1 h1
    · have h1:=Sl.get_of_mem wM.srt he
      rw [← hg e.1 (wM.lt e he)] at h1
      exact (Sl.get_iff wL.srt).1 h1
theorem ndAt_uniq {w:World} {B B' g:Nat} {lev lev':Int} {pre pre':List Nat} {v v':Nat} {kp kp':Option Addr} {s s':S4} (h:NdAt w B g lev pre v kp s) (h':NdAt w B' g lev' pre' v' kp' s'):lev = lev'∧pre = pre'∧v = v'∧kp = kp':=by
  obtain ⟨-,⟨A,c,hp,h1⟩,h0,h2,h3,-⟩:=h
  obtain ⟨-,⟨A',c',hp',h1'⟩,h0',h2',h3',-⟩:=h'
  rw [h0] at h0'
  rw [h1] at h1'
  rw [h2] at h2'
  rw [h3] at h3'
  simp only [Option.some.injEq,Value.int.injEq,true_and] at h0' h2'
  simp only [Option.some.injEq,Value.slice.injEq] at h1'
  simp only [Option.some.injEq,Value.pointer.injEq] at h3'
  obtain ⟨rfl,hl,-⟩:=h1'
  exact ⟨h0',pts_same hp hp' hl,by omega,h3'⟩
theorem entsL_same {P:T→Prop}:∀ {ks ls:List (Nat × T)},kidL ks = kidL ls→(∀ x∈ks,∀ y,P y→x.2.blk = y.blk→x.2.ents = y.ents)→(∀ y∈ls,P y.2)→Tr.entsL ks = Tr.entsL ls
  | [],[],_,_,_ => rfl
  | [],y :: ls,h,_,_ => by simp [kidL] at h
  | x :: ks,[],h,_,_ => by simp [kidL] at h
  | x :: ks,y :: ls,h,h1,h2 => by
    simp only [kidL,List.map_cons,List.cons.injEq,Prod.mk.injEq,Option.some.injEq,Addr.mk.injEq,and_true] at h
    rw [Tr.entsL_cons,Tr.entsL_cons,h1 x List.mem_cons_self y.2 (h2 y List.mem_cons_self) h.1.2,entsL_same (P:=P) h.2 (fun z hz => h1 z (List.mem_cons_of_mem _ hz)) (fun z hz => h2 z (List.mem_cons_of_mem _ hz))]
theorem mem_uniq {w:World} {B B' k:Nat} {x:T} (h:Mem w B k x):∀ {y:T},Mem w B' k y→x.blk = y.blk→x.ents = y.ents:=by
  induction h with
  | ent g p v h hwb =>
    intro y hy e
    cases hy with
    | ent g' p' v' h' _ =>
      have e:g = g':=e
      subst e
      obtain ⟨-,rfl,rfl,-⟩:=ndAt_uniq h h'
      exact (Tr.ents_ent _ _ _).trans (Tr.ents_ent _ _ _).symm
    | br g' l pre ks b h' ha hk _ =>
      have e:g = g':=e
      subst e
      obtain ⟨h1,-⟩:=ndAt_uniq h h'
      omega
  | br g l pre ks b h ha hk hwb ih =>
    intro y hy e
    cases hy with
    | ent g' p' v' h' _ =>
      have e:g = g':=e
      subst e
      obtain ⟨h1,-⟩:=ndAt_uniq h h'
      omega
    | br g' l' pre' ks' b' h' ha' hk' _ =>
      have e:g = g':=e
      subst e
      obtain ⟨-,-,-,h4⟩:=ndAt_uniq h h'
      simp only [Option.some.injEq,Addr.mk.injEq,and_true] at h4
      subst h4
      have h5:=at_uniq ha ha'
      rw [Tr.ents_br,Tr.ents_br]
      exact entsL_same (P:=Mem w B' k) h5 (fun x hx y hy e => ih x hx hy e) (fun y hy => hk' y hy)
theorem node_same {w:World} {B B' k:Nat} {x y:T} (h:Node w B k x) (h':Node w B' k y) (e:x.blk = y.blk):x.ents = y.ents:=mem_uniq h.2 h'.2 e
theorem nodeO_same {w:World} {B B' k:Nat} {x y:Option T} (h:NodeO w B k x) (h':NodeO w B' k y) (e:rootP x = rootP y):Tr.entsO x = Tr.entsO y:=by
  cases x with
  | none =>
    cases y with
    | none => rfl
    | some t => cases e
  | some s =>
    cases y with
    | none => cases e
    | some t =>
      simp only [rootP,Option.some.injEq,Addr.mk.injEq,and_true] at e
      exact node_same (h s rfl) (h' t rfl) e
end Go.Proofs.YtkeepngaaleakaaGreatDoor
namespace Go.Proofs.YtkeepngaaleakaaGreatDoor
open Go.ChangeShapes Go.WideShapes Go.ChangeAt Go.RowKit
open Tr (T S4 Ent Sd Fl)
abbrev sdV (p:Option Addr) (kd:Bool) (a:Nat):Value:=.agg #[.pointer p,.bool kd,.int .i64 (a:Int)]
theorem idx_single (a:Nat) (t:T) (n:Nat):Tr.dropF [(a,t)] n = if decide (a < n) = true then [] else [(a,t)]:=by
  by_cases c:a < n
  · rw [if_pos (decide_eq_true c)]
    have h0:=Tr.dropF_skip (L:=[(a,t)]) (List.pairwise_singleton _ _) (n:=a + 1) (m:=n) c (fun x xs e => by
      rw [Tr.dropF_step (List.pairwise_singleton _ _) (n:=0) (x:=(a,t)) (xs:=[]) (Tr.dropF_zero _)] at e
      cases e)
    rw [h0]
    exact Tr.dropF_step (List.pairwise_singleton _ _) (n:=0) (x:=(a,t)) (xs:=[]) (Tr.dropF_zero _)
  · rw [if_neg (by simpa using c),Tr.dropF_skip (L:=[(a,t)]) (List.pairwise_singleton _ _) (n:=0) (m:=n) (Nat.zero_le _) (fun x xs e => by rw [Tr.dropF_zero] at e;cases e;exact Nat.le_of_not_lt c),Tr.dropF_zero]
/-! ### sideOf,stepOf -/
theorem max3_1 {p x y l:Int} (h:(if p < x then x else p) < y) (hm:max (max p x) y = l):l = y:=by
  split at h <;> omega
theorem max3_2 {p x y l:Int} (h:y≤(if p < x then x else p)) (h':p < x) (hm:max (max p x) y = l):l = x:=by
  rw [if_pos h'] at h
  omega
theorem max3_3 {p x y l:Int} (h:y≤(if p < x then x else p)) (h':x≤p) (hm:max (max p x) y = l):l = p:=by
  rw [if_neg (by omega)] at h
  omega
end Go.Proofs.YtkeepngaaleakaaGreatDoor
namespace Go.Proofs.YtkeepngaaleakaaGreatDoor
open Go.ChangeShapes Go.WideShapes Go.ChangeAt Go.RowKit
open Tr (T S4 Ent Sd Fl Chg)
theorem nptr_ne {w:World} {a b:Nat} (ha:TrB w a) (hb:TrB w b) (hne:a≠b):(binOp .eql 81 (.pointer (some ⟨a,0,none⟩)) (.pointer (some ⟨b,0,none⟩))).run Tryz.prog w = .ok (.bool false) w:=by
  obtain ⟨ca,ta,ha⟩:=ha
  obtain ⟨cb,tb,hb⟩:=hb
  have h:(Tryz.prog.info? 201).map (fun i => decide (i.size = 0)) = some false:=by kernel_rfl
  obtain ⟨j,hj,hs⟩:=Option.map_eq_some_iff.1 h
  exact run_eql_ptr_other w Tryz.underlying81 hj (by simpa using hs) (by intro e;apply hne;exact congrArg (·.block) e) ha hb
theorem nptr_no1 (w:World) (a:Addr):(binOp .eql 81 (.pointer none) (.pointer (some a))).run Tryz.prog w = .ok (.bool false) w:=by
  have h2:∀ d:Nat,(Op.equalIn (d + 1) 81 (.pointer none) (.pointer (some a))).run Tryz.prog w = .ok false w:=fun d => by
    simp [Op.equalIn,run_underlying Tryz.underlying81]
  simp only [binOp]
  simp [Op.equal,Op.maxDepth,h2 9999]
theorem nptr_no2 (w:World) (a:Addr):(binOp .eql 81 (.pointer (some a)) (.pointer none)).run Tryz.prog w = .ok (.bool false) w:=by
  have h2:∀ d:Nat,(Op.equalIn (d + 1) 81 (.pointer (some a)) (.pointer none)).run Tryz.prog w = .ok false w:=fun d => by
    simp [Op.equalIn,run_underlying Tryz.underlying81]
  simp only [binOp]
  simp [Op.equal,Op.maxDepth,h2 9999]
section
variable (B k:Nat) (C:List Chg) (go:Bool) (Inv:List Chg→World→(Nat→Prop)→Prop) (fv:Value) (w:World) (F:Nat→Prop)
end
set_option maxRecDepth 100000 in
set_option maxHeartbeats 2000000 in
theorem r12points_c {w:World} {L M:List Ent} {A A':Option Addr} {B c c' n n' k:Nat} (zL:Tr.ZS L) (dL:Tr.Dim k L) (dM:Tr.Dim k M) (hA:Ents w B A L) (hA':Ents w B A' M) (hB:B≤w.heap.size) (hn:L.length = n) (hn':M.length = n') (hc:n≤c) (h1:1≤k) (h16:k≤16) (hl:n + n'≤100000) :
    Calls Tryz.prog 71 #[.slice A n c,.slice A' n' c'] w fun e w' => ∃ D d N,e = .returned (.slice D N d)∧(Tr.ptsU L M).length = N∧EntL w' B w'.heap.size D (Tr.ptsU L M)∧N≤d∧Below w.heap.size w w':=by
  have hA0:=EntL.below (R:=B) hA (Below.refl B w) (Nat.le_refl _) (Nat.le_refl _) hB
  have HX:=Lib.hid (And.intro zL (And.intro dL (And.intro dM (And.intro hA0 (And.intro hA' (And.intro hn (And.intro hn' (And.intro hc (And.intro h1 (And.intro h16 (And.intro hl hB)))))))))))
  have hn9:(n':Int)≤100000:=by omega
  clear zL dL dM hA hA0 hA' hn hn' hc h1 h16 hl hB
  go_enter Tryz.func71,Tryz.ntmps71
  go_wp2_with fail
  go_loopw [0,5] (fun u v wr => ∃ (j m:Nat) (D:Option Addr) (d:Nat),u = .slice D m d∧v = .int .i64 (j:Int)∧j≤n'∧(Tr.ptsU L (M.take j)).length = m∧EntL wr B wr.heap.size D (Tr.ptsU L (M.take j))∧m≤d∧Below w.heap.size w wr) (fun _ v _ => n' - (intOf v).toNat)
  case atStart => exact ⟨0,n,A,c,rfl,rfl,Nat.zero_le _,HX.out.2.2.2.2.2.1,HX.out.2.2.2.1,HX.out.2.2.2.2.2.2.2.1,Below.refl _ _⟩
  case round =>
    obtain ⟨j,m,D,d,rfl,rfl,hj,hm,hE,hmd,hb⟩:=hrel
    by_cases hlt:j < n'
    · obtain ⟨e,he⟩:=get_lt (us:=M) (k:=j) (by rw [HX.out.2.2.2.2.2.2.1];exact hlt)
      obtain ⟨zL,dL,dM,hA,hA',hn,hn',hc,h1,h16,hl,hB⟩:=HX.out
      have hde:=dM e (List.mem_of_getElem? he)
      obtain ⟨b,off,P,pc,hAA,hbl,v0,-,pp,-,-⟩:=(EntL.below (R:=B) hA' hb hB hB (Nat.le_refl _)).at he
      subst hAA
      obtain ⟨z1,d1,l1,-⟩:=Tr.ptsU_zs (M:=M.take j) zL dL (fun x hx => dM x (List.mem_of_mem_take hx))
      have hlt2:(M.take j).length≤n':=by rw [List.length_take];omega
      obtain ⟨np,hnp⟩:∃ np,e.1.length = np:=⟨_,rfl⟩
      have hP:=rput6_c (c:=d) (c':=pc) z1 d1 hE pp hde.1 h1 h16 (by omega) (Nat.le_refl _) (Nat.le_trans hB hb.size) (by rw [hm];exact hmd) 0 (by omega)
      rw [← Tr.ptsU_take he,hm,hnp] at hP
      obtain ⟨m2,hm2⟩:∃ m2,(Tr.ptsU L (M.take (j + 1))).length = m2:=⟨_,rfl⟩
      rw [hm2] at hP
      rw [hnp] at v0
      have HP:=Lib.hid hP
      have HE:=Lib.hid (And.intro hb (And.intro hm2 hlt))
      have f1:decide ((j:Int) < (n':Int)) = true:=decide_eq_true (by omega)
      have f1':decide (j < n') = true:=decide_eq_true hlt
      have n1:(0:Int)≤(j:Int):=by omega
      have n2:(j:Int) < (n':Int):=by omega
      have n3:(j:Int)≤100000:=by omega
      clear hP hb hm2 hlt hnp z1 d1 l1 hlt2 pp hde hE hm hmd he zL dL dM hA hA' hn hn' hc h1 h16 hl hj hbl hB
      go_wp2_with fail
      refine HP.out.mono ?_
      rintro e' w2 ⟨D2,d2,rfl,hE2,hd2,hb2⟩
      have H2:=Lib.hid (And.intro hE2 (And.intro hd2 (Below.andThen HE.out.1 hb2)))
      clear hE2 hd2 hb2 HP
      go_wp2_with fail
      go_roundw
      case rel => exact ⟨j + 1,m2,D2,d2,rfl,by first | rfl | go_num,by have:=HE.out.2.2;omega,HE.out.2.1,H2.out.1,H2.out.2.1,H2.out.2.2⟩
      case measure =>
        have:=HE.out.2.2
        show n' - ((j:Int) + 1).toNat < n' - (j:Int).toNat
        omega
    · have hjn:n' = j:=by omega
      subst hjn
      have f1:decide ((n':Int) < (n':Int)) = false:=decide_eq_false (by omega)
      have f1':decide (n' < n') = false:=decide_eq_false (by omega)
      rw [show M.take n' = M by rw [← HX.out.2.2.2.2.2.2.1,List.take_length]] at hm hE
      have HR:=Lib.hid (And.intro hm (And.intro hE (And.intro hmd hb)))
      clear hm hE hmd hb hlt hj
      go_wp2_with fail
      go_ret
      exact ⟨D,d,m,rfl,HR.out.1,HR.out.2.1,HR.out.2.2.1,HR.out.2.2.2⟩
theorem filterMap_take {α β:Type} (f:α→Option β) {U:List α} {j:Nat} {e:α} (h:U[j]? = some e):(U.take (j + 1)).filterMap f = (U.take j).filterMap f ++ (f e).toList:=by
  rw [List.take_add_one,h,List.filterMap_append]
  cases hf:f e <;> simp [hf]
theorem getE_lt {k:Nat} {L:List Ent} (zL:Tr.ZS L) (dL:Tr.Dim k L) {p:List Nat} {g:Option Nat} (hp:p.length = k) (ho:Z.Ok p) (h:Tr.getE L p = g):g.getD 0 < 18446744073709551616:=by
  cases g with
  | none => show 0 < _;omega
  | some v => exact (dL _ ((Tr.getE_iff zL dL hp ho).1 h)).2.2
end Go.Proofs.YtkeepngaaleakaaGreatDoor
namespace Go.Proofs.YtkeepngaaleakaaGreatDoor
open Go.ChangeShapes Go.WideShapes Go.ChangeAt Go.RowKit
open Tr (T S4 Ent)
theorem nptr_none (w:World):(binOp .eql 81 (.pointer none) (.pointer none)).run Tryz.prog w = .ok (.bool true) w:=by
  have h2:∀ d:Nat,(Op.equalIn (d + 1) 81 (.pointer none) (.pointer none)).run Tryz.prog w = .ok true w:=fun d => by
    simp [Op.equalIn,run_underlying Tryz.underlying81]
  simp only [binOp]
  simp [Op.equal,Op.maxDepth,h2 9999]
end Go.Proofs.YtkeepngaaleakaaGreatDoor
namespace Go.Proofs.YtkeepngaaleakaaGreatDoor
open Go.ChangeShapes Go.WideShapes Go.ChangeAt Go.RowKit
open Tr (T S4 Ent Chg Raw Pc)
theorem lst_pt {w W:World} {B k:Nat} {A':Option Addr} {c':Nat} {p:List Nat} {v:Nat} (hp:Pts w B A' p) (hk:p.length = k) (h16:k≤16) (hv:v < 18446744073709551616) :
    Lst 2 (EntQ w B) (W.alloc (.cells #[.slice A' k c',.int .u64 (v:Int)] 57)) (W.heap.size + 1) (some ⟨W.heap.size,0,none⟩) [(p,v)]:=by
  subst hk
  exact lst_one hp (by unfold maxLen;omega) hv
end Go.Proofs.YtkeepngaaleakaaGreatDoor
namespace Go.Proofs.YtkeepngaaleakaaGreatDoor
open Go.ChangeShapes Go.WideShapes Go.ChangeAt Go.RowKit
open Tr (T S4 Ent Tri)
structure TriN (w:World) (B k:Nat) (t:Tri):Prop where
  o:NodeO w B k t.o
  a:NodeO w B k t.a
  b:NodeO w B k t.b
theorem TriN.below {w w':World} {B B' C k:Nat} {t:Tri} (h:TriN w B k t) (hb:Below C w w') (hC:B≤C) (hB:B≤B'):TriN w' B' k t:=⟨h.o.below hb hC hB,h.a.below hb hC hB,h.b.below hb hC hB⟩
theorem TriN.mem {w:World} {B k:Nat} {t:Tri} (h:TriN w B k t) {x:T} (hx:x∈t.list):Node w B k x:=by
  rcases Tr.Tri.mem.1 hx with e | e | e
  · exact h.o x e
  · exact h.a x e
  · exact h.b x e
/-! ### of sums -/
section
variable {p:List Nat} {t:Tri}
end
abbrev z4:Array Value:=#[.int .u64 0,.int .u64 0,.int .u64 0,.int .u64 0]
theorem keepz {w2 w3:World} {q:Nat} {c:Array Value} {ty:TypeId} (h:w2.heap[q]? = some (.cells c ty (0,0))) (hb:Below w2.heap.size w2 w3):w3.heap[q]? = some (.cells c ty (0,0)) :=
  (hb.block q (Array.getElem?_eq_some_iff.1 h).1).trans h
end Go.Proofs.YtkeepngaaleakaaGreatDoor
