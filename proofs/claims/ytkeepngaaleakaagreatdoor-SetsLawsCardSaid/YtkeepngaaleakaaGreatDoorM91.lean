import Derived.Test.YtkeepngaaleakaaGreatDoorM90
import Derived.Test.YtkeepngaaleakaaGreatDoorM80
namespace Go.Proofs.YtkeepngaaleakaaGreatDoor
open Go.ChangeShapes Go.WideShapes Go.ChangeAt Go.RowKit
open Tr (T S4 Ent)
theorem srt_ext {V:Type}:∀ {L M:List (Nat × V)},Sl.Srt L→Sl.Srt M→(∀ e,e∈L↔e∈M)→L = M
  | [],[],_,_,_ => rfl
  | [],b :: M,_,_,h => by have:=(h b).2 List.mem_cons_self;cases this
  | a :: L,[],_,_,h => by have:=(h a).1 List.mem_cons_self;cases this
  | a :: L,b :: M,hL,hM,h => by
    obtain ⟨l1,l2⟩:=List.pairwise_cons.1 hL
    obtain ⟨m1,m2⟩:=List.pairwise_cons.1 hM
    have hab:a = b:=by
      rcases List.mem_cons.1 ((h a).1 List.mem_cons_self) with e | e
      · exact e
      · rcases List.mem_cons.1 ((h b).2 List.mem_cons_self) with f | f
        · exact f.symm
        · have:=l1 b f;have:=m1 a e;omega
    subst hab
    congr 1
    refine srt_ext l2 m2 fun e => ⟨fun he => ?_,fun he => ?_⟩
    · rcases List.mem_cons.1 ((h e).1 (List.mem_cons_of_mem _ he)) with f | f
      · rw [f] at he;have:=l1 a he;omega
      · exact f
    · rcases List.mem_cons.1 ((h e).2 (List.mem_cons_of_mem _ he)) with f | f
      · rw [f] at he;have:=m1 a he;omega
      · exact f
theorem rdV_same {w:World} {B B':Nat} {A:Option Addr} {xs ys:List Value} (h:RdV w B A xs) (h':RdV w B' A ys) {i:Nat} {x y:Value} (hx:xs[i]? = some x) (hy:ys[i]? = some y):x = y:=by
  obtain ⟨b,off,hA,-,hc⟩:=h.at hx
  obtain ⟨b',off',hA',-,hc'⟩:=h'.at hy
  rw [hA] at hA'
  simp only [Option.some.injEq,Addr.mk.injEq,and_true] at hA'
  obtain ⟨rfl,rfl⟩:=hA'
  rw [hc] at hc'
  exact Option.some.inj hc'
theorem pts_same {w:World} {B B':Nat} {A:Option Addr} {us vs:List Nat} (h:Pts w B A us) (h':Pts w B' A vs) (hl:us.length = vs.length):us = vs:=by
  refine List.ext_getElem? fun i => ?_
  rcases Nat.lt_or_ge i us.length with hi | hi
  · obtain ⟨x,hx⟩:=get_lt hi
    obtain ⟨y,hy⟩:=get_lt (us:=vs) (k:=i) (by omega)
    have:=rdV_same (pts_rdV h) (pts_rdV h') (vals_get hx) (vals_get hy)
    simp only [Value.int.injEq,true_and] at this
    rw [hx,hy]
    congr 1
    omega
  · rw [List.getElem?_eq_none hi,List.getElem?_eq_none (by omega)]
theorem at_uniq {w:World} {B B' b k:Nat} {L M:Sn.Al} (h:Sn.At w B b k L) (h':Sn.At w B' b k M):L = M:=by
  obtain ⟨wL,hL⟩:=h
  obtain ⟨wM,hM⟩:=h'
  generalize Sl.dense k L = d at hL
  generalize Sl.dense k M = d' at hM
  cases d <;> cases d'
  · obtain ⟨-,A,c,D,c',-,-,k2,k3,-,-,r1,r2⟩:=hL
    obtain ⟨-,A',e,D',e',-,-,k2',k3',-,-,r1',r2'⟩:=hM
    rw [k2] at k2'
    rw [k3] at k3'
    simp only [Option.some.injEq,Value.slice.injEq] at k2' k3'
    obtain ⟨rfl,hl,-⟩:=k2'
    obtain ⟨rfl,-,-⟩:=k3'
    refine List.ext_getElem? fun i => ?_
    rcases Nat.lt_or_ge i L.length with hi | hi
    · obtain ⟨x,hx⟩:=get_lt hi
      obtain ⟨y,hy⟩:=get_lt (us:=M) (k:=i) (by omega)
      have e1:=rdV_same r1 r1' (Sn.u16V_get (Sl.keys_get hx)) (Sn.u16V_get (Sl.keys_get hy))
      have e2:=rdV_same r2.rd r2'.rd (Sn.elV_get (Sl.things_get hx)) (Sn.elV_get (Sl.things_get hy))
      simp only [Value.int.injEq,true_and] at e1
      simp only [Value.pointer.injEq] at e2
      rw [hx,hy]
      congr 1
      exact Prod.ext (by omega) e2
    · rw [List.getElem?_eq_none hi,List.getElem?_eq_none (by omega)]
  · obtain ⟨-,A,c,D,c',-,k1,-⟩:=hL
    obtain ⟨-,-,hne,P,D',e',-,k1',-⟩:=hM
    rw [k1] at k1'
    simp only [Option.some.injEq,Value.int.injEq,true_and] at k1'
    exact absurd (by omega) (Sl.mask_pos hne)
  · obtain ⟨-,-,hne,P,D',e',-,k1',-⟩:=hL
    obtain ⟨-,A,c,D,c',-,k1,-⟩:=hM
    rw [k1] at k1'
    simp only [Option.some.injEq,Value.int.injEq,true_and] at k1'
    exact absurd (by omega) (Sl.mask_pos hne)
  · obtain ⟨-,-,-,P,D,c,-,k1,-,k3,-,-,r⟩:=hL
    obtain ⟨-,-,-,P',D',c',-,k1',-,k3',-,-,r'⟩:=hM
    rw [k1] at k1'
    rw [k3] at k3'
    simp only [Option.some.injEq,Value.int.injEq,true_and] at k1'
    simp only [Option.some.injEq,Value.slice.injEq,true_and] at k3'
    obtain ⟨rfl,-⟩:=k3'
    have hm:Sl.mask L = Sl.mask M:=by omega
    have hg:∀ a:Nat,a < 2 ^ k→Sl.get L (a:Int) = Sl.get M (a:Int):=fun a ha => by
      have h1:=Sl.mask_testBit L a
      have h2:=Sl.mask_testBit M a
      rw [hm,h2] at h1
      have h3:=rdV_same r.rd r'.rd (Sn.elV_get (Sl.row_get none L ha)) (Sn.elV_get (Sl.row_get none M ha))
      simp only [Value.pointer.injEq] at h3
      unfold Sl.has at h1
      cases e1:Sl.get L (a:Int) with
      | none =>
        rw [e1] at h1
        cases e2:Sl.get M (a:Int) with
        | none => rfl
        | some v => rw [e2] at h1;cases h1
      | some u =>
        rw [e1] at h1 h3
        cases e2:Sl.get M (a:Int) with
        | none => rw [e2] at h1;cases h1
        | some v =>
          rw [e2] at h3
          have h4:u = v:=h3
          rw [h4]
    refine srt_ext wL.srt wM.srt fun e => ⟨fun he => ?_,fun he => ?_⟩
    · have h1:=Sl.get_of_mem wL.srt he
      rw [hg e.1 (wL.lt e he)] at h1
      exact (Sl.get_iff wM.srt).1 h1
    · have h1:=Sl.get_of_mem wM.srt he
      rw [← hg e.1 (wM.lt e he)] at h1
      exact (Sl.get_iff wL.srt).1 h1
theorem ndAt_uniq {w:World} {B B' g:Nat} {lev lev':Int} {pre pre':List Nat} {v v':Nat} {kp kp':Option Addr} {s s':S4} (h:NdAt w B g lev pre v kp s) (h':NdAt w B' g lev' pre' v' kp' s'):lev = lev'∧pre = pre'∧v = v'∧kp = kp':=by
  obtain ⟨-,⟨A,c,hp,h1⟩,h0,h2,h3,-⟩:=h
  obtain ⟨-,⟨A',c',hp',h1'⟩,h0',h2',h3',-⟩:=h'
  rw [h0] at h0'
  rw [h1] at h1'
  rw [h2] at h2'
  rw [h3] at h3'
  simp only [Option.some.injEq,Value.int.injEq,true_and] at h0' h2'
  simp only [Option.some.injEq,Value.slice.injEq] at h1'
  simp only [Option.some.injEq,Value.pointer.injEq] at h3'
  obtain ⟨rfl,hl,-⟩:=h1'
  exact ⟨h0',pts_same hp hp' hl,by omega,h3'⟩
theorem entsL_same {P:T→Prop}:∀ {ks ls:List (Nat × T)},kidL ks = kidL ls→(∀ x∈ks,∀ y,P y→x.2.blk = y.blk→x.2.ents = y.ents)→(∀ y∈ls,P y.2)→Tr.entsL ks = Tr.entsL ls
  | [],[],_,_,_ => rfl
  | [],y :: ls,h,_,_ => by simp [kidL] at h
  | x :: ks,[],h,_,_ => by simp [kidL] at h
  | x :: ks,y :: ls,h,h1,h2 => by
    simp only [kidL,List.map_cons,List.cons.injEq,Prod.mk.injEq,Option.some.injEq,Addr.mk.injEq,and_true] at h
    rw [Tr.entsL_cons,Tr.entsL_cons,h1 x List.mem_cons_self y.2 (h2 y List.mem_cons_self) h.1.2,entsL_same (P:=P) h.2 (fun z hz => h1 z (List.mem_cons_of_mem _ hz)) (fun z hz => h2 z (List.mem_cons_of_mem _ hz))]
theorem mem_uniq {w:World} {B B' k:Nat} {x:T} (h:Mem w B k x):∀ {y:T},Mem w B' k y→x.blk = y.blk→x.ents = y.ents:=by
  induction h with
  | ent g p v h hwb =>
    intro y hy e
    cases hy with
    | ent g' p' v' h' _ =>
      have e:g = g':=e
      subst e
      obtain ⟨-,rfl,rfl,-⟩:=ndAt_uniq h h'
      exact (Tr.ents_ent _ _ _).trans (Tr.ents_ent _ _ _).symm
    | br g' l pre ks b h' ha hk _ =>
      have e:g = g':=e
      subst e
      obtain ⟨h1,-⟩:=ndAt_uniq h h'
      omega
  | br g l pre ks b h ha hk hwb ih =>
    intro y hy e
    cases hy with
    | ent g' p' v' h' _ =>
      have e:g = g':=e
      subst e
      obtain ⟨h1,-⟩:=ndAt_uniq h h'
      omega
    | br g' l' pre' ks' b' h' ha' hk' _ =>
      have e:g = g':=e
      subst e
      obtain ⟨-,-,-,h4⟩:=ndAt_uniq h h'
      simp only [Option.some.injEq,Addr.mk.injEq,and_true] at h4
      subst h4
      have h5:=at_uniq ha ha'
      rw [Tr.ents_br,Tr.ents_br]
      exact entsL_same (P:=Mem w B' k) h5 (fun x hx y hy e => ih x hx hy e) (fun y hy => hk' y hy)
theorem node_same {w:World} {B B' k:Nat} {x y:T} (h:Node w B k x) (h':Node w B' k y) (e:x.blk = y.blk):x.ents = y.ents:=mem_uniq h.2 h'.2 e
theorem nodeO_same {w:World} {B B' k:Nat} {x y:Option T} (h:NodeO w B k x) (h':NodeO w B' k y) (e:rootP x = rootP y):Tr.entsO x = Tr.entsO y:=by
  cases x with
  | none =>
    cases y with
    | none => rfl
    | some t => cases e
  | some s =>
    cases y with
    | none => cases e
    | some t =>
      simp only [rootP,Option.some.injEq,Addr.mk.injEq,and_true] at e
      exact node_same (h s rfl) (h' t rfl) e
end Go.Proofs.YtkeepngaaleakaaGreatDoor
namespace Go.Proofs.YtkeepngaaleakaaGreatDoor
open Go.ChangeShapes Go.WideShapes Go.ChangeAt Go.RowKit
open Tr (T S4 Ent Sd Fl)
abbrev sdV (p:Option Addr) (kd:Bool) (a:Nat):Value:=.agg #[.pointer p,.bool kd,.int .i64 (a:Int)]
theorem dHas_c (p:Option Addr) (kd:Bool) (a b:Nat) (w:World) :
    Calls Tryz.prog 234 #[sdV p kd a,.int .i64 (b:Int)] w fun e w' => ∃ r,e = .returned (.bool r)∧Below w.heap.size w w':=by
  have hb:=below_alloc w (.cells #[.pointer p,.bool kd,.int .i64 (a:Int)] 252)
  cases kd with
  | true =>
    go_enter Tryz.func234,Tryz.ntmps234
    go_wp2
    go_ret
    exact ⟨_,rfl,hb⟩
  | false =>
    go_enter Tryz.func234,Tryz.ntmps234
    go_wp2
    go_ret
    exact ⟨_,rfl,hb⟩
theorem dFrom_kno {w:World} {B k:Nat} {t:T} (h:Node w B k t) (hB:B≤w.heap.size) (hT:∀ w',Below w.heap.size w w'→Tz w') (a n:Nat) (hn:n≤65536) (hd:t.ks[Sl.idx t.ks (n:Int)]? = none) :
    Calls Tryz.prog 233 #[sdV (some ⟨t.blk,0,none⟩) true a,.int .i64 (n:Int)] w fun e w' => e = .returned (.tuple #[.int .i64 65536,.pointer none])∧Below w.heap.size w w':=by
  have HF:Hid (∀ w1,Below w.heap.size w w1→Calls Tryz.prog 149 #[.pointer (some ⟨t.blk,0,none⟩),.int .i64 (n:Int)] w1 fun e w' => e = .returned (atKid 0 none)∧Below w.heap.size w w'):=Lib.hid fun w1 hb =>
    (nFrom_c (h.below hb hB (Nat.le_refl _)).2 (hT w1 hb) (n:Int) (by omega) (by omega) (0,none) (by rw [hd];rfl)).mono fun e w' ⟨he,m,hw⟩ => ⟨he,by rw [hw];exact below_drewN _ hb⟩
  have hb0:=below_alloc w (.cells #[.pointer (some ⟨t.blk,0,none⟩),.bool true,.int .i64 (a:Int)] 252)
  clear h hB hT hn hd
  go_enter Tryz.func233,Tryz.ntmps233
  go_wp2_with fail
  go_quiet (fail)
  have hb1:=below_drewN nq hb0
  go_wp2_with (go_at_call 149;refine (HF.out _ hb1).mono ?_;rintro e w2 ⟨rfl,hb2⟩)
  go_ret2
  exact ⟨rfl,hb2⟩
theorem dFrom_kyes {w:World} {B k:Nat} {t s:T} (h:Node w B k t) (hB:B≤w.heap.size) (hT:∀ w',Below w.heap.size w w'→Tz w') (a n b:Nat) (hn:n≤65536) (hd:t.ks[Sl.idx t.ks (n:Int)]? = some (b,s)) :
    Calls Tryz.prog 233 #[sdV (some ⟨t.blk,0,none⟩) true a,.int .i64 (n:Int)] w fun e w' => e = .returned (.tuple #[.int .i64 (b:Int),.pointer (some ⟨s.blk,0,none⟩)])∧Below w.heap.size w w':=by
  have HF:Hid (∀ w1,Below w.heap.size w w1→Calls Tryz.prog 149 #[.pointer (some ⟨t.blk,0,none⟩),.int .i64 (n:Int)] w1 fun e w' => e = .returned (atKid b (some ⟨s.blk,0,none⟩))∧Below w.heap.size w w'):=Lib.hid fun w1 hb =>
    (nFrom_c (h.below hb hB (Nat.le_refl _)).2 (hT w1 hb) (n:Int) (by omega) (by omega) (b,some ⟨s.blk,0,none⟩) (by rw [hd];rfl)).mono fun e w' ⟨he,m,hw⟩ => ⟨he,by rw [hw];exact below_drewN _ hb⟩
  have hb0:=below_alloc w (.cells #[.pointer (some ⟨t.blk,0,none⟩),.bool true,.int .i64 (a:Int)] 252)
  have hge:n≤b:=by
    have:=Sl.idx_at t.ks (n:Int) (b,s) hd
    simp only at this
    omega
  have d1:decide ((b:Int) < (n:Int)) = false:=decide_eq_false (by omega)
  have d1':decide (b < n) = false:=decide_eq_false (by omega)
  clear h hB hT hn hd hge
  go_enter Tryz.func233,Tryz.ntmps233
  go_wp2_with fail
  go_quiet (fail)
  have hb1:=below_drewN nq hb0
  go_wp2_with (go_at_call 149;refine (HF.out _ hb1).mono ?_;rintro e w2 ⟨rfl,hb2⟩)
  go_ret2
  exact ⟨rfl,hb2⟩
theorem dFrom_one (p:Addr) (w:World) (a n:Nat) (r:Bool) (hr:decide (a < n) = r) :
    Calls Tryz.prog 233 #[sdV (some p) false a,.int .i64 (n:Int)] w fun e w' => e = .returned (.tuple #[.int .i64 (if r then 65536 else (a:Int)),.pointer (if r then none else some p)])∧Below w.heap.size w w':=by
  have hb0:=below_alloc w (.cells #[.pointer (some p),.bool false,.int .i64 (a:Int)] 252)
  have d1:decide ((a:Int) < (n:Int)) = r:=by rw [← hr];simp
  cases r with
  | true =>
    go_enter Tryz.func233,Tryz.ntmps233
    go_wp2_with fail
    go_quiet (fail)
    have hb1:=below_drewN nq hb0
    go_wp2_with fail
    go_ret2
    exact ⟨rfl,hb1⟩
  | false =>
    go_enter Tryz.func233,Tryz.ntmps233
    go_wp2_with fail
    go_quiet (fail)
    have hb1:=below_drewN nq hb0
    go_wp2_with fail
    go_ret2
    exact ⟨rfl,hb1⟩
theorem idx_single (a:Nat) (t:T) (n:Nat):Tr.dropF [(a,t)] n = if decide (a < n) = true then [] else [(a,t)]:=by
  by_cases c:a < n
  · rw [if_pos (decide_eq_true c)]
    have h0:=Tr.dropF_skip (L:=[(a,t)]) (List.pairwise_singleton _ _) (n:=a + 1) (m:=n) c (fun x xs e => by
      rw [Tr.dropF_step (List.pairwise_singleton _ _) (n:=0) (x:=(a,t)) (xs:=[]) (Tr.dropF_zero _)] at e
      cases e)
    rw [h0]
    exact Tr.dropF_step (List.pairwise_singleton _ _) (n:=0) (x:=(a,t)) (xs:=[]) (Tr.dropF_zero _)
  · rw [if_neg (by simpa using c),Tr.dropF_skip (L:=[(a,t)]) (List.pairwise_singleton _ _) (n:=0) (m:=n) (Nat.zero_le _) (fun x xs e => by rw [Tr.dropF_zero] at e;cases e;exact Nat.le_of_not_lt c),Tr.dropF_zero]
theorem dFrom_c {w:World} {B k:Nat} {s:Sd} (h:Node w B k s.t) (hB:B≤w.heap.size) (hT:∀ w',Below w.heap.size w w'→Tz w') (n:Nat) (hn:n≤65536) (i:Nat) (o:Option T) (hi:Tr.hdA (Tr.dropF s.L n) = i) (ho:Tr.hdT (Tr.dropF s.L n) = o) :
    Calls Tryz.prog 233 #[sdV (some ⟨s.t.blk,0,none⟩) s.kd s.a,.int .i64 (n:Int)] w fun e w' => e = .returned (.tuple #[.int .i64 (i:Int),.pointer (rootP o)])∧Below w.heap.size w w':=by
  subst hi ho
  obtain ⟨t,kd,a⟩:=s
  cases kd with
  | true =>
    have hL:(Sd.mk t true a).L = t.ks:=rfl
    simp only [hL]
    cases hd:Tr.dropF t.ks n with
    | nil =>
      have h1:t.ks[Sl.idx t.ks (n:Int)]? = none:=by rw [Tr.dropF_head,hd];rfl
      exact dFrom_kno h hB hT a n hn h1
    | cons x xs => exact dFrom_kyes h hB hT a n x.1 hn (Tr.dropF_at hd)
  | false =>
    have hL:(Sd.mk t false a).L = [(a,t)]:=rfl
    simp only [hL,idx_single]
    refine (dFrom_one ⟨t.blk,0,none⟩ w a n (decide (a < n)) rfl).mono fun e w' he => ?_
    by_cases c:a < n
    · simp only [decide_eq_true c,if_true] at he ⊢;exact he
    · simp only [decide_eq_false c] at he ⊢;exact he
/-! ### sideOf,stepOf -/
theorem dSide_c {w:World} {B k:Nat} {t:T} (h:Node w B k t) (hB:B≤w.heap.size) (A:Option Addr) (c:Nat) (hp:Pts w w.heap.size A t.pre) (l:Nat) (hl:l≤63) {n:Nat} (hn:t.pre.length = n) {a:Nat} (ha:Z.addr t.pre l = a) {r:Bool} (hr:decide (t.lv = l + 1) = r) :
    Calls Tryz.prog 232 #[.pointer (some ⟨t.blk,0,none⟩),.slice A n c,.int .i64 (l:Int)] w fun e w' => e = .returned (sdV (some ⟨t.blk,0,none⟩) r a)∧Below w.heap.size w w':=by
  obtain ⟨kp,hnd⟩:=h.2.nd
  have hlen:=h.1.len
  have k1:=h.1.k1
  have k16:=h.1.k16
  have hb0:=below_alloc w (.cells #[.pointer none,.bool false,.int .i64 0] 252)
  have HA:=Lib.hid fun (w1:World) (hb:Below w.heap.size w w1) => addr_yes A c t.pre l w.heap.size w1 (hp.below' hb (Nat.le_refl _)) (by omega) (by omega) hl
  have HL:=Lib.hid fun (w1:World) (hb:Below w.heap.size w w1) => nLevel_c (hnd.below hb hB (Nat.le_refl _))
  have d1:(levI t == (l:Int)) = r:=by
    rw [← hr]
    unfold levI
    by_cases c:t.lv = l + 1
    · rw [decide_eq_true c,beq_iff_eq];omega
    · rw [decide_eq_false c,beq_eq_false_iff_ne];omega
  rw [ha,hn] at HA
  clear h hB hp hl hn ha hr hnd hlen k1 k16
  generalize levI t = lv at *
  go_enter Tryz.func232,Tryz.ntmps232
  go_wp2_with (first
    | (go_at_call 160;refine (HA.out _ hb0).mono ?_;rintro e w' ⟨rfl,rfl⟩)
    | (go_at_call 120;refine (HL.out _ hb0).mono ?_;rintro e w' ⟨rfl,rfl⟩))
  refine bodyPost_ret (v:=sdV (some ⟨t.blk,0,none⟩) r a) (by simp [results,Tryz.results232,go_sem]) rfl ?_
  exact ⟨rfl,below_alloc _ _⟩
theorem dSide_no {w:World} {B k:Nat} {t:T} (h:Node w B k t) (hB:B≤w.heap.size) (A:Option Addr) (c:Nat) {n:Nat} (hn:t.pre.length = n) (h0:t.lv = 0) :
    Calls Tryz.prog 232 #[.pointer (some ⟨t.blk,0,none⟩),.slice A n c,.int .i64 (-1)] w fun e w' => e = .returned (sdV (some ⟨t.blk,0,none⟩) true 0)∧Below w.heap.size w w':=by
  obtain ⟨kp,hnd⟩:=h.2.nd
  have hlen:=h.1.len
  have k1:=h.1.k1
  have k16:=h.1.k16
  have hb0:=below_alloc w (.cells #[.pointer none,.bool false,.int .i64 0] 252)
  have HA:=Lib.hid fun (w1:World) => addr_arg A n c (-1) w1 (by omega) (by omega) (by omega)
  have hlv:levI t = -1:=by simp only [levI,h0];omega
  rw [hlv] at hnd
  have HL:=Lib.hid fun (w1:World) (hb:Below w.heap.size w w1) => nLevel_c (hnd.below hb hB (Nat.le_refl _))
  clear h hB hn hnd hlen k1 k16 hlv h0
  go_enter Tryz.func232,Tryz.ntmps232
  go_wp2_with (first
    | (go_at_call 160;refine (HA.out _).mono ?_;rintro e w' ⟨rfl,rfl⟩)
    | (go_at_call 120;refine (HL.out _ hb0).mono ?_;rintro e w' ⟨rfl,rfl⟩))
  refine bodyPost_ret (v:=sdV (some ⟨t.blk,0,none⟩) true 0) (by simp [results,Tryz.results232,go_sem]) rfl ?_
  exact ⟨rfl,below_alloc _ _⟩
abbrev prV (x:Option Addr) (kx:Bool) (ax:Nat) (y:Option Addr) (ky:Bool) (ay n:Nat):Value:=.agg #[.pointer x,.bool kx,.int .i64 (ax:Int),.pointer y,.bool ky,.int .i64 (ay:Int),.int .i64 (n:Int)]
theorem max3_1 {p x y l:Int} (h:(if p < x then x else p) < y) (hm:max (max p x) y = l):l = y:=by
  split at h <;> omega
theorem max3_2 {p x y l:Int} (h:y≤(if p < x then x else p)) (h':p < x) (hm:max (max p x) y = l):l = x:=by
  rw [if_pos h'] at h
  omega
theorem max3_3 {p x y l:Int} (h:y≤(if p < x then x else p)) (h':x≤p) (hm:max (max p x) y = l):l = p:=by
  rw [if_neg (by omega)] at h
  omega
theorem cells_set7 {w:World} {g:Nat} {a0 a1 a2 a3 a4 a5 a6:Value} {ty:TypeId} (b0 b1 b2 b3 b4 b5 b6:Value) (h:w.heap[g]? = some (.cells #[a0,a1,a2,a3,a4,a5,a6] ty (0,0))) :
    (((((((w.setCell ⟨g,0,none⟩ b0).setCell ⟨g,1,none⟩ b1).setCell ⟨g,2,none⟩ b2).setCell ⟨g,3,none⟩ b3).setCell ⟨g,4,none⟩ b4).setCell ⟨g,5,none⟩ b5).setCell ⟨g,6,none⟩ b6).heap[g]? = some (.cells #[b0,b1,b2,b3,b4,b5,b6] ty (0,0)):=by
  have h1:=heap_setCell_same _ g 0 _ ty b0 h
  rw [show (#[a0,a1,a2,a3,a4,a5,a6]:Array Value).setIfInBounds 0 b0 = #[b0,a1,a2,a3,a4,a5,a6] by simp] at h1
  have h2:=heap_setCell_same _ g 1 _ ty b1 h1
  rw [show (#[b0,a1,a2,a3,a4,a5,a6]:Array Value).setIfInBounds 1 b1 = #[b0,b1,a2,a3,a4,a5,a6] by simp] at h2
  have h3:=heap_setCell_same _ g 2 _ ty b2 h2
  rw [show (#[b0,b1,a2,a3,a4,a5,a6]:Array Value).setIfInBounds 2 b2 = #[b0,b1,b2,a3,a4,a5,a6] by simp] at h3
  have h4:=heap_setCell_same _ g 3 _ ty b3 h3
  rw [show (#[b0,b1,b2,a3,a4,a5,a6]:Array Value).setIfInBounds 3 b3 = #[b0,b1,b2,b3,a4,a5,a6] by simp] at h4
  have h5:=heap_setCell_same _ g 4 _ ty b4 h4
  rw [show (#[b0,b1,b2,b3,a4,a5,a6]:Array Value).setIfInBounds 4 b4 = #[b0,b1,b2,b3,b4,a5,a6] by simp] at h5
  have h6:=heap_setCell_same _ g 5 _ ty b5 h5
  rw [show (#[b0,b1,b2,b3,b4,a5,a6]:Array Value).setIfInBounds 5 b5 = #[b0,b1,b2,b3,b4,b5,a6] by simp] at h6
  have h7:=heap_setCell_same _ g 6 _ ty b6 h6
  rw [show (#[b0,b1,b2,b3,b4,b5,a6]:Array Value).setIfInBounds 6 b6 = #[b0,b1,b2,b3,b4,b5,b6] by simp] at h7
  exact h7
set_option maxRecDepth 100000 in
set_option maxHeartbeats 4000000 in
theorem dStep_any {w:World} {B k:Nat} {x y:T} (hx:Node w B k x) (hy:Node w B k y) (hB:B≤w.heap.size) {l:Int} (hl:Tr.lvl x y = l) {r:Bool} (hr:decide (0≤l) = r) {kx ky:Bool} {ax ay:Nat}
    (HX:∀ (w1:World) (A:Option Addr) (c:Nat),Below w.heap.size w w1→Pts w1 w1.heap.size A x.pre→Calls Tryz.prog 232 #[.pointer (some ⟨x.blk,0,none⟩),.slice A k c,.int .i64 l] w1 fun e w' => e = .returned (sdV (some ⟨x.blk,0,none⟩) kx ax)∧Below w1.heap.size w1 w')
    (HY:∀ (w1:World) (A:Option Addr) (c:Nat),Below w.heap.size w w1→Pts w1 w1.heap.size A y.pre→Calls Tryz.prog 232 #[.pointer (some ⟨y.blk,0,none⟩),.slice A k c,.int .i64 l] w1 fun e w' => e = .returned (sdV (some ⟨y.blk,0,none⟩) ky ay)∧Below w1.heap.size w1 w') :
    Calls Tryz.prog 183 #[.pointer (some ⟨x.blk,0,none⟩),.pointer (some ⟨y.blk,0,none⟩)] w fun e w' => e = .returned (.tuple #[prV (some ⟨x.blk,0,none⟩) kx ax (some ⟨y.blk,0,none⟩) ky ay 0,.bool r])∧Below w.heap.size w w':=by
  obtain ⟨kpx,hnx⟩:=hx.2.nd
  obtain ⟨kpy,hny⟩:=hy.2.nd
  have lx:=hx.1.len
  have ly:=hy.1.len
  have k1:=hx.1.k1
  have k16:=hx.1.k16
  obtain ⟨p,hp⟩:∃ p,x.pre = p:=⟨_,rfl⟩
  obtain ⟨q,hq⟩:∃ q,y.pre = q:=⟨_,rfl⟩
  obtain ⟨pl,hpl⟩:∃ pl,Z.part p q = pl:=⟨_,rfl⟩
  rw [hp] at hnx lx HX
  rw [hq] at hny ly HY
  have hb0:=below_alloc w (.cells #[.pointer none,.bool false,.int .i64 0,.pointer none,.bool false,.int .i64 0,.int .i64 0] 254)
  have H1:Hid (∀ w1,Below w.heap.size w w1→Calls Tryz.prog 121 #[.pointer (some ⟨x.blk,0,none⟩)] w1 fun e w' => ∃ h d,e = .returned (.slice (some ⟨h,0,none⟩) k d)∧Pts w' w'.heap.size (some ⟨h,0,none⟩) p∧Below w1.heap.size w1 w'):=Lib.hid fun w1 hb => by
    have hh:=nPrefix_c (hnx.below hb hB (Nat.le_refl _)) (Nat.le_trans hB hb.size) (by intro e;rw [e] at lx;simp at lx;omega) (by omega)
    rw [lx] at hh
    refine hh.mono ?_
    rintro e w' ⟨h,d,he,ho,hb'⟩
    obtain ⟨A',c',hv,hp'⟩:=ho.pts
    rw [lx] at hv
    simp only [Value.slice.injEq] at hv
    obtain ⟨rfl,-,rfl⟩:=hv
    exact ⟨h,d,he,hp',hb'⟩
  have H2:Hid (∀ w1,Below w.heap.size w w1→Calls Tryz.prog 121 #[.pointer (some ⟨y.blk,0,none⟩)] w1 fun e w' => ∃ h d,e = .returned (.slice (some ⟨h,0,none⟩) k d)∧Pts w' w'.heap.size (some ⟨h,0,none⟩) q∧Below w1.heap.size w1 w'):=Lib.hid fun w1 hb => by
    have hh:=nPrefix_c (hny.below hb hB (Nat.le_refl _)) (Nat.le_trans hB hb.size) (by intro e;rw [e] at ly;simp at ly;omega) (by omega)
    rw [ly] at hh
    refine hh.mono ?_
    rintro e w' ⟨h,d,he,ho,hb'⟩
    obtain ⟨A',c',hv,hp'⟩:=ho.pts
    rw [ly] at hv
    simp only [Value.slice.injEq] at hv
    obtain ⟨rfl,-,rfl⟩:=hv
    exact ⟨h,d,he,hp',hb'⟩
  have HP:Hid (∀ (w1:World) (A A':Option Addr) (c c':Nat),Pts w1 w1.heap.size A p→Pts w1 w1.heap.size A' q→Calls Tryz.prog 152 #[.slice A k c,.slice A' k c'] w1 fun e w' => e = .returned (.tuple #[.int .i64 pl,.int .i64 0])∧w1 = w'):=Lib.hid fun w1 A A' c c' h1 h2 => by
    have hh:=part_yes A A' c c' p q w1.heap.size w1 h1 h2 (by omega) (by omega) (by omega)
    rw [lx,ly,hpl] at hh
    exact hh
  have HLx:=Lib.hid fun (w1:World) (hb:Below w.heap.size w w1) => nLevel_c (hnx.below hb hB (Nat.le_refl _))
  have HLy:=Lib.hid fun (w1:World) (hb:Below w.heap.size w w1) => nLevel_c (hny.below hb hB (Nat.le_refl _))
  have hmx:max (max pl (levI x)) (levI y) = l:=by rw [← hl,← hpl,← hp,← hq];rfl
  have HX:=Lib.hid HX
  have HY:=Lib.hid HY
  have Hmx:=Lib.hid hmx
  clear hx hy hB hl hnx hny lx ly k1 k16 hp hq hpl
  obtain ⟨bx,hbx⟩:∃ b,x.blk = b:=⟨_,rfl⟩
  obtain ⟨by',hby⟩:∃ b,y.blk = b:=⟨_,rfl⟩
  obtain ⟨lx,hlx⟩:∃ b,levI x = b:=⟨_,rfl⟩
  obtain ⟨ly,hly⟩:∃ b,levI y = b:=⟨_,rfl⟩
  rw [hbx] at HX H1 HLx
  rw [hby] at HY H2 HLy
  rw [hlx] at HLx hmx
  rw [hly] at HLy hmx
  rw [hbx,hby]
  clear hbx hby hlx hly Hmx
  go_enter Tryz.func183,Tryz.ntmps183
  go_wp2_with fail
  refine (H1.out _ hb0).mono ?_
  rintro e w1 ⟨h1,d1,rfl,hp1,hb1⟩
  have hB1:=hb0.trans (hb1.mono (by simp))
  have hr1:=(hb1.block w.heap.size (by simp)).trans (heap_at w _ _ rfl)
  have K1:=Lib.hid (And.intro hp1 (And.intro hB1 hr1))
  clear H1 hp1 hb1 hB1 hr1
  go_wp2_with fail
  refine (H2.out _ K1.out.2.1).mono ?_
  rintro e w2 ⟨h2,d2,rfl,hp2,hb2⟩
  have hlt:=(Array.getElem?_eq_some_iff.1 K1.out.2.2).1
  have K2:=Lib.hid (And.intro ((K1.out.1.below' hb2 (Nat.le_refl _)).keep hb2.size (fun _ _ => rfl)) (And.intro hp2 (And.intro (K1.out.2.1.trans (hb2.mono K1.out.2.1.size)) ((hb2.block w.heap.size hlt).trans K1.out.2.2))))
  clear H2 hp2 hb2 K1 hlt
  go_upto_region 3 with ((with_reducible refine (HP.out _ _ _ _ _ K2.out.1 K2.out.2.1).mono ?_);rintro e w' ⟨rfl,rfl⟩)
  clear HP
  go_cut [8] from 20 (fun v wx => v = Value.int .i64 l∧wx = w2)
  case first =>
    go_wp2_with (first
      | ((with_reducible refine (HLx.out _ K2.out.2.2.1).mono ?_);rintro e w' ⟨rfl,rfl⟩)
      | ((with_reducible refine (HLy.out _ K2.out.2.2.1).mono ?_);rintro e w' ⟨rfl,rfl⟩))
    all_goals go_meet
    all_goals
      refine ⟨?_,rfl⟩
      first
        | rw [max3_1 (by assumption) hmx]
        | rw [max3_2 (by assumption) (by assumption) hmx]
        | rw [max3_3 (by assumption) (by assumption) hmx]
  case rest =>
  obtain ⟨rfl,rfl⟩:=hcut
  clear HLx HLy hmx
  go_wp2_with fail
  refine (HX.out _ _ _ K2.out.2.2.1 K2.out.1).mono ?_
  rintro e w3 ⟨rfl,hb3⟩
  have hlt:=(Array.getElem?_eq_some_iff.1 K2.out.2.2.2).1
  have K3:=Lib.hid (And.intro ((K2.out.2.1.below' hb3 (Nat.le_refl _)).keep hb3.size (fun _ _ => rfl)) (And.intro (K2.out.2.2.1.trans (hb3.mono K2.out.2.2.1.size)) ((hb3.block w.heap.size hlt).trans K2.out.2.2.2)))
  clear hb3 hlt
  go_wp2_with fail
  refine (HY.out _ _ _ K3.out.2.1 K3.out.1).mono ?_
  rintro e w4 ⟨rfl,hb4⟩
  have hlt:=(Array.getElem?_eq_some_iff.1 K3.out.2.2).1
  have hr4:=(hb4.block w.heap.size hlt).trans K3.out.2.2
  have K4:=Lib.hid (And.intro (K3.out.2.1.trans (hb4.mono K3.out.2.1.size)) hr4)
  have z0:w4.cell? ⟨w.heap.size,0,none⟩ = some (.pointer none):=by rw [cell_of_row w4 _ _ _ _ (0,0) hr4];rfl
  have z1:w4.cell? ⟨w.heap.size,1,none⟩ = some (.bool false):=by rw [cell_of_row w4 _ _ _ _ (0,0) hr4];rfl
  have z2:w4.cell? ⟨w.heap.size,2,none⟩ = some (.int .i64 0):=by rw [cell_of_row w4 _ _ _ _ (0,0) hr4];rfl
  have z3:w4.cell? ⟨w.heap.size,3,none⟩ = some (.pointer none):=by rw [cell_of_row w4 _ _ _ _ (0,0) hr4];rfl
  have z4:w4.cell? ⟨w.heap.size,4,none⟩ = some (.bool false):=by rw [cell_of_row w4 _ _ _ _ (0,0) hr4];rfl
  have z5:w4.cell? ⟨w.heap.size,5,none⟩ = some (.int .i64 0):=by rw [cell_of_row w4 _ _ _ _ (0,0) hr4];rfl
  have z6:w4.cell? ⟨w.heap.size,6,none⟩ = some (.int .i64 0):=by rw [cell_of_row w4 _ _ _ _ (0,0) hr4];rfl
  have zf:∀ i,w4.frozen? ⟨w.heap.size,i,none⟩ = false:=fun i => frozen_of_row w4 _ i _ _ hr4
  clear hb4 hlt hr4 HX HY K2 K3
  go_wp2_with fail
  have hr5:=cells_set7 (.pointer (some ⟨bx,0,none⟩)) (.bool kx) (.int .i64 (ax:Int)) (.pointer (some ⟨by',0,none⟩)) (.bool ky) (.int .i64 (ay:Int)) (.int .i64 0) K4.out.2
  have hb5:=(((((((K4.out.1.setCell (p:=⟨w.heap.size,0,none⟩) (Nat.le_refl _) (.pointer (some ⟨bx,0,none⟩))).setCell (p:=⟨w.heap.size,1,none⟩) (Nat.le_refl _) (.bool kx)).setCell (p:=⟨w.heap.size,2,none⟩) (Nat.le_refl _) (.int .i64 (ax:Int))).setCell (p:=⟨w.heap.size,3,none⟩) (Nat.le_refl _) (.pointer (some ⟨by',0,none⟩))).setCell (p:=⟨w.heap.size,4,none⟩) (Nat.le_refl _) (.bool ky)).setCell (p:=⟨w.heap.size,5,none⟩) (Nat.le_refl _) (.int .i64 (ay:Int))).setCell (p:=⟨w.heap.size,6,none⟩) (Nat.le_refl _) (.int .i64 0))
  generalize World.setCell _ _ _ = W5 at *
  have t0:W5.cell? ⟨w.heap.size,0,none⟩ = some (.pointer (some ⟨bx,0,none⟩)):=by rw [cell_of_row W5 _ _ _ _ (0,0) hr5];rfl
  have t1:W5.cell? ⟨w.heap.size,1,none⟩ = some (.bool kx):=by rw [cell_of_row W5 _ _ _ _ (0,0) hr5];rfl
  have t2:W5.cell? ⟨w.heap.size,2,none⟩ = some (.int .i64 (ax:Int)):=by rw [cell_of_row W5 _ _ _ _ (0,0) hr5];rfl
  have t3:W5.cell? ⟨w.heap.size,3,none⟩ = some (.pointer (some ⟨by',0,none⟩)):=by rw [cell_of_row W5 _ _ _ _ (0,0) hr5];rfl
  have t4:W5.cell? ⟨w.heap.size,4,none⟩ = some (.bool ky):=by rw [cell_of_row W5 _ _ _ _ (0,0) hr5];rfl
  have t5:W5.cell? ⟨w.heap.size,5,none⟩ = some (.int .i64 (ay:Int)):=by rw [cell_of_row W5 _ _ _ _ (0,0) hr5];rfl
  have t6:W5.cell? ⟨w.heap.size,6,none⟩ = some (.int .i64 0):=by rw [cell_of_row W5 _ _ _ _ (0,0) hr5];rfl
  refine bodyPost_ret (v:=.tuple #[prV (some ⟨bx,0,none⟩) kx ax (some ⟨by',0,none⟩) ky ay 0,.bool r]) (by simp [results,Tryz.results183,go_sem,t0,t1,t2,t3,t4,t5,t6]) rfl ?_
  exact ⟨rfl,hb5⟩
theorem dStep_c {w:World} {B k:Nat} {x y:T} (hx:Node w B k x) (hy:Node w B k y) (hB:B≤w.heap.size) {l:Nat} (hl:Tr.lvl x y = (l:Int)) (h63:l≤63) :
    Calls Tryz.prog 183 #[.pointer (some ⟨x.blk,0,none⟩),.pointer (some ⟨y.blk,0,none⟩)] w fun e w' => e = .returned (.tuple #[prV (some ⟨x.blk,0,none⟩) (Tr.sdOf x l).kd (Tr.sdOf x l).a (some ⟨y.blk,0,none⟩) (Tr.sdOf y l).kd (Tr.sdOf y l).a 0,.bool true])∧Below w.heap.size w w' :=
  dStep_any hx hy hB hl (decide_eq_true (by omega)) (fun w1 A c hb hp => dSide_c (hx.below hb hB (Nat.le_refl _)) (Nat.le_trans hB hb.size) A c hp l h63 hx.1.len rfl rfl) (fun w1 A c hb hp => dSide_c (hy.below hb hB (Nat.le_refl _)) (Nat.le_trans hB hb.size) A c hp l h63 hy.1.len rfl rfl)
theorem dStep_no {w:World} {B k:Nat} {x y:T} (hx:Node w B k x) (hy:Node w B k y) (hB:B≤w.heap.size) (hl:Tr.lvl x y = -1) (h1:x.lv = 0) (h2:y.lv = 0) :
    Calls Tryz.prog 183 #[.pointer (some ⟨x.blk,0,none⟩),.pointer (some ⟨y.blk,0,none⟩)] w fun e w' => e = .returned (.tuple #[prV (some ⟨x.blk,0,none⟩) true 0 (some ⟨y.blk,0,none⟩) true 0 0,.bool false])∧Below w.heap.size w w' :=
  dStep_any hx hy hB hl (decide_eq_false (by omega)) (fun w1 A c hb _ => dSide_no (hx.below hb hB (Nat.le_refl _)) (Nat.le_trans hB hb.size) A c hx.1.len h1) (fun w1 A c hb _ => dSide_no (hy.below hb hB (Nat.le_refl _)) (Nat.le_trans hB hb.size) A c hy.1.len h2)
def PrQ (f:Nat→Option Value) (x:Fl):Prop :=
  f 0 = some (.pointer (some ⟨x.2.x.t.blk,0,none⟩))∧f 1 = some (.bool x.2.x.kd)∧f 2 = some (.int .i64 (x.2.x.a:Int))∧f 3 = some (.pointer (some ⟨x.2.y.t.blk,0,none⟩))∧f 4 = some (.bool x.2.y.kd)∧f 5 = some (.int .i64 (x.2.y.a:Int))∧f 6 = some (.int .i64 (x.2.n:Int))
theorem prQ_ok:QOk 7 PrQ where
  ext:=by
    rintro f g s h ⟨h0,h1,h2,h3,h4,h5,h6⟩
    exact ⟨(h 0 (by omega)).symm.trans h0,(h 1 (by omega)).symm.trans h1,(h 2 (by omega)).symm.trans h2,(h 3 (by omega)).symm.trans h3,(h 4 (by omega)).symm.trans h4,(h 5 (by omega)).symm.trans h5,(h 6 (by omega)).symm.trans h6⟩
  has:=by
    rintro f s ⟨h0,h1,h2,h3,h4,h5,h6⟩ j hj
    match j,hj with
    | 0,_ => exact ⟨_,h0,rfl⟩
    | 1,_ => exact ⟨_,h1,rfl⟩
    | 2,_ => exact ⟨_,h2,rfl⟩
    | 3,_ => exact ⟨_,h3,rfl⟩
    | 4,_ => exact ⟨_,h4,rfl⟩
    | 5,_ => exact ⟨_,h5,rfl⟩
    | 6,_ => exact ⟨_,h6,rfl⟩
def nextTo (cs:Array Value) (off n:Nat):Array Value:=cs.setIfInBounds (off + 6) (.int .i64 (n:Int))
theorem next_cell {W:World} {q off n j:Nat} {cs:Array Value} {ty:TypeId} {v:Value} (h:W.heap[q]? = some (.cells (nextTo cs off n) ty (0,0))) (hc:cs[off + j]? = some v) (hj:j≠6):W.cell? ⟨q,off + j,none⟩ = some v:=by
  rw [cell_of_row W _ _ _ _ (0,0) h]
  unfold nextTo
  rw [Array.getElem?_setIfInBounds,if_neg (by omega)]
  exact hc
set_option maxRecDepth 1000000 in
set_option maxHeartbeats 2000000 in
theorem dOn_none {w:World} {B k:Nat} {x:Fl} (hx:Node w B k x.2.x.t) (hy:Node w B k x.2.y.t) (hB:B≤w.heap.size) (hT:∀ w',Below w.heap.size w w'→Tz w') {q off:Nat} {cs:Array Value} {ty:TypeId} (hq:w.heap[q]? = some (.cells cs ty (0,0))) (hc:PrQ (fun j => cs[off + j]?) x) (hn:x.2.n≤65536) (h0:Tr.remF x.2 = []) :
    Calls Tryz.prog 184 #[.pointer (some ⟨q,off,none⟩)] w fun e w' => e = .returned (.tuple #[.pointer none,.pointer none,.bool false,.bool false])∧Below w.heap.size w w':=by
  obtain ⟨e1,e2⟩:=Tr.rem_none.1 h0
  have hqs:q < w.heap.size:=(Array.getElem?_eq_some_iff.1 hq).1
  have hcell:∀ (w2:World) (j:Nat) (v:Value),Below w.heap.size w w2→cs[j]? = some v→w2.cell? ⟨q,j,none⟩ = some v:=fun w2 j v hb hj => by rw [cell_of_row w2 _ _ _ _ (0,0) ((hb.block q hqs).trans hq)];exact hj
  obtain ⟨c0,c1,c2,c3,c4,c5,c6⟩:=hc
  have m0:∀ w2,Below w.heap.size w w2→w2.cell? ⟨q,off,none⟩ = some (.pointer (some ⟨x.2.x.t.blk,0,none⟩)):=fun w2 hb => hcell w2 _ _ hb c0
  have m1:∀ w2,Below w.heap.size w w2→w2.cell? ⟨q,off + 1,none⟩ = some (.bool x.2.x.kd):=fun w2 hb => hcell w2 _ _ hb c1
  have m2:∀ w2,Below w.heap.size w w2→w2.cell? ⟨q,off + 2,none⟩ = some (.int .i64 (x.2.x.a:Int)):=fun w2 hb => hcell w2 _ _ hb c2
  have m3:∀ w2,Below w.heap.size w w2→w2.cell? ⟨q,off + 3,none⟩ = some (.pointer (some ⟨x.2.y.t.blk,0,none⟩)):=fun w2 hb => hcell w2 _ _ hb c3
  have m4:∀ w2,Below w.heap.size w w2→w2.cell? ⟨q,off + 3 + 1,none⟩ = some (.bool x.2.y.kd):=fun w2 hb => hcell w2 _ _ hb c4
  have m5:∀ w2,Below w.heap.size w w2→w2.cell? ⟨q,off + 3 + 2,none⟩ = some (.int .i64 (x.2.y.a:Int)):=fun w2 hb => hcell w2 _ _ hb c5
  have m6:∀ w2,Below w.heap.size w w2→w2.cell? ⟨q,off + 6,none⟩ = some (.int .i64 (x.2.n:Int)):=fun w2 hb => hcell w2 _ _ hb c6
  have HX:=Lib.hid fun (w2:World) (hb:Below w.heap.size w w2) => dFrom_c (w:=w2) (hx.below hb hB (Nat.le_refl _)) (Nat.le_trans hB hb.size) (fun w' h => hT w' (hb.trans (h.mono hb.size))) x.2.n hn 65536 none (by rw [e1];rfl) (by rw [e1];rfl)
  have HY:=Lib.hid fun (w2:World) (hb:Below w.heap.size w w2) => dFrom_c (w:=w2) (hy.below hb hB (Nat.le_refl _)) (Nat.le_trans hB hb.size) (fun w' h => hT w' (hb.trans (h.mono hb.size))) x.2.n hn 65536 none (by rw [e2];rfl) (by rw [e2];rfl)
  simp only [rootP] at HX HY
  have hbb:=Below.refl w.heap.size w
  clear hcell hq c0 c1 c2 c3 c4 c5 c6 hqs hx hy hB hT h0 e1 e2 hn
  obtain ⟨l,⟨⟨xt,xk,xa⟩,⟨yt,yk,ya⟩,n⟩⟩:=x
  simp only at HX HY m0 m1 m2 m3 m4 m5 m6
  go_enter Tryz.func184,Tryz.ntmps184
  go_wp2_with fail
  go_region_held3 (fun w2 => Below w.heap.size w w2) (((repeat first | refine bD ?_ | with_reducible refine bN ?_ | refine bA ?_ | refine bS ?_);first | exact bR | assumption | exact bN bR | exact bN (bN bR)))
    ((go_at_call 233;refine (HX.out _ (show Below w.heap.size w _ by ((repeat first | refine bD ?_ | with_reducible refine bN ?_ | refine bA ?_ | refine bS ?_);first | exact bR | assumption | exact bN bR | exact bN (bN bR)))).mono ?_;rintro e wc ⟨rfl,hbc⟩;have hBc:=Below.trans (show Below w.heap.size w _ by ((repeat first | refine bD ?_ | with_reducible refine bN ?_ | refine bA ?_ | refine bS ?_);first | exact bR | assumption | exact bN bR | exact bN (bN bR))) (hbc.mono (Below.size (show Below w.heap.size w _ by ((repeat first | refine bD ?_ | with_reducible refine bN ?_ | refine bA ?_ | refine bS ?_);first | exact bR | assumption | exact bN bR | exact bN (bN bR)))));clear hbc))
  clear HX
  go_wp2_with fail
  go_region_held3 (fun w2 => Below w.heap.size w w2) (((repeat first | refine bD ?_ | with_reducible refine bN ?_ | refine bA ?_ | refine bS ?_);first | exact bR | assumption | exact bN bR | exact bN (bN bR)))
    ((go_at_call 233;refine (HY.out _ (show Below w.heap.size w _ by ((repeat first | refine bD ?_ | with_reducible refine bN ?_ | refine bA ?_ | refine bS ?_);first | exact bR | assumption | exact bN bR | exact bN (bN bR)))).mono ?_;rintro e wd ⟨rfl,hbd⟩;have hBd:=Below.trans (show Below w.heap.size w _ by ((repeat first | refine bD ?_ | with_reducible refine bN ?_ | refine bA ?_ | refine bS ?_);first | exact bR | assumption | exact bN bR | exact bN (bN bR))) (hbd.mono (Below.size (show Below w.heap.size w _ by ((repeat first | refine bD ?_ | with_reducible refine bN ?_ | refine bA ?_ | refine bS ?_);first | exact bR | assumption | exact bN bR | exact bN (bN bR)))));clear hbd))
  clear HY
  go_wp2_with fail
  refine bodyPost_ret (v:=.tuple #[.pointer none,.pointer none,.bool false,.bool false]) (by simp [results,Tryz.results184,go_sem]) rfl ?_
  exact ⟨rfl,hBd⟩
set_option maxRecDepth 1000000 in
set_option maxHeartbeats 2000000 in
theorem dOn_some {w:World} {B k:Nat} {x:Fl} (hx:Node w B k x.2.x.t) (hy:Node w B k x.2.y.t) (hB:B≤w.heap.size) (hT:∀ w',Below w.heap.size w w'→Tz w') {q off:Nat} {cs:Array Value} {ty:TypeId} (hq:w.heap[q]? = some (.cells cs ty (0,0))) (hc:PrQ (fun j => cs[off + j]?) x) (hn:x.2.n≤65536) (hok:Tr.FrOk k x.1 x.2) (h0:Tr.remF x.2≠[]) :
    Calls Tryz.prog 184 #[.pointer (some ⟨q,off,none⟩)] w fun e w' => ∃ (a:Nat) (u v:Option T) (r:List Tr.Pr) (both:Bool),Tr.remF x.2 = (a,u,v) :: r∧Tr.remF (x.2.to (a + 1)) = r∧a < 65536 ∧
      e = .returned (.tuple #[.pointer (rootP u),.pointer (rootP v),.bool both,.bool true])∧w'.heap[q]? = some (.cells (nextTo cs off (a + 1)) ty (0,0))∧Foot (fun b => b = q) w w':=by
  obtain ⟨r,s1,s2,s3⟩:=Tr.rem_step hok h0
  obtain ⟨i,hi⟩:∃ i,Tr.hdA (Tr.dropF x.2.x.L x.2.n) = i:=⟨_,rfl⟩
  obtain ⟨j,hj⟩:∃ j,Tr.hdA (Tr.dropF x.2.y.L x.2.n) = j:=⟨_,rfl⟩
  obtain ⟨o1,ho1⟩:∃ o,Tr.hdT (Tr.dropF x.2.x.L x.2.n) = o:=⟨_,rfl⟩
  obtain ⟨o2,ho2⟩:∃ o,Tr.hdT (Tr.dropF x.2.y.L x.2.n) = o:=⟨_,rfl⟩
  rw [hi,hj] at s1 s2 s3
  rw [ho1,ho2] at s1
  obtain ⟨a,ha⟩:∃ a,min i j = a:=⟨_,rfl⟩
  rw [ha] at s1 s2 s3
  obtain ⟨b1,hb1⟩:∃ b,decide (a < i) = b:=⟨_,rfl⟩
  obtain ⟨b2,hb2⟩:∃ b,decide (a < j) = b:=⟨_,rfl⟩
  have hqs:q < w.heap.size:=(Array.getElem?_eq_some_iff.1 hq).1
  have hcell:∀ (w2:World) (j:Nat) (v:Value),Below w.heap.size w w2→cs[j]? = some v→w2.cell? ⟨q,j,none⟩ = some v:=fun w2 j v hb hj => by rw [cell_of_row w2 _ _ _ _ (0,0) ((hb.block q hqs).trans hq)];exact hj
  obtain ⟨c0,c1,c2,c3,c4,c5,c6⟩:=hc
  have m0:∀ w2,Below w.heap.size w w2→w2.cell? ⟨q,off,none⟩ = some (.pointer (some ⟨x.2.x.t.blk,0,none⟩)):=fun w2 hb => hcell w2 _ _ hb c0
  have m1:∀ w2,Below w.heap.size w w2→w2.cell? ⟨q,off + 1,none⟩ = some (.bool x.2.x.kd):=fun w2 hb => hcell w2 _ _ hb c1
  have m2:∀ w2,Below w.heap.size w w2→w2.cell? ⟨q,off + 2,none⟩ = some (.int .i64 (x.2.x.a:Int)):=fun w2 hb => hcell w2 _ _ hb c2
  have m3:∀ w2,Below w.heap.size w w2→w2.cell? ⟨q,off + 3,none⟩ = some (.pointer (some ⟨x.2.y.t.blk,0,none⟩)):=fun w2 hb => hcell w2 _ _ hb c3
  have m4:∀ w2,Below w.heap.size w w2→w2.cell? ⟨q,off + 3 + 1,none⟩ = some (.bool x.2.y.kd):=fun w2 hb => hcell w2 _ _ hb c4
  have m5:∀ w2,Below w.heap.size w w2→w2.cell? ⟨q,off + 3 + 2,none⟩ = some (.int .i64 (x.2.y.a:Int)):=fun w2 hb => hcell w2 _ _ hb c5
  have m6:∀ w2,Below w.heap.size w w2→w2.cell? ⟨q,off + 6,none⟩ = some (.int .i64 (x.2.n:Int)):=fun w2 hb => hcell w2 _ _ hb c6
  have HX:=Lib.hid fun (w2:World) (hb:Below w.heap.size w w2) => dFrom_c (w:=w2) (hx.below hb hB (Nat.le_refl _)) (Nat.le_trans hB hb.size) (fun w' h => hT w' (hb.trans (h.mono hb.size))) x.2.n hn i o1 hi ho1
  have HY:=Lib.hid fun (w2:World) (hb:Below w.heap.size w w2) => dFrom_c (w:=w2) (hy.below hb hB (Nat.le_refl _)) (Nat.le_trans hB hb.size) (fun w' h => hT w' (hb.trans (h.mono hb.size))) x.2.n hn j o2 hj ho2
  have hbb:=Below.refl w.heap.size w
  have h6:off + 6 < cs.size:=(Array.getElem?_eq_some_iff.1 c6).1
  have HQ:=Lib.hid (And.intro hq (And.intro hqs (And.intro h6 (And.intro s1 (And.intro s2 (And.intro s3 (And.intro hb1 hb2)))))))
  have HC:=Lib.hid (And.intro c0 (And.intro c1 (And.intro c2 (And.intro c3 (And.intro c4 c5)))))
  have zf:∀ w2,Below w.heap.size w w2→w2.frozen? ⟨q,off + 6,none⟩ = false:=fun w2 hb => frozen_of_row w2 q _ _ ty ((hb.block q hqs).trans hq)
  have e1:decide ((a:Int) < (i:Int)) = b1:=by rw [← hb1];simp
  have e2:decide ((a:Int) < (j:Int)) = b2:=by rw [← hb2];simp
  have e3:((a:Int) == 65536) = false:=by rw [beq_eq_false_iff_ne];omega
  have e4:(a:Int)≤65535:=by omega
  have e5:(0:Int)≤(a:Int):=by omega
  have hmin:min (i:Int) (j:Int) = (a:Int):=by omega
  have Hmin:=Lib.hid (And.intro ha hmin)
  clear hcell hq c0 c1 c2 c3 c4 c5 c6 hqs hx hy hB hT h0 hn h6 s1 s2 s3 hok hi hj ho1 ho2 ha hmin
  obtain ⟨p1,hp1⟩:∃ p,rootP o1 = p:=⟨_,rfl⟩
  obtain ⟨p2,hp2⟩:∃ p,rootP o2 = p:=⟨_,rfl⟩
  rw [hp1] at HX
  rw [hp2] at HY
  have HP:=Lib.hid (And.intro hp1 hp2)
  clear hp1 hp2
  obtain ⟨l,⟨⟨xt,xk,xa⟩,⟨yt,yk,ya⟩,n⟩⟩:=x
  simp only at HX HY m0 m1 m2 m3 m4 m5 m6
  go_enter Tryz.func184,Tryz.ntmps184
  go_wp2_with fail
  go_region_held3 (fun w2 => Below w.heap.size w w2) (((repeat first | refine bD ?_ | with_reducible refine bN ?_ | refine bA ?_ | refine bS ?_);first | exact bR | assumption | exact bN bR | exact bN (bN bR)))
    ((go_at_call 233;refine (HX.out _ (show Below w.heap.size w _ by ((repeat first | refine bD ?_ | with_reducible refine bN ?_ | refine bA ?_ | refine bS ?_);first | exact bR | assumption | exact bN bR | exact bN (bN bR)))).mono ?_;rintro e wc ⟨rfl,hbc⟩;have hBc:=Below.trans (show Below w.heap.size w _ by ((repeat first | refine bD ?_ | with_reducible refine bN ?_ | refine bA ?_ | refine bS ?_);first | exact bR | assumption | exact bN bR | exact bN (bN bR))) (hbc.mono (Below.size (show Below w.heap.size w _ by ((repeat first | refine bD ?_ | with_reducible refine bN ?_ | refine bA ?_ | refine bS ?_);first | exact bR | assumption | exact bN bR | exact bN (bN bR)))));clear hbc))
  clear HX
  go_wp2_with fail
  go_region_held3 (fun w2 => Below w.heap.size w w2) (((repeat first | refine bD ?_ | with_reducible refine bN ?_ | refine bA ?_ | refine bS ?_);first | exact bR | assumption | exact bN bR | exact bN (bN bR)))
    ((go_at_call 233;refine (HY.out _ (show Below w.heap.size w _ by ((repeat first | refine bD ?_ | with_reducible refine bN ?_ | refine bA ?_ | refine bS ?_);first | exact bR | assumption | exact bN bR | exact bN (bN bR)))).mono ?_;rintro e wd ⟨rfl,hbd⟩;have hBd:=Below.trans (show Below w.heap.size w _ by ((repeat first | refine bD ?_ | with_reducible refine bN ?_ | refine bA ?_ | refine bS ?_);first | exact bR | assumption | exact bN bR | exact bN (bN bR))) (hbd.mono (Below.size (show Below w.heap.size w _ by ((repeat first | refine bD ?_ | with_reducible refine bN ?_ | refine bA ?_ | refine bS ?_);first | exact bR | assumption | exact bN bR | exact bN (bN bR)))));clear hbd))
  clear HY
  have z6:=m6 _ hBd
  have zf:=zf _ hBd
  clear m0 m1 m2 m3 m4 m5 m6
  try go_upto_region 3 with fail
  go_cut [8] from 33 (fun v wx => v = Value.int .i64 (a:Int)∧wx = wd)
  case first =>
    go_wp2_with fail
    go_meet
    exact ⟨by rw [Hmin.out.2],rfl⟩
  case rest =>
  obtain ⟨rfl,hwc⟩:=hcut
  rw [hwc]
  clear hwc
  have hq3:(wd.setCell ⟨q,off + 6,none⟩ (.int .i64 ((a:Int) + 1))).heap[q]? = some (.cells (nextTo cs off (a + 1)) ty (0,0)):=by
    have h:=heap_setCell_same wd q (off + 6) _ ty (.int .i64 ((a:Int) + 1)) ((hBd.block q HQ.out.2.1).trans HQ.out.1)
    exact h
  have hf3:Foot (fun b => b = q) w (wd.setCell ⟨q,off + 6,none⟩ (.int .i64 ((a:Int) + 1))):=(Foot.of_below (F:=fun b => b = q) hBd).trans (Foot.setCell wd (F:=fun b => b = q) (a:=⟨q,off + 6,none⟩) rfl _) (fun b hb => .inl hb)
  obtain ⟨W3,hW3⟩:∃ W3,W3 = wd.setCell ⟨q,off + 6,none⟩ (.int .i64 ((a:Int) + 1)):=⟨_,rfl⟩
  rw [← hW3] at hq3 hf3
  have n0:=next_cell (v:=Value.pointer (some ⟨xt.blk,0,none⟩)) (j:=0) hq3 HC.out.1 (by omega)
  have n1:=next_cell (v:=Value.bool xk) (j:=1) hq3 HC.out.2.1 (by omega)
  have n2:=next_cell (v:=Value.int .i64 (xa:Int)) (j:=2) hq3 HC.out.2.2.1 (by omega)
  have n3:=next_cell (v:=Value.pointer (some ⟨yt.blk,0,none⟩)) (j:=3) hq3 HC.out.2.2.2.1 (by omega)
  have n4:=next_cell (v:=Value.bool yk) (j:=4) hq3 HC.out.2.2.2.2.1 (by omega)
  have n5:=next_cell (v:=Value.int .i64 (ya:Int)) (j:=5) hq3 HC.out.2.2.2.2.2 (by omega)
  rw [Nat.add_zero] at n0
  have m3:∀ w',Below W3.heap.size W3 w'→w'.cell? ⟨q,off + 3,none⟩ = some (.pointer (some ⟨yt.blk,0,none⟩)):=fun w' hb => (hb.cell (p:=⟨q,off + 3,none⟩) (Array.getElem?_eq_some_iff.1 hq3).1).trans n3
  have m4:∀ w',Below W3.heap.size W3 w'→w'.cell? ⟨q,off + 3 + 1,none⟩ = some (.bool yk):=fun w' hb => (hb.cell (p:=⟨q,off + 3 + 1,none⟩) (Array.getElem?_eq_some_iff.1 hq3).1).trans n4
  have m5:∀ w',Below W3.heap.size W3 w'→w'.cell? ⟨q,off + 3 + 2,none⟩ = some (.int .i64 (ya:Int)):=fun w' hb => (hb.cell (p:=⟨q,off + 3 + 2,none⟩) (Array.getElem?_eq_some_iff.1 hq3).1).trans n5
  have HM:=Lib.hid (And.intro m3 (And.intro m4 m5))
  have H3:=Lib.hid (And.intro hq3 hf3)
  have HW3:=Lib.hid hW3
  clear hq3 hf3 hBd hBc HC hbb Hmin m3 m4 m5 n3 n4 n5 hW3
  have fin:∀ (u v:Option T) (w':World) (both:Bool),u = (if b1 = true then none else o1)→v = (if b2 = true then none else o2)→Below W3.heap.size W3 w'→∀ e,e = Ending.returned (.tuple #[.pointer (rootP u),.pointer (rootP v),.bool both,.bool true]) →
      ∃ (a:Nat) (u v:Option T) (r:List Tr.Pr) (both:Bool),Tr.remF ⟨⟨xt,xk,xa⟩,⟨yt,yk,ya⟩,n⟩ = (a,u,v) :: r∧Tr.remF (Tr.Fr.to ⟨⟨xt,xk,xa⟩,⟨yt,yk,ya⟩,n⟩ (a + 1)) = r∧a < 65536∧e = .returned (.tuple #[.pointer (rootP u),.pointer (rootP v),.bool both,.bool true])∧w'.heap[q]? = some (.cells (nextTo cs off (a + 1)) ty (0,0))∧Foot (fun b => b = q) w w':=by
    intro u v w' both hu hv hb e he
    obtain ⟨-,-,-,s1,s2,s3,c1,c2⟩:=HQ.out
    refine ⟨a,u,v,r,both,?_,s2,s3,he,(hb.block q (Array.getElem?_eq_some_iff.1 H3.out.1).1).trans H3.out.1,H3.out.2.trans (Foot.of_below (F:=fun b => b = q) hb) (fun b hb => .inl hb)⟩
    rw [hu,hv,← c1,← c2]
    simpa using s1
  have HF:=Lib.hid fin
  clear fin
  cases b1 with
  | true =>
    cases b2 with
    | true =>
      go_upto_region 11 with fail
      rw [← HW3.out]
      clear HW3
      go_wp2_with fail
      refine (dHas_c _ _ _ _ _).mono ?_
      rintro e w4 ⟨r1,rfl,hb4⟩
      have k3:=HM.out.1 w4 hb4
      have k4:=HM.out.2.1 w4 hb4
      have k5:=HM.out.2.2 w4 hb4
      have HB4:=Lib.hid hb4
      clear hb4 n0 n1 n2
      cases r1 with
      | false =>
        go_wp2_with fail
        refine bodyPost_ret (v:=.tuple #[.pointer none,.pointer none,.bool false,.bool true]) (by simp [results,Tryz.results184,go_sem]) rfl ?_
        exact HF.out none none _ false rfl rfl HB4.out _ rfl
      | true =>
        go_wp2_with fail
        refine (dHas_c _ _ _ _ _).mono ?_
        rintro e w5 ⟨r2,rfl,hb5⟩
        have HB5:=Lib.hid (Below.andThen HB4.out hb5)
        clear hb5 k3 k4 k5
        go_wp2_with fail
        refine bodyPost_ret (v:=.tuple #[.pointer none,.pointer none,.bool r2,.bool true]) (by simp [results,Tryz.results184,go_sem]) rfl ?_
        exact HF.out none none _ r2 rfl rfl HB5.out _ rfl
    | false =>
      go_upto_region 11 with fail
      rw [← HW3.out]
      clear HW3
      go_wp2_with fail
      refine (dHas_c _ _ _ _ _).mono ?_
      rintro e w4 ⟨r1,rfl,hb4⟩
      have k3:=HM.out.1 w4 hb4
      have k4:=HM.out.2.1 w4 hb4
      have k5:=HM.out.2.2 w4 hb4
      have HB4:=Lib.hid hb4
      clear hb4 n0 n1 n2
      cases r1 with
      | false =>
        go_wp2_with fail
        refine bodyPost_ret (v:=.tuple #[.pointer none,.pointer p2,.bool false,.bool true]) (by simp [results,Tryz.results184,go_sem]) rfl ?_
        exact HF.out none o2 _ false rfl rfl HB4.out _ (by rw [show rootP none = none from rfl,show rootP o2 = p2 from HP.out.2])
      | true =>
        go_wp2_with fail
        refine (dHas_c _ _ _ _ _).mono ?_
        rintro e w5 ⟨r2,rfl,hb5⟩
        have HB5:=Lib.hid (Below.andThen HB4.out hb5)
        clear hb5 k3 k4 k5
        go_wp2_with fail
        refine bodyPost_ret (v:=.tuple #[.pointer none,.pointer p2,.bool r2,.bool true]) (by simp [results,Tryz.results184,go_sem]) rfl ?_
        exact HF.out none o2 _ r2 rfl rfl HB5.out _ (by rw [show rootP none = none from rfl,show rootP o2 = p2 from HP.out.2])
  | false =>
    cases b2 with
    | true =>
      go_upto_region 11 with fail
      rw [← HW3.out]
      clear HW3
      go_wp2_with fail
      refine (dHas_c _ _ _ _ _).mono ?_
      rintro e w4 ⟨r1,rfl,hb4⟩
      have k3:=HM.out.1 w4 hb4
      have k4:=HM.out.2.1 w4 hb4
      have k5:=HM.out.2.2 w4 hb4
      have HB4:=Lib.hid hb4
      clear hb4 n0 n1 n2
      cases r1 with
      | false =>
        go_wp2_with fail
        refine bodyPost_ret (v:=.tuple #[.pointer p1,.pointer none,.bool false,.bool true]) (by simp [results,Tryz.results184,go_sem]) rfl ?_
        exact HF.out o1 none _ false rfl rfl HB4.out _ (by rw [show rootP o1 = p1 from HP.out.1,show rootP none = none from rfl])
      | true =>
        go_wp2_with fail
        refine (dHas_c _ _ _ _ _).mono ?_
        rintro e w5 ⟨r2,rfl,hb5⟩
        have HB5:=Lib.hid (Below.andThen HB4.out hb5)
        clear hb5 k3 k4 k5
        go_wp2_with fail
        refine bodyPost_ret (v:=.tuple #[.pointer p1,.pointer none,.bool r2,.bool true]) (by simp [results,Tryz.results184,go_sem]) rfl ?_
        exact HF.out o1 none _ r2 rfl rfl HB5.out _ (by rw [show rootP o1 = p1 from HP.out.1,show rootP none = none from rfl])
    | false =>
      go_upto_region 11 with fail
      rw [← HW3.out]
      clear HW3
      go_wp2_with fail
      refine (dHas_c _ _ _ _ _).mono ?_
      rintro e w4 ⟨r1,rfl,hb4⟩
      have k3:=HM.out.1 w4 hb4
      have k4:=HM.out.2.1 w4 hb4
      have k5:=HM.out.2.2 w4 hb4
      have HB4:=Lib.hid hb4
      clear hb4 n0 n1 n2
      cases r1 with
      | false =>
        go_wp2_with fail
        refine bodyPost_ret (v:=.tuple #[.pointer p1,.pointer p2,.bool false,.bool true]) (by simp [results,Tryz.results184,go_sem]) rfl ?_
        exact HF.out o1 o2 _ false rfl rfl HB4.out _ (by rw [show rootP o1 = p1 from HP.out.1,show rootP o2 = p2 from HP.out.2])
      | true =>
        go_wp2_with fail
        refine (dHas_c _ _ _ _ _).mono ?_
        rintro e w5 ⟨r2,rfl,hb5⟩
        have HB5:=Lib.hid (Below.andThen HB4.out hb5)
        clear hb5 k3 k4 k5
        go_wp2_with fail
        refine bodyPost_ret (v:=.tuple #[.pointer p1,.pointer p2,.bool r2,.bool true]) (by simp [results,Tryz.results184,go_sem]) rfl ?_
        exact HF.out o1 o2 _ r2 rfl rfl HB5.out _ (by rw [show rootP o1 = p1 from HP.out.1,show rootP o2 = p2 from HP.out.2])
end Go.Proofs.YtkeepngaaleakaaGreatDoor
namespace Go.Proofs.YtkeepngaaleakaaGreatDoor
open Go.ChangeShapes Go.WideShapes Go.ChangeAt Go.RowKit
open Tr (T S4 Ent Sd Fl Chg)
def TellOk (x y:Option T):Prop:=(x = none∧y≠none)∨(x≠none∧y = none)∨∃ g g' p v u,x = some (.ent g p v)∧y = some (.ent g' p u)∧v≠u
theorem tell_ne {w:World} {B k:Nat} {x y:Option T} (hx:NodeO w B k x) (hy:NodeO w B k y) (h:TellOk x y):Tr.chO x y≠[]:=by
  obtain ⟨zx,dx⟩:=entsO_zs (k:=k) (o:=x) fun t e => (hx t e).1
  obtain ⟨zy,dy⟩:=entsO_zs (k:=k) (o:=y) fun t e => (hy t e).1
  intro hn
  have he:=(Tr.chL_nil zx zy dx dy).1 hn
  rcases h with ⟨rfl,h⟩ | ⟨h,rfl⟩ | ⟨g,g',p,v,u,rfl,rfl,hne⟩
  · cases y with
    | none => exact h rfl
    | some t => exact (hy t rfl).1.ne he.symm
  · cases x with
    | none => exact h rfl
    | some t => exact (hx t rfl).1.ne he
  · simp only [Tr.entsO,Tr.ents_ent,List.cons.injEq,Prod.mk.injEq,true_and,and_true] at he
    exact hne he
structure VisitD (fid:Nat) (lb:Array Value) (B k M:Nat) (go:Bool) (Inv:List Chg→World→(Nat→Prop)→Prop):Prop where
  ent:∀ args w,(callFunc fid args).run Tryz.prog w = .ok (.enter fid args) w
  frame:∀ us w w' F,Inv us w F→w.heap.size≤w'.heap.size→(∀ b,F b→w'.heap[b]? = w.heap[b]?)→Inv us w' F
  inb:∀ us w F,Inv us w F→∀ b,F b→b < w.heap.size∧B≤b
  call:∀ us w F x y,Inv us w F→NodeO w B k x→NodeO w B k y→B≤w.heap.size→(∀ w',Below B w w'→Tz w')→TellOk x y→us.length + (Tr.chO x y).length≤M→Calls Tryz.prog fid (#[.pointer (rootP x),.pointer (rootP y)] ++ lb) w fun e w' =>
    e = .returned (.bool go)∧∃ F',Inv (us ++ Tr.chO x y) w' F'∧(∀ b,F' b→F b∨w.heap.size≤b)∧Foot F w w'
structure ThrD (B k:Nat) (C:List Chg) (go:Bool) (Inv:List Chg→World→(Nat→Prop)→Prop) (fv:Value) (w:World) (F:Nat→Prop) (P:List Chg) (S:List Fl) (D:Option Addr) (d:Nat) (w':World):Prop where
  us:∃ us F',C = us ++ (P ++ Tr.chS S)∧(go = false→us = [])∧Inv us w' F'∧(∀ b,F' b→F b∨w.heap.size≤b)∧¬ F' w.heap.size∧(∀ q,D.map (·.block) = some q→¬ F' q)
  fr:∀ x∈S,Tr.FrOk k x.1 x.2∧Node w B k x.2.x.t∧Node w B k x.2.y.t
  foot:Foot F w w'
  box:w'.heap[w.heap.size]? = some (.cells #[fv] 184 (0,0))
  stk:OwnL 254 7 PrQ w' (w.heap.size + 1) (.slice D S.length d) S.reverse
  lev:Tr.LevS S
section
variable {fid:Nat} {lb:Array Value} {B k M:Nat} {C:List Chg} {go:Bool} {Inv:List Chg→World→(Nat→Prop)→Prop} {fv:Value} {w:World} {F:Nat→Prop} {P:List Chg} {S:List Fl} {D:Option Addr} {d:Nat} {w1 w2:World}
theorem ThrD.lt (s:ThrD B k C go Inv fv w F P S D d w1):w.heap.size < w1.heap.size:=(Array.getElem?_eq_some_iff.1 s.box).1
theorem ThrD.old (hv:VisitD fid lb B k M go Inv) (hI:Inv [] w F) (hB:B≤w.heap.size) (s:ThrD B k C go Inv fv w F P S D d w1):Below B w w1:=s.foot.below hB fun b hb => (hv.inb _ _ _ hI b hb).2
theorem ThrD.below (hv:VisitD fid lb B k M go Inv) (s:ThrD B k C go Inv fv w F P S D d w1) (hb:Below w1.heap.size w1 w2):ThrD B k C go Inv fv w F P S D d w2:=by
  obtain ⟨us,F',e1,e2,e3,e4,e5,e6⟩:=s.us
  exact ⟨⟨us,F',e1,e2,hv.frame _ _ _ _ e3 hb.size (fun b hF => hb.block b (hv.inb _ _ _ e3 b hF).1),e4,e5,e6⟩,s.fr,s.foot.trans (Foot.of_below (F:=F) hb) (fun b hb => .inl hb),(hb.block _ s.lt).trans s.box,OwnL.below s.stk hb (Nat.le_refl _),s.lev⟩
theorem ThrD.to (s:ThrD B k C go Inv fv w F P S D d w1) {Q:List Chg} (h:P = Q):ThrD B k C go Inv fv w F Q S D d w1:=h ▸ s
theorem ThrD.told {x y:Option T} (hv:VisitD fid lb B k M go Inv) (s:ThrD B k C go Inv fv w F (Tr.chO x y) S D d w1) (hx:NodeO w1 B k x) (hy:NodeO w1 B k y) (hB:B≤w1.heap.size) (hT:∀ w',Below B w1 w'→Tz w') (ht:TellOk x y) (hM:C.length≤M) :
    Calls Tryz.prog fid (#[.pointer (rootP x),.pointer (rootP y)] ++ lb) w1 fun e w2 => e = .returned (.bool go) ∧
      (go = true→ThrD B k C go Inv fv w F [] S D d w2)∧(go = false→∃ us F',Inv us w2 F'∧us≠[]∧C≠[]∧(∀ b,F' b→F b∨w.heap.size≤b)∧Foot F w w2):=by
  obtain ⟨us,F',e1,e2,e3,e4,e5,e6⟩:=s.us
  have hl:=congrArg List.length e1
  rw [List.length_append,List.length_append] at hl
  have hne:=tell_ne hx hy ht
  refine (hv.call us w1 F' x y e3 hx hy hB hT ht (by omega)).mono ?_
  rintro e w2 ⟨rfl,F2,i2,hF2,hfo⟩
  have hlt:=s.lt
  have hsz:=hfo.size
  have hF2':∀ b,F2 b→F b∨w.heap.size≤b:=fun b hb => by
    rcases hF2 b hb with c | c
    · exact e4 b c
    · exact .inr (by omega)
  have hfo2:Foot F w w2:=s.foot.trans hfo e4
  refine ⟨rfl,fun hg => ?_,fun hg => ?_⟩
  · refine ⟨⟨us ++ Tr.chO x y,F2,by rw [e1];simp,fun h => (by rw [hg] at h;cases h),i2,hF2',fun hb => ?_,fun q hq hb => ?_⟩,s.fr,hfo2,?_,s.stk.block fun q hq => ?_,s.lev⟩
    · rcases hF2 _ hb with c | c
      · exact e5 c
      · omega
    · rcases hF2 _ hb with c | c
      · exact e6 q hq c
      · have:=(s.stk.lt q (by rw [own_block];exact hq)).2
        omega
    · rw [hfo.block _ hlt e5];exact s.box
    · have h1:=s.stk.lt q hq
      exact hfo.block q h1.2 (e6 q (by rw [← own_block];exact hq))
  · refine ⟨us ++ Tr.chO x y,F2,i2,fun h => hne (List.append_eq_nil_iff.1 h).2,fun h => ?_,hF2',hfo2⟩
    rw [h] at e1
    exact hne (List.append_eq_nil_iff.1 (List.append_eq_nil_iff.1 e1.symm).2).1
theorem ThrD.push {l:Nat} {f:Tr.Fr} {w5:World} {D2:Option Addr} {d2:Nat} (hv:VisitD fid lb B k M go Inv) (s:ThrD B k C go Inv fv w F P S D d w1) (hf:Tr.FrOk k l f) (hx:Node w B k f.x.t) (hy:Node w B k f.y.t) (hP:Tr.chM (Tr.remF f) = P) (hl:l + (S.length + 1)≤64) (hb:Below w1.heap.size w1 w2)
    (hown:OwnL 254 7 PrQ w5 (w.heap.size + 1) (.slice D2 (S.length + 1) d2) (S.reverse ++ [(l,f)])) (hgr:w2.grownBy w5 (D.map (·.block)))
    (hat:D2.map (·.block) = D.map (·.block)∨D2.map (·.block) = some w2.heap.size):ThrD B k C go Inv fv w F [] ((l,f) :: S) D2 d2 w5:=by
  obtain ⟨us,F',e1,e2,e3,e4,e5,e6⟩:=s.us
  have hlt:=s.lt
  have h12:=hb.size
  have hblk:∀ b,b < w1.heap.size→D.map (·.block)≠some b→w5.heap[b]? = w1.heap[b]?:=fun b hb' hne => by
    rw [hgr.block b (by omega) (fun e => hne e.symm),hb.block b hb']
  have hsz:w1.heap.size≤w5.heap.size:=Nat.le_trans hb.size hgr.size
  have hDlt:∀ q,D.map (·.block) = some q→w.heap.size + 1≤q∧q < w1.heap.size:=fun q hq => s.stk.lt q (by rw [own_block];exact hq)
  have hinb:=hv.inb _ _ _ e3
  have hft:Foot F w w5:=by
    refine s.foot.trans (F1:=fun b => D.map (·.block) = some b) ⟨?_,?_,?_,hsz,fun b hb' hne => hblk b hb' hne⟩ (fun b hb' => .inr (by have:=hDlt b hb';omega))
    · exact hgr.os.trans hb.os
    · exact hgr.tape.trans hb.tape
    · exact hgr.output.trans hb.output
  refine ⟨⟨us,F',?_,e2,hv.frame _ _ _ _ e3 hsz (fun b hF => hblk b (hinb b hF).1 (fun e => e6 b e hF)),e4,e5,fun q hq hF => ?_⟩,fun x hx' => ?_,hft,?_,?_,hl,s.lev⟩
  · rw [e1,Tr.chS_cons,hP,List.nil_append]
  · rcases hat with c | c
    · exact e6 q (by rw [← c];exact hq) hF
    · rw [c] at hq
      cases hq
      have:=(hinb _ hF).1
      omega
  · rcases List.mem_cons.1 hx' with rfl | hx'
    · exact ⟨hf,hx,hy⟩
    · exact s.fr x hx'
  · rw [hblk _ hlt (fun e => by have:=hDlt _ e;omega)]
    exact s.box
  · rw [List.reverse_cons]
    exact hown
theorem ThrD.top {x:Fl} (s:ThrD B k C go Inv fv w F P (x :: S) D d w1):∃ q cs,D = some ⟨q,0,none⟩∧w.heap.size + 1≤q∧q < w1.heap.size∧S.length + 1≤d∧w1.heap[q]? = some (.cells cs 254 (0,0))∧PrQ (fun j => cs[S.length * 7 + j]?) x:=by
  have hg:(x :: S).reverse[S.length]? = some x:=by rw [List.reverse_cons,List.getElem?_append_right (by simp)];simp
  obtain ⟨vs,h1,h2⟩:=s.stk
  rcases h2.2 with ⟨hv',hn⟩ | ⟨q,cap,cur,hv',hge,hh,hnc,hcm,hsz,hcur⟩
  · simp at hn
  · simp only [Value.slice.injEq] at hv'
    obtain ⟨rfl,-,rfl⟩:=hv'
    refine ⟨q,cur,rfl,hge,(Array.getElem?_eq_some_iff.1 hh).1,by simpa using hnc,hh,?_⟩
    refine prQ_ok.ext _ _ _ (fun j hj => ?_) (h1.2 S.length x hg)
    rw [← hcur,List.getElem?_take_of_lt (by simp;omega),Array.getElem?_toList]
theorem ThrD.on {l:Nat} {f:Tr.Fr} {a q:Nat} {x y:Option T} {r:List Tr.Pr} {cs:Array Value} (hv:VisitD fid lb B k M go Inv) (s:ThrD B k C go Inv fv w F [] ((l,f) :: S) (some ⟨q,0,none⟩) d w1)
    (hcs:w1.heap[q]? = some (.cells cs 254 (0,0))) (hq2:w2.heap[q]? = some (.cells (nextTo cs (S.length * 7) (a + 1)) 254 (0,0))) (hf:Foot (fun b => b = q) w1 w2) (ha:a < 65536)
    (hr:Tr.remF f = (a,x,y) :: r) (hr2:Tr.remF (f.to (a + 1)) = r):ThrD B k C go Inv fv w F (Tr.chO x y) ((l,f.to (a + 1)) :: S) (some ⟨q,0,none⟩) d w2:=by
  obtain ⟨us,F',e1,e2,e3,e4,e5,e6⟩:=s.us
  have hlt:=s.lt
  have hqF:¬ F' q:=e6 q rfl
  have hqlt:=(s.stk.lt q rfl)
  have hinb:=hv.inb _ _ _ e3
  have hset:OwnL 254 7 PrQ (w1.setCell ⟨q,S.length * 7 + 6,none⟩ (.int .i64 ((a + 1:Nat):Int))) (w.heap.size + 1) (.slice (some ⟨q,0,none⟩) (S.length + 1) d) (((l,f.to (a + 1)) :: S).reverse):=by
    obtain ⟨g1,hg1,r1⟩:=OwnL.set (i:=S.length) (j:=6) (x:=((l,f.to (a + 1)):Fl)) (u:=.int .i64 ((a + 1:Nat):Int)) s.stk prQ_ok (by simp) (by omega) (by
      intro g y hy hg
      rw [List.reverse_cons,List.getElem?_append_right (by simp)] at hy
      simp at hy
      subst hy
      exact ⟨hg.1,hg.2.1,hg.2.2.1,hg.2.2.2.1,hg.2.2.2.2.1,hg.2.2.2.2.2.1,rfl⟩)
    have hq1:q = g1:=by simp only [Option.some.injEq,Addr.mk.injEq] at hg1;exact hg1.1
    subst hq1
    rw [show (((l,f) :: S:List Fl).reverse).set S.length (l,f.to (a + 1)) = ((l,f.to (a + 1)) :: S:List Fl).reverse by
      simp only [List.reverse_cons]
      rw [List.set_append_right _ _ (by simp)]
      simp] at r1
    exact r1
  have hsame:w2.heap[q]? = (w1.setCell ⟨q,S.length * 7 + 6,none⟩ (.int .i64 ((a + 1:Nat):Int))).heap[q]?:=by
    rw [hq2,heap_setCell_same w1 q _ _ _ _ hcs]
    rfl
  obtain ⟨f1,f2,f3⟩:=s.fr _ List.mem_cons_self
  refine ⟨⟨us,F',?_,e2,hv.frame _ _ _ _ e3 hf.size (fun b hF => hf.block b (hinb b hF).1 (fun e => hqF (e ▸ hF))),e4,e5,e6⟩,fun z hz => ?_,s.foot.trans hf (fun b hb => .inr (by subst hb;omega)),?_,?_,s.lev⟩
  · rw [e1,Tr.chS_cons,Tr.chS_cons]
    simp only
    rw [hr,hr2,Tr.chM_cons]
    simp
  · rcases List.mem_cons.1 hz with rfl | hz
    · exact ⟨f1.to (by omega),f2,f3⟩
    · exact s.fr z (List.mem_cons_of_mem _ hz)
  · rw [hf.block _ hlt (by omega)]
    exact s.box
  · refine hset.block fun r hr => ?_
    rw [own_block] at hr
    simp only [Option.map_some,Option.some.injEq] at hr
    subst hr
    exact hsame
theorem ThrD.pop {x:Fl} (s:ThrD B k C go Inv fv w F [] (x :: S) D d w1) (hx:Tr.remF x.2 = []):ThrD B k C go Inv fv w F [] S D d w1:=by
  obtain ⟨us,F',e1,e2,e3,e4,e5,e6⟩:=s.us
  refine ⟨⟨us,F',by rw [e1,Tr.chS_cons,hx];rfl,e2,e3,e4,e5,e6⟩,fun y hy => s.fr y (List.mem_cons_of_mem _ hy),s.foot,s.box,?_,s.lev.2⟩
  have h7:=OwnL.take prQ_ok s.stk S.length (by simp)
  rw [show ((x :: S).reverse).take S.length = S.reverse by rw [List.reverse_cons,List.take_append_of_le_length (by simp),List.take_of_length_le (by simp)]] at h7
  exact h7
end
structure SloG (a:Act) (x0 x1 x2 x3 x7 x8 x10:Value):Prop where
  d:a.defers = []
  n:a.tmps.size = 68
  s0:a.tmps[0]? = some x0
  s1:a.tmps[1]? = some x1
  s2:a.tmps[2]? = some x2
  s3:a.tmps[3]? = some x3
  s7:a.tmps[7]? = some x7
  s8:a.tmps[8]? = some x8
  s10:a.tmps[10]? = some x10
theorem SloG.lit {a:Act} {x0 x1 x2 x3 x7 x8 x10:Value} (h:SloG a x0 x1 x2 x3 x7 x8 x10):∃ V:Nat→Value,a = { tmps:=#[x0,x1,x2,x3,V 4,V 5,V 6,x7,x8,V 9,x10,V 11,V 12,V 13,V 14,V 15,V 16,V 17,V 18,V 19,V 20,V 21,V 22,V 23,V 24,V 25,V 26,V 27,V 28,V 29,V 30,V 31,V 32,V 33,V 34,V 35,V 36,V 37,V 38,V 39,V 40,V 41,V 42,V 43,V 44,V 45,V 46,V 47,V 48,V 49,V 50,V 51,V 52,V 53,V 54,V 55,V 56,V 57,V 58,V 59,V 60,V 61,V 62,V 63,V 64,V 65,V 66,V 67],defers:=[] }:=by
  refine ⟨fun i => a.tmps.toList.getD i undef,?_⟩
  have e:=slotsN_arr h.n
  obtain ⟨t,d⟩:=a
  have hd:d = []:=h.d
  have h0:=slotsN_some h.s0
  have h1:=slotsN_some h.s1
  have h2:=slotsN_some h.s2
  have h3:=slotsN_some h.s3
  have h7:=slotsN_some h.s7
  have h8:=slotsN_some h.s8
  have h10:=slotsN_some h.s10
  simp only at h0 h1 h2 h3 h7 h8 h10 e
  subst hd
  rw [← h0,← h1,← h2,← h3,← h7,← h8,← h10]
  congr 1
theorem infoDStep:(Tryz.prog.info? 254).map (fun i => (i.zero,i.size,i.bytes)) = some (some (.agg #[.pointer none,.bool false,.int .i64 0,.pointer none,.bool false,.int .i64 0,.int .i64 0]),7,56):=by kernel_rfl
theorem slice_topD (w:World) (b off n c i:Nat) (h2:i≤n) (h3:n≤c) :
    (Instr.sliceAt 250 (.slice (some ⟨b,off,none⟩) n c) none (some (.int .i64 (i:Int))) none).run Tryz.prog w = .ok (.slice (some ⟨b,off,none⟩) i c) w:=by
  have ht:Tryz.prog.underlying 250 = some (.slice 254):=Tryz.underlying250
  have hel:Tryz.prog.elem 250 = 254:=by simp [Program.elem,ht]
  have hs:Tryz.prog.underlying 250 = some (.slice (Tryz.prog.elem 250)):=by rw [hel];exact ht
  have hsz:∀ w,(sizeOf 254).run Tryz.prog w = .ok 7 w:=fun w => by
    have h:(Tryz.prog.info? 254).map (·.size) = some 7:=by kernel_rfl
    obtain ⟨i0,hi0,hz⟩:=Option.map_eq_some_iff.1 h
    simp [sizeOf,typeInfo,hi0,hz]
  rw [run_sliceAt_slice w _ _ _ _ _ hs,run_slice_h w _ _ _ _ hs .i64 (i:Int) (by omega) (by omega),hel,hsz]
  simp [Result.andThen,sliced]
  intro _
  rw [Go.WideShapes.add_plain,Nat.add_zero]
theorem nptr_ne {w:World} {a b:Nat} (ha:TrB w a) (hb:TrB w b) (hne:a≠b):(binOp .eql 81 (.pointer (some ⟨a,0,none⟩)) (.pointer (some ⟨b,0,none⟩))).run Tryz.prog w = .ok (.bool false) w:=by
  obtain ⟨ca,ta,ha⟩:=ha
  obtain ⟨cb,tb,hb⟩:=hb
  have h:(Tryz.prog.info? 201).map (fun i => decide (i.size = 0)) = some false:=by kernel_rfl
  obtain ⟨j,hj,hs⟩:=Option.map_eq_some_iff.1 h
  exact run_eql_ptr_other w Tryz.underlying81 hj (by simpa using hs) (by intro e;apply hne;exact congrArg (·.block) e) ha hb
theorem lst_next2 {α:Type} {n:Nat} {Q:(Nat→Option Value)→α→Prop} {e:TypeId} {w:World} (hQ:QOk n Q) (ob:Obj) (vs:Array Value) (x:α) (hs:vs.size = n) (hx:Q (fun j => vs[j]?) x) :
    Lst n Q ((w.alloc ob).alloc (.cells vs e)) (w.heap.size + 1 + 1) (some ⟨w.heap.size + 1,0,none⟩) [x]:=by
  have h:=lst_at (e:=e) (w:=w.alloc ob) hQ vs x hs hx
  rw [World.size_alloc] at h
  exact h
theorem nptr_no1 (w:World) (a:Addr):(binOp .eql 81 (.pointer none) (.pointer (some a))).run Tryz.prog w = .ok (.bool false) w:=by
  have h2:∀ d:Nat,(Op.equalIn (d + 1) 81 (.pointer none) (.pointer (some a))).run Tryz.prog w = .ok false w:=fun d => by
    simp [Op.equalIn,run_underlying Tryz.underlying81]
  simp only [binOp]
  simp [Op.equal,Op.maxDepth,h2 9999]
theorem nptr_no2 (w:World) (a:Addr):(binOp .eql 81 (.pointer (some a)) (.pointer none)).run Tryz.prog w = .ok (.bool false) w:=by
  have h2:∀ d:Nat,(Op.equalIn (d + 1) 81 (.pointer (some a)) (.pointer none)).run Tryz.prog w = .ok false w:=fun d => by
    simp [Op.equalIn,run_underlying Tryz.underlying81]
  simp only [binOp]
  simp [Op.equal,Op.maxDepth,h2 9999]
theorem wp_scope_twoR {P:Program} {c r0 r1:Code} {Q:Exit→Act→World→Prop} {a:Act} {w:World} (J0 J1:Nat→Act→World→Prop)
    (h0:findLabel c 0 = some (Code.skip.seq r0)) (h1:findLabel c 1 = some (Code.skip.seq r1))
    (beside:∀ m a w,J0 m a w→r0.wp P (jumpsN (fun l a' w' => ∃ m',m' < m∧J2N J0 J1 l m' a' w') Q) a w)
    (down:∀ m,(∀ m' a w,m'≤m→J0 m' a w→r0.wp P (jumpsN (fun l a' w' => ∃ m',m' < m∧J2N J0 J1 l m' a' w') Q) a w) →
      ∀ a w,J1 m a w→r1.wp P (jumpsN (fun l a' w' => ∃ m',m' < m∧J2N J0 J1 l m' a' w') Q) a w)
    (first:(∀ m a w,J1 m a w→r1.wp P (jumpsN (fun l a' w' => ∃ m',J2N J0 J1 l m' a' w') Q) a w)→c.wp P (jumpsN (fun l a' w' => ∃ m',J2N J0 J1 l m' a' w') Q) a w):(Code.scope c).wp P Q a w:=by
  have dn:∀ m a w,J1 m a w→r1.wp P (jumpsN (fun l a' w' => ∃ m',m' < m∧J2N J0 J1 l m' a' w') Q) a w :=
    fun m a w h => down m (fun m' a w hm h => jumpsN_le (beside m' a w h) hm) a w h
  refine wp_scope_labelsN (fun l => match l with | 0 => Code.skip.seq r0 | _ => Code.skip.seq r1) (J2N J0 J1) ?_ (first fun m a w h => jumpsN_any (dn m a w h)) ?_
  · intro l m a w h
    match l,h with
    | 0,_ => exact h0
    | 1,_ => exact h1
  · intro l m a w h
    match l,h with
    | 0,h => exact wp_seq (wp_skip (beside m a w h))
    | 1,h => exact wp_seq (wp_skip (dn m a w h))
section
variable (B k:Nat) (C:List Chg) (go:Bool) (Inv:List Chg→World→(Nat→Prop)→Prop) (fv:Value) (w:World) (F:Nat→Prop)
structure DownD (x y:Option T) (S:List Fl) (D:Option Addr) (d:Nat) (w':World) (m:Nat):Prop where
  thr:ThrD B k C go Inv fv w F (Tr.chO x y) S D d w'
  nx:NodeO w B k x
  ny:NodeO w B k y
  ok:Tr.PairOk k (Tr.room S) x y
  cnt:m = 4 * (Tr.wgt x y + Tr.wS S) + 2 * S.length + 1
structure NextD (S:List Fl) (D:Option Addr) (d:Nat) (w':World) (m:Nat):Prop where
  thr:ThrD B k C go Inv fv w F [] S D d w'
  cnt:m = 4 * Tr.wS S + 2 * S.length + 2
end
def EndD (go:Bool) (Inv:List Chg→World→(Nat→Prop)→Prop) (C:List Chg) (w:World) (F:Nat→Prop) (e:Ending) (w':World):Prop :=
  ∃ (z:Int) (us:List Chg) (F':Nat→Prop),e = .returned (.int .i64 z)∧Inv us w' F'∧(go = true→us = C)∧(go = false→(us = []↔C = []))∧(∀ b,F' b→F b∨w.heap.size≤b)∧Foot F w w'
theorem fr_node {w:World} {B k:Nat} {f:Tr.Fr} (hx:Node w B k f.x.t) (hy:Node w B k f.y.t) {q:Tr.Pr} (hm:(∀ s,q.2.1 = some s→(q.1,s)∈f.x.L)∧∀ s,q.2.2 = some s→(q.1,s)∈f.y.L):NodeO w B k q.2.1∧NodeO w B k q.2.2:=by
  have key:∀ {s:Sd} {a:Nat} {t:T},Node w B k s.t→(a,t)∈s.L→Node w B k t:=by
    rintro ⟨t,kd,a⟩ b u h hm
    cases kd with
    | false =>
      have hm:(b,u)∈[(a,t)]:=hm
      simp only [List.mem_singleton,Prod.mk.injEq] at hm
      rw [hm.2]
      exact h
    | true =>
      have hm:(b,u)∈t.ks:=hm
      cases t with
      | ent g p v => cases hm
      | br g l pre ks => exact h.kid hm
  exact ⟨fun t e => key hx (hm.1 t e),fun t e => key hy (hm.2 t e)⟩
set_option maxRecDepth 1000000 in
set_option maxHeartbeats 8000000 in
theorem dthrough_c {fid:Nat} {lb:Array Value} {B k M:Nat} {go:Bool} {Inv:List Chg→World→(Nat→Prop)→Prop} (hv:VisitD fid lb B k M go Inv) {w:World} {F:Nat→Prop} (hI:Inv [] w F) {x y:Option T} (hx:NodeO w B k x) (hy:NodeO w B k y) (hB:B≤w.heap.size) (hT:∀ w',Below B w w'→Tz w') (hM:(Tr.chO x y).length≤M) :
    Calls Tryz.prog 134 #[.agg #[.func (.func fid) #[] lb],.pointer (rootP x),.pointer (rootP y)] w fun e w' => EndD go Inv (Tr.chO x y) w F e w':=by
  have hent:=hv.ent
  obtain ⟨C,hC⟩:∃ C,Tr.chO x y = C:=⟨_,rfl⟩
  have hal:=below_alloc w (.cells #[.func (.func fid) #[] lb] 184)
  have hFlt:∀ b,F b→b < w.heap.size∧B≤b:=hv.inb _ _ _ hI
  have hstart:DownD B k C go Inv (.func (.func fid) #[] lb) w F x y [] none 0 (w.alloc (.cells #[.func (.func fid) #[] lb] 184)) (4 * (Tr.wgt x y + Tr.wS []) + 2 * 0 + 1):=by
    refine ⟨⟨⟨[],F,by rw [hC];simp [Tr.chS_nil],fun _ => rfl,hv.frame _ _ _ _ hI hal.size (fun b hb => hal.block b (hFlt b hb).1),fun b hb => .inl hb,fun hb => ?_,fun q hq => ?_⟩,fun z hz => ?_,Foot.of_below hal,heap_at w _ _ rfl,ownL_none _ _ _,trivial⟩,hx,hy,Tr.pair_top (fun t e => (hx t e).1) (fun t e => (hy t e).1),rfl⟩
    · have:=(hFlt _ hb).1;omega
    · cases hq
    · cases hz
  have HS:=Lib.hid hstart
  have HV:=Lib.hid hv
  have HX:=Lib.hid (And.intro hI (And.intro hB (And.intro hT (show C.length≤M by rw [← hC];exact hM))))
  rw [hC]
  clear hv hI hx hy hB hT hM hstart hal hFlt hC
  obtain ⟨px,hpx⟩:∃ px,rootP x = px:=⟨_,rfl⟩
  obtain ⟨py,hpy⟩:∃ py,rootP y = py:=⟨_,rfl⟩
  have HP0:=Lib.hid (And.intro hpx hpy)
  rw [hpx,hpy]
  clear hpx hpy
  go_enter Tryz.func134,Tryz.ntmps134
  go_wp2_with fail
  refine wp_scope_twoR (fun m a' w' => ∃ (x1 x2 x10:Value) (S:List Fl) (D:Option Addr) (d:Nat) (z:Int),SloG a' (.agg #[.func (.func fid) #[] lb]) x1 x2 (.pointer (some ⟨w.heap.size,0,none⟩)) (.slice D S.length d) (.int .i64 z) x10∧NextD B k C go Inv (.func (.func fid) #[] lb) w F S D d w' m)
    (fun m a' w' => ∃ (x y:Option T) (S:List Fl) (D:Option Addr) (d:Nat) (z:Int) (b:Bool),SloG a' (.agg #[.func (.func fid) #[] lb]) (.pointer (rootP x)) (.pointer (rootP y)) (.pointer (some ⟨w.heap.size,0,none⟩)) (.slice D S.length d) (.int .i64 z) (.bool b)∧DownD B k C go Inv (.func (.func fid) #[] lb) w F x y S D d w' m) rfl rfl ?beside ?down ?first
  case first =>
    intro hp
    have HP:=Lib.hid hp
    clear hp
    go_wp2_with fail
    refine wp_label ?_
    simp only [Exit.then]
    rename_i hK
    apply hK
    exact HP.out _ _ _ ⟨x,y,[],none,0,0,true,⟨rfl,rfl,rfl,by rw [HP0.out.1];rfl,by rw [HP0.out.2];rfl,rfl,rfl,rfl,rfl⟩,HS.out⟩
  case down =>
    rintro m hbes a' w' ⟨x,y,S,D,d,z,b,hs,hI⟩
    obtain ⟨V,rfl⟩:=hs.lit
    clear hs HS HP0
    have HI:=Lib.hid hI
    have HBs:=Lib.hid hbes
    have hB':Below B w w':=hI.thr.old HV.out HX.out.1 HX.out.2.1
    have hBw:B≤w'.heap.size:=Nat.le_trans HX.out.2.1 hI.thr.foot.size
    have hT':∀ v,Below B w' v→Tz v:=fun v hv => HX.out.2.2.1 v (hB'.trans hv)
    have hnx:NodeO w' B k x:=hI.nx.below hB' (Nat.le_refl _) (Nat.le_refl _)
    have hny:NodeO w' B k y:=hI.ny.below hB' (Nat.le_refl _) (Nat.le_refl _)
    have HE:=Lib.hid (And.intro hB' (And.intro hBw (And.intro hT' (And.intro hnx hny))))
    have hcnt:=hI.cnt
    have hwp:=Tr.wgt_pos x y
    have HCn:Hid (4 * Tr.wS S + 2 * S.length + 2 < m):=Lib.hid (by omega)
    clear hI hbes hB' hBw hT' hnx hny hcnt hwp
    cases x with
    | none =>
      cases y with
      | none =>
        simp only [rootP]
        go_wp2_with fail
        go_step3
        exact ⟨_,HCn.out,_,_,_,S,D,d,z,⟨rfl,rfl,rfl,rfl,rfl,rfl,rfl,rfl,rfl⟩,HI.out.thr.to (Tr.chL_same []),rfl⟩
      | some t =>
        have HTd:=Lib.hid (HI.out.thr.told HV.out HE.out.2.2.2.1 HE.out.2.2.2.2 HE.out.2.1 HE.out.2.2.1 (.inl ⟨rfl,by simp⟩) HX.out.2.2.2)
        simp only [rootP] at HTd ⊢
        have q0:w'.cell? ⟨w.heap.size,0,none⟩ = some (.func (.func fid) #[] lb):=by rw [cell_of_row w' _ _ _ _ (0,0) HI.out.thr.box];rfl
        have hpn:=nptr_no1
        go_upto_if 17 with fail
        go_cut [8] from 18 (fun v wx => (∃ z':Int,v = Value.int .i64 z')∧wx = w')
        case first =>
          cases b
          all_goals go_wp2_with fail
          all_goals go_meet
          all_goals exact ⟨⟨_,rfl⟩,rfl⟩
        case rest =>
        obtain ⟨⟨z',rfl⟩,hwc⟩:=hcut
        rw [hwc]
        clear hwc
        go_wp2_with fail
        go_at_fn fid
        refine HTd.out.mono ?_
        rintro e w2 ⟨rfl,ht1,ht2⟩
        have HT2:=Lib.hid (And.intro ht1 ht2)
        clear ht1 ht2
        clear HTd
        cases go with
        | true =>
          go_wp2_with fail
          refine wp_label ?_
          simp only [Exit.then]
          rename_i hK
          apply hK
          exact HBs.out _ _ _ (by have:=HCn.out;omega) ⟨_,_,_,S,D,d,z',⟨rfl,rfl,rfl,rfl,rfl,rfl,rfl,rfl,rfl⟩,HT2.out.1 (by first | rfl | trivial),rfl⟩
        | false =>
          go_wp2_with fail
          simp only [jumpsN]
          refine bodyPost_ret (v:=.int .i64 z') (by simp [results,Tryz.results134,go_sem]) rfl ?_
          obtain ⟨us,F',i,hne,hC,hF,hfo⟩:=HT2.out.2 (by first | rfl | trivial)
          exact ⟨z',us,F',rfl,i,fun h => Bool.noConfusion h,fun _ => ⟨fun h => absurd h hne,fun h => absurd h hC⟩,hF,hfo⟩
    | some s =>
      cases y with
      | none =>
        have HTd:=Lib.hid (HI.out.thr.told HV.out HE.out.2.2.2.1 HE.out.2.2.2.2 HE.out.2.1 HE.out.2.2.1 (.inr (.inl ⟨by simp,rfl⟩)) HX.out.2.2.2)
        simp only [rootP] at HTd ⊢
        have q0:w'.cell? ⟨w.heap.size,0,none⟩ = some (.func (.func fid) #[] lb):=by rw [cell_of_row w' _ _ _ _ (0,0) HI.out.thr.box];rfl
        have hpn:=nptr_no2
        go_upto_if 17 with fail
        go_cut [8] from 18 (fun v wx => (∃ z':Int,v = Value.int .i64 z')∧wx = w')
        case first =>
          cases b
          all_goals go_wp2_with fail
          all_goals go_meet
          all_goals exact ⟨⟨_,rfl⟩,rfl⟩
        case rest =>
        obtain ⟨⟨z',rfl⟩,hwc⟩:=hcut
        rw [hwc]
        clear hwc
        go_wp2_with fail
        go_at_fn fid
        refine HTd.out.mono ?_
        rintro e w2 ⟨rfl,ht1,ht2⟩
        have HT2:=Lib.hid (And.intro ht1 ht2)
        clear ht1 ht2
        clear HTd
        cases go with
        | true =>
          go_wp2_with fail
          refine wp_label ?_
          simp only [Exit.then]
          rename_i hK
          apply hK
          exact HBs.out _ _ _ (by have:=HCn.out;omega) ⟨_,_,_,S,D,d,z',⟨rfl,rfl,rfl,rfl,rfl,rfl,rfl,rfl,rfl⟩,HT2.out.1 (by first | rfl | trivial),rfl⟩
        | false =>
          go_wp2_with fail
          simp only [jumpsN]
          refine bodyPost_ret (v:=.int .i64 z') (by simp [results,Tryz.results134,go_sem]) rfl ?_
          obtain ⟨us,F',i,hne,hC,hF,hfo⟩:=HT2.out.2 (by first | rfl | trivial)
          exact ⟨z',us,F',rfl,i,fun h => Bool.noConfusion h,fun _ => ⟨fun h => absurd h hne,fun h => absurd h hC⟩,hF,hfo⟩
      | some t =>
        have hns:Node w' B k s:=HE.out.2.2.2.1 s rfl
        have hnt:Node w' B k t:=HE.out.2.2.2.2 t rfl
        by_cases hst:s.blk = t.blk
        · have hnil:Tr.chO (some s) (some t) = []:=by
            show Tr.chL s.ents t.ents = []
            rw [node_same hns hnt hst]
            exact Tr.chL_same _
          clear hns hnt
          simp only [rootP]
          rw [hst]
          have hpe:=ptr_eq
          go_wp2_with fail
          go_step3
          exact ⟨_,HCn.out,_,_,_,S,D,d,z,⟨rfl,rfl,rfl,rfl,rfl,rfl,rfl,rfl,rfl⟩,HI.out.thr.to hnil,rfl⟩
        · have hpn:=nptr_ne hns.trb hnt.trb hst
          rcases Tr.lvl_ent hns.1 hnt.1 with ⟨l,hl⟩ | ⟨hl,g,g',p,v,u,rfl,rfl⟩
          · obtain ⟨ok1,ok2,ok3⟩:=HI.out.ok
            have hrm:=HI.out.thr.lev.room
            obtain ⟨f1,f2,f3,f4⟩:=Tr.frame_new hns.1 hnt.1 (ok1 s rfl).2 (ok2 t rfl).2 (by omega) (ok3 s t rfl rfl) hl
            have HSt:=Lib.hid (dStep_c hns hnt HE.out.2.1 hl (by omega))
            obtain ⟨b1,hb1⟩:∃ b1,(Tr.sdOf s l).kd = b1:=⟨_,rfl⟩
            obtain ⟨b2,hb2⟩:∃ b2,(Tr.sdOf t l).kd = b2:=⟨_,rfl⟩
            obtain ⟨a1,ha1⟩:∃ a1,(Tr.sdOf s l).a = a1:=⟨_,rfl⟩
            obtain ⟨a2,ha2⟩:∃ a2,(Tr.sdOf t l).a = a2:=⟨_,rfl⟩
            rw [hb1,hb2,ha1,ha2] at HSt
            have HF:=Lib.hid (And.intro f1 (And.intro f2 (And.intro f3 (And.intro f4 (And.intro hns (And.intro hnt (And.intro hrm (And.intro hb1 (And.intro hb2 (And.intro ha1 ha2))))))))))
            have hS64:S.length≤64:=by omega
            clear f1 f2 f3 f4 hns hnt hrm hb1 hb2 ha1 ha2 ok1 ok2 ok3 hl hst
            simp only [rootP]
            go_upto_if 17 with fail
            go_cut [8] from 18 (fun v wx => (∃ z':Int,v = Value.int .i64 z')∧wx = w')
            case first =>
              cases b
              all_goals go_wp2_with fail
              all_goals go_meet
              all_goals exact ⟨⟨_,rfl⟩,rfl⟩
            case rest =>
            obtain ⟨⟨z',rfl⟩,hwc⟩:=hcut
            rw [hwc]
            clear hwc
            clear hpn
            go_wp2_with fail
            refine HSt.out.mono ?_
            rintro e w2 ⟨rfl,hb2⟩
            have HB2:=Lib.hid (Below.andThen (Below.andThen hb2 (below_alloc w2 (.cells #[.pointer (some ⟨s.blk,0,none⟩),.bool b1,.int .i64 (a1:Int),.pointer (some ⟨t.blk,0,none⟩),.bool b2,.int .i64 (a2:Int),.int .i64 0] 254))) (below_alloc (w2.alloc (.cells #[.pointer (some ⟨s.blk,0,none⟩),.bool b1,.int .i64 (a1:Int),.pointer (some ⟨t.blk,0,none⟩),.bool b2,.int .i64 (a2:Int),.int .i64 0] 254)) (.cells #[.pointer (some ⟨s.blk,0,none⟩),.bool b1,.int .i64 (a1:Int),.pointer (some ⟨t.blk,0,none⟩),.bool b2,.int .i64 (a2:Int),.int .i64 0] 254)))
            clear HSt
            have hw9:w.heap.size + 1≤w2.heap.size:=by have:=HI.out.thr.lt;have:=hb2.size;omega
            go_wp2_with (at_builtin;refine wpList_append_list (Q:=PrQ) 250 254 (.agg #[.pointer none,.bool false,.int .i64 0,.pointer none,.bool false,.int .i64 0,.int .i64 0]) 56 Tryz.underlying250 infoDStep (by rfl) (by omega) (by omega) prQ_ok (by rfl) _ _ (by rfl) (w.heap.size + 1) (.slice D S.length d) S.reverse [(l,Tr.frOf s t l)] (S.length + 1) (by simp) (by rfl) (by exact HI.out.thr.stk.below (C:=w'.heap.size) HB2.out (Nat.le_refl _)) _ _ 1 1 (by rfl) (by rfl) (by exact lst_next2 prQ_ok _ #[.pointer (some ⟨s.blk,0,none⟩),.bool b1,.int .i64 (a1:Int),.pointer (some ⟨t.blk,0,none⟩),.bool b2,.int .i64 (a2:Int),.int .i64 0] ((l,Tr.frOf s t l):Fl) (by rfl) (by exact ⟨rfl,by rw [← HF.out.2.2.2.2.2.2.2.1];rfl,by rw [← HF.out.2.2.2.2.2.2.2.2.2.1];rfl,rfl,by rw [← HF.out.2.2.2.2.2.2.2.2.1];rfl,by rw [← HF.out.2.2.2.2.2.2.2.2.2.2];rfl,rfl⟩)) (by omega) (by simp;omega) ?_;intro D5 d5 w5 hown5 hgrow5 hat5)
            go_step3
            rw [own_block] at hgrow5
            rw [own_block,own_block] at hat5
            have hwt:=HF.out.2.2.2.1
            have hcn:=HI.out.cnt
            have hp:=HI.out.thr.push HV.out HF.out.1 (HI.out.nx s rfl) (HI.out.ny t rfl) HF.out.2.2.1 (by have:=HF.out.2.1;have:=HF.out.2.2.2.2.2.2.1;omega) HB2.out hown5 hgrow5 hat5
            refine ⟨4 * Tr.wS ((l,Tr.frOf s t l) :: S) + 2 * (S.length + 1) + 2,?_,_,_,_,(l,Tr.frOf s t l) :: S,D5,d5,z',⟨rfl,rfl,rfl,rfl,rfl,rfl,rfl,rfl,rfl⟩,hp,rfl⟩
            rw [Tr.wS_cons]
            simp only at hwt hcn ⊢
            omega
          · have HSt:=Lib.hid (dStep_no hns hnt HE.out.2.1 hl rfl rfl)
            have hu1:Hid (∀ w2,Below w'.heap.size w' w2→Calls Tryz.prog 92 #[.pointer (some ⟨g,0,none⟩)] w2 fun e w3 => e = .returned (.agg #[.int .u64 1,.int .u64 (v:Int),.int .u64 (v:Int),.int .u64 (v:Int)])∧Below w2.heap.size w2 w3):=Lib.hid fun w2 hb => by
              have h:=nSums_o (HE.out.2.2.2.1.below (hb.mono HE.out.2.1) (Nat.le_refl _) (Nat.le_refl _)) (Nat.le_trans HE.out.2.1 hb.size)
              rw [show Tr.sums (Tr.entsO (some (T.ent g p v))) = Tr.s1 v by simp [Tr.entsO,Tr.ents_ent,Tr.sums_one]] at h
              exact h
            have hu2:Hid (∀ w2,Below w'.heap.size w' w2→Calls Tryz.prog 92 #[.pointer (some ⟨g',0,none⟩)] w2 fun e w3 => e = .returned (.agg #[.int .u64 1,.int .u64 (u:Int),.int .u64 (u:Int),.int .u64 (u:Int)])∧Below w2.heap.size w2 w3):=Lib.hid fun w2 hb => by
              have h:=nSums_o (HE.out.2.2.2.2.below (hb.mono HE.out.2.1) (Nat.le_refl _) (Nat.le_refl _)) (Nat.le_trans HE.out.2.1 hb.size)
              rw [show Tr.sums (Tr.entsO (some (T.ent g' p u))) = Tr.s1 u by simp [Tr.entsO,Tr.ents_ent,Tr.sums_one]] at h
              exact h
            clear hns hnt hl hst
            have hg1:(T.ent g p v).blk = g:=rfl
            have hg2:(T.ent g' p u).blk = g':=rfl
            rw [hg1,hg2] at HSt hpn
            by_cases hvu:v = u
            · subst hvu
              have hnil:Tr.chO (some (T.ent g p v)) (some (T.ent g' p v)) = []:=by
                show Tr.chL (T.ent g p v).ents (T.ent g' p v).ents = []
                rw [show (T.ent g p v).ents = (T.ent g' p v).ents by rw [Tr.ents_ent,Tr.ents_ent]]
                exact Tr.chL_same _
              simp only [rootP,hg1,hg2]
              go_upto_if 17 with fail
              go_cut [8] from 18 (fun v wx => (∃ z':Int,v = Value.int .i64 z')∧wx = w')
              case first =>
                cases b
                all_goals go_wp2_with fail
                all_goals go_meet
                all_goals exact ⟨⟨_,rfl⟩,rfl⟩
              case rest =>
              obtain ⟨⟨z',rfl⟩,hwc⟩:=hcut
              rw [hwc]
              clear hwc
              clear hpn
              go_wp2_with fail
              refine HSt.out.mono ?_
              rintro e w2 ⟨rfl,hb2⟩
              clear HSt
              have HB2:=Lib.hid (Below.andThen hb2 (below_alloc w2 (.cells #[.pointer (some ⟨g,0,none⟩),.bool true,.int .i64 0,.pointer (some ⟨g',0,none⟩),.bool true,.int .i64 0,.int .i64 0] 254)))
              clear hb2
              go_wp2_with fail
              refine (hu1.out _ (by exact HB2.out)).mono ?_
              rintro e w3 ⟨rfl,hb3⟩
              have HB3:=Lib.hid (Below.andThen HB2.out hb3)
              clear hb3
              go_wp2_with fail
              refine (hu2.out _ HB3.out).mono ?_
              rintro e w4 ⟨rfl,hb4⟩
              have HB4:=Lib.hid (Below.andThen HB3.out hb4)
              clear hb4 hu1 hu2
              go_wp2_with fail
              go_step3
              exact ⟨_,HCn.out,_,_,_,S,D,d,z',⟨rfl,rfl,rfl,rfl,rfl,rfl,rfl,rfl,rfl⟩,(HI.out.thr.to hnil).below HV.out HB4.out,rfl⟩
            · have n1:((v:Int) == (u:Int)) = false:=by rw [beq_eq_false_iff_ne];omega
              have n1':(v == u) = false:=by rw [beq_eq_false_iff_ne];exact hvu
              have n2:¬ (v:Int) = (u:Int):=by omega
              have HTd:=Lib.hid fun (w2:World) (hb:Below w'.heap.size w' w2) => (HI.out.thr.below HV.out hb).told HV.out (HE.out.2.2.2.1.below (hb.mono HE.out.2.1) (Nat.le_refl _) (Nat.le_refl _)) (HE.out.2.2.2.2.below (hb.mono HE.out.2.1) (Nat.le_refl _) (Nat.le_refl _)) (Nat.le_trans HE.out.2.1 hb.size) (fun w3 h3 => HE.out.2.2.1 w3 ((hb.mono HE.out.2.1).trans h3)) (.inr (.inr ⟨g,g',p,v,u,rfl,rfl,hvu⟩)) HX.out.2.2.2
              have q0:∀ w2,Below w'.heap.size w' w2→w2.cell? ⟨w.heap.size,0,none⟩ = some (.func (.func fid) #[] lb):=fun w2 hb => by rw [cell_of_row w2 _ _ _ _ (0,0) (HI.out.thr.below HV.out hb).box];rfl
              simp only [rootP,hg1,hg2] at HTd ⊢
              go_upto_if 17 with fail
              go_cut [8] from 18 (fun v wx => (∃ z':Int,v = Value.int .i64 z')∧wx = w')
              case first =>
                cases b
                all_goals go_wp2_with fail
                all_goals go_meet
                all_goals exact ⟨⟨_,rfl⟩,rfl⟩
              case rest =>
              obtain ⟨⟨z',rfl⟩,hwc⟩:=hcut
              rw [hwc]
              clear hwc
              clear hpn
              go_wp2_with fail
              refine HSt.out.mono ?_
              rintro e w2 ⟨rfl,hb2⟩
              clear HSt
              have HB2:=Lib.hid (Below.andThen hb2 (below_alloc w2 (.cells #[.pointer (some ⟨g,0,none⟩),.bool true,.int .i64 0,.pointer (some ⟨g',0,none⟩),.bool true,.int .i64 0,.int .i64 0] 254)))
              clear hb2
              go_wp2_with fail
              refine (hu1.out _ (by exact HB2.out)).mono ?_
              rintro e w3 ⟨rfl,hb3⟩
              have HB3:=Lib.hid (Below.andThen HB2.out hb3)
              clear hb3
              go_wp2_with fail
              refine (hu2.out _ HB3.out).mono ?_
              rintro e w4 ⟨rfl,hb4⟩
              have HB4:=Lib.hid (Below.andThen HB3.out hb4)
              have q4:=q0 w4 HB4.out
              clear hb4 hu1 hu2 q0
              go_wp2_with fail
              go_at_fn fid
              refine (HTd.out _ HB4.out).mono ?_
              rintro e w5 ⟨rfl,ht1,ht2⟩
              have HT2:=Lib.hid (And.intro ht1 ht2)
              clear ht1 ht2
              clear HTd
              cases go with
              | true =>
                go_wp2_with fail
                refine wp_label ?_
                simp only [Exit.then]
                rename_i hK
                apply hK
                exact HBs.out _ _ _ (by have:=HCn.out;omega) ⟨_,_,_,S,D,d,z',⟨rfl,rfl,rfl,rfl,rfl,rfl,rfl,rfl,rfl⟩,HT2.out.1 (by first | rfl | trivial),rfl⟩
              | false =>
                go_wp2_with fail
                simp only [jumpsN]
                refine bodyPost_ret (v:=.int .i64 z') (by simp [results,Tryz.results134,go_sem]) rfl ?_
                obtain ⟨us,F',i,hne,hC,hF,hfo⟩:=HT2.out.2 (by first | rfl | trivial)
                exact ⟨z',us,F',rfl,i,fun h => Bool.noConfusion h,fun _ => ⟨fun h => absurd h hne,fun h => absurd h hC⟩,hF,hfo⟩
  case beside =>
    rintro m a' w' ⟨x1,x2,x10,S,D,d,z,hs,hI⟩
    obtain ⟨V,rfl⟩:=hs.lit
    clear hs HS HP0
    have HI:=Lib.hid hI
    cases S with
    | nil =>
      clear hI
      go_wp2_with fail
      simp only [jumpsN]
      refine bodyPost_ret (v:=.int .i64 z) (by simp [results,Tryz.results134,go_sem]) rfl ?_
      obtain ⟨us,F',e1,e2,e3,e4,-,-⟩:=HI.out.thr.us
      simp only [Tr.chS_nil,List.append_nil] at e1
      exact ⟨z,us,F',rfl,e3,fun _ => e1.symm,fun _ => by rw [e1],e4,HI.out.thr.foot⟩
    | cons f S =>
      obtain ⟨q,cs,hD,hqw,hqs,hcap,hcs,hq7⟩:=hI.thr.top
      subst hD
      obtain ⟨hfo,hnx,hny⟩:=hI.thr.fr f List.mem_cons_self
      have hB':Below B w w':=hI.thr.old HV.out HX.out.1 HX.out.2.1
      have hBw:B≤w'.heap.size:=Nat.le_trans HX.out.2.1 hI.thr.foot.size
      have hT':∀ v,Below w'.heap.size w' v→Tz v:=fun v hv => HX.out.2.2.1 v (hB'.trans (hv.mono hBw))
      have hfn:f.2.n≤65536:=by obtain ⟨_,_,_,_,h⟩:=hfo;exact h
      have hlev:=hI.thr.lev.1
      have e4:((S.length + 1:Nat):Int) - 1 = (S.length:Int):=by omega
      have m1:(0:Int)≤(S.length:Int):=by omega
      have m2:(S.length:Int) < ((S.length + 1:Nat):Int):=by omega
      have m3:(S.length:Int)≤64:=by omega
      have d1:decide ((S.length:Int) < 0) = false:=decide_eq_false (by omega)
      have HC:=Lib.hid (And.intro hcs (And.intro hcap (And.intro hqw hqs)))
      by_cases h0:Tr.remF f.2 = []
      · have HO:=Lib.hid (dOn_none (off:=S.length * 7) (hnx.below hB' (Nat.le_refl _) (Nat.le_refl _)) (hny.below hB' (Nat.le_refl _) (Nat.le_refl _)) hBw hT' hcs hq7 hfn h0)
        have H0:=Lib.hid h0
        clear hI hfo hnx hny hB' hBw hT' hfn hlev hcs hcap hqw hqs hq7 h0
        go_wp2_with fail
        refine HO.out.mono ?_
        rintro e w2 ⟨rfl,hb2⟩
        have H2:=Lib.hid hb2
        have hst:=slice_topD w2 q 0 (S.length + 1) d S.length (by omega) HC.out.2.1
        clear hb2 HO
        go_wp2_with fail
        go_step3
        have hth:=(HI.out.thr.pop H0.out).below HV.out H2.out
        have hc:=HI.out.cnt
        rw [Tr.wS_cons,H0.out,Tr.wM_nil,List.length_cons] at hc
        exact ⟨4 * Tr.wS S + 2 * S.length + 2,by omega,_,_,_,S,some ⟨q,0,none⟩,d,z,⟨rfl,rfl,rfl,rfl,rfl,rfl,rfl,rfl,rfl⟩,hth,rfl⟩
      · have HO:=Lib.hid (dOn_some (off:=S.length * 7) (hnx.below hB' (Nat.le_refl _) (Nat.le_refl _)) (hny.below hB' (Nat.le_refl _) (Nat.le_refl _)) hBw hT' hcs hq7 hfn hfo h0)
        clear hI hfo hB' hBw hT' hfn hlev hcs hcap hqw hqs hq7 h0
        have HN:=Lib.hid (And.intro hnx hny)
        clear hnx hny
        go_wp2_with fail
        refine HO.out.mono ?_
        rintro e w2 ⟨a,u,v,r,both,h1,h2,h3,rfl,hq2,hf2⟩
        have H2:=Lib.hid (And.intro h1 (And.intro h2 (And.intro h3 (And.intro hq2 hf2))))
        clear h1 h2 h3 hq2 hf2 HO
        go_wp2_with fail
        go_step3
        obtain ⟨h1,h2,h3,hq2,hf2⟩:=H2.out
        obtain ⟨l,fr⟩:=f
        have hth:=HI.out.thr.on HV.out HC.out.1 hq2 hf2 h3 h1 h2
        obtain ⟨hfo,-,-⟩:=HI.out.thr.fr _ List.mem_cons_self
        obtain ⟨hpo,hm1,hm2⟩:=hfo.mem (q:=(a,u,v)) (by rw [h1];exact List.mem_cons_self)
        obtain ⟨hnu,hnv⟩:=fr_node (q:=(a,u,v)) HN.out.1 HN.out.2 ⟨hm1,hm2⟩
        have hc:=HI.out.cnt
        rw [Tr.wS_cons,h1,Tr.wM_cons,List.length_cons] at hc
        refine ⟨4 * (Tr.wgt u v + Tr.wS ((l,fr.to (a + 1)) :: S)) + 2 * ((l,fr.to (a + 1)) :: S).length + 1,?_,u,v,(l,fr.to (a + 1)) :: S,some ⟨q,0,none⟩,d,z,both,⟨rfl,rfl,rfl,rfl,rfl,rfl,rfl,rfl,rfl⟩,hth,hnu,hnv,hpo,rfl⟩
        rw [Tr.wS_cons,h2,List.length_cons]
        simp only at hc ⊢
        omega
/-! ### Changes -/
/-! ### Same,Steps -/
def SmInv (h:Nat) (us:List Chg) (w:World) (F:Nat→Prop):Prop:=w.heap[h]? = some (.cells #[.bool us.isEmpty] 4 (0,0))∧F = fun b => b = h
set_option maxRecDepth 100000 in
theorem same1_visit {B k h M:Nat} (hB:B≤h):VisitD 81 #[.pointer (some ⟨h,0,none⟩)] B k M false (SmInv h) where
  ent:=enters_of Tryz.func81 (by kernel_rfl) rfl
  frame:=by
    rintro us w w' F ⟨h1,rfl⟩ hs hb
    exact ⟨(hb h rfl).trans h1,rfl⟩
  inb:=by
    rintro us w F ⟨h1,rfl⟩ b rfl
    exact ⟨(Array.getElem?_eq_some_iff.1 h1).1,hB⟩
  call:=by
    rintro us w F x y ⟨h1,rfl⟩ hx hy hBw hT ht hlen
    have hne:=tell_ne hx hy ht
    have c0:w.cell? ⟨h,0,none⟩ = some (.bool us.isEmpty):=by rw [cell_of_row w h _ _ _ (0,0) h1];rfl
    have z0:=frozen_of_row w h 0 _ _ h1
    rw [show (#[.pointer (rootP x),.pointer (rootP y)] ++ #[.pointer (some ⟨h,0,none⟩)]:Array Value) = #[.pointer (rootP x),.pointer (rootP y),.pointer (some ⟨h,0,none⟩)] from rfl]
    have HX:=Lib.hid (And.intro h1 hne)
    clear h1 hx hy hBw hT ht hlen hne
    go_enter Tryz.func81,Tryz.ntmps81
    go_wp2_with fail
    go_ret
    obtain ⟨h1,hne⟩:=HX.out
    refine ⟨rfl,fun b => b = h,⟨?_,rfl⟩,fun b hb => .inl hb,Foot.setCell w (F:=fun b => b = h) (a:=⟨h,0,none⟩) rfl _⟩
    rw [heap_setCell_same w h 0 _ _ (.bool false) h1]
    have:(us ++ Tr.chO x y).isEmpty = false:=by
      cases hq:us ++ Tr.chO x y with
      | nil => exact absurd (List.append_eq_nil_iff.1 hq).2 hne
      | cons => rfl
    rw [this]
    rfl
end Go.Proofs.YtkeepngaaleakaaGreatDoor
