import Derived.Test.YtkeepngaaleakaaGreatDoorM12
namespace Go.Proofs.YtkeepngaaleakaaGreatDoor
open Tr (T S4 Ent)
namespace Tr
open Go.Proofs.YtkeepngaaleakaaGreatDoor.Z
def isBr:T→Prop
  | .br _ _ _ _ => True
  | .ent _ _ _ => False
def Chain (p:List Nat):Option T→List T→Option T→Prop
  | o,[],y => y = o
  | o,u :: L,y => o = some u∧isBr u∧covers u p = true∧Chain p (kidAt u p) L y
theorem chain_split {p:List Nat}:∀ {L1:List T} {o:Option T} {u:T} {L2:List T} {y:Option T},Chain p o (L1 ++ u :: L2) y→Chain p (some u) (u :: L2) y∧(∀ k,(∀ t,o = some t→Wf k t)→Wf k u)
  | [],o,u,L2,y,h => by
    obtain ⟨h1,h2,h3,h4⟩:=h
    exact ⟨⟨rfl,h2,h3,h4⟩,fun k hw => hw u h1⟩
  | v :: L1,o,u,L2,y,h => by
    obtain ⟨h1,h2,h3,h4⟩:=h
    have ih:=chain_split h4
    exact ⟨ih.1,fun k hw => ih.2 k fun s hs => (kidAt_wf (hw v h1) hs).1⟩
theorem chain_y {p:List Nat} {k:Nat}:∀ {L:List T} {o y:Option T},Chain p o L y→(∀ t,o = some t→Wf k t)→∀ t,y = some t→Wf k t
  | [],_,_,h,hw,t,ht => hw t (by rw [← show _ = _ from h];exact ht)
  | _ :: _,_,_,h,hw,t,ht => chain_y h.2.2.2 (fun s hs => (kidAt_wf (hw _ h.1) hs).1) t ht
theorem ents_le {k:Nat} {u s:T} (h:Wf k u) {p:List Nat} (hs:kidAt u p = some s):s.ents.length≤u.ents.length:=by
  have hm:=kidAt_mem hs
  cases u with
  | ent g q v => simp [T.ks] at hm
  | br g l pre ks =>
    obtain ⟨i,hi⟩:=List.mem_iff_getElem?.1 hm
    have:=offK_le (ks:=ks) hi
    rw [ents_br]
    simp only at this
    omega
theorem chain_len {p:List Nat} {k:Nat}:∀ {L:List T} {o y:Option T},Chain p o L y→(∀ t,o = some t→Wf k t)→(entsO y).length≤(entsO o).length
  | [],_,_,h,_ => by rw [show _ = _ from h];exact Nat.le_refl _
  | u :: L,o,y,h,hw => by
    have ih:=chain_len h.2.2.2 (fun s hs => (kidAt_wf (hw u h.1) hs).1)
    have h1:(entsO (kidAt u p)).length≤u.ents.length:=by
      rcases hs:kidAt u p with _ | s
      · simp [entsO]
      · exact ents_le (hw u h.1) hs
    rw [h.1]
    exact Nat.le_trans ih h1
theorem path_chain {k:Nat} {p:List Nat} (hp:p.length = k) (ho:Ok p):∀ (n:Nat) (o:Option T),(∀ t,o = some t→Wf k t∧t.lv < n) →
    (∃ g v L,pathF n o p = L ++ [.ent g p v]∧stopF n o p = none∧Chain p o L (some (.ent g p v))) ∨
    (Chain p o (pathF n o p) (stopF n o p)∧(∀ t,stopF n o p = some t→covers t p = false)∧(pathF n o p = []∨∃ L u,pathF n o p = L ++ [u]∧isBr u))
  | 0,none,_ => .inr ⟨rfl,fun t ht => (by cases ht),.inl rfl⟩
  | 0,some t,h => by have:=(h t rfl).2;omega
  | n + 1,none,_ => .inr ⟨rfl,fun t ht => (by cases ht),.inl rfl⟩
  | n + 1,some t,h => by
    obtain ⟨wf,hl⟩:=h t rfl
    by_cases hc:covers t p = true
    · have ih:=path_chain hp ho n (kidAt t p) (fun s hs => by
        have:=kidAt_wf wf hs
        exact ⟨this.1,by omega⟩)
      cases t with
      | ent g q v =>
        have hq:p = q:=by
          have:=(covers_iff wf hp ho).1 hc
          rw [show (T.ent g q v).lv = 0 from rfl,cut_zero] at this
          exact this
        subst hq
        refine .inl ⟨g,v,[],?_,?_,rfl⟩
        · simp only [pathF,hc,if_true,kidAt_ent]
          cases n <;> rfl
        · simp only [stopF,hc,if_true,kidAt_ent]
          cases n <;> rfl
      | br g l pre ks =>
        simp only [pathF,stopF,hc,if_true]
        rcases ih with ⟨g',v,L,h1,h2,h3⟩ | ⟨h1,h2,h3⟩
        · exact .inl ⟨g',v,.br g l pre ks :: L,by rw [h1];rfl,h2,rfl,trivial,hc,h3⟩
        · refine .inr ⟨⟨rfl,trivial,hc,h1⟩,h2,.inr ?_⟩
          rcases h3 with h3 | ⟨L,u,h3,h4⟩
          · exact ⟨[],.br g l pre ks,by rw [h3];rfl,trivial⟩
          · exact ⟨.br g l pre ks :: L,u,by rw [h3];rfl,h4⟩
    · have hc':covers t p = false:=by simpa using hc
      refine .inr ?_
      simp only [pathF,stopF,hc',if_false,Bool.false_eq_true]
      refine ⟨rfl,fun s hs => by cases hs;exact hc',?_⟩
      first | exact .inl rfl | simp
end Tr
open Tr
theorem built_inv:∀ {us:List T} {u n t:T},Built (us ++ [u]) n t→∃ s g,Built us n s∧t = stepT g u s
  | [],_,n,_,h => by obtain ⟨g,h⟩:=h;exact ⟨n,g,rfl,h⟩
  | _ :: us,_,_,_,⟨g',h⟩ => by
    obtain ⟨s,g,h1,h2⟩:=built_inv h
    exact ⟨s,g,⟨g',h1⟩,h2⟩
theorem built_turned {k:Nat} {p:List Nat} (hp:p.length = k) (ho:Z.Ok p) {A:Ent→Prop} {x:T} (hx:Wf k x):∀ {L:List T} {o y:Option T},(∀ t,o = some t→Wf k t)→Chain p o L y→(∀ L' u,L = L' ++ [u]→Under x p (u.lv - 1))→Turned A p (entsO y) x.ents →
    ∀ t,Built L.reverse x t→Wf k t∧Turned A p (entsO o) t.ents∧(∀ u,L≠[]→o = some u→∀ m,u.lv≤m→Under t p m)
  | [],o,y,_,hch,_,ht,t,hb => by
    have hb':t = x:=hb
    have hy:y = o:=hch
    subst hb' hy
    exact ⟨hx,ht,fun u h => absurd rfl h⟩
  | u :: L,o,y,hw,hch,hu,ht,t,hb => by
    obtain ⟨h1,h2,h3,h4⟩:=hch
    rw [List.reverse_cons] at hb
    obtain ⟨s,g,hb1,rfl⟩:=built_inv hb
    have wu:=hw u h1
    have ih:=built_turned hp ho hx (fun r hr => (kidAt_wf wu hr).1) h4 (fun L' v e => hu (u :: L') v (by rw [e];rfl)) ht s hb1
    have hus:Under s p (u.lv - 1):=by
      cases L with
      | nil => 
        have:s = x:=hb1
        rw [this]
        exact hu [] u rfl
      | cons v L =>
        have hk:=h4.1
        have:=kidAt_wf wu hk
        exact ih.2.2 v (by simp) hk _ (by omega)
    cases u with
    | ent _ _ _ => exact h2.elim
    | br g0 l pre ks =>
      have hl:(T.br g0 l pre ks).lv - 1 = l:=rfl
      rw [hl] at hus
      have hT:=turned_up (g':=g) wu hp ho h3 ih.1 hus ih.2.1
      have he:stepT g (.br g0 l pre ks) s = .br g l pre (Sl.put (Z.addr p l) s ks):=by
        unfold stepT
        rw [hl,hus.addr]
        rfl
      rw [he,h1]
      refine ⟨hT.1,hT.2.2,fun v _ hv m hm => ?_⟩
      have:v = .br g0 l pre ks:=by injection hv with e;exact e.symm
      subst this
      exact hT.2.1 m hm
theorem turned_put {k:Nat} {o n:List Ent} (hz:ZS o) (hd:Dim k o) {p:List Nat} (hp:p.length = k) (ho:Z.Ok p) {v:Nat} (hn:ZS n) (ht:Turned (fun e => e = (p,v)) p o n):n = putE p v o:=by
  refine ZS.ext hn (hz.put p v) fun e => ?_
  rw [ht e,mem_putE hz]
  constructor
  · rintro (h | ⟨h1,h2⟩)
    · exact .inl h
    · exact .inr ⟨h1,(hd.key_ne hp ho h1).2 h2⟩
  · rintro (h | ⟨h1,h2⟩)
    · exact .inl h
    · exact .inr ⟨h1,(hd.key_ne hp ho h1).1 h2⟩
theorem turned_gone {k:Nat} {o n:List Ent} (hz:ZS o) (hd:Dim k o) {p:List Nat} (hp:p.length = k) (ho:Z.Ok p) (hn:ZS n) (ht:Turned (fun _ => False) p o n):n = delE p o:=by
  refine ZS.ext hn (hz.del p) fun e => ?_
  rw [ht e,mem_delE hz,false_or]
  constructor
  · rintro ⟨h1,h2⟩
    exact ⟨h1,(hd.key_ne hp ho h1).2 h2⟩
  · rintro ⟨h1,h2⟩
    exact ⟨h1,(hd.key_ne hp ho h1).1 h2⟩
theorem entsO_zs {k:Nat} {o:Option T} (h:∀ t,o = some t→Wf k t):ZS (entsO o)∧Dim k (entsO o):=by
  cases o with
  | none => exact ⟨ZS.nil,fun e he => by simp [entsO] at he⟩
  | some t => exact ⟨(h t rfl).zs,(h t rfl).dim⟩
theorem turned_len {k:Nat} {o n:List Ent} (hz:ZS o) (hd:Dim k o) {p:List Nat} (hp:p.length = k) (ho:Z.Ok p) (hn:ZS n) {A:Ent→Prop} (hA:(∃ v,A = fun e => e = (p,v))∨A = fun _ => False) (ht:Turned A p o n):n.length≤o.length + 1:=by
  rcases hA with ⟨v,rfl⟩ | rfl
  · rw [turned_put hz hd hp ho hn ht];exact length_putE hz p v
  · rw [turned_gone hz hd hp ho hn ht];have:=length_delE p o;omega
theorem built_fits {k:Nat} {p:List Nat} (hp:p.length = k) (ho:Z.Ok p) {A:Ent→Prop} (hA:(∃ v,A = fun e => e = (p,v))∨A = fun _ => False) {x:T} (hx:Wf k x) {L:List T} {o y:Option T} (hw:∀ t,o = some t→Wf k t) (hch:Chain p o L y)
    (hu:∀ L' u,L = L' ++ [u]→Under x p (u.lv - 1)) (ht:Turned A p (entsO y) x.ents) (hN:(entsO o).length≤4611686018427387904) (j:Nat) (u t:T) (hj:L.reverse[j]? = some u) (hb:Built (L.reverse.take j) x t):FitsT k u t:=by
  have hjl:j < L.length:=by have:=lt_get hj;simpa using this
  rw [List.getElem?_reverse hjl] at hj
  obtain ⟨hlt,e⟩:=List.getElem?_eq_some_iff.1 hj
  have hsplit:L = L.take (L.length - 1 - j) ++ u :: L.drop (L.length - j):=by
    conv => lhs;rw [← List.take_append_drop (L.length - 1 - j) L]
    congr 1
    rw [List.drop_eq_getElem_cons hlt,e]
    congr 2
    omega
  have hrev:L.reverse.take j = (L.drop (L.length - j)).reverse:=by
    rw [List.take_reverse]
  generalize hL1:L.take (L.length - 1 - j) = L1 at hsplit
  generalize hL2:L.drop (L.length - j) = L2 at hsplit hrev
  rw [hrev] at hb
  subst hsplit
  obtain ⟨hc,hwu⟩:=chain_split hch
  have wu:=hwu k hw
  obtain ⟨-,h2,h3,h4⟩:=hc
  have hT:=built_turned hp ho hx (fun r hr => (kidAt_wf wu hr).1) h4 (fun L' v e => hu (L1 ++ u :: L') v (by rw [e];simp)) ht t hb
  have hus:Under t p (u.lv - 1):=by
    cases L2 with
    | nil =>
      have:t = x:=hb
      rw [this]
      exact hu L1 u rfl
    | cons v L =>
      have hk:=h4.1
      have:=kidAt_wf wu hk
      exact hT.2.2 v (by simp) hk _ (by omega)
  cases u with
  | ent _ _ _ => exact h2.elim
  | br g0 l pre ks =>
    have hl:(T.br g0 l pre ks).lv - 1 = l:=rfl
    rw [hl] at hus
    have hcut:=(covers_iff wu hp ho).1 h3
    have hlen:(entsL ks).length≤(entsO o).length:=by
      have:∀ {M:List T} {q:Option T} {r:T} {N:List T} {z:Option T},(∀ t,q = some t→Wf k t)→Chain p q (M ++ r :: N) z→r.ents.length≤(entsO q).length:=by
        intro M
        induction M with
        | nil => intro q r N z _ h;rw [h.1];exact Nat.le_refl _
        | cons a M ih =>
          intro q r N z hq h
          have h6:=ih (fun s hs => (kidAt_wf (hq a h.1) hs).1) h.2.2.2
          rw [h.1]
          refine Nat.le_trans h6 ?_
          rcases hs:kidAt a p with _ | s
          · simp [entsO]
          · exact ents_le (hq a h.1) hs
      have h7:=this hw hch
      rw [ents_br] at h7
      exact h7
    have hkid:(entsO (kidAt (.br g0 l pre ks) p)).length≤(entsL ks).length:=by
      rcases hs:kidAt (.br g0 l pre ks) p with _ | s
      · simp [entsO]
      · have:=ents_le wu hs;rw [ents_br] at this;exact this
    have hz:=entsO_zs (k:=k) (o:=kidAt (.br g0 l pre ks) p) (fun r hr => (kidAt_wf wu hr).1)
    have htl:=turned_len hz.1 hz.2 hp ho hT.1.zs hA hT.2.1
    exact ⟨g0,l,pre,ks,rfl,hT.1,hus.part hT.1 wu.len wu.ok hcut,hus.1,by omega⟩
end Go.Proofs.YtkeepngaaleakaaGreatDoor
namespace Go.Proofs.YtkeepngaaleakaaGreatDoor
open Go.ChangeShapes Go.WideShapes Go.ChangeAt Go.RowKit
open Tr (T S4)
set_option maxRecDepth 100000 in
set_option maxHeartbeats 1000000 in
theorem nPair_c {w:World} {B k l:Nat} {a b:T} (ha:Node w B k a) (hb:Node w B k b) (hB:B≤w.heap.size) (hp:Z.part a.pre b.pre = (l:Int)) (hla:a.lv≤l) (hlb:b.lv≤l) (hc:a.ents.length + b.ents.length < 18446744073709551616) :
    Calls Tryz.prog 102 #[.pointer (some ⟨a.blk,0,none⟩),.pointer (some ⟨b.blk,0,none⟩)] w fun e w' =>
      ∃ g',e = .returned (.tuple #[.pointer (some ⟨g',0,none⟩),.int .i64 0])∧Node w' w'.heap.size k (.br g' l (Z.cut a.pre (l + 1)) (Sl.put (Z.addr b.pre l) b (Sl.put (Z.addr a.pre l) a [])))∧w.heap.size≤g'∧Below w.heap.size w w':=by
  have hwf:=fun g => (Tr.Wf.pair ha.1 hb.1 hp hla hlb g).1
  have hne:=(Tr.Wf.pair ha.1 hb.1 hp hla hlb 0).2
  obtain ⟨kpa,na⟩:=ha.2.nd
  obtain ⟨kpb,nb⟩:=hb.2.nd
  have hak1:=ha.1.k1
  have hak16:=ha.1.k16
  have hal:=ha.1.len
  have hbl:=hb.1.len
  have h63:l≤63:=by cases hwf 0 with | br _ _ _ _ h63 => exact h63
  have hpa:=ents_pos ha.1
  have hpb:=ents_pos hb.1
  have HW:=Lib.hid (And.intro hwf (And.intro hne (And.intro ha (And.intro hb hc))))
  have HN:=Lib.hid (And.intro na nb)
  obtain ⟨-,⟨A,c,hpp,h1⟩,h0,-⟩:=na
  obtain ⟨-,⟨A',c',hpp',hk1⟩,hk0,-⟩:=nb
  have hmax:¬ ((l:Int)≤max (levI a) (levI b)):=by unfold levI;omega
  rw [← hp] at hmax
  have H:Hid (∀ n,Calls Tryz.prog 152 #[.slice A a.pre.length c,.slice A' b.pre.length c'] (w.drewN n) fun e w' => e = .returned (.tuple #[.int .i64 (l:Int),.int .i64 0])∧w.drewN n = w'):=Lib.hid fun n => by rw [← hp];exact part_yes A A' c c' a.pre b.pre B (w.drewN n) hpp hpp' (by omega) (by omega) (by omega)
  rw [hp] at hmax
  generalize hea:levI a = leva at *
  generalize heb:levI b = levb at *
  have d1:decide ((l:Int)≤max leva levb) = false:=decide_eq_false hmax
  have HC:Hid (∀ n,Calls Tryz.prog 153 #[.slice A a.pre.length c,.int .i64 (l:Int)] (w.drewN n) fun e w' => ∃ v,e = .returned (.tuple #[v,.int .i64 0])∧Own w' w.heap.size v (Z.cut a.pre (l + 1))∧Below w.heap.size w w'):=Lib.hid fun n =>
    (cut_yes A c a.pre l B (w.drewN n) hpp (show B≤w.heap.size from hB) (by omega) (by omega) h63).mono fun e w' ⟨v,h1,h2,h3⟩ => ⟨v,h1,h2,(below_drewN n (Below.refl _ _)).trans h3⟩
  have HX:=Lib.hid (And.intro hal (And.intro hbl (And.intro hak1 (And.intro hak16 (And.intro h63 (And.intro hpa (And.intro hpb hB)))))))
  clear hpp hpp' hal hbl hak1 hak16 h63 hpa hpb hmax hwf hne ha hb hc hla hlb hp hea heb
  go_enter Tryz.func102,Tryz.ntmps102
  go_wp2_with fail
  go_quiet ((go_at_call 152;exact Calls.quiet_of_same ((H.out _).mono fun e w' h => ⟨h.1,h.2.symm⟩)))
  go_wp2_with fail
  go_quiet (fail)
  go_wp2_with fail
  refine (HC.out _).mono ?_
  rintro e w2 ⟨v,rfl,ho2,hb2⟩
  obtain ⟨A2,c2,hv2,hp2⟩:=ho2.pts
  rw [Z.cut_length,HX.out.1] at hv2
  subst hv2
  have HB2:=Lib.hid hb2
  have H2:=Lib.hid hp2
  clear ho2 hp2 hb2
  go_wp2_with fail
  refine (Sn.sNew_yes k _ HX.out.2.2.1 HX.out.2.2.2.1).mono ?_
  rintro e w3 ⟨b3,rfl,hat3,hb3⟩
  have HB3:=Lib.hid (Below.andThen HB2.out hb3)
  have H2:=Lib.hid (H2.out.below' hb3 (Nat.le_refl _))
  have H3:=Lib.hid hat3
  have hs23:=hb3.size
  clear hat3 hb3
  go_wp2_with fail
  have hnd4:=nd_at (w:=w3.alloc (.cells #[.int .i64 (l:Int),.slice A2 k c2,.int .u64 0,.pointer (some ⟨b3,0,none⟩),.int .u64 0,.int .u64 0,.int .u64 0,.int .u64 0] 201)) (B':=w3.heap.size + 1) (g:=w3.heap.size) (A:=A2) (c:=c2) (lev:=(l:Int)) (pre:=Z.cut a.pre (l + 1)) (v:=0) (kp:=some ⟨b3,0,none⟩) (a0:=0) (a1:=0) (a2:=0) (a3:=0) (t:=201) (H2.out.below' (below_alloc _ _) hs23) (by rw [Z.cut_length,HX.out.1];exact heap_at _ _ _ rfl) (by omega) (by omega)
  have hB4:=HB3.out.trans ((below_alloc w3 (.cells #[.int .i64 (l:Int),.slice A2 k c2,.int .u64 0,.pointer (some ⟨b3,0,none⟩),.int .u64 0,.int .u64 0,.int .u64 0,.int .u64 0] 201)).mono HB3.out.size)
  have hat4:=H3.out.below (below_alloc w3 (.cells #[.int .i64 (l:Int),.slice A2 k c2,.int .u64 0,.pointer (some ⟨b3,0,none⟩),.int .u64 0,.int .u64 0,.int .u64 0,.int .u64 0] 201)) (Nat.le_refl _) (Nat.le_succ _)
  have hs4:(w3.alloc (.cells #[.int .i64 (l:Int),.slice A2 k c2,.int .u64 0,.pointer (some ⟨b3,0,none⟩),.int .u64 0,.int .u64 0,.int .u64 0,.int .u64 0] 201)).heap.size = w3.heap.size + 1:=by simp
  have hwle:w.heap.size≤w3.heap.size:=HB3.out.size
  generalize w3.alloc _ = W4 at *
  have HQ:=Lib.hid (And.intro hnd4 (And.intro hat4 (And.intro hB4 hs4)))
  clear hnd4 hat4 hB4 hs4
  have h1:=nput_new (w:=W4) HQ.out.1 HQ.out.2.1 ((HN.out.1.below HQ.out.2.2.1 HX.out.2.2.2.2.2.2.2 (show B≤w3.heap.size + 1 by have:=HX.out.2.2.2.2.2.2.2;omega))) (Nat.le_of_eq HQ.out.2.2.2.symm) HX.out.1 HX.out.2.2.2.2.1 rfl (by rw [Tr.sums_c];have:=HX.out.2.2.2.2.2.1;omega) (by rw [Tr.sums_c];have:=HW.out.2.2.2.2;simp only;omega)
  refine h1.mono ?_
  clear h1
  rintro e w5 ⟨g5,b5,rfl,hnd5,hat5,hg5,hb5⟩
  have HB5:=Lib.hid (HQ.out.2.2.1.trans (hb5.mono (by have:=HQ.out.2.2.2;omega)))
  have H5:=Lib.hid (And.intro hnd5 hat5)
  clear hnd5 hat5 hb5 hg5
  have ht0:Tr.tog (⟨0,0,0,0⟩:S4) (Tr.sums a.ents) = Tr.sums a.ents:=Tr.zero_tog _
  have hget:Sl.get (Sl.put (Z.addr a.pre l) (some ⟨a.blk,0,none⟩) ([]:Sn.Al)) (Z.addr b.pre l:Int) = none:=by
    rw [Sl.get_put Sl.srt_nil,if_neg (by have:=HW.out.2.1;omega)];rfl
  have h2:=nput_new (w:=w5) H5.out.1.1 H5.out.2 (HN.out.2.below HB5.out HX.out.2.2.2.2.2.2.2 (Nat.le_trans HX.out.2.2.2.2.2.2.2 HB5.out.size)) (Nat.le_refl _) HX.out.2.1 HX.out.2.2.2.2.1 hget (by rw [Tr.sums_c];have:=HX.out.2.2.2.2.2.2.1;omega) (by rw [ht0,Tr.sums_c,Tr.sums_c];exact HW.out.2.2.2.2)
  rw [ht0] at h2
  have H2':=Lib.hid h2
  clear h2 ht0 hget
  go_wp2_with fail
  refine H2'.out.mono ?_
  rintro e w6 ⟨g6,b6,rfl,hnd6,hat6,hg6,hb6⟩
  have HB6:=Lib.hid (Below.andThen HB5.out hb6)
  have H6:=Lib.hid (And.intro hnd6 (And.intro hat6 (Nat.le_trans HB5.out.size hg6)))
  clear hnd6 hat6 hb6 hg6
  go_wp2_with fail
  go_ret2
  have hs1:Tr.sums (Tr.entsL (Sl.put (Z.addr b.pre l) b (Sl.put (Z.addr a.pre l) a []))) = Tr.tog (Tr.sums a.ents) (Tr.sums b.ents):=by
    have hsrt:Sl.Srt (Sl.put (Z.addr a.pre l) a ([]:List (Nat × T))):=Sl.srt_put _ _ Sl.srt_nil
    rw [sums_put_new hsrt b (by rw [Sl.get_put Sl.srt_nil,if_neg (by have:=HW.out.2.1;omega)];rfl)]
    simp [Sl.put,Tr.entsL]
  refine ⟨g6,rfl,⟨HW.out.1 g6,.br g6 l _ _ b6 (by rw [hs1];exact H6.out.1.1) (by rw [kidL_put,kidL_put];exact H6.out.2.1) (fun x hx => ?_) H6.out.1.2⟩,H6.out.2.2,HB6.out⟩
  have hBB:=HX.out.2.2.2.2.2.2.2
  rcases Sl.mem_put hx with rfl | hx
  · exact (HW.out.2.2.2.1.below HB6.out hBB (Nat.le_trans hBB HB6.out.size)).2
  · rcases Sl.mem_put hx with rfl | hx
    · exact (HW.out.2.2.1.below HB6.out hBB (Nat.le_trans hBB HB6.out.size)).2
    · simp at hx
end Go.Proofs.YtkeepngaaleakaaGreatDoor
namespace Go.Proofs.YtkeepngaaleakaaGreatDoor
open Tr (T S4 Ent)
namespace Tr
open Go.Proofs.YtkeepngaaleakaaGreatDoor.Z
theorem chain_at {k:Nat} {p:List Nat}:∀ {L:List T} {o y:Option T},Chain p o L y→(∀ t,o = some t→Wf k t)→∀ e:Ent,e.1 = p→(e∈entsO o↔e∈entsO y)
  | [],_,_,h,_,e,_ => by rw [show _ = _ from h]
  | u :: L,o,y,h,hw,e,he => by
    obtain ⟨h1,h2,h3,h4⟩:=h
    have wu:=hw u h1
    rw [← chain_at h4 (fun s hs => (kidAt_wf wu hs).1) e he,h1]
    cases u with
    | ent _ _ _ => exact h2.elim
    | br g l pre ks =>
      rw [mem_kidAt wu,he]
      simp [entsO]
theorem not_at {k:Nat} {b:T} (h:Wf k b) {p:List Nat} (hp:p.length = k) (ho:Ok p) (hc:covers b p = false):∀ e∈b.ents,e.1≠p:=by
  rintro e he rfl
  have:=(covers_iff h hp ho).2 (h.each e he).2.2.2
  rw [hc] at this
  cases this
theorem get_here {k:Nat} {p:List Nat} (hp:p.length = k) (ho:Ok p) {L:List T} {o:Option T} {g v:Nat} (hw:∀ t,o = some t→Wf k t) (h:Chain p o L (some (.ent g p v))):getE (entsO o) p = some v:=by
  have hz:=entsO_zs hw
  rw [getE_iff hz.1 hz.2 hp ho,chain_at h hw (p,v) rfl]
  show (p,v)∈(T.ent g p v).ents
  rw [ents_ent]
  exact List.mem_singleton.2 rfl
theorem get_none {k:Nat} {p:List Nat} (hp:p.length = k) (ho:Ok p) {L:List T} {o y:Option T} (hw:∀ t,o = some t→Wf k t) (h:Chain p o L y) (hy:∀ t,y = some t→covers t p = false):getE (entsO o) p = none:=by
  have hz:=entsO_zs hw
  rw [getE_none hz.1 hz.2 hp ho]
  intro e he hep
  have h1:=(chain_at h hw e hep).1 he
  cases y with
  | none => simp [entsO] at h1
  | some b => exact not_at (chain_y h hw b rfl) hp ho (hy b rfl) e h1 hep
def PutX (p:List Nat) (v:Nat) (y:Option T) (x:T):Prop :=
  (∃ g,x = .ent g p v∧(y = none∨∃ g' v',y = some (.ent g' p v'))) ∨
  (∃ b g g' l,y = some b∧covers b p = false∧Z.part b.pre p = ((l:Nat):Int)∧x = .br g l (cut b.pre (l + 1)) (Sl.put (addr p l) (.ent g' p v) (Sl.put (addr b.pre l) b [])))
theorem under_ent (g:Nat) (p:List Nat) (v m:Nat):Under (.ent g p v) p m:=⟨Nat.zero_le _,rfl⟩
theorem putX_turned {k:Nat} {p:List Nat} (hp:p.length = k) (ho:Ok p) {v:Nat} {y:Option T} {x:T} (hy:∀ t,y = some t→Wf k t) (h:PutX p v y x):Turned (fun e => e = (p,v)) p (entsO y) x.ents:=by
  intro e
  rcases h with ⟨g,rfl,rfl | ⟨g',v',rfl⟩⟩ | ⟨b,g,g',l,rfl,hc,hpart,rfl⟩
  · simp [entsO,ents_ent]
  · simp only [entsO,ents_ent,List.mem_singleton]
    constructor
    · exact fun h => .inl h
    · rintro (h | ⟨h1,h2⟩)
      · exact h
      · rw [h1] at h2;exact absurd rfl h2
  · have wb:=hy b rfl
    have hne:addr b.pre l≠addr p l:=by
      rcases part_spec (by rw [wb.len,hp]) wb.ok ho with ⟨e1,_⟩ | ⟨m,_,e1,h1,_⟩
      · omega
      · have:m = l:=by omega
        subst this;exact h1
    rw [ents_br,mem_entsL]
    constructor
    · rintro ⟨z,hz,he⟩
      rcases Sl.mem_put hz with rfl | hz
      · rw [ents_ent] at he;exact .inl (List.mem_singleton.1 he)
      · rcases Sl.mem_put hz with rfl | hz
        · exact .inr ⟨he,not_at wb hp ho hc e he⟩
        · simp at hz
    · have s1:Sl.Srt (Sl.put (addr b.pre l) b ([]:List (Nat × T))):=Sl.srt_put _ _ Sl.srt_nil
      rintro (h | ⟨h1,h2⟩)
      · subst h
        exact ⟨(addr p l,.ent g' p v),(Sl.get_iff (Sl.srt_put _ _ s1)).1 (by rw [Sl.get_put s1,if_pos rfl]),by rw [ents_ent];exact List.mem_singleton.2 rfl⟩
      · exact ⟨(addr b.pre l,b),(Sl.get_iff (Sl.srt_put _ _ s1)).1 (by rw [Sl.get_put s1,if_neg (by omega),Sl.get_put Sl.srt_nil,if_pos rfl]),h1⟩
theorem putX_under {k:Nat} {p:List Nat} (hp:p.length = k) (ho:Ok p) {v:Nat}:∀ {L:List T} {o y:Option T} {x:T},(∀ t,o = some t→Wf k t)→Chain p o L y→PutX p v y x→∀ L' u,L = L' ++ [u]→Under x p (u.lv - 1)
  | [],_,_,_,_,_,_,L',u,h => by simp at h
  | a :: L,o,y,x,hw,hch,hx,L',u,h => by
    obtain ⟨h1,h2,h3,h4⟩:=hch
    have wa:=hw a h1
    cases L' with
    | cons c L' =>
      simp only [List.cons_append,List.cons.injEq] at h
      exact putX_under hp ho (fun s hs => (kidAt_wf wa hs).1) h4 hx L' u h.2
    | nil =>
      simp only [List.nil_append,List.cons.injEq] at h
      obtain ⟨rfl,rfl⟩:=h
      have hy:y = kidAt a p:=h4
      rcases hx with ⟨g,rfl,_⟩ | ⟨b,g,g',l,hb,hc,hpart,rfl⟩
      · exact under_ent _ _ _ _
      · rw [hy] at hb
        have hkw:=kidAt_wf wa hb
        have hcut:=(covers_iff wa hp ho).1 h3
        have hlp:0 < a.lv:=by omega
        have e1:cut b.pre (a.lv - 1) = cut p (a.lv - 1):=by
          refine points_eq (by rw [cut_length,cut_length,hkw.1.len,hp]) (cut_ok hkw.1.ok _) (cut_ok ho _) fun m _ => ?_
          rw [cut_addr,cut_addr]
          split
          · rename_i hm
            by_cases c:m = a.lv - 1
            · rw [c];exact hkw.2.2.1
            · have c1:=cut_addr b.pre a.lv m
              have c2:=cut_addr p a.lv m
              rw [if_pos (by omega)] at c1 c2
              rw [← c1,← c2,hkw.2.2.2,hcut]
          · rfl
        have hl:l < a.lv - 1:=by
          have:=(cut_eq_iff (by rw [hkw.1.len,hp]) hkw.1.ok ho (a.lv - 1)).1 e1
          omega
        refine ⟨hl,?_⟩
        show cut (cut b.pre (l + 1)) (a.lv - 1) = _
        rw [cut_cut _ _ _ (by omega),e1]
theorem put_all {k:Nat} {p:List Nat} (hp:p.length = k) (ho:Ok p) {v:Nat} {L:List T} {o y:Option T} {x t:T} (hw:∀ t,o = some t→Wf k t) (hch:Chain p o L y) (hx:PutX p v y x) (wx:Wf k x) (hb:Built L.reverse x t):t.ents = putE p v (entsO o):=by
  have hT:=built_turned hp ho wx hw hch (putX_under hp ho hw hch hx) (putX_turned hp ho (fun s hs => chain_y hch hw s hs) hx) t hb
  have hz:=entsO_zs hw
  exact turned_put hz.1 hz.2 hp ho hT.1.zs hT.2.1
end Tr
end Go.Proofs.YtkeepngaaleakaaGreatDoor
namespace Go.Proofs.YtkeepngaaleakaaGreatDoor
open Go.ChangeShapes Go.WideShapes Go.ChangeAt Go.RowKit
open Tr (T S4 Ent)
theorem chain_nodes {w:World} {B k:Nat} {p:List Nat}:∀ {L:List T} {o y:Option T},Tr.Chain p o L y→NodeO w B k o→(∀ u∈L,Node w B k u)∧NodeO w B k y
  | [],_,_,h,hn => ⟨fun u hu => by simp at hu,by rw [show _ = _ from h];exact hn⟩
  | u :: L,_,_,h,hn => by
    have hu:=hn u h.1
    have ih:=chain_nodes h.2.2.2 (fun s hs => kidAt_node hu hs)
    refine ⟨fun s hs => ?_,ih.2⟩
    rcases List.mem_cons.1 hs with rfl | hs
    · exact hu
    · exact ih.1 s hs
theorem nodeO_wf {w:World} {B k:Nat} {o:Option T} (h:NodeO w B k o):∀ t,o = some t→Tr.Wf k t:=fun t e => (h t e).1
theorem chain_short {p:List Nat} {o y:Option T} {L:List T} (h:Tr.pathT o p = L∨∃ e,Tr.pathT o p = L ++ [e]) (_:Tr.Chain p o L y):L.length≤65:=by
  have:=Tr.pathF_length p 65 o
  rcases h with h | ⟨e,h⟩
  · rw [← h];exact this
  · have h2:(L ++ [e]).length≤65:=by rw [← h];exact this
    simp at h2;omega
theorem tPut_dim {w:World} {b k:Nat} {r:Option Addr} (h:TreC w b k r) (A:Option Addr) (n c:Nat) (v:Nat) (hn:n≤maxLen) (hne:n≠k) :
    Calls Tryz.prog 46 #[.pointer (some ⟨b,0,none⟩),.slice A n c,.int .u64 (v:Int)] w fun e w' => e = .returned (.tuple #[.pointer none,.int .i64 2])∧w = w':=by
  have H:=Lib.hid (tRef_dim h A n c hn hne)
  clear h hn hne
  go_enter Tryz.func46,Tryz.ntmps46
  go_wp2_with (go_at_call 98;refine H.out.mono ?_;rintro e w' ⟨rfl,rfl⟩)
  go_ret2
  exact ⟨rfl,rfl⟩
def PutTo (w w':World) (k b:Nat) (o:Option T) (p:List Nat) (v:Nat) (n:Nat) (t:T):Prop :=
  TreeX w' n k (some t)∧w.heap.size≤n∧t.ents = Tr.putE p v (Tr.entsO o)∧(∃ L y x,Tr.Chain p o L y∧Tr.PutX p v y x∧Tr.Wf k x∧Built L.reverse x t)∧b < n
set_option maxRecDepth 100000 in
theorem tPut_same {w:World} {B b k:Nat} {o:Option T} (h:TreeAt w B b k o) (hB:B≤w.heap.size) {p:List Nat} {A:Option Addr} {c:Nat} (hp:Pts w B A p) (hl:p.length = k) (v:Nat) {g:Nat} {L:List T} (hpath:Tr.pathT o p = L ++ [.ent g p v]) (hch:Tr.Chain p o L (some (.ent g p v))) (hst:Tr.stopT o p = none) :
    Calls Tryz.prog 46 #[.pointer (some ⟨b,0,none⟩),.slice A p.length c,.int .u64 (v:Int)] w fun e w' => e = .returned (.tuple #[.pointer (some ⟨b,0,none⟩),.int .i64 0])∧Below w.heap.size w w':=by
  have HR:=Lib.hid (tRef_ok h.2.2.2.1 A p.length c h.2.1 h.2.2.1 hl)
  have HP:=path_c h hB hp hl (c:=c)
  have hlen:=chain_short (.inr ⟨_,hpath⟩) hch
  rw [hpath,hst,List.length_append,show L.length + [T.ent g p v].length = L.length + 1 from rfl,show rootP none = none from rfl] at HP
  have HP:=Lib.hid HP
  have hn:=(chain_nodes hch h.2.2.2.2).2 _ rfl
  have HX:=Lib.hid (And.intro hn (And.intro hB hlen))
  have e1:((v:Int) == (v:Int)) = true:=by simp
  clear h hB hp hl hpath hch hst hlen hn
  go_enter Tryz.func46,Tryz.ntmps46
  go_wp2_with (first
    | (go_at_call 98;refine HR.out.mono ?_;rintro e w' ⟨rfl,rfl⟩)
    | (go_at_call 99;refine HP.out.mono ?_;rintro e w2 ⟨D,d,rfl,hN2,-,hb2⟩))
  have hcap:L.length + 1≤d:=OwnV.cap hN2
  refine (cutE_ent (OwnV.rd_at hN2) (HX.out.1.below hb2 HX.out.2.1 (Nat.le_refl _)) (Nat.le_trans HX.out.2.1 hb2.size) (by have:=HX.out.2.2;omega) hcap).mono ?_
  rintro e w3 ⟨A3,rfl,-,hb3⟩
  clear hcap hN2
  go_wp2_with fail
  go_ret2
  exact ⟨rfl,Below.andThen hb2 hb3⟩
set_option maxRecDepth 100000 in
set_option maxHeartbeats 1000000 in
theorem tPut_old {w:World} {B b k:Nat} {o:Option T} (h:TreeAt w B b k o) (hB:B≤w.heap.size) {p:List Nat} {A:Option Addr} {c:Nat} (hp:Pts w B A p) (hl:p.length = k) (v:Nat) (hv:v < 18446744073709551616) {g v0:Nat} {L:List T} (hpath:Tr.pathT o p = L ++ [.ent g p v0])
    (hch:Tr.Chain p o L (some (.ent g p v0))) (hst:Tr.stopT o p = none) (hne:v0≠v) (hN:(Tr.entsO o).length≤4611686018427387904) :
    Calls Tryz.prog 46 #[.pointer (some ⟨b,0,none⟩),.slice A p.length c,.int .u64 (v:Int)] w fun e w' => ∃ n t,e = .returned (.tuple #[.pointer (some ⟨n,0,none⟩),.int .i64 0])∧PutTo w w' k b o p v n t∧Below w.heap.size w w':=by
  have HR:=Lib.hid (tRef_ok h.2.2.2.1 A p.length c h.2.1 h.2.2.1 hl)
  have HP:=path_c h hB hp hl (c:=c)
  have hlen:=chain_short (.inr ⟨_,hpath⟩) hch
  rw [hpath,hst,List.length_append,show L.length + [T.ent g p v0].length = L.length + 1 from rfl,show rootP none = none from rfl] at HP
  have HP:=Lib.hid HP
  have HX:=Lib.hid (And.intro h (And.intro hB (And.intro hlen (And.intro hp (And.intro hl (And.intro hch (And.intro hv hN)))))))
  have e1:((v0:Int) == (v:Int)) = false:=by rw [beq_eq_false_iff_ne];omega
  clear h hB hp hl hpath hch hst hlen hne hN hv
  go_enter Tryz.func46,Tryz.ntmps46
  go_wp2_with (first
    | (go_at_call 98;refine HR.out.mono ?_;rintro e w' ⟨rfl,rfl⟩)
    | (go_at_call 99;refine HP.out.mono ?_;rintro e w2 ⟨D,d,rfl,hN2,-,hb2⟩))
  obtain ⟨h,hB,hlen,hp,hl,hch,hv,hN⟩:=HX.out
  have hcap:L.length + 1≤d:=OwnV.cap hN2
  have hns:=chain_nodes hch h.2.2.2.2
  refine (cutE_ent (OwnV.rd_at hN2) ((hns.2 _ rfl).below hb2 hB (Nat.le_refl _)) (Nat.le_trans hB hb2.size) (by omega) hcap).mono ?_
  rintro e w3 ⟨A3,rfl,hrd3,hb3⟩
  have hb23:=Below.andThen hb2 hb3
  have H3:=Lib.hid (And.intro hrd3 (And.intro hb23 hb3))
  clear hcap hN2 hrd3 hb2 hb3 hns h hB hlen hch hN hl hp hv hb23
  go_wp2_with fail
  obtain ⟨h,hB,hlen,hp,hl,hch,hv,hN⟩:=HX.out
  have hb23:=H3.out.2.1
  refine (nLeaf_c p A c B v w3 (Nat.le_trans HX.out.2.1 hb23.size) (hp.below' hb23 HX.out.2.1) (by rw [hl];exact HX.out.1.2.1) (by rw [hl];exact HX.out.1.2.2.1) hv).mono ?_
  rintro e w4 ⟨g4,rfl,hn4,hg4,hb4⟩
  rw [hl] at hn4
  have H4:=Lib.hid (And.intro hn4 (And.intro (Below.andThen hb23 hb4) hb4))
  clear hn4 hb4 hb23 hp hv hl h hB hlen hch hN
  go_wp2_with fail
  obtain ⟨h,hB,hlen,hp,hl,hch,hv,hN⟩:=HX.out
  obtain ⟨hn4,hb4,hb34⟩:=H4.out
  have hwf:=nodeO_wf h.2.2.2.2
  have hns:=chain_nodes hch h.2.2.2.2
  have hx:Tr.PutX p v (some (.ent g p v0)) (.ent g4 p v):=.inl ⟨g4,rfl,.inr ⟨g,v0,rfl⟩⟩
  have hBw:B≤w4.heap.size:=Nat.le_trans hB hb4.size
  have hfit:∀ j u t,L.reverse[j]? = some u→Built (L.reverse.take j) (.ent g4 p v) t→FitsT k u t:=fun j u t hj hb => built_fits hl hp.1 (.inl ⟨v,rfl⟩) hn4.1 hwf hch (Tr.putX_under hl hp.1 hwf hch hx) (Tr.putX_turned hl hp.1 (fun s hs => Tr.chain_y hch hwf s hs) hx) hN j u t hj hb
  have htc:TreC w4 b k (rootP o):=h.2.2.2.1.below hb4 (Nat.lt_of_lt_of_le h.1 hB)
  have hus:∀ u∈L,Node w4 w4.heap.size k u:=fun u hu => (hns.1 u hu).below hb4 hB hBw
  have HH:=tHaving_c (B:=w4.heap.size) (us:=L) (x:=.ent g4 p v) (c:=d) (Nat.lt_of_lt_of_le h.1 hBw) htc h.2.1 h.2.2.1 (Nat.le_refl _) (H3.out.1.below (Below.andThen H3.out.2.2 hb34) (Nat.le_refl _) (Below.andThen H3.out.2.2 hb34).size) hus (by omega) hn4 hfit
  clear hfit htc hus
  refine HH.mono ?_
  rintro e w5 ⟨n,t,rfl,hbu,htr,hn,hb5⟩
  have hfin:PutTo w w5 k b o p v n t:=⟨htr,Nat.le_trans hb4.size hn,Tr.put_all hl hp.1 hwf hch hx hn4.1 hbu,⟨L,_,_,hch,hx,hn4.1,hbu⟩,by have:=h.1;omega⟩
  have HF:=Lib.hid (And.intro hfin (Below.andThen hb4 hb5))
  clear hfin hbu htr hn hb5 hns hx hwf h hch hp hl hlen hN hv hB hBw hb4 hb34 hn4
  go_wp2_with fail
  go_ret2
  exact ⟨n,t,rfl,HF.out⟩
theorem cutE_no {w:World} {B B' k:Nat} {A:Option Addr} {c:Nat} {us:List T} (h:RdV w B A (ptrV us)) (hn:∀ u∈us,Node w B' k u) (hB':B'≤w.heap.size) (hl:us.length≤1000) (hb:us = []∨∃ L u,us = L ++ [u]∧Tr.isBr u) :
    Calls Tryz.prog 100 #[.slice A us.length c] w fun e w' => e = .returned (.tuple #[.slice A us.length c,.int .u64 0,.bool false])∧Below w.heap.size w w':=by
  rcases hb with rfl | ⟨L,u,rfl,hu⟩
  · exact (cutE_nil A c w).mono fun e w' ⟨h1,h2⟩ => ⟨h1,by subst h2;exact Below.refl _ _⟩
  · rw [List.length_append] at hl ⊢
    cases u with
    | ent _ _ _ => exact hu.elim
    | br g l pre ks => exact cutE_br h (hn _ (by simp)) hB' (by simp at hl;omega)
set_option maxRecDepth 100000 in
set_option maxHeartbeats 1000000 in
theorem tPut_free {w:World} {B b k:Nat} {o:Option T} (h:TreeAt w B b k o) (hB:B≤w.heap.size) {p:List Nat} {A:Option Addr} {c:Nat} (hp:Pts w B A p) (hl:p.length = k) (v:Nat) (hv:v < 18446744073709551616)
    (hch:Tr.Chain p o (Tr.pathT o p) none) (hst:Tr.stopT o p = none) (hend:Tr.pathT o p = []∨∃ L u,Tr.pathT o p = L ++ [u]∧Tr.isBr u) (hN:(Tr.entsO o).length≤4611686018427387904) :
    Calls Tryz.prog 46 #[.pointer (some ⟨b,0,none⟩),.slice A p.length c,.int .u64 (v:Int)] w fun e w' => ∃ n t,e = .returned (.tuple #[.pointer (some ⟨n,0,none⟩),.int .i64 0])∧PutTo w w' k b o p v n t∧Below w.heap.size w w':=by
  have HR:=Lib.hid (tRef_ok h.2.2.2.1 A p.length c h.2.1 h.2.2.1 hl)
  have HP:=path_c h hB hp hl (c:=c)
  have hlen:=Tr.pathF_length p 65 o
  rw [hst,show rootP none = none from rfl] at HP
  change (Tr.pathT o p).length≤65 at hlen
  generalize Tr.pathT o p = L at *
  have HP:=Lib.hid HP
  have HX:=Lib.hid (And.intro h (And.intro hB (And.intro hlen (And.intro hp (And.intro hl (And.intro hch (And.intro hv (And.intro hN hend))))))))
  clear h hB hp hl hch hst hlen hN hv hend
  go_enter Tryz.func46,Tryz.ntmps46
  go_wp2_with (first
    | (go_at_call 98;refine HR.out.mono ?_;rintro e w' ⟨rfl,rfl⟩)
    | (go_at_call 99;refine HP.out.mono ?_;rintro e w2 ⟨D,d,rfl,hN2,-,hb2⟩))
  obtain ⟨h,hB,hlen,hp,hl,hch,hv,hN,hend⟩:=HX.out
  have hns:=chain_nodes hch h.2.2.2.2
  refine (cutE_no (OwnV.rd_at hN2) (fun u hu => (hns.1 u hu).below hb2 hB (Nat.le_refl _)) (Nat.le_trans hB hb2.size) (by omega) hend).mono ?_
  rintro e w3 ⟨rfl,hb3⟩
  have hb23:=Below.andThen hb2 hb3
  have H3:=Lib.hid (And.intro (OwnV.rd_at hN2) (And.intro hb23 hb3))
  clear hN2 hb2 hb3 hns h hB hlen hch hN hl hp hv hb23 hend
  go_wp2_with fail
  obtain ⟨h,hB,hlen,hp,hl,hch,hv,hN,hend⟩:=HX.out
  have hb23:=H3.out.2.1
  refine (nLeaf_c p A c B v w3 (Nat.le_trans HX.out.2.1 hb23.size) (hp.below' hb23 HX.out.2.1) (by rw [hl];exact HX.out.1.2.1) (by rw [hl];exact HX.out.1.2.2.1) hv).mono ?_
  rintro e w4 ⟨g4,rfl,hn4,hg4,hb4⟩
  rw [hl] at hn4
  have H4:=Lib.hid (And.intro hn4 (And.intro (Below.andThen hb23 hb4) hb4))
  clear hn4 hb4 hb23 hp hv hl h hB hlen hch hN hend
  go_wp2_with fail
  obtain ⟨h,hB,hlen,hp,hl,hch,hv,hN,hend⟩:=HX.out
  obtain ⟨hn4,hb4,hb34⟩:=H4.out
  have hwf:=nodeO_wf h.2.2.2.2
  have hns:=chain_nodes hch h.2.2.2.2
  have hx:Tr.PutX p v none (.ent g4 p v):=.inl ⟨g4,rfl,.inl rfl⟩
  have hBw:B≤w4.heap.size:=Nat.le_trans hB hb4.size
  have hfit:∀ j u t,L.reverse[j]? = some u→Built (L.reverse.take j) (.ent g4 p v) t→FitsT k u t:=fun j u t hj hb => built_fits hl hp.1 (.inl ⟨v,rfl⟩) hn4.1 hwf hch (Tr.putX_under hl hp.1 hwf hch hx) (Tr.putX_turned hl hp.1 (fun s hs => Tr.chain_y hch hwf s hs) hx) hN j u t hj hb
  have htc:TreC w4 b k (rootP o):=h.2.2.2.1.below hb4 (Nat.lt_of_lt_of_le h.1 hB)
  have hus:∀ u∈L,Node w4 w4.heap.size k u:=fun u hu => (hns.1 u hu).below hb4 hB hBw
  have HH:=tHaving_c (B:=w4.heap.size) (us:=L) (x:=.ent g4 p v) (c:=d) (Nat.lt_of_lt_of_le h.1 hBw) htc h.2.1 h.2.2.1 (Nat.le_refl _) (H3.out.1.below (Below.andThen H3.out.2.2 hb34) (Nat.le_refl _) (Below.andThen H3.out.2.2 hb34).size) hus (by omega) hn4 hfit
  clear hfit htc hus
  refine HH.mono ?_
  rintro e w5 ⟨n,t,rfl,hbu,htr,hn,hb5⟩
  have hfin:PutTo w w5 k b o p v n t:=⟨htr,Nat.le_trans hb4.size hn,Tr.put_all hl hp.1 hwf hch hx hn4.1 hbu,⟨L,_,_,hch,hx,hn4.1,hbu⟩,by have:=h.1;omega⟩
  have HF:=Lib.hid (And.intro hfin (Below.andThen hb4 hb5))
  clear hfin hbu htr hn hb5 hns hx hwf h hch hp hl hlen hN hv hB hBw hb4 hb34 hn4 hend HH
  go_wp2_with fail
  go_ret2
  exact ⟨n,t,rfl,HF.out⟩
set_option maxRecDepth 100000 in
set_option maxHeartbeats 1000000 in
theorem tPut_beside {w:World} {B b k:Nat} {o:Option T} (h:TreeAt w B b k o) (hB:B≤w.heap.size) {p:List Nat} {A:Option Addr} {c:Nat} (hp:Pts w B A p) (hl:p.length = k) (v:Nat) (hv:v < 18446744073709551616) {s:T}
    (hch:Tr.Chain p o (Tr.pathT o p) (some s)) (hst:Tr.stopT o p = some s) (hnc:Tr.covers s p = false) (hend:Tr.pathT o p = []∨∃ L u,Tr.pathT o p = L ++ [u]∧Tr.isBr u) (hN:(Tr.entsO o).length≤4611686018427387904) :
    Calls Tryz.prog 46 #[.pointer (some ⟨b,0,none⟩),.slice A p.length c,.int .u64 (v:Int)] w fun e w' => ∃ n t,e = .returned (.tuple #[.pointer (some ⟨n,0,none⟩),.int .i64 0])∧PutTo w w' k b o p v n t∧Below w.heap.size w w':=by
  have HR:=Lib.hid (tRef_ok h.2.2.2.1 A p.length c h.2.1 h.2.2.1 hl)
  have HP:=path_c h hB hp hl (c:=c)
  have hlen:=Tr.pathF_length p 65 o
  have hwf:=nodeO_wf h.2.2.2.2
  have wfs:Tr.Wf k s:=Tr.chain_y hch hwf s rfl
  obtain ⟨l,hpart⟩:∃ l:Nat,Z.part s.pre p = (l:Int):=by
    have h1:Tr.covers s p = false:=hnc
    unfold Tr.covers levI at h1
    rw [decide_eq_false_iff_not] at h1
    exact ⟨(Z.part s.pre p).toNat,by omega⟩
  have hsl:s.lv≤l:=by
    have h1:Tr.covers s p = false:=hnc
    unfold Tr.covers levI at h1
    rw [decide_eq_false_iff_not] at h1
    omega
  have hsN:s.ents.length≤(Tr.entsO o).length:=Tr.chain_len hch hwf
  rw [hst,show rootP (some s) = some ⟨s.blk,0,none⟩ from rfl] at HP
  change (Tr.pathT o p).length≤65 at hlen
  generalize Tr.pathT o p = L at *
  have HP:=Lib.hid HP
  have HX:=Lib.hid (And.intro h (And.intro hB (And.intro hlen (And.intro hp (And.intro hl (And.intro hch (And.intro hv (And.intro hN hend))))))))
  have HS:=Lib.hid (And.intro hnc (And.intro hpart (And.intro hsl hsN)))
  clear h hB hp hl hch hst hlen hN hv hend hwf wfs hnc hpart hsl hsN
  go_enter Tryz.func46,Tryz.ntmps46
  go_wp2_with (first
    | (go_at_call 98;refine HR.out.mono ?_;rintro e w' ⟨rfl,rfl⟩)
    | (go_at_call 99;refine HP.out.mono ?_;rintro e w2 ⟨D,d,rfl,hN2,-,hb2⟩))
  obtain ⟨h,hB,hlen,hp,hl,hch,hv,hN,hend⟩:=HX.out
  have hns:=chain_nodes hch h.2.2.2.2
  refine (cutE_no (OwnV.rd_at hN2) (fun u hu => (hns.1 u hu).below hb2 hB (Nat.le_refl _)) (Nat.le_trans hB hb2.size) (by omega) hend).mono ?_
  rintro e w3 ⟨rfl,hb3⟩
  have hb23:=Below.andThen hb2 hb3
  have H3:=Lib.hid (And.intro (OwnV.rd_at hN2) (And.intro hb23 hb3))
  clear hN2 hb2 hb3 hns h hB hlen hch hN hl hp hv hb23 hend
  go_wp2_with fail
  obtain ⟨h,hB,hlen,hp,hl,hch,hv,hN,hend⟩:=HX.out
  have hb23:=H3.out.2.1
  refine (nLeaf_c p A c B v w3 (Nat.le_trans HX.out.2.1 hb23.size) (hp.below' hb23 HX.out.2.1) (by rw [hl];exact HX.out.1.2.1) (by rw [hl];exact HX.out.1.2.2.1) hv).mono ?_
  rintro e w4 ⟨g4,rfl,hn4,hg4,hb4⟩
  rw [hl] at hn4
  have H4:=Lib.hid (And.intro hn4 (And.intro (Below.andThen hb23 hb4) hb4))
  clear hn4 hb4 hb23 hp hv hl h hB hlen hch hN hend
  go_wp2_with fail
  obtain ⟨h,hB,hlen,hp,hl,hch,hv,hN,hend⟩:=HX.out
  obtain ⟨hn4,hb4,hb34⟩:=H4.out
  have hns:=chain_nodes hch h.2.2.2.2
  have hns2:=(hns.2 s rfl).below hb4 hB (Nat.le_trans hB hb4.size)
  have hcc:s.ents.length + (T.ent g4 p v).ents.length < 18446744073709551616:=by have:=HS.out.2.2.2;rw [Tr.ents_ent];simp;omega
  refine (nPair_c (l:=l) hns2 hn4 (Nat.le_refl _) HS.out.2.1 HS.out.2.2.1 (Nat.zero_le _) hcc).mono ?_
  rintro e w5 ⟨g5,rfl,hn5,hg5,hb5⟩
  have H5:=Lib.hid (And.intro hn5 hb5)
  clear hn4 hb4 hb34 hp hv hl h hB hlen hch hN hend hns hns2 hn5 hb5 hcc
  go_wp2_with fail
  obtain ⟨h,hB,hlen,hp,hl,hch,hv,hN,hend⟩:=HX.out
  obtain ⟨-,hb4,hb34⟩:=H4.out
  obtain ⟨hn5,hb5⟩:=H5.out
  have hb05:=Below.andThen hb4 hb5
  have hb35:=Below.andThen hb34 hb5
  have hwf:=nodeO_wf h.2.2.2.2
  have hns:=chain_nodes hch h.2.2.2.2
  change Node w5 w5.heap.size k (T.br g5 l (Z.cut s.pre (l + 1)) (Sl.put (Z.addr p l) (T.ent g4 p v) (Sl.put (Z.addr s.pre l) s []))) at hn5
  generalize hxe:T.br g5 l (Z.cut s.pre (l + 1)) (Sl.put (Z.addr p l) (T.ent g4 p v) (Sl.put (Z.addr s.pre l) s [])) = x at *
  have hx:Tr.PutX p v (some s) x:=.inr ⟨s,g5,g4,l,rfl,HS.out.1,HS.out.2.1,hxe.symm⟩
  have hBw:B≤w5.heap.size:=Nat.le_trans hB hb05.size
  have hfit:∀ j u t,L.reverse[j]? = some u→Built (L.reverse.take j) x t→FitsT k u t:=fun j u t hj hb => built_fits hl hp.1 (.inl ⟨v,rfl⟩) hn5.1 hwf hch (Tr.putX_under hl hp.1 hwf hch hx) (Tr.putX_turned hl hp.1 (fun s hs => Tr.chain_y hch hwf s hs) hx) hN j u t hj hb
  have htc:TreC w5 b k (rootP o):=h.2.2.2.1.below hb05 (Nat.lt_of_lt_of_le h.1 hB)
  have hus:∀ u∈L,Node w5 w5.heap.size k u:=fun u hu => (hns.1 u hu).below hb05 hB hBw
  have HH:=tHaving_c (B:=w5.heap.size) (us:=L) (x:=x) (c:=d) (Nat.lt_of_lt_of_le h.1 hBw) htc h.2.1 h.2.2.1 (Nat.le_refl _) (H3.out.1.below (Below.andThen H3.out.2.2 hb35) (Nat.le_refl _) (Below.andThen H3.out.2.2 hb35).size) hus (by omega) hn5 hfit
  have hxb:x.blk = g5:=by rw [← hxe];rfl
  rw [hxb] at HH
  clear hfit htc hus
  refine HH.mono ?_
  rintro e w6 ⟨n,t,rfl,hbu,htr,hn,hb6⟩
  have hfin:PutTo w w6 k b o p v n t:=⟨htr,Nat.le_trans hb05.size hn,Tr.put_all hl hp.1 hwf hch hx hn5.1 hbu,⟨L,_,_,hch,hx,hn5.1,hbu⟩,by have:=h.1;omega⟩
  have HF:=Lib.hid (And.intro hfin (Below.andThen hb05 hb6))
  clear hfin hbu htr hn hb6 hns hx hwf h hch hp hl hlen hN hv hB hBw hb4 hb34 hn5 hend HH hxe hxb hb05 hb35 hb5
  go_wp2_with fail
  go_ret2
  exact ⟨n,t,rfl,HF.out⟩
theorem tPut_c {w:World} {B b k:Nat} {o:Option T} (h:TreeAt w B b k o) (hB:B≤w.heap.size) {p:List Nat} {A:Option Addr} {c:Nat} (hp:Pts w B A p) (hl:p.length = k) (v:Nat) (hv:v < 18446744073709551616) (hN:(Tr.entsO o).length≤4611686018427387904) :
    Calls Tryz.prog 46 #[.pointer (some ⟨b,0,none⟩),.slice A p.length c,.int .u64 (v:Int)] w fun e w' =>
      (Tr.getE (Tr.entsO o) p = some v∧e = .returned (.tuple #[.pointer (some ⟨b,0,none⟩),.int .i64 0])∧Below w.heap.size w w') ∨
      (Tr.getE (Tr.entsO o) p≠some v∧∃ n t,e = .returned (.tuple #[.pointer (some ⟨n,0,none⟩),.int .i64 0])∧PutTo w w' k b o p v n t∧Below w.heap.size w w'):=by
  have hwf:=nodeO_wf h.2.2.2.2
  rcases Tr.path_chain hl hp.1 65 o (fun t e => ⟨hwf t e,by have:=(hwf t e).lv64;omega⟩) with ⟨g,v0,L,h1,h2,h3⟩ | ⟨h1,h2,h3⟩
  · have hg:=Tr.get_here hl hp.1 hwf h3
    by_cases hvv:v0 = v
    · subst hvv
      exact (tPut_same h hB hp hl v0 h1 h3 h2).mono fun e w' hh => .inl ⟨hg,hh⟩
    · exact (tPut_old h hB hp hl v hv h1 h3 h2 hvv hN).mono fun e w' hh => .inr ⟨by rw [hg];simpa using hvv,hh⟩
  · have hg:=Tr.get_none hl hp.1 hwf h1 h2
    rcases hs:Tr.stopF 65 o p with _ | s
    · rw [hs] at h1
      exact (tPut_free h hB hp hl v hv h1 hs h3 hN).mono fun e w' hh => .inr ⟨by rw [hg];simp,hh⟩
    · rw [hs] at h1 h2
      exact (tPut_beside h hB hp hl v hv h1 hs (h2 s rfl) h3 hN).mono fun e w' hh => .inr ⟨by rw [hg];simp,hh⟩
end Go.Proofs.YtkeepngaaleakaaGreatDoor
namespace Go.Proofs.YtkeepngaaleakaaGreatDoor
open Tr (T S4 Ent)
namespace Tr
open Go.Proofs.YtkeepngaaleakaaGreatDoor.Z
def DelX (u:T) (p:List Nat) (x:T):Prop:=∃ g l pre ks,u = .br g l pre ks∧((2≤(Sl.del (addr p l) ks).length∧∃ g',x = .br g' l pre (Sl.del (addr p l) ks))∨∃ c,Sl.del (addr p l) ks = [(c,x)])
theorem mem_left {k g l q v:Nat} {pre:List Nat} {ks:List (Nat × T)} (h:Wf k (.br g l pre ks)) {p:List Nat} (hkid:kidAt (.br g l pre ks) p = some (.ent q p v)) {e:Ent}:e∈entsL (Sl.del (addr p l) ks)↔e∈entsL ks∧e.1≠p:=by
  have hw:Sl.Wf k ks:=by cases h with | br _ _ _ _ _ hw => exact hw
  rw [mem_entsL,mem_entsL]
  constructor
  · rintro ⟨y,hy,he⟩
    have h1:=(Sl.get_iff (Sl.srt_del (addr p l) hw.srt) (a:=y.1) (v:=y.2)).2 hy
    rw [Sl.get_del hw.srt] at h1
    by_cases c:y.1 = addr p l
    · rw [if_pos (by omega)] at h1;cases h1
    · have hm:=Sl.mem_del hy
      exact ⟨⟨y,hm,he⟩,fun e2 => c (by rw [← kid_addr h hm he,e2])⟩
  · rintro ⟨⟨y,hy,he⟩,hn⟩
    refine ⟨y,(Sl.get_iff (Sl.srt_del (addr p l) hw.srt)).1 ?_,he⟩
    rw [Sl.get_del hw.srt]
    have:y.1≠addr p l:=by
      intro c
      have h1:=(Sl.get_iff hw.srt (a:=y.1) (v:=y.2)).2 hy
      have h3:Sl.get ks (addr p l:Int) = some (.ent q p v):=hkid
      rw [c,h3] at h1
      have h4:=Option.some.inj h1
      rw [← h4,ents_ent] at he
      simp only [List.mem_singleton] at he
      exact hn (by rw [he])
    rw [if_neg (by omega)]
    exact (Sl.get_iff hw.srt).2 hy
theorem delX_turned {k:Nat} {u x:T} (h:Wf k u) {p:List Nat} (hp:p.length = k) (ho:Ok p) (hc:covers u p = true) {q v:Nat} (hkid:kidAt u p = some (.ent q p v)) (hx:DelX u p x) :
    Wf k x∧(∀ m,u.lv≤m→Under x p m)∧Turned (fun _ => False) p u.ents x.ents:=by
  obtain ⟨g,l,pre,ks,rfl,⟨h2,g',rfl⟩ | ⟨c,hd⟩⟩:=hx
  · have:=turned_del (g':=g') h hp ho hc hkid h2
    exact ⟨this.1,this.2.1,this.2.2⟩
  · have hm:(c,x)∈ks:=Sl.mem_del (by rw [hd];exact List.mem_singleton.2 rfl)
    have hcut:=(covers_iff h hp ho).1 hc
    have hk:=h.kid hm
    cases h with
    | br _ _ _ _ h63 hw h2 hl ho' hkk hcc =>
      obtain ⟨c1,c2,c3⟩:=hcc _ hm
      have wf:Wf k (.br g l pre ks):=.br g l pre ks h63 hw h2 hl ho' hkk hcc
      refine ⟨hk,fun m hm' => ?_,fun e => ?_⟩
      · have hm2:l + 1≤m:=hm'
        exact ⟨by have:x.lv≤l:=c1;omega,by rw [← cut_cut x.pre (l + 1) m hm2,c2,← (show cut p (l + 1) = pre from hcut),cut_cut p (l + 1) m hm2]⟩
      · have:=mem_left wf hkid (e:=e)
        rw [hd] at this
        rw [ents_br,false_or,← this]
        simp [entsL]
theorem chain_last {p:List Nat}:∀ {L:List T} {o y:Option T} {u:T},Chain p o (L ++ [u]) y→Chain p o L (some u)∧isBr u∧covers u p = true∧kidAt u p = y
  | [],_,_,_,h => ⟨h.1.symm,h.2.1,h.2.2.1,h.2.2.2.symm⟩
  | _ :: _,_,_,_,h => by
    obtain ⟨h1,h2,h3,h4⟩:=h
    have ih:=chain_last h4
    exact ⟨⟨h1,h2,h3,ih.1⟩,ih.2⟩
theorem delX_under {k:Nat} {p:List Nat}:∀ {L:List T} {o:Option T} {u x:T},(∀ t,o = some t→Wf k t)→Chain p o L (some u)→(∀ m,u.lv≤m→Under x p m)→∀ L' a,L = L' ++ [a]→Under x p (a.lv - 1)
  | [],_,_,_,_,_,_,L',a,h => by simp at h
  | b :: L,o,u,x,hw,hch,hx,L',a,h => by
    obtain ⟨h1,h2,h3,h4⟩:=hch
    have wb:=hw b h1
    cases L' with
    | cons c L' =>
      simp only [List.cons_append,List.cons.injEq] at h
      exact delX_under (fun s hs => (kidAt_wf wb hs).1) h4 hx L' a h.2
    | nil =>
      simp only [List.nil_append,List.cons.injEq] at h
      obtain ⟨rfl,rfl⟩:=h
      have hy:some u = kidAt b p:=h4
      have:=kidAt_wf wb hy.symm
      exact hx _ (by omega)
theorem del_all {k:Nat} {p:List Nat} (hp:p.length = k) (ho:Ok p) {L:List T} {o:Option T} {u x t:T} {q v:Nat} (hw:∀ t,o = some t→Wf k t) (hch:Chain p o (L ++ [u]) (some (.ent q p v))) (hx:DelX u p x) (hb:Built L.reverse x t):t.ents = delE p (entsO o):=by
  obtain ⟨h1,h2,h3,h4⟩:=chain_last hch
  have wu:=chain_y h1 hw u rfl
  have hd:=delX_turned wu hp ho h3 h4 hx
  have hT:=built_turned hp ho hd.1 hw h1 (delX_under hw h1 hd.2.1) hd.2.2 t hb
  have hz:=entsO_zs hw
  exact turned_gone hz.1 hz.2 hp ho hT.1.zs hT.2.1
theorem del_only {p:List Nat} {q v:Nat}:delE p (T.ent q p v).ents = []:=by
  rw [ents_ent]
  simp [delE,K,Sl.del]
end Tr
end Go.Proofs.YtkeepngaaleakaaGreatDoor
namespace Go.Proofs.YtkeepngaaleakaaGreatDoor
open Go.ChangeShapes Go.WideShapes Go.ChangeAt Go.RowKit
open Tr (T S4 Ent)
theorem tDel_dim {w:World} {b k:Nat} {r:Option Addr} (h:TreC w b k r) (A:Option Addr) (n c:Nat) (hn:n≤maxLen) (hne:n≠k) :
    Calls Tryz.prog 106 #[.pointer (some ⟨b,0,none⟩),.slice A n c] w fun e w' => e = .returned (.tuple #[.pointer none,.int .i64 2])∧w = w':=by
  have H:=Lib.hid (tRef_dim h A n c hn hne)
  clear h hn hne
  go_enter Tryz.func106,Tryz.ntmps106
  go_wp2_with (go_at_call 98;refine H.out.mono ?_;rintro e w' ⟨rfl,rfl⟩)
  go_ret2
  exact ⟨rfl,rfl⟩
set_option maxRecDepth 100000 in
theorem tDel_none {w:World} {B b k:Nat} {o y:Option T} (h:TreeAt w B b k o) (hB:B≤w.heap.size) {p:List Nat} {A:Option Addr} {c:Nat} (hp:Pts w B A p) (hl:p.length = k)
    (hch:Tr.Chain p o (Tr.pathT o p) y) (hend:Tr.pathT o p = []∨∃ L u,Tr.pathT o p = L ++ [u]∧Tr.isBr u) :
    Calls Tryz.prog 106 #[.pointer (some ⟨b,0,none⟩),.slice A p.length c] w fun e w' => e = .returned (.tuple #[.pointer none,.int .i64 6])∧Below w.heap.size w w':=by
  have HR:=Lib.hid (tRef_ok h.2.2.2.1 A p.length c h.2.1 h.2.2.1 hl)
  have HP:=path_c h hB hp hl (c:=c)
  have hlen:=Tr.pathF_length p 65 o
  change (Tr.pathT o p).length≤65 at hlen
  generalize Tr.pathT o p = L at *
  have HP:=Lib.hid HP
  have HX:=Lib.hid (And.intro h (And.intro hB (And.intro hlen (And.intro hch hend))))
  clear h hB hp hl hch hlen hend
  go_enter Tryz.func106,Tryz.ntmps106
  go_wp2_with (first
    | (go_at_call 98;refine HR.out.mono ?_;rintro e w' ⟨rfl,rfl⟩)
    | (go_at_call 99;refine HP.out.mono ?_;rintro e w2 ⟨D,d,rfl,hN2,-,hb2⟩))
  obtain ⟨h,hB,hlen,hch,hend⟩:=HX.out
  have hns:=chain_nodes hch h.2.2.2.2
  refine (cutE_no (OwnV.rd_at hN2) (fun u hu => (hns.1 u hu).below hb2 hB (Nat.le_refl _)) (Nat.le_trans hB hb2.size) (by omega) hend).mono ?_
  rintro e w3 ⟨rfl,hb3⟩
  clear hN2 hns h hB hlen hch hend
  go_wp2_with fail
  go_ret2
  exact ⟨rfl,Below.andThen hb2 hb3⟩
def DelTo (w w':World) (k:Nat) (o:Option T) (p:List Nat) (n:Nat) (o':Option T):Prop :=
  TreeX w' n k o'∧w.heap.size≤n∧Tr.entsO o' = Tr.delE p (Tr.entsO o) ∧
    ∃ L q v,Tr.Chain p o L (some (.ent q p v))∧((L = []∧o' = none)∨∃ L' u x t,L = L' ++ [u]∧Tr.DelX u p x∧Tr.Wf k x∧Built L'.reverse x t∧o' = some t)
set_option maxRecDepth 100000 in
set_option maxHeartbeats 1000000 in
theorem tDel_only {w:World} {B b k:Nat} {g v0:Nat} {p:List Nat} (h:TreeAt w B b k (some (.ent g p v0))) (hB:B≤w.heap.size) {A:Option Addr} {c:Nat} (hp:Pts w B A p) (hl:p.length = k)
    (hpath:Tr.pathT (some (.ent g p v0)) p = [.ent g p v0]) :
    Calls Tryz.prog 106 #[.pointer (some ⟨b,0,none⟩),.slice A p.length c] w fun e w' => ∃ n o',e = .returned (.tuple #[.pointer (some ⟨n,0,none⟩),.int .i64 0])∧DelTo w w' k (some (.ent g p v0)) p n o'∧Below w.heap.size w w':=by
  have HR:=Lib.hid (tRef_ok h.2.2.2.1 A p.length c h.2.1 h.2.2.1 hl)
  have HP:=path_c h hB hp hl (c:=c)
  rw [hpath,show [T.ent g p v0].length = 1 from rfl] at HP
  have HP:=Lib.hid HP
  have HX:=Lib.hid (And.intro h (And.intro hB hl))
  clear h hB hp hl hpath
  go_enter Tryz.func106,Tryz.ntmps106
  go_wp2_with (first
    | (go_at_call 98;refine HR.out.mono ?_;rintro e w' ⟨rfl,rfl⟩)
    | (go_at_call 99;refine HP.out.mono ?_;rintro e w2 ⟨D,d,rfl,hN2,-,hb2⟩))
  obtain ⟨h,hB,hl⟩:=HX.out
  have hcap:0 + 1≤d:=OwnV.cap hN2
  have HC:=cutE_ent (us:=[]) (c:=d) (OwnV.rd_at hN2) ((h.2.2.2.2 _ rfl).below hb2 hB (Nat.le_refl _)) (Nat.le_trans hB hb2.size) (by simp) hcap
  refine HC.mono ?_
  clear HC
  rintro e w3 ⟨A3,rfl,hrd3,hb3⟩
  have hb23:=Below.andThen hb2 hb3
  have ck:w3.cell? ⟨b,0,none⟩ = some (.int .i64 (k:Int)):=(hb23.cell (p:=⟨b,0,none⟩) (Nat.lt_of_lt_of_le h.1 hB)).trans h.2.2.2.1.1
  have HB:=Lib.hid hb23
  clear hcap hN2 hrd3 hb2 hb3 h hB hl hb23
  simp only [List.length_nil]
  go_wp2_with fail
  go_ret2
  obtain ⟨h,hB,hl⟩:=HX.out
  have hal:=below_alloc w3 (.cells #[.int .i64 (k:Int),.pointer none] 168)
  refine ⟨w3.heap.size,none,rfl,⟨⟨⟨by simp,h.2.1,h.2.2.1,treC_at (heap_at w3 _ _ rfl),NodeO.none _ _ _⟩,_,_,heap_at w3 _ _ rfl⟩,HB.out.size,Tr.del_only.symm,⟨[],g,v0,rfl,.inl ⟨rfl,rfl⟩⟩⟩,Below.andThen HB.out hal⟩
set_option maxRecDepth 100000 in
set_option maxHeartbeats 1000000 in
theorem tDel_more {w:World} {B b k:Nat} {o:Option T} (h:TreeAt w B b k o) (hB:B≤w.heap.size) {p:List Nat} {A:Option Addr} {c:Nat} (hp:Pts w B A p) (hl:p.length = k) {g v0:Nat} {L:List T} {u:T} (hpath:Tr.pathT o p = (L ++ [u]) ++ [.ent g p v0])
    (hch:Tr.Chain p o (L ++ [u]) (some (.ent g p v0))) (hN:(Tr.entsO o).length≤4611686018427387904) :
    Calls Tryz.prog 106 #[.pointer (some ⟨b,0,none⟩),.slice A p.length c] w fun e w' => ∃ n o',e = .returned (.tuple #[.pointer (some ⟨n,0,none⟩),.int .i64 0])∧DelTo w w' k o p n o'∧Below w.heap.size w w':=by
  have HR:=Lib.hid (tRef_ok h.2.2.2.1 A p.length c h.2.1 h.2.2.1 hl)
  have HP:=path_c h hB hp hl (c:=c)
  have hlen:=chain_short (.inr ⟨_,hpath⟩) hch
  rw [hpath,List.length_append,show (L ++ [u]).length + [T.ent g p v0].length = (L ++ [u]).length + 1 from rfl] at HP
  obtain ⟨hc1,hc2,hc3,hc4⟩:=Tr.chain_last hch
  have hwf:=nodeO_wf h.2.2.2.2
  have wu:Tr.Wf k u:=Tr.chain_y hc1 hwf u rfl
  obtain ⟨M,hM⟩:∃ M,L.length = M:=⟨_,rfl⟩
  have hLl:(L ++ [u]).length = M + 1:=by simp [hM]
  rw [hLl] at HP hlen
  have HP:=Lib.hid HP
  have HX:=Lib.hid (And.intro h (And.intro hB (And.intro hlen (And.intro hp (And.intro hl (And.intro hch (And.intro hN (And.intro hM hLl))))))))
  have HU:=Lib.hid (And.intro hc1 (And.intro hc2 (And.intro hc3 (And.intro hc4 (And.intro hwf wu)))))
  clear h hB hp hl hpath hch hlen hN hc1 hc2 hc3 hc4 hwf wu hM hLl
  go_enter Tryz.func106,Tryz.ntmps106
  go_wp2_with (first
    | (go_at_call 98;refine HR.out.mono ?_;rintro e w' ⟨rfl,rfl⟩)
    | (go_at_call 99;refine HP.out.mono ?_;rintro e w2 ⟨D,d,rfl,hN2,-,hb2⟩))
  obtain ⟨h,hB,hlen,hp,hl,hch,hN,hM,hLl⟩:=HX.out
  have hcap:M + 1 + 1≤d:=OwnV.cap hN2
  have hns:=chain_nodes hch h.2.2.2.2
  have HC:=cutE_ent (us:=L ++ [u]) (c:=d) (OwnV.rd_at hN2) ((hns.2 _ rfl).below hb2 hB (Nat.le_refl _)) (Nat.le_trans hB hb2.size) (by omega) (by omega)
  rw [hLl] at HC
  refine HC.mono ?_
  clear HC
  rintro e w3 ⟨A3,rfl,hrd3,hb3⟩
  have hb23:=Below.andThen hb2 hb3
  obtain ⟨A4,hcut,hrd4⟩:=cut_hi 144 81 Tryz.underlying144 infoN A3 (M + 1) d M (by omega) (by omega)
  have hrd5:=hrd4 w2 _ _ (by rw [ptrV_length,hLl]) hrd3
  rw [show (ptrV (L ++ [u])).take M = ptrV L by rw [← hM];simp [ptrV]] at hrd5
  obtain ⟨rb,ro,hA3,hrb,hcell⟩:=rd_ptr hrd3 (i:=M) (t:=u) (by rw [← hM];simp)
  have hce:w3.cell? ⟨rb,ro + M,none⟩ = some (.pointer (some ⟨u.blk,0,none⟩)):=(hb3.cell (p:=⟨rb,ro + M,none⟩) hrb).trans hcell
  have H3:=Lib.hid (And.intro hrd5 (And.intro hb23 hb3))
  have hnu:=(hns.1 u (by simp)).below hb23 hB (Nat.le_trans hB hb23.size)
  have HNU:=Lib.hid hnu
  clear hcap hN2 hrd3 hb2 hns h hB hlen hch hN hl hM hLl hrd4 hrd5 hcell hrb
  subst hA3
  obtain ⟨hc1,hc2,hc3,hc4,hwf,wu⟩:=HU.out
  cases u with
  | ent _ _ _ => exact hc2.elim
  | br gu l pre ks =>
    obtain ⟨bq,hndu⟩:∃ bq,NdAt w3 w3.heap.size gu (l:Int) pre 0 (some ⟨bq,0,none⟩) (Tr.sums (Tr.entsL ks))∧Sn.At w3 w3.heap.size bq k (kidL ks):=by cases hnu.2 with | br _ _ _ _ b h ha hk => exact ⟨b,h,ha⟩
    have HND:=Lib.hid hndu
    have h63:l≤63:=by cases wu with | br _ _ _ _ h63 => exact h63
    have hk1:=wu.k1
    have hk16:=wu.k16
    have HA:=Lib.hid (addr_yes A c p l B w3 (hp.below' hb23 HX.out.2.1) (by rw [HX.out.2.2.2.2.1];exact hk1) (by rw [HX.out.2.2.2.2.1];exact hk16) h63)
    have hal:Z.addr p l < 2 ^ k:=by have:=Z.addr_bound p l;rw [HX.out.2.2.2.2.1] at this;exact this
    have hw:Sl.Wf k ks:=by cases wu with | br _ _ _ _ _ hw => exact hw
    have hget:Sl.get ks (Z.addr p l:Int) = some (.ent g p v0):=hc4
    have hhas:Sl.has ks (Z.addr p l:Int) = true:=by unfold Sl.has;rw [hget];rfl
    have hdl:=Sl.length_del hw.srt hget
    have h2:2≤ks.length:=by cases wu with | br _ _ _ _ _ _ h2 => exact h2
    have hentl:(Tr.entsL ks).length≤4611686018427387904:=by
      have h5:=Tr.chain_len hc1 hwf
      have h6:(Tr.entsL ks).length≤(Tr.entsO o).length:=by
        have:(Tr.entsO (some (T.br gu l pre ks))).length = (Tr.entsL ks).length:=by show (T.br gu l pre ks).ents.length = _;rw [Tr.ents_br]
        rw [← this];exact h5
      exact Nat.le_trans h6 HX.out.2.2.2.2.2.2.1
    have m0:(M:Int)≤64:=by have:=HX.out.2.2.1;omega
    have m1:(0:Int)≤(M:Int):=by omega
    have m2:(M:Int) < ((M + 1:Nat):Int):=by omega
    have m3:((M + 1:Nat):Int) - 1 = (M:Int):=by omega
    have m4:(((M + 1:Nat):Int) == 0) = false:=by rw [beq_eq_false_iff_ne];omega
    simp only [T.blk] at hce
    -- what Without leaves
    have HWO:Hid (∀ (_:Unit),Calls Tryz.prog 113 #[.pointer (some ⟨gu,0,none⟩),.int .i64 (Z.addr p l:Int)] w3 fun e w' => ∃ x,e = .returned (.tuple #[.pointer (some ⟨x.blk,0,none⟩),.int .i64 0])∧Tr.DelX (.br gu l pre ks) p x∧Node w' w'.heap.size k x∧Below w3.heap.size w3 w'):=Lib.hid fun _ => by
      by_cases hd2:2≤(Sl.del (Z.addr p l) ks).length
      · refine (nWithout_two HNU.out (Nat.le_refl _) (Z.addr p l) hal hhas hd2 (by omega)).mono ?_
        rintro e w' ⟨g',rfl,hn,-,hb⟩
        exact ⟨_,rfl,⟨gu,l,pre,ks,rfl,.inl ⟨hd2,g',rfl⟩⟩,hn,hb⟩
      · obtain ⟨y,hy⟩:∃ y,Sl.del (Z.addr p l) ks = [y]:=by
          match hm:Sl.del (Z.addr p l) ks,hdl,hd2 with
          | [],hdl,_ => simp at hdl;omega
          | [y],_,_ => exact ⟨y,rfl⟩
          | _ :: _ :: _,_,hd2 => simp at hd2
        have hym:y∈ks:=Sl.mem_del (by rw [hy];exact List.mem_singleton.2 rfl)
        have hdk:Sl.del (Z.addr p l) (kidL ks) = [(y.1,at0 y.2)]:=by rw [← kidL_del,hy];rfl
        have hhk:Sl.has (kidL ks) (Z.addr p l:Int) = true:=by unfold Sl.has;rw [kidL_get,hget];rfl
        refine (nWithout_one HND.out.1 HND.out.2 (Nat.le_refl _) (Z.addr p l) hal hhk hdk).mono ?_
        rintro e w' ⟨rfl,hb⟩
        exact ⟨y.2,rfl,⟨gu,l,pre,ks,rfl,.inr ⟨y.1,hy⟩⟩,(HNU.out.kid hym).below hb (Nat.le_refl _) hb.size,hb⟩
    clear hc1 hc2 hc3 hc4 hwf wu hnu hndu hk1 hk16 hal hw hget hhas hdl h2 hentl hp hb3 hb23 h63
    go_wp2_with (first
      | (go_at_call 120;refine (nLevel_c HND.out.1).mono ?_;rintro e w4 ⟨rfl,rfl⟩)
      | (go_at_call 160;refine HA.out.mono ?_;rintro e w4 ⟨rfl,rfl⟩))
    refine (HWO.out ()).mono ?_
    rintro e w4 ⟨x,rfl,hdx,hnx,hb4⟩
    have H4:=Lib.hid (And.intro hdx (And.intro hnx hb4))
    clear hdx hnx hb4 hce
    go_wp2_with fail
    obtain ⟨hdx,hnx,hb34⟩:=H4.out
    obtain ⟨h,hB,hlen,hp,hl,hch,hN,hM,hLl⟩:=HX.out
    obtain ⟨hc1,hc2,hc3,hc4,hwf,wu⟩:=HU.out
    have hb4:=Below.andThen H3.out.2.1 hb34
    have hns:=chain_nodes hch h.2.2.2.2
    have hdt:=Tr.delX_turned wu hl hp.1 hc3 hc4 hdx
    have hBw:B≤w4.heap.size:=Nat.le_trans hB hb4.size
    have hfit:∀ j u t,L.reverse[j]? = some u→Built (L.reverse.take j) x t→FitsT k u t:=fun j u t hj hb => built_fits hl hp.1 (.inr rfl) hnx.1 hwf hc1 (Tr.delX_under hwf hc1 hdt.2.1) hdt.2.2 hN j u t hj hb
    have htc:TreC w4 b k (rootP o):=h.2.2.2.1.below hb4 (Nat.lt_of_lt_of_le h.1 hB)
    have hus:∀ u∈L,Node w4 w4.heap.size k u:=fun u hu => (hns.1 u (by simp [hu])).below hb4 hB hBw
    have HH:=tHaving_c (B:=w4.heap.size) (us:=L) (x:=x) (c:=d) (Nat.lt_of_lt_of_le h.1 hBw) htc h.2.1 h.2.2.1 (Nat.le_refl _) (H3.out.1.below (Below.andThen H3.out.2.2 hb34) (Nat.le_refl _) (Below.andThen H3.out.2.2 hb34).size) hus (by omega) hnx hfit
    rw [hM] at HH
    clear hfit htc hus
    refine HH.mono ?_
    rintro e w5 ⟨n,t,rfl,hbu,htr,hn,hb5⟩
    have hfin:DelTo w w5 k o p n (some t):=⟨htr,Nat.le_trans hb4.size hn,Tr.del_all hl hp.1 hwf hch hdx hbu,⟨L ++ [.br gu l pre ks],g,v0,hch,.inr ⟨L,_,x,t,rfl,hdx,hnx.1,hbu,rfl⟩⟩⟩
    have HF:=Lib.hid (And.intro hfin (Below.andThen hb4 hb5))
    clear hfin hbu htr hn hb5 hns h hch hp hl hlen hN hB hBw hb4 hb34 hdx hnx hM hLl hc1 hc2 hc3 hc4 hwf wu hdt HH
    go_wp2_with fail
    go_ret2
    exact ⟨n,some t,rfl,HF.out⟩
theorem tDel_c {w:World} {B b k:Nat} {o:Option T} (h:TreeAt w B b k o) (hB:B≤w.heap.size) {p:List Nat} {A:Option Addr} {c:Nat} (hp:Pts w B A p) (hl:p.length = k) (hN:(Tr.entsO o).length≤4611686018427387904) :
    Calls Tryz.prog 106 #[.pointer (some ⟨b,0,none⟩),.slice A p.length c] w fun e w' =>
      (Tr.getE (Tr.entsO o) p = none∧e = .returned (.tuple #[.pointer none,.int .i64 6])∧Below w.heap.size w w') ∨
      ((∃ v,Tr.getE (Tr.entsO o) p = some v)∧∃ n o',e = .returned (.tuple #[.pointer (some ⟨n,0,none⟩),.int .i64 0])∧DelTo w w' k o p n o'∧Below w.heap.size w w'):=by
  have hwf:=nodeO_wf h.2.2.2.2
  rcases Tr.path_chain hl hp.1 65 o (fun t e => ⟨hwf t e,by have:=(hwf t e).lv64;omega⟩) with ⟨g,v0,L,h1,h2,h3⟩ | ⟨h1,h2,h3⟩
  · have hg:=Tr.get_here hl hp.1 hwf h3
    rcases List.eq_nil_or_concat L with rfl | ⟨L',u,rfl⟩
    · have ho:some (T.ent g p v0) = o:=h3
      subst ho
      exact (tDel_only h hB hp hl h1).mono fun e w' hh => .inr ⟨⟨v0,hg⟩,hh⟩
    · rw [List.concat_eq_append] at h1 h3
      exact (tDel_more h hB hp hl h1 h3 hN).mono fun e w' hh => .inr ⟨⟨v0,hg⟩,hh⟩
  · have hg:=Tr.get_none hl hp.1 hwf h1 h2
    exact (tDel_none h hB hp hl h1 h3).mono fun e w' hh => .inl ⟨hg,hh⟩
end Go.Proofs.YtkeepngaaleakaaGreatDoor
