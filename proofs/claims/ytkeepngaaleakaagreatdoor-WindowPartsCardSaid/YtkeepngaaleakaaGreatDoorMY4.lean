import Derived.Test.YtkeepngaaleakaaGreatDoorMY3
namespace Go.Proofs.YtkeepngaaleakaaGreatDoor
open Go.ChangeShapes Go.WideShapes Go.ChangeAt Go.RowKit
open Tr (T S4 Ent KL)
def updK (K:KL) (p:Nat × Option T):KL:=match p.2 with
  | none => Sl.del p.1 K
  | some t => Sl.put p.1 t K
def updL (K:KL) (L:List (Nat × Option T)):KL:=L.foldl updK K
theorem updL_nil (K:KL):updL K [] = K:=rfl
theorem updL_cons (K:KL) (p:Nat × Option T) (L:List (Nat × Option T)):updL K (p :: L) = updL (updK K p) L:=rfl
theorem updL_snoc (K:KL) (L:List (Nat × Option T)) (p:Nat × Option T):updL K (L ++ [p]) = updK (updL K L) p:=by simp [updL]
theorem updL_take {K:KL} {L:List (Nat × Option T)} {j:Nat} {p:Nat × Option T} (h:L[j]? = some p):updL K (L.take (j + 1)) = updK (updL K (L.take j)) p:=by
  rw [List.take_add_one,h]
  exact updL_snoc _ _ _
theorem updK_none (K:KL) (a:Nat):updK K (a,none) = Sl.del a K:=rfl
theorem updK_some (K:KL) (a:Nat) (t:T):updK K (a,some t) = Sl.put a t K:=rfl
theorem srt_updK {K:KL} (h:Sl.Srt K) (p:Nat × Option T):Sl.Srt (updK K p):=by
  obtain ⟨a,n⟩:=p
  cases n with
  | none => exact Sl.srt_del a h
  | some t => exact Sl.srt_put a t h
theorem srt_updL:∀ {L:List (Nat × Option T)} {K:KL},Sl.Srt K→Sl.Srt (updL K L)
  | [],_,h => h
  | p :: L,_,h => srt_updL (L:=L) (srt_updK h p)
theorem get_updK {K:KL} (h:Sl.Srt K) (p:Nat × Option T) (b:Int):Sl.get (updK K p) b = if b = (p.1:Int) then p.2 else Sl.get K b:=by
  obtain ⟨a,n⟩:=p
  cases n with
  | none => exact Sl.get_del h a b
  | some t => exact Sl.get_put h a t b
theorem get_updL:∀ {L:List (Nat × Option T)} {K:KL},Sl.Srt K→∀ {b:Int},(∀ p∈L,(p.1:Int)≠b)→Sl.get (updL K L) b = Sl.get K b
  | [],_,_,_,_ => rfl
  | p :: L,K,h,b,hb => by
    rw [updL_cons,get_updL (srt_updK h p) (fun q hq => hb q (List.mem_cons_of_mem _ hq)),get_updK h,if_neg (fun e => hb p List.mem_cons_self e.symm)]
theorem len_updK {K:KL} (h:Sl.Srt K) (p:Nat × Option T):K.length≤(updK K p).length + 1∧(updK K p).length≤K.length + 1:=by
  obtain ⟨a,n⟩:=p
  cases n with
  | none =>
    rw [updK_none]
    cases hg:Sl.get K (a:Int) with
    | none => rw [Sl.del_none hg];omega
    | some v => have:=Sl.length_del h hg;omega
  | some t =>
    rw [updK_some,Sl.length_put h]
    split <;> omega
theorem len_updL:∀ {L:List (Nat × Option T)} {K:KL},Sl.Srt K→K.length≤(updL K L).length + L.length∧(updL K L).length≤K.length + L.length
  | [],_,_ => by rw [updL_nil];simp
  | p :: L,K,h => by
    have h1:=len_updK h p
    have h2:=len_updL (L:=L) (srt_updK h p)
    rw [updL_cons,List.length_cons]
    omega
theorem mem_updK {K:KL} {p:Nat × Option T} {x:Nat × T} (h:x∈updK K p):x∈K∨p = (x.1,some x.2):=by
  obtain ⟨a,n⟩:=p
  cases n with
  | none => exact .inl (Sl.mem_del h)
  | some t => exact (Sl.mem_put h).elim (fun e => .inr (by rw [e])) .inl
theorem mem_updL:∀ {L:List (Nat × Option T)} {K:KL} {x:Nat × T},x∈updL K L→x∈K∨(x.1,some x.2)∈L
  | [],_,_,h => .inl h
  | p :: L,K,x,h => by
    rcases mem_updL (L:=L) h with h | h
    · rcases mem_updK h with h | h
      · exact .inl h
      · exact .inr (by rw [h];exact List.mem_cons_self)
    · exact .inr (List.mem_cons_of_mem _ h)
def FitP (k l:Nat) (c0:List Nat) (L:List (Nat × Option T)):Prop:=∀ p∈L,∀ t,p.2 = some t→Tr.Wf k t∧t.lv≤l∧Z.cut t.pre (l + 1) = c0∧Z.addr t.pre l = p.1
theorem fit_updL {k l:Nat} {c0:List Nat} {K:KL} {L:List (Nat × Option T)} (hF:Tr.FitL k l c0 K) (hL:FitP k l c0 L):Tr.FitL k l c0 (updL K L) :=
  ⟨srt_updL hF.1,fun x hx => (mem_updL hx).elim (hF.2 x) fun h => hL _ h x.2 rfl⟩
theorem FitP.take {k l:Nat} {c0:List Nat} {L:List (Nat × Option T)} (h:FitP k l c0 L) (j:Nat):FitP k l c0 (L.take j):=fun p hp => h p (List.mem_of_mem_take hp)
def sumP (L:List (Nat × Option T)):Nat:=(L.map fun p => (Tr.entsO p.2).length).sum
theorem sumP_cons (p:Nat × Option T) (L:List (Nat × Option T)):sumP (p :: L) = (Tr.entsO p.2).length + sumP L:=by simp [sumP]
theorem ents_put_le (a:Nat) (t:T):∀ K:KL,(Tr.entsL (Sl.put a t K)).length≤(Tr.entsL K).length + t.ents.length
  | [] => by simp [Sl.put,Tr.entsL]
  | x :: K => by
    have ih:=ents_put_le a t K
    unfold Sl.put
    split
    · simp only [Tr.entsL,List.flatMap_cons,List.length_append] at ih ⊢;omega
    · split
      · simp only [Tr.entsL,List.flatMap_cons,List.length_append];omega
      · simp only [Tr.entsL,List.flatMap_cons,List.length_append];omega
theorem ents_del_le (a:Nat):∀ K:KL,(Tr.entsL (Sl.del a K)).length≤(Tr.entsL K).length
  | [] => by simp [Sl.del]
  | x :: K => by
    have ih:=ents_del_le a K
    unfold Sl.del
    split
    · simp only [Tr.entsL,List.flatMap_cons,List.length_append];omega
    · simp only [Tr.entsL,List.flatMap_cons,List.length_append] at ih ⊢;omega
theorem ents_updK (K:KL) (p:Nat × Option T):(Tr.entsL (updK K p)).length≤(Tr.entsL K).length + (Tr.entsO p.2).length:=by
  obtain ⟨a,n⟩:=p
  cases n with
  | none => exact Nat.le_trans (ents_del_le a K) (Nat.le_add_right _ _)
  | some t => exact ents_put_le a t K
theorem ents_updL:∀ (L:List (Nat × Option T)) (K:KL),(Tr.entsL (updL K L)).length≤(Tr.entsL K).length + sumP L
  | [],_ => Nat.le_refl _
  | p :: L,K => by
    have h1:=ents_updL L (updK K p)
    have h2:=ents_updK K p
    rw [updL_cons,sumP_cons]
    omega
theorem sumP_take {L:List (Nat × Option T)} {j:Nat} {p:Nat × Option T} (h:L[j]? = some p):sumP (L.take j) + (Tr.entsO p.2).length≤sumP L:=by
  have h1:L = L.take j ++ p :: L.drop (j + 1):=by
    obtain ⟨hj,rfl⟩:=List.getElem?_eq_some_iff.1 h
    rw [← List.drop_eq_getElem_cons hj,List.take_append_drop]
  have h2:sumP L = sumP (L.take j) + ((Tr.entsO p.2).length + sumP (L.drop (j + 1))):=by
    conv => lhs;rw [h1]
    unfold sumP
    rw [List.map_append,List.sum_append,List.map_cons,List.sum_cons]
  omega
theorem updL_gt (x:Nat × T):∀ {L:List (Nat × Option T)} {K:KL},(∀ p∈L,x.1 < p.1)→updL (x :: K) L = x :: updL K L
  | [],_,_ => rfl
  | p :: L,K,h => by
    have hp:=h p List.mem_cons_self
    have h1:updK (x :: K) p = x :: updK K p:=by
      obtain ⟨a,n⟩:=p
      have hp':x.1 < a:=hp
      cases n with
      | none =>
        show Sl.del a (x :: K) = x :: Sl.del a K
        conv => lhs;unfold Sl.del
        rw [if_neg (by omega)]
      | some t =>
        show Sl.put a t (x :: K) = x :: Sl.put a t K
        conv => lhs;unfold Sl.put
        rw [if_pos hp']
    rw [updL_cons,updL_cons,h1]
    exact updL_gt x fun q hq => h q (List.mem_cons_of_mem _ hq)
abbrev mtP (m:Mt):Nat × Option T:=(m.a,m.n)
theorem remK_upd:∀ {ks:KL} {L:List Mt},Sl.Srt ks→L.Pairwise (fun p q => p.a < q.a)→(∀ m∈L,∃ t,(m.a,t)∈ks)→remK ks L = updL ks (L.map mtP)
  | [],[],_,_,_ => rfl
  | [],m :: L,_,_,h => by obtain ⟨t,ht⟩:=h m List.mem_cons_self;cases ht
  | x :: ks,[],hs,_,_ => by rw [remK_nil];rfl
  | x :: ks,m :: L,hs,hp,h => by
    obtain ⟨hp1,hp2⟩:=List.pairwise_cons.1 hp
    have hin:∀ q∈m :: L,x.1 < q.a→∃ t,(q.a,t)∈ks:=fun q hq hlt => by
      obtain ⟨t,ht⟩:=h q hq
      rcases List.mem_cons.1 ht with e | e
      · have:q.a = x.1:=by rw [← e]
        omega
      · exact ⟨t,e⟩
    rw [remK]
    split
    · rename_i e
      have hgt:∀ q∈L,x.1 < q.a:=fun q hq => by have:=hp1 q hq;omega
      rw [remK_upd hs.tail hp2 (fun q hq => hin q (List.mem_cons_of_mem _ hq) (hgt q hq)),List.map_cons,updL_cons]
      cases hn:m.n with
      | none =>
        have h1:updK (x :: ks) (mtP m) = ks:=by
          unfold mtP
          rw [hn,updK_none]
          unfold Sl.del
          rw [if_pos e.symm]
        rw [h1]
        rfl
      | some t =>
        have h1:updK (x :: ks) (mtP m) = (x.1,t) :: ks:=by
          unfold mtP
          rw [hn,updK_some]
          unfold Sl.put
          rw [if_neg (by omega),if_pos e.symm,e]
        rw [h1,updL_gt (x.1,t) (by intro q hq;obtain ⟨y,hy,rfl⟩:=List.mem_map.1 hq;exact hgt y hy)]
        rfl
    · rename_i e
      have hlt:x.1 < m.a:=by
        obtain ⟨t,ht⟩:=h m List.mem_cons_self
        rcases List.mem_cons.1 ht with e' | e'
        · exact absurd (by rw [← e']) e
        · exact hs.head _ e'
      have hgt:∀ q∈m :: L,x.1 < q.a:=fun q hq => by
        rcases List.mem_cons.1 hq with rfl | hq
        · exact hlt
        · have:=hp1 q hq;omega
      rw [remK_upd hs.tail hp (fun q hq => hin q hq (hgt q hq)),updL_gt x (by intro q hq;obtain ⟨y,hy,rfl⟩:=List.mem_map.1 hq;exact hgt y hy)]
theorem wDelF_c {w:World} {base k:Nat} {v:Value} {L:List Mt} (h:RowZ 160 3 MtQ metZ w base v L) (hl:L.length≤65536) (hok:∀ x∈L,MtOk w k x) :
    Calls Tryz.prog 109 #[v,.func (.func 110) #[] #[]] w fun e w' => ∃ A c j,(restM L).length = j∧e = .returned (.slice A j c)∧j≤c∧RowZ 160 3 MtQ metZ w' base (.slice A j c) (restM L)∧w.grownBy w' v.ownBlock∧Kp k w w':=by
  by_cases hex:∃ x∈L,sameM x = true
  · obtain ⟨x,hx,-⟩:=id hex
    rcases id h with ⟨-,rfl⟩ | ⟨g,cap,cur,vs,rfl,hr⟩
    · cases hx
    · refine (wDelF_some h rfl hl hok hex).mono ?_
      rintro e w' ⟨j,hj,rfl,h1,h2,h3⟩
      refine ⟨_,cap,j,hj,rfl,?_,h1,h2,h3⟩
      rw [← hj]
      rw [← hj] at h1
      exact (rowZ_block.1 h1).elim fun _ h => h.2.2.1
  · have hall:∀ x∈L,sameM x = false:=fun x hx => by
      cases hs:sameM x with
      | false => rfl
      | true => exact absurd ⟨x,hx,hs⟩ hex
    obtain ⟨A,c,rfl,hlst⟩:=h.lstM
    refine (wDelF_all h hl hok hall).mono ?_
    rintro e w' ⟨rfl,hb⟩
    have h':=h.below hb (Nat.le_refl _)
    refine ⟨A,c,L.length,by rw [restM_all hall],rfl,?_,by rw [restM_all hall];exact h',grown_on (World.grownBy.refl w _) hb,Kp.of_below hb⟩
    obtain ⟨D,d,he,hd⟩:=RowZ.slice h
    simp only [Value.slice.injEq] at he
    rw [he.2.2]
    exact hd
theorem has_of {V:Type} {K:List (Nat × V)} (hs:Sl.Srt K) {a:Nat} {x:V} (h:(a,x)∈K):Sl.has K (a:Int) = true:=by
  unfold Sl.has
  rw [Sl.get_of_mem hs h]
  rfl
theorem wWithoutU {w:World} {B k l a g:Nat} {c0:List Nat} {K:KL} (hnb:Node w B k (.br g l c0 K)) (hB:B≤w.heap.size) {x:T} (hx:(a,x)∈K) (hc:(Tr.entsL K).length < 18446744073709551616) :
    Calls Tryz.prog 113 #[.pointer (some ⟨g,0,none⟩),.int .i64 (a:Int)] w fun e w' => ∃ n:Option T,e = .returned (.tuple #[.pointer (rootP n),.int .i64 0])∧NodeO w' w'.heap.size k n∧Tr.UniN l c0 (Sl.del a K) n∧Below w.heap.size w w':=by
  have hw:Sl.Wf k K:=by cases hnb.1 with | br _ _ _ _ _ hw => exact hw
  have h2:2≤K.length:=by cases hnb.1 with | br _ _ _ _ _ _ h2 => exact h2
  have hal:a < 2 ^ k:=hw.lt _ hx
  have hget:=Sl.get_of_mem hw.srt hx
  have hhas:=has_of hw.srt hx
  have hdl:=Sl.length_del hw.srt hget
  by_cases hd2:2≤(Sl.del a K).length
  · refine (nWithout_two hnb hB a hal hhas hd2 hc).mono ?_
    rintro e w' ⟨g',rfl,hn,-,hb⟩
    exact ⟨some (.br g' l c0 (Sl.del a K)),rfl,NodeO.some hn,.inr (.inr ⟨hd2,g',rfl⟩),hb⟩
  · obtain ⟨y,hy⟩:∃ y,Sl.del a K = [y]:=by
      match hm:Sl.del a K,hdl,hd2 with
      | [],hdl,_ => simp at hdl;omega
      | [y],_,_ => exact ⟨y,rfl⟩
      | _ :: _ :: _,_,hd2 => simp at hd2
    have hym:y∈K:=Sl.mem_del (by rw [hy];exact List.mem_singleton.2 rfl)
    have hdk:Sl.del a (kidL K) = [(y.1,at0 y.2)]:=by rw [← kidL_del,hy];rfl
    have hhk:Sl.has (kidL K) (a:Int) = true:=by unfold Sl.has;rw [kidL_get,hget];rfl
    obtain ⟨wfn,hmn⟩:=id hnb
    cases hmn with
    | br _ _ _ _ b h hat hk =>
      refine (nWithout_one h hat hB a hal hhk hdk).mono ?_
      rintro e w' ⟨rfl,hb⟩
      exact ⟨some y.2,rfl,NodeO.some ((hnb.kid hym).below hb hB (Nat.le_trans hB hb.size)),.inr (.inl ⟨y,hy,rfl⟩),hb⟩
def NowN (g l:Nat) (pre:List Nat) (ks:KL) (P:List (Nat × Option T)) (n:Option T):Prop:=(P = []∧n = some (.br g l pre ks))∨(P≠[]∧Tr.UniN l pre (updL ks P) n)
theorem NowN.two {g l:Nat} {pre:List Nat} {ks:KL} {P:List (Nat × Option T)} {n:Option T} (h:NowN g l pre ks P n) (h2:2≤(updL ks P).length):∃ g',n = some (.br g' l pre (updL ks P)):=by
  rcases h with ⟨rfl,rfl⟩ | ⟨-,h⟩
  · exact ⟨g,rfl⟩
  · exact uni_two h h2
theorem restM_pair {L:List Mt} (h:L.Pairwise fun p q => p.a < q.a):(restM L).Pairwise fun p q => p.a < q.a:=List.Pairwise.filter _ h
theorem restM_map (L:List Mt):sumP ((restM L).map mtP)≤sumP (L.map mtP):=by
  have:∀ M:List Mt,sumP ((restM M).map mtP)≤sumP (M.map mtP):=by
    intro M
    unfold restM
    induction M with
    | nil => exact Nat.le_refl _
    | cons m M ih =>
      rw [List.filter_cons]
      split
      · rw [List.map_cons,List.map_cons,sumP_cons,sumP_cons];omega
      · rw [List.map_cons,sumP_cons];omega
  exact this L
theorem kl_sub {V:Type}:∀ {K M:List (Nat × V)},Sl.Srt K→Sl.Srt M→(∀ p∈K,p∈M)→K.length≤M.length
  | [],_,_,_,_ => Nat.zero_le _
  | p :: K,M,hK,hM,h => by
    have hp:=h p List.mem_cons_self
    have hg:=Sl.get_of_mem hM hp
    have h1:=Sl.length_del hM hg
    have h2:=kl_sub (K:=K) (M:=Sl.del p.1 M) hK.tail (Sl.srt_del _ hM) fun q hq => by
      have hlt:=hK.head q hq
      refine (Sl.get_iff (Sl.srt_del _ hM)).1 ?_
      rw [Sl.get_del hM,if_neg (by omega)]
      exact Sl.get_of_mem hM (h q (List.mem_cons_of_mem _ hq))
    rw [List.length_cons]
    omega
theorem pair_at {α:Type} {R:α→α→Prop} {L:List α} (h:L.Pairwise R) {i j:Nat} {x y:α} (hx:L[i]? = some x) (hy:L[j]? = some y) (hij:i < j):R x y:=by
  obtain ⟨h1,rfl⟩:=List.getElem?_eq_some_iff.1 hx
  obtain ⟨h2,rfl⟩:=List.getElem?_eq_some_iff.1 hy
  exact List.pairwise_iff_getElem.1 h i j h1 h2 hij
set_option maxRecDepth 1000000 in
set_option maxHeartbeats 8000000 in
theorem wwithout_c {w:World} {B k g l base:Nat} {pre:List Nat} {ks:KL} {v:Value} {L:List Mt} (hn:Node w B k (.br g l pre ks)) (hB:B≤w.heap.size) (hrow:RowZ 160 3 MtQ metZ w base v L) (hl:L.length≤65536) (hok:∀ x∈L,MtOk w k x) (hpw:L.Pairwise fun p q => p.a < q.a) (hin:∀ m∈L,(m.a,m.x)∈ks) (hfit:FitP k l pre (L.map mtP)) (hc:(Tr.entsL ks).length + sumP (L.map mtP)≤1000000000) :
    Calls Tryz.prog 52 #[.pointer (some ⟨g,0,none⟩),v] w fun e w' => ∃ n:Option T,e = .returned (.pointer (rootP n))∧NodeO w' w'.heap.size k n∧NowN g l pre ks ((restM L).map mtP) n∧Foot (fun b => v.ownBlock = some b) w w'∧Kp k w w':=by
  have HD:=Lib.hid (wDelF_c hrow hl hok)
  have hwf:=hn.1
  have hk6:ks.length≤65536:=by cases hwf with | br _ _ _ _ _ hw => exact hw.len16
  have hk2:2≤ks.length:=by cases hwf with | br _ _ _ _ _ _ h2 => exact h2
  have hsrt:=(Tr.kids_fit hwf).2
  have hF:Tr.FitL k l pre ks:=⟨hsrt,(Tr.kids_fit hwf).1⟩
  obtain ⟨N,hN⟩:∃ N,ks.length = N:=⟨_,rfl⟩
  rw [hN] at hk6 hk2
  have HPW:=Lib.hid hpw
  have HX:=Lib.hid (And.intro hn (And.intro hB (And.intro hok (And.intro hpw (And.intro hin (And.intro hfit (And.intro hc (And.intro hF (And.intro hN hk2)))))))))
  have f2:=shape_places
  have hN9:(N:Int)≤65536:=by omega
  clear hn hB hrow hl hok hpw hin hfit hc hwf hk6 hk2 hsrt hF hN
  go_enter Tryz.func52,Tryz.ntmps52
  go_wp2_with fail
  refine HD.out.mono ?_
  rintro e w1 ⟨A,c,j,hj,rfl,hjc,hrow1,hgr1,hkp1⟩
  obtain ⟨hn,hB,hok,hpw,hin,hfit,hc,hF,hN,hk2⟩:=HX.out
  have hn1:Node w1 w1.heap.size k (.br g l pre ks):=(hkp1 _ _ hB hn).below (C:=B) (Below.refl _ _) (Nat.le_refl _) (Nat.le_trans hB hgr1.size)
  have HSh:=Lib.hid (shape_cut hn1 (Nat.le_refl _) hN)
  obtain ⟨P,hP⟩:∃ P,(restM L).map mtP = P:=⟨_,rfl⟩
  have hPl:P.length = j:=by rw [← hP,List.length_map];exact hj
  have hrin:∀ m∈restM L,(m.a,m.x)∈ks:=fun m hm => hin m (restM_mem hm)
  have hrok:∀ m∈restM L,MtOk w1 k m:=fun m hm => (hok m (restM_mem hm)).kp hkp1 hgr1.size
  have hrfit:FitP k l pre P:=by
    rw [← hP]
    intro p hp
    obtain ⟨m,hm,rfl⟩:=List.mem_map.1 hp
    exact hfit _ (List.mem_map.2 ⟨m,restM_mem hm,rfl⟩)
  have hrc:(Tr.entsL ks).length + sumP P≤1000000000:=by
    have:=restM_map L
    rw [hP] at this
    omega
  have hrem:remK ks (restM L) = updL ks P:=by rw [← hP];exact remK_upd hF.1 (restM_pair hpw) fun m hm => ⟨_,hrin m hm⟩
  have hj6:j≤65536:=by
    have h1:=(restM_pair hpw)
    have h2:((restM L).map (·.a)).length≤ks.length:=by
      refine Nat.le_trans ?_ (Nat.le_refl ks.length)
      have h3:Sl.Srt ((restM L).map fun m => (m.a,m.x)):=List.pairwise_map.2 h1
      have:=kl_sub h3 hF.1 (fun p hp => by obtain ⟨m,hm,rfl⟩:=List.mem_map.1 hp;exact hrin m hm)
      simpa using this
    rw [List.length_map] at h2
    omega
  have hfo1:Foot (fun b => v.ownBlock = some b) w w1:=⟨hgr1.os,hgr1.tape,hgr1.output,hgr1.size,fun b hb hn => hgr1.block b hb fun e => hn e.symm⟩
  have H1:=Lib.hid (And.intro hj (And.intro hjc (And.intro hrow1 (And.intro hfo1 (And.intro hkp1 (And.intro hn1 (And.intro hP (And.intro hPl (And.intro hrin (And.intro hrok (And.intro hrfit (And.intro hrc (And.intro hrem hF)))))))))))))
  have HN:=Lib.hid (And.intro hN hk2)
  have hj9:(j:Int)≤65536:=by omega
  clear hn hB hok hpw hin hfit hc hF hN hk2 hn1 hj hjc hrow1 hgr1 hkp1 hP hPl hrin hrok hrfit hrc hrem hfo1 hj6 HD HX
  go_wp2_with fail
  refine HSh.out.mono ?_
  rintro e w2 ⟨lev,A1,n1,c1,A2,c2,dd,vv,rfl,-,-,hb2⟩
  have HB2:=Lib.hid hb2
  clear hb2 HSh
  by_cases hgt:N < 2 * j
  · have d1:decide ((N:Int) < 2 * (j:Int)) = true:=decide_eq_true (by omega)
    have d1':decide (N < 2 * j) = true:=decide_eq_true hgt
    obtain ⟨hj,hjc,hrow1,hfo1,hkp1,hn1,hP,hPl,hrin,hrok,hrfit,hrc,hrem,hF⟩:=H1.out
    have hrow2:=hrow1.below HB2.out (Nat.le_refl _)
    obtain ⟨A',c',hA',hlst⟩:=hrow2.lstM
    rw [hj] at hA'
    cases hA'
    have HRm:=Lib.hid (wremaining_c (hn1.below HB2.out (Nat.le_refl _) (Nat.le_refl _)) HB2.out.size hlst (Nat.le_refl _) hj hjc (by omega))
    have HP:=Lib.hid (show P≠[] by intro e;rw [e] at hPl;simp at hPl;omega)
    clear hj hjc hrow1 hfo1 hkp1 hn1 hP hPl hrin hrok hrfit hrc hrem hF hrow2 hlst hgt
    go_wp2_with fail
    refine HRm.out.mono ?_
    rintro e w3 ⟨D,a,d,rfl,ha,hrp,hb3⟩
    obtain ⟨hj,hjc,hrow1,hfo1,hkp1,hn1,hP,hPl,hrin,hrok,hrfit,hrc,hrem,hF⟩:=H1.out
    rw [hrem] at ha hrp
    have hb13:=Below.andThen HB2.out hb3
    have hrd:=hrp.own.rd_at
    have hKR:KRow w3 k l pre w3.heap.size D (updL ks P):=⟨fit_updL hF hrfit,by simpa [ptrV,ndV,List.map_map,Function.comp_def] using hrd,fun x hx => by
      rcases mem_updL hx with h | h
      · exact (hn1.kid h).below hb13 (Nat.le_refl _) hb13.size
      · rw [← hP] at h
        obtain ⟨m,hm,he⟩:=List.mem_map.1 h
        have he2:m.n = some x.2:=congrArg Prod.snd he
        exact ((hrok m hm).2.1 _ he2).below hb13 (Nat.le_refl _) hb13.size⟩
    have ha6:a≤65536:=by
      have h1:=Sl.length_le (n:=65536) (srt_updL (L:=P) hF.1) (fun p hp => by
        have hh:=(fit_updL hF hrfit).2 p hp
        have hbd:=Z.addr_bound p.2.pre l
        rw [hh.2.2.2,hh.1.len] at hbd
        have:=Nat.pow_le_pow_right (n:=2) (by omega) hh.1.k16
        omega)
      omega
    have HJ:=Lib.hid (wjoined_c (c:=d) hKR (Nat.le_refl _) ha ha6 (by have:=ents_updL P ks;omega))
    have HB3:=Lib.hid hb13
    clear hj hjc hrow1 hfo1 hkp1 hn1 hP hPl hrin hrok hrfit hrc hrem hF ha hrp hb3 hb13 hrd hKR ha6 HRm
    go_wp2_with fail
    refine HJ.out.mono ?_
    rintro e w4 ⟨n,rfl,hU,hn4,hb4⟩
    have HF:=Lib.hid (And.intro hU (And.intro hn4 (Below.andThen HB3.out hb4)))
    clear hU hn4 hb4 HJ
    go_wp2_with fail
    go_ret
    have h:=H1.out
    exact ⟨n,rfl,HF.out.2.1,by rw [h.2.2.2.2.2.2.1];exact .inr ⟨HP.out,HF.out.1⟩,h.2.2.2.1.trans (Foot.of_below (F:=fun b => v.ownBlock = some b) HF.out.2.2) (fun b hb => .inl hb),h.2.2.2.2.1.trans (Kp.of_below HF.out.2.2) h.2.2.2.1.size⟩
  · have d1:decide ((N:Int) < 2 * (j:Int)) = false:=decide_eq_false (by omega)
    have d1':decide (N < 2 * j) = false:=decide_eq_false hgt
    have HG:=Lib.hid hgt
    clear hgt
    go_wp2_with fail
    go_loopw [0,23] (fun u i wr => ∃ (q:Nat) (n:Option T),q≤j∧u = .pointer (rootP n)∧i = .int .i64 (q:Int)∧NodeO wr wr.heap.size k n∧NowN g l pre ks (P.take q) n∧Below w1.heap.size w1 wr) (fun _ i _ => j - (intOf i).toNat)
    case atStart => exact ⟨0,some (.br g l pre ks),Nat.zero_le _,rfl,rfl,NodeO.some (H1.out.2.2.2.2.2.1.below HB2.out (Nat.le_refl _) HB2.out.size),.inl ⟨rfl,rfl⟩,HB2.out⟩
    case round =>
      obtain ⟨q,n,hq,rfl,rfl,hno,hNow,hbr⟩:=hrel
      by_cases hlt:q < j
      · obtain ⟨hj,hjc,hrow1,hfo1,hkp1,hn1,hP,hPl,hrin,hrok,hrfit,hrc,hrem,hF⟩:=H1.out
        obtain ⟨y,hy⟩:=get_lt (us:=restM L) (k:=q) (by rw [hj];exact hlt)
        have hyP:P[q]? = some (mtP y):=by rw [← hP,List.getElem?_map,hy];rfl
        have hym:=List.mem_of_getElem? hy
        obtain ⟨g1,c1',cur,hvv,-,hgl,hh,p0,p1,p2⟩:=RowZ.at mtQ_ok hrow1 hy
        simp only [Value.slice.injEq] at hvv
        obtain ⟨rfl,-,rfl⟩:=hvv
        have hh2:=keepz hh hbr
        have z0:wr.cell? ⟨g1,q * 3,none⟩ = some (.int .i64 (y.a:Int)):=(cell_of_row wr g1 _ cur _ (0,0) hh2).trans p0
        have z1:wr.cell? ⟨g1,q * 3 + 1,none⟩ = some (.pointer (some ⟨y.x.blk,0,none⟩)):=(cell_of_row wr g1 _ cur _ (0,0) hh2).trans p1
        have z2:wr.cell? ⟨g1,q * 3 + 2,none⟩ = some (.pointer (rootP y.n)):=(cell_of_row wr g1 _ cur _ (0,0) hh2).trans p2
        have hsK:Sl.Srt (updL ks (P.take q)):=srt_updL hF.1
        have hlen:2≤(updL ks (P.take q)).length:=by
          have h1:=(len_updL (L:=P.take q) hF.1).1
          have h2:=HG.out
          have h3:=HN.out
          rw [List.length_take,h3.1] at h1
          omega
        obtain ⟨gq,rfl⟩:=hNow.two hlen
        have hnq:=hno _ rfl
        have hsz:=ents_updL (P.take q) ks
        have hsq:=sumP_take hyP
        have hup:=updL_take (K:=ks) hyP
        have hne:P.take (q + 1)≠[]:=by
          intro e
          have h2:(P.take (q + 1)).length = 0:=by rw [e];rfl
          rw [List.length_take,hPl] at h2
          omega
        have hmem:(y.a,y.x)∈updL ks (P.take q):=by
          refine (Sl.get_iff hsK).1 ?_
          rw [get_updL hF.1]
          · exact Sl.get_of_mem hF.1 (hrin y hym)
          · intro p hp
            rw [← hP,← List.map_take] at hp
            obtain ⟨m,hm,rfl⟩:=List.mem_map.1 hp
            obtain ⟨i,hi⟩:=List.getElem?_of_mem hm
            have hiq:=(List.getElem?_eq_some_iff.1 hi).1
            rw [List.length_take] at hiq
            rw [List.getElem?_take,if_pos (by omega)] at hi
            have:=pair_at (restM_pair HPW.out) hi hy (by omega)
            show (m.a:Int)≠(y.a:Int)
            omega
        have hpn0:=nptr_none
        have hpn2:=nptr_no2
        have f1:decide ((q:Int) < (j:Int)) = true:=decide_eq_true (by omega)
        have f1':decide (q < j) = true:=decide_eq_true hlt
        have n1:(0:Int)≤(q:Int):=by omega
        have n2:(q:Int) < (j:Int):=by omega
        have hroot:rootP (some (T.br gq l pre (updL ks (P.take q)))) = some ⟨gq,0,none⟩:=rfl
        rw [hroot]
        obtain ⟨xb,hxb⟩:∃ xb,y.x.blk = xb:=⟨_,rfl⟩
        rw [hxb] at z1
        cases hyn:y.n with
        | none =>
          rw [hyn] at z2
          replace z2:wr.cell? ⟨g1,q * 3 + 2,none⟩ = some (.pointer none):=z2
          have hup':updL ks (P.take (q + 1)) = Sl.del y.a (updL ks (P.take q)):=by rw [hup];unfold mtP;rw [hyn];rfl
          have HWo:Hid (∀ w2,Below wr.heap.size wr w2→Calls Tryz.prog 113 #[.pointer (some ⟨gq,0,none⟩),.int .i64 (y.a:Int)] w2 fun e w' => ∃ n:Option T,e = .returned (.tuple #[.pointer (rootP n),.int .i64 0])∧NodeO w' w'.heap.size k n∧Tr.UniN l pre (Sl.del y.a (updL ks (P.take q))) n∧Below w2.heap.size w2 w'):=Lib.hid fun w2 hb => wWithoutU (hnq.below hb (Nat.le_refl _) (Nat.le_refl _)) hb.size hmem (by omega)
          have HQ:=Lib.hid (And.intro hlt (And.intro hbr (And.intro hup' hne)))
          clear hj hjc hrow1 hfo1 hkp1 hn1 hP hPl hrin hrok hrfit hrc hrem hF hy hyP hym hgl hh p0 p1 p2 hh2 hsK hlen hnq hsz hsq hup hne hmem hlt hbr hup' hno hNow hq hroot hyn hxb
          go_wp2_with fail
          refine (HWo.out _ (by exact below_alloc wr _)).mono ?_
          rintro e w3 ⟨n3,rfl,hn3,hU3,hb3⟩
          have H3:=Lib.hid (And.intro hn3 (And.intro hU3 (Below.andThen HQ.out.2.1 (Below.andThen (below_alloc wr _) hb3))))
          clear hn3 hU3 hb3 HWo z0 z1 z2
          go_wp2_with fail
          go_roundw
          case rel => exact ⟨q + 1,n3,by have:=HQ.out.1;omega,rfl,by first | rfl | go_num,H3.out.1,.inr ⟨HQ.out.2.2.2,by rw [HQ.out.2.2.1];exact H3.out.2.1⟩,H3.out.2.2⟩
          case measure =>
            have:=HQ.out.1
            show j - ((q:Int) + 1).toNat < j - (q:Int).toNat
            omega
        | some t =>
          rw [hyn] at z2
          replace z2:wr.cell? ⟨g1,q * 3 + 2,none⟩ = some (.pointer (some ⟨t.blk,0,none⟩)):=z2
          have hup':updL ks (P.take (q + 1)) = Sl.put y.a t (updL ks (P.take q)):=by rw [hup];unfold mtP;rw [hyn];rfl
          have htn:Node wr wr.heap.size k t:=((hrok y hym).2.1 t hyn).below hbr (Nat.le_refl _) hbr.size
          have htf:=hrfit _ (List.mem_of_getElem? hyP) t hyn
          have hte:(Tr.entsO (mtP y).2).length = t.ents.length:=by show (Tr.entsO y.n).length = _;rw [hyn];rfl
          have hlp:2≤(Sl.put y.a t (updL ks (P.take q))).length:=by rw [Sl.length_put hsK];omega
          have HWi:Hid (∀ w2,Below wr.heap.size wr w2→Calls Tryz.prog 114 #[.pointer (some ⟨gq,0,none⟩),.pointer (some ⟨t.blk,0,none⟩)] w2 fun e w' => ∃ g',e = .returned (.tuple #[.pointer (some ⟨g',0,none⟩),.int .i64 0])∧Node w' w'.heap.size k (.br g' l pre (Sl.put y.a t (updL ks (P.take q))))∧Below w2.heap.size w2 w'):=Lib.hid fun w2 hb => wWithU (hnq.below hb (Nat.le_refl _) hb.size) (htn.below hb (Nat.le_refl _) hb.size) htf.2 (Nat.le_refl _) (by omega)
          have HQ:=Lib.hid (And.intro hlt (And.intro hbr (And.intro hup' (And.intro hne hlp))))
          clear hj hjc hrow1 hfo1 hkp1 hn1 hP hPl hrin hrok hrfit hrc hrem hF hy hyP hym hgl hh p0 p1 p2 hh2 hsK hlen hnq hsz hsq hup hne hmem hlt hbr hup' hno hNow hq hroot hyn hxb htn htf hte hlp
          go_wp2_with fail
          refine (HWi.out _ (by exact below_alloc wr _)).mono ?_
          rintro e w3 ⟨g3,rfl,hn3,hb3⟩
          have H3:=Lib.hid (And.intro hn3 (Below.andThen HQ.out.2.1 (Below.andThen (below_alloc wr _) hb3)))
          clear hn3 hb3 HWi z0 z1 z2
          go_wp2_with fail
          go_roundw
          case rel => exact ⟨q + 1,some (.br g3 l pre (Sl.put y.a t (updL ks (P.take q)))),by have:=HQ.out.1;omega,rfl,by first | rfl | go_num,NodeO.some H3.out.1,.inr ⟨HQ.out.2.2.2.1,by rw [HQ.out.2.2.1];exact .inr (.inr ⟨HQ.out.2.2.2.2,g3,rfl⟩)⟩,H3.out.2⟩
          case measure =>
            have:=HQ.out.1
            show j - ((q:Int) + 1).toNat < j - (q:Int).toNat
            omega
      · have hjq:j = q:=by omega
        subst hjq
        have f1:decide ((j:Int) < (j:Int)) = false:=decide_eq_false (by omega)
        have f1':decide (j < j) = false:=decide_eq_false (by omega)
        rw [show P.take j = P by rw [← H1.out.2.2.2.2.2.2.2.1,List.take_length]] at hNow
        have HR:=Lib.hid (And.intro hno (And.intro hNow hbr))
        clear hno hNow hbr hlt hq
        go_wp2_with fail
        go_ret
        have h:=H1.out
        exact ⟨n,rfl,HR.out.1,by rw [h.2.2.2.2.2.2.1];exact HR.out.2.1,h.2.2.2.1.trans (Foot.of_below (F:=fun b => v.ownBlock = some b) HR.out.2.2) (fun b hb => .inl hb),h.2.2.2.2.1.trans (Kp.of_below HR.out.2.2) h.2.2.2.1.size⟩
end Go.Proofs.YtkeepngaaleakaaGreatDoor
