import Derived.RangeFuncNested
import Derived.RangeFuncBound
import Derived.RangeFuncCalls
import Derived.RangeFuncLeaves
import Derived.Shelf.Abstract
import Derived.Shelf.RegionOpen
import Derived.OwnWalkIn
import Derived.TacticsInMore
import Derived.LoopNIn
import Derived.LoopIn
import Derived.Test.YtkeepngaaleakaaGreatDoorM05
namespace Go.Proofs.YtkeepngaaleakaaGreatDoor.Tr
open Go.Proofs.YtkeepngaaleakaaGreatDoor.Z
def offK (ks:List (Nat × T)) (m:Nat):Nat:=(entsL (ks.take m)).length
theorem offK_zero (ks:List (Nat × T)):offK ks 0 = 0:=by simp [offK,entsL]
theorem offK_all (ks:List (Nat × T)):offK ks ks.length = (entsL ks).length:=by simp [offK]
theorem offK_succ {ks:List (Nat × T)} {m:Nat} {x:Nat × T} (h:ks[m]? = some x):offK ks (m + 1) = offK ks m + x.2.ents.length:=by
  obtain ⟨hm,rfl⟩:=List.getElem?_eq_some_iff.1 h
  unfold offK
  rw [List.take_succ_eq_append_getElem hm,entsL_append,List.length_append]
  simp [entsL]
theorem ents_split {ks:List (Nat × T)} {m:Nat} {x:Nat × T} (h:ks[m]? = some x):entsL ks = entsL (ks.take m) ++ (x.2.ents ++ entsL (ks.drop (m + 1))):=by
  obtain ⟨hm,rfl⟩:=List.getElem?_eq_some_iff.1 h
  rw [← entsL_cons,← entsL_append]
  congr 1
  rw [List.getElem_cons_drop hm,List.take_append_drop]
theorem ents_at {ks:List (Nat × T)} {m:Nat} {x:Nat × T} (h:ks[m]? = some x) {j:Nat} (hj:j < x.2.ents.length):(entsL ks)[offK ks m + j]? = x.2.ents[j]?:=by
  rw [ents_split h,List.getElem?_append_right (by unfold offK;omega),show offK ks m + j - (entsL (ks.take m)).length = j by unfold offK;omega,List.getElem?_append_left hj]
theorem offK_le {ks:List (Nat × T)} {m:Nat} {x:Nat × T} (h:ks[m]? = some x):offK ks m + x.2.ents.length≤(entsL ks).length:=by
  rw [ents_split h,List.length_append,List.length_append]
  unfold offK
  omega
theorem ents_part {ks:List (Nat × T)} {m:Nat} {x:Nat × T} (h:ks[m]? = some x):((entsL ks).drop (offK ks m)).take x.2.ents.length = x.2.ents:=by
  rw [ents_split h]
  unfold offK
  rw [List.drop_left' rfl,List.take_left' rfl]
theorem ents_pos' {k:Nat} {t:T} (h:Wf k t):0 < t.ents.length:=List.length_pos_iff.2 h.ne
theorem ends_part {k g l:Nat} {pre:List Nat} {ks:List (Nat × T)} (h:Wf k (.br g l pre ks)) :
    ∃ e0 e1:Ent,(entsL ks)[0]? = some e0∧(entsL ks)[(entsL ks).length - 1]? = some e1∧e0.1.length = k∧e1.1.length = k∧Ok e0.1∧Ok e1.1∧Z.part e0.1 e1.1 = (l:Int)∧cut e0.1 (l + 1) = pre∧2≤(entsL ks).length:=by
  have h2:2≤ks.length:=by cases h with | br _ _ _ _ _ _ h2 => exact h2
  have hs:Sl.Srt ks:=by cases h with | br _ _ _ _ _ hw => exact hw.srt
  obtain ⟨x0,hx0⟩:∃ x,ks[0]? = some x:=⟨_,List.getElem?_eq_getElem (by omega)⟩
  obtain ⟨xn,hxn⟩:∃ x,ks[ks.length - 1]? = some x:=⟨_,List.getElem?_eq_getElem (by omega)⟩
  have m0:=List.mem_of_getElem? hx0
  have mn:=List.mem_of_getElem? hxn
  have w0:=h.kid m0
  have wn:=h.kid mn
  have p0:=ents_pos' w0
  have pn:=ents_pos' wn
  obtain ⟨e0,he0⟩:∃ e,x0.2.ents[0]? = some e:=⟨_,List.getElem?_eq_getElem p0⟩
  obtain ⟨e1,he1⟩:∃ e,xn.2.ents[xn.2.ents.length - 1]? = some e:=⟨_,List.getElem?_eq_getElem (by omega)⟩
  have i0:=ents_at hx0 p0
  rw [offK_zero,he0] at i0
  have i1:=ents_at hxn (j:=xn.2.ents.length - 1) (by omega)
  have hlast:offK ks (ks.length - 1) + xn.2.ents.length = (entsL ks).length:=by
    have:=offK_succ hxn
    rw [show ks.length - 1 + 1 = ks.length by omega,offK_all] at this
    omega
  rw [show offK ks (ks.length - 1) + (xn.2.ents.length - 1) = (entsL ks).length - 1 by omega,he1] at i1
  have b0:=w0.entry (List.mem_of_getElem? he0)
  have b1:=wn.entry (List.mem_of_getElem? he1)
  have hne:x0.1≠xn.1:=by
    have:=Sl.srt_get hs hx0 hxn (by omega)
    omega
  have hlen:2≤(entsL ks).length:=by
    have q0:=offK_le hx0
    have q1:offK ks 1≤offK ks (ks.length - 1):=by
      have:entsL (ks.take (ks.length - 1)) = entsL (ks.take 1) ++ entsL ((ks.take (ks.length - 1)).drop 1):=by
        rw [← entsL_append]
        congr 1
        rw [show ks.take 1 = (ks.take (ks.length - 1)).take 1 by rw [List.take_take];congr 1;omega,List.take_append_drop]
      unfold offK
      rw [this,List.length_append]
      omega
    have q2:=offK_succ hx0
    rw [offK_zero] at q2
    simp only [Nat.zero_add] at q2
    omega
  refine ⟨e0,e1,i0,i1,b0.1,b1.1,b0.2.1,b1.2.1,br_part h m0 mn hne b0 b1,?_,hlen⟩
  have hmem:e0∈(T.br g l pre ks).ents:=by rw [ents_br];exact List.mem_of_getElem? i0
  exact (h.each e0 hmem).2.2.2
theorem kid_addr {k g l:Nat} {pre:List Nat} {ks:List (Nat × T)} (h:Wf k (.br g l pre ks)) {x:Nat × T} (hx:x∈ks) {e:Ent} (he:e∈x.2.ents):addr e.1 l = x.1:=by
  cases h with
  | br _ _ _ _ h63 hw h2 hl ho hk hc =>
    obtain ⟨c1,c2,c3⟩:=hc x hx
    rw [(hk x hx).addr_at he c1,c3]
/-! ### the z-order as numbers -/
def keyN (p:List Nat):Nat→Nat
  | 0 => 0
  | n + 1 => keyN p n + addr p n * (2 ^ p.length) ^ n
def key (p:List Nat):Nat:=keyN p 64
theorem keyN_lt (p:List Nat):∀ n,keyN p n < (2 ^ p.length) ^ n
  | 0 => by simp [keyN]
  | n + 1 => by
    have h1:=keyN_lt p n
    have h2:=addr_bound p n
    have h3:(addr p n + 1) * (2 ^ p.length) ^ n≤2 ^ p.length * (2 ^ p.length) ^ n:=Nat.mul_le_mul_right _ h2
    rw [Nat.succ_mul] at h3
    simp only [keyN]
    rw [Nat.pow_succ,Nat.mul_comm ((2 ^ p.length) ^ n)]
    omega
theorem keyN_less {p q:List Nat} (hl:p.length = q.length) {l:Nat} (h:addr p l < addr q l):∀ n,l < n→(∀ m,l < m→m < n→addr p m = addr q m)→keyN p n < keyN q n
  | 0,hn,_ => by omega
  | n + 1,hn,hs => by
    simp only [keyN]
    by_cases c:n = l
    · subst c
      have h1:=keyN_lt p n
      have h3:(addr p n + 1) * (2 ^ p.length) ^ n≤addr q n * (2 ^ p.length) ^ n:=Nat.mul_le_mul_right _ h
      rw [Nat.succ_mul] at h3
      rw [← hl]
      omega
    · have:=keyN_less hl h n (by omega) fun m h1 h2 => hs m h1 (by omega)
      rw [hs n (by omega) (by omega),hl]
      omega
theorem key_cases {p q:List Nat} (h:p.length = q.length) (hp:Ok p) (hq:Ok q):(p = q∧cmp p q = 0)∨(key p < key q∧cmp p q = -1)∨(key q < key p∧cmp p q = 1):=by
  rcases cmp_vals h hp hq with ⟨r,e⟩ | ⟨l,hl,e,hs,hc⟩
  · exact .inl ⟨r,e⟩
  · rcases hc with ⟨c,e⟩ | ⟨c,e⟩
    · exact .inr (.inl ⟨keyN_less h c 64 hl fun m h1 _ => hs m h1,e⟩)
    · exact .inr (.inr ⟨keyN_less h.symm c 64 hl fun m h1 _ => (hs m h1).symm,e⟩)
theorem key_lt {p q:List Nat} (h:p.length = q.length) (hp:Ok p) (hq:Ok q):key p < key q↔cmp p q < 0:=by
  rcases key_cases h hp hq with ⟨r,e⟩ | ⟨c,e⟩ | ⟨c,e⟩
  · subst r;omega
  · omega
  · omega
theorem key_inj {p q:List Nat} (h:p.length = q.length) (hp:Ok p) (hq:Ok q):key p = key q↔p = q:=by
  rcases key_cases h hp hq with ⟨r,e⟩ | ⟨c,e⟩ | ⟨c,e⟩
  · subst r;simp
  · exact ⟨fun _ => by omega,fun r => by subst r;omega⟩
  · exact ⟨fun _ => by omega,fun r => by subst r;omega⟩
/-! ### lists in z-order -/
def K (L:List Ent):List (Nat × Ent):=L.map fun e => (key e.1,e)
def ZS (L:List Ent):Prop:=L.Pairwise fun a b => key a.1 < key b.1
def Dim (k:Nat) (L:List Ent):Prop:=∀ e∈L,e.1.length = k∧Ok e.1∧e.2 < 18446744073709551616
theorem K_length (L:List Ent):(K L).length = L.length:=by simp [K]
theorem K_get {L:List Ent} {i:Nat} {e:Ent} (h:L[i]? = some e):(K L)[i]? = some (key e.1,e):=by simp [K,h]
theorem K_at {L:List Ent} {i:Nat} {x:Nat × Ent} (h:(K L)[i]? = some x):L[i]? = some x.2∧x.1 = key x.2.1:=by
  simp only [K,List.getElem?_map,Option.map_eq_some_iff] at h
  obtain ⟨e,he,rfl⟩:=h
  exact ⟨he,rfl⟩
theorem K_mem {L:List Ent} {x:Nat × Ent}:x∈K L↔x.2∈L∧x.1 = key x.2.1:=by
  simp only [K,List.mem_map]
  constructor
  · rintro ⟨e,he,rfl⟩;exact ⟨he,rfl⟩
  · rintro ⟨h,e⟩;exact ⟨x.2,h,by rw [← e]⟩
theorem ZS.srt {L:List Ent} (h:ZS L):Sl.Srt (K L):=by
  unfold Sl.Srt K
  rw [List.pairwise_map]
  exact h
theorem ZS.of {L:List Ent} (h:Sl.Srt (K L)):ZS L:=by
  unfold Sl.Srt K at h
  rw [List.pairwise_map] at h
  exact h
theorem K_back {M:List (Nat × Ent)} (h:∀ x∈M,x.1 = key x.2.1):K (M.map (·.2)) = M:=by
  unfold K
  rw [List.map_map]
  conv => rhs;rw [← List.map_id M]
  exact List.map_congr_left fun x hx => by show (key x.2.1,x.2) = x;rw [← h x hx]
theorem ZS.ext:∀ {L M:List Ent},ZS L→ZS M→(∀ e,e∈L↔e∈M)→L = M
  | [],[],_,_,_ => rfl
  | [],b :: M,_,_,h => by have:=(h b).2 (List.mem_cons_self);simp at this
  | a :: L,[],_,_,h => by have:=(h a).1 (List.mem_cons_self);simp at this
  | a :: L,b :: M,hL,hM,h => by
    have l1:=(List.pairwise_cons.1 hL)
    have m1:=(List.pairwise_cons.1 hM)
    have hab:a = b:=by
      rcases List.mem_cons.1 ((h a).1 (List.mem_cons_self)) with e | e
      · exact e
      · rcases List.mem_cons.1 ((h b).2 (List.mem_cons_self)) with e' | e'
        · exact e'.symm
        · have:=m1.1 a e;have:=l1.1 b e';omega
    subst hab
    rw [ZS.ext l1.2 m1.2 fun e => ?_]
    constructor
    · intro he
      rcases List.mem_cons.1 ((h e).1 (List.mem_cons_of_mem _ he)) with e' | e'
      · subst e';have:=l1.1 e he;omega
      · exact e'
    · intro he
      rcases List.mem_cons.1 ((h e).2 (List.mem_cons_of_mem _ he)) with e' | e'
      · subst e';have:=m1.1 e he;omega
      · exact e'
def placeE (L:List Ent) (p:List Nat):Nat:=Sl.idx (K L) (key p:Int)
def getE (L:List Ent) (p:List Nat):Option Nat:=(Sl.get (K L) (key p:Int)).map (·.2)
def delE (p:List Nat) (L:List Ent):List Ent:=(Sl.del (key p) (K L)).map (·.2)
def putE (p:List Nat) (v:Nat) (L:List Ent):List Ent:=(Sl.put (key p) (p,v) (K L)).map (·.2)
theorem K_del (p:List Nat) (L:List Ent):K (delE p L) = Sl.del (key p) (K L) :=
  K_back fun _ hx => (K_mem.1 (Sl.mem_del hx)).2
theorem K_put (p:List Nat) (v:Nat) (L:List Ent):K (putE p v L) = Sl.put (key p) (p,v) (K L) :=
  K_back fun x hx => by
    rcases Sl.mem_put hx with rfl | hx
    · rfl
    · exact (K_mem.1 hx).2
theorem ZS.del {L:List Ent} (h:ZS L) (p:List Nat):ZS (delE p L):=ZS.of (by rw [K_del];exact Sl.srt_del _ h.srt)
theorem ZS.put {L:List Ent} (h:ZS L) (p:List Nat) (v:Nat):ZS (putE p v L):=ZS.of (by rw [K_put];exact Sl.srt_put _ _ h.srt)
theorem ZS.nil:ZS []:=List.Pairwise.nil
theorem mem_delE {L:List Ent} (h:ZS L) {p:List Nat} {e:Ent}:e∈delE p L↔e∈L∧key e.1≠key p:=by
  have h1:e∈delE p L↔(key e.1,e)∈K (delE p L):=by rw [K_mem];simp
  have h2:e∈L↔(key e.1,e)∈K L:=by rw [K_mem];simp
  rw [h1,h2,K_del,← Sl.get_iff (Sl.srt_del _ h.srt),← Sl.get_iff h.srt,Sl.get_del h.srt]
  by_cases c:key e.1 = key p
  · simp [c]
  · rw [if_neg (by omega)];simp [c]
theorem mem_putE {L:List Ent} (h:ZS L) {p:List Nat} {v:Nat} {e:Ent}:e∈putE p v L↔e = (p,v)∨(e∈L∧key e.1≠key p):=by
  have h1:e∈putE p v L↔(key e.1,e)∈K (putE p v L):=by rw [K_mem];simp
  have h2:e∈L↔(key e.1,e)∈K L:=by rw [K_mem];simp
  rw [h1,h2,K_put,← Sl.get_iff (Sl.srt_put _ _ h.srt),← Sl.get_iff h.srt,Sl.get_put h.srt]
  by_cases c:key e.1 = key p
  · rw [if_pos (by omega)]
    constructor
    · intro h;exact .inl (by simpa using h.symm)
    · rintro (h | h)
      · rw [h]
      · exact absurd c h.2
  · rw [if_neg (by omega)]
    constructor
    · intro h;exact .inr ⟨h,c⟩
    · rintro (h | h)
      · subst h;exact absurd rfl c
      · exact h.1
theorem getE_iff {L:List Ent} (h:ZS L) {k:Nat} (hd:Dim k L) {p:List Nat} (hp:p.length = k) (ho:Ok p) {v:Nat}:getE L p = some v↔(p,v)∈L:=by
  unfold getE
  rw [Option.map_eq_some_iff]
  constructor
  · rintro ⟨e,he,rfl⟩
    have h1:=K_mem.1 ((Sl.get_iff h.srt).1 he)
    have h2:=hd e h1.1
    have:=(key_inj (by rw [hp,h2.1]) ho h2.2.1).1 h1.2
    subst this
    exact h1.1
  · intro he
    exact ⟨(p,v),(Sl.get_iff h.srt).2 (K_mem.2 ⟨he,rfl⟩),rfl⟩
theorem getE_none {L:List Ent} (h:ZS L) {k:Nat} (hd:Dim k L) {p:List Nat} (hp:p.length = k) (ho:Ok p):getE L p = none↔∀ e∈L,e.1≠p:=by
  constructor
  · rintro hn e he rfl
    have:=(getE_iff h hd hp ho (v:=e.2)).2 he
    rw [hn] at this
    cases this
  · intro hn
    rcases hg:getE L p with _ | v
    · rfl
    · exact absurd rfl (hn _ ((getE_iff h hd hp ho).1 hg))
theorem Dim.key_ne {k:Nat} {L:List Ent} (hd:Dim k L) {p:List Nat} (hp:p.length = k) (ho:Ok p) {e:Ent} (he:e∈L):key e.1≠key p↔e.1≠p:=by
  have h2:=hd e he
  rw [ne_eq,key_inj (by rw [hp,h2.1]) h2.2.1 ho]
theorem Dim.put {k:Nat} {L:List Ent} (h:ZS L) (hd:Dim k L) {p:List Nat} (hp:p.length = k) (ho:Ok p) {v:Nat} (hv:v < 18446744073709551616):Dim k (putE p v L):=fun e he => by
  rcases (mem_putE h).1 he with rfl | ⟨he,_⟩
  · exact ⟨hp,ho,hv⟩
  · exact hd e he
theorem Dim.del {k:Nat} {L:List Ent} (h:ZS L) (hd:Dim k L) (p:List Nat):Dim k (delE p L):=fun e he => hd e ((mem_delE h).1 he).1
theorem length_putE {L:List Ent} (h:ZS L) (p:List Nat) (v:Nat):(putE p v L).length≤L.length + 1:=by
  unfold putE
  rw [List.length_map,Sl.length_put h.srt,K_length]
  split <;> omega
theorem length_delE (p:List Nat) (L:List Ent):(delE p L).length≤L.length:=by
  unfold delE
  rw [List.length_map,← K_length L]
  have:∀ (M:List (Nat × Ent)) (a:Nat),(Sl.del a M).length≤M.length:=by
    intro M a
    induction M with
    | nil => simp [Sl.del]
    | cons x M ih =>
      simp only [Sl.del]
      split
      · simp
      · simp only [List.length_cons];omega
  exact this _ _
/-! ### the entries of a node are in z-order -/
theorem Wf.dim {k:Nat} {t:T} (h:Wf k t):Dim k t.ents:=fun e he => ⟨(h.each e he).1,(h.each e he).2.1,(h.each e he).2.2.1⟩
theorem Wf.zs {k:Nat} {t:T} (h:Wf k t):ZS t.ents:=by
  induction h with
  | ent g p v => rw [ents_ent];exact List.pairwise_singleton _ _
  | br g l pre ks h63 hw h2 hl ho hk hc ih =>
    have wf:Wf k (.br g l pre ks):=.br g l pre ks h63 hw h2 hl ho hk hc
    rw [ents_br]
    unfold ZS entsL
    rw [List.pairwise_flatMap]
    refine ⟨fun x hx => ih x hx,hw.srt.imp_of_mem ?_⟩
    intro x y hx hy hxy a ha b hb
    have wa:=(hk x hx).entry ha
    have wb:=(hk y hy).entry hb
    have a1:=kid_addr wf hx ha
    have b1:=kid_addr wf hy hb
    have hp:=br_part wf hx hy (by omega) wa wb
    rw [key_lt (by rw [wa.1,wb.1]) wa.2.1 wb.2.1,cmp_at hp,a1,b1,if_pos hxy]
    decide
end Go.Proofs.YtkeepngaaleakaaGreatDoor.Tr
namespace Go.Proofs.YtkeepngaaleakaaGreatDoor
open Tr (T S4)
def at0 (t:T):Option Addr:=some ⟨t.blk,0,none⟩
theorem kidL_eq (ks:List (Nat × T)):kidL ks = ks.map fun x => (x.1,at0 x.2):=rfl
theorem kidL_length (ks:List (Nat × T)):(kidL ks).length = ks.length:=by simp [kidL]
theorem kidL_put (a:Nat) (t:T):∀ (ks:List (Nat × T)),kidL (Sl.put a t ks) = Sl.put a (at0 t) (kidL ks)
  | [] => rfl
  | x :: ks => by
    have ih:=kidL_put a t ks
    simp only [kidL_eq,List.map_cons] at ih ⊢
    simp only [Sl.put]
    by_cases h1:x.1 < a
    · simp only [h1,if_true,List.map_cons,ih]
    · by_cases h2:x.1 = a
      · simp [h2]
      · simp only [h1,h2,if_false,List.map_cons]
theorem kidL_del (a:Nat):∀ (ks:List (Nat × T)),kidL (Sl.del a ks) = Sl.del a (kidL ks)
  | [] => rfl
  | x :: ks => by
    have ih:=kidL_del a ks
    simp only [kidL_eq,List.map_cons] at ih ⊢
    simp only [Sl.del]
    by_cases h2:x.1 = a
    · simp [h2]
    · simp only [h2,if_false,List.map_cons,ih]
theorem kidL_get (a:Int):∀ (ks:List (Nat × T)),Sl.get (kidL ks) a = (Sl.get ks a).map at0
  | [] => rfl
  | x :: ks => by
    have ih:=kidL_get a ks
    simp only [kidL_eq,List.map_cons] at ih ⊢
    simp only [Sl.get]
    by_cases h2:(x.1:Int) = a
    · simp [h2]
    · simp only [h2,if_false,ih]
theorem kidL_things (ks:List (Nat × T)):Sl.things (kidL ks) = ks.map fun x => at0 x.2:=by simp [Sl.things,kidL,at0]
theorem val_tog {a b:S4} (h:b.c = 0→b = Tr.s0) (ha:a.c = 0→a = Tr.s0):(Tr.tog a b).c = 0→Tr.tog a b = Tr.s0:=by
  intro h0
  rw [Tr.tog_c] at h0
  rw [ha (by omega),Tr.zero_tog]
  exact h (by omega)
theorem togF_ents (ks:List (Nat × T)):togF (ks.map fun x => Tr.sums x.2.ents) = Tr.sums (Tr.entsL ks):=by
  have h:∀ (ks:List (Nat × T)) (a:S4),(a.c = 0→a = Tr.s0)→(ks.map fun x => Tr.sums x.2.ents).foldl Tr.tog a = Tr.tog a (Tr.sums (Tr.entsL ks)):=by
    intro ks
    induction ks with
    | nil => intro a ha;simp [Tr.entsL_nil,Tr.sums_nil,Tr.tog_zero ha]
    | cons x ks ih =>
      intro a ha
      rw [List.map_cons,List.foldl_cons,ih _ (val_tog (Tr.sums_val _) ha),Tr.entsL_cons,Tr.sums_append,Tr.tog_assoc]
  rw [togF,h ks Tr.s0 (fun _ => rfl),Tr.zero_tog]
theorem sums_put_new {ks:List (Nat × T)} (h:Sl.Srt ks) {a:Nat} (t:T) (hg:Sl.get ks (a:Int) = none):Tr.sums (Tr.entsL (Sl.put a t ks)) = Tr.tog (Tr.sums (Tr.entsL ks)) (Tr.sums t.ents):=by
  rw [Sl.put_none h t hg,Tr.entsL_append,Tr.entsL_cons,← Tr.sums_append]
  conv => rhs;rw [← List.take_append_drop (Sl.idx ks (a:Int)) ks,Tr.entsL_append]
  refine Tr.sums_perm ?_
  rw [List.append_assoc]
  exact (List.perm_append_comm).append_left _
theorem Tr.Wf.part_cut {k:Nat} {n t:T} (hn:Tr.Wf k n) (ht:Tr.Wf k t) {m:Nat}:Z.part n.pre t.pre < (m:Int)↔Z.cut n.pre m = Z.cut t.pre m :=
  (Z.cut_eq_iff (by rw [hn.len,ht.len]) hn.ok ht.ok m).symm
theorem Tr.Wf.put {k g g' l:Nat} {pre:List Nat} {ks:List (Nat × T)} (h:Tr.Wf k (.br g l pre ks)) {t:T} (ht:Tr.Wf k t) (hp:Z.part pre t.pre≤(l:Int)) (hl:t.lv≤l) :
    Tr.Wf k (.br g' l pre (Sl.put (Z.addr t.pre l) t ks)):=by
  have hcut:=(Tr.Wf.part_cut h ht (m:=l + 1)).1 (by show Z.part pre t.pre < _;omega)
  have hpre:Z.cut pre (l + 1) = pre:=h.cut_pre
  cases h with
  | br _ _ _ _ h63 hw h2 hlen ho hk hc =>
    have ha:Z.addr t.pre l < 2 ^ k:=by have:=Z.addr_bound t.pre l;rw [ht.len] at this;exact this
    have hkids:∀ x∈Sl.put (Z.addr t.pre l) t ks,Tr.Wf k x.2∧x.2.lv≤l∧Z.cut x.2.pre (l + 1) = pre∧Z.addr x.2.pre l = x.1:=by
      intro x hx
      rcases Sl.mem_put hx with rfl | hx
      · exact ⟨ht,hl,by rw [← hcut];exact hpre,rfl⟩
      · exact ⟨hk x hx,hc x hx⟩
    refine .br g' l pre _ h63 (hw.put t ha) ?_ hlen ho (fun x hx => (hkids x hx).1) (fun x hx => (hkids x hx).2)
    rw [Sl.length_put hw.srt]
    omega
theorem Tr.Wf.del {k g g' l:Nat} {pre:List Nat} {ks:List (Nat × T)} (h:Tr.Wf k (.br g l pre ks)) (a:Nat) (h2:2≤(Sl.del a ks).length):Tr.Wf k (.br g' l pre (Sl.del a ks)):=by
  cases h with
  | br _ _ _ _ h63 hw _ hlen ho hk hc =>
    exact .br g' l pre _ h63 (hw.del a) h2 hlen ho (fun x hx => hk x (Sl.mem_del hx)) (fun x hx => hc x (Sl.mem_del hx))
theorem Tr.Wf.pair {k l:Nat} {a b:T} (ha:Tr.Wf k a) (hb:Tr.Wf k b) (hp:Z.part a.pre b.pre = (l:Int)) (hla:a.lv≤l) (hlb:b.lv≤l) (g:Nat) :
    Tr.Wf k (.br g l (Z.cut a.pre (l + 1)) (Sl.put (Z.addr b.pre l) b (Sl.put (Z.addr a.pre l) a [])))∧Z.addr a.pre l≠Z.addr b.pre l:=by
  have hlen:a.pre.length = b.pre.length:=by rw [ha.len,hb.len]
  have hsp:=Z.part_bd hlen ha.ok hb.ok
  have h63:l≤63:=by omega
  have hcut:Z.cut a.pre (l + 1) = Z.cut b.pre (l + 1):=(Z.cut_eq_iff hlen ha.ok hb.ok (l + 1)).2 (by omega)
  have hne:Z.addr a.pre l≠Z.addr b.pre l:=by
    intro e
    have h1:Z.cut a.pre l = Z.cut b.pre l:=by
      refine Z.points_eq (by simp [Z.cut_length,hlen]) (Z.cut_ok ha.ok l) (Z.cut_ok hb.ok l) fun m hm => ?_
      rw [Z.cut_addr,Z.cut_addr]
      split
      · rcases Nat.lt_or_ge l m with h | h
        · have c1:=Z.cut_addr a.pre (l + 1) m
          have c2:=Z.cut_addr b.pre (l + 1) m
          rw [if_pos (by omega)] at c1 c2
          rw [← c1,← c2,hcut]
        · have:m = l:=by omega
          rw [this]
          exact e
      · rfl
    have:=(Z.cut_eq_iff hlen ha.ok hb.ok l).1 h1
    omega
  have ba:Z.addr a.pre l < 2 ^ k:=by have:=Z.addr_bound a.pre l;rw [ha.len] at this;exact this
  have bb:Z.addr b.pre l < 2 ^ k:=by have:=Z.addr_bound b.pre l;rw [hb.len] at this;exact this
  have w0:Sl.Wf k (Sl.put (Z.addr b.pre l) b (Sl.put (Z.addr a.pre l) a ([]:List (Nat × T)))):=((Sl.Wf.nil ha.k1 ha.k16).put a ba).put b bb
  have hkids:∀ x∈Sl.put (Z.addr b.pre l) b (Sl.put (Z.addr a.pre l) a ([]:List (Nat × T))),Tr.Wf k x.2∧x.2.lv≤l∧Z.cut x.2.pre (l + 1) = Z.cut a.pre (l + 1)∧Z.addr x.2.pre l = x.1:=by
    intro x hx
    rcases Sl.mem_put hx with rfl | hx
    · exact ⟨hb,hlb,hcut.symm,rfl⟩
    · rcases Sl.mem_put hx with rfl | hx
      · exact ⟨ha,hla,rfl,rfl⟩
      · simp at hx
  refine ⟨.br g l _ _ h63 w0 ?_ (by rw [Z.cut_length,ha.len]) (Z.cut_ok ha.ok _) (fun x hx => (hkids x hx).1) (fun x hx => (hkids x hx).2),hne⟩
  rw [Sl.length_put ((Sl.Wf.nil ha.k1 ha.k16).put a ba).srt,Sl.length_put (Sl.Wf.nil ha.k1 ha.k16).srt]
  have h0:Sl.has ([]:List (Nat × T)) (Z.addr a.pre l:Int) = false:=rfl
  have h1:Sl.has (Sl.put (Z.addr a.pre l) a ([]:List (Nat × T))) (Z.addr b.pre l:Int) = false:=by
    rw [Sl.has,Sl.get_put Sl.srt_nil,if_neg (by omega)]
    rfl
  rw [h0,h1]
  simp
end Go.Proofs.YtkeepngaaleakaaGreatDoor
namespace Go.Proofs.YtkeepngaaleakaaGreatDoor
open Tr (T S4 Ent)
namespace Tr
open Go.Proofs.YtkeepngaaleakaaGreatDoor.Z
def covers (t:T) (p:List Nat):Bool:=decide (Z.part t.pre p≤levI t)
def kidAt (t:T) (p:List Nat):Option T:=Sl.get t.ks (addr p (t.lv - 1):Int)
def pathF:Nat→Option T→List Nat→List T
  | 0,_,_ => []
  | _ + 1,none,_ => []
  | n + 1,some t,p => if covers t p = true then t :: pathF n (kidAt t p) p else []
def stopF:Nat→Option T→List Nat→Option T
  | 0,o,_ => o
  | _ + 1,none,_ => none
  | n + 1,some t,p => if covers t p = true then stopF n (kidAt t p) p else some t
def pathT (o:Option T) (p:List Nat):List T:=pathF 65 o p
def stopT (o:Option T) (p:List Nat):Option T:=stopF 65 o p
theorem covers_iff {k:Nat} {t:T} (h:Wf k t) {p:List Nat} (hp:p.length = k) (ho:Ok p):covers t p = true↔cut p t.lv = t.pre:=by
  unfold covers levI
  rw [decide_eq_true_eq]
  have h1:=cut_eq_iff (us:=t.pre) (vs:=p) (by rw [h.len,hp]) h.ok ho t.lv
  rw [h.cut_pre] at h1
  constructor
  · intro c;exact (h1.2 (by omega)).symm
  · intro c;have:=h1.1 c.symm;omega
theorem kidAt_mem {t s:T} {p:List Nat} (h:kidAt t p = some s):(addr p (t.lv - 1),s)∈t.ks:=by
  obtain ⟨n,hn,hm⟩:=Sl.get_mem _ _ _ h
  have:n = addr p (t.lv - 1):=by omega
  subst this
  exact hm
theorem kidAt_wf {k:Nat} {t s:T} (h:Wf k t) {p:List Nat} (hs:kidAt t p = some s):Wf k s∧s.lv < t.lv∧addr s.pre (t.lv - 1) = addr p (t.lv - 1)∧cut s.pre t.lv = t.pre:=by
  have hm:=kidAt_mem hs
  cases h with
  | ent g q v => simp [T.ks] at hm
  | br g l pre ks h63 hw h2 hl ho hk hc =>
    obtain ⟨c1,c2,c3⟩:=hc _ hm
    exact ⟨hk _ hm,by show s.lv < l + 1;exact Nat.lt_succ_of_le c1,c3,c2⟩
theorem kidAt_ent (g:Nat) (q:List Nat) (v:Nat) (p:List Nat):kidAt (.ent g q v) p = none:=rfl
theorem pathF_more {k:Nat} (p:List Nat):∀ (n:Nat) (o:Option T),(∀ t,o = some t→Wf k t∧t.lv < n)→∀ m,n≤m→pathF m o p = pathF n o p∧stopF m o p = stopF n o p
  | 0,none,_,0,_ => ⟨rfl,rfl⟩
  | 0,none,_,m + 1,_ => ⟨rfl,rfl⟩
  | 0,some t,h,_,_ => by have:=(h t rfl).2;omega
  | n + 1,none,_,0,hm => by omega
  | n + 1,none,_,m + 1,_ => ⟨rfl,rfl⟩
  | n + 1,some t,h,0,hm => by omega
  | n + 1,some t,h,m + 1,hm => by
    obtain ⟨wf,hl⟩:=h t rfl
    have ih:=pathF_more (k:=k) p n (kidAt t p) (fun s hs => by
      have:=kidAt_wf wf hs
      exact ⟨this.1,by omega⟩) m (by omega)
    simp only [pathF,stopF]
    rw [ih.1,ih.2]
    exact ⟨rfl,rfl⟩
theorem path_step {k:Nat} {t:T} (h:Wf k t) (p:List Nat) (hc:covers t p = true):pathT (some t) p = t :: pathT (kidAt t p) p∧stopT (some t) p = stopT (kidAt t p) p:=by
  have ih:=pathF_more (k:=k) p 64 (kidAt t p) (fun s hs => by
    have h1:=kidAt_wf h hs
    have h2:=h.lv64
    exact ⟨h1.1,by omega⟩) 65 (by omega)
  unfold pathT stopT
  rw [ih.1,ih.2]
  simp [pathF,stopF,hc]
theorem path_stop (t:T) (p:List Nat) (hc:covers t p = false):pathT (some t) p = []∧stopT (some t) p = some t:=by
  simp [pathT,stopT,pathF,stopF,hc]
theorem path_none (p:List Nat):pathT none p = []∧stopT none p = none:=⟨rfl,rfl⟩
theorem pathF_length (p:List Nat):∀ (n:Nat) (o:Option T),(pathF n o p).length≤n
  | 0,_ => by simp [pathF]
  | n + 1,none => by simp [pathF]
  | n + 1,some t => by
    simp only [pathF]
    split
    · have:=pathF_length p n (kidAt t p)
      simp only [List.length_cons]
      omega
    · simp
def entsO:Option T→List Ent
  | none => []
  | some t => t.ents
def Under (x:T) (p:List Nat) (l:Nat):Prop:=x.lv≤l∧cut x.pre l = cut p l
theorem Under.up {x:T} {p:List Nat} {l m:Nat} (h:Under x p l) (hm:l≤m):Under x p m :=
  ⟨by have:=h.1;omega,by rw [← cut_cut x.pre l m hm,h.2,cut_cut p l m hm]⟩
theorem Under.addr {x:T} {p:List Nat} {l:Nat} (h:Under x p l):Z.addr x.pre l = Z.addr p l:=by
  have h1:=cut_addr x.pre l l
  have h2:=cut_addr p l l
  rw [if_pos (Nat.le_refl _)] at h1 h2
  rw [← h1,← h2,h.2]
theorem Under.part {k:Nat} {x:T} {p pre:List Nat} {l:Nat} (h:Under x p l) (hx:Wf k x) (hpre:pre.length = k) (ho:Ok pre) (hc:cut p (l + 1) = pre):Z.part pre x.pre≤(l:Int):=by
  have h1:=(cut_eq_iff (us:=pre) (vs:=x.pre) (by rw [hpre,hx.len]) ho hx.ok (l + 1)).1 (by
    rw [← hc,cut_cut p (l + 1) (l + 1) (Nat.le_refl _),← cut_cut x.pre l (l + 1) (by omega),h.2,cut_cut p l (l + 1) (by omega)])
  omega
theorem mem_ents_put {k g g' l:Nat} {pre:List Nat} {ks:List (Nat × T)} (h:Wf k (.br g l pre ks)) {x:T} {p:List Nat} {e:Ent} :
    e∈(T.br g' l pre (Sl.put (addr p l) x ks)).ents↔e∈x.ents∨(e∈(T.br g l pre ks).ents∧addr e.1 l≠addr p l):=by
  have hw:Sl.Wf k ks:=by cases h with | br _ _ _ _ _ hw => exact hw
  rw [ents_br,ents_br,mem_entsL,mem_entsL]
  constructor
  · rintro ⟨y,hy,he⟩
    have h1:=(Sl.get_iff (Sl.srt_put (addr p l) x hw.srt) (a:=y.1) (v:=y.2)).2 hy
    rw [Sl.get_put hw.srt] at h1
    by_cases c:y.1 = addr p l
    · rw [if_pos (by omega)] at h1
      cases h1
      exact .inl he
    · rw [if_neg (by omega)] at h1
      have hm:=(Sl.get_iff hw.srt).1 h1
      exact .inr ⟨⟨y,hm,he⟩,by rw [kid_addr h hm he];exact c⟩
  · rintro (he | ⟨⟨y,hy,he⟩,hne⟩)
    · exact ⟨(addr p l,x),(Sl.get_iff (Sl.srt_put (addr p l) x hw.srt)).1 (by rw [Sl.get_put hw.srt,if_pos rfl]),he⟩
    · rw [kid_addr h hy he] at hne
      exact ⟨y,(Sl.get_iff (Sl.srt_put (addr p l) x hw.srt)).1 (by rw [Sl.get_put hw.srt,if_neg (by omega)];exact (Sl.get_iff hw.srt).2 hy),he⟩
theorem mem_kidAt {k g l:Nat} {pre:List Nat} {ks:List (Nat × T)} (h:Wf k (.br g l pre ks)) {p:List Nat} {e:Ent} :
    e∈entsO (kidAt (.br g l pre ks) p)↔e∈(T.br g l pre ks).ents∧addr e.1 l = addr p l:=by
  have hw:Sl.Wf k ks:=by cases h with | br _ _ _ _ _ hw => exact hw
  have hk:kidAt (.br g l pre ks) p = Sl.get ks (addr p l:Int):=rfl
  rw [hk,ents_br,mem_entsL]
  constructor
  · intro he
    rcases hg:Sl.get ks (addr p l:Int) with _ | s
    · rw [hg] at he;simp [entsO] at he
    · rw [hg] at he
      have hm:=(Sl.get_iff hw.srt).1 hg
      exact ⟨⟨_,hm,he⟩,kid_addr h hm he⟩
  · rintro ⟨⟨y,hy,he⟩,ha⟩
    rw [kid_addr h hy he] at ha
    rw [(Sl.get_iff hw.srt (a:=addr p l) (v:=y.2)).2 (by rw [← ha];exact hy)]
    exact he
def Turned (A:Ent→Prop) (p:List Nat) (o n:List Ent):Prop:=∀ e,e∈n↔A e∨(e∈o∧e.1≠p)
theorem turned_up {k g g' l:Nat} {pre:List Nat} {ks:List (Nat × T)} (h:Wf k (.br g l pre ks)) {p:List Nat} (hp:p.length = k) (ho:Ok p) (hc:covers (.br g l pre ks) p = true) {x:T} (hx:Wf k x) (hu:Under x p l)
    {A:Ent→Prop} (ht:Turned A p (entsO (kidAt (.br g l pre ks) p)) x.ents) :
    Wf k (.br g' l pre (Sl.put (addr p l) x ks))∧(∀ m,l + 1≤m→Under (.br g' l pre (Sl.put (addr p l) x ks)) p m)∧Turned A p (T.br g l pre ks).ents (T.br g' l pre (Sl.put (addr p l) x ks)).ents:=by
  have hcut:=(covers_iff h hp ho).1 hc
  have hpart:=hu.part hx h.len h.ok hcut
  have hwf:=h.put (g':=g') hx hpart hu.1
  rw [hu.addr] at hwf
  refine ⟨hwf,fun m hm => ⟨hm,?_⟩,fun e => ?_⟩
  · show cut pre m = cut p m
    rw [← (show cut p (l + 1) = pre from hcut),cut_cut p (l + 1) m hm]
  · rw [mem_ents_put h,ht e,mem_kidAt h]
    constructor
    · rintro ((ha | ⟨⟨he,_⟩,hn⟩) | ⟨he,hn⟩)
      · exact .inl ha
      · exact .inr ⟨he,hn⟩
      · exact .inr ⟨he,fun c => hn (by rw [c])⟩
    · rintro (ha | ⟨he,hn⟩)
      · exact .inl (.inl ha)
      · by_cases c:addr e.1 l = addr p l
        · exact .inl (.inr ⟨⟨he,c⟩,hn⟩)
        · exact .inr ⟨he,c⟩
theorem turned_del {k g g' l:Nat} {pre:List Nat} {ks:List (Nat × T)} (h:Wf k (.br g l pre ks)) {p:List Nat} (hp:p.length = k) (ho:Ok p) (hc:covers (.br g l pre ks) p = true) {q v}
    (hkid:kidAt (.br g l pre ks) p = some (.ent q p v)) (h2:2≤(Sl.del (addr p l) ks).length) :
    Wf k (.br g' l pre (Sl.del (addr p l) ks))∧(∀ m,l + 1≤m→Under (.br g' l pre (Sl.del (addr p l) ks)) p m)∧Turned (fun _ => False) p (T.br g l pre ks).ents (T.br g' l pre (Sl.del (addr p l) ks)).ents:=by
  have hcut:=(covers_iff h hp ho).1 hc
  have hw:Sl.Wf k ks:=by cases h with | br _ _ _ _ _ hw => exact hw
  refine ⟨h.del _ h2,fun m hm => ⟨hm,?_⟩,fun e => ?_⟩
  · show cut pre m = cut p m
    rw [← (show cut p (l + 1) = pre from hcut),cut_cut p (l + 1) m hm]
  · rw [ents_br,ents_br,mem_entsL,mem_entsL,false_or]
    have hmk:=kidAt_mem hkid
    constructor
    · rintro ⟨y,hy,he⟩
      have h1:=(Sl.get_iff (Sl.srt_del (addr p l) hw.srt) (a:=y.1) (v:=y.2)).2 hy
      rw [Sl.get_del hw.srt] at h1
      by_cases c:y.1 = addr p l
      · rw [if_pos (by omega)] at h1;cases h1
      · have hm:=Sl.mem_del hy
        exact ⟨⟨y,hm,he⟩,fun e2 => c (by rw [← kid_addr h hm he,e2])⟩
    · rintro ⟨⟨y,hy,he⟩,hn⟩
      refine ⟨y,(Sl.get_iff (Sl.srt_del (addr p l) hw.srt)).1 ?_,he⟩
      rw [Sl.get_del hw.srt]
      have:y.1≠addr p l:=by
        intro c
        have h1:=(Sl.get_iff hw.srt (a:=y.1) (v:=y.2)).2 hy
        have h3:Sl.get ks (addr p l:Int) = some (.ent q p v):=hkid
        rw [c,h3] at h1
        have h4:=Option.some.inj h1
        rw [← h4,ents_ent] at he
        simp only [List.mem_singleton] at he
        exact hn (by rw [he])
      rw [if_neg (by omega)]
      exact (Sl.get_iff hw.srt).2 hy
end Tr
end Go.Proofs.YtkeepngaaleakaaGreatDoor
namespace Go.Proofs.YtkeepngaaleakaaGreatDoor
open Go.ChangeShapes Go.WideShapes Go.ChangeAt Go.RowKit
open Tr (T S4 Ent)
def rootP:Option T→Option Addr
  | none => none
  | some t => some ⟨t.blk,0,none⟩
theorem rootP_kid {ks:List (Nat × T)} (a:Int):(Sl.get (kidL ks) a).getD none = rootP (Sl.get ks a):=by
  rw [kidL_get]
  cases Sl.get ks a <;> rfl
def NodeO (w:World) (B k:Nat) (o:Option T):Prop:=∀ t,o = some t→Node w B k t
theorem NodeO.below {w w':World} {B B' C k:Nat} {o:Option T} (h:NodeO w B k o) (hb:Below C w w') (hC:B≤C) (hB:B≤B'):NodeO w' B' k o:=fun t e => (h t e).below hb hC hB
theorem NodeO.none (w:World) (B k:Nat):NodeO w B k none:=fun t e => by cases e
theorem NodeO.some {w:World} {B k:Nat} {t:T} (h:Node w B k t):NodeO w B k (some t):=fun s e => by cases e;exact h
def TreC (w:World) (b k:Nat) (r:Option Addr):Prop:=w.cell? ⟨b,0,none⟩ = some (.int .i64 (k:Int))∧w.cell? ⟨b,1,none⟩ = some (.pointer r)
def TreeAt (w:World) (B b k:Nat) (o:Option T):Prop:=b < B∧1≤k∧k≤16∧TreC w b k (rootP o)∧NodeO w B k o
theorem TreC.below {w w':World} {b k C:Nat} {r:Option Addr} (h:TreC w b k r) (hb:Below C w w') (hC:b < C):TreC w' b k r :=
  ⟨(hb.cell (p:=⟨b,0,none⟩) hC).trans h.1,(hb.cell (p:=⟨b,1,none⟩) hC).trans h.2⟩
theorem TreeAt.below {w w':World} {B B' C b k:Nat} {o:Option T} (h:TreeAt w B b k o) (hb:Below C w w') (hC:B≤C) (hB:B≤B'):TreeAt w' B' b k o :=
  ⟨Nat.lt_of_lt_of_le h.1 hB,h.2.1,h.2.2.1,h.2.2.2.1.below hb (Nat.lt_of_lt_of_le h.1 hC),h.2.2.2.2.below hb hC hB⟩
theorem treC_at {w:World} {b k:Nat} {r:Option Addr} {t:TypeId} (h:w.heap[b]? = some (.cells #[.int .i64 (k:Int),.pointer r] t (0,0))):TreC w b k r :=
  ⟨by rw [cell_of_row w b _ _ t (0,0) h];rfl,by rw [cell_of_row w b _ _ t (0,0) h];rfl⟩
def TreeX (w:World) (b k:Nat) (o:Option T):Prop:=TreeAt w w.heap.size b k o∧TrB w b
theorem TreeX.below {w w':World} {b k C:Nat} {o:Option T} (h:TreeX w b k o) (hb:Below C w w') (hC:w.heap.size≤C):TreeX w' b k o :=
  ⟨h.1.below hb hC hb.size,h.2.below hb (Nat.lt_of_lt_of_le h.1.1 hC)⟩
theorem tK_c {w:World} {b k:Nat} {r:Option Addr} (h:TreC w b k r):Calls Tryz.prog 57 #[.pointer (some ⟨b,0,none⟩)] w fun e w' => e = .returned (.int .i64 (k:Int))∧w = w':=by
  obtain ⟨c0,c1⟩:=h
  go_enter Tryz.func57,Tryz.ntmps57
  go_wp2
  go_ret
  exact ⟨rfl,rfl⟩
theorem tRoot_c {w:World} {b k:Nat} {r:Option Addr} (h:TreC w b k r):Calls Tryz.prog 60 #[.pointer (some ⟨b,0,none⟩)] w fun e w' => e = .returned (.pointer r)∧w = w':=by
  obtain ⟨c0,c1⟩:=h
  go_enter Tryz.func60,Tryz.ntmps60
  go_wp2
  go_ret
  exact ⟨rfl,rfl⟩
theorem sums_count (w:World) (a b c d:Value):(Instr.field 133 (.agg #[a,b,c,d]) 0).run Tryz.prog w = .ok a w:=by kernel_rfl
theorem nSums_o {w:World} {B k:Nat} {o:Option T} (h:NodeO w B k o) (hB:B≤w.heap.size) :
    Calls Tryz.prog 92 #[.pointer (rootP o)] w fun e w' => e = .returned (sumsV (Tr.sums (Tr.entsO o)))∧Below w.heap.size w w':=by
  cases o with
  | none => exact nSums_nil w
  | some t =>
    obtain ⟨kp,hnd⟩:=(h t rfl).2.nd
    exact nSums_c hnd hB
theorem tLen_c {w:World} {B b k:Nat} {o:Option T} (h:TreeAt w B b k o) (hB:B≤w.heap.size) (hl:(Tr.entsO o).length < 9223372036854775808) :
    Calls Tryz.prog 58 #[.pointer (some ⟨b,0,none⟩)] w fun e w' => e = .returned (.int .i64 ((Tr.entsO o).length:Int))∧Below w.heap.size w w':=by
  have f0:=sums_count
  have hc:((Tr.sums (Tr.entsO o)).c:Int) = ((Tr.entsO o).length:Int):=by rw [Tr.sums_c]
  have H1:=Lib.hid (tRoot_c h.2.2.2.1)
  have H2:=Lib.hid (nSums_o h.2.2.2.2 hB)
  have hw:IntKind.i64.wrap ((Tr.sums (Tr.entsO o)).c:Int) = ((Tr.entsO o).length:Int):=by rw [hc,IntKind.wrap_i64];omega
  generalize Tr.sums (Tr.entsO o) = S at *
  generalize (Tr.entsO o).length = n at *
  have hS:=Lib.hid hc
  clear h hc
  go_enter Tryz.func58,Tryz.ntmps58
  go_wp2_with (first
    | (go_at_call 60;refine H1.out.mono ?_;rintro e w' ⟨rfl,rfl⟩)
    | (go_at_call 92;refine H2.out.mono ?_;rintro e w1 ⟨rfl,hb1⟩))
  go_ret
  refine ⟨?_,hb1⟩
  first | (rw [hw];done) | (rw [hS.out];done) | (simp [hS.out];done) | (simp;have:=hS.out;omega)
/-! ### New,Of -/
theorem tOf_c {w:World} {B k:Nat} {o:Option T} (hn:NodeO w B k o) (hB:B≤w.heap.size) (h1:1≤k) (h16:k≤16) :
    Calls Tryz.prog 82 #[.int .i64 (k:Int),.pointer (rootP o)] w fun e w' => e = .returned (.tuple #[.pointer (some ⟨w.heap.size,0,none⟩),.int .i64 0])∧TreeX w' w.heap.size k o∧Below w.heap.size w w':=by
  have e1:decide ((k:Int) < 1) = false:=decide_eq_false (by omega)
  have e2:decide ((16:Int) < (k:Int)) = false:=decide_eq_false (by omega)
  have hal:=fun (r:Option Addr) => below_alloc w (.cells #[.int .i64 (k:Int),.pointer r] 168)
  have hat:∀ r,r = rootP o→TreeX (w.alloc (.cells #[.int .i64 (k:Int),.pointer r] 168)) w.heap.size k o:=fun r hr => by
    subst hr
    exact ⟨⟨by simp,h1,h16,treC_at (heap_at w _ _ rfl),hn.below (hal _) hB (Nat.le_trans hB (hal _).size)⟩,_,_,heap_at w _ _ rfl⟩
  cases o with
  | none =>
    have H:=Lib.hid (And.intro (hal none) (hat none rfl))
    clear hal hat hn
    show Calls Tryz.prog 82 #[.int .i64 (k:Int),.pointer none] w _
    go_enter Tryz.func82,Tryz.ntmps82
    go_wp2
    go_ret2
    exact ⟨rfl,H.out.2,H.out.1⟩
  | some t =>
    obtain ⟨kp,hnd⟩:=(hn t rfl).2.nd
    have HK:=nK_c hnd
    rw [(hn t rfl).1.len] at HK
    have HK:=Lib.hid HK
    have e3:((k:Int) != (k:Int)) = false:=by simp
    have H:=Lib.hid (And.intro (hal (some ⟨t.blk,0,none⟩)) (hat (some ⟨t.blk,0,none⟩) rfl))
    clear hal hat hn hnd
    show Calls Tryz.prog 82 #[.int .i64 (k:Int),.pointer (some ⟨t.blk,0,none⟩)] w _
    go_enter Tryz.func82,Tryz.ntmps82
    go_wp2_with (go_at_call 118;refine HK.out.mono ?_;rintro e w' ⟨rfl,rfl⟩)
    go_ret2
    exact ⟨rfl,H.out.2,H.out.1⟩
theorem tNew_c (k:Nat) (w:World) (h1:1≤k) (h16:k≤16) :
    Calls Tryz.prog 30 #[.int .i64 (k:Int)] w fun e w' => e = .returned (.tuple #[.pointer (some ⟨w.heap.size,0,none⟩),.int .i64 0])∧TreeX w' w.heap.size k none∧Below w.heap.size w w':=by
  have H:=Lib.hid (tOf_c (NodeO.none w w.heap.size k) (Nat.le_refl _) h1 h16)
  clear h1 h16
  go_enter Tryz.func30,Tryz.ntmps30
  go_wp2_with (go_at_call 82;refine H.out.mono ?_;rintro e w1 ⟨rfl,h1,h2⟩)
  go_ret2
  exact ⟨rfl,h1,h2⟩
/-! ### refusal -/
theorem tRef_dim {w:World} {b k:Nat} {r:Option Addr} (h:TreC w b k r) (A:Option Addr) (n c:Nat) (hn:n≤maxLen) (hne:n≠k) :
    Calls Tryz.prog 98 #[.pointer (some ⟨b,0,none⟩),.slice A n c] w fun e w' => e = .returned (.int .i64 2)∧w = w':=by
  obtain ⟨c0,c1⟩:=h
  by_cases hr:1≤n∧n≤16
  · have H:=Lib.hid (right_yes A n c w hr.1 hr.2)
    have e1:((n:Int) != (k:Int)) = true:=by simp;omega
    clear hr hne hn
    go_enter Tryz.func98,Tryz.ntmps98
    go_wp2_with (go_at_call 150;refine H.out.mono ?_;rintro e w' ⟨rfl,rfl⟩)
    go_ret
    exact ⟨rfl,rfl⟩
  · have H:=Lib.hid (right_no A n c w hn hr)
    clear hr hne hn
    go_enter Tryz.func98,Tryz.ntmps98
    go_wp2_with (go_at_call 150;refine H.out.mono ?_;rintro e w' ⟨rfl,rfl⟩)
    go_ret
    exact ⟨rfl,rfl⟩
theorem tRef_ok {w:World} {b k:Nat} {r:Option Addr} (h:TreC w b k r) (A:Option Addr) (n c:Nat) (h1:1≤k) (h16:k≤16) (he:n = k) :
    Calls Tryz.prog 98 #[.pointer (some ⟨b,0,none⟩),.slice A n c] w fun e w' => e = .returned (.int .i64 0)∧w = w':=by
  obtain ⟨c0,c1⟩:=h
  subst he
  have H:=Lib.hid (right_yes A n c w h1 h16)
  have e1:((n:Int) != (n:Int)) = false:=by simp
  clear h1 h16
  go_enter Tryz.func98,Tryz.ntmps98
  go_wp2_with (go_at_call 150;refine H.out.mono ?_;rintro e w' ⟨rfl,rfl⟩)
  go_ret
  exact ⟨rfl,rfl⟩
structure Foot (F:Nat→Prop) (w w':World):Prop where
  os:w'.os = w.os
  tape:w'.tape = w.tape
  output:w'.output = w.output
  size:w.heap.size≤w'.heap.size
  block:∀ k,k < w.heap.size→¬ F k→w'.heap[k]? = w.heap[k]?
theorem Foot.refl (F:Nat→Prop) (w:World):Foot F w w:=⟨rfl,rfl,rfl,Nat.le_refl _,fun _ _ _ => rfl⟩
theorem Foot.trans {F F1:Nat→Prop} {w w1 w2:World} (h:Foot F w w1) (k:Foot F1 w1 w2) (hF:∀ b,F1 b→F b∨w.heap.size≤b):Foot F w w2 :=
  ⟨k.os.trans h.os,k.tape.trans h.tape,k.output.trans h.output,Nat.le_trans h.size k.size,fun b hb hn => by
    have h1:=h.size
    rw [k.block b (by omega) (fun c => by rcases hF b c with c | c;exact hn c;omega)]
    exact h.block b hb hn⟩
theorem Foot.of_below {F:Nat→Prop} {w w':World} (h:Below w.heap.size w w'):Foot F w w':=⟨h.os,h.tape,h.output,h.size,fun b hb _ => h.block b hb⟩
theorem Foot.below {F:Nat→Prop} {w w':World} {B:Nat} (h:Foot F w w') (hB:B≤w.heap.size) (hF:∀ b,F b→B≤b):Below B w w' :=
  ⟨h.os,h.tape,h.output,h.size,fun b hb => h.block b (by omega) (fun c => by have:=hF b c;omega)⟩
theorem Foot.drewN {F:Nat→Prop} {w w':World} (h:Foot F w w') (n:Nat):Foot F w (w'.drewN n):=⟨h.os,h.tape,h.output,h.size,h.block⟩
theorem Foot.setCell (w:World) {F:Nat→Prop} {a:Addr} (ha:F a.block) (v:Value):Foot F w (w.setCell a v) :=
  ⟨rfl,rfl,rfl,by simp,fun b _ hn => Below.heap_setCell _ _ _ _ (fun e => hn (e ▸ ha))⟩
theorem Foot.grown {F:Nat→Prop} {w w':World} {row:Option Nat} (h:w.grownBy w' row) (hr:∀ k,row = some k→F k):Foot F w w' :=
  ⟨h.os,h.tape,h.output,h.size,fun b hb hn => h.block b hb (fun e => hn (hr b e.symm))⟩
structure Visit (fid g B k M:Nat) (Inv:List T→World→(Nat→Prop)→Prop):Prop where
  ent:∀ args w,(callFunc fid args).run Tryz.prog w = .ok (.enter fid args) w
  frame:∀ us w w' F,Inv us w F→w.heap.size≤w'.heap.size→(∀ b,F b→w'.heap[b]? = w.heap[b]?)→Inv us w' F
  inb:∀ us w F,Inv us w F→∀ b,F b→b < w.heap.size∧B≤b
  call:∀ us w F t,Inv us w F→Node w B k t→B≤w.heap.size→us.length < M→Calls Tryz.prog fid #[.pointer (some ⟨t.blk,0,none⟩),.pointer (some ⟨g,0,none⟩)] w fun e w' =>
    e = .returned (.tuple #[])∧∃ F',Inv (us ++ [t]) w' F'∧(∀ b,F' b→F b∨w.heap.size≤b)∧Foot F w w'
def lvOf (a:Act) (w:World):Nat:=match a.tmps.getD 1 undef with
  | .pointer (some ad) => (match w.cell? ad with | some (.int _ l) => (l + 2).toNat | _ => 0)
  | _ => 0
theorem covers_eq {t:T} {p:List Nat} {r:Bool} (h:Tr.covers t p = r):decide (Z.part t.pre p≤levI t) = r:=h
theorem wp_scope_again {P:Program} {c rest:Code} {Q:Exit→Act→World→Prop} {a:Act} {w:World} (l:Nat) (J:Act→World→Prop) (μ:Act→World→Nat) (hf:findLabel c l = some (Code.skip.seq rest))
    (first:(∀ a w,J a w→rest.wp P (Exit.jump l J Q) a w)→c.wp P (Exit.jump l J Q) a w)
    (pass:∀ a w,J a w→rest.wp P (Exit.jump l (fun a' w' => J a' w'∧μ a' w' < μ a w) Q) a w):(Code.scope c).wp P Q a w:=by
  refine wp_scope_jumps l J μ hf (first fun a w h => Code.wp_mono ?_ (pass a w h)) fun a w h => wp_seq (wp_skip (pass a w h))
  intro e a' w' h'
  cases e <;> first | exact h' | exact ⟨h'.1,h'.2.1⟩
set_option maxRecDepth 1000000 in
set_option maxHeartbeats 4000000 in
theorem down_c {fid g B k M:Nat} {Inv:List T→World→(Nat→Prop)→Prop} (hv:Visit fid g B k M Inv) {w:World} {F:Nat→Prop} (hI:Inv [] w F) {o:Option T} (hn:NodeO w B k o) (hB:B≤w.heap.size)
    {p:List Nat} {A:Option Addr} {c:Nat} (hp:Pts w B A p) (hl:p.length = k) (h1:1≤k) (h16:k≤16) (hM:65≤M) :
    Calls Tryz.prog 125 #[.agg #[.func (.func fid) #[] #[.pointer (some ⟨g,0,none⟩)]],.pointer (rootP o),.slice A p.length c] w fun e w' =>
      e = .returned (.pointer (rootP (Tr.stopT o p)))∧∃ F',Inv (Tr.pathT o p) w' F'∧(∀ b,F' b→F b∨w.heap.size≤b)∧Foot F w w':=by
  have hent:=hv.ent
  have HV:=Lib.hid hv
  have HX:=Lib.hid (And.intro hn (And.intro hB (And.intro hp (And.intro hl (And.intro h1 (And.intro h16 hM))))))
  have hal:=below_alloc w (.cells #[.func (.func fid) #[] #[.pointer (some ⟨g,0,none⟩)]] 142)
  have hI0:=HV.out.frame _ _ (w.alloc (.cells #[.func (.func fid) #[] #[.pointer (some ⟨g,0,none⟩)]] 142)) _ hI hal.size (fun b hb => hal.block b (HV.out.inb _ _ _ hI b hb).1)
  have hx0:(w.alloc (.cells #[.func (.func fid) #[] #[.pointer (some ⟨g,0,none⟩)]] 142)).heap[w.heap.size]? = some (.cells #[.func (.func fid) #[] #[.pointer (some ⟨g,0,none⟩)]] 142):=heap_at w _ _ rfl
  have hF0:¬ F w.heap.size:=fun h => by have:=(HV.out.inb _ _ _ hI _ h).1;omega
  have H0:=Lib.hid (And.intro hI0 (And.intro hx0 (And.intro hF0 (And.intro (Foot.of_below (F:=F) hal) (And.intro hI hal)))))
  clear hv hn hB hp hl h1 h16 hM hI hal hI0 hx0 hF0
  go_enter Tryz.func125,Tryz.ntmps125
  go_wp2_with fail
  refine wp_scope_again 0 (fun a' w' => ∃ (us:List T) (o':Option T) (F':Nat→Prop) (u4 u5 u7 u8 u9 u10 u11 u12 u13 u14 u15 u16 u17 u18 u19 u20 u21 u22 u23 u24 u25 u26 u27:Value),
      a' = { tmps:=#[.agg #[.func (.func fid) #[] #[.pointer (some ⟨g,0,none⟩)]],.pointer (rootP o'),.slice A p.length c,.pointer (some ⟨w.heap.size,0,none⟩),u4,u5,.pointer none,u7,u8,u9,u10,u11,u12,u13,u14,u15,u16,u17,u18,u19,u20,u21,u22,u23,u24,u25,u26,u27],defers:=[] } ∧
      Tr.pathT o p = us ++ Tr.pathT o' p∧Tr.stopT o p = Tr.stopT o' p∧NodeO w B k o'∧Inv us w' F'∧(∀ b,F' b→F b∨w.heap.size≤b)∧Foot F w w' ∧
      w'.heap[w.heap.size]? = some (.cells #[.func (.func fid) #[] #[.pointer (some ⟨g,0,none⟩)]] 142)∧¬ F' w.heap.size) lvOf rfl ?first ?pass
  case first =>
    intro hp
    refine wp_seq (wp_label (hp _ _ ⟨[],o,F,_,_,_,_,_,_,_,_,_,_,_,_,_,_,_,_,_,_,_,_,_,_,_,rfl,rfl,rfl,HX.out.1,H0.out.1,fun b hb => .inl hb,H0.out.2.2.2.1,H0.out.2.1,H0.out.2.2.1⟩))
  case pass =>
    rintro a' w' ⟨us,o',F',u4,u5,u7,u8,u9,u10,u11,u12,u13,u14,u15,u16,u17,u18,u19,u20,u21,u22,u23,u24,u25,u26,u27,rfl,hpath,hstop,hno,hinv,hF',hfoot,hbox,hnF⟩
    cases o' with
    | none =>
      have HR:=Lib.hid (And.intro hpath (And.intro hstop (And.intro hinv (And.intro hF' hfoot))))
      clear hpath hstop hno hinv hF' hfoot hbox hnF H0
      simp only [rootP]
      go_wp2_with (go_at_call 174;refine (nCovers_nil A p.length c _).mono ?_;rintro e w2 ⟨rfl,rfl⟩)
      simp only [Exit.jump]
      go_ret
      exact ⟨by rw [HR.out.2.1];rfl,F',by have:=HR.out.1;simp only [Tr.path_none,List.append_nil] at this;rw [this];exact HR.out.2.2.1,HR.out.2.2.2.1,HR.out.2.2.2.2⟩
    | some t =>
      have hfo:=hfoot.below HX.out.2.1 (fun b hb => (HV.out.inb [] w F H0.out.2.2.2.2.1 b hb).2)
      have hnt:=(hno t rfl).below hfo (Nat.le_refl _) (Nat.le_refl _)
      have hpt:=HX.out.2.2.1.below' hfo (Nat.le_refl _)
      have hBw:=Nat.le_trans HX.out.2.1 hfo.size
      obtain ⟨kp,hnd⟩:=hnt.2.nd
      have hlen:t.pre.length = k:=hnt.1.len
      obtain ⟨r,hr⟩:∃ r,Tr.covers t p = r:=⟨_,rfl⟩
      have HC:=Lib.hid (nCovers_c hnd (by rw [hlen];exact HX.out.2.2.2.2.1) (by rw [hlen];exact HX.out.2.2.2.2.2.1) A p c hpt (by rw [hlen,HX.out.2.2.2.1]) r (covers_eq hr))
      cases r with
      | false =>
        have HR:=Lib.hid (And.intro hpath (And.intro hstop (And.intro hinv (And.intro hF' (And.intro hfoot hr)))))
        clear hpath hstop hno hinv hF' hfoot hbox hnF H0 hnd hnt hpt hlen hr
        simp only [rootP]
        go_wp2_with (go_at_call 174;refine HC.out.mono ?_;rintro e w2 ⟨rfl,rfl⟩)
        simp only [Exit.jump]
        go_ret
        exact ⟨by rw [HR.out.2.1,(Tr.path_stop t p HR.out.2.2.2.2.2).2];rfl,F',by have:=HR.out.1;rw [(Tr.path_stop t p HR.out.2.2.2.2.2).1,List.append_nil] at this;rw [this];exact HR.out.2.2.1,HR.out.2.2.2.1,HR.out.2.2.2.2.1⟩
      | true =>
        have hps:=Tr.path_step hnt.1 p hr
        have hlt:us.length < M:=by
          have h1:=Tr.pathF_length p 65 o
          have h2:Tr.pathF 65 o p = us ++ t :: Tr.pathT (Tr.kidAt t p) p:=by rw [← hps.1];exact hpath
          rw [h2,List.length_append,List.length_cons] at h1
          have:=HX.out.2.2.2.2.2.2
          omega
        have HF:=Lib.hid (HV.out.call us w' F' t hinv hnt hBw hlt)
        have hsz:=hfoot.size
        have hxlt:w.heap.size < w'.heap.size:=(Array.getElem?_eq_some_iff.1 hbox).1
        have HR:=Lib.hid (And.intro hpath (And.intro hstop (And.intro hinv (And.intro hF' (And.intro hfoot (And.intro hps (And.intro hbox (And.intro hnF (And.intro hfo (And.intro (hno t rfl) hxlt))))))))))
        have q0:w'.cell? ⟨w.heap.size,0,none⟩ = some (.func (.func fid) #[] #[.pointer (some ⟨g,0,none⟩)]):=by rw [cell_of_row w' _ _ _ _ (0,0) hbox];rfl
        clear hpath hstop hno hinv hF' hfoot hbox hnF H0 hnd hpt hlen hr hps hlt hfo hBw hsz hxlt
        simp only [rootP]
        go_wp2_with (go_at_call 174;refine HC.out.mono ?_;rintro e w2 ⟨rfl,rfl⟩)
        refine HF.out.mono ?_
        rintro e w2 ⟨rfl,F2,hi2,hF2,hfo2⟩
        obtain ⟨hpath,hstop,hinv,hF',hfoot,hps,hbox,hnF,hfo,hnw,hxlt⟩:=HR.out
        have hb2:Below B w' w2:=hfo2.below (Nat.le_trans HX.out.2.1 hfo.size) (fun b hb => (HV.out.inb _ _ _ hinv b hb).2)
        have hb2w:=hfo.trans hb2
        have hn2:=hnw.below hb2w (Nat.le_refl _) (Nat.le_refl _)
        have hp2:=HX.out.2.2.1.below' hb2w (Nat.le_refl _)
        have hbox2:w2.heap[w.heap.size]? = some (.cells #[.func (.func fid) #[] #[.pointer (some ⟨g,0,none⟩)]] 142):=(hfo2.block _ hxlt hnF).trans hbox
        have hnF2:¬ F2 w.heap.size:=fun h => by rcases hF2 _ h with h | h;exact hnF h;omega
        have hF2':∀ b,F2 b→F b∨w.heap.size≤b:=fun b hb => by
          rcases hF2 b hb with h | h
          · exact hF' b h
          · exact .inr (Nat.le_trans hfoot.size h)
        have hfoot2:Foot F w w2:=hfoot.trans hfo2 hF'
        have hpath2:Tr.pathT o p = (us ++ [t]) ++ Tr.pathT (Tr.kidAt t p) p:=by rw [hpath,hps.1];simp
        have hstop2:Tr.stopT o p = Tr.stopT (Tr.kidAt t p) p:=by rw [hstop,hps.2]
        have hno2:NodeO w B k (Tr.kidAt t p):=fun s hs => by
          have hm:=Tr.kidAt_mem hs
          cases t with
          | ent q x v => simp [T.ks] at hm
          | br q l pre ks => exact hnw.kid hm
        have hlev2:w2.cell? ⟨t.blk,0,none⟩ = some (.int .i64 (levI t)):=by obtain ⟨kp,h⟩:=hn2.2.nd;exact h.2.2.1
        have hlev:w'.cell? ⟨t.blk,0,none⟩ = some (.int .i64 (levI t)):=by obtain ⟨kp,h⟩:=hnt.2.nd;exact h.2.2.1
        have hlow:∀ s,Tr.kidAt t p = some s→w2.cell? ⟨s.blk,0,none⟩ = some (.int .i64 (levI s))∧s.lv < t.lv:=fun s hs => by
          obtain ⟨kp,h⟩:=((hno2 s hs).below hb2w (Nat.le_refl _) (Nat.le_refl _)).2.nd
          exact ⟨h.2.2.1,(Tr.kidAt_wf hnt.1 hs).2.1⟩
        have HR2:=Lib.hid (And.intro hpath2 (And.intro hstop2 (And.intro hno2 (And.intro hi2 (And.intro hF2' (And.intro hfoot2 (And.intro hbox2 (And.intro hnF2 (And.intro hlev hlow)))))))))
        have hk1:=HX.out.2.2.2.2.1
        have hk16:=HX.out.2.2.2.2.2.1
        have hpl:=HX.out.2.2.2.1
        clear hpath hstop hinv hF' hfoot hps hbox hnF hfo hnw hxlt hb2 hb2w hbox2 hnF2 hF2' hfoot2 hpath2 hstop2 hno2 hlev hlow hlev2 hi2 hF2 hfo2 HR HC HF q0
        cases t with
        | ent q x v =>
          have HL:Hid (NdAt w2 B q (-1) x v none (Tr.s1 v)):=Lib.hid (by cases hn2.2 with | ent _ _ _ h => exact h)
          have HA:=Lib.hid (addr_arg A p.length c (-1) w2 (by omega) (by omega) (by omega))
          have HK:=Lib.hid (nKid_ent HL.out 0)
          clear hn2 hp2 hnt hk1 hk16 hpl
          simp only [T.blk]
          go_wp2_with (first
            | (go_at_call 120;refine (nLevel_c HL.out).mono ?_;rintro e w3 ⟨rfl,rfl⟩)
            | (go_at_call 160;refine HA.out.mono ?_;rintro e w3 ⟨rfl,rfl⟩)
            | (go_at_call 122;refine HK.out.mono ?_;rintro e w3 ⟨rfl,n3,rfl⟩))
          go_step3
          obtain ⟨hpath2,hstop2,hno2,hi2,hF2',hfoot2,hbox2,hnF2,hlev,hlow⟩:=HR2.out
          refine ⟨rfl,⟨us ++ [.ent q x v],none,F2,_,_,_,_,_,_,_,_,_,_,_,_,_,_,_,_,_,_,_,_,_,_,_,rfl,hpath2,hstop2,hno2,HV.out.frame _ w2 (w2.drewN n3) _ hi2 (Nat.le_refl _) (fun _ _ => rfl),hF2',hfoot2.drewN _,hbox2,hnF2⟩,?_⟩
          have hlev':w'.cell? ⟨(T.ent q x v).blk,0,none⟩ = some (.int .i64 (-1)):=hlev
          simp [lvOf,hlev']
        | br q l pre ks =>
          obtain ⟨b,HL,Hat⟩:∃ b,Hid (NdAt w2 B q (l:Int) pre 0 (some ⟨b,0,none⟩) (Tr.sums (Tr.entsL ks)))∧Sn.At w2 B b k (kidL ks):=by cases hn2.2 with | br _ _ _ _ b h ha hk => exact ⟨b,Lib.hid h,ha⟩
          have h63:l≤63:=by cases hnt.1 with | br _ _ _ _ h63 => exact h63
          have HA:=Lib.hid (addr_yes A c p l B w2 hp2 (by omega) (by omega) h63)
          have HK:=Lib.hid (nKid_br HL.out Hat (Z.addr p l:Int) (rootP (Tr.kidAt (.br q l pre ks) p)) (rootP_kid _))
          have hwf:=hnt.1
          clear hn2 hp2 hnt hk1 hk16 hpl Hat h63
          simp only [T.blk]
          go_wp2_with (first
            | (go_at_call 120;refine (nLevel_c HL.out).mono ?_;rintro e w3 ⟨rfl,rfl⟩)
            | (go_at_call 160;refine HA.out.mono ?_;rintro e w3 ⟨rfl,rfl⟩)
            | (go_at_call 122;refine HK.out.mono ?_;rintro e w3 ⟨rfl,n3,rfl⟩))
          go_step3
          obtain ⟨hpath2,hstop2,hno2,hi2,hF2',hfoot2,hbox2,hnF2,hlev,hlow⟩:=HR2.out
          refine ⟨rfl,⟨us ++ [.br q l pre ks],Tr.kidAt (.br q l pre ks) p,F2,_,_,_,_,_,_,_,_,_,_,_,_,_,_,_,_,_,_,_,_,_,_,_,rfl,hpath2,hstop2,hno2,HV.out.frame _ w2 (w2.drewN n3) _ hi2 (Nat.le_refl _) (fun _ _ => rfl),hF2',hfoot2.drewN _,hbox2,hnF2⟩,?_⟩
          have hlev':w'.cell? ⟨(T.br q l pre ks).blk,0,none⟩ = some (.int .i64 (l:Int)):=by
            have:levI (.br q l pre ks) = (l:Int):=by show ((l + 1:Nat):Int) - 1 = l;omega
            rw [← this];exact hlev
          rcases hs:Tr.kidAt (.br q l pre ks) p with _ | s
          · simp [lvOf,rootP,hlev'];omega
          · obtain ⟨h1,h2⟩:=hlow s hs
            have h2':s.lv < l + 1:=h2
            have h3:(w2.drewN n3).cell? ⟨s.blk,0,none⟩ = some (.int .i64 (levI s)):=h1
            simp [lvOf,rootP,hlev',h3,levI]
            omega
/-! ### the last node -/
/-! ### all nodes of a path -/
def ptrV (us:List T):List Value:=us.map ndV
theorem OwnV.block {e:TypeId} {w w':World} {base:Nat} {v:Value} {xs:List Value} (h:OwnV e w base v xs) (hb:∀ q,v.ownBlock = some q→w'.heap[q]? = w.heap[q]?):OwnV e w' base v xs:=by
  refine ⟨h.1,h.2.1,?_⟩
  rcases h.2.2 with h2 | ⟨g,cap,cur,hv,hg,hh,r⟩
  · exact .inl h2
  · exact .inr ⟨g,cap,cur,hv,hg,(hb g (by subst hv;rfl)).trans hh,r⟩
theorem infoN:(Tryz.prog.info? 81).map (fun i => (i.zero,i.size,i.bytes)) = some (some (.pointer none),1,8):=by kernel_rfl
theorem ptrV_length (us:List T):(ptrV us).length = us.length:=by simp [ptrV]
set_option maxRecDepth 100000 in
theorem path1_c (g:Nat) (x:Option Addr) (v:Value) (t:TypeId) (us:List Value) (B:Nat) (w:World) (h:w.heap[g]? = some (.cells #[v] t (0,0))) (ho:OwnV 81 w B v us) (hne:v.ownBlock≠some g) (hB:B≤g) (hl:us.length≤1000000) :
    Calls Tryz.prog 151 #[.pointer x,.pointer (some ⟨g,0,none⟩)] w fun e w' => e = .returned (.tuple #[])∧∃ v',w'.heap[g]? = some (.cells #[v'] t (0,0))∧OwnV 81 w' B v' (us ++ [.pointer x])∧v'.ownBlock≠some g ∧
      (∀ q,v'.ownBlock = some q→v.ownBlock = some q∨w.heap.size≤q)∧Foot (fun b => b = g∨v.ownBlock = some b) w w':=by
  have hgs:g < w.heap.size:=(Array.getElem?_eq_some_iff.1 h).1
  have c0:w.cell? ⟨g,0,none⟩ = some v:=by rw [cell_of_row w g _ _ t (0,0) h];rfl
  have H:=Lib.hid (And.intro h (And.intro ho (And.intro hne (And.intro hB (And.intro hl hgs)))))
  clear h ho hne hB hl hgs
  go_enter Tryz.func151,Tryz.ntmps151
  go_wp2_with (at_builtin;refine wpList_append_sl 144 81 (Value.pointer none) 8 Tryz.underlying144 infoN rfl (by omega) rfl (.tmp 3) (.tmp 5) rfl B v us [.pointer x] (us.length + 1) (by simp) rfl (H.out.2.1.below (below_alloc _ _) (Nat.le_refl _)) _ _ 1 1 rfl rfl (rdV_one _ _ _) (fun y hy => by simp at hy;subst hy;rfl) (by have:=H.out.2.2.2.2.1;omega) (by have:=H.out.2.2.2.1;have:=H.out.2.2.2.2.2;simp;omega) ?_;intro D1 d1 w1 hown1 hgrow1 hat1;have hg1:w1.heap[g]? = some (.cells #[v] t (0,0)):=(hgrow1.block g (by have:=H.out.2.2.2.2.2;simp;omega) (fun e => H.out.2.2.1 e.symm)).trans ((Below.heap_alloc w _ g H.out.2.2.2.2.2).trans H.out.1);have c1:w1.cell? ⟨g,0,none⟩ = some v:=(by rw [cell_of_row w1 g _ _ t (0,0) hg1];rfl);have f1:w1.frozen? ⟨g,0,none⟩ = false:=frozen_of_row w1 g _ _ t hg1)
  go_end0
  have hsz:(w.alloc (.cells #[.pointer x] 81)).heap.size = w.heap.size + 1:=by simp
  generalize hv1e:Value.slice D1 (us.length + 1) d1 = v1 at *
  have hv1:v1.ownBlock≠some g:=by
    rcases hat1 with e | e
    · rw [e];exact H.out.2.2.1
    · rw [e];have:=H.out.2.2.2.2.2;simp;omega
  refine ⟨rfl,v1,by rw [heap_setCell_same w1 g 0 _ t v1 hg1];rfl,ownV_store hown1 hv1 _,hv1,fun q hq => ?_,?_⟩
  · rcases hat1 with e | e
    · exact .inl (by rw [← e];exact hq)
    · rw [e] at hq;simp at hq;exact .inr (by omega)
  · exact ((Foot.of_below (below_alloc w _)).trans (Foot.grown (F:=fun b => v.ownBlock = some b) hgrow1 (fun k hk => hk)) (fun b hb => .inl (.inr hb))).trans (Foot.setCell (F:=fun b => b = g) w1 (a:=⟨g,0,none⟩) rfl v1) (fun b hb => .inl (.inl hb))
def PathInv (B g:Nat) (us:List T) (w:World) (F:Nat→Prop):Prop :=
  ∃ v t,F = (fun b => b = g∨v.ownBlock = some b)∧B≤g∧w.heap[g]? = some (.cells #[v] t (0,0))∧OwnV 81 w B v (ptrV us)∧v.ownBlock≠some g
theorem path_visit (g B k:Nat):Visit 151 g B k 1000000 (PathInv B g) where
  ent:=enters_of Tryz.func151 (by kernel_rfl) rfl
  frame:=by
    rintro us w w' F ⟨v,t,rfl,hB,h,ho,hne⟩ hs hb
    exact ⟨v,t,rfl,hB,(hb g (.inl rfl)).trans h,ho.block fun q hq => hb q (.inr hq),hne⟩
  inb:=by
    rintro us w F ⟨v,t,rfl,hB,h,ho,hne⟩ b hb
    rcases hb with rfl | hb
    · exact ⟨(Array.getElem?_eq_some_iff.1 h).1,hB⟩
    · exact (ho.lt b hb).symm
  call:=by
    rintro us w F t ⟨v,ty,rfl,hB,h,ho,hne⟩ hn hBw hl
    refine (path1_c g _ v ty (ptrV us) B w h ho hne hB (by rw [ptrV_length];omega)).mono ?_
    rintro e w' ⟨rfl,v',h1,h2,h3,h4,h5⟩
    refine ⟨rfl,fun b => b = g∨v'.ownBlock = some b,⟨v',ty,rfl,hB,h1,?_,h3⟩,fun b hb => ?_,h5⟩
    · rw [show ptrV (us ++ [t]) = ptrV us ++ [ndV t] by simp [ptrV]];exact h2
    · rcases hb with rfl | hb
      · exact .inl (.inl rfl)
      · rcases h4 b hb with h | h
        · exact .inl (.inr h)
        · exact .inr h
def Nodes (w:World) (base:Nat) (v:Value) (us:List T):Prop:=OwnV 81 w base v (ptrV us)
theorem Nodes.slice {w:World} {base:Nat} {v:Value} {us:List T} (h:Nodes w base v us):∃ A c,v = .slice A us.length c∧us.length≤c∧RdV w w.heap.size A (ptrV us):=by
  have:=OwnV.rd h
  rw [ptrV_length] at this
  exact this
set_option maxRecDepth 100000 in
theorem path_c {w:World} {B b k:Nat} {o:Option T} (h:TreeAt w B b k o) (hB:B≤w.heap.size) {p:List Nat} {A:Option Addr} {c:Nat} (hp:Pts w B A p) (hl:p.length = k) :
    Calls Tryz.prog 99 #[.pointer (some ⟨b,0,none⟩),.slice A p.length c] w fun e w' =>
      ∃ D d,e = .returned (.tuple #[.slice D (Tr.pathT o p).length d,.pointer (rootP (Tr.stopT o p))])∧Nodes w' w.heap.size (.slice D (Tr.pathT o p).length d) (Tr.pathT o p)∧(Tr.pathT o p).length≤65∧Below w.heap.size w w':=by
  have hlen:=Tr.pathF_length p 65 o
  have hal:=below_alloc w (.cells #[.slice none 0 0] 144)
  have hsz:(w.alloc (.cells #[.slice none 0 0] 144)).heap.size = w.heap.size + 1:=by simp
  have hI:PathInv w.heap.size w.heap.size [] (w.alloc (.cells #[.slice none 0 0] 144)) (fun x => x = w.heap.size∨(Value.slice none 0 0).ownBlock = some x) :=
    ⟨.slice none 0 0,_,rfl,Nat.le_refl _,heap_at w _ _ rfl,ownV_none _ _ _,by simp [Value.ownBlock]⟩
  have HD:=Lib.hid (down_c (path_visit w.heap.size w.heap.size k) hI (h.2.2.2.2.below hal hB hB) (by rw [hsz];omega) ((hp.below' hal hB).keep hB (fun _ _ => rfl)) hl h.2.1 h.2.2.1 (c:=c) (by omega))
  have c1:∀ w',Below w.heap.size w w'→w'.cell? ⟨b,1,none⟩ = some (.pointer (rootP o)):=fun w' hb => (hb.cell (p:=⟨b,1,none⟩) (Nat.lt_of_lt_of_le h.1 hB)).trans h.2.2.2.1.2
  have c1':=c1 _ hal
  have HX:=Lib.hid (And.intro hal (And.intro hsz hlen))
  clear h hB hp hl hI hal hsz hlen c1
  go_enter Tryz.func99,Tryz.ntmps99
  go_wp2_with (go_at_call 125;refine HD.out.mono ?_;rintro e w2 ⟨rfl,F2,hi2,hF2,hfo2⟩;obtain ⟨v,t,hF2e,hBg,hg2,ho2,hne2⟩:=hi2;have q0:w2.cell? ⟨w.heap.size,0,none⟩ = some v:=(by rw [cell_of_row w2 w.heap.size _ _ t (0,0) hg2];rfl);have q1:w2.frozen? ⟨w.heap.size,0,none⟩ = false:=frozen_of_row w2 w.heap.size _ _ t hg2;obtain ⟨D,d,hv,hcap,hrd⟩:=Nodes.slice ho2;subst hv)
  have q2:(w2.setCell ⟨w.heap.size,0,none⟩ (.slice D (Tr.pathT o p).length d)).cell? ⟨w.heap.size,0,none⟩ = some (.slice D (Tr.pathT o p).length d):=World.cell?_setCell_same _ _ _ q0
  refine bodyPost_ret (v:=.tuple #[.slice D (Tr.pathT o p).length d,.pointer (rootP (Tr.stopT o p))]) (by simp [results,Tryz.results99,go_sem,q2]) rfl ?_
  have hb2:Below w.heap.size w w2:=HX.out.1.trans (hfo2.below (B:=w.heap.size) (by rw [HX.out.2.1];omega) (fun q hq => by rcases hq with rfl | hq;exact Nat.le_refl _;simp [Value.ownBlock] at hq))
  exact ⟨D,d,rfl,ownV_store ho2 hne2 _,HX.out.2.2,hb2.setCell (p:=⟨w.heap.size,0,none⟩) (Nat.le_refl _) _⟩
/-! ### cutEntry -/
theorem rd_ptr {w:World} {B:Nat} {A:Option Addr} {us:List T} (h:RdV w B A (ptrV us)) {i:Nat} {t:T} (hi:us[i]? = some t):∃ b off,A = some ⟨b,off,none⟩∧b < B∧w.cell? ⟨b,off + i,none⟩ = some (.pointer (some ⟨t.blk,0,none⟩)) :=
  h.at (v:=.pointer (some ⟨t.blk,0,none⟩)) (by simp [ptrV,hi,ndV])
theorem cutE_nil (A:Option Addr) (c:Nat) (w:World):Calls Tryz.prog 100 #[.slice A 0 c] w fun e w' => e = .returned (.tuple #[.slice A 0 c,.int .u64 0,.bool false])∧w = w':=by
  go_enter Tryz.func100,Tryz.ntmps100
  go_wp2
  go_ret3
  exact ⟨rfl,rfl⟩
set_option maxRecDepth 100000 in
theorem cutE_br {w:World} {B B' k:Nat} {A:Option Addr} {c:Nat} {us:List T} {g l:Nat} {pre:List Nat} {ks:List (Nat × T)} (h:RdV w B A (ptrV (us ++ [.br g l pre ks]))) (hn:Node w B' k (.br g l pre ks)) (hB':B'≤w.heap.size) (hl:us.length≤1000000) :
    Calls Tryz.prog 100 #[.slice A (us.length + 1) c] w fun e w' => e = .returned (.tuple #[.slice A (us.length + 1) c,.int .u64 0,.bool false])∧Below w.heap.size w w':=by
  obtain ⟨b,off,rfl,hb,hc⟩:=rd_ptr h (i:=us.length) (t:=.br g l pre ks) (by simp)
  obtain ⟨q,hnd⟩:∃ q,NdAt w B' g (l:Int) pre 0 (some ⟨q,0,none⟩) (Tr.sums (Tr.entsL ks)):=by cases hn.2 with | br _ _ _ _ q h => exact ⟨q,h⟩
  have HN:=Lib.hid (nEntry_br hnd hB')
  have e1:(((us.length + 1:Nat):Int) == 0) = false:=by rw [beq_eq_false_iff_ne];omega
  have e4:((us.length + 1:Nat):Int) - 1 = (us.length:Int):=by omega
  have m1:(0:Int)≤(us.length:Int):=by omega
  have m2:(us.length:Int) < ((us.length + 1:Nat):Int):=by omega
  have hc':w.cell? ⟨b,off + us.length,none⟩ = some (.pointer (some ⟨g,0,none⟩)):=hc
  clear h hn hnd hc hb
  go_enter Tryz.func100,Tryz.ntmps100
  go_wp2_with (go_at_call 88;refine HN.out.mono ?_;rintro e w2 ⟨rfl,hb2⟩)
  go_ret3
  exact ⟨rfl,hb2.trans ((below_alloc w2 _).mono hb2.size)⟩
set_option maxRecDepth 100000 in
theorem cutE_ent {w:World} {B B' k:Nat} {A:Option Addr} {c:Nat} {us:List T} {g:Nat} {q:List Nat} {v:Nat} (h:RdV w B A (ptrV (us ++ [.ent g q v]))) (hn:Node w B' k (.ent g q v)) (hB':B'≤w.heap.size) (hl:us.length + 1≤1000000) (hcap:us.length + 1≤c) :
    Calls Tryz.prog 100 #[.slice A (us.length + 1) c] w fun e w' => ∃ A',e = .returned (.tuple #[.slice A' us.length c,.int .u64 (v:Int),.bool true])∧RdV w B A' (ptrV us)∧Below w.heap.size w w':=by
  obtain ⟨A',hcut,hrd⟩:=cut_hi 144 81 Tryz.underlying144 infoN A (us.length + 1) c us.length (by omega) hcap
  have hrd2:=hrd w B _ (by simp [ptrV]) h
  rw [show (ptrV (us ++ [.ent g q v])).take us.length = ptrV us by simp [ptrV]] at hrd2
  clear hrd
  obtain ⟨b,off,rfl,hb,hc⟩:=rd_ptr h (i:=us.length) (t:=.ent g q v) (by simp)
  have hnd:NdAt w B' g (-1) q v none (Tr.s1 v):=by cases hn.2 with | ent _ _ _ h => exact h
  have HN:=Lib.hid (nEntry_ent hnd hB' (by intro e;have:=hn.1.len;have:=hn.1.k1;simp [T.pre,e] at *;omega) (by have h1:q.length = k:=hn.1.len;have:=hn.1.k16;omega))
  have e1:(((us.length + 1:Nat):Int) == 0) = false:=by rw [beq_eq_false_iff_ne];omega
  have e4:((us.length + 1:Nat):Int) - 1 = (us.length:Int):=by omega
  have m1:(0:Int)≤(us.length:Int):=by omega
  have m2:(us.length:Int) < ((us.length + 1:Nat):Int):=by omega
  have hc':w.cell? ⟨b,off + us.length,none⟩ = some (.pointer (some ⟨g,0,none⟩)):=hc
  have HR:=Lib.hid hrd2
  clear h hn hnd hc hb hrd2
  go_enter Tryz.func100,Tryz.ntmps100
  go_wp2_with (go_at_call 88;refine HN.out.mono ?_;rintro e w2 ⟨h2,d2,rfl,ho2,hb2⟩)
  have q1:=(cells2 w2 (.slice (some ⟨h2,0,none⟩) q.length d2) (.int .u64 (v:Int)) 57).2.1
  go_quiet (fail)
  go_wp2_with fail
  go_ret3
  exact ⟨A',rfl,HR.out,below_drewN _ (hb2.trans ((below_alloc w2 _).mono hb2.size))⟩
theorem kidAt_node {w:World} {B k:Nat} {t s:T} (h:Node w B k t) {p:List Nat} (hs:Tr.kidAt t p = some s):Node w B k s:=by
  have hm:=Tr.kidAt_mem hs
  cases t with
  | ent q x v => simp [T.ks] at hm
  | br q l pre ks => exact h.kid hm
end Go.Proofs.YtkeepngaaleakaaGreatDoor
namespace Go.Proofs.YtkeepngaaleakaaGreatDoor
open Go.RowKit Go.Shelf
open Tr (T S4 Ent)
attribute [local go_sem] Oper.semAt_some
structure CellKeep (w w':World):Prop where
  cells:∀ p v,w.cell? p = some v→w'.cell? p = some v
  blk:∀ (b:Nat) c ty,w.heap[b]? = some (.cells c ty (0,0))→w'.heap[b]? = some (.cells c ty (0,0))
theorem CellKeep.trb {w w':World} (h:CellKeep w w'):∀ b,TrB w b→TrB w' b:=fun b ⟨c,ty,e⟩ => ⟨c,ty,h.blk b c ty e⟩
instance {w w':World}:CoeFun (CellKeep w w') (fun _ => ∀ p v,w.cell? p = some v→w'.cell? p = some v):=⟨CellKeep.cells⟩
theorem CellKeep.refl (w:World):CellKeep w w:=⟨fun _ _ h => h,fun _ _ _ h => h⟩
theorem CellKeep.trans {a b c:World} (h:CellKeep a b) (k:CellKeep b c):CellKeep a c:=⟨fun p v e => k.cells p v (h.cells p v e),fun x d ty e => k.blk x d ty (h.blk x d ty e)⟩
theorem CellKeep.of_below {w w':World} (h:Below w.heap.size w w'):CellKeep w w':=⟨fun _ _ e => (h.cell (World.block_lt_of_cell? w _ e)).trans e,fun b _ _ e => (h.block b (Array.getElem?_eq_some_iff.1 e).1).trans e⟩
theorem CellKeep.putObj {w:World} {l:Nat} {o o':Obj} (h:w.heap[l]? = some o) (ho:o.isCells = false):CellKeep w (w.putObj l o'):=by
  refine ⟨fun p v e => ?_,fun b d ty e => ?_⟩
  · obtain ⟨x,hx,hc⟩:=cells_of_cell e
    have hne:p.block≠l:=by
      intro c
      rw [c,h] at hx
      cases hx
      rw [ho] at hc
      cases hc
    exact (World.cell?_of_block (w:=w) (World.putObj_heap_other hne)).trans e
  · have hne:b≠l:=by
      intro c
      rw [c,h] at e
      cases e
      cases ho
    exact (World.putObj_heap_other hne).trans e
theorem Pts.keepc {w w':World} {B B':Nat} {A:Option Addr} {us:List Nat} (h:Pts w B A us) (hk:CellKeep w w') (hB:B≤B'):Pts w' B' A us:=by
  refine ⟨h.1,fun hn => ?_⟩
  obtain ⟨b,off,hA,hb,hc⟩:=h.2 hn
  exact ⟨b,off,hA,by omega,fun i u hi => hk _ _ (hc i u hi)⟩
theorem RdV.keepc {w w':World} {B B':Nat} {A:Option Addr} {xs:List Value} (h:RdV w B A xs) (hk:CellKeep w w') (hB:B≤B'):RdV w' B' A xs:=by
  intro hn
  obtain ⟨b,off,hA,hb,hc⟩:=h hn
  exact ⟨b,off,hA,by omega,fun i u hi => hk _ _ (hc i u hi)⟩
theorem RdE.keepc {e:TypeId} {w w':World} {B B':Nat} {A:Option Addr} {xs:List Value} (h:RdE e w B A xs) (hk:CellKeep w w') (hB:B≤B'):RdE e w' B' A xs :=
  ⟨h.rd.keepc hk hB,fun hn ad hA => by
    obtain ⟨c,hc⟩:=h.ty hn ad hA
    exact ⟨c,hk.blk _ _ _ hc⟩⟩
theorem at_keepc {w w':World} {B B' b k:Nat} {L:Sn.Al} (h:Sn.At w B b k L) (hk:CellKeep w w') (hB:B≤B'):Sn.At w' B' b k L:=by
  refine ⟨h.1,?_⟩
  have h2:=h.2
  generalize Sl.dense k L = d at h2 ⊢
  cases d
  · obtain ⟨h0,A,c,D,c',h1,h2,h3,h4,h5,h6,h7,h8⟩:=h2
    exact ⟨by omega,A,c,D,c',hk _ _ h1,hk _ _ h2,hk _ _ h3,hk _ _ h4,h5,h6,h7.keepc hk hB,h8.keepc hk hB⟩
  · obtain ⟨h0,hkk,hL,P,D,c',h1,h2,h3,h4,h5,h6,h7⟩:=h2
    exact ⟨by omega,hkk,hL,P,D,c',hk _ _ h1,hk _ _ h2,hk _ _ h3,hk _ _ h4,h5,h6,h7.keepc hk hB⟩
theorem NdAt.keepc {w w':World} {B B' g:Nat} {lev:Int} {pre:List Nat} {v:Nat} {kp:Option Addr} {s:S4} (h:NdAt w B g lev pre v kp s) (hk:CellKeep w w') (hB:B≤B'):NdAt w' B' g lev pre v kp s:=by
  obtain ⟨h0,⟨A,c,hp,h1⟩,h2,h3,h4,h5,h6,h7,h8⟩:=h
  exact ⟨by omega,⟨A,c,hp.keepc hk hB,hk _ _ h1⟩,hk _ _ h2,hk _ _ h3,hk _ _ h4,hk _ _ h5,hk _ _ h6,hk _ _ h7,hk _ _ h8⟩
theorem Mem.keepc {w w':World} {B B' k:Nat} {t:T} (h:Mem w B k t) (hk:CellKeep w w') (hB:B≤B'):Mem w' B' k t:=by
  induction h with
  | ent g p v h hw => exact .ent g p v (h.keepc hk hB) (hk.trb _ hw)
  | br g l pre ks b h ha hkk hw ih => exact .br g l pre ks b (h.keepc hk hB) (at_keepc ha hk hB) ih (hk.trb _ hw)
theorem Node.keepc {w w':World} {B B' k:Nat} {t:T} (h:Node w B k t) (hk:CellKeep w w') (hB:B≤B'):Node w' B' k t:=⟨h.1,h.2.keepc hk hB⟩
theorem NodeO.keepc {w w':World} {B B' k:Nat} {o:Option T} (h:NodeO w B k o) (hk:CellKeep w w') (hB:B≤B'):NodeO w' B' k o:=fun t e => (h t e).keepc hk hB
theorem one_round {F:Fence} {m:Nat} {P:Program} {L:Nat} {r:Loop} {args:Array Value} {W:World} {a1:Act} {R:Ending→World→Prop} (hF:F.fn r.fn)
    (hl:W.heap[L]? = some (.loop r)) (hr:r.state = .ready) (hs:args.size = r.params.size)
    (hassign:∀ K:Act→World→Prop,K a1 W→r.assign.wpIn (F.inRound L) m P (Exit.then K (fun _ _ _ => False)) { tmps:=(r.params.zip args).foldl (fun t (p,v) => t.setIfInBounds p v) r.tmps,defers:=[] } W)
    (hbody:r.body.wpIn (F.inRound L) m P (fun e _ W3 => match e with
      | .normal => W3.heap[L]? = some (.loop { r with state:=.busy })∧R (.returned (.bool true)) (W3.putObj L (.loop { r with state:=.ready,pending:=none }))
      | .ret => W3.heap[L]? = some (.loop { r with state:=.busy })∧R (.returned (.bool false)) (W3.putObj L (.loop { r with state:=.done,pending:=some .ret }))
      | _ => False) a1 (W.putObj L (.loop { r with state:=.busy }))) :
    YieldAt F m P L args W R:=by
  refine ⟨r.fn,_,r.assign,r.body,run_yield hl hs,roundIn_of_wpIn hF (hassign _ ⟨_,run_beginRound hl hr,wpIn_mono hbody ?_⟩)⟩
  intro e a3 W3 h
  cases e with
  | normal => exact ⟨_,_,run_endRound none h.1,h.2⟩
  | ret => exact ⟨_,_,run_endRound (some .ret) h.1,h.2⟩
  | exit id => exact h.elim
  | goto t => exact h.elim
  | panic ch => exact h.elim
  | outgrown => exact h.elim
def recOf (fn:FuncId) (a:Act) (ps:Array Tmp) (assign body:Code) (w:World):Loop :=
  { state:=.ready,pending:=none,fn,tmps:=a.tmps,params:=ps,assign,body,defers:=w.heap.size }
def rangeWorld (w:World) (r:Loop):World:=(w.alloc (.deferred (some []))).alloc (.loop r)
def marked (a:Act) (w:World):Act:={ tmps:=a.tmps,defers:=({ target:=Target.collected w.heap.size,args:=#[] }:Deferred) :: a.defers }
def yielder (L:Nat) (lb:Array Value):Array Value:=#[Value.func (Fn.yield L) #[] #[]] ++ lb
theorem range_at {F:Fence} {n:Nat} {P:Program} {g:Operand} {ps:Array Tmp} {assign body:Code} {Q:Exit→Act→World→Prop} {a:Act} {w:World}
    (hro:F.round = none) (h1:1≤n) {gf:Nat} {lb:Array Value} (hg:a.eval g = .func (.func gf) #[] lb) (hFg:F.fn gf) (eg:∀ args w,(callFunc gf args).run P w = .ok (.enter gf args) w)
    (h:∀ fn,F.fn fn→CallsIn F (n - 1) P gf (yielder (w.heap.size + 1) lb) (rangeWorld w (recOf fn a ps assign body w))
      (rangePost F n P (w.heap.size + 1) Q (marked a w))) :
    (Code.rangeFunc g ps assign body).wpIn F n P Q a w:=by
  refine wpIn_rangeFunc fun fn hfn => ?_
  rw [hro]
  refine ⟨w.heap.size + 1,[{ target:=.collected w.heap.size,args:=#[] }],rangeWorld w (recOf fn a ps assign body w),{ target:=.fn (.func gf) lb,args:=#[.func (.yield (w.heap.size + 1)) #[] #[]] },rangeWorld w (recOf fn a ps assign body w),gf,
    yielder (w.heap.size + 1) lb,rangeWorld w (recOf fn a ps assign body w),?_,?_,?_,?_,fun _ => h1,h fn hfn⟩
  · exact run_enterLoop_outer _ _ _ _ _
  · simp only [resolve,hg]
    simp [go_sem]
  · intro f' hf'
    simp [Target.leads] at hf'
    subst hf'
    exact hFg
  · unfold yielder
    simp [invoke,go_sem,eg]
theorem body_eq {F:Fence} {n:Nat} {P:Program} {c d:Code} {Q:Exit→Act→World→Prop} {a:Act} {w:World} (h:c = d) (k:c.wpIn F n P Q a w):d.wpIn F n P Q a w:=h ▸ k
end Go.Proofs.YtkeepngaaleakaaGreatDoor
