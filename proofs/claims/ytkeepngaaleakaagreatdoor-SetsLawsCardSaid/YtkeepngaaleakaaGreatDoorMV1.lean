import Derived.Test.YtkeepngaaleakaaGreatDoorM90
namespace Go.Proofs.YtkeepngaaleakaaGreatDoor
open Tr (T S4 Ent)
namespace Tr
open Go.Proofs.YtkeepngaaleakaaGreatDoor.Z
/-! ### three lists,point by point -/
section
variable {X:Type}
def XS (L:List (List Nat × X)):Prop:=L.Pairwise fun a b => key a.1 < key b.1
theorem XS.ext:∀ {L M:List (List Nat × X)},XS L→XS M→(∀ e,e∈L↔e∈M)→L = M
  | [],[],_,_,_ => rfl
  | [],b :: M,_,_,h => by have:=(h b).2 List.mem_cons_self;cases this
  | a :: L,[],_,_,h => by have:=(h a).1 List.mem_cons_self;cases this
  | a :: L,b :: M,hL,hM,h => by
    obtain ⟨l1,l2⟩:=List.pairwise_cons.1 hL
    obtain ⟨m1,m2⟩:=List.pairwise_cons.1 hM
    have hab:a = b:=by
      rcases List.mem_cons.1 ((h a).1 List.mem_cons_self) with e | e
      · exact e
      · rcases List.mem_cons.1 ((h b).2 List.mem_cons_self) with f | f
        · exact f.symm
        · have:=l1 b f;have:=m1 a e;omega
    subst hab
    congr 1
    refine XS.ext l2 m2 fun e => ⟨fun he => ?_,fun he => ?_⟩
    · rcases List.mem_cons.1 ((h e).1 (List.mem_cons_of_mem _ he)) with f | f
      · rw [f] at he;have:=l1 a he;omega
      · exact f
    · rcases List.mem_cons.1 ((h e).2 (List.mem_cons_of_mem _ he)) with f | f
      · rw [f] at he;have:=m1 a he;omega
      · exact f
abbrev Pt (X:Type):=Option Nat→Option Nat→Option Nat→Option X
def ppAt (g:Pt X) (O A B:List Ent) (p:List Nat):Option (List Nat × X):=(g (getE O p) (getE A p) (getE B p)).map fun x => (p,x)
def ppL (g:Pt X) (O A B:List Ent):List (List Nat × X):=(ptsU (ptsU O A) B).filterMap fun e => ppAt g O A B e.1
theorem xs_filterMap {g:Pt X} {O A B:List Ent}:∀ {U:List Ent},ZS U→XS (U.filterMap fun e => ppAt g O A B e.1)
  | [],_ => List.Pairwise.nil
  | e :: U,h => by
    obtain ⟨h1,h2⟩:=List.pairwise_cons.1 h
    have ih:=xs_filterMap (g:=g) (O:=O) (A:=A) (B:=B) h2
    have hf:∀ {p:List Nat} {c:List Nat × X},ppAt g O A B p = some c→c.1 = p:=fun {p c} h => by
      obtain ⟨x,-,rfl⟩:=Option.map_eq_some_iff.1 h
      rfl
    rw [List.filterMap_cons]
    split
    · exact ih
    · rename_i c hc
      refine List.pairwise_cons.2 ⟨fun d hd => ?_,ih⟩
      obtain ⟨f,hfm,hfd⟩:=List.mem_filterMap.1 hd
      rw [hf hc,hf hfd]
      exact h1 f hfm
variable {k:Nat} {g:Pt X} {O A B:List Ent}
theorem pts3 (zO:ZS O) (dO:Dim k O) (dA:Dim k A) (dB:Dim k B):ZS (ptsU (ptsU O A) B)∧Dim k (ptsU (ptsU O A) B)∧(ptsU (ptsU O A) B).length≤O.length + A.length + B.length∧∀ p,(∃ v,(p,v)∈ptsU (ptsU O A) B)↔((∃ v,(p,v)∈O)∨∃ v,(p,v)∈A)∨∃ v,(p,v)∈B:=by
  obtain ⟨a1,a2,a3,a4⟩:=ptsU_zs (k:=k) zO dO dA
  obtain ⟨b1,b2,b3,b4⟩:=ptsU_zs (k:=k) (M:=B) a1 a2 dB
  exact ⟨b1,b2,by omega,fun p => by rw [b4 p,a4 p]⟩
theorem ppL_xs (zO:ZS O) (dO:Dim k O) (dA:Dim k A) (dB:Dim k B):XS (ppL g O A B):=xs_filterMap (pts3 zO dO dA dB).1
theorem ppL_len (zO:ZS O) (dO:Dim k O) (dA:Dim k A) (dB:Dim k B):(ppL g O A B).length≤O.length + A.length + B.length:=Nat.le_trans (List.length_filterMap_le _ _) (pts3 zO dO dA dB).2.2.1
theorem mem_ppL (hg:g none none none = none) (zO:ZS O) (zA:ZS A) (zB:ZS B) (dO:Dim k O) (dA:Dim k A) (dB:Dim k B) {c:List Nat × X} :
    c∈ppL g O A B↔(c.1.length = k∧Ok c.1)∧g (getE O c.1) (getE A c.1) (getE B c.1) = some c.2:=by
  obtain ⟨-,hd,-,hp⟩:=pts3 zO dO dA dB
  unfold ppL
  rw [List.mem_filterMap]
  constructor
  · rintro ⟨e,he,hc⟩
    obtain ⟨x,hx,rfl⟩:=Option.map_eq_some_iff.1 hc
    exact ⟨⟨(hd e he).1,(hd e he).2.1⟩,hx⟩
  · rintro ⟨⟨h1,h2⟩,h3⟩
    obtain ⟨p,x⟩:=c
    simp only at h1 h2 h3
    have hex:((∃ v,(p,v)∈O)∨∃ v,(p,v)∈A)∨∃ v,(p,v)∈B:=by
      cases eO:getE O p with
      | some v => exact .inl (.inl ⟨v,(getE_iff zO dO h1 h2).1 eO⟩)
      | none =>
        cases eA:getE A p with
        | some v => exact .inl (.inr ⟨v,(getE_iff zA dA h1 h2).1 eA⟩)
        | none =>
          cases eB:getE B p with
          | some v => exact .inr ⟨v,(getE_iff zB dB h1 h2).1 eB⟩
          | none => rw [eO,eA,eB,hg] at h3;cases h3
    obtain ⟨u,hu⟩:=(hp p).2 hex
    exact ⟨(p,u),hu,by unfold ppAt;rw [h3];rfl⟩
theorem ppL_uniq (hg:g none none none = none) (zO:ZS O) (zA:ZS A) (zB:ZS B) (dO:Dim k O) (dA:Dim k A) (dB:Dim k B) {L:List (List Nat × X)} (hL:XS L) (h:∀ c,c∈L↔(c.1.length = k∧Ok c.1)∧g (getE O c.1) (getE A c.1) (getE B c.1) = some c.2):L = ppL g O A B :=
  XS.ext hL (ppL_xs zO dO dA dB) fun c => (h c).trans (mem_ppL hg zO zA zB dO dA dB).symm
end
/-! ### kids of three nodes,side by side -/
structure Tri where
  o:Option T
  a:Option T
  b:Option T
def Tri.none:Tri:=⟨.none,.none,.none⟩
def Tri.any (t:Tri):Bool:=t.o.isSome || t.a.isSome || t.b.isSome
abbrev KL:=List (Nat × T)
def triAt (Lo La Lb:KL) (a:Nat):Tri:=⟨Sl.get Lo (a:Int),Sl.get La (a:Int),Sl.get Lb (a:Int)⟩
def rem3 (Lo La Lb:KL) (n:Nat):List (Nat × Tri):=(List.range' n (65536 - n)).filterMap fun a => if (triAt Lo La Lb a).any = true then some (a,triAt Lo La Lb a) else none
section
variable {Lo La Lb:KL}
theorem mem_rem3 {n:Nat} {q:Nat × Tri}:q∈rem3 Lo La Lb n↔n≤q.1∧q.1 < 65536∧q.2 = triAt Lo La Lb q.1∧q.2.any = true:=by
  unfold rem3
  rw [List.mem_filterMap]
  constructor
  · rintro ⟨a,ha,h⟩
    rw [List.mem_range'_1] at ha
    split at h
    · rename_i c
      have h':=Option.some.inj h
      subst h'
      exact ⟨ha.1,by simp only;omega,rfl,c⟩
    · cases h
  · rintro ⟨h1,h2,h3,h4⟩
    refine ⟨q.1,by rw [List.mem_range'_1];omega,?_⟩
    rw [← h3,if_pos h4]
theorem rem3_nil {n:Nat} (h:∀ a,n≤a→a < 65536→(triAt Lo La Lb a).any = false):rem3 Lo La Lb n = []:=by
  refine List.eq_nil_iff_forall_not_mem.2 fun q hq => ?_
  obtain ⟨h1,h2,h3,h4⟩:=mem_rem3.1 hq
  rw [h3,h q.1 h1 h2] at h4
  cases h4
theorem rem3_cons {n i:Nat} (hn:n≤i) (hi:i < 65536) (h:∀ a,n≤a→a < i→(triAt Lo La Lb a).any = false) (ha:(triAt Lo La Lb i).any = true):rem3 Lo La Lb n = (i,triAt Lo La Lb i) :: rem3 Lo La Lb (i + 1):=by
  unfold rem3
  have e:List.range' n (65536 - n) = List.range' n (i - n) ++ i :: List.range' (i + 1) (65536 - (i + 1)):=by
    have h1:List.range' n (65536 - n) = List.range' n (i - n) ++ List.range' (n + (i - n)) (65536 - n - (i - n)):=by
      rw [List.range'_append_1]
      congr 1
      omega
    rw [h1,show n + (i - n) = i by omega,show 65536 - n - (i - n) = (65536 - (i + 1)) + 1 by omega,List.range'_succ]
  rw [e,List.filterMap_append]
  have h0:(List.range' n (i - n)).filterMap (fun a => if (triAt Lo La Lb a).any = true then some (a,triAt Lo La Lb a) else Option.none) = []:=by
    refine List.filterMap_eq_nil_iff.2 fun a hm => ?_
    rw [List.mem_range'_1] at hm
    rw [h a hm.1 (by omega)]
    simp
  rw [h0,List.nil_append,List.filterMap_cons,if_pos ha]
theorem rem3_sorted (n:Nat):(rem3 Lo La Lb n).Pairwise fun p q => p.1 < q.1:=by
  unfold rem3
  rw [List.pairwise_filterMap]
  refine (List.pairwise_lt_range' (s:=n) (n:=65536 - n)).imp fun {a b} hab x hx y hy => ?_
  split at hx
  · split at hy
    · have hx':=Option.some.inj hx
      have hy':=Option.some.inj hy
      subst hx'
      subst hy'
      exact hab
    · cases hy
  · cases hx
end
theorem hd_get {L:KL} (hs:Sl.Srt L) (h5:∀ x∈L,x.1 < 65536) (n:Nat) (hn:n≤65536):n≤hdA (dropF L n)∧hdA (dropF L n)≤65536∧(∀ a,n≤a→a < hdA (dropF L n)→Sl.get L (a:Int) = none)∧(hdA (dropF L n) < 65536→Sl.get L ((hdA (dropF L n):Nat):Int) = hdT (dropF L n)∧∃ t,hdT (dropF L n) = some t∧dropF L n = (hdA (dropF L n),t) :: dropF L (hdA (dropF L n) + 1))∧(hdA (dropF L n) = 65536→hdT (dropF L n) = none∧dropF L n = []):=by
  cases hd:dropF L n with
  | nil =>
    refine ⟨hn,Nat.le_refl _,fun a h1 _ => ?_,fun h => absurd h (by simp [hdA]),fun _ => ⟨rfl,rfl⟩⟩
    cases hg:Sl.get L (a:Int) with
    | none => rfl
    | some t =>
      have hm:=(Sl.get_iff hs).1 hg
      obtain ⟨i,hi⟩:=List.getElem?_of_mem hm
      have hh:=dropF_head L n
      rw [hd] at hh
      rcases Nat.lt_or_ge i (Sl.idx L (n:Int)) with c | c
      · have:=Sl.idx_below L n i _ c hi
        simp only at this
        omega
      · have h2:(dropF L n)[i - Sl.idx L (n:Int)]? = some (a,t):=by
          unfold dropF
          rw [List.getElem?_drop,show Sl.idx L (n:Int) + (i - Sl.idx L (n:Int)) = i by omega]
          exact hi
        rw [hd] at h2
        simp at h2
  | cons x xs =>
    have hx:=dropF_at hd
    have hxm:x∈L:=dropF_mem (by rw [hd];exact List.mem_cons_self)
    have h1:=dropF_ge hd
    have h2:=h5 x hxm
    have hst:=dropF_step hs hd
    refine ⟨h1,by simp only [hdA];omega,fun a ha hlt => ?_,fun _ => ⟨Sl.get_of_mem hs hxm,x.2,rfl,by simp only [hdA];rw [hst]⟩,fun h => ?_⟩
    · simp only [hdA] at hlt
      cases hg:Sl.get L (a:Int) with
      | none => rfl
      | some t =>
        have hm:=(Sl.get_iff hs).1 hg
        obtain ⟨i,hi⟩:=List.getElem?_of_mem hm
        rcases Nat.lt_or_ge i (Sl.idx L (n:Int)) with c | c
        · have:=Sl.idx_below L n i _ c hi
          simp only at this
          omega
        · rcases Nat.lt_or_ge (Sl.idx L (n:Int)) i with d | d
          · have:=Sl.srt_get hs hx hi d
            simp only at this
            omega
          · have e:i = Sl.idx L (n:Int):=by omega
            rw [e,hx] at hi
            have:=Option.some.inj hi
            rw [this] at hlt
            simp at hlt
    · simp only [hdA] at h
      omega
theorem rem3_step {Lo La Lb:KL} (so:Sl.Srt Lo) (sa:Sl.Srt La) (sb:Sl.Srt Lb) (lo:∀ x∈Lo,x.1 < 65536) (la:∀ x∈La,x.1 < 65536) (lb:∀ x∈Lb,x.1 < 65536) (n:Nat) (hn:n≤65536) {i:Nat}
    (hi:min (min (hdA (dropF Lo n)) (hdA (dropF La n))) (hdA (dropF Lb n)) = i) :
    (i = 65536∧rem3 Lo La Lb n = [])∨(i < 65536∧n≤i∧rem3 Lo La Lb n = (i,⟨if hdA (dropF Lo n) = i then hdT (dropF Lo n) else none,if hdA (dropF La n) = i then hdT (dropF La n) else none,if hdA (dropF Lb n) = i then hdT (dropF Lb n) else none⟩) :: rem3 Lo La Lb (i + 1)):=by
  obtain ⟨o1,o2,o3,o4,o5⟩:=hd_get so lo n hn
  obtain ⟨a1,a2,a3,a4,a5⟩:=hd_get sa la n hn
  obtain ⟨b1,b2,b3,b4,b5⟩:=hd_get sb lb n hn
  have hno:∀ a,n≤a→a < i→(triAt Lo La Lb a).any = false:=fun a h1 h2 => by
    simp only [triAt,Tri.any,o3 a h1 (by omega),a3 a h1 (by omega),b3 a h1 (by omega)]
    rfl
  rcases Nat.lt_or_ge i 65536 with c | c
  · right
    have key:∀ {L:KL},(∀ a,n≤a→a < hdA (dropF L n)→Sl.get L (a:Int) = none)→(hdA (dropF L n) < 65536→Sl.get L ((hdA (dropF L n):Nat):Int) = hdT (dropF L n)∧∃ t,hdT (dropF L n) = some t∧dropF L n = (hdA (dropF L n),t) :: dropF L (hdA (dropF L n) + 1))→i≤hdA (dropF L n)→n≤i→Sl.get L (i:Int) = if hdA (dropF L n) = i then hdT (dropF L n) else none:=fun {L} h3 h4 hle hni => by
      by_cases e:hdA (dropF L n) = i
      · rw [if_pos e]
        rw [← e]
        exact (h4 (by omega)).1
      · rw [if_neg e]
        exact h3 i hni (by omega)
    have hni:n≤i:=by omega
    have ht:triAt Lo La Lb i = ⟨if hdA (dropF Lo n) = i then hdT (dropF Lo n) else none,if hdA (dropF La n) = i then hdT (dropF La n) else none,if hdA (dropF Lb n) = i then hdT (dropF Lb n) else none⟩:=by
      unfold triAt
      rw [key o3 o4 (by omega) hni,key a3 a4 (by omega) hni,key b3 b4 (by omega) hni]
    refine ⟨c,hni,?_⟩
    rw [← ht]
    refine rem3_cons hni c hno ?_
    rw [ht]
    have hor:hdA (dropF Lo n) = i∨hdA (dropF La n) = i∨hdA (dropF Lb n) = i:=by omega
    rcases hor with e | e | e
    · obtain ⟨-,t,h,-⟩:=o4 (by omega)
      simp [Tri.any,e,h]
    · obtain ⟨-,t,h,-⟩:=a4 (by omega)
      simp [Tri.any,e,h]
    · obtain ⟨-,t,h,-⟩:=b4 (by omega)
      simp [Tri.any,e,h]
  · left
    have e:i = 65536:=by omega
    exact ⟨e,rem3_nil fun a h1 h2 => hno a h1 (by omega)⟩
/-! ### how much there is to be done -/
def allT (t:Tri):Nat:=(allO t.o).length + (allO t.a).length + (allO t.b).length
def wgt3 (t:Tri):Nat:=max 1 (2 * allT t - 1)
theorem wgt3_pos (t:Tri):1≤wgt3 t:=by unfold wgt3;omega
def w3M (qs:List (Nat × Tri)):Nat:=(qs.map fun q => wgt3 q.2).sum
theorem w3M_cons (q:Nat × Tri) (qs:List (Nat × Tri)):w3M (q :: qs) = wgt3 q.2 + w3M qs:=by simp [w3M]
theorem rem3_wgt {Lo La Lb:KL} (so:Sl.Srt Lo) (sa:Sl.Srt La) (sb:Sl.Srt Lb) (lo:∀ x∈Lo,x.1 < 65536) (la:∀ x∈La,x.1 < 65536) (lb:∀ x∈Lb,x.1 < 65536):∀ (m n:Nat),65536 - n≤m→n≤65536 →
    w3M (rem3 Lo La Lb n) + (rem3 Lo La Lb n).length = 2 * ((allK (dropF Lo n)).length + (allK (dropF La n)).length + (allK (dropF Lb n)).length):=by
  intro m
  induction m with
  | zero =>
    intro n hm hn
    have e:n = 65536:=by omega
    subst e
    obtain ⟨o1,o2,-,-,o5⟩:=hd_get so lo 65536 hn
    obtain ⟨a1,a2,-,-,a5⟩:=hd_get sa la 65536 hn
    obtain ⟨b1,b2,-,-,b5⟩:=hd_get sb lb 65536 hn
    rw [rem3_nil fun a h1 h2 => by omega,(o5 (by omega)).2,(a5 (by omega)).2,(b5 (by omega)).2]
    simp [w3M,allK]
  | succ m ih =>
    intro n hm hn
    obtain ⟨i,hi⟩:∃ i,min (min (hdA (dropF Lo n)) (hdA (dropF La n))) (hdA (dropF Lb n)) = i:=⟨_,rfl⟩
    have key:∀ {L:KL},Sl.Srt L→(∀ x∈L,x.1 < 65536)→i≤hdA (dropF L n)→i < 65536→n≤i→(allK (dropF L n)).length = (allO (if hdA (dropF L n) = i then hdT (dropF L n) else none)).length + (allK (dropF L (i + 1))).length:=fun {L} hs h5 hle hi hni => by
      obtain ⟨l1,l2,l3,l4,l5⟩:=hd_get hs h5 n hn
      by_cases e:hdA (dropF L n) = i
      · rw [if_pos e]
        obtain ⟨-,t,ht,hd⟩:=l4 (by omega)
        rw [ht]
        conv => lhs;rw [hd]
        rw [allK_cons,List.length_append,e]
        rfl
      · rw [if_neg e]
        rw [dropF_skip hs (n:=n) (m:=i + 1) (by omega) fun x xs h => by
          have:hdA (dropF L n) = x.1:=by rw [h];rfl
          omega]
        simp [allO]
    rcases rem3_step so sa sb lo la lb n hn hi with ⟨c,h⟩ | ⟨c,hni,h⟩
    · obtain ⟨o1,o2,-,-,o5⟩:=hd_get so lo n hn
      obtain ⟨a1,a2,-,-,a5⟩:=hd_get sa la n hn
      obtain ⟨b1,b2,-,-,b5⟩:=hd_get sb lb n hn
      rw [h,(o5 (by omega)).2,(a5 (by omega)).2,(b5 (by omega)).2]
      simp [w3M,allK]
    · have hany':∀ q r,rem3 Lo La Lb n = q :: r→q.2.any = true:=fun q r e => (mem_rem3.1 (by rw [e];exact List.mem_cons_self)).2.2.2
      have hany:=hany' _ _ h
      clear hany'
      have e1:=ih (i + 1) (by omega) (by omega)
      have k1:=key so lo (by omega) c hni
      have k2:=key sa la (by omega) c hni
      have k3:=key sb lb (by omega) c hni
      rw [h,w3M_cons,List.length_cons]
      simp only at hany ⊢
      generalize (if hdA (dropF Lo n) = i then hdT (dropF Lo n) else none) = x at *
      generalize (if hdA (dropF La n) = i then hdT (dropF La n) else none) = y at *
      generalize (if hdA (dropF Lb n) = i then hdT (dropF Lb n) else none) = z at *
      have hp:1≤(allO x).length + (allO y).length + (allO z).length:=by
        have hpos:∀ u:Option T,u.isSome = true→1≤(allO u).length:=fun u hu => by
          cases u with
          | none => cases hu
          | some t => exact all_pos t
        simp only [Tri.any,Bool.or_eq_true] at hany
        rcases hany with (e | e) | e
        · have:=hpos _ e;omega
        · have:=hpos _ e;omega
        · have:=hpos _ e;omega
      simp only [wgt3,allT]
      omega
/-! ### places and points -/
section
variable {X:Type} {g:Pt X} {k l:Nat} {c0:List Nat} {Lo La Lb:KL}
def ppT (g:Pt X) (t:Tri):List (List Nat × X):=ppL g (entsO t.o) (entsO t.a) (entsO t.b)
def ppM (g:Pt X) (qs:List (Nat × Tri)):List (List Nat × X):=qs.flatMap fun q => ppT g q.2
theorem ppM_cons (q:Nat × Tri) (qs:List (Nat × Tri)):ppM g (q :: qs) = ppT g q.2 ++ ppM g qs:=by simp [ppM]
theorem FitL.lt5 {L:KL} (h:FitL k l c0 L):∀ x∈L,x.1 < 65536:=fun x hm => by
  obtain ⟨w,-,-,ha⟩:=h.2 x hm
  have h1:=addr_bound x.2.pre l
  rw [ha,w.len] at h1
  exact Nat.lt_of_lt_of_le h1 (Nat.pow_le_pow_right (n:=2) (by omega) w.k16)
theorem fit_get {L:KL} (h:FitL k l c0 L) {a:Nat} {t:T} (hg:Sl.get L (a:Int) = some t):Wf k t∧t.lv≤l∧cut t.pre (l + 1) = c0∧addr t.pre l = a:=h.2 _ ((Sl.get_iff h.1).1 hg)
theorem entsO_get {L:KL} (h:FitL k l c0 L) (a:Nat):ZS (entsO (Sl.get L (a:Int)))∧Dim k (entsO (Sl.get L (a:Int))):=by
  cases hg:Sl.get L (a:Int) with
  | none => exact ⟨ZS.nil,dim_nil k⟩
  | some t => exact ⟨(fit_get h hg).1.zs,(fit_get h hg).1.dim⟩
theorem ents_get {L:KL} (h:FitL k l c0 L) {a:Nat} {e:Ent} (he:e∈entsO (Sl.get L (a:Int))):addr e.1 l = a∧cut e.1 (l + 1) = c0:=by
  cases hg:Sl.get L (a:Int) with
  | none => rw [hg] at he;cases he
  | some t =>
    rw [hg] at he
    have:=h.ent ((Sl.get_iff h.1).1 hg) he
    exact ⟨this.1,this.2.1⟩
theorem getE_kid {L:KL} (hl:l < 64) (h:FitL k l c0 L) {p:List Nat} (hp:p.length = k) (ho:Ok p):getE (entsO (Sl.get L ((addr p l:Nat):Int))) p = getE (entsL L) p:=by
  obtain ⟨z,d⟩:=fit_zd hl h
  obtain ⟨z',d'⟩:=entsO_get h (addr p l)
  refine Option.ext fun v => ?_
  rw [getE_iff z' d' hp ho,getE_iff z d hp ho,mem_entsL]
  constructor
  · intro he
    cases hg:Sl.get L ((addr p l:Nat):Int) with
    | none => rw [hg] at he;cases he
    | some t => rw [hg] at he;exact ⟨_,(Sl.get_iff h.1).1 hg,he⟩
  · rintro ⟨x,hx,he⟩
    have:=(h.ent hx he).1
    rw [this,Sl.get_of_mem h.1 hx]
    exact he
theorem ppT_in (hg:g none none none = none) (ho:FitL k l c0 Lo) (ha:FitL k l c0 La) (hb:FitL k l c0 Lb) {a:Nat} {c:List Nat × X} (hc:c∈ppT g (triAt Lo La Lb a)):(c.1.length = k∧Ok c.1)∧addr c.1 l = a∧cut c.1 (l + 1) = c0:=by
  obtain ⟨zo,do'⟩:=entsO_get ho a
  obtain ⟨za,da⟩:=entsO_get ha a
  obtain ⟨zb,db⟩:=entsO_get hb a
  obtain ⟨h1,h2⟩:=(mem_ppL hg zo za zb do' da db).1 hc
  refine ⟨h1,?_⟩
  cases eo:getE (entsO (triAt Lo La Lb a).o) c.1 with
  | some v => exact ents_get ho ((getE_iff zo do' h1.1 h1.2).1 eo)
  | none =>
    cases ea:getE (entsO (triAt Lo La Lb a).a) c.1 with
    | some v => exact ents_get ha ((getE_iff za da h1.1 h1.2).1 ea)
    | none =>
      cases eb:getE (entsO (triAt Lo La Lb a).b) c.1 with
      | some v => exact ents_get hb ((getE_iff zb db h1.1 h1.2).1 eb)
      | none =>
        simp only [triAt] at eo ea eb
        rw [eo,ea,eb,hg] at h2
        cases h2
theorem ppM_rem (hl:l < 64) (hg:g none none none = none) (ho:FitL k l c0 Lo) (ha:FitL k l c0 La) (hb:FitL k l c0 Lb):ppM g (rem3 Lo La Lb 0) = ppL g (entsL Lo) (entsL La) (entsL Lb):=by
  obtain ⟨zo,do'⟩:=fit_zd hl ho
  obtain ⟨za,da⟩:=fit_zd hl ha
  obtain ⟨zb,db⟩:=fit_zd hl hb
  refine ppL_uniq hg zo za zb do' da db ?_ fun c => ?_
  · unfold ppM XS
    rw [List.pairwise_flatMap]
    refine ⟨fun q hq => ?_,(rem3_sorted 0).imp_of_mem fun {p q} hp hq hpq x hx y hy => ?_⟩
    · obtain ⟨-,-,h3,-⟩:=mem_rem3.1 hq
      rw [h3]
      exact ppL_xs (k:=k) (entsO_get ho q.1).1 (entsO_get ho q.1).2 (entsO_get ha q.1).2 (entsO_get hb q.1).2
    · obtain ⟨-,-,h3,-⟩:=mem_rem3.1 hp
      obtain ⟨-,-,h3',-⟩:=mem_rem3.1 hq
      rw [h3] at hx
      rw [h3'] at hy
      obtain ⟨⟨x1,x2⟩,x3,x4⟩:=ppT_in hg ho ha hb hx
      obtain ⟨⟨y1,y2⟩,y3,y4⟩:=ppT_in hg ho ha hb hy
      refine key_addr (by rw [x1,y1]) hl (by rw [x3,y3];exact hpq) fun m hm => ?_
      have p1:=cut_addr x.1 (l + 1) m
      have p2:=cut_addr y.1 (l + 1) m
      rw [if_pos (by omega)] at p1 p2
      rw [← p1,← p2,x4,y4]
  · unfold ppM
    rw [List.mem_flatMap]
    constructor
    · rintro ⟨q,hq,hc⟩
      obtain ⟨-,-,h3,-⟩:=mem_rem3.1 hq
      rw [h3] at hc
      obtain ⟨h1,h2,-⟩:=ppT_in hg ho ha hb hc
      obtain ⟨-,h4⟩:=(mem_ppL hg (entsO_get ho q.1).1 (entsO_get ha q.1).1 (entsO_get hb q.1).1 (entsO_get ho q.1).2 (entsO_get ha q.1).2 (entsO_get hb q.1).2).1 hc
      refine ⟨h1,?_⟩
      rw [← h2,getE_kid hl ho h1.1 h1.2,getE_kid hl ha h1.1 h1.2,getE_kid hl hb h1.1 h1.2] at h4
      exact h4
    · rintro ⟨h1,h2⟩
      rw [← getE_kid hl ho h1.1 h1.2,← getE_kid hl ha h1.1 h1.2,← getE_kid hl hb h1.1 h1.2] at h2
      refine ⟨(addr c.1 l,triAt Lo La Lb (addr c.1 l)),mem_rem3.2 ⟨Nat.zero_le _,?_,rfl,?_⟩,(mem_ppL hg (entsO_get ho _).1 (entsO_get ha _).1 (entsO_get hb _).1 (entsO_get ho _).2 (entsO_get ha _).2 (entsO_get hb _).2).2 ⟨h1,h2⟩⟩
      · simp only
        have hb1:=addr_bound c.1 l
        rw [h1.1] at hb1
        have hk:k≤16:=by
          cases hx:Lo with
          | cons x _ => exact (ho.2 x (by rw [hx];exact List.mem_cons_self)).1.k16
          | nil =>
            cases hy:La with
            | cons x _ => exact (ha.2 x (by rw [hy];exact List.mem_cons_self)).1.k16
            | nil =>
              cases hz:Lb with
              | cons x _ => exact (hb.2 x (by rw [hz];exact List.mem_cons_self)).1.k16
              | nil =>
                rw [hx,hy,hz] at h2
                simp [Sl.get,entsO,getE,K,hg] at h2
        exact Nat.lt_of_lt_of_le hb1 (Nat.pow_le_pow_right (n:=2) (by omega) hk)
      · cases hany:(triAt Lo La Lb (addr c.1 l)).any with
        | true => rfl
        | false =>
          simp only [triAt,Tri.any,Bool.or_eq_false_iff,Option.isSome_eq_false_iff,Option.isNone_iff_eq_none] at hany
          rw [hany.1.1,hany.1.2,hany.2] at h2
          simp [entsO,getE,K,Sl.get,hg] at h2
end
end Tr
namespace Tr
open Go.Proofs.YtkeepngaaleakaaGreatDoor.Z
/-! ### one point -/
abbrev Cl:=Option Nat × Option Nat × Option Nat
section
variable {k:Nat} {O A B:List Ent}
end
/-! ### three nodes -/
def Tri.list (t:Tri):List T:=t.o.toList ++ (t.a.toList ++ t.b.toList)
theorem Tri.mem {t:Tri} {x:T}:x∈t.list↔t.o = some x∨t.a = some x∨t.b = some x:=by
  simp [Tri.list]
def lvlF (f:List Nat) (m:Int) (ts:List T):Int:=ts.foldl (fun m n => max (max m (Z.part f n.pre)) ((n.lv:Int) - 1)) m
theorem lvlF_cons (f:List Nat) (m:Int) (x:T) (ts:List T):lvlF f m (x :: ts) = lvlF f (max (max m (Z.part f x.pre)) ((x.lv:Int) - 1)) ts:=rfl
theorem lvlF_spec (f:List Nat):∀ (ts:List T) (m:Int),m≤lvlF f m ts∧(∀ x∈ts,Z.part f x.pre≤lvlF f m ts∧(x.lv:Int) - 1≤lvlF f m ts)∧(lvlF f m ts = m∨∃ x∈ts,Z.part f x.pre = lvlF f m ts∨(x.lv:Int) - 1 = lvlF f m ts)
  | [],m => ⟨Int.le_refl _,fun x h => (by cases h),.inl rfl⟩
  | x :: ts,m => by
    obtain ⟨h1,h2,h3⟩:=lvlF_spec f ts (max (max m (Z.part f x.pre)) ((x.lv:Int) - 1))
    rw [lvlF_cons]
    refine ⟨by omega,fun y hy => ?_,?_⟩
    · rcases List.mem_cons.1 hy with rfl | hy
      · exact ⟨by omega,by omega⟩
      · exact h2 y hy
    · rcases h3 with h3 | ⟨y,hy,h3⟩
      · rw [h3]
        by_cases c1:(x.lv:Int) - 1 = max (max m (Z.part f x.pre)) ((x.lv:Int) - 1)
        · exact .inr ⟨x,List.mem_cons_self,.inr c1⟩
        · by_cases c2:Z.part f x.pre = max (max m (Z.part f x.pre)) ((x.lv:Int) - 1)
          · exact .inr ⟨x,List.mem_cons_self,.inl c2⟩
          · exact .inl (by omega)
      · exact .inr ⟨y,List.mem_cons_of_mem _ hy,h3⟩
def lvlT:List T→Int
  | [] => -1
  | f :: r => lvlF f.pre (-1) (f :: r)
def TriOk (k n:Nat) (t:Tri):Prop:=(∀ x∈t.list,Wf k x∧x.lv≤n)∧∀ x∈t.list,∀ y∈t.list,cut x.pre n = cut y.pre n
def sdL (o:Option T) (l:Nat):KL:=match o with
  | none => []
  | some t => if t.lv = l + 1 then t.ks else [(addr t.pre l,t)]
theorem sdL_some (t:T) (l:Nat):sdL (some t) l = (sdOf t l).L:=by
  unfold sdL sdOf Sd.L
  by_cases c:t.lv = l + 1
  · simp [c]
  · simp [c]
theorem sdL_fit {k l:Nat} {o:Option T} {c0:List Nat} (h:∀ t,o = some t→Wf k t∧t.lv≤l + 1∧cut t.pre (l + 1) = c0):FitL k l c0 (sdL o l)∧entsL (sdL o l) = entsO o∧(allK (sdL o l)).length≤(allO o).length∧(∀ t,o = some t→t.lv = l + 1→(allK (sdL o l)).length + 1 = (allO o).length)∧(∀ t,o = some t→t.lv≤l→sdL o l = [(addr t.pre l,t)]):=by
  cases o with
  | none => exact ⟨⟨Sl.srt_nil,fun x hx => (by cases hx)⟩,rfl,Nat.le_refl _,fun t e => (by cases e),fun t e => (by cases e)⟩
  | some t =>
    obtain ⟨h1,h2,h3⟩:=h t rfl
    obtain ⟨f1,f2,f3⟩:=sd_ents l h2 h1
    rw [h3] at f1
    rw [sdL_some]
    refine ⟨f1,f2,?_,fun s e hs => ?_,fun s e hs => ?_⟩
    · rcases f3 with ⟨-,f3⟩ | ⟨-,f3⟩
      · show _≤t.all.length;omega
      · rw [f3];simp [allK,allO]
    · cases e
      rcases f3 with ⟨-,f3⟩ | ⟨f3,-⟩
      · exact f3
      · omega
    · cases e
      rcases f3 with ⟨f3,-⟩ | ⟨-,f3⟩
      · omega
      · exact f3
def Tri.rem (t:Tri) (l n:Nat):List (Nat × Tri):=rem3 (sdL t.o l) (sdL t.a l) (sdL t.b l) n
def FrmOk (k l:Nat) (c0:List Nat) (t:Tri):Prop:=l < 64∧FitL k l c0 (sdL t.o l)∧FitL k l c0 (sdL t.a l)∧FitL k l c0 (sdL t.b l)∧entsL (sdL t.o l) = entsO t.o∧entsL (sdL t.a l) = entsO t.a∧entsL (sdL t.b l) = entsO t.b
theorem two_le {α:Type} {L:List α} {x y:α} (hx:x∈L) (hy:y∈L) (h:x≠y):2≤L.length:=by
  match L,hx,hy with
  | [],hx,_ => cases hx
  | [z],hx,hy => exact absurd ((List.mem_singleton.1 hx).trans (List.mem_singleton.1 hy).symm) h
  | _ :: _ :: _,_,_ => simp
theorem frame_new3 {k n:Nat} {t:Tri} (ht:TriOk k n t) (hn:n≤64) (hne:t.list≠[]) {l:Nat} (hl:lvlT t.list = (l:Int)):∃ c0,FrmOk k l c0 t∧l + 1≤n∧w3M (t.rem l 0) + 1≤wgt3 t:=by
  obtain ⟨f,r,hfr⟩:∃ f r,t.list = f :: r:=by
    cases h:t.list with
    | nil => exact absurd h hne
    | cons f r => exact ⟨f,r,rfl⟩
  rw [hfr] at hl
  obtain ⟨-,h2,h3⟩:=lvlF_spec f.pre (f :: r) (-1)
  have hl':lvlF f.pre (-1) (f :: r) = (l:Int):=hl
  rw [hl',← hfr] at h2 h3
  have hf:f∈t.list:=by rw [hfr];exact List.mem_cons_self
  have wf:=(ht.1 f hf).1
  have hcut:∀ x∈t.list,cut x.pre (l + 1) = cut f.pre (l + 1):=fun x hx => by
    have w:=(ht.1 x hx).1
    refine ((cut_eq_iff (by rw [wf.len,w.len]) wf.ok w.ok (l + 1)).2 ?_).symm
    have:=(h2 x hx).1
    omega
  have hlv:∀ x∈t.list,x.lv≤l + 1:=fun x hx => by have:=(h2 x hx).2;omega
  have hpn:∀ x∈t.list,Z.part f.pre x.pre < (n:Int):=fun x hx => by
    have w:=(ht.1 x hx).1
    exact (cut_eq_iff (by rw [wf.len,w.len]) wf.ok w.ok n).1 (ht.2 f hf x hx)
  have hln:l + 1≤n:=by
    rcases h3 with h3 | ⟨x,hx,h3 | h3⟩
    · omega
    · have:=hpn x hx;omega
    · have:=(ht.1 x hx).2;omega
  have hsd:∀ o,(∀ x,o = some x→x∈t.list)→∀ x,o = some x→Wf k x∧x.lv≤l + 1∧cut x.pre (l + 1) = cut f.pre (l + 1):=fun o ho x e => ⟨(ht.1 x (ho x e)).1,hlv x (ho x e),hcut x (ho x e)⟩
  obtain ⟨o1,o2,o3,o4,o5⟩:=sdL_fit (hsd t.o fun x e => Tri.mem.2 (.inl e))
  obtain ⟨a1,a2,a3,a4,a5⟩:=sdL_fit (hsd t.a fun x e => Tri.mem.2 (.inr (.inl e)))
  obtain ⟨b1,b2,b3,b4,b5⟩:=sdL_fit (hsd t.b fun x e => Tri.mem.2 (.inr (.inr e)))
  refine ⟨_,⟨by omega,o1,a1,b1,o2,a2,b2⟩,hln,?_⟩
  have hw:=rem3_wgt o1.1 a1.1 b1.1 o1.lt5 a1.lt5 b1.lt5 65536 0 (by omega) (by omega)
  rw [dropF_zero,dropF_zero,dropF_zero] at hw
  have hall:allT t = (allO t.o).length + (allO t.a).length + (allO t.b).length:=rfl
  have hr:t.rem l 0 = rem3 (sdL t.o l) (sdL t.a l) (sdL t.b l) 0:=rfl
  rw [hr]
  have hpos:1≤allT t:=by
    have hp:=all_pos f
    rcases Tri.mem.1 hf with e | e | e
    · rw [hall,e];simp only [allO];omega
    · rw [hall,e];simp only [allO];omega
    · rw [hall,e];simp only [allO];omega
  have hwg:wgt3 t = 2 * allT t - 1:=by unfold wgt3;omega
  by_cases c:∃ x∈t.list,x.lv = l + 1
  · obtain ⟨x,hx,hxl⟩:=c
    rcases Tri.mem.1 hx with e | e | e
    · have:=o4 x e hxl;omega
    · have:=a4 x e hxl;omega
    · have:=b4 x e hxl;omega
  · have hlow:∀ x∈t.list,x.lv≤l:=fun x hx => by
      have:=hlv x hx
      rcases Nat.lt_or_ge x.lv (l + 1) with d | d
      · omega
      · exact absurd ⟨x,hx,by omega⟩ c
    have hat:∀ x∈t.list,(addr x.pre l,triAt (sdL t.o l) (sdL t.a l) (sdL t.b l) (addr x.pre l))∈rem3 (sdL t.o l) (sdL t.a l) (sdL t.b l) 0:=fun x hx => by
      refine mem_rem3.2 ⟨Nat.zero_le _,?_,rfl,?_⟩
      · have h1:=addr_bound x.pre l
        rw [(ht.1 x hx).1.len] at h1
        exact Nat.lt_of_lt_of_le h1 (Nat.pow_le_pow_right (n:=2) (by omega) (ht.1 x hx).1.k16)
      · rcases Tri.mem.1 hx with e | e | e
        · simp [triAt,Tri.any,o5 x e (hlow x hx),Sl.get]
        · simp [triAt,Tri.any,a5 x e (hlow x hx),Sl.get]
        · simp [triAt,Tri.any,b5 x e (hlow x hx),Sl.get]
    have hlen:2≤(rem3 (sdL t.o l) (sdL t.a l) (sdL t.b l) 0).length:=by
      rcases h3 with h3 | ⟨x,hx,h3 | h3⟩
      · omega
      · refine two_le (hat f hf) (hat x hx) fun e => ?_
        have ea:addr f.pre l = addr x.pre l:=(Prod.mk.inj e).1
        have w:=(ht.1 x hx).1
        have h1:=cut_down (by rw [wf.len,w.len]) wf.ok w.ok (hcut x hx).symm ea
        have:=(cut_eq_iff (by rw [wf.len,w.len]) wf.ok w.ok l).1 h1
        omega
      · have:=hlow x hx;omega
    omega
theorem lvlT_ent {k n:Nat} {t:Tri} (ht:TriOk k n t) (hne:t.list≠[]):(∃ l:Nat,lvlT t.list = (l:Int))∨(lvlT t.list = -1∧∃ p,∀ x∈t.list,∃ g v,x = .ent g p v):=by
  obtain ⟨f,r,hfr⟩:∃ f r,t.list = f :: r:=by
    cases h:t.list with
    | nil => exact absurd h hne
    | cons f r => exact ⟨f,r,rfl⟩
  obtain ⟨h1,h2,-⟩:=lvlF_spec f.pre (f :: r) (-1)
  have hf:f∈t.list:=by rw [hfr];exact List.mem_cons_self
  have wf:=(ht.1 f hf).1
  by_cases c:lvlF f.pre (-1) (f :: r) < 0
  · right
    rw [← hfr] at h1 h2 c
    refine ⟨by rw [hfr] at h1 c ⊢;show lvlF f.pre (-1) (f :: r) = -1;omega,f.pre,fun x hx => ?_⟩
    have w:=(ht.1 x hx).1
    obtain ⟨a1,a2⟩:=h2 x hx
    have hp:=(part_neg (by rw [wf.len,w.len]) wf.ok w.ok).1 (by omega)
    cases x with
    | br g l pre ks => simp only [T.lv] at a2;omega
    | ent g p v => exact ⟨g,v,by rw [show f.pre = p from hp]⟩
  · left
    rw [hfr]
    exact ⟨(lvlF f.pre (-1) (f :: r)).toNat,by show lvlF f.pre (-1) (f :: r) = _;omega⟩
theorem FrmOk.place {k l:Nat} {c0:List Nat} {t:Tri} (h:FrmOk k l c0 t) {n:Nat} {q:Nat × Tri} (hq:q∈t.rem l n):TriOk k l q.2∧q.2.list≠[]∧q.1 < 65536∧n≤q.1∧(∀ x,q.2.o = some x→(q.1,x)∈sdL t.o l)∧(∀ x,q.2.a = some x→(q.1,x)∈sdL t.a l)∧(∀ x,q.2.b = some x→(q.1,x)∈sdL t.b l):=by
  obtain ⟨h64,fo,fa,fb,-⟩:=h
  obtain ⟨h1,h2,h3,h4⟩:=mem_rem3.1 hq
  have mo:∀ x,q.2.o = some x→(q.1,x)∈sdL t.o l:=fun x e => (Sl.get_iff fo.1).1 (by rw [h3] at e;exact e)
  have ma:∀ x,q.2.a = some x→(q.1,x)∈sdL t.a l:=fun x e => (Sl.get_iff fa.1).1 (by rw [h3] at e;exact e)
  have mb:∀ x,q.2.b = some x→(q.1,x)∈sdL t.b l:=fun x e => (Sl.get_iff fb.1).1 (by rw [h3] at e;exact e)
  have hx:∀ x∈q.2.list,Wf k x∧x.lv≤l∧cut x.pre (l + 1) = c0∧addr x.pre l = q.1:=fun x hx => by
    rcases Tri.mem.1 hx with e | e | e
    · exact fo.2 _ (mo x e)
    · exact fa.2 _ (ma x e)
    · exact fb.2 _ (mb x e)
  refine ⟨⟨fun x hx' => ⟨(hx x hx').1,(hx x hx').2.1⟩,fun x hx' y hy' => ?_⟩,fun he => ?_,h2,h1,mo,ma,mb⟩
  · obtain ⟨w1,-,c1,d1⟩:=hx x hx'
    obtain ⟨w2,-,c2,d2⟩:=hx y hy'
    exact cut_down (by rw [w1.len,w2.len]) w1.ok w2.ok (c1.trans c2.symm) (d1.trans d2.symm)
  · have:∀ x,x ∉ q.2.list:=fun x hx => by rw [he] at hx;cases hx
    have e1:q.2.o = none:=by
      cases e:q.2.o with
      | none => rfl
      | some x => exact absurd (Tri.mem.2 (.inl e)) (this x)
    have e2:q.2.a = none:=by
      cases e:q.2.a with
      | none => rfl
      | some x => exact absurd (Tri.mem.2 (.inr (.inl e))) (this x)
    have e3:q.2.b = none:=by
      cases e:q.2.b with
      | none => rfl
      | some x => exact absurd (Tri.mem.2 (.inr (.inr e))) (this x)
    rw [Tri.any,e1,e2,e3] at h4
    cases h4
theorem FrmOk.rem {k l:Nat} {c0:List Nat} {t:Tri} (h:FrmOk k l c0 t) {X:Type} {g:Pt X} (hg:g none none none = none):ppM g (t.rem l 0) = ppT g t:=by
  obtain ⟨h64,fo,fa,fb,eo,ea,eb⟩:=h
  show ppM g (rem3 _ _ _ 0) = _
  rw [ppM_rem h64 hg fo fa fb,eo,ea,eb]
  rfl
theorem low_fit {k l:Nat} {c0:List Nat} {a:Nat} {m:T} (hm:Wf k m) (h:∀ e∈m.ents,addr e.1 l = a∧cut e.1 (l + 1) = c0):Wf k m∧m.lv≤l∧cut m.pre (l + 1) = c0∧addr m.pre l = a:=by
  obtain ⟨e0,h0⟩:=List.exists_mem_of_ne_nil _ hm.ne
  have d0:=hm.each e0 h0
  obtain ⟨h1,h2⟩:=low_of hm (m:=l) (c:=cut e0.1 l) fun e he => by
    have d:=hm.each e he
    exact cut_down (by rw [d.1,d0.1]) d.2.1 d0.2.1 ((h e he).2.trans (h e0 h0).2.symm) ((h e he).1.trans (h e0 h0).1.symm)
  refine ⟨hm,h1,?_,?_⟩
  · rw [← cut_cut m.pre l (l + 1) (by omega),h2,cut_cut e0.1 l (l + 1) (by omega)]
    exact (h e0 h0).2
  · rw [← hm.addr_at h0 h1]
    exact (h e0 h0).1
/-! ### the node of a list of kids -/
def UniN (l:Nat) (c0:List Nat) (K:KL) (n:Option T):Prop:=(K = []∧n = none)∨(∃ x,K = [x]∧n = some x.2)∨(2≤K.length∧∃ g,n = some (.br g l c0 K))
theorem UniN.ents {l:Nat} {c0:List Nat} {K:KL} {n:Option T} (h:UniN l c0 K n):entsO n = entsL K:=by
  rcases h with ⟨rfl,rfl⟩ | ⟨x,rfl,rfl⟩ | ⟨-,g,rfl⟩
  · rfl
  · simp [entsO,entsL]
  · exact ents_br g l c0 K
theorem UniN.side {k l:Nat} {c0:List Nat} {o:Option T} (h:∀ t,o = some t→Wf k t∧t.lv≤l + 1∧cut t.pre (l + 1) = c0):UniN l c0 (sdL o l) o:=by
  cases o with
  | none => exact .inl ⟨rfl,rfl⟩
  | some t =>
    obtain ⟨h1,h2,h3⟩:=h t rfl
    by_cases c:t.lv = l + 1
    · cases t with
      | ent g p v => simp [T.lv] at c
      | br g l' pre ks =>
        have e:l' = l:=by simp only [T.lv] at c;omega
        subst e
        have hc:pre = c0:=by rw [← h3];exact h1.cut_pre.symm
        subst hc
        have hs:sdL (some (T.br g l' pre ks)) l' = ks:=by simp [sdL,T.lv,T.ks]
        rw [hs]
        refine .inr (.inr ⟨?_,g,rfl⟩)
        cases h1 with
        | br _ _ _ _ _ _ h2 => exact h2
    · have hs:sdL (some t) l = [(addr t.pre l,t)]:=by simp [sdL,c]
      rw [hs]
      exact .inr (.inl ⟨_,rfl,rfl⟩)
end Tr
end Go.Proofs.YtkeepngaaleakaaGreatDoor
