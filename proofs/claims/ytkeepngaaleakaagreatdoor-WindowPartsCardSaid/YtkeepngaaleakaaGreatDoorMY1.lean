import Derived.Test.YtkeepngaaleakaaGreatDoorM59
import Derived.Test.YtkeepngaaleakaaGreatDoorMV3
namespace Go.Proofs.YtkeepngaaleakaaGreatDoor
open Go.ChangeShapes Go.WideShapes Go.ChangeAt Go.RowKit
open Tr (T S4 Ent KL)
theorem kput_last {K:KL} (h:Sl.Srt K) {i:Nat} {x:Nat × T} (hx:K[i]? = some x):Sl.put x.1 x.2 (K.take i) = K.take (i + 1):=by
  have hs:Sl.Srt (K.take i):=List.Pairwise.sublist (List.take_sublist i K) h
  have hlt:∀ p∈K.take i,(p.1:Int) < (x.1:Int):=fun p hp => by
    obtain ⟨j,hj⟩:=List.getElem?_of_mem hp
    rw [List.getElem?_take] at hj
    split at hj
    · rename_i hji
      have:=Sl.srt_get h hj hx hji
      omega
    · cases hj
  have hg:Sl.get (K.take i) (x.1:Int) = none:=by
    cases hg:Sl.get (K.take i) (x.1:Int) with
    | none => rfl
    | some v =>
      have:=hlt _ ((Sl.get_iff hs).1 hg)
      simp only at this
      omega
  have hi:=Sl.idx_all hlt
  rw [Sl.put_none hs x.2 hg,hi,List.take_length,List.drop_length,List.take_add_one,hx]
  rfl
theorem fit_take {k l:Nat} {c0:List Nat} {K:KL} (hF:Tr.FitL k l c0 K) (i:Nat):Tr.FitL k l c0 (K.take i) :=
  ⟨List.Pairwise.sublist (List.take_sublist i K) hF.1,fun x hx => hF.2 x (List.mem_of_mem_take hx)⟩
theorem wPairU {w:World} {B k l a:Nat} {c0:List Nat} {x:Nat × T} {m:T} (hF:Tr.FitL k l c0 [x]) (hnx:Node w B k x.2) (hm:Node w B k m) (hfm:m.lv≤l∧Z.cut m.pre (l + 1) = c0∧Z.addr m.pre l = a) (hxa:x.1≠a) (hB:B≤w.heap.size) (hc:x.2.ents.length + m.ents.length < 18446744073709551616) :
    Calls Tryz.prog 102 #[.pointer (some ⟨x.2.blk,0,none⟩),.pointer (some ⟨m.blk,0,none⟩)] w fun e w' => ∃ g',e = .returned (.tuple #[.pointer (some ⟨g',0,none⟩),.int .i64 0])∧Node w' w'.heap.size k (.br g' l c0 (Sl.put a m [x]))∧Below w.heap.size w w':=by
  obtain ⟨wx,lx,cx,ax⟩:=hF.2 x List.mem_cons_self
  have hpart:Z.part x.2.pre m.pre = (l:Int):=by
    refine Z.part_eq (by rw [wx.len,hm.1.len]) wx.ok hm.1.ok l (by rw [ax,hfm.2.2];exact hxa) fun i hi _ => ?_
    have p1:=Z.cut_addr x.2.pre (l + 1) i
    have p2:=Z.cut_addr m.pre (l + 1) i
    rw [if_pos (by omega)] at p1 p2
    rw [← p1,← p2,cx,hfm.2.1]
  have hh:=nPair_c hnx hm hB hpart lx hfm.1 hc
  rw [cx,ax,hfm.2.2,show Sl.put x.1 x.2 ([]:KL) = [x] from rfl] at hh
  refine hh.mono ?_
  rintro e w' ⟨g',he,h1,-,h2⟩
  exact ⟨g',he,h1,h2⟩
theorem wWithU {w:World} {B k l a g:Nat} {c0:List Nat} {K:KL} {m:T} (hnb:Node w B k (.br g l c0 K)) (hm:Node w B k m) (hfm:m.lv≤l∧Z.cut m.pre (l + 1) = c0∧Z.addr m.pre l = a) (hB:B≤w.heap.size) (hc:(Tr.entsL K).length + m.ents.length < 18446744073709551616) :
    Calls Tryz.prog 114 #[.pointer (some ⟨g,0,none⟩),.pointer (some ⟨m.blk,0,none⟩)] w fun e w' => ∃ g',e = .returned (.tuple #[.pointer (some ⟨g',0,none⟩),.int .i64 0])∧Node w' w'.heap.size k (.br g' l c0 (Sl.put a m K))∧Below w.heap.size w w':=by
  have hcut:Z.cut c0 (l + 1) = c0:=hnb.1.cut_pre
  have hl0:c0.length = k:=hnb.1.len
  have hok0:Z.Ok c0:=hnb.1.ok
  have hpart:Z.part c0 m.pre≤(l:Int):=by
    have:=(Z.cut_eq_iff (by rw [hl0,hm.1.len]) hok0 hm.1.ok (l + 1)).1 (by rw [hcut,hfm.2.1])
    omega
  have hh:=nWith_c hnb hm hB hpart hfm.1 hc
  rw [hfm.2.2] at hh
  refine hh.mono ?_
  rintro e w' ⟨g',he,h1,-,h2⟩
  exact ⟨g',he,h1,h2⟩
structure KRow (w:World) (k l:Nat) (c0:List Nat) (R:Nat) (A:Option Addr) (K:KL):Prop where
  fit:Tr.FitL k l c0 K
  row:RdV w R A (K.map fun x => Value.pointer (some ⟨x.2.blk,0,none⟩))
  nd:∀ x∈K,Node w w.heap.size k x.2
theorem KRow.below {w w':World} {k l R:Nat} {c0:List Nat} {A:Option Addr} {K:KL} (h:KRow w k l c0 R A K) (hR:R≤w.heap.size) (hb:Below w.heap.size w w'):KRow w' k l c0 R A K:=by
  refine ⟨h.fit,fun hn => ?_,fun x hx => (h.nd x hx).below hb (Nat.le_refl _) hb.size⟩
  obtain ⟨b,off,hA,hbl,hc⟩:=h.row hn
  exact ⟨b,off,hA,hbl,fun i v hi => (hb.cell (p:=⟨b,off + i,none⟩) (Nat.lt_of_lt_of_le hbl hR)).trans (hc i v hi)⟩
theorem uni_one {l:Nat} {c0:List Nat} {x:Nat × T} {n:Option T} (h:Tr.UniN l c0 [x] n):n = some x.2:=by
  rcases h with ⟨e,-⟩ | ⟨y,e,rfl⟩ | ⟨e,-⟩
  · cases e
  · cases e;rfl
  · simp at e
theorem uni_two {l:Nat} {c0:List Nat} {K:KL} {n:Option T} (h:Tr.UniN l c0 K n) (h2:2≤K.length):∃ g,n = some (.br g l c0 K):=by
  rcases h with ⟨rfl,-⟩ | ⟨y,rfl,-⟩ | ⟨-,g,hg⟩
  · simp at h2
  · simp at h2
  · exact ⟨g,hg⟩
theorem ents_take {K:KL} {i:Nat} {x:Nat × T} (hx:K[i]? = some x):(Tr.entsL (K.take i)).length + x.2.ents.length≤(Tr.entsL K).length:=by
  obtain ⟨hi,rfl⟩:=List.getElem?_eq_some_iff.1 hx
  have e:K = K.take i ++ K[i] :: K.drop (i + 1):=by rw [← List.drop_eq_getElem_cons hi,List.take_append_drop]
  have h:=congrArg (fun L => (Tr.entsL L).length) e
  simp only [Tr.entsL_append,Tr.entsL_cons,List.length_append] at h
  omega
set_option maxRecDepth 100000 in
set_option maxHeartbeats 4000000 in
theorem wjoined_c {w:World} {k l R m c:Nat} {c0:List Nat} {A:Option Addr} {K:KL} (h:KRow w k l c0 R A K) (hR:R≤w.heap.size) (hm:K.length = m) (hm6:m≤65536) (hc:(Tr.entsL K).length < 18446744073709551616) :
    Calls Tryz.prog 111 #[.slice A m c] w fun e w' => ∃ n:Option T,e = .returned (.pointer (rootP n))∧Tr.UniN l c0 K n∧NodeO w' w'.heap.size k n∧Below w.heap.size w w':=by
  have HX:=Lib.hid (And.intro h (And.intro hR (And.intro hm hc)))
  have hm9:(m:Int)≤65536:=by omega
  clear h hR hm hc
  go_enter Tryz.func111,Tryz.ntmps111
  go_wp2_with fail
  go_loopw [3,8] (fun u v wr => ∃ (j:Nat) (n:Option T),u = .pointer (rootP n)∧v = .int .i64 (j:Int)∧j≤m∧Tr.UniN l c0 (K.take j) n∧NodeO wr wr.heap.size k n∧Below w.heap.size w wr) (fun _ v _ => m - (intOf v).toNat)
  case atStart => exact ⟨0,none,rfl,rfl,Nat.zero_le _,.inl ⟨rfl,rfl⟩,NodeO.none _ _ _,Below.refl _ _⟩
  case round =>
    obtain ⟨j,n,rfl,rfl,hj,hU,hn,hbr⟩:=hrel
    by_cases hlt:j < m
    · obtain ⟨x,hx⟩:=get_lt (us:=K) (k:=j) (by rw [HX.out.2.2.1];exact hlt)
      have hKw:=HX.out.1.below HX.out.2.1 hbr
      have hxm:=List.mem_of_getElem? hx
      obtain ⟨b,off,hA,hb,hcell⟩:=hKw.row (by intro e;rw [List.map_eq_nil_iff] at e;rw [e] at hx;simp at hx)
      have z:=hcell j (.pointer (some ⟨x.2.blk,0,none⟩)) (by rw [List.getElem?_map,hx];rfl)
      have hnx:=hKw.nd x hxm
      obtain ⟨-,lx,cx,ax⟩:=hKw.fit.2 x hxm
      have hfit:=fit_take hKw.fit j
      have hput:=kput_last hKw.fit.1 hx
      have hent:=ents_take hx
      have hlen:(K.take j).length = j:=by rw [List.length_take,HX.out.2.2.1];omega
      subst hA
      have HK:=Lib.hid (And.intro hbr (And.intro hlt (And.intro hnx (And.intro hput hlen))))
      have f1:decide ((j:Int) < (m:Int)) = true:=decide_eq_true (by omega)
      have f1':decide (j < m) = true:=decide_eq_true hlt
      have m1:(0:Int)≤(j:Int):=by omega
      have m2:(j:Int) < (m:Int):=by omega
      clear hcell hKw
      by_cases h0:j = 0
      · subst h0
        rw [Nat.add_zero] at z
        have HN:Hid (Tr.UniN l c0 (K.take (0 + 1)) (some x.2)):=Lib.hid (by rw [List.take_add_one,hx];exact .inr (.inl ⟨x,rfl,rfl⟩))
        clear hbr hlt hnx hput hlen hU hn hent hfit hx hxm hj lx cx ax
        go_wp2_with fail
        go_roundw
        case rel => exact ⟨0 + 1,some x.2,rfl,by first | rfl | go_num,by have:=HK.out.2.1;omega,HN.out,NodeO.some HK.out.2.2.1,HK.out.1⟩
        case measure => have:=HK.out.2.1;simp [intOf];omega
      · have e0:((j:Int) == 0) = false:=by rw [beq_eq_false_iff_ne];omega
        by_cases h1:j = 1
        · subst h1
          obtain ⟨y,hy⟩:∃ y,K.take 1 = [y]:=by
            match hk:K.take 1,hlen with
            | [y],_ => exact ⟨y,rfl⟩
          rw [hy] at hU hfit hput hent
          have hny:=uni_one hU
          subst hny
          have hxa:y.1≠x.1:=by
            have hy0:K[0]? = some y:=by
              have:=congrArg (fun L => L[0]?) hy
              simpa using this
            have:=Sl.srt_get HX.out.1.fit.1 hy0 hx (by omega)
            omega
          have HP:=Lib.hid (wPairU (a:=x.1) hfit (hn y.2 rfl) hnx ⟨lx,cx,ax⟩ hxa (Nat.le_refl _) (by have h:=hent;simp only [Tr.entsL_cons,List.length_append] at h;have:=HX.out.2.2.2;omega))
          have HQ:=Lib.hid (And.intro hput True.intro)
          clear hbr hlt hnx hput hlen hU hn hent hfit hx hxm hj lx cx ax hy hxa h0
          simp only [rootP]
          go_wp2_with fail
          refine HP.out.mono ?_
          rintro e w2 ⟨g',rfl,hn2,hb2⟩
          have HF:=Lib.hid (And.intro hn2 (Below.andThen HK.out.1 hb2))
          clear hn2 hb2 HP
          go_wp2_with fail
          go_roundw
          case rel =>
            have hn2:=HF.out.1
            rw [HQ.out.1] at hn2
            exact ⟨1 + 1,some (.br g' l c0 (K.take (1 + 1))),rfl,by first | rfl | go_num,by have:=HK.out.2.1;omega,.inr (.inr ⟨(by cases hn2.1 with | br _ _ _ _ _ _ h2 => exact h2),g',rfl⟩),NodeO.some hn2,HF.out.2⟩
          case measure => have:=HK.out.2.1;simp [intOf];omega
        · obtain ⟨g,hg⟩:=uni_two hU (by rw [hlen];omega)
          subst hg
          have e1:((j:Int) == 1) = false:=by rw [beq_eq_false_iff_ne];omega
          have HP:=Lib.hid (wWithU (a:=x.1) (hn _ rfl) hnx ⟨lx,cx,ax⟩ (Nat.le_refl _) (by have:=HX.out.2.2.2;omega))
          clear hbr hlt hnx hput hlen hU hn hent hfit hx hxm hj lx cx ax h0 h1
          have hroot:rootP (some (T.br g l c0 (K.take j))) = some ⟨g,0,none⟩:=rfl
          rw [hroot]
          clear hroot
          go_wp2_with fail
          refine HP.out.mono ?_
          rintro e w2 ⟨g',rfl,hn2,hb2⟩
          have HF:=Lib.hid (And.intro hn2 (Below.andThen HK.out.1 hb2))
          clear hn2 hb2 HP
          go_wp2_with fail
          go_roundw
          case rel =>
            have hn2:=HF.out.1
            rw [HK.out.2.2.2.1] at hn2
            exact ⟨j + 1,some (.br g' l c0 (K.take (j + 1))),rfl,by first | rfl | go_num,by have:=HK.out.2.1;omega,.inr (.inr ⟨(by cases hn2.1 with | br _ _ _ _ _ _ h2 => exact h2),g',rfl⟩),NodeO.some hn2,HF.out.2⟩
          case measure =>
            have:=HK.out.2.1
            show m - ((j:Int) + 1).toNat < m - (j:Int).toNat
            omega
    · have hjn:m = j:=by omega
      subst hjn
      have f1:decide ((m:Int) < (m:Int)) = false:=decide_eq_false (by omega)
      have f1':decide (m < m) = false:=decide_eq_false (by omega)
      rw [show K.take m = K by rw [← HX.out.2.2.1,List.take_length]] at hU
      have HR:=Lib.hid (And.intro hU (And.intro hn hbr))
      clear hU hn hbr hlt hj
      go_wp2_with fail
      go_ret
      exact ⟨n,rfl,HR.out.1,HR.out.2.1,HR.out.2.2⟩
structure Mt where
  a:Nat
  x:T
  n:Option T
def MtQ (f:Nat→Option Value) (m:Mt):Prop:=f 0 = some (.int .i64 (m.a:Int))∧f 1 = some (.pointer (some ⟨m.x.blk,0,none⟩))∧f 2 = some (.pointer (rootP m.n))
theorem mtQ_ok:QOk 3 MtQ where
  ext:=by
    rintro f g s h ⟨h0,h1,h2⟩
    exact ⟨(h 0 (by omega)).symm.trans h0,(h 1 (by omega)).symm.trans h1,(h 2 (by omega)).symm.trans h2⟩
  has:=by
    rintro f s ⟨h0,h1,h2⟩ j hj
    match j,hj with
    | 0,_ => exact ⟨_,h0,rfl⟩
    | 1,_ => exact ⟨_,h1,rfl⟩
    | 2,_ => exact ⟨_,h2,rfl⟩
def nowK (L:List Mt):KL:=L.filterMap fun m => m.n.map fun t => (m.a,t)
theorem nowK_take {L:List Mt} {j:Nat} {y:Mt} (h:L[j]? = some y):nowK (L.take (j + 1)) = nowK (L.take j) ++ (y.n.map fun t => (y.a,t)).toList:=by
  unfold nowK
  rw [List.take_add_one,h,List.filterMap_append]
  cases hf:y.n <;> simp [hf]
theorem nowK_mem {L:List Mt} {p:Nat × T}:p∈nowK L↔∃ m∈L,m.n = some p.2∧m.a = p.1:=by
  unfold nowK
  rw [List.mem_filterMap]
  constructor
  · rintro ⟨m,hm,h⟩
    obtain ⟨t,ht,rfl⟩:=Option.map_eq_some_iff.1 h
    exact ⟨m,hm,ht,rfl⟩
  · rintro ⟨m,hm,h1,h2⟩
    exact ⟨m,hm,by rw [h1,h2];rfl⟩
theorem nowK_len (L:List Mt):(nowK L).length≤L.length:=List.length_filterMap_le _ _
theorem nowK_ents {L:List Mt} {j:Nat} {y:Mt} (h:L[j]? = some y):(Tr.entsL (nowK (L.take j))).length + (Tr.entsO y.n).length≤(Tr.entsL (nowK L)).length:=by
  obtain ⟨hi,rfl⟩:=List.getElem?_eq_some_iff.1 h
  have e:nowK L = nowK (L.take (j + 1)) ++ nowK (L.drop (j + 1)):=by
    unfold nowK
    rw [← List.filterMap_append,List.take_append_drop]
  rw [e,nowK_take h,Tr.entsL_append,Tr.entsL_append,List.length_append,List.length_append]
  have:(Tr.entsO L[j].n).length = (Tr.entsL (L[j].n.map fun t => (L[j].a,t)).toList).length:=by
    cases L[j].n with
    | none => rfl
    | some t => simp [Tr.entsO,Tr.entsL]
  omega
set_option maxRecDepth 100000 in
set_option maxHeartbeats 8000000 in
theorem wwith_c {w:World} {B k g l R m c:Nat} {pre:List Nat} {ks:KL} {A:Option Addr} {L:List Mt} (hn:Node w B k (.br g l pre ks)) (hB:B≤w.heap.size) (hrow:Lst 3 MtQ w R A L) (hR:R≤w.heap.size) (hm:L.length = m) (hm6:m≤65536) (hnow:∀ x∈L,NodeO w w.heap.size k x.n) (hfit:Tr.FitL k l pre (nowK L)) (hle:(Tr.entsL (nowK L)).length < 18446744073709551616) :
    Calls Tryz.prog 54 #[.pointer (some ⟨g,0,none⟩),.slice A m c] w fun e w' => ∃ n:Option T,e = .returned (.pointer (rootP n))∧NodeO w' w'.heap.size k n∧((Tr.entsL (nowK L)).length = (T.br g l pre ks).ents.length→n = some (.br g l pre ks))∧((Tr.entsL (nowK L)).length≠(T.br g l pre ks).ents.length→Tr.UniN l pre (nowK L) n)∧Below w.heap.size w w':=by
  obtain ⟨kp,hnd⟩:=hn.2.nd
  obtain ⟨N,hN⟩:∃ N,(T.br g l pre ks).ents.length = N:=⟨_,rfl⟩
  have hsN:(Tr.sums (T.br g l pre ks).ents).c = N:=by rw [Tr.sums_c,hN]
  have HSn:=Lib.hid fun (w1:World) (hb:Below w.heap.size w w1) => nSums_c (hnd.below hb hB (Nat.le_refl _)) (Nat.le_trans hB hb.size)
  obtain ⟨s0,hs0⟩:∃ s,Tr.sums (T.br g l pre ks).ents = s:=⟨_,rfl⟩
  have hHn:=hn.below (Below.refl w.heap.size w) hB hB
  rw [hs0] at HSn hsN
  have HX:=Lib.hid (And.intro hrow (And.intro hR (And.intro hm (And.intro hnow (And.intro hfit (And.intro hle (And.intro hN (And.intro hsN hHn))))))))
  have f0:=sums_count
  have hpn:=nptr_none
  have hn2:=nptr_no2
  have hm9:(m:Int)≤65536:=by omega
  clear hn hB hrow hR hm hnow hfit hle hnd hN hsN hs0 hHn
  go_enter Tryz.func54,Tryz.ntmps54
  go_wp2_with fail
  go_loopw [5,6,11] (fun u q v wr => ∃ (j a d:Nat) (D:Option Addr),u = .slice D a d∧q = .int .u64 (((Tr.entsL (nowK (L.take j))).length:Nat):Int)∧v = .int .i64 (j:Int)∧j≤m∧(nowK (L.take j)).length = a∧RowP wr w.heap.size (.slice D a d) ((nowK (L.take j)).map (·.2))∧Below w.heap.size w wr) (fun _ _ v _ => m - (intOf v).toNat)
  case atStart => exact ⟨0,0,0,none,rfl,rfl,rfl,Nat.zero_le _,rfl,.inl ⟨rfl,rfl⟩,Below.refl _ _⟩
  case round =>
    obtain ⟨j,a,d,D,rfl,rfl,rfl,hj,ha,hr,hbr⟩:=hrel
    by_cases hlt:j < m
    · obtain ⟨y,hy⟩:=get_lt (us:=L) (k:=j) (by rw [HX.out.2.2.1];exact hlt)
      obtain ⟨b,off,hA,hb,hq⟩:=HX.out.1 (by rintro rfl;simp at hy)
      obtain ⟨q0,q1,q2⟩:=hq j y hy
      have hbw:=Nat.lt_of_lt_of_le hb HX.out.2.1
      have z0:=(hbr.cell (p:=⟨b,_,none⟩) hbw).trans q0
      have z1:=(hbr.cell (p:=⟨b,_,none⟩) hbw).trans q1
      have z2:=(hbr.cell (p:=⟨b,_,none⟩) hbw).trans q2
      simp only [Nat.add_zero] at z0
      subst hA
      have hne:=nowK_ents hy
      have hnow:=HX.out.2.2.2.1 y (List.mem_of_getElem? hy)
      have htk:=nowK_take hy
      obtain ⟨E,hE⟩:∃ E,(Tr.entsL (nowK (L.take j))).length = E:=⟨_,rfl⟩
      rw [hE] at hne ⊢
      have f1:decide ((j:Int) < (m:Int)) = true:=decide_eq_true (by omega)
      have f1':decide (j < m) = true:=decide_eq_true hlt
      have m1:(0:Int)≤(j:Int):=by omega
      have m2:(j:Int) < (m:Int):=by omega
      have ha6:a≤65536:=by
        rw [← ha]
        have:=nowK_len (L.take j)
        rw [List.length_take] at this
        omega
      have hb1:=Below.andThen hbr (below_alloc wr (.cells #[.int .i64 (y.a:Int),.pointer (some ⟨y.x.blk,0,none⟩),.pointer (rootP y.n)] 160))
      have HH:=Lib.hid (And.intro hr (And.intro hbr (And.intro hlt (And.intro ha (And.intro htk (And.intro hb1 hE))))))
      cases hyn:y.n with
      | none =>
        rw [hyn] at z2 htk HH
        have htk2:nowK (L.take (j + 1)) = nowK (L.take j):=by rw [htk];simp
        have HK:=Lib.hid htk2
        simp only [rootP] at z2 HH
        clear hr hbr hlt ha htk hb1 hE hne hnow hy hq q0 q1 q2 hj htk2 hyn
        go_wp2_with fail
        go_roundw
        case rel => exact ⟨j + 1,a,d,D,rfl,by rw [HK.out,HH.out.2.2.2.2.2.2],by first | rfl | go_num,by have:=HH.out.2.2.1;omega,by rw [HK.out];exact HH.out.2.2.2.1,by rw [HK.out];exact HH.out.1.block fun q hq => (below_alloc wr _).block q (HH.out.1.lt q hq).1,HH.out.2.2.2.2.2.1⟩
        case measure =>
          have:=HH.out.2.2.1
          show m - ((j:Int) + 1).toNat < m - (j:Int).toNat
          omega
      | some t =>
        rw [hyn] at z2 htk hne hnow
        obtain ⟨kt,hndt⟩:=(hnow t rfl).2.nd
        obtain ⟨st,hst⟩:∃ s,Tr.sums t.ents = s:=⟨_,rfl⟩
        have hsc:st.c = t.ents.length:=by rw [← hst,Tr.sums_c]
        have hne':E + st.c < 18446744073709551616:=by
          rw [hsc]
          have h1:E + t.ents.length≤(Tr.entsL (nowK L)).length:=hne
          have h2:=HX.out.2.2.2.2.2.1
          omega
        have htk2:nowK (L.take (j + 1)) = nowK (L.take j) ++ [(y.a,t)]:=htk
        have hcnt:(((Tr.entsL (nowK (L.take (j + 1)))).length:Nat):Int) = (E:Int) + (st.c:Int):=by
          rw [htk2,Tr.entsL_append,List.length_append,hE,hsc]
          simp [Tr.entsL]
        rw [hst] at hndt
        have HS:=Lib.hid fun (w1:World) (hb:Below w.heap.size w w1) => nSums_c (hndt.below hb (Nat.le_refl _) (Nat.le_refl _)) hb.size
        have HK:=Lib.hid (And.intro htk2 hcnt)
        have e1:(E:Int) + (st.c:Int)≤18446744073709551615:=by omega
        have e2:E + st.c≤18446744073709551615:=by omega
        simp only [rootP] at z2 HH
        obtain ⟨W1,hW1⟩:∃ W1,W1 = wr.alloc (.cells #[.int .i64 (y.a:Int),.pointer (some ⟨y.x.blk,0,none⟩),.pointer (some ⟨t.blk,0,none⟩)] 160):=⟨_,rfl⟩
        have hbW:Below wr.heap.size wr W1:=by rw [hW1];exact below_alloc _ _
        have hgW:W1.heap[wr.heap.size]? = some (.cells #[.int .i64 (y.a:Int),.pointer (some ⟨y.x.blk,0,none⟩),.pointer (some ⟨t.blk,0,none⟩)] 160 (0,0)):=by rw [hW1];exact heap_at _ _ _ rfl
        have hlW:wr.heap.size < W1.heap.size:=by rw [hW1];simp
        clear hr hbr hlt ha htk hb1 hE hne hnow hy hq q0 q1 q2 hj htk2 hyn hcnt hndt hst hsc hne'
        go_upto_region 6 with fail
        rw [← hW1]
        clear hW1 z0 z1 z2
        obtain ⟨gk,hgk⟩:∃ g,wr.heap.size = g:=⟨_,rfl⟩
        rw [hgk] at hgW hlW ⊢
        have k2:W1.cell? ⟨gk,2,none⟩ = some (.pointer (some ⟨t.blk,0,none⟩)):=by rw [cell_of_row W1 gk _ _ _ (0,0) hgW];rfl
        have HG:=Lib.hid (And.intro hbW (And.intro hgW (And.intro hlW (hgk ▸ Nat.le_refl _:wr.heap.size≤gk))))
        have HR:=Lib.hid (HH.out.1.block fun q hq => hbW.block q (HH.out.1.lt q hq).1)
        clear hbW hgW hlW hgk
        go_wp2_with (at_builtin;refine wpList_append_rowP (base:=w.heap.size) (v:=.slice D a d) (us:=(nowK (L.take j)).map (·.2)) (t:=t) (m:=a + 1) (by rfl) _ _ (by rfl) (by rfl) (by exact HR.out.block fun q hq => (below_alloc W1 _).block q (HR.out.lt q hq).1) (by rw [List.length_map,HH.out.2.2.2.1]) _ _ (by rfl) (by rw [World.cell?_alloc_new];rfl) (by rfl) (by rw [List.length_map,HH.out.2.2.2.1];omega) (by have:=HH.out.2.1.size;have:=HG.out.1.size;simp;omega) ?_;intro D5 d5 w5 hrow5 hgrow5 hat5;have hg5:Below w.heap.size w w5:=Below.grown (HH.out.2.1.trans ((HG.out.1.trans ((below_alloc W1 _).mono HG.out.1.size)).mono HH.out.2.1.size)) hgrow5 (by have:=HH.out.2.1.size;have:=HG.out.1.size;simp;omega) (fun q hq => (HR.out.lt q hq).2);have hq5:=(hgrow5.block gk (by have:=HG.out.2.2.1;simp;omega) (fun e => by have h1:=(HH.out.1.lt gk e.symm).1;have h2:=HG.out.2.2.2;omega)).trans (((below_alloc W1 _).block gk HG.out.2.2.1).trans HG.out.2.1);have k5:w5.cell? ⟨gk,2,none⟩ = some (.pointer (some ⟨t.blk,0,none⟩)):=(by rw [cell_of_row w5 gk _ _ _ (0,0) hq5];rfl);have HN:=Lib.hid (And.intro hrow5 hg5);clear hgrow5 hat5 hrow5 hg5 hq5 k2)
        refine (HS.out w5 HN.out.2).mono ?_
        rintro e w6 ⟨rfl,hb6⟩
        have HB6:=Lib.hid hb6
        clear hb6 HS
        go_wp2_with fail
        go_roundw
        case rel => exact ⟨j + 1,a + 1,d5,D5,rfl,by rw [HK.out.2],by first | rfl | go_num,by have:=HH.out.2.2.1;omega,by rw [HK.out.1,List.length_append,HH.out.2.2.2.1];rfl,by rw [HK.out.1,List.map_append];exact HN.out.1.block fun q hq => HB6.out.block q (HN.out.1.lt q hq).1,HN.out.2.trans (HB6.out.mono HN.out.2.size)⟩
        case measure =>
          have:=HH.out.2.2.1
          show m - ((j:Int) + 1).toNat < m - (j:Int).toNat
          omega
    · have hjn:m = j:=by omega
      subst hjn
      have f1:decide ((m:Int) < (m:Int)) = false:=decide_eq_false (by omega)
      have f1':decide (m < m) = false:=decide_eq_false (by omega)
      rw [show L.take m = L by rw [← HX.out.2.2.1,List.take_length]] at ha hr ⊢
      obtain ⟨E,hE⟩:∃ E,(Tr.entsL (nowK L)).length = E:=⟨_,rfl⟩
      obtain ⟨s1,s2,s3,s4⟩:=s0
      have hsc:s1 = N:=HX.out.2.2.2.2.2.2.2.1
      subst hsc
      rw [hE]
      have HR:=Lib.hid (And.intro ha (And.intro hr (And.intro hbr hE)))
      clear ha hr hbr hlt hj hE
      go_wp2_with fail
      refine (HSn.out wr HR.out.2.2.1).mono ?_
      rintro e w3 ⟨rfl,hb3⟩
      have HB:=Lib.hid (HR.out.2.2.1.trans (hb3.mono HR.out.2.2.1.size))
      have HB3:=Lib.hid hb3
      have hN:=HX.out.2.2.2.2.2.2.1
      clear hb3 HSn
      by_cases hEN:E = s1
      · have q1:((E:Int) == (s1:Int)) = true:=by rw [beq_iff_eq];omega
        have HQ:=Lib.hid (And.intro hEN hN)
        clear hEN hN
        go_wp2_with fail
        go_ret
        exact ⟨some (.br g l pre ks),rfl,NodeO.some (HX.out.2.2.2.2.2.2.2.2.below HB.out (Nat.le_refl _) HB.out.size),fun _ => rfl,fun h => absurd (by rw [HR.out.2.2.2,HQ.out.2,HQ.out.1]) h,HB.out⟩
      · have q1:((E:Int) == (s1:Int)) = false:=by rw [beq_eq_false_iff_ne];omega
        have HQ:=Lib.hid (And.intro hEN hN)
        have hrow3:RowP w3 w.heap.size (.slice D a d) ((nowK L).map (·.2)):=HR.out.2.1.block fun q hq => HB3.out.block q (HR.out.2.1.lt q hq).1
        have hrd:=hrow3.own.rd_at
        have hKR:KRow w3 k l pre w3.heap.size D (nowK L):=⟨HX.out.2.2.2.2.1,by simpa [ptrV,ndV,List.map_map,Function.comp_def] using hrd,fun x hx => by
          obtain ⟨mm,h1,h2,-⟩:=nowK_mem.1 hx
          exact ((HX.out.2.2.2.1 mm h1) x.2 h2).below HB.out (Nat.le_refl _) HB.out.size⟩
        have HJ:=Lib.hid (wjoined_c (c:=d) hKR (Nat.le_refl _) HR.out.1 (by have:=nowK_len L;have h2:=HR.out.1;have h3:=HX.out.2.2.1;omega) HX.out.2.2.2.2.2.1)
        clear hEN hN hrow3 hrd hKR
        go_wp2_with fail
        refine HJ.out.mono ?_
        rintro e w4 ⟨n,rfl,hU,hn4,hb4⟩
        have HF:=Lib.hid (And.intro hU (And.intro hn4 (HB.out.trans (hb4.mono HB.out.size))))
        clear hU hn4 hb4 HJ
        go_wp2_with fail
        go_ret
        exact ⟨n,rfl,HF.out.2.1,fun h => absurd (by rw [← HR.out.2.2.2,h,HQ.out.2]) HQ.out.1,fun _ => HF.out.1,HF.out.2.2⟩
def remK:KL→List Mt→KL
  | [],_ => []
  | x :: ks,[] => x :: remK ks []
  | x :: ks,m :: L => if m.a = x.1 then (m.n.map fun t => (x.1,t)).toList ++ remK ks L else x :: remK ks (m :: L)
theorem remK_nil (ks:KL):remK ks [] = ks:=by
  induction ks with
  | nil => rfl
  | cons x ks ih => rw [remK,ih]
theorem rowP_mono {w:World} {base base':Nat} {v:Value} {us:List T} (h:RowP w base v us) (hb:base'≤base):RowP w base' v us:=by
  rcases h with h | ⟨g,cap,cur,h1,h2,h3⟩
  · exact .inl h
  · exact .inr ⟨g,cap,cur,h1,Nat.le_trans hb h2,h3⟩
set_option maxRecDepth 1000000 in
set_option maxHeartbeats 8000000 in
theorem wremaining_c {w:World} {B k g l R m c:Nat} {pre:List Nat} {ks:KL} {A:Option Addr} {L:List Mt} (hn:Node w B k (.br g l pre ks)) (hB:B≤w.heap.size) (hrow:Lst 3 MtQ w R A L) (hR:R≤w.heap.size) (hm:L.length = m) (hc:m≤c) (hm6:m≤65536) :
    Calls Tryz.prog 112 #[.pointer (some ⟨g,0,none⟩),.slice A m c] w fun e w' => ∃ D a d,e = .returned (.slice D a d)∧(remK ks L).length = a∧RowP w' w.heap.size (.slice D a d) ((remK ks L).map (·.2))∧Below w.heap.size w w':=by
  have hwf:=hn.1
  have hsrt:=(Tr.kids_fit hwf).2
  have hk6:ks.length≤65536:=by
    cases hwf with
    | br _ _ _ _ _ hw => exact hw.len16
  obtain ⟨n,hnk⟩:∃ n,ks.length = n:=⟨_,rfl⟩
  have HSh:=Lib.hid (shape_cut hn hB hnk)
  have HX:=Lib.hid (And.intro hn (And.intro hB (And.intro hrow (And.intro hR (And.intro hm (And.intro hc (And.intro hsrt hnk)))))))
  have f2:=shape_places
  have hpn:=nptr_none
  have hn2:=nptr_no2
  have hm9:(m:Int)≤65536:=by omega
  have hn9:(n:Int)≤65536:=by omega
  clear hn hB hrow hR hm hc hwf hsrt hk6 hnk
  go_enter Tryz.func112,Tryz.ntmps112
  go_wp2_with fail
  refine HSh.out.mono ?_
  rintro e w1 ⟨lev,A1,n1,c1,A2,c2,dd,vv,rfl,hpl,hc2,hb1⟩
  have H1:=Lib.hid (And.intro hpl hb1)
  clear hpl hb1 HSh
  go_wp2_with fail
  go_loopw [1,5,13] (fun u q v wr => ∃ (i j a d cj mj:Nat) (D Aj:Option Addr) (acc:KL),u = .slice Aj mj cj∧q = .slice D a d∧v = .int .i64 (i:Int)∧i≤n∧(L.drop j).length = mj∧mj≤cj∧Lst 3 MtQ w R Aj (L.drop j)∧remK ks L = acc ++ remK (ks.drop i) (L.drop j)∧acc.length = a∧a≤i∧RowP wr w1.heap.size (.slice D a d) (acc.map (·.2))∧Below w1.heap.size w1 wr) (fun _ _ v _ => n - (intOf v).toNat)
  case atStart => exact ⟨0,0,0,0,c,m,none,A,[],rfl,rfl,rfl,Nat.zero_le _,HX.out.2.2.2.2.1,HX.out.2.2.2.2.2.1,HX.out.2.2.1,rfl,rfl,Nat.le_refl _,.inl ⟨rfl,rfl⟩,Below.refl _ _⟩
  case round =>
    obtain ⟨i,j,a,d,cj,mj,D,Aj,acc,rfl,rfl,rfl,hi,hmj,hcj,hLj,hrem,ha,hai,hr,hbr⟩:=hrel
    by_cases hlt:i < n
    · obtain ⟨x,hx⟩:=get_lt (us:=ks) (k:=i) (by rw [HX.out.2.2.2.2.2.2.2];exact hlt)
      have hxm:=List.mem_of_getElem? hx
      obtain ⟨b,off,hA,hb,hcell⟩:=H1.out.1 (by intro e;rw [Sn.intV,List.map_eq_nil_iff,List.map_eq_nil_iff] at e;rw [e] at hx;simp at hx)
      have z:=hcell i (.int .i64 (x.1:Int)) (by rw [Sn.intV,List.getElem?_map,List.getElem?_map,hx];rfl)
      have zr:=(hbr.cell (p:=⟨b,off + i,none⟩) hb).trans z
      have hget:(Sl.get ks (x.1:Int)).map (fun s => (⟨s.blk,0,none⟩:Addr)) = some ⟨x.2.blk,0,none⟩:=by rw [Sl.get_of_mem HX.out.2.2.2.2.2.2.1 hxm];rfl
      have hbw:=Below.andThen H1.out.2 hbr
      have HK:=Lib.hid (kid_br HX.out.1 HX.out.2.1 hbw (x.1:Int) hget)
      have hdr:ks.drop i = x :: ks.drop (i + 1):=by
        obtain ⟨hi',rfl⟩:=List.getElem?_eq_some_iff.1 hx
        exact List.drop_eq_getElem_cons hi'
      rw [hdr] at hrem
      subst hA
      have f1:decide ((i:Int) < (n:Int)) = true:=decide_eq_true (by omega)
      have f1':decide (i < n) = true:=decide_eq_true hlt
      have m1:(0:Int)≤(i:Int):=by omega
      have m2:(i:Int) < (n:Int):=by omega
      obtain ⟨ai,hai2⟩:∃ q:Nat,a≤65536∧q = a:=⟨a,by omega,rfl⟩
      have ha6:=hai2.1
      clear hai2
      have HI:=Lib.hid (And.intro hr (And.intro ha (And.intro hbr (And.intro hlt hai))))
      cases hL:L.drop j with
      | nil =>
        have hmj0:mj = 0:=by rw [← hmj,hL];rfl
        subst hmj0
        rw [hL] at hrem
        have HQ:=Lib.hid (show remK ks L = (acc ++ [x]) ++ remK (ks.drop (i + 1)) [] by rw [hrem,remK];simp)
        have HLd:=Lib.hid hL
        clear hx hxm hcell z hget hbw hdr hbr hr ha hai hlt hi hrem hb hLj hmj hL hcj
        go_wp2_with fail
        refine HK.out.mono ?_
        rintro e w2 ⟨rfl,nq,rfl⟩
        obtain ⟨W2,hW2⟩:∃ W2,W2 = wr.drewN nq:=⟨_,rfl⟩
        have hb2:Below wr.heap.size wr W2:=by rw [hW2];exact below_drewN nq (Below.refl _ _)
        rw [← hW2]
        have HR:=Lib.hid (And.intro (HI.out.1.block fun q hq => hb2.block q (HI.out.1.lt q hq).1) (And.intro HI.out.2.1 (Below.andThen HI.out.2.2.1 hb2)))
        clear hW2 HK nq
        go_wp2_with (at_builtin;refine wpList_append_rowP (base:=w1.heap.size) (v:=.slice D a d) (us:=acc.map (·.2)) (t:=x.2) (m:=a + 1) (by rfl) _ _ (by rfl) (by rfl) (by exact HR.out.1.block fun q hq => (below_alloc W2 _).block q (HR.out.1.lt q hq).1) (by rw [List.length_map,HR.out.2.1]) _ _ (by rfl) (by rw [World.cell?_alloc_new];rfl) (by rfl) (by rw [List.length_map,HR.out.2.1];omega) (by have:=HR.out.2.2.size;simp;omega) ?_;intro D5 d5 w5 hrow5 hgrow5 hat5;have hg5:Below w1.heap.size w1 w5:=Below.grown (HR.out.2.2.trans ((below_alloc W2 _).mono HR.out.2.2.size)) hgrow5 (by have:=HR.out.2.2.size;simp;omega) (fun q hq => (HR.out.1.lt q hq).2);have HN:=Lib.hid (And.intro hrow5 hg5);clear hrow5 hgrow5 hat5 hg5)
        go_roundw
        case rel => exact ⟨i + 1,j,a + 1,d5,cj,0,D5,Aj,acc ++ [x],rfl,rfl,by first | rfl | go_num,by have:=HI.out.2.2.2.1;omega,by rw [HLd.out];rfl,Nat.zero_le _,by rw [HLd.out];exact fun h => absurd rfl h,by rw [HLd.out];exact HQ.out,by rw [List.length_append,HI.out.2.1];rfl,by have:=HI.out.2.2.2.2;omega,by rw [List.map_append];exact HN.out.1,HN.out.2⟩
        case measure =>
          have:=HI.out.2.2.2.1
          show n - ((i:Int) + 1).toNat < n - (i:Int).toNat
          omega
      | cons m0 L2 =>
        have hmj1:mj = L2.length + 1:=by rw [← hmj,hL];rfl
        rw [hL] at hrem hLj
        obtain ⟨bb,oo,hAj,hbb,hq⟩:=hLj (by simp)
        obtain ⟨q0,-,q2⟩:=hq 0 m0 rfl
        simp only [Nat.zero_mul,Nat.add_zero] at q0 q2
        have hbR:bb < w.heap.size:=Nat.lt_of_lt_of_le hbb HX.out.2.2.2.1
        have e0:∀ W,Below wr.heap.size wr W→W.cell? ⟨bb,oo,none⟩ = some (.int .i64 (m0.a:Int)):=fun W h => ((Below.andThen hbw h).cell (p:=⟨bb,oo,none⟩) hbR).trans q0
        have e2:∀ W,Below wr.heap.size wr W→W.cell? ⟨bb,oo + 2,none⟩ = some (.pointer (rootP m0.n)):=fun W h => ((Below.andThen hbw h).cell (p:=⟨bb,oo + 2,none⟩) hbR).trans q2
        have hd1:L.drop (j + 1) = L2:=by rw [← List.drop_drop,hL];rfl
        have hA4:Lst 3 MtQ w R (if cj = 1 then some ⟨bb,oo,none⟩ else some ⟨bb,oo + 3,none⟩) L2:=fun hne => by
          have hl2:1≤L2.length:=List.length_pos_iff.2 hne
          rw [if_neg (by omega)]
          refine ⟨bb,oo + 3,rfl,hbb,fun i e he => ?_⟩
          obtain ⟨r0,r1,r2⟩:=hq (i + 1) e (by simpa using he)
          refine ⟨?_,?_,?_⟩
          · show w.cell? ⟨bb,oo + 3 + i * 3 + 0,none⟩ = _
            rw [show oo + 3 + i * 3 + 0 = oo + (i + 1) * 3 + 0 by omega];exact r0
          · show w.cell? ⟨bb,oo + 3 + i * 3 + 1,none⟩ = _
            rw [show oo + 3 + i * 3 + 1 = oo + (i + 1) * 3 + 1 by omega];exact r1
          · show w.cell? ⟨bb,oo + 3 + i * 3 + 2,none⟩ = _
            rw [show oo + 3 + i * 3 + 2 = oo + (i + 1) * 3 + 2 by omega];exact r2
        have HD:=Lib.hid (And.intro hL (And.intro hd1 (And.intro hA4 hmj1)))
        subst hAj
        have g1:decide ((0:Int) < (mj:Int)) = true:=decide_eq_true (by omega)
        have g1':decide (0 < mj) = true:=decide_eq_true (by omega)
        have g2:(0:Int) < (mj:Int):=by omega
        have hmj6:(mj:Int)≤65536:=by have h6:=HX.out.2.2.2.2.1;have h7:=hmj;rw [List.length_drop] at h7;omega
        have HQ0:=Lib.hid hrem
        have HE:=Lib.hid (And.intro e0 e2)
        have HLj:=Lib.hid (show Lst 3 MtQ w R (some ⟨bb,oo,none⟩) (m0 :: L2) from fun _ => ⟨bb,oo,rfl,hbb,hq⟩)
        have HC:=Lib.hid hcj
        clear hx hxm hcell z hget hbw hdr hbr hr ha hai hlt hi hrem hb hLj hmj hL hbb hq hbR hd1 hA4 hmj1 q0 q2 e0 e2 hcj
        by_cases hax:m0.a = x.1
        · have b1:((m0.a:Int) == (x.1:Int)) = true:=by rw [beq_iff_eq];omega
          have HQ:=Lib.hid (show remK ks L = acc ++ ((m0.n.map fun t => (x.1,t)).toList ++ remK (ks.drop (i + 1)) L2) by rw [HQ0.out,remK,if_pos hax])
          clear HQ0 hax
          go_wp2_with fail
          refine HK.out.mono ?_
          rintro e w2 ⟨rfl,nq,rfl⟩
          obtain ⟨W2,hW2⟩:∃ W2,W2 = wr.drewN nq:=⟨_,rfl⟩
          have hb2:Below wr.heap.size wr W2:=by rw [hW2];exact below_drewN nq (Below.refl _ _)
          rw [← hW2]
          have HR:=Lib.hid (And.intro (HI.out.1.block fun q hq => hb2.block q (HI.out.1.lt q hq).1) (And.intro HI.out.2.1 (Below.andThen HI.out.2.2.1 hb2)))
          clear hW2 HK nq
          have z0:=HE.out.1 W2 hb2
          have z2:=HE.out.2 W2 hb2
          clear HE hb2
          cases hmn:m0.n with
          | none =>
            rw [hmn] at z2 HQ
            have HQ1:=Lib.hid (show remK ks L = acc ++ remK (ks.drop (i + 1)) L2 by rw [HQ.out];simp)
            simp only [rootP] at z2
            clear hmn HQ
            go_wp2_with fail
            go_quiet (fail)
            go_wp2_with fail
            go_roundw
            case rel => exact ⟨i + 1,j + 1,a,d,cj - 1,mj - 1,D,_,acc,rfl,rfl,by first | rfl | go_num,by have:=HI.out.2.2.2.1;omega,by rw [HD.out.2.1,HD.out.2.2.2];rfl,by have:=HC.out;omega,by rw [HD.out.2.1];exact HD.out.2.2.1,by rw [HD.out.2.1];exact HQ1.out,HR.out.2.1,by have:=HI.out.2.2.2.2;omega,HR.out.1.block fun _ _ => rfl,below_drewN _ HR.out.2.2⟩
            case measure =>
              have:=HI.out.2.2.2.1
              show n - ((i:Int) + 1).toNat < n - (i:Int).toNat
              omega
          | some t =>
            rw [hmn] at z2 HQ
            have HQ1:=Lib.hid (show remK ks L = (acc ++ [(x.1,t)]) ++ remK (ks.drop (i + 1)) L2 by rw [HQ.out];simp)
            simp only [rootP] at z2
            clear hmn HQ
            go_wp2_with fail
            go_quiet (fail)
            obtain ⟨W3,hW3⟩:∃ W3,W3 = W2.drewN nq:=⟨_,rfl⟩
            have HR3:=Lib.hid (show RowP W3 w1.heap.size (.slice D a d) (acc.map (·.2))∧Below w1.heap.size w1 W3 by rw [hW3];exact ⟨HR.out.1.block fun _ _ => rfl,below_drewN _ HR.out.2.2⟩)
            rw [← hW3]
            clear hW3 z0 z2
            go_wp2_with (at_builtin;refine wpList_append_rowP (base:=w1.heap.size) (v:=.slice D a d) (us:=acc.map (·.2)) (t:=t) (m:=a + 1) (by rfl) _ _ (by rfl) (by rfl) (by exact HR3.out.1.block fun q hq => (below_alloc W3 _).block q (HR3.out.1.lt q hq).1) (by rw [List.length_map,HR.out.2.1]) _ _ (by rfl) (by rw [World.cell?_alloc_new];rfl) (by rfl) (by rw [List.length_map,HR.out.2.1];omega) (by have:=HR3.out.2.size;simp;omega) ?_;intro D5 d5 w5 hrow5 hgrow5 hat5;have hg5:Below w1.heap.size w1 w5:=Below.grown (HR3.out.2.trans ((below_alloc W3 _).mono HR3.out.2.size)) hgrow5 (by have:=HR3.out.2.size;simp;omega) (fun q hq => (HR3.out.1.lt q hq).2);have HN:=Lib.hid (And.intro hrow5 hg5);clear hrow5 hgrow5 hat5 hg5)
            go_roundw
            case rel => exact ⟨i + 1,j + 1,a + 1,d5,cj - 1,mj - 1,D5,_,acc ++ [(x.1,t)],rfl,rfl,by first | rfl | go_num,by have:=HI.out.2.2.2.1;omega,by rw [HD.out.2.1,HD.out.2.2.2];rfl,by have:=HC.out;omega,by rw [HD.out.2.1];exact HD.out.2.2.1,by rw [HD.out.2.1];exact HQ1.out,by rw [List.length_append,HR.out.2.1];rfl,by have:=HI.out.2.2.2.2;omega,by rw [List.map_append];exact HN.out.1,HN.out.2⟩
            case measure =>
              have:=HI.out.2.2.2.1
              show n - ((i:Int) + 1).toNat < n - (i:Int).toNat
              omega
        · have b1:((m0.a:Int) == (x.1:Int)) = false:=by rw [beq_eq_false_iff_ne];omega
          have HQ:=Lib.hid (show remK ks L = (acc ++ [x]) ++ remK (ks.drop (i + 1)) (m0 :: L2) by rw [HQ0.out,remK,if_neg hax];simp)
          clear HQ0 hax
          go_wp2_with fail
          refine HK.out.mono ?_
          rintro e w2 ⟨rfl,nq,rfl⟩
          obtain ⟨W2,hW2⟩:∃ W2,W2 = wr.drewN nq:=⟨_,rfl⟩
          have hb2:Below wr.heap.size wr W2:=by rw [hW2];exact below_drewN nq (Below.refl _ _)
          rw [← hW2]
          have HR:=Lib.hid (And.intro (HI.out.1.block fun q hq => hb2.block q (HI.out.1.lt q hq).1) (And.intro HI.out.2.1 (Below.andThen HI.out.2.2.1 hb2)))
          clear hW2 HK nq
          have z0:=HE.out.1 W2 hb2
          clear HE hb2
          go_wp2_with (at_builtin;refine wpList_append_rowP (base:=w1.heap.size) (v:=.slice D a d) (us:=acc.map (·.2)) (t:=x.2) (m:=a + 1) (by rfl) _ _ (by rfl) (by rfl) (by exact HR.out.1.block fun q hq => (below_alloc W2 _).block q (HR.out.1.lt q hq).1) (by rw [List.length_map,HR.out.2.1]) _ _ (by rfl) (by rw [World.cell?_alloc_new];rfl) (by rfl) (by rw [List.length_map,HR.out.2.1];omega) (by have:=HR.out.2.2.size;simp;omega) ?_;intro D5 d5 w5 hrow5 hgrow5 hat5;have hg5:Below w1.heap.size w1 w5:=Below.grown (HR.out.2.2.trans ((below_alloc W2 _).mono HR.out.2.2.size)) hgrow5 (by have:=HR.out.2.2.size;simp;omega) (fun q hq => (HR.out.1.lt q hq).2);have HN:=Lib.hid (And.intro hrow5 hg5);clear hrow5 hgrow5 hat5 hg5)
          go_roundw
          case rel => exact ⟨i + 1,j,a + 1,d5,cj,mj,D5,_,acc ++ [x],rfl,rfl,by first | rfl | go_num,by have:=HI.out.2.2.2.1;omega,by rw [HD.out.1,HD.out.2.2.2];rfl,HC.out,by rw [HD.out.1];exact HLj.out,by rw [HD.out.1];exact HQ.out,by rw [List.length_append,HI.out.2.1];rfl,by have:=HI.out.2.2.2.2;omega,by rw [List.map_append];exact HN.out.1,HN.out.2⟩
          case measure =>
            have:=HI.out.2.2.2.1
            show n - ((i:Int) + 1).toNat < n - (i:Int).toNat
            omega
    · have hjn:n = i:=by omega
      subst hjn
      have f1:decide ((n:Int) < (n:Int)) = false:=decide_eq_false (by omega)
      have f1':decide (n < n) = false:=decide_eq_false (by omega)
      rw [show ks.drop n = [] by rw [← HX.out.2.2.2.2.2.2.2,List.drop_length]] at hrem
      have hrem2:remK ks L = acc:=by rw [hrem];simp [remK]
      rw [← hrem2] at ha hr
      have HR:=Lib.hid (And.intro ha (And.intro (rowP_mono hr H1.out.2.size) (Below.andThen H1.out.2 hbr)))
      clear ha hr hbr hrem hrem2 hlt hi hmj hcj hLj hai
      go_wp2_with fail
      go_ret
      exact ⟨D,a,d,rfl,HR.out.1,HR.out.2.1,HR.out.2.2⟩
theorem nodeP_one {w:World} {B B' k:Nat} {x y:Option T} (hx:NodeO w B k x) (hy:NodeO w B' k y):(binOp .eql 81 (.pointer (rootP x)) (.pointer (rootP y))).run Tryz.prog w = .ok (.bool (decide (rootP x = rootP y))) w:=by
  cases x with
  | none =>
    cases y with
    | none => rw [decide_eq_true rfl];exact nptr_none w
    | some t => rw [decide_eq_false (by simp [rootP])];exact nptr_no1 w _
  | some s =>
    cases y with
    | none => rw [decide_eq_false (by simp [rootP])];exact nptr_no2 w _
    | some t =>
      by_cases e:s.blk = t.blk
      · have h:rootP (some s) = rootP (some t):=by simp [rootP,e]
        rw [decide_eq_true h,h]
        exact ptr_eq w _
      · have h:¬ rootP (some s) = rootP (some t):=by
          intro h'
          injection h' with h'
          injection h' with h'
          exact e h'
        rw [decide_eq_false h]
        exact nptr_ne (hx s rfl).trb (hy t rfl).trb e
def MtOk (w:World) (k:Nat) (m:Mt):Prop:=Node w w.heap.size k m.x∧NodeO w w.heap.size k m.n∧∀ e∈Tr.entsO m.n,e∈m.x.ents
structure MetLay (W:World) (r:Nat) (L:List Mt):Prop where
  i0:∀ q u,W.cell? ⟨r,q * 3,none⟩ = some u→∃ n,u = .int .i64 n
  p1:∀ q u,W.cell? ⟨r,q * 3 + 1,none⟩ = some u→∃ p,u = .pointer p
  p2:∀ q u,W.cell? ⟨r,q * 3 + 2,none⟩ = some u→∃ p,u = .pointer p
  pr:∀ q a b,W.cell? ⟨r,q * 3 + 1,none⟩ = some (.pointer (some a))→W.cell? ⟨r,q * 3 + 2,none⟩ = some (.pointer (some b))→∃ m∈L,a = ⟨m.x.blk,0,none⟩∧rootP m.n = some b
theorem mod3 (i:Nat):∃ q,i = q * 3∨i = q * 3 + 1∨i = q * 3 + 2:=⟨i / 3,by omega⟩
theorem MetLay.noU {W:World} {r:Nat} {L:List Mt} (h:MetLay W r L):NoU W r:=by
  intro i u hi
  obtain ⟨q,e | e | e⟩:=mod3 i
  · rw [e] at hi;obtain ⟨n,rfl⟩:=h.i0 q u hi;exact ⟨fun _ e => (by cases e),fun _ e => (by cases e)⟩
  · rw [e] at hi;obtain ⟨p,rfl⟩:=h.p1 q u hi;exact ⟨fun _ e => (by cases e),fun _ e => (by cases e)⟩
  · rw [e] at hi;obtain ⟨p,rfl⟩:=h.p2 q u hi;exact ⟨fun _ e => (by cases e),fun _ e => (by cases e)⟩
def metZ (i:Nat) (c:Value):Prop:=if i = 0 then ∃ n,c = .int .i64 n else c = .pointer none
section
variable {w w':World} {e:TypeId} {base k:Nat} {L:List Mt}
theorem RowZ.metLay {v:Value} {r:Nat} (h:RowZ e 3 MtQ metZ w base v L) (hr:v.ownBlock = some r):MetLay w r L:=by
  rcases h with ⟨rfl,-⟩ | ⟨g,cap,cur,vs,rfl,-,hh,-,-,-,hvs,hc,hz⟩
  · simp [Value.ownBlock] at hr
  · simp only [Value.ownBlock,Option.some.injEq] at hr
    subst hr
    have hcell:∀ i,w.cell? ⟨g,i,none⟩ = cur[i]?:=fun i => cell_of_row w g i cur _ (0,0) hh
    have hin:∀ i,i < L.length * 3→cur[i]? = vs[i]?:=fun i hi => by
      rw [← hvs,List.getElem?_take,if_pos hi]
      simp
    have A:∀ q m,L[q]? = some m→cur[q * 3]? = some (.int .i64 (m.a:Int))∧cur[q * 3 + 1]? = some (.pointer (some ⟨m.x.blk,0,none⟩))∧cur[q * 3 + 2]? = some (.pointer (rootP m.n)):=fun q m hm => by
      obtain ⟨q0,q1,q2⟩:=hc.2 q m hm
      have hj:=(List.getElem?_eq_some_iff.1 hm).1
      exact ⟨(hin _ (by omega)).trans q0,(hin _ (by omega)).trans q1,(hin _ (by omega)).trans q2⟩
    have Z0:∀ q u,L.length≤q→cur[q * 3]? = some u→∃ n,u = .int .i64 n:=fun q u hq hu => by
      have:=hz (q * 3) u (by omega) hu
      rw [show q * 3 % 3 = 0 by omega] at this
      exact this
    have Z1:∀ q u,L.length≤q→cur[q * 3 + 1]? = some u→u = .pointer none:=fun q u hq hu => by
      have:=hz (q * 3 + 1) u (by omega) hu
      rw [show (q * 3 + 1) % 3 = 1 by omega] at this
      exact this
    have Z2:∀ q u,L.length≤q→cur[q * 3 + 2]? = some u→u = .pointer none:=fun q u hq hu => by
      have:=hz (q * 3 + 2) u (by omega) hu
      rw [show (q * 3 + 2) % 3 = 2 by omega] at this
      exact this
    refine ⟨fun q u hu => ?_,fun q u hu => ?_,fun q u hu => ?_,fun q a b ha hb => ?_⟩
    · rw [hcell] at hu
      rcases Nat.lt_or_ge q L.length with hq | hq
      · obtain ⟨m,hm⟩:=get_lt hq
        rw [(A q m hm).1] at hu
        cases hu
        exact ⟨_,rfl⟩
      · exact Z0 q u hq hu
    · rw [hcell] at hu
      rcases Nat.lt_or_ge q L.length with hq | hq
      · obtain ⟨m,hm⟩:=get_lt hq
        rw [(A q m hm).2.1] at hu
        cases hu
        exact ⟨_,rfl⟩
      · exact ⟨_,Z1 q u hq hu⟩
    · rw [hcell] at hu
      rcases Nat.lt_or_ge q L.length with hq | hq
      · obtain ⟨m,hm⟩:=get_lt hq
        rw [(A q m hm).2.2] at hu
        cases hu
        exact ⟨_,rfl⟩
      · exact ⟨_,Z2 q u hq hu⟩
    · rw [hcell] at ha hb
      rcases Nat.lt_or_ge q L.length with hq | hq
      · obtain ⟨m,hm⟩:=get_lt hq
        rw [(A q m hm).2.1] at ha
        rw [(A q m hm).2.2] at hb
        refine ⟨m,List.mem_of_getElem? hm,?_,?_⟩
        · cases ha
          rfl
        · simpa using hb
      · have:=Z1 q _ hq ha
        cases this
theorem RowZ.met_keeps {v:Value} (h:RowZ e 3 MtQ metZ w base v L) (hne:e≠81) (hgr:w.grownBy w' v.ownBlock):Kp k w w' :=
  kp_row hgr fun _ hv => ⟨h.nt hv hne,(h.metLay hv).noU⟩
theorem MtOk.kp {m:Mt} (h:MtOk w k m) (hk:Kp k w w') (hs:w.heap.size≤w'.heap.size):MtOk w' k m :=
  ⟨(hk _ _ (Nat.le_refl _) h.1).below (C:=w.heap.size) (Below.refl _ _) (Nat.le_refl _) hs,fun t ht => (hk _ _ (Nat.le_refl _) (h.2.1 t ht)).below (C:=w.heap.size) (Below.refl _ _) (Nat.le_refl _) hs,h.2.2⟩
end
end Go.Proofs.YtkeepngaaleakaaGreatDoor
