import Derived.Test.YtkeepngaaleakaaGreatDoorM11
import Derived.Test.YtkeepngaaleakaaGreatDoorM06
namespace Go.Proofs.YtkeepngaaleakaaGreatDoor.Sn
open Go.ChangeShapes Go.WideShapes Go.ChangeAt Go.RowKit
set_option maxRecDepth 100000 in
theorem sDel_sp {w:World} {B b k:Nat} {L:Al} (wf:Sl.Wf k L) (hd:Sl.dense k L = false) (h:Sp w B b k L) (hB:B≤w.heap.size) (a:Nat) (ha:a < 2 ^ k) (u:Option Addr) (hg:Sl.get L (a:Int) = some u) :
    Calls Tryz.prog 165 #[.pointer (some ⟨b,0,none⟩),.int .i64 (a:Int)] w fun e w' => ∃ p,e = .returned (.tuple #[.pointer (some ⟨p,0,none⟩),.int .i64 0])∧At w' w'.heap.size p k (Sl.del a L)∧Below w.heap.size w w':=by
  have hh:Sl.has L (a:Int) = true:=by simp [Sl.has,hg]
  obtain ⟨m,hm,hat⟩:=Sl.get_at wf.srt hg
  have hlt:=lt_get hat
  have Hp:Hid (Sl.del a L = L.take (Sl.idx L (a:Int)) ++ L.drop (Sl.idx L (a:Int) + 1)):=Lib.hid (Sl.del_some wf.srt hg)
  have Hwf:=Lib.hid (wf.del a)
  have Hd:Hid (Sl.dense k (Sl.del a L) = false):=Lib.hid (by
    have:=Sl.length_del wf.srt hg
    rcases e:Sl.dense k (Sl.del a L) with _ | _
    · rfl
    · rw [Sl.dense_more e (by omega)] at hd
      exact hd)
  obtain ⟨i,hi⟩:∃ i,Sl.idx L (a:Int) = i:=⟨_,rfl⟩
  rw [hi] at Hp hlt
  have H1:=Lib.hid (sIsAddr_c (d:=false) wf.k1 wf.k16 h (a:Int) true (isA_nat ha))
  have H2:=Lib.hid (sFind_sp wf h (a:Int) i true hi hh)
  have H3:=Lib.hid (fun n => sDense_c (w:=w.drewN n) (d:=false) (L:=L) (k:=k) (B:=B) (b:=b) h)
  have H4:=Lib.hid (fun n => sWithoutCell_c (w:=w.drewN n) wf h hB i hlt)
  clear wf h ha hg hh hi hlt hat hm hd
  go_enter Tryz.func165,Tryz.ntmps165
  go_wp2_with (first
    | (go_at_call 221;refine H1.out.mono ?_;rintro e w' ⟨rfl,rfl⟩)
    | (go_at_call 222;refine H2.out.mono ?_;rintro e w' ⟨rfl,n,rfl⟩)
    | (go_at_call 148;refine (H3.out n).mono ?_;rintro e w' ⟨rfl,rfl⟩)
    | (go_at_call 223;refine (H4.out n).mono ?_;rintro e w2 ⟨g,rfl,hsp,hb2⟩;have HS:=Lib.hid (And.intro hsp hb2);clear hsp hb2))
  go_ret2
  refine ⟨g,rfl,⟨Hwf.out,?_⟩,Below.trans (below_drewN n (Below.refl _ w)) HS.out.2⟩
  rw [Hd.out,Hp.out]
  exact HS.out.1
set_option maxRecDepth 100000 in
set_option maxHeartbeats 2000000 in
theorem sDel_de {w:World} {B b k:Nat} {L:Al} (wf:Sl.Wf k L) (hd:Sl.dense k L = true) (h:De w B b k L) (hB:B≤w.heap.size) (a:Nat) (ha:a < 2 ^ k) (u:Option Addr) (hg:Sl.get L (a:Int) = some u) :
    Calls Tryz.prog 165 #[.pointer (some ⟨b,0,none⟩),.int .i64 (a:Int)] w fun e w' => ∃ p,e = .returned (.tuple #[.pointer (some ⟨p,0,none⟩),.int .i64 0])∧At w' w'.heap.size p k (Sl.del a L)∧Below w.heap.size w w':=by
  have hh:Sl.has L (a:Int) = true:=by simp [Sl.has,hg]
  have Hwf:=Lib.hid (wf.del a)
  have Hsr:=Lib.hid wf.srt
  have Hne:Hid (Sl.del a L≠[]):=Lib.hid (by
    have h1:=Sl.length_del wf.srt hg
    have h2:=(Sl.dense_k hd).2
    have h3:2 ^ 1≤2 ^ k:=Nat.pow_le_pow_right (by omega) wf.k1
    intro e
    rw [e] at h1
    simp at h1
    omega)
  have H1:=Lib.hid (sIsAddr_c (d:=true) wf.k1 wf.k16 h (a:Int) true (isA_nat ha))
  have H2:=Lib.hid (sFind_de wf h a ha true hh)
  have H3:=Lib.hid (fun n => sDense_c (w:=w.drewN n) (d:=true) (L:=L) (k:=k) (B:=B) (b:=b) h)
  obtain ⟨hbB,hk,hL,P,C,c',c0,c1,c2,c3,k2,⟨Ap,np,cp,hP⟩,hC⟩:=h
  have hm:=Sl.mask_lt (wf.lt64 hk)
  have hp2:2 ^ k≤2 ^ 6:=Nat.pow_le_pow_right (n:=2) (by omega) hk
  have hpa:2 ^ a < 18446744073709551616:=Nat.lt_of_lt_of_le (Nat.pow_lt_pow_right (by omega) (show a < 64 by omega)) (by omega)
  have hw:IntKind.u64.wrap (2 ^ a) = ((2 ^ a:Nat):Int):=by
    rw [show (2:Int) ^ a = ((2 ^ a:Nat):Int) by simp]
    generalize 2 ^ a = P at *
    rw [IntKind.wrap_u64];omega
  have hor:=Mk.andNot_u64 (Sl.mask L) (2 ^ a) (by omega) hpa
  have Hm:Hid (Sl.mask (Sl.del a L) = Mk.less (Sl.mask L) (2 ^ a)):=Lib.hid (Sl.mask_del wf.srt a)
  obtain ⟨m,hmm⟩:∃ m,2 ^ k = m:=⟨_,rfl⟩
  have Hmm:=Lib.hid hmm
  rw [hmm] at c3 hp2 hC k2 ha
  have hrl:=Sl.row_length none m L
  have hrne:Sl.row none m L≠[]:=by intro e;rw [e] at hrl;simp at hrl;omega
  have HA:=Lib.hid (And.intro hC (And.intro hrl hrne))
  have q0:∀ w',Below w.heap.size w w'→w'.cell? ⟨b,0,none⟩ = some (.int .i64 (k:Int)):=fun w' hb => (hb.cell (p:=⟨b,0,none⟩) (by show b < _;omega)).trans c0
  have q1:∀ w',Below w.heap.size w w'→w'.cell? ⟨b,1,none⟩ = some (.int .u64 (Sl.mask L:Int)):=fun w' hb => (hb.cell (p:=⟨b,1,none⟩) (by show b < _;omega)).trans c1
  have q3:∀ w',Below w.heap.size w w'→w'.cell? ⟨b,3,none⟩ = some (.slice C m c'):=fun w' hb => (hb.cell (p:=⟨b,3,none⟩) (by show b < _;omega)).trans c3
  have i1:(0:Int)≤(a:Int):=by omega
  have i2:(a:Int) < (m:Int):=by omega
  have ha64:a < 64:=by omega
  have hk7:Hid (k≤6):=Lib.hid hk
  generalize Mk.less (Sl.mask L) (2 ^ a) = q at *
  generalize 2 ^ a = Q at *
  generalize Sl.mask L = hs at *
  clear wf hd hL hC c0 c1 c2 c3 hmm hrl hrne hpa hm k2 hk hP hg hh
  go_enter Tryz.func165,Tryz.ntmps165
  go_wp2_with (first
    | (go_at_call 221;refine H1.out.mono ?_;rintro e w' ⟨rfl,rfl⟩)
    | (go_at_call 222;refine H2.out.mono ?_;rintro e w' ⟨rfl,n,rfl⟩)
    | (go_at_call 148;refine (H3.out n).mono ?_;rintro e w' ⟨rfl,rfl⟩))
  go_region_held (fun w' => Below w.heap.size w w') (((repeat (first | refine Below.drew ?_ | refine Below.alloc ?_ (by first | omega | (simp;done) | (simp;omega)) _ | refine Below.setCell ?_ (by first | omega | (simp;done) | (simp;omega)) _));first | exact Below.refl _ _ | assumption | exact below_drewN _ (Below.refl _ _)))
    (first
      | (go_at_call 224
         refine (clone_n (Sl.row none m L) _ m _ B _ HA.out.2.1 (by first | omega | (simp;done) | (simp;omega)) (HA.out.1.below (by ((repeat (first | refine Below.drew ?_ | refine Below.alloc ?_ (by first | omega | (simp;done) | (simp;omega)) _ | refine Below.setCell ?_ (by first | omega | (simp;done) | (simp;omega)) _));first | exact Below.refl _ _ | assumption | exact below_drewN _ (Below.refl _ _))) hB (Nat.le_refl _)).rd HA.out.2.2 (by rw [HA.out.2.1];omega)).mono ?_
         rintro e w2 ⟨g,d,rfl,hown,hb1⟩
         have hB1:=Below.andThen (show Below w.heap.size w _ by ((repeat (first | refine Below.drew ?_ | refine Below.alloc ?_ (by first | omega | (simp;done) | (simp;omega)) _ | refine Below.setCell ?_ (by first | omega | (simp;done) | (simp;omega)) _));first | exact Below.refl _ _ | assumption | exact below_drewN _ (Below.refl _ _))) hb1
         have HO:=Lib.hid (hown.mono (show w.heap.size≤_ by first | omega | (simp;done) | (simp;omega)))
         have hs1:=hB1.size
         clear hown))
  have hO:Outm (w2.alloc (.cells #[.int .i64 (k:Int),.int .u64 (q:Int),.slice none 0 0,.slice (some ⟨g,0,none⟩) m d] 277)) w.heap.size w2.heap.size g k q m d (.slice none 0 0) (Sl.row none m L):=outm_new hs1 HO.out HA.out.2.1
  have hBw:=(hB1.alloc hs1 (.cells #[.int .i64 (k:Int),.int .u64 (q:Int),.slice none 0 0,.slice (some ⟨g,0,none⟩) m d] 277))
  generalize (w2.alloc (.cells #[.int .i64 (k:Int),.int .u64 (q:Int),.slice none 0 0,.slice (some ⟨g,0,none⟩) m d] 277)) = W at *
  generalize w2.heap.size = p at *
  obtain ⟨⟨y,hy⟩,hf⟩:=outm_cell (i:=a) hO ha
  have hO2:Outm (W.setCell ⟨g,a,none⟩ (Value.pointer none)) w.heap.size p g k q m d (.slice none 0 0) ((Sl.row none m L).set a none)∧Below w.heap.size W (W.setCell ⟨g,a,none⟩ (Value.pointer none)):=outm_put (i:=a) none hO
  have hc3:=hO.2.2.2.2.1
  have HF:=Lib.hid (And.intro hO2.1 (Below.trans hBw (hO2.2.mono (Nat.le_refl _))))
  clear hO2 hO hBw hB1 hb1
  have HD:Hid (Rp (W.setCell ⟨g,a,none⟩ (Value.pointer none)) (W.setCell ⟨g,a,none⟩ (Value.pointer none)).heap.size p k (Sl.del a L) true):=Lib.hid (by
    obtain ⟨⟨b1,b2,b3,b4⟩,y0,y1,y2,y3,y4,y5,y6⟩:=HF.out.1
    have hr:=y5.rdE_at
    have hdl:m≤d:=by
      obtain ⟨_,_,hv,hle,_⟩:=y5.rd
      injection hv with _ e2 e3
      rw [← e2,← e3] at hle
      exact hle
    refine ⟨b4,hk7.out,Hne.out,.slice none 0 0,some ⟨g,0,none⟩,d,y0,by rw [Hm.out];exact y1,y2,by rw [Hmm.out];exact y3,by rw [Hmm.out];exact hdl,⟨none,0,0,rfl⟩,?_⟩
    rw [Hmm.out,Sl.row_del Hsr.out]
    exact hr)
  go_wp2_with (go_at_call 225;refine (sKept_c (d:=true) Hwf.out HD.out (Nat.le_refl _)).mono ?_;rintro e w3 ⟨p2,rfl,hrp,hb3⟩;have HK:=Lib.hid (And.intro hrp hb3);clear hrp hb3)
  go_ret2
  exact ⟨p2,rfl,⟨Hwf.out,HK.out.1⟩,Below.andThen HF.out.2 HK.out.2⟩
theorem sDel_c {w:World} {B b k:Nat} {L:Al} (h:At w B b k L) (hB:B≤w.heap.size) (a:Nat) (ha:a < 2 ^ k) (hg:Sl.has L (a:Int) = true) :
    Calls Tryz.prog 165 #[.pointer (some ⟨b,0,none⟩),.int .i64 (a:Int)] w fun e w' => ∃ p,e = .returned (.tuple #[.pointer (some ⟨p,0,none⟩),.int .i64 0])∧At w' w'.heap.size p k (Sl.del a L)∧Below w.heap.size w w':=by
  obtain ⟨wf,hr⟩:=h
  obtain ⟨u,hu⟩:=Option.isSome_iff_exists.1 hg
  rcases hd:Sl.dense k L with _ | _
  · rw [hd] at hr
    exact sDel_sp wf hd hr hB a ha u hu
  · rw [hd] at hr
    exact sDel_de wf hd hr hB a ha u hu
end Go.Proofs.YtkeepngaaleakaaGreatDoor.Sn
namespace Go.Proofs.YtkeepngaaleakaaGreatDoor
open Go.ChangeShapes Go.WideShapes Go.ChangeAt Go.RowKit
open Tr (T S4)
theorem ents_pos {k:Nat} {t:T} (h:Tr.Wf k t):1≤t.ents.length:=by
  rcases Nat.eq_zero_or_pos t.ents.length with h0 | h0
  · exact absurd (List.eq_nil_of_length_eq_zero h0) h.ne
  · exact h0
theorem sumsAt_kids {w:World} {B k:Nat} {ks:List (Nat × T)} (h:∀ x∈ks,Node w B k x.2):SumsAt w B (Sl.things (kidL ks)) (ks.map fun x => Tr.sums x.2.ents):=by
  refine ⟨by simp [Sl.things,kidL],fun i s hs => ?_⟩
  simp only [List.getElem?_map,Option.map_eq_some_iff] at hs
  obtain ⟨x,hx,rfl⟩:=hs
  obtain ⟨wf,hm⟩:=h x (List.mem_of_getElem? hx)
  obtain ⟨kp,hnd⟩:=hm.nd
  refine ⟨?_,x.2.blk,?_,hnd.1,hnd.2.2.2.2.2⟩
  · rw [Tr.sums_c];have:=ents_pos wf;omega
  · rw [kidL_things];simp [hx,at0]
theorem nput_c {w:World} {B g l k:Nat} {pre:List Nat} {ks:List (Nat × T)} {t:T} (hn:Node w B k (.br g l pre ks)) (ht:Node w B k t) (hB:B≤w.heap.size) (hp:Z.part pre t.pre≤(l:Int)) (hlv:t.lv≤l)
    (hc:(Tr.entsL ks).length + t.ents.length < 18446744073709551616) :
    Calls Tryz.prog 155 #[.pointer (some ⟨g,0,none⟩),ndV t] w fun e w' =>
      ∃ g',e = .returned (.pointer (some ⟨g',0,none⟩))∧Node w' w'.heap.size k (.br g' l pre (Sl.put (Z.addr t.pre l) t ks))∧w.heap.size≤g'∧Below w.heap.size w w':=by
  have hw':=hn.1.put (g':=0) ht.1 hp hlv
  have hkw:∀ x∈Sl.put (Z.addr t.pre l) t ks,Node w B k x.2:=fun x hx => by
    rcases Sl.mem_put hx with rfl | hx
    · exact ht
    · exact hn.kid hx
  have hsum:(Tr.sums (Tr.entsL (Sl.put (Z.addr t.pre l) t ks))).c < 18446744073709551616:=by
    rw [Tr.sums_c]
    have hsrt:Sl.Srt ks:=by cases hn.1 with | br _ _ _ _ _ hw => exact hw.srt
    cases hg:Sl.get ks (Z.addr t.pre l:Int) with
    | none => rw [Sl.put_none hsrt t hg,Tr.entsL_append,Tr.entsL_cons];conv at hc => lhs;rw [← List.take_append_drop (Sl.idx ks (Z.addr t.pre l:Int)) ks,Tr.entsL_append]
              simp only [List.length_append] at hc ⊢;omega
    | some u =>
      rw [Sl.put_some hsrt t hg]
      have hb:∀ (L:List (Nat × T)) (i:Nat) (y:Nat × T),(Tr.entsL (L.set i y)).length≤(Tr.entsL L).length + y.2.ents.length:=by
        intro L
        induction L with
        | nil => intro i y;simp [Tr.entsL]
        | cons x L ih =>
          intro i y
          cases i with
          | zero => simp only [List.set_cons_zero,Tr.entsL_cons,List.length_append];omega
          | succ i => simp only [List.set_cons_succ,Tr.entsL_cons,List.length_append];have:=ih i y;omega
      have:=hb ks (Sl.idx ks (Z.addr t.pre l:Int)) (Z.addr t.pre l,t)
      simp only at this
      omega
  obtain ⟨wfn,hmn⟩:=hn
  obtain ⟨wft,hmt⟩:=ht
  obtain ⟨kpt,hnt⟩:=hmt.nd
  have hlen:=wft.len
  have h63:l≤63:=by cases wfn with | br _ _ _ _ h63 => exact h63
  have hsrt:Sl.Srt ks:=by cases wfn with | br _ _ _ _ _ hw => exact hw.srt
  cases hmn with
  | br _ _ _ _ b h ha hk =>
    have hget:=kidL_get (Z.addr t.pre l:Int) ks
    have fin:∀ (w':World) (g' b':Nat) (s:S4),s = Tr.sums (Tr.entsL (Sl.put (Z.addr t.pre l) t ks))→NdN w' w'.heap.size g' (l:Int) pre 0 (some ⟨b',0,none⟩) s→Sn.At w' w'.heap.size b' k (Sl.put (Z.addr t.pre l) (at0 t) (kidL ks))→Below w.heap.size w w' →
        Node w' w'.heap.size k (.br g' l pre (Sl.put (Z.addr t.pre l) t ks)):=by
      intro w' g' b' s hs hnd hat hb
      subst hs
      refine ⟨?_,.br g' l pre _ b' hnd.1 (by rw [kidL_put];exact hat) (fun x hx => ((hkw x hx).below hb hB (Nat.le_trans hB hb.size)).2) hnd.2⟩
      cases hw' with | br _ _ _ _ a1 a2 a3 a4 a5 a6 a7 => exact .br g' l pre _ a1 a2 a3 a4 a5 a6 a7
    cases hg:Sl.get ks (Z.addr t.pre l:Int) with
    | none =>
      rw [hg] at hget
      refine (nput_new h ha hnt hB hlen h63 hget (by rw [Tr.sums_c];have:=ents_pos wft;omega) (by rw [Tr.sums_c,Tr.sums_c];exact hc)).mono ?_
      rintro e w' ⟨g',b',rfl,hnd,hat,hgf,hb⟩
      exact ⟨g',rfl,fin w' g' b' _ (sums_put_new hsrt t hg).symm hnd hat hb,hgf,hb⟩
    | some u =>
      rw [hg] at hget
      have hSA:=sumsAt_kids hkw
      rw [kidL_put] at hSA
      refine (nput_old (ss:=(Sl.put (Z.addr t.pre l) t ks).map fun (x:Nat × T) => Tr.sums x.2.ents) h ha hnt hB hlen h63 hget hSA (by rw [togF_ents];exact hsum)).mono ?_
      rintro e w' ⟨g',b',rfl,hnd,hat,hgf,hb⟩
      exact ⟨g',rfl,fin w' g' b' _ (togF_ents _) hnd hat hb,hgf,hb⟩
/-! ### With -/
set_option maxRecDepth 100000 in
theorem nWith_c {w:World} {B g l k:Nat} {pre:List Nat} {ks:List (Nat × T)} {t:T} (hn:Node w B k (.br g l pre ks)) (ht:Node w B k t) (hB:B≤w.heap.size) (hp:Z.part pre t.pre≤(l:Int)) (hlv:t.lv≤l)
    (hc:(Tr.entsL ks).length + t.ents.length < 18446744073709551616) :
    Calls Tryz.prog 114 #[.pointer (some ⟨g,0,none⟩),.pointer (some ⟨t.blk,0,none⟩)] w fun e w' =>
      ∃ g',e = .returned (.tuple #[.pointer (some ⟨g',0,none⟩),.int .i64 0])∧Node w' w'.heap.size k (.br g' l pre (Sl.put (Z.addr t.pre l) t ks))∧w.heap.size≤g'∧Below w.heap.size w w':=by
  have HP:Hid (∀ n,Calls Tryz.prog 155 #[.pointer (some ⟨g,0,none⟩),ndV t] (w.drewN n) fun e w' =>
      ∃ g',e = .returned (.pointer (some ⟨g',0,none⟩))∧Node w' w'.heap.size k (.br g' l pre (Sl.put (Z.addr t.pre l) t ks))∧w.heap.size≤g'∧Below w.heap.size w w'):=Lib.hid fun n => by
    have hb:=below_drewN n (Below.refl w.heap.size w)
    refine (nput_c (hn.below hb hB (Nat.le_refl _)) (ht.below hb hB (Nat.le_refl _)) (show B≤(w.drewN n).heap.size from hB) hp hlv hc).mono ?_
    rintro e w' ⟨g',rfl,h1,h2,h3⟩
    exact ⟨g',rfl,h1,h2,hb.trans h3⟩
  have wfn:=hn.1
  have wft:=ht.1
  obtain ⟨kpt,hk⟩:=ht.2.nd
  have hlt:=wft.len
  have hln:pre.length = k:=wfn.len
  have hk1:=wfn.k1
  have hk16:=wfn.k16
  have hnd:∃ b,NdAt w B g (l:Int) pre 0 (some ⟨b,0,none⟩) (Tr.sums (Tr.entsL ks)):=by cases hn.2 with | br _ _ _ _ b h => exact ⟨b,h⟩
  obtain ⟨b,hnd⟩:=hnd
  obtain ⟨-,⟨A,c,hpp,h1⟩,h0,-,h3,-⟩:=hnd
  obtain ⟨-,⟨A',c',hpp',hk1'⟩,hk0,-⟩:=hk
  have H:Hid (∀ n,Calls Tryz.prog 152 #[.slice A pre.length c,.slice A' t.pre.length c'] (w.drewN n) fun e w' => e = .returned (.tuple #[.int .i64 (Z.part pre t.pre),.int .i64 0])∧w.drewN n = w'):=Lib.hid fun n => part_yes A A' c c' pre t.pre B (w.drewN n) hpp hpp' (by omega) (by omega) (by omega)
  have hlvI:levI t < (l:Int):=by unfold levI;omega
  generalize levI t = levk at *
  generalize Z.part pre t.pre = m at *
  have d1:decide ((l:Int) < m) = false:=decide_eq_false (by omega)
  have d2:decide ((l:Int)≤levk) = false:=decide_eq_false (by omega)
  clear hpp hpp' hp hlv hc hlvI hlt hln hk1 hk16 wfn wft hn ht
  go_enter Tryz.func114,Tryz.ntmps114
  go_wp2_with fail
  go_quiet ((go_at_call 152;exact Calls.quiet_of_same ((H.out _).mono fun e w' h => ⟨h.1,h.2.symm⟩)))
  go_wp2_with fail
  go_quiet (fail)
  go_wp2_with (go_at_call 155;refine (HP.out _).mono ?_;rintro e w' ⟨g',rfl,hnd',hgf,hb⟩)
  go_ret2
  exact ⟨g',rfl,hnd',hgf,hb⟩
/-! ### Without -/
theorem nWithout_two {w:World} {B g l k:Nat} {pre:List Nat} {ks:List (Nat × T)} (hn:Node w B k (.br g l pre ks)) (hB:B≤w.heap.size) (a:Nat) (ha:a < 2 ^ k) (hh:Sl.has ks (a:Int) = true) (h2:2≤(Sl.del a ks).length) (hc:(Tr.entsL ks).length < 18446744073709551616) :
    Calls Tryz.prog 113 #[.pointer (some ⟨g,0,none⟩),.int .i64 (a:Int)] w fun e w' =>
      ∃ g',e = .returned (.tuple #[.pointer (some ⟨g',0,none⟩),.int .i64 0])∧Node w' w'.heap.size k (.br g' l pre (Sl.del a ks))∧w.heap.size≤g'∧Below w.heap.size w w':=by
  have hw':=hn.1.del (g':=0) a h2
  have hkw:∀ x∈Sl.del a ks,Node w B k x.2:=fun x hx => hn.kid (Sl.mem_del hx)
  have hsub:∀ ks:List (Nat × T),(Tr.entsL (Sl.del a ks)).length≤(Tr.entsL ks).length:=by
    intro ks
    induction ks with
    | nil => simp [Sl.del]
    | cons x ks ih =>
      simp only [Sl.del]
      split
      · rw [Tr.entsL_cons,List.length_append];omega
      · rw [Tr.entsL_cons,Tr.entsL_cons,List.length_append,List.length_append];omega
  have hsum:(Tr.sums (Tr.entsL (Sl.del a ks))).c < 18446744073709551616:=by
    rw [Tr.sums_c];have:=hsub ks;omega
  obtain ⟨wfn,hmn⟩:=hn
  cases hmn with
  | br _ _ _ _ b h hat hk =>
    have hSA:=sumsAt_kids hkw
    have hdl:(Sl.del a ks).length≤65536:=by cases hw' with | br _ _ _ _ _ hw => exact hw.len16
    have fin:∀ (w':World) (g' b':Nat) (s:S4),s = Tr.sums (Tr.entsL (Sl.del a ks))→NdN w' w'.heap.size g' (l:Int) pre 0 (some ⟨b',0,none⟩) s→Sn.At w' w'.heap.size b' k (kidL (Sl.del a ks))→Below w.heap.size w w' →
        Node w' w'.heap.size k (.br g' l pre (Sl.del a ks)):=by
      intro w' g' b' s hs hnd hat hb
      subst hs
      refine ⟨?_,.br g' l pre _ b' hnd.1 hat (fun x hx => ((hkw x hx).below hb hB (Nat.le_trans hB hb.size)).2) hnd.2⟩
      cases hw' with | br _ _ _ _ a1 a2 a3 a4 a5 a6 a7 => exact .br g' l pre _ a1 a2 a3 a4 a5 a6 a7
    have hhas:Sl.has (kidL ks) (a:Int) = true:=by
      rw [Sl.has,kidL_get]
      simp only [Sl.has] at hh
      simpa using hh
    have HD:=Lib.hid (Sn.sDel_c hat hB a ha hhas)
    rw [← kidL_del] at HD
    have HS:=Lib.hid (And.intro h (And.intro hSA (And.intro fin hsum)))
    have hll:(kidL (Sl.del a ks)).length = (Sl.del a ks).length:=kidL_length _
    obtain ⟨M,hM⟩:∃ M,kidL (Sl.del a ks) = M:=⟨_,rfl⟩
    obtain ⟨-,-,-,-,h3,-⟩:=h
    have HM:=Lib.hid hM
    have d1:(((Sl.things M).length:Int) == 1) = false:=by rw [Sl.things_length,← hM,hll,beq_eq_false_iff_ne];omega
    have HL:Hid ((Sl.things M).length≤maxLen):=Lib.hid (by rw [Sl.things_length,← hM,hll];unfold maxLen;omega)
    rw [hM] at HD HS
    clear hSA fin hsum hsub hkw hhas hat hk hw' wfn hM hll hdl hh h2 hc ha
    go_enter Tryz.func113,Tryz.ntmps113
    go_wp2_with fail
    refine HD.out.mono ?_
    rintro e w2 ⟨b2,rfl,hat2,hb2⟩
    have H2:=Lib.hid hat2
    have HB2:=Lib.hid hb2
    clear hat2 hb2
    go_wp2_with fail
    refine (sAll_n H2.out.1 H2.out.2 (Nat.le_refl _)).mono ?_
    rintro e w3 ⟨A3,c3,rfl,hr3,hb3⟩
    have HB3:=Lib.hid (Below.andThen HB2.out hb3)
    have H2:=Lib.hid (H2.out.below hb3 (Nat.le_refl _) hb3.size)
    have H3:=Lib.hid hr3
    clear hr3 hb3
    go_wp2_with fail
    refine (sumsOf_c (ss:=(Sl.del a ks).map fun (x:Nat × T) => Tr.sums x.2.ents) H3.out ((HS.out.2.1.below HB3.out hB).up (Nat.le_trans hB HB3.out.size)) (Nat.le_refl _) (by rw [togF_ents];exact HS.out.2.2.2) HL.out).mono ?_
    rintro e w4 ⟨rfl,hb4⟩
    have HB4:=Lib.hid (Below.andThen HB3.out hb4)
    have H2:=Lib.hid (H2.out.below hb4 (Nat.le_refl _) hb4.size)
    clear hb4
    go_wp2_with fail
    refine (having_c (HS.out.1.below HB4.out hB (Nat.le_refl _)) (Nat.le_trans hB HB4.out.size) (some ⟨b2,0,none⟩) _).mono ?_
    rintro e w5 ⟨g',rfl,hnd,hg5,hb5⟩
    have HG:=Lib.hid hnd
    have hg5:=Nat.le_trans HB4.out.size hg5
    have H2:=Lib.hid (H2.out.below hb5 (Nat.le_refl _) hb5.size)
    have HB5:=Lib.hid (Below.andThen HB4.out hb5)
    clear hnd hb5
    go_wp2_with fail
    go_ret2
    exact ⟨g',rfl,HS.out.2.2.1 _ g' b2 _ (togF_ents _) HG.out H2.out HB5.out,hg5,HB5.out⟩
theorem nWithout_one {w:World} {B g b k:Nat} {lev:Int} {pre:List Nat} {v:Nat} {s:S4} {L:Sn.Al} {x:Nat × Option Addr} (hn:NdAt w B g lev pre v (some ⟨b,0,none⟩) s) (hat:Sn.At w B b k L) (hB:B≤w.heap.size) (a:Nat) (ha:a < 2 ^ k) (hh:Sl.has L (a:Int) = true) (h1:Sl.del a L = [x]) :
    Calls Tryz.prog 113 #[.pointer (some ⟨g,0,none⟩),.int .i64 (a:Int)] w fun e w' => e = .returned (.tuple #[.pointer x.2,.int .i64 0])∧Below w.heap.size w w':=by
  have HD:=Lib.hid (Sn.sDel_c hat hB a ha hh)
  rw [h1] at HD
  obtain ⟨-,-,-,-,h3,-⟩:=hn
  clear hat hh h1 ha
  go_enter Tryz.func113,Tryz.ntmps113
  go_wp2_with fail
  refine HD.out.mono ?_
  rintro e w2 ⟨b2,rfl,hat2,hb2⟩
  have H2:=Lib.hid hat2
  have HB2:=Lib.hid hb2
  clear hat2 hb2
  go_wp2_with fail
  have HAl:=sAll_n H2.out.1 H2.out.2 (Nat.le_refl _)
  rw [show (Sl.things [x]).length = 1 from rfl] at HAl
  refine HAl.mono ?_
  clear HAl
  rintro e w3 ⟨A3,c3,rfl,hr3,hb3⟩
  obtain ⟨pb,po,hA3,hpb,hcell⟩:=hr3.at (i:=0) (v:=.pointer x.2) rfl
  subst hA3
  rw [Nat.add_zero] at hcell
  have HB3:=Lib.hid (Below.andThen HB2.out hb3)
  clear hr3 hb3
  go_wp2_with fail
  go_ret2
  exact ⟨rfl,HB3.out⟩
end Go.Proofs.YtkeepngaaleakaaGreatDoor
namespace Go.Proofs.YtkeepngaaleakaaGreatDoor
open Go.RowKit Go.Shelf
open Tr (T S4 Ent)
attribute [local go_sem] Oper.semAt_some
theorem backward_c (A:Option Addr) (n c:Nat) (w:World) :
    Calls Tryz.prog 156 #[.slice A n c] w fun e w' => e = .returned (.func (.func 210) #[] #[.pointer (some ⟨w.heap.size,0,none⟩)])∧w' = w.alloc (.cells #[.slice A n c] 144):=by
  go_enter Tryz.func156,Tryz.ntmps156
  go_wp2
  go_ret
  exact ⟨rfl,rfl⟩
set_option maxRecDepth 100000 in
set_option maxHeartbeats 2000000 in
theorem back1_in (n:Nat) (hn:1≤n) (L Bs:Nat) (A:Option Addr) (c Bm:Nat) (xs:List Value) (hl:xs.length≤1000000) (J:Nat→World→Prop)
    (hJc:∀ j W,J j W→W.cell? ⟨Bs,0,none⟩ = some (.slice A xs.length c)∧RdV W Bm A xs)
    (hY:∀ j x W,J j W→j < xs.length→xs[xs.length - 1 - j]? = some x→YieldAt Fence.wide (n - 1) Tryz.prog L #[.int .i64 ((xs.length:Int) - 1 - (j:Int)),x] W fun e W' => e = .returned (.bool true)∧J (j + 1) W')
    (W:World) (h0:J 0 W) :
    CallsIn Fence.wide n Tryz.prog 210 #[.func (Fn.yield L) #[] #[],.pointer (some ⟨Bs,0,none⟩)] W fun e W' => (∃ v,e = .returned v)∧J xs.length W':=by
  refine callsIn_of_wp Tryz.func210 rfl trivial ?_ rfl
  simp only [Tryz.ntmps210,List.size_toArray,List.length_cons,List.length_nil,Nat.reduceAdd,Nat.reduceSub,Array.replicate_succ,Array.replicate_zero,List.push_toArray,List.append_toArray,List.nil_append,List.cons_append]
  obtain ⟨c0,-⟩:=hJc 0 W h0
  obtain ⟨N,hN⟩:∃ N,xs.length = N:=⟨_,rfl⟩
  rw [hN] at hl c0 hJc hY ⊢
  have HN:=Lib.hid hN
  clear hN
  gi_wp2
  gi_loopw [3] (fun i wr => ∃ j:Nat,j≤N∧i = .int .i64 ((N:Int) - 1 - (j:Int))∧J j wr) (fun i _ => (intOf i + 1).toNat)
  case atStart => exact ⟨0,Nat.zero_le _,by simp,h0⟩
  case round =>
    obtain ⟨j,hj,rfl,hjj⟩:=hrel
    clear c0
    obtain ⟨c0,hrd⟩:=hJc j wr hjj
    by_cases hlt:j < N
    · obtain ⟨x,hx⟩:=get_lt (us:=xs) (k:=N - 1 - j) (by rw [HN.out];omega)
      obtain ⟨b,off,hA,hb,hcell⟩:=hrd.at hx
      subst hA
      obtain ⟨I,hI⟩:∃ I:Nat,N - 1 - j = I:=⟨_,rfl⟩
      have hI':(N:Int) - 1 - (j:Int) = (I:Int):=by omega
      rw [hI] at hx hcell
      have hYj:=hY j x wr hjj hlt (by rw [hI];exact hx)
      rw [hI'] at hYj ⊢
      obtain ⟨fn,tmps,assign,body,hy,hR⟩:=hYj
      have m1:(0:Int)≤(I:Int):=by omega
      have m2:(I:Int) < (N:Int):=by omega
      have HI:=Lib.hid hI'
      clear hI hI' hx hY hJc hjj hrd
      gi_wp2
      refine hR.mono ?_
      rintro e W3 ⟨rfl,hJ3⟩
      clear c0 hcell hy hR
      gi_wp2
      go_roundw
      case rel => exact ⟨j + 1,by omega,by (have:=HI.out;first | (congr 1;omega) | (simp;omega)),hJ3⟩
      case measure => simp [intOf]
    · obtain rfl:j = N:=by omega
      have e1:(j:Int) - 1 - (j:Int) = -1:=by omega
      rw [e1]
      gi_wp2
      go_end0
      exact ⟨⟨_,rfl⟩,hjj⟩
/-! ### having -/
def stepT (g:Nat) (u n:T):T:=.br g (u.lv - 1) u.pre (Sl.put (Z.addr n.pre (u.lv - 1)) n u.ks)
def Built:List T→T→T→Prop
  | [],n,t => t = n
  | u :: us,n,t => ∃ g,Built us (stepT g u n) t
theorem built_snoc:∀ {us:List T} {n t:T} (_:Built us n t) (u:T) (g:Nat),Built (us ++ [u]) n (stepT g u t)
  | [],_,_,h,u,g => ⟨g,by rw [show _ = _ from h];rfl⟩
  | _ :: us,_,_,⟨g',h⟩,u,g => ⟨g',built_snoc h u g⟩
def FitsT (k:Nat) (u n:T):Prop:=∃ g l pre ks,u = .br g l pre ks∧Tr.Wf k n∧Z.part pre n.pre≤(l:Int)∧n.lv≤l∧(Tr.entsL ks).length + n.ents.length < 18446744073709551616
theorem With_step {w:World} {B k:Nat} {u t:T} (hu:Node w B k u) (ht:Node w B k t) (hB:B≤w.heap.size) (hf:FitsT k u t) :
    Calls Tryz.prog 114 #[.pointer (some ⟨u.blk,0,none⟩),.pointer (some ⟨t.blk,0,none⟩)] w fun e w' => ∃ g',e = .returned (.tuple #[.pointer (some ⟨g',0,none⟩),.int .i64 0])∧Node w' w'.heap.size k (stepT g' u t)∧Below w.heap.size w w':=by
  obtain ⟨g,l,pre,ks,rfl,hw,hp,hl,hc⟩:=hf
  refine (nWith_c hu ht hB hp hl hc).mono ?_
  rintro e w' ⟨g',he,hn,_,hb⟩
  exact ⟨g',he,hn,hb⟩
/-! ### a variable that holds a pointer is no part of a node -/
theorem cell_single {W:World} {X:Nat} {q:Value} {ty:TypeId} (h:W.heap[X]? = some (.cells #[q] ty (0,0))) {o:Nat} {v:Value} (e:W.cell? ⟨X,o,none⟩ = some v):o = 0∧v = q:=by
  rw [cell_of_row W X _ _ ty (0,0) h] at e
  match o with
  | 0 => simp at e;exact ⟨rfl,e.symm⟩
  | o + 1 => simp at e
theorem rdV_var {W:World} {X B:Nat} {q v:Value} {ty:TypeId} (h:W.heap[X]? = some (.cells #[q] ty (0,0))) {A:Option Addr} {xs:List Value} (hr:RdV W B A xs) (hx:2≤xs.length∨∀ x∈xs,x≠q):RdV (W.setCell ⟨X,0,none⟩ v) B A xs:=by
  intro hn
  obtain ⟨b,off,hA,hb,hc⟩:=hr hn
  have hbX:b≠X:=by
    rintro rfl
    rcases hx with hx | hx
    · obtain ⟨y,hy⟩:=get_lt (us:=xs) (k:=1) (by omega)
      have:=(cell_single h (hc 1 y hy)).1
      omega
    · obtain ⟨y,hy⟩:=get_lt (us:=xs) (k:=0) (List.length_pos_iff.2 hn)
      exact hx y (List.mem_of_getElem? hy) (cell_single h (hc 0 y hy)).2
  exact ⟨b,off,hA,hb,fun i y hi => (World.cell?_of_block (w:=W) (a:=⟨b,off + i,none⟩) (Below.heap_setCell _ _ _ _ hbX)).trans (hc i y hi)⟩
theorem rdE_var {e:TypeId} {W:World} {X:Nat} {q:Option Addr} {v:Value} {ty:TypeId} (h:W.heap[X]? = some (.cells #[.pointer q] ty (0,0))) {B:Nat} {A:Option Addr} {xs:List Value} (hr:RdE e W B A xs) (hx:2≤xs.length∨∀ x∈xs,x≠.pointer q):RdE e (W.setCell ⟨X,0,none⟩ v) B A xs :=
  ⟨rdV_var h hr.rd hx,fun hn ad hA => by
    obtain ⟨c,hc⟩:=hr.ty hn ad hA
    by_cases hX:ad.block = X
    · rw [hX] at hc ⊢
      exact ⟨_,heap_setCell_same W X 0 _ _ v hc⟩
    · exact ⟨c,(Below.heap_setCell W ⟨X,0,none⟩ v _ hX).trans hc⟩⟩
theorem set_far {W:World} {X g o:Nat} {v u:Value} (hg:g≠X) (h:W.cell? ⟨g,o,none⟩ = some u):(W.setCell ⟨X,0,none⟩ v).cell? ⟨g,o,none⟩ = some u :=
  (World.cell?_of_block (w:=W) (a:=⟨g,o,none⟩) (Below.heap_setCell _ _ _ _ hg)).trans h
theorem ndAt_var {W:World} {X B g:Nat} {q:Option Addr} {v:Value} {ty:TypeId} (h:W.heap[X]? = some (.cells #[.pointer q] ty (0,0))) {lev:Int} {pre:List Nat} {vv:Nat} {kp:Option Addr} {s:S4} (hn:NdAt W B g lev pre vv kp s) :
    NdAt (W.setCell ⟨X,0,none⟩ v) B g lev pre vv kp s:=by
  obtain ⟨h0,⟨A,c,hp,h1⟩,h2,h3,h4,h5,h6,h7,h8⟩:=hn
  have hg:g≠X:=by
    rintro rfl
    have:=(cell_single h h2).2
    cases this
  exact ⟨h0,⟨A,c,rdV_pts hp.1 (rdV_var h (pts_rdV hp) (.inr fun x hx => by simp only [vals,List.mem_map] at hx;obtain ⟨n,_,rfl⟩:=hx;intro e;cases e)),set_far hg h1⟩,set_far hg h2,set_far hg h3,set_far hg h4,set_far hg h5,set_far hg h6,set_far hg h7,set_far hg h8⟩
theorem at_var {W:World} {X B b k:Nat} {q:Option Addr} {v:Value} {ty:TypeId} (h:W.heap[X]? = some (.cells #[.pointer q] ty (0,0))) {L:Sn.Al} (ha:Sn.At W B b k L) (h2:2≤L.length):Sn.At (W.setCell ⟨X,0,none⟩ v) B b k L:=by
  refine ⟨ha.1,?_⟩
  have hr:=ha.2
  generalize hd:Sl.dense k L = d at hr ⊢
  cases d
  · obtain ⟨h0,A,c,D,c',k0,k1,k2,k3,h5,h6,h7,h8⟩:=hr
    have hb:b≠X:=by rintro rfl;have:=(cell_single h k0).2;cases this
    exact ⟨h0,A,c,D,c',set_far hb k0,set_far hb k1,set_far hb k2,set_far hb k3,h5,h6,rdV_var h h7 (.inr fun x hx => by simp only [Sn.u16V,List.mem_map] at hx;obtain ⟨n,_,rfl⟩:=hx;intro e;cases e),rdE_var h h8 (.inl (by simp [Sn.elV,Sl.things];exact h2))⟩
  · obtain ⟨h0,hkk,hL,P,D,c',k0,k1,k2,k3,h5,h6,h7⟩:=hr
    have hb:b≠X:=by rintro rfl;have:=(cell_single h k0).2;cases this
    exact ⟨h0,hkk,hL,P,D,c',set_far hb k0,set_far hb k1,set_far hb k2,set_far hb k3,h5,h6,rdE_var h h7 (.inl (by
      have:=ha.1.len
      simp only [Sn.elV,List.length_map,Sl.row_length]
      omega))⟩
theorem node_var {W:World} {X B k:Nat} {q:Option Addr} {v:Value} {ty:TypeId} (h:W.heap[X]? = some (.cells #[.pointer q] ty (0,0))) {t:T} (hn:Node W B k t):Node (W.setCell ⟨X,0,none⟩ v) B k t:=by
  refine ⟨hn.1,?_⟩
  obtain ⟨hw,hm⟩:=hn
  induction hm with
  | ent g p vv hd hwb => exact .ent g p vv (ndAt_var h hd) (hwb.setCell v)
  | br g l pre ks b hd ha hkk hwb ih =>
    have h2:2≤ks.length:=by cases hw with | br _ _ _ _ _ _ h2 => exact h2
    exact .br g l pre ks b (ndAt_var h hd) (at_var h ha (by rw [kidL_length];exact h2)) (fun x hx => ih x hx (hw.kid hx)) (hwb.setCell v)
structure Hav (w:World) (B k:Nat) (us:List T) (x:T) (A:Option Addr) (c b:Nat) (r:Option Addr) (j:Nat) (W:World):Prop where
  cur:∃ t ty,W.heap[w.heap.size]? = some (.cells #[.pointer (some ⟨t.blk,0,none⟩)] ty (0,0))∧Node W W.heap.size k t∧Built (us.reverse.take j) x t
  box:W.cell? ⟨w.heap.size + 1,0,none⟩ = some (.slice A us.length c)
  row:RdV W B A (ptrV us)
  tre:TreC W b k r
  dfr:W.heap[w.heap.size + 2]? = some (.deferred (some []))
  bel:Below w.heap.size w W
  size:w.heap.size + 4≤W.heap.size
attribute [local go_sem] Oper.semAt_some
theorem Hav.keep {w W W':World} {B k:Nat} {us:List T} {x:T} {A:Option Addr} {c b:Nat} {r:Option Addr} {j:Nat} (h:Hav w B k us x A c b r j W) (hk:CellKeep W W') (hs:W.heap.size≤W'.heap.size) (hb:Below w.heap.size W W')
    (h0:W'.heap[w.heap.size]? = W.heap[w.heap.size]?) (h2:W'.heap[w.heap.size + 2]? = W.heap[w.heap.size + 2]?):Hav w B k us x A c b r j W':=by
  obtain ⟨t,ty,c1,c2,c3⟩:=h.cur
  exact ⟨⟨t,ty,h0.trans c1,c2.keepc hk hs,c3⟩,hk _ _ h.box,h.row.keepc hk (Nat.le_refl _),⟨hk _ _ h.tre.1,hk _ _ h.tre.2⟩,h2.trans h.dfr,h.bel.trans hb,Nat.le_trans h.size hs⟩
theorem below_putObj (w:World) {b l:Nat} (o:Obj) (h:b≤l):Below b w (w.putObj l o):=⟨rfl,rfl,rfl,by simp,fun j hj => World.putObj_heap_other (by omega)⟩
theorem Hav.put {w W:World} {B k:Nat} {us:List T} {x:T} {A:Option Addr} {c b:Nat} {r:Option Addr} {j:Nat} (h:Hav w B k us x A c b r j W) {o o':Obj} (hl:W.heap[w.heap.size + 3]? = some o) (ho:o.isCells = false):Hav w B k us x A c b r j (W.putObj (w.heap.size + 3) o') :=
  h.keep (CellKeep.putObj hl ho) (by simp) (below_putObj W o' (by omega)) (World.putObj_heap_other (by omega)) (World.putObj_heap_other (by omega))
def havWorld (w:World) (x:T) (A:Option Addr) (n c:Nat):World:=(w.alloc (.cells #[.pointer (some ⟨x.blk,0,none⟩)] 81)).alloc (.cells #[.slice A n c] 144)
theorem havWorld_size (w:World) (x:T) (A:Option Addr) (n c:Nat):(havWorld w x A n c).heap.size = w.heap.size + 2:=by simp [havWorld]
theorem hav_old {w:World} {o x:Obj} {k:Nat} (h:w.heap[k]? = some x):(w.alloc o).heap[k]? = some x:=(Below.heap_alloc w o k (Array.getElem?_eq_some_iff.1 h).1).trans h
theorem hav_next {w:World} {o:Obj} {k:Nat} (hk:w.heap.size = k):(w.alloc o).heap[k]? = some o:=by subst hk;exact World.alloc_heap_new w o
theorem hav_cell {w:World} {k:Nat} {v:Value} {t:TypeId} (h:w.heap[k]? = some (.cells #[v] t)):w.cell? ⟨k,0,none⟩ = some v∧w.frozen? ⟨k,0,none⟩ = false:=by
  constructor
  · simp [World.cell?,h]
  · simp [World.frozen?,h]
theorem hav_start {w:World} {B k b:Nat} {us:List T} {x:T} {A:Option Addr} {c:Nat} {r:Option Addr} (hb:b < B) (htr:TreC w b k r) (hB:B≤w.heap.size) (hrd:RdV w B A (ptrV us)) (hx:Node w B k x) (r0:Loop) :
    Hav w B k us x A c b r 0 (rangeWorld (havWorld w x A us.length c) r0)∧(rangeWorld (havWorld w x A us.length c) r0).heap[w.heap.size + 3]? = some (.loop r0):=by
  have hbl:Below w.heap.size w (rangeWorld (havWorld w x A us.length c) r0):=((((Below.refl _ w).alloc (Nat.le_refl _) _).alloc (by simp) _).alloc (by simp;omega) _).alloc (by simp;omega) _
  have g0:(rangeWorld (havWorld w x A us.length c) r0).heap[w.heap.size]? = some (.cells #[.pointer (some ⟨x.blk,0,none⟩)] 81):=hav_old (hav_old (hav_old (hav_next rfl)))
  have g1:(rangeWorld (havWorld w x A us.length c) r0).heap[w.heap.size + 1]? = some (.cells #[.slice A us.length c] 144):=hav_old (hav_old (hav_next (by simp)))
  have g2:(rangeWorld (havWorld w x A us.length c) r0).heap[w.heap.size + 2]? = some (.deferred (some [])):=hav_old (hav_next (havWorld_size ..))
  have g3:(rangeWorld (havWorld w x A us.length c) r0).heap[w.heap.size + 3]? = some (.loop r0):=hav_next (by rw [World.size_alloc,havWorld_size])
  have hsz:w.heap.size + 4≤(rangeWorld (havWorld w x A us.length c) r0).heap.size:=by have:=(Array.getElem?_eq_some_iff.1 g3).1;omega
  exact ⟨⟨⟨x,_,g0,hx.below hbl hB (Nat.le_trans hB (by omega)),rfl⟩,(hav_cell g1).1,hrd.below hbl hB (Nat.le_refl _),htr.below hbl (by omega),g2,hbl,hsz⟩,g3⟩
set_option maxRecDepth 100000 in
set_option maxHeartbeats 2000000 in
theorem tHaving_c {w:World} {B k b:Nat} {us:List T} {x:T} {A:Option Addr} {c:Nat} {r:Option Addr} (hb:b < B) (htr:TreC w b k r) (h1:1≤k) (h16:k≤16) (hB:B≤w.heap.size) (hrd:RdV w B A (ptrV us)) (hus:∀ u∈us,Node w B k u)
    (hul:us.length≤1000) (hx:Node w B k x) (hfit:∀ j u t,us.reverse[j]? = some u→Built (us.reverse.take j) x t→FitsT k u t) :
    Calls Tryz.prog 103 #[.pointer (some ⟨b,0,none⟩),.slice A us.length c,.pointer (some ⟨x.blk,0,none⟩)] w fun e w' =>
      ∃ n t,e = .returned (.pointer (some ⟨n,0,none⟩))∧Built us.reverse x t∧TreeX w' n k (some t)∧w.heap.size≤n∧Below w.heap.size w w':=by
  refine (callsIn_wide (n:=8)).1 ?_
  refine callsIn_of_wp_marks Tryz.func103 rfl trivial ?_ rfl
  simp only [Tryz.ntmps103,List.size_toArray,List.length_cons,List.length_nil,Nat.reduceAdd,Nat.reduceSub,Array.replicate_succ,Array.replicate_zero,List.push_toArray,List.append_toArray,List.nil_append,List.cons_append]
  gi_wp2_with (refine ⟨trivial,?_⟩;(with_reducible refine (callsIn_wide.2 (backward_c A us.length c _)).mono ?_);rintro e w' ⟨rfl,rfl⟩)
  have hW6:=havWorld_size w x A us.length c
  change Code.wpIn _ _ _ _ _ _ (havWorld w x A us.length c)
  generalize hW:havWorld w x A us.length c = W6 at *
  refine range_at rfl (by omega) (gf:=210) (lb:=#[.pointer (some ⟨w.heap.size + 1,0,none⟩)]) rfl trivial (enters_of Tryz.func210 (by kernel_rfl) rfl) ?_
  intro fn _
  generalize hr:recOf fn _ _ _ _ _ = r0
  obtain ⟨hC,hrec⟩:=hav_start (c:=c) hb htr hB hrd hx r0
  rw [hW] at hC hrec
  have hL:W6.heap.size + 1 = w.heap.size + 3:=by rw [hW6]
  rw [hL]
  have hpl:=ptrV_length us
  refine (back1_in 7 (by omega) (w.heap.size + 3) (w.heap.size + 1) A c B (ptrV us) (by omega) (fun j W => Hav w B k us x A c b r j W∧W.heap[w.heap.size + 3]? = some (.loop r0)) ?cells ?round (rangeWorld W6 r0) ⟨hC,hrec⟩).mono ?post
  case cells => exact fun j W h => ⟨by rw [hpl];exact h.1.box,h.1.row⟩
  case round =>
    intro j y W hJ hlt hy
    obtain ⟨hC,hrec⟩:=hJ
    obtain ⟨u,hu,rfl⟩:∃ u,us[us.length - 1 - j]? = some u∧y = .pointer (some ⟨u.blk,0,none⟩):=by
      rw [hpl] at hy
      simp only [ptrV,List.getElem?_map,Option.map_eq_some_iff] at hy
      obtain ⟨u,h1,h2⟩:=hy
      exact ⟨u,h1,h2.symm⟩
    rw [hpl] at hlt ⊢
    have hrev:us.reverse[j]? = some u:=by rw [List.getElem?_reverse hlt];exact hu
    refine one_round (r:=r0) (a1:={ tmps:=#[.pointer (some ⟨b,0,none⟩),.slice A us.length c,.pointer (some ⟨x.blk,0,none⟩),undef,undef,.pointer (some ⟨w.heap.size,0,none⟩),.pointer none,undef,.pointer (some ⟨u.blk,0,none⟩),.slice A us.length c,
      .func (.func 210) #[] #[.pointer (some ⟨w.heap.size + 1,0,none⟩)],.int .i64 ((us.length:Int) - 1 - (j:Int)),.pointer (some ⟨u.blk,0,none⟩),
      undef,undef,undef,undef,undef,undef,undef,undef,undef,undef,undef,undef,undef],defers:=[] }) trivial hrec (by rw [← hr];rfl) (by rw [← hr];rfl) ?assign ?body
    case assign =>
      intro K hK
      rw [← hr]
      simp only [recOf]
      gi_wp2
      exact hK
    case body =>
      have hC1:=hC.put (o':=.loop { r0 with state:=.busy }) hrec rfl
      have hl1:(W.putObj (w.heap.size + 3) (.loop { r0 with state:=.busy })).heap[w.heap.size + 3]? = some (.loop { r0 with state:=.busy }):=World.putObj_heap_same (Array.getElem?_eq_some_iff.1 hrec).1
      have hb1:=congrArg Loop.body hr
      obtain ⟨R2,hR2⟩:∃ R2,R2 = { r0 with state:=.busy }:=⟨_,rfl⟩
      rw [← hR2] at hC1 hl1
      refine wpIn_mono (body_eq hb1 (?walk:Code.wpIn _ _ _ _ (fun e _ W3 => match e with | .normal => W3.heap[w.heap.size + 3]? = some (.loop R2)∧Hav w B k us x A c b r (j + 1) W3 | _ => False) _ _)) ?conv
      case conv =>
        intro e a3 W3 hp
        cases e with
        | normal =>
          obtain ⟨p1,p2⟩:=hp
          have hrr:({ r0 with state:=.ready,pending:=none }:Loop) = r0:=by rw [← hr];rfl
          refine ⟨by rw [← hR2];exact p1,rfl,p2.put p1 rfl,?_⟩
          have:=World.putObj_heap_same (w:=W3) (o:=.loop { r0 with state:=.ready,pending:=none }) (Array.getElem?_eq_some_iff.1 p1).1
          rw [hrr] at this ⊢
          exact this
        | ret => exact hp.elim
        | exit id => exact hp.elim
        | goto t => exact hp.elim
        | panic ch => exact hp.elim
        | outgrown => exact hp.elim
      case walk =>
      rw [← hR2]
      generalize hW1:W.putObj (w.heap.size + 3) (.loop R2) = W1 at *
      simp only [recOf]
      clear hb1 hW1 hr hrec hC hR2
      obtain ⟨t,ty,hX,hnt,hbu⟩:=hC1.cur
      have c0:W1.cell? ⟨w.heap.size,0,none⟩ = some (.pointer (some ⟨t.blk,0,none⟩)):=by rw [cell_of_row W1 _ _ _ ty (0,0) hX];rfl
      have f0:=frozen_of_row W1 w.heap.size 0 _ ty hX
      have HXX:=Lib.hid hX
      have hnu:=(hus u (List.mem_of_getElem? hu)).below hC1.bel hB (Nat.le_trans hB hC1.bel.size)
      have HW:=Lib.hid (With_step hnu hnt (Nat.le_refl _) (hfit j u t hrev hbu))
      have HC:=Lib.hid hC1
      have Hl:=Lib.hid hl1
      have Hbu:=Lib.hid hbu
      have Hrev:=Lib.hid hrev
      clear hC1 hl1 hnt hnu hbu hrev hfit hu hy hrd hus hx htr hX
      gi_wp2_with (refine ⟨trivial,?_⟩;(with_reducible refine (CallsIn.inRound (w.heap.size + 3) (callsIn_wide.2 HW.out)).mono ?_);rintro e W2 ⟨g2,rfl,hn2,hb2⟩;have q0:=(hb2.cell (p:=⟨w.heap.size,0,none⟩) (by have:=HC.out.size;show w.heap.size < _;omega)).trans c0;have q1:=(hb2.frozen (p:=⟨w.heap.size,0,none⟩) (by have:=HC.out.size;show w.heap.size < _;omega)).trans f0)
      have hsz:=HC.out.size
      have hs2:=hb2.size
      have hlow:∀ k,k≠w.heap.size→(W2.setCell ⟨w.heap.size,0,none⟩ (.pointer (some ⟨g2,0,none⟩))).heap[k]? = W2.heap[k]?:=fun k hk => Below.heap_setCell _ _ _ k hk
      have hkc:=CellKeep.of_below hb2
      have hset:∀ p v,p.block≠w.heap.size→W1.cell? p = some v→(W2.setCell ⟨w.heap.size,0,none⟩ (.pointer (some ⟨g2,0,none⟩))).cell? p = some v:=fun p v hp e => (World.cell?_of_block (hlow p.block hp)).trans (hkc p v e)
      have hB2:Below w.heap.size w (W2.setCell ⟨w.heap.size,0,none⟩ (.pointer (some ⟨g2,0,none⟩))):=(HC.out.bel.trans (hb2.mono (by omega))).setCell (p:=⟨w.heap.size,0,none⟩) (Nat.le_refl _) _
      have hX2:W2.heap[w.heap.size]? = some (.cells #[.pointer (some ⟨t.blk,0,none⟩)] ty (0,0)):=(hb2.block _ (by omega)).trans HXX.out
      have hX3:=heap_setCell_same W2 w.heap.size 0 _ ty (.pointer (some ⟨g2,0,none⟩)) hX2
      refine ⟨?_,⟨stepT g2 u t,ty,hX3,?_,?_⟩,?_,?_,?_,?_,hB2,by simp;omega⟩
      · rw [hlow _ (by omega),hb2.block _ (by omega)];exact Hl.out
      · have:=node_var (v:=.pointer (some ⟨g2,0,none⟩)) hX2 hn2
        rw [World.size_setCell]
        exact this
      · rw [show us.reverse.take (j + 1) = us.reverse.take j ++ [u] by rw [List.take_add_one,Hrev.out];rfl]
        exact built_snoc Hbu.out u g2
      · exact hset _ _ (by simp) HC.out.box
      · intro hn
        obtain ⟨rb,ro,hA,hrb,hrc⟩:=HC.out.row hn
        exact ⟨rb,ro,hA,hrb,fun i v hi => hset _ _ (by show rb≠_;omega) (hrc i v hi)⟩
      · exact ⟨hset _ _ (by show b≠_;omega) HC.out.tre.1,hset _ _ (by show b≠_;omega) HC.out.tre.2⟩
      · rw [hlow _ (by omega),hb2.block _ (by omega)];exact HC.out.dfr
  case post =>
    have hQ:Hid (r0.pending = none∧r0.state≠.busy):=Lib.hid (by rw [← hr];exact ⟨rfl,by intro h;cases h⟩)
    rintro e W1 ⟨⟨v,rfl⟩,hC,hrec⟩
    refine ⟨none,W1.putObj (w.heap.size + 3) (.loop { r0 with state:=.exhausted }),by rw [← hQ.out.1];exact run_endLoop hrec hQ.out.2,?_⟩
    have hC1:=hC.put (o':=.loop { r0 with state:=.exhausted }) hrec rfl
    generalize hWW:W1.putObj (w.heap.size + 3) (.loop { r0 with state:=.exhausted }) = W2 at *
    clear hWW hC hrec
    simp only [marked,hW6]
    clear hr hQ hW hL hfit hus hx hrd htr
    obtain ⟨t,ty,hX,hnt,hbu⟩:=hC1.cur
    rw [hpl,← List.length_reverse,List.take_length] at hbu
    have c0:W2.cell? ⟨w.heap.size,0,none⟩ = some (.pointer (some ⟨t.blk,0,none⟩)):=by rw [cell_of_row W2 _ _ _ ty (0,0) hX];rfl
    obtain ⟨c1,c2⟩:=hC1.tre
    have HC:=Lib.hid hC1
    have Hnt:=Lib.hid hnt
    have Hbu:=Lib.hid hbu
    clear hC1 hnt hbu hX c2 hW6
    gi_wp2
    gi_region
    all_goals gi_wp2
    have hsz:=HC.out.size
    have hal:=below_alloc W2 (.cells #[.int .i64 (k:Int),.pointer (some ⟨t.blk,0,none⟩)] 168)
    have hK:(W2.alloc (.cells #[.int .i64 (k:Int),.pointer (some ⟨t.blk,0,none⟩)] 168)).drew.heap[w.heap.size + 2]? = some (.deferred (some [])):=(hal.block _ (by omega)).trans HC.out.dfr
    refine ⟨by simp,.inl ⟨_,_,rfl,run_takeDeferred hK,?_⟩⟩
    have hck:CellKeep W2 ((W2.alloc (.cells #[.int .i64 (k:Int),.pointer (some ⟨t.blk,0,none⟩)] 168)).drew.putObj (w.heap.size + 2) (.deferred none)):=(CellKeep.of_below hal.drew).trans (CellKeep.putObj hK rfl)
    have hnew:((W2.alloc (.cells #[.int .i64 (k:Int),.pointer (some ⟨t.blk,0,none⟩)] 168)).drew.putObj (w.heap.size + 2) (.deferred none)).heap[W2.heap.size]? = some (.cells #[.int .i64 (k:Int),.pointer (some ⟨t.blk,0,none⟩)] 168 (0,0)) :=
      (World.putObj_heap_other (by omega)).trans (World.alloc_heap_new W2 _)
    have hlt:=(Array.getElem?_eq_some_iff.1 hnew).1
    have hbl:Below w.heap.size w ((W2.alloc (.cells #[.int .i64 (k:Int),.pointer (some ⟨t.blk,0,none⟩)] 168)).drew.putObj (w.heap.size + 2) (.deferred none)):=(HC.out.bel.trans ((hal.mono (by omega)).drew)).trans (below_putObj _ _ (by omega))
    exact ⟨.pointer (some ⟨W2.heap.size,0,none⟩),by simp [results,Tryz.f103,go_sem],W2.heap.size,t,rfl,Hbu.out,⟨⟨hlt,h1,h16,treC_at hnew,NodeO.some (Hnt.out.keepc hck (by omega))⟩,_,_,hnew⟩,by omega,hbl⟩
end Go.Proofs.YtkeepngaaleakaaGreatDoor
