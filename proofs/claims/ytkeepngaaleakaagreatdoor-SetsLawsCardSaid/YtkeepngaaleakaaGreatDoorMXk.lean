import Derived.Test.YtkeepngaaleakaaGreatDoorMXj
namespace Go.Proofs.YtkeepngaaleakaaGreatDoor
open Go.ChangeShapes Go.WideShapes Go.ChangeAt Go.RowKit
open Tr (T S4 Ent Tri KL)
theorem FrS.cnt {w:World} {B k:Nat} {f:FmS} (h:FrS w B k f) {x:Nat × Tri} {i:Nat} (hx:x∈f.t.rem f.l i):cnt3 x.2≤cnt3 f.t:=by
  obtain ⟨c0,hf,-⟩:=h.ok
  obtain ⟨-,-,-,-,ho,ha,hb⟩:=hf.place hx
  obtain ⟨-,-,-,-,eo,ea,eb⟩:=hf
  have key:∀ (o o':Option T),(∀ y,o = some y→(x.1,y)∈Tr.sdL o' f.l)→Tr.entsL (Tr.sdL o' f.l) = Tr.entsO o'→(Tr.entsO o).length≤(Tr.entsO o').length:=fun o o' hm he => by
    cases o with
    | none => exact Nat.zero_le _
    | some y => rw [← he];exact entsL_le (hm y rfl)
  have h1:=key _ _ ho eo
  have h2:=key _ _ ha ea
  have h3:=key _ _ hb eb
  unfold cnt3
  omega
theorem PendS.cnt {ρ:Type} {R:Tri→ρ→Prop} {w:World} {B k:Nat} {t0:Tri}:∀ {S:List FmS} {u:Tri} {us:List ρ},PendS R t0 u S us→(∀ f∈S,FrS w B k f)→cnt3 u≤cnt3 t0
  | [],u,us,h,_ => by rw [h.1];exact Nat.le_refl _
  | f :: S,u,us,h,hfs => by
    obtain ⟨P',a,us',xs,hP,-,-,hp⟩:=h
    have h3:=PendS.cnt hp fun g hg => hfs g (List.mem_cons_of_mem _ hg)
    have hf:=hfs f List.mem_cons_self
    have h4:=hf.cnt (x:=(a,u)) (i:=0) (by rw [← hf.rem,hP];simp)
    exact Nat.le_trans h4 h3
structure ThrS {ρ:Type} (B k:Nat) (Inv:List ρ→World→(Nat→Prop)→Prop) (kv tv xv:Value) (w:World) (F0:Nat→Prop) (us:List ρ) (S:List FmS) (D:Option Addr) (d:Nat) (β:Tri) (F:Nat→Prop) (wr:World):Prop where
  inv:Inv us wr F
  f0:∀ b,F b→F0 b∨w.heap.size + 2≤b
  foot:Foot F0 w wr
  box:wr.heap[w.heap.size]? = some (.cells #[kv,tv,xv] 110 (0,0))
  atb:wr.heap[w.heap.size + 1]? = some (.cells #[.pointer (rootP β.a),.pointer (rootP β.b)] 97 (0,0))
  row:SkRow wr (w.heap.size + 2) (.slice D S.length d) (S.reverse.map FmS.q)
  rF:∀ b,(Value.slice D S.length d).ownBlock = some b→¬ F b
  fs:∀ f∈S,FrS w B k f
  fc:∀ f∈S,FrC (w.heap.size + 2) wr f
  fF:∀ f∈S,∀ b,f.own b→¬ F b∧(Value.slice D S.length d).ownBlock≠some b
  dis:S.Pairwise fun f g => ∀ b,f.own b→¬ g.own b
  lev:LevS2 S
section
variable {ρ:Type} {fk ft:Nat} {lk lt:Array Value} {lv:Option (Nat × Array Value)} {B k Mx:Nat} {kf:Tri→Bool} {R:Tri→ρ→Prop} {N:Tri→Prop} {Inv:List ρ→World→(Nat→Prop)→Prop} {Stop:World→Prop} {kv tv xv:Value} {w w1 w2:World} {F0 F:Nat→Prop} {t0:Tri} {us:List ρ} {S:List FmS} {D:Option Addr} {d m:Nat} {β u:Tri} {f:FmS}
theorem ThrS.size (s:ThrS B k Inv kv tv xv w F0 us S D d β F w1):w.heap.size + 2≤w1.heap.size:=(Array.getElem?_eq_some_iff.1 s.atb).1
theorem ThrS.old (s:ThrS B k Inv kv tv xv w F0 us S D d β F w1) (hF0:∀ b,F0 b→B≤b) (hB:B≤w.heap.size):Below B w w1:=s.foot.below hB hF0
theorem ThrS.move {us':List ρ} {F':Nat→Prop} (s:ThrS B k Inv kv tv xv w F0 us S D d β F w1) (hF0:∀ b,F0 b→b < w.heap.size) (hfo:Foot F w1 w2) (hI:Inv us' w2 F') (hF':∀ b,F' b→F b∨w1.heap.size≤b):ThrS B k Inv kv tv xv w F0 us' S D d β F' w2:=by
  have hs:=s.size
  have hF2:∀ b,F b→b < w.heap.size∨w.heap.size + 2≤b:=fun b hb => (s.f0 b hb).imp (hF0 b) id
  refine ⟨hI,fun b hb => ?_,s.foot.trans hfo fun b hb => (s.f0 b hb).imp id fun c => by omega,?_,?_,s.row.block fun b hb => hfo.block b (s.row.lt b hb).2 (s.rF b hb),fun b hb hF => ?_,s.fs,fun f hf => (s.fc f hf).carry fun b hb => hfo.block b ((s.fc f hf).lt b hb).2 (s.fF f hf b hb).1,fun f hf b hb => ⟨fun hF => ?_,(s.fF f hf b hb).2⟩,s.dis,s.lev⟩
  · rcases hF' b hb with c | c
    · exact s.f0 b c
    · exact .inr (by omega)
  · rw [hfo.block _ (by omega) fun c => by have:=hF2 _ c;omega]
    exact s.box
  · rw [hfo.block _ (by omega) fun c => by have:=hF2 _ c;omega]
    exact s.atb
  · rcases hF' b hF with c | c
    · exact s.rF b hb c
    · have:=(s.row.lt b hb).2;omega
  · rcases hF' b hF with c | c
    · exact (s.fF f hf b hb).1 c
    · have:=((s.fc f hf).lt b hb).2;omega
theorem ThrS.below (hv:VisitL fk lk ft lt lv B k Mx kf R N Inv Stop) (s:ThrS B k Inv kv tv xv w F0 us S D d β F w1) (hF0:∀ b,F0 b→b < w.heap.size) (hb:Below w1.heap.size w1 w2):ThrS B k Inv kv tv xv w F0 us S D d β F w2 :=
  s.move hF0 (Foot.of_below hb) (hv.frame _ _ _ _ s.inv hb.size (fun b hF => hb.block b (hv.inb _ _ _ s.inv b hF).1) (Kp.of_below hb)) fun _ hF => .inl hF
theorem ThrS.write (hv:VisitL fk lk ft lt lv B k Mx kf R N Inv Stop) (s:ThrS B k Inv kv tv xv w F0 us S D d β F w1) (hF0:∀ b,F0 b→b < w.heap.size) (u:Tri):ThrS B k Inv kv tv xv w F0 us S D d u F ((w1.setCell ⟨w.heap.size + 1,0,none⟩ (.pointer (rootP u.a))).setCell ⟨w.heap.size + 1,1,none⟩ (.pointer (rootP u.b))):=by
  have hs:=s.size
  have h1:∀ b,b≠w.heap.size + 1→((w1.setCell ⟨w.heap.size + 1,0,none⟩ (.pointer (rootP u.a))).setCell ⟨w.heap.size + 1,1,none⟩ (.pointer (rootP u.b))).heap[b]? = w1.heap[b]?:=fun b hb => by
    rw [Below.heap_setCell _ _ _ _ hb,Below.heap_setCell _ _ _ _ hb]
  have hF2:∀ b,F b→b≠w.heap.size + 1:=fun b hb => by
    rcases s.f0 b hb with c | c
    · have:=hF0 b c;omega
    · omega
  have hfo:Foot (fun b => b = w.heap.size + 1) w1 ((w1.setCell ⟨w.heap.size + 1,0,none⟩ (.pointer (rootP u.a))).setCell ⟨w.heap.size + 1,1,none⟩ (.pointer (rootP u.b))):=⟨rfl,rfl,rfl,by simp,fun b _ hb => h1 b hb⟩
  refine ⟨hv.frame _ _ _ _ s.inv (by simp) (fun b hF => h1 b (hF2 b hF)) (pair_keeps s.atb (by decide) _ _),s.f0,s.foot.trans hfo fun b hb => .inr (by omega),(h1 _ (by omega)).trans s.box,set2 _ _ s.atb,s.row.block fun b hb => h1 b (by have:=(s.row.lt b hb).1;omega),s.rF,s.fs,fun f hf => (s.fc f hf).carry fun b hb => h1 b (by have:=((s.fc f hf).lt b hb).1;omega),s.fF,s.dis,s.lev⟩
theorem ThrS.found {a d5:Nat} {D5:Option Addr} (hv:VisitL fk lk ft lt lv B k Mx kf R N Inv Stop) (s:ThrS B k Inv kv tv xv w F0 us (f :: S) D d β F w1) (hrem:f.t.rem f.l (nextP f.P) = (a,u) :: f.t.rem f.l (a + 1)) (ha:a < 65536) (hq:w2.heap[f.q]? = some (.cells (stS f.t f.l (.slice D5 (f.P.length + 1) d5)) 245 (0,0)))
    (hrow:PsRow w2 (w.heap.size + 2) (.slice D5 (f.P.length + 1) d5) (f.P ++ [(a,u)])) (hob:(Value.slice D5 (f.P.length + 1) d5).ownBlock = f.v.ownBlock∨∃ b,(Value.slice D5 (f.P.length + 1) d5).ownBlock = some b∧w1.heap.size≤b) (hfo:Foot (fun b => b = f.q∨f.v.ownBlock = some b) w1 w2) (hk:Kp k w1 w2) :
    ThrS B k Inv kv tv xv w F0 us (⟨f.q,f.l,f.t,f.P ++ [(a,u)],D5,d5⟩ :: S) D d β F w2:=by
  have hs:=s.size
  have hf:=List.mem_cons_self (a:=f) (l:=S)
  have hfs:=s.fs f hf
  have hfc:=s.fc f hf
  have hqs:=(Array.getElem?_eq_some_iff.1 hfc.cell).1
  have hvE:FmS.v ⟨f.q,f.l,f.t,f.P ++ [(a,u)],D5,d5⟩ = .slice D5 (f.P.length + 1) d5:=by unfold FmS.v;simp
  have hnx:nextP (f.P ++ [((a,u):PlS)]) = a + 1:=nextP_snoc _ _
  have hle:nextP f.P≤a:=(hfs.place (x:=(a,u)) (n:=nextP f.P) (by rw [hrem];exact List.mem_cons_self)).2.2.2.2.1
  have hfo':Foot f.own w1 w2:=hfo
  have hown:∀ b,FmS.own ⟨f.q,f.l,f.t,f.P ++ [(a,u)],D5,d5⟩ b→f.own b∨w1.heap.size≤b:=fun b hb => by
    rcases hb with e | e
    · exact .inl (.inl e)
    · rw [hvE] at e
      rcases hob with c | ⟨b',c,hb'⟩
      · exact .inl (.inr (c ▸ e))
      · rw [c] at e;cases e;exact .inr hb'
  have hlow:∀ b,f.own b→w.heap.size + 2≤b:=fun b hb => (hfc.lt b hb).1
  have hlen:(FmS.mk f.q f.l f.t (f.P ++ [(a,u)]) D5 d5 :: S).length = (f :: S).length:=rfl
  refine ⟨hv.frame _ _ _ _ s.inv hfo.size (fun b hF => hfo'.block b (hv.inb _ _ _ s.inv b hF).1 fun ho => (s.fF f hf b ho).1 hF) hk,s.f0,s.foot.trans hfo' fun b hb => .inr (by have:=hlow b hb;omega),?_,?_,?_,s.rF,fun g hg => ?_,fun g hg => ?_,fun g hg b hb => ?_,?_,?_⟩
  · rw [hfo'.block _ (by omega) fun ho => by have:=hlow _ ho;omega]
    exact s.box
  · rw [hfo'.block _ (by omega) fun ho => by have:=hlow _ ho;omega]
    exact s.atb
  · have:=s.row.block (w':=w2) fun b hb => hfo'.block b (s.row.lt b hb).2 fun ho => (s.fF f hf b ho).2 hb
    simpa using this
  · rcases List.mem_cons.1 hg with rfl | hg
    · refine ⟨hfs.ok,hfs.nt,hfs.ho,?_,?_,?_,hfs.ne⟩
      · show f.P ++ [((a,u):PlS)] ++ f.t.rem f.l (nextP (f.P ++ [((a,u):PlS)])) = _
        rw [hnx,← hfs.rem,hrem]
        simp
      · show nextP (f.P ++ [((a,u):PlS)])≤_
        omega
      · show (f.P ++ [((a,u):PlS)]).length≤nextP (f.P ++ [((a,u):PlS)])
        have:=hfs.n6
        rw [hnx]
        simp only [List.length_append,List.length_singleton]
        omega
    · exact s.fs g (List.mem_cons_of_mem _ hg)
  · rcases List.mem_cons.1 hg with rfl | hg
    · refine ⟨?_,?_,?_,hfc.qb⟩
      · rw [hvE];exact hq
      · rw [hvE];exact hrow
      · rw [hvE]
        rcases hob with e | ⟨b',e,hb'⟩
        · rw [e];exact hfc.vq
        · rw [e]
          intro e'
          cases e'
          exact absurd hqs (Nat.not_lt.2 hb')
    · exact (s.fc g (List.mem_cons_of_mem _ hg)).carry fun b hb => hfo'.block b ((s.fc g (List.mem_cons_of_mem _ hg)).lt b hb).2 fun ho => (List.pairwise_cons.1 s.dis).1 g hg b ho hb
  · rcases List.mem_cons.1 hg with rfl | hg
    · rcases hown b hb with c | c
      · exact s.fF f hf b c
      · refine ⟨fun hF => ?_,fun e => ?_⟩
        · have:=(hv.inb _ _ _ s.inv b hF).1;omega
        · have:=(s.row.lt b e).2;omega
    · exact s.fF g (List.mem_cons_of_mem _ hg) b hb
  · refine List.pairwise_cons.2 ⟨fun g hg b hb hgo => ?_,(List.pairwise_cons.1 s.dis).2⟩
    rcases hown b hb with c | c
    · exact (List.pairwise_cons.1 s.dis).1 g hg b c hgo
    · have:=((s.fc g (List.mem_cons_of_mem _ hg)).lt b hgo).2;omega
  · exact s.lev
theorem ThrS.push {l q d5:Nat} {D5:Option Addr} {c0:List Nat} {wX:World} (hv:VisitL fk lk ft lt lv B k Mx kf R N Inv Stop) (s:ThrS B k Inv kv tv xv w F0 us S D d β F w1) (hF0:∀ b,F0 b→b < w.heap.size) (hbX:Below w1.heap.size w1 wX) (hq0:w1.heap.size≤q) (hqX:wX.heap[q]? = some (.cells (stS u l (.slice none 0 0)) 245 (0,0)))
    (hgr:wX.grownBy w2 (Value.slice D S.length d).ownBlock) (hrow:SkRow w2 (w.heap.size + 2) (.slice D5 (S.length + 1) d5) (S.reverse.map FmS.q ++ [q])) (hob:(Value.slice D5 (S.length + 1) d5).ownBlock = (Value.slice D S.length d).ownBlock∨(Value.slice D5 (S.length + 1) d5).ownBlock = some wX.heap.size)
    (hfr:Tr.FrmOk k l c0 u∧∀ x∈u.list,Tr.Wf k x∧x.lv≤l + 1∧Z.cut x.pre (l + 1) = c0) (hu:TriN w B k u) (huo:u.o = none) (hne:u.list≠[]) (hl:l + 1≤roomS S) :
    ThrS B k Inv kv tv xv w F0 us (⟨q,l,u,[],none,0⟩ :: S) D5 d5 β F w2:=by
  have hne':=hne
  clear hne
  have hs:=s.size
  have hqs:=(Array.getElem?_eq_some_iff.1 hqX).1
  have hsX:=hbX.size
  have sX:=s.below hv hF0 hbX
  have hne:∀ b,b < wX.heap.size→(Value.slice D S.length d).ownBlock≠some b→w2.heap[b]? = wX.heap[b]?:=fun b hb hn => hgr.block b hb fun e => hn e.symm
  have hrl:=s.row.lt
  have hqv:(Value.slice D S.length d).ownBlock≠some q:=fun e => by have:=(hrl q e).2;omega
  have hq2:w2.heap[q]? = some (.cells (stS u l (.slice none 0 0)) 245 (0,0)):=(hne q hqs hqv).trans hqX
  have hkp:Kp k wX w2:=SkRow.keeps sX.row hgr
  have hown5:∀ b,(Value.slice D5 (S.length + 1) d5).ownBlock = some b→(Value.slice D S.length d).ownBlock = some b∨wX.heap.size≤b:=fun b hb => by
    rcases hob with e | e
    · exact .inl (e ▸ hb)
    · rw [e] at hb;cases hb;exact .inr (Nat.le_refl _)
  have hvE:FmS.v ⟨q,l,u,[],none,0⟩ = .slice none 0 0:=rfl
  have hownq:∀ b,FmS.own ⟨q,l,u,[],none,0⟩ b→b = q:=fun b hb => by
    rcases hb with e | e
    · exact e
    · simp [hvE,Value.ownBlock] at e
  have hFb:∀ b,F b→b < w1.heap.size:=fun b hb => (hv.inb _ _ _ s.inv b hb).1
  have hfb:∀ f∈S,∀ b,f.own b→b < w1.heap.size:=fun f hf b hb => ((s.fc f hf).lt b hb).2
  refine ⟨hv.frame _ _ _ _ sX.inv hgr.size (fun b hF => hne b (by have:=hFb b hF;omega) fun e => s.rF b e hF) hkp,s.f0,sX.foot.trans (F1:=fun b => (Value.slice D S.length d).ownBlock = some b) ⟨hgr.os,hgr.tape,hgr.output,hgr.size,fun b hb hn => hne b hb hn⟩ fun b hb => .inr (by have:=(hrl b hb).1;omega),?_,?_,?_,fun b hb hF => ?_,fun g hg => ?_,fun g hg => ?_,fun g hg b hb => ?_,?_,?_⟩
  · rw [hne _ (by omega) fun e => by have:=(hrl _ e).1;omega]
    exact sX.box
  · rw [hne _ (by omega) fun e => by have:=(hrl _ e).1;omega]
    exact sX.atb
  · simpa using hrow
  · rcases hown5 b hb with c | c
    · exact s.rF b c hF
    · have:=hFb b hF;omega
  · rcases List.mem_cons.1 hg with rfl | hg
    · exact ⟨⟨c0,hfr⟩,hu,huo,List.nil_append _,Nat.zero_le _,Nat.zero_le _,hne'⟩
    · exact s.fs g hg
  · rcases List.mem_cons.1 hg with rfl | hg
    · exact ⟨hq2,rowZ_nil _ _ _,by rw [hvE];simp [Value.ownBlock],by show w.heap.size + 2≤q;omega⟩
    · exact (sX.fc g hg).carry fun b hb => hne b (by have:=hfb g hg b hb;omega) (s.fF g hg b hb).2
  · rcases List.mem_cons.1 hg with rfl | hg
    · have e:=hownq b hb
      refine ⟨fun hF => ?_,fun e' => ?_⟩
      · have:=hFb b hF;omega
      · rcases hown5 b e' with c | c
        · exact hqv (e ▸ c)
        · omega
    · refine ⟨(s.fF g hg b hb).1,fun e' => ?_⟩
      rcases hown5 b e' with c | c
      · exact (s.fF g hg b hb).2 c
      · have:=hfb g hg b hb;omega
  · refine List.pairwise_cons.2 ⟨fun g hg b hb hgo => ?_,s.dis⟩
    have:=hownq b hb
    have:=hfb g hg b hgo
    omega
  · refine ⟨?_,s.lev⟩
    have:=s.lev.room
    show l + (S.length + 1)≤64
    omega
theorem ThrS.topped (s:ThrS B k Inv kv tv xv w F0 us (f :: S) D d β F w1):∃ g,D = some ⟨g,0,none⟩∧S.length + 1≤d∧w1.cell? ⟨g,S.length,none⟩ = some (.pointer (some ⟨f.q,0,none⟩)):=by
  have hr:=s.row
  rw [List.reverse_cons,List.map_append] at hr
  obtain ⟨g,d',cur,hvE,-,-,hgh,hQ⟩:=RowZ.at skQ_ok hr (i:=S.length) (x:=f.q) (by simp)
  obtain ⟨D',d2,he,hd⟩:=RowZ.slice hr
  simp only [Value.slice.injEq] at hvE he
  refine ⟨g,hvE.1,?_,?_⟩
  · simp at hd;omega
  · rw [cell_of_row w1 _ _ _ _ (0,0) hgh]
    unfold SkQ at hQ
    simpa using hQ
theorem ThrS.pop {g:Nat} (s:ThrS B k Inv kv tv xv w F0 us (f :: S) (some ⟨g,0,none⟩) d β F w1):ThrS B k Inv kv tv xv w F0 us S (some ⟨g,0,none⟩) d β F w1:=by
  refine ⟨s.inv,s.f0,s.foot,s.box,s.atb,?_,s.rF,fun f hf => s.fs f (List.mem_cons_of_mem _ hf),fun f hf => s.fc f (List.mem_cons_of_mem _ hf),fun f hf => s.fF f (List.mem_cons_of_mem _ hf),(List.pairwise_cons.1 s.dis).2,s.lev.2⟩
  have h:=RowZ.take s.row skQ_ok (by omega) skQ_nu (m:=S.length) (by simp)
  have e:((f :: S).reverse.map FmS.q).take S.length = S.reverse.map FmS.q:=by
    rw [List.reverse_cons,List.map_append,List.take_append_of_le_length (by simp)]
    exact List.take_of_length_le (by simp)
  rw [e] at h
  exact h
end
end Go.Proofs.YtkeepngaaleakaaGreatDoor
