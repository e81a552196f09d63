import Derived.Test.YtkeepngaaleakaaGreatDoorM24
namespace Go.Proofs.YtkeepngaaleakaaGreatDoor
open Go.ChangeShapes Go.WideShapes Go.ChangeAt Go.RowKit
open Tr (T S4 Ent Shp)
theorem shQ_at {w:World} {D:Nat→Prop} {A A':Option Addr} {c c':Nat} {s:Shp} (hp:Pts w w.heap.size A s.pre) (hr:RdV w w.heap.size A' (Sn.intV s.ks)) (hA:s.pre≠[]→∀ x,A = some x→D x.block) (hA':s.ks≠[]→∀ x,A' = some x→D x.block) :
    ShQ w D (fun j => (#[.int .i64 s.lev,.slice A s.pre.length c,.slice A' s.ks.length c',.bool s.dn,.int .u64 (s.val:Int)]:Array Value)[j]?) s :=
  ⟨A,c,A',c',rfl,rfl,rfl,rfl,rfl,⟨_,hp⟩,⟨_,hr⟩,hA,hA'⟩
theorem shT_ent (k g:Nat) (p:List Nat) (v:Nat) (h1:1≤k):Tr.shT k (.ent g p v) = ⟨-1,p,[],false,v⟩:=by
  simp only [Tr.shT]
  rw [show denseT k (.ent g p v) = false from dense_ent k h1]
  rfl
theorem rshape_in {w:World} {B b off c k:Nat} {t:T} (wf:Tr.Wf k t) (h:Ents w B (some ⟨b,off,none⟩) t.ents) (hB:B≤w.heap.size) (hc:t.ents.length≤c) (hl:t.ents.length≤1000000) :
    Calls Tryz.prog 116 #[.slice (some ⟨b,off,none⟩) t.ents.length c] w fun e w' => (∃ A c A' c',e = .returned (shpV A c A' c' (Tr.shT k t))∧Pts w' w'.heap.size A (Tr.shT k t).pre∧RdV w' w'.heap.size A' (Sn.intV (Tr.shT k t).ks) ∧
      ((Tr.shT k t).pre≠[]→∀ x,A = some x→x.block < B∨w.heap.size≤x.block)∧((Tr.shT k t).ks≠[]→∀ x,A' = some x→x.block < B∨w.heap.size≤x.block))∧Below w.heap.size w w':=by
  cases t with
  | ent g p v =>
    rw [shT_ent k g p v wf.k1]
    rw [Tr.ents_ent] at h ⊢
    refine (rshape_one_in (c:=c) h hB).mono ?_
    rintro e w' ⟨⟨A1,c1,rfl,h2,h3⟩,h4⟩
    exact ⟨⟨A1,c1,none,0,rfl,h2,RdV.nil _ _ _,fun hne x hx => .inl (h3 hne x hx),fun hne => absurd rfl hne⟩,h4⟩
  | br g l pre ks =>
    have he:(T.br g l pre ks).ents = Tr.entsL ks:=Tr.ents_br _ _ _ _
    rw [he] at h hc hl ⊢
    refine (rshape_br_new wf h hB hc hl).mono ?_
    rintro e w' ⟨⟨A,c1,A',c2,rfl,h1,h2,h3,h4⟩,h5⟩
    refine ⟨⟨A,c1,A',c2,?_,h1,h2,fun _ x hx => .inr (h3 x hx),fun hne x hx => .inr (h4 hne x hx)⟩,h5⟩
    have hlev:levI (T.br g l pre ks) = (l:Int):=by show ((l + 1:Nat):Int) - 1 = l;omega
    simp only [shpV,Tr.shT,hlev]
    rfl
def ShpsAt (w w':World) (B:Nat) (e:Ending) (L:List Shp):Prop :=
  ∃ (D:Option Addr) (d:Nat) (F:Nat→Prop),e = .returned (.slice D L.length d)∧OwnL 138 5 (ShQ w' F) w' w.heap.size (.slice D L.length d) L∧(∀ q,F q→(q < B∨w.heap.size≤q)∧q < w'.heap.size∧(Value.slice D L.length d).ownBlock≠some q)∧Below w.heap.size w w'
def ShapesTold (k:Nat) (t:T):Prop:=∀ (w:World) (B b off c:Nat),Tr.Wf k t→Ents w B (some ⟨b,off,none⟩) t.ents→B≤w.heap.size→t.ents.length≤c→t.ents.length≤1000000 →
  Calls Tryz.prog 59 #[.slice (some ⟨b,off,none⟩) t.ents.length c] w fun e w' => ShpsAt w w' B e (Tr.shapes k t)
def ShRow (base B:Nat) (w:World) (v:Value) (L:List Shp):Prop :=
  ∃ F:Nat→Prop,OwnL 138 5 (ShQ w F) w base v L∧∀ q,F q→(q < B∨base≤q)∧q < w.heap.size∧v.ownBlock≠some q
theorem ShRow.drewN {base B:Nat} {w:World} {v:Value} {L:List Shp} (h:ShRow base B w v L) (n:Nat):ShRow base B (w.drewN n) v L:=h
theorem ShRow.below {base B C:Nat} {w w':World} {v:Value} {L:List Shp} (h:ShRow base B w v L) (hb:Below C w w') (hC:w.heap.size≤C):ShRow base B w' v L:=by
  obtain ⟨F,h1,h2⟩:=h
  refine ⟨F,(h1.below hb hC).imp fun f a hf => hf.imp (fun b hb' => hb.block b (by have:=(h2 b hb').2.1;omega)) fun _ h => h,fun q hq => ⟨(h2 q hq).1,?_,(h2 q hq).2.2⟩⟩
  have:=(h2 q hq).2.1
  have:=hb.size
  omega
theorem shRow_one {w:World} {base B k:Nat} {A A':Option Addr} {c c':Nat} {s:Shp} (hp:Pts w w.heap.size A s.pre) (hr:RdV w w.heap.size A' (Sn.intV s.ks)) (hA:s.pre≠[]→∀ x,A = some x→x.block < B∨base≤x.block) (hA':s.ks≠[]→∀ x,A' = some x→x.block < B∨base≤x.block) (hb:base≤w.heap.size) (_:k = 0) :
    ShRow base B (w.alloc (.cells #[.int .i64 s.lev,.slice A s.pre.length c,.slice A' s.ks.length c',.bool s.dn,.int .u64 (s.val:Int)] 138)) (.slice (some ⟨w.heap.size,0,none⟩) 1 1) [s]:=by
  have hal:=below_alloc w (.cells #[.int .i64 s.lev,.slice A s.pre.length c,.slice A' s.ks.length c',.bool s.dn,.int .u64 (s.val:Int)] 138)
  have hlt:∀ q,((s.pre≠[]∧∃ x,A = some x∧x.block = q)∨(s.ks≠[]∧∃ x,A' = some x∧x.block = q))→(q < B∨base≤q)∧q < w.heap.size:=by
    rintro q (⟨hne,x,hx,rfl⟩ | ⟨hne,x,hx,rfl⟩)
    · refine ⟨hA hne x hx,?_⟩
      obtain ⟨b,off,h1,h2,-⟩:=hp.2 hne
      rw [h1] at hx;cases hx;exact h2
    · refine ⟨hA' hne x hx,?_⟩
      obtain ⟨b,off,h1,h2,-⟩:=hr (by intro e;apply hne;cases hks:s.ks with | nil => rfl | cons a l => rw [hks] at e;simp [Sn.intV] at e)
      rw [h1] at hx;cases hx;exact h2
  refine ⟨fun q => (s.pre≠[]∧∃ x,A = some x∧x.block = q)∨(s.ks≠[]∧∃ x,A' = some x∧x.block = q),ownL_one _ s hb rfl ((shQ_at (c:=c) (c':=c') hp hr (fun hne x hx => .inl ⟨hne,x,hx,rfl⟩) (fun hne x hx => .inr ⟨hne,x,hx,rfl⟩)).imp (fun b hb' => hal.block b (hlt b hb').2) fun _ h => h),fun q hq => ⟨(hlt q hq).1,?_,?_⟩⟩
  · have:=(hlt q hq).2;simp;omega
  · have:=(hlt q hq).2;intro e;simp [Value.ownBlock] at e;omega
theorem shRow_append {base B:Nat} {w1 w2 w3:World} {v:Value} {D3:Option Addr} {m3 d3:Nat} {L M:List Shp} {F F':Nat→Prop} (ho:OwnL 138 5 (ShQ w1 F) w1 base v L) (hF:∀ q,F q→(q < B∨base≤q)∧q < w1.heap.size∧v.ownBlock≠some q)
    (h2:∀ q,F' q→(q < B∨w1.heap.size≤q)∧q < w2.heap.size) (hb:w1.heap.size≤w2.heap.size) (hBb:B≤base) (hbase:base≤w1.heap.size)
    (hown:OwnL 138 5 (ShQ w2 fun q => F q∨F' q) w3 base (.slice D3 m3 d3) (L ++ M)) (hgr:w2.grownBy w3 v.ownBlock) (hat:(Value.slice D3 m3 d3).ownBlock = v.ownBlock∨(Value.slice D3 m3 d3).ownBlock = some w2.heap.size) :
    ShRow base B w3 (.slice D3 m3 d3) (L ++ M):=by
  have hs3:=hgr.size
  have hlt:=ho.lt
  have key:∀ q,(F q∨F' q)→(q < B∨base≤q)∧q < w2.heap.size∧v.ownBlock≠some q:=by
    rintro q (hq | hq)
    · obtain ⟨a,b,c⟩:=hF q hq
      exact ⟨a,by omega,c⟩
    · obtain ⟨a,b⟩:=h2 q hq
      refine ⟨by omega,b,fun e => ?_⟩
      have:=hlt q e
      omega
  refine ⟨fun q => F q∨F' q,hown.imp fun f a hf => hf.imp (fun b hb' => hgr.block b (key b hb').2.1 (fun e => (key b hb').2.2 e.symm)) fun _ h => h,fun q hq => ⟨(key q hq).1,by have:=(key q hq).2.1;omega,?_⟩⟩
  rcases hat with e | e
  · rw [e];exact (key q hq).2.2
  · rw [e];intro h;simp at h;have:=(key q hq).2.1;omega
theorem ShRow.slice {base B:Nat} {w:World} {v:Value} {L:List Shp} (h:ShRow base B w v L):∃ A c,v = .slice A L.length c∧L.length≤c:=by
  obtain ⟨F,h1,-⟩:=h
  exact OwnL.slice h1
theorem rshapes_nil (A:Option Addr) (c:Nat) (w:World):Calls Tryz.prog 59 #[.slice A 0 c] w fun e w' => e = .returned (.slice none 0 0)∧w = w':=by
  go_enter Tryz.func59,Tryz.ntmps59
  go_wp2
  go_ret
  exact ⟨rfl,rfl⟩
set_option maxRecDepth 100000 in
set_option maxHeartbeats 2000000 in
theorem rshapes_ent {w:World} {B b off c k g v:Nat} {p:List Nat} (wf:Tr.Wf k (.ent g p v)) (h:Ents w B (some ⟨b,off,none⟩) (T.ent g p v).ents) (hB:B≤w.heap.size) (hc:(T.ent g p v).ents.length≤c) :
    Calls Tryz.prog 59 #[.slice (some ⟨b,off,none⟩) 1 c] w fun e w' => ShpsAt w w' B e [Tr.shT k (.ent g p v)]:=by
  have HS:=rshape_in wf h hB hc (by rw [Tr.ents_ent];simp)
  rw [show (T.ent g p v).ents.length = 1 by rw [Tr.ents_ent];rfl] at HS
  have HS:=Lib.hid HS
  clear wf h hB hc
  generalize Tr.shT k (.ent g p v) = s at *
  go_enter Tryz.func59,Tryz.ntmps59
  go_wp2_with fail
  refine HS.out.mono ?_
  rintro e w2 ⟨⟨A,c1,A',c2,rfl,hp,hr,hA,hA'⟩,hb2⟩
  have HP:=Lib.hid (And.intro (shRow_one (base:=w.heap.size) (B:=B) (k:=0) (c:=c1) (c':=c2) hp hr hA hA' hb2.size rfl) hb2)
  clear hp hr hA hA' hb2
  go_wp2_with fail
  go_ret
  obtain ⟨⟨F,h1,h2⟩,hb2⟩:=HP.out
  exact ⟨_,_,F,rfl,h1,h2,hb2.trans ((below_alloc w2 _).mono hb2.size)⟩
set_option maxRecDepth 100000 in
set_option maxHeartbeats 4000000 in
theorem rshapes_br {w:World} {B b off c k g l:Nat} {pre:List Nat} {ks:List (Nat × T)} (wf:Tr.Wf k (.br g l pre ks)) (h:Ents w B (some ⟨b,off,none⟩) (Tr.entsL ks)) (hB:B≤w.heap.size) (hc:(Tr.entsL ks).length≤c) (hl:(Tr.entsL ks).length≤1000000)
    (ih:∀ x∈ks,ShapesTold k x.2) :
    Calls Tryz.prog 59 #[.slice (some ⟨b,off,none⟩) (Tr.entsL ks).length c] w fun e w' => ShpsAt w w' B e (Tr.shapes k (.br g l pre ks)):=by
  obtain ⟨e0,e1,i0,-,-,-,-,-,-,-,hlen2⟩:=Tr.ends_part wf
  have he:(T.br g l pre ks).ents = Tr.entsL ks:=Tr.ents_br _ _ _ _
  have HS:=rshape_in (t:=.br g l pre ks) wf (by rw [he];exact h) hB (by rw [he];exact hc) (by rw [he];exact hl)
  rw [he] at HS
  have hall:=Tr.all_len wf
  rw [he,Tr.all_br,List.length_cons] at hall
  have hks:ks.length≤65536:=by cases wf with | br _ _ _ _ _ hw => exact hw.len16
  have hbw:b < w.heap.size:=by
    obtain ⟨b',off',A1,c1,hA,hb,-⟩:=h.at i0
    cases hA
    omega
  obtain ⟨N,hN⟩:∃ N,(Tr.entsL ks).length = N:=⟨_,rfl⟩
  have HN:=Lib.hid hN
  have n1:((N:Int) == 1) = false:=by rw [beq_eq_false_iff_ne];omega
  have n0:((N:Int) == 0) = false:=by rw [beq_eq_false_iff_ne];omega
  have HX:=Lib.hid (And.intro wf (And.intro h (And.intro hB (And.intro hc (And.intro hl (And.intro ih (And.intro hall hks)))))))
  rw [hN] at HS ⊢
  have HS:=Lib.hid HS
  clear wf h hB hc hl ih hN hall hks hlen2 i0
  have HE:Hid (Tr.shapes k (.br g l pre ks) = Tr.shT k (.br g l pre ks) :: Tr.shapesK k ks):=Lib.hid (Tr.shapes_br _ _ _ _ _)
  obtain ⟨s,hs⟩:∃ s,Tr.shT k (.br g l pre ks) = s:=⟨_,rfl⟩
  rw [hs] at HS HE
  rw [HE.out]
  clear hs
  go_enter Tryz.func59,Tryz.ntmps59
  go_wp2_with fail
  refine HS.out.mono ?_
  rintro e w2 ⟨⟨A,c1,A',c2,rfl,hp,hr,hA,hA'⟩,hb2⟩
  have HP:=Lib.hid (shRow_one (base:=w.heap.size) (B:=B) (k:=0) (c:=c1) (c':=c2) hp hr hA hA' hb2.size rfl)
  have HB2:=Lib.hid hb2
  clear hp hr hA hA' hb2 HS
  go_wp2_with fail
  obtain ⟨W,hW⟩:∃ W,W = w2.alloc (.cells #[.int .i64 s.lev,.slice A s.pre.length c1,.slice A' s.ks.length c2,.bool s.dn,.int .u64 (s.val:Int)] 138):=⟨_,rfl⟩
  have HBW:Hid (Below w.heap.size w W∧W.heap.size = w2.heap.size + 1):=Lib.hid (by rw [hW];exact ⟨HB2.out.trans ((below_alloc w2 _).mono HB2.out.size),by simp⟩)
  rw [← hW] at HP ⊢
  clear hW
  have HKd:=rkids_c HX.out.1 (HX.out.2.1.below HBW.out.1 HX.out.2.2.1 (Nat.le_refl _)) (Nat.le_trans HX.out.2.2.1 HBW.out.1.size) HX.out.2.2.2.1 HX.out.2.2.2.2.1
  rw [HN.out] at HKd
  refine HKd.mono ?_
  clear HKd
  rintro e w4 ⟨A5,d5,rfl,hlo5,hr5,hb4⟩
  have HP4:=Lib.hid (HP.out.below hb4 (Nat.le_refl _))
  have HK5:=Lib.hid (And.intro hlo5 (And.intro hr5 (And.intro hb4 (Below.andThen HBW.out.1 hb4))))
  have hks:=HX.out.2.2.2.2.2.2.2
  clear hlo5 hr5 hb4 HP
  go_wp2_with fail
  go_loopw [3,5] (fun v i wr => ∃ (j:Nat) (D:Option Addr) (d:Nat),j≤ks.length∧i = .int .i64 j∧v = .slice D (1 + (Tr.shapesK k (ks.take j)).length) d∧ShRow w.heap.size B wr v (s :: Tr.shapesK k (ks.take j)) ∧
      RdV wr w4.heap.size A5 (kidsV b off c ks ks.length)∧(∀ x,A5 = some x→∀ q,v.ownBlock = some q→x.block≠q)∧Below w.heap.size w wr∧w4.heap.size≤wr.heap.size) (fun _ i _ => ks.length - (intOf i).toNat)
  case atStart =>
    refine ⟨0,_,_,Nat.zero_le _,rfl,rfl,HP4.out,HK5.out.2.1,fun x hx q hq => ?_,HK5.out.2.2.2,Nat.le_refl _⟩
    have h1:=HK5.out.1 x hx
    have h2:=HBW.out.2
    simp [Value.ownBlock] at hq
    omega
  case round =>
    obtain ⟨j,D,d,hj,rfl,rfl,hrow,hrd,hne,hbr,hsz⟩:=hrel
    by_cases hlt:j < ks.length
    · obtain ⟨x,hx⟩:=get_lt hlt
      have hmem:=List.mem_of_getElem? hx
      have wfk:=HX.out.1.kid hmem
      obtain ⟨pb,po,hA5,hpb,hcell⟩:=hrd.at (kidsV_get b off c ks hlt)
      rw [kidV_at b off c hx] at hcell
      have HI:Hid (Calls Tryz.prog 59 #[.slice (some ⟨b,off + Tr.offK ks j * 2,none⟩) x.2.ents.length (c - Tr.offK ks j)] wr fun e w' => ShpsAt wr w' B e (Tr.shapes k x.2)):=Lib.hid (by
        have hle:=Tr.offK_le hx
        have hpart:=(HX.out.2.1.part (Tr.offK ks j) x.2.ents.length hle).below hbr HX.out.2.2.1 (Nat.le_refl _)
        rw [Tr.ents_part hx] at hpart
        have hNN:=HN.out
        exact HX.out.2.2.2.2.2.1 x hmem wr B b (off + Tr.offK ks j * 2) (c - Tr.offK ks j) wfk hpart (Nat.le_trans HX.out.2.2.1 hbr.size) (by have:=HX.out.2.2.2.1;omega) (by have:=HX.out.2.2.2.2.1;omega))
      have hps:Hid (Tr.shapesK k (ks.take (j + 1)) = Tr.shapesK k (ks.take j) ++ Tr.shapes k x.2):=Lib.hid (by
        obtain ⟨hj',rfl⟩:=List.getElem?_eq_some_iff.1 hx
        rw [List.take_succ_eq_append_getElem hj']
        simp only [Tr.shapesK,Tr.allK,Tr.shapes,List.flatMap_append,List.flatMap_cons,List.flatMap_nil,List.append_nil,List.map_append])
      have hsum:Hid (1 + (Tr.shapesK k (ks.take (j + 1))).length≤3000000):=Lib.hid (by
        have h1:=HX.out.2.2.2.2.2.2.1
        have h2:=HX.out.2.2.2.2.1
        have h3:(Tr.allK (ks.take (j + 1))).length≤(Tr.allK ks).length:=by
          have:Tr.allK ks = Tr.allK (ks.take (j + 1)) ++ Tr.allK (ks.drop (j + 1)):=by
            simp only [Tr.allK,← List.flatMap_append,List.take_append_drop]
          rw [this,List.length_append]
          omega
        rw [Tr.shapesK,List.length_map]
        omega)
      have HY:=Lib.hid (And.intro hrow (And.intro hrd (And.intro hne (And.intro hbr (And.intro hsz hA5)))))
      have hpbw:pb < wr.heap.size:=by omega
      subst hA5
      have m1:(0:Int)≤(j:Int):=by omega
      have m2:(j:Int) < (ks.length:Int):=by omega
      have y1:∀ w',Below wr.heap.size wr w'→w'.cell? ⟨pb,po + j,none⟩ = some (.slice (some ⟨b,off + Tr.offK ks j * 2,none⟩) x.2.ents.length (c - Tr.offK ks j)):=fun w' hb' => (hb'.cell (p:=⟨pb,po + j,none⟩) hpbw).trans hcell
      clear hx hmem wfk hrow hrd hne hbr hsz
      go_wp2_with fail
      refine HI.out.mono ?_
      rintro e w5 ⟨D5,d5',F5,rfl,ho5,hF5,hb5⟩
      obtain ⟨⟨F,ho,hF⟩,hrd,hne,hbr,hsz,-⟩:=HY.out
      obtain ⟨A6,c6,hv6,-,hl6⟩:=OwnL.rd (shQ_ok w5 F5) ho5
      simp only [Value.slice.injEq] at hv6
      obtain ⟨rfl,-,rfl⟩:=hv6
      have hh5:=hb5.size
      have hleft:OwnL 138 5 (ShQ w5 fun q => F q∨F5 q) w5 w.heap.size (.slice D (1 + (Tr.shapesK k (ks.take j)).length) d) (s :: Tr.shapesK k (ks.take j)):=(ho.below hb5 (Nat.le_refl _)).imp fun f a hf => hf.imp (fun b hb' => hb5.block b (hF b hb').2.1) fun _ h => .inl h
      have hright:Lst 5 (ShQ w5 fun q => F q∨F5 q) w5 w5.heap.size D5 (Tr.shapes k x.2):=by
        intro hn
        obtain ⟨b1,o1,h1,h2,h3⟩:=hl6 hn
        exact ⟨b1,o1,h1,h2,fun i a ha => (h3 i a ha).imp (fun _ _ => rfl) fun _ h => .inr h⟩
      have HA:=Lib.hid (And.intro hleft (And.intro hright (And.intro ho (And.intro hF (And.intro hF5 (And.intro hb5 (And.intro hbr (And.intro hrd (And.intro hne (And.intro hsz hpb))))))))))
      have hlen:=hsum.out
      rw [hps.out,List.length_append] at hlen
      obtain ⟨m,hm⟩:∃ m,1 + (Tr.shapesK k (ks.take j)).length + (Tr.shapes k x.2).length = m:=⟨_,rfl⟩
      have hbase:w.heap.size≤w5.heap.size:=Nat.le_trans hbr.size hh5
      clear hrd hne hbr hsz ho hF ho5 hF5 hl6 hb5 hleft hright HI y1 hh5 HY
      go_wp2_with (at_builtin;refine wpList_append_list (Q:=ShQ w5 fun q => F q∨F5 q) 71 138 (.agg #[.int .i64 0,.slice none 0 0,.slice none 0 0,.bool false,.int .u64 0]) 72 Tryz.underlying71 infoSh (by rfl) (by omega) (by omega) (shQ_ok w5 _) (by rfl) _ _ (by rfl) w.heap.size (.slice D (1 + (Tr.shapesK k (ks.take j)).length) d) (s :: Tr.shapesK k (ks.take j)) (Tr.shapes k x.2) m (by rw [List.length_cons,← hm];omega) (by rfl) (by exact HA.out.1) w5.heap.size D5 (Tr.shapes k x.2).length d5' (by rfl) (by rfl) (by exact HA.out.2.1) (by omega) (by exact hbase) ?_;intro D7 d7 w7 hown7 hgrow7 hat7)
      go_roundw
      case rel =>
        obtain ⟨-,-,ho,hF,hF5,hb5,hbr,hrd,hne,hsz,hpb⟩:=HA.out
        refine ⟨j + 1,D7,d7,by omega,by go_num,by rw [hps.out,List.length_append,← hm,Nat.add_assoc],?_,?_,?_,?_,?_⟩
        · have hh:=shRow_append ho hF (fun q hq => ⟨(hF5 q hq).1,(hF5 q hq).2.1⟩) hb5.size HX.out.2.2.1 hbr.size hown7 hgrow7 hat7
          rw [hps.out]
          exact hh
        · exact rdV_grown (hrd.below hb5 hsz (Nat.le_refl _)) hgrow7 (by have:=hb5.size;omega) (fun x hx e => hne x hx _ e rfl)
        · intro x hx q hq
          rcases hat7 with e | e
          · exact hne x hx q (by rw [← e];exact hq)
          · rw [e] at hq
            cases hx
            cases hq
            show pb≠w5.heap.size
            have:=hb5.size
            omega
        · exact (hbr.trans (hb5.mono hbr.size)).grown hgrow7 hbase (fun q hq => (ho.lt q hq).1)
        · have:=hgrow7.size
          have:=hb5.size
          omega
      case measure => simp [intOf];omega
    · have hjk:j = ks.length:=by omega
      subst hjk
      have hlen:1 + (Tr.shapesK k ks).length = (s :: Tr.shapesK k ks).length:=by rw [List.length_cons];omega
      rw [List.take_length,hlen] at hrow ⊢
      obtain ⟨F,ho,hF⟩:=hrow
      have HF:=Lib.hid (And.intro ho (And.intro hF hbr))
      clear ho hF hbr hrd hne hsz hlen
      go_wp2_with fail
      go_ret
      exact ⟨D,d,F,rfl,HF.out.1,HF.out.2.1,HF.out.2.2⟩
theorem rshapes_upto (k:Nat):∀ (n:Nat) (t:T),SizeOf.sizeOf t < n→ShapesTold k t
  | 0,_,hs => by omega
  | n + 1,t,hs => by
    intro w B b off c wf h hB hc hl
    cases t with
    | ent g p v =>
      have h1:=rshapes_ent wf h hB hc
      rw [Tr.shapes_ent]
      rw [show (T.ent g p v).ents.length = 1 by rw [Tr.ents_ent];rfl]
      exact h1
    | br g l pre ks =>
      have he:(T.br g l pre ks).ents = Tr.entsL ks:=Tr.ents_br _ _ _ _
      rw [he] at h hc hl ⊢
      exact rshapes_br wf h hB hc hl fun x hx => rshapes_upto k n x.2 (by have:=Tr.kid_lt hx g l pre;omega)
theorem rshapes_all (k:Nat) (t:T):ShapesTold k t:=rshapes_upto k _ t (Nat.lt_succ_self _)
theorem ptsW {w:World} {B:Nat} {A:Option Addr} {us:List Nat} (h:Pts w B A us):Pts w w.heap.size A us:=by
  refine ⟨h.1,fun hn => ?_⟩
  obtain ⟨b,off,hA,-,hc⟩:=h.2 hn
  refine ⟨b,off,hA,?_,hc⟩
  obtain ⟨u,hu⟩:∃ u,us[0]? = some u:=by cases us with | nil => exact absurd rfl hn | cons a l => exact ⟨a,rfl⟩
  exact World.block_lt_of_cell? w _ (hc 0 u hu)
theorem rdVW {w:World} {B:Nat} {A:Option Addr} {xs:List Value} (h:RdV w B A xs):RdV w w.heap.size A xs:=by
  intro hn
  obtain ⟨b,off,hA,-,hc⟩:=h hn
  refine ⟨b,off,hA,?_,hc⟩
  obtain ⟨u,hu⟩:∃ u,xs[0]? = some u:=by cases xs with | nil => exact absurd rfl hn | cons a l => exact ⟨a,rfl⟩
  exact World.block_lt_of_cell? w _ (hc 0 u hu)
def Shps (w:World) (A:Option Addr) (L:List Shp):Prop:=∃ D R,Lst 5 (ShQ w D) w R A L∧R≤w.heap.size
theorem Shps.at {w:World} {A:Option Addr} {L:List Shp} (h:Shps w A L) {i:Nat} {s:Shp} (hs:L[i]? = some s) :
    ∃ b off C c C' c',A = some ⟨b,off,none⟩∧b < w.heap.size∧w.cell? ⟨b,off + i * 5,none⟩ = some (.int .i64 s.lev)∧w.cell? ⟨b,off + i * 5 + 1,none⟩ = some (.slice C s.pre.length c)∧w.cell? ⟨b,off + i * 5 + 2,none⟩ = some (.slice C' s.ks.length c')∧w.cell? ⟨b,off + i * 5 + 3,none⟩ = some (.bool s.dn)∧w.cell? ⟨b,off + i * 5 + 4,none⟩ = some (.int .u64 (s.val:Int)) ∧
      Pts w w.heap.size C s.pre∧RdV w w.heap.size C' (Sn.intV s.ks):=by
  obtain ⟨D,R,h1,h2⟩:=h
  obtain ⟨b,off,hA,hb,hq⟩:=h1 (by rintro rfl;simp at hs)
  obtain ⟨C,c,C',c',e0,e1,e2,e3,e4,⟨B,p⟩,⟨B',r⟩,-,-⟩:=hq i s hs
  exact ⟨b,off,C,c,C',c',hA,by omega,e0,e1,e2,e3,e4,ptsW p,rdVW r⟩
theorem Shps.cut {w:World} {A:Option Addr} {L:List Shp} {i:Nat} {s:Shp} (h:Shps w A L) (hs:L[i]? = some s) {wr:World} (hr:Below w.heap.size w wr) :
    ∃ b off C c C' c',A = some ⟨b,off,none⟩∧(∀ w',Below wr.heap.size wr w'→w'.cell? ⟨b,off + i * 5,none⟩ = some (.int .i64 s.lev))∧(∀ w',Below wr.heap.size wr w'→w'.cell? ⟨b,off + i * 5 + 1,none⟩ = some (.slice C s.pre.length c))∧(∀ w',Below wr.heap.size wr w'→w'.cell? ⟨b,off + i * 5 + 2,none⟩ = some (.slice C' s.ks.length c'))∧(∀ w',Below wr.heap.size wr w'→w'.cell? ⟨b,off + i * 5 + 3,none⟩ = some (.bool s.dn))∧(∀ w',Below wr.heap.size wr w'→w'.cell? ⟨b,off + i * 5 + 4,none⟩ = some (.int .u64 (s.val:Int))) ∧
      (∀ w',Below wr.heap.size wr w'→Pts w' w'.heap.size C s.pre)∧(∀ w',Below wr.heap.size wr w'→RdV w' w'.heap.size C' (Sn.intV s.ks)):=by
  obtain ⟨b,off,C,c,C',c',hA,hlt,e0,e1,e2,e3,e4,p,r⟩:=h.at hs
  have hbb:∀ w',Below wr.heap.size wr w'→Below w.heap.size w w':=fun w' hb => hr.trans (hb.mono hr.size)
  exact ⟨b,off,C,c,C',c',hA,fun w' hb => ((hbb w' hb).cell (p:=⟨b,off + i * 5,none⟩) hlt).trans e0,fun w' hb => ((hbb w' hb).cell (p:=⟨b,off + i * 5 + 1,none⟩) hlt).trans e1,fun w' hb => ((hbb w' hb).cell (p:=⟨b,off + i * 5 + 2,none⟩) hlt).trans e2,fun w' hb => ((hbb w' hb).cell (p:=⟨b,off + i * 5 + 3,none⟩) hlt).trans e3,fun w' hb => ((hbb w' hb).cell (p:=⟨b,off + i * 5 + 4,none⟩) hlt).trans e4,
    fun w' hb => (p.below' (hbb w' hb) (Nat.le_refl _)).keep (hbb w' hb).size (fun _ _ => rfl),fun w' hb => r.below (hbb w' hb) (Nat.le_refl _) (hbb w' hb).size⟩
set_option maxRecDepth 100000 in
set_option maxHeartbeats 2000000 in
theorem rsameShapes_c {w:World} {L:List Shp} {A A':Option Addr} {c c':Nat} (h:Shps w A L) (h':Shps w A' L) (hs:∀ s∈L,s.pre.length≤65536∧s.ks.length≤65536) (hl:L.length≤1000000000) :
    Calls Tryz.prog 44 #[.slice A L.length c,.slice A' L.length c'] w fun e w' => e = .returned (.bool true)∧Below w.heap.size w w':=by
  have HX:=Lib.hid (And.intro h (And.intro h' hs))
  have n1:((L.length:Int) != (L.length:Int)) = false:=by simp
  clear h h' hs
  go_enter Tryz.func44,Tryz.ntmps44
  go_wp2_with fail
  go_loopw [5] (fun i wr => ∃ j:Nat,j≤L.length∧i = .int .i64 j∧Below w.heap.size w wr) (fun i _ => L.length - (intOf i).toNat)
  case atStart => exact ⟨0,Nat.zero_le _,rfl,Below.refl _ _⟩
  case round =>
    obtain ⟨j,hj,rfl,hbr⟩:=hrel
    have HB:=Lib.hid hbr
    by_cases hlt:j < L.length
    · obtain ⟨s,hs⟩:=get_lt hlt
      obtain ⟨b,off,C,c1,C',c1',hA,e0,e1,e2,e3,e4,p,r⟩:=HX.out.1.cut hs hbr
      obtain ⟨b2,off2,E,d1,E',d1',hA2,f0,f1,f2,f3,f4,p2,r2⟩:=HX.out.2.1.cut hs hbr
      subst hA hA2
      have hsb:=HX.out.2.2 s (List.mem_of_getElem? hs)
      have HC:Hid (∀ w1,Below wr.heap.size wr w1→Calls Tryz.prog 94 #[shapeV s.lev C s.pre.length c1 C' s.ks.length c1' s.dn s.val,shapeV s.lev E s.pre.length d1 E' s.ks.length d1' s.dn s.val] w1 fun e w' => e = .returned (.bool true)∧Below w1.heap.size w1 w'):=Lib.hid fun w1 hb1 => by
        exact rsameShape_c s.lev C c1 C' c1' E d1 E' d1' s.pre s.ks s.dn s.val (p w1 hb1) (p2 w1 hb1) (r w1 hb1) (r2 w1 hb1) (Nat.le_refl _) hsb.1 hsb.2
      have hszr:=hbr.size
      have hb0:Below wr.heap.size wr wr:=Below.refl _ _
      have m1:(0:Int)≤(j:Int):=by omega
      have m2:(j:Int) < (L.length:Int):=by omega
      clear hs p p2 r r2 hsb hbr
      go_wp2_with fail
      go_region_held3 (fun w' => Below wr.heap.size wr w') (((repeat first | refine bD ?_ | with_reducible refine bN ?_ | refine bA ?_ | refine bS ?_);first | exact bR | assumption | exact bN bR | exact bN (bN bR)))
        ((go_at_call 94;refine (HC.out _ (show Below wr.heap.size wr _ by ((repeat first | refine bD ?_ | with_reducible refine bN ?_ | refine bA ?_ | refine bS ?_);first | exact bR | assumption | exact bN bR | exact bN (bN bR)))).mono ?_;rintro e w2 ⟨rfl,hb2⟩;have hbD:=Below.trans (show Below wr.heap.size wr _ by ((repeat first | refine bD ?_ | with_reducible refine bN ?_ | refine bA ?_ | refine bS ?_);first | exact bR | assumption | exact bN bR | exact bN (bN bR))) (hb2.mono (Below.size (show Below wr.heap.size wr _ by ((repeat first | refine bD ?_ | with_reducible refine bN ?_ | refine bA ?_ | refine bS ?_);first | exact bR | assumption | exact bN bR | exact bN (bN bR)))));clear hb2))
      clear e0 e1 e2 e3 e4 f0 f1 f2 f3 f4
      go_wp2_with fail
      go_roundw
      case rel => exact ⟨j + 1,by omega,by go_num,HB.out.trans (hbD.mono HB.out.size)⟩
      case measure => simp [intOf];omega
    · go_wp2_with fail
      go_ret
      exact ⟨rfl,HB.out⟩
def shD (D:Nat→Prop) (A A':Option Addr) (ks:List Nat):Nat→Prop:=fun b => D b∨(∃ x,A = some x∧x.block = b)∨(ks≠[]∧∃ x,A' = some x∧x.block = b)
theorem shQ_new {w:World} {D:Nat→Prop} {A A':Option Addr} (c c':Nat) {B:Nat} {s:Shp} (hp:Pts w B A s.pre) (hr:RdV w B A' (Sn.intV s.ks)) :
    ShQ w (shD D A A' s.ks) (fun j => (#[.int .i64 s.lev,.slice A s.pre.length c,.slice A' s.ks.length c',.bool s.dn,.int .u64 (s.val:Int)]:Array Value)[j]?) s :=
  ⟨A,c,A',c',rfl,rfl,rfl,rfl,rfl,⟨B,hp⟩,⟨B,hr⟩,fun _ x hx => .inr (.inl ⟨x,hx,rfl⟩),fun hk x hx => .inr (.inr ⟨hk,x,hx,rfl⟩)⟩
def ShCell (B g:Nat) (L:List Shp) (w:World) (v:Value) (ty:TypeId) (D:Nat→Prop):Prop :=
  B≤g∧w.heap[g]? = some (.cells #[v] ty (0,0))∧OwnL 138 5 (ShQ w D) w B v L∧v.ownBlock≠some g∧∀ b,D b→b < w.heap.size∧B≤b∧b≠g∧v.ownBlock≠some b
theorem shapes1_end {w w2 w3:World} {B g m d3:Nat} {L:List Shp} {s:Shp} {v:Value} {ty:TypeId} {D:Nat→Prop} {A A' D3:Option Addr} {ob:Obj} (h:ShCell B g L w v ty D) (hb:Below w.heap.size w w2)
    (hp:Pts w2 w2.heap.size A s.pre) (hr:RdV w2 w2.heap.size A' (Sn.intV s.ks)) (hA:∀ x,A = some x→w.heap.size≤x.block) (hA':s.ks≠[]→∀ x,A' = some x→w.heap.size≤x.block) (hne:s.pre≠[])
    (hown:OwnL 138 5 (ShQ w2 (shD D A A' s.ks)) w3 B (.slice D3 m d3) (L ++ [s])) (hgr:(w2.alloc ob).grownBy w3 v.ownBlock) (hat:(Value.slice D3 m d3).ownBlock = v.ownBlock∨(Value.slice D3 m d3).ownBlock = some (w2.alloc ob).heap.size) :
    ∃ v' D',ShCell B g (L ++ [s]) (w3.setCell ⟨g,0,none⟩ (.slice D3 m d3)) v' ty D'∧(∀ b,(v'.ownBlock = some b∨D' b)→v.ownBlock = some b∨D b∨w.heap.size≤b) ∧
      Foot (fun b => b = g∨v.ownBlock = some b) w (w3.setCell ⟨g,0,none⟩ (.slice D3 m d3)):=by
  obtain ⟨hBg,hg,ho,hv,hD⟩:=h
  have hgs:g < w.heap.size:=(Array.getElem?_eq_some_iff.1 hg).1
  have hs2:=hb.size
  have hs3:=hgr.size
  have hsa:(w2.alloc ob).heap.size = w2.heap.size + 1:=by simp
  have hlt:=ho.lt
  obtain ⟨V,hV⟩:∃ V,V = Value.slice D3 m d3:=⟨_,rfl⟩
  rw [← hV] at hown hat ⊢
  have hg3:w3.heap[g]? = some (.cells #[v] ty (0,0)):=by
    rw [hgr.block g (by omega) (fun e => hv e.symm),Below.heap_alloc w2 ob g (by omega),hb.block g hgs,hg]
  have hVg:V.ownBlock≠some g:=by
    rcases hat with e | e
    · rw [e];exact hv
    · rw [e];intro h;simp at h;omega
  have hnew:∀ b,shD D A A' s.ks b→b < w2.heap.size∧B≤b∧b≠g∧v.ownBlock≠some b∧(D b∨w.heap.size≤b):=by
    intro b hb'
    rcases hb' with h | ⟨x,hx,rfl⟩ | ⟨hk,x,hx,rfl⟩
    · obtain ⟨h1,h2,h3,h4⟩:=hD b h
      exact ⟨by omega,h2,h3,h4,.inl h⟩
    · have h1:=hA x hx
      obtain ⟨b',off,hx',hlt',-⟩:=hp.2 hne
      rw [hx'] at hx
      cases hx
      exact ⟨hlt',by show B≤b';have:w.heap.size≤b':=h1;omega,fun e => by have:w.heap.size≤b':=h1;have:b' = g:=e;omega,fun e => by have:=(hlt _ e).2;have:w.heap.size≤b':=h1;simp only at *;omega,.inr h1⟩
    · have h1:=hA' hk x hx
      obtain ⟨b',off,hx',hlt',-⟩:=hr (by intro e;apply hk;cases hks:s.ks with | nil => rfl | cons a l => rw [hks] at e;simp [Sn.intV] at e)
      rw [hx'] at hx
      cases hx
      exact ⟨hlt',by show B≤b';have:w.heap.size≤b':=h1;omega,fun e => by have:w.heap.size≤b':=h1;have:b' = g:=e;omega,fun e => by have:=(hlt _ e).2;have:w.heap.size≤b':=h1;simp only at *;omega,.inr h1⟩
  have hkeep:∀ b,shD D A A' s.ks b→(w3.setCell ⟨g,0,none⟩ V).heap[b]? = w2.heap[b]?:=by
    intro b hb'
    obtain ⟨h1,h2,h3,h4,-⟩:=hnew b hb'
    rw [Below.heap_setCell _ _ _ _ (fun e => h3 e),hgr.block b (by omega) (fun e => h4 e.symm),Below.heap_alloc w2 ob b h1]
  refine ⟨V,shD D A A' s.ks,⟨hBg,by rw [heap_setCell_same w3 g 0 _ ty V hg3];rfl,?_,hVg,?_⟩,?_,?_⟩
  · refine (hown.block (w':=w3.setCell ⟨g,0,none⟩ V) fun q hq => Below.heap_setCell _ _ _ _ (fun e => hVg (by rw [hq,e]))).imp fun f a hf => hf.imp hkeep fun _ h => h
  · intro b hb'
    obtain ⟨h1,h2,h3,h4,-⟩:=hnew b hb'
    refine ⟨by rw [World.size_setCell];omega,h2,h3,?_⟩
    rcases hat with e | e
    · rw [e];exact h4
    · rw [e];intro h;simp at h;omega
  · intro b hb'
    rcases hb' with h | h
    · rcases hat with e | e
      · rw [e] at h;exact .inl h
      · rw [e] at h;simp at h;exact .inr (.inr (by omega))
    · exact .inr (hnew b h).2.2.2.2
  · exact (((Foot.of_below (F:=fun b => b = g∨v.ownBlock = some b) hb).trans (Foot.of_below (F:=fun _ => False) (below_alloc w2 ob)) (fun b h => h.elim)).trans (Foot.grown (F:=fun b => v.ownBlock = some b) hgr (fun k hk => hk)) (fun b h => .inl (.inr h))).trans (Foot.setCell (F:=fun b => b = g) w3 (a:=⟨g,0,none⟩) rfl V) (fun b h => .inl (.inl h))
set_option maxRecDepth 100000 in
set_option maxHeartbeats 2000000 in
theorem shapes1_c {w:World} {B g k:Nat} {t:T} {L:List Shp} {v:Value} {ty:TypeId} {D:Nat→Prop} (h:ShCell B g L w v ty D) (hn:Node w B k t) (hB:B≤w.heap.size) (hl:L.length≤1000000000) :
    Calls Tryz.prog 95 #[.pointer (some ⟨t.blk,0,none⟩),.pointer (some ⟨g,0,none⟩)] w fun e w' => e = .returned (.tuple #[]) ∧
      ∃ v' D',ShCell B g (L ++ [Tr.shT k t]) w' v' ty D'∧(∀ b,(v'.ownBlock = some b∨D' b)→v.ownBlock = some b∨D b∨w.heap.size≤b)∧Foot (fun b => b = g∨v.ownBlock = some b) w w':=by
  have hgs:g < w.heap.size:=(Array.getElem?_eq_some_iff.1 h.2.1).1
  have c0:w.cell? ⟨g,0,none⟩ = some v:=by rw [cell_of_row w g _ _ ty (0,0) h.2.1];rfl
  have HS:Hid (∀ w1,Below w.heap.size w w1→w1.heap.size = w.heap.size→Calls Tryz.prog 96 #[.pointer (some ⟨t.blk,0,none⟩)] w1 fun e w' => ShapeNew w.heap.size w' e (levI t) t.pre (Sl.keys (kidL t.ks)) (denseT k t) t.val∧Below w.heap.size w w'):=Lib.hid fun w1 hb1 hs1 => by
    have h1:=nShape_new (hn.below hb1 hB (Nat.le_refl _)) (by rw [hs1];exact hB)
    rw [hs1] at h1
    exact h1.mono fun e w' h => ⟨h.1,hb1.trans h.2⟩
  have hb0:Below w.heap.size w w:=Below.refl _ _
  have hb1:Below w.heap.size w w.drew:=(Below.refl _ _).drew
  have hne:t.pre≠[]:=by intro e;have h1:=hn.1.len;have h2:=hn.1.k1;simp [e] at h1;omega
  have H:=Lib.hid (And.intro h (And.intro hn (And.intro hB (And.intro hl (And.intro hgs hne)))))
  clear h hn hB hl hgs hne
  go_enter Tryz.func95,Tryz.ntmps95
  go_wp2_with fail
  go_region_law ((first
    | (go_simp;go_at_call 96;refine (HS.out _ (by first | exact hb0 | exact hb1) (by rfl)).mono ?_;rintro e w2 ⟨⟨A,c,A',c',rfl,hp,hr,hA,hA'⟩,hb2⟩;have c0:w2.cell? ⟨g,0,none⟩ = some v:=(hb2.cell (p:=⟨g,0,none⟩) H.out.2.2.2.2.1).trans c0;have c0a:∀ ob,(w2.alloc ob).cell? ⟨g,0,none⟩ = some v:=fun ob => ((below_alloc w2 ob).cell (p:=⟨g,0,none⟩) (Nat.lt_of_lt_of_le H.out.2.2.2.2.1 hb2.size)).trans c0)
    | (refine step_append_list (Q:=ShQ w2 (shD D A A' (Tr.shT k t).ks)) 71 138 (.agg #[.int .i64 0,.slice none 0 0,.slice none 0 0,.bool false,.int .u64 0]) 72 Tryz.underlying71 infoSh (by rfl) (by omega) (by omega) (shQ_ok w2 _) (by rfl) _ _ (by rfl) B v L [Tr.shT k t] (L.length + 1) (by rfl) (by rfl) (by exact ((H.out.1.2.2.1.below hb2 (Nat.le_refl _)).imp fun f a hf => hf.imp (fun b hb => hb2.block b (H.out.1.2.2.2.2 b hb).1) fun b hb => .inl hb).below (below_alloc _ _) (Nat.le_refl _)) _ _ 1 1 (by rfl) (by rfl) (by exact lst_at (shQ_ok w2 _) _ (Tr.shT k t) (by rfl) (shQ_new c c' hp hr)) (by have:=H.out.2.2.2.1;omega) (by have:=H.out.2.2.1;have:=hb2.size;simp;omega) ?_;intro D1 d1 w3 hown3 hgrow3 hat3;have hg3:w3.heap[g]? = some (.cells #[v] ty (0,0)):=(hgrow3.block g (by have:=H.out.2.2.2.2.1;have:=hb2.size;simp;omega) (fun e => H.out.1.2.2.2.1 e.symm)).trans ((Below.heap_alloc w2 _ g (by have:=H.out.2.2.2.2.1;have:=hb2.size;omega)).trans ((hb2.block g H.out.2.2.2.2.1).trans H.out.1.2.1));have c3:w3.cell? ⟨g,0,none⟩ = some v:=(by rw [cell_of_row w3 g _ _ ty (0,0) hg3];rfl);have f3:w3.frozen? ⟨g,0,none⟩ = false:=frozen_of_row w3 g _ _ ty hg3)))
  all_goals go_wp2_with fail
  all_goals (
    go_end0
    exact ⟨rfl,shapes1_end H.out.1 hb2 hp hr hA hA' H.out.2.2.2.2.2 hown3 hgrow3 hat3⟩)
def ShInv (B g k:Nat) (us:List T) (w:World) (F:Nat→Prop):Prop :=
  ∃ v ty D,F = (fun b => b = g∨v.ownBlock = some b∨D b)∧ShCell B g (us.map (Tr.shT k)) w v ty D
theorem shapes_visit (g B k:Nat):Visit 95 g B k 1000000000 (ShInv B g k) where
  ent:=enters_of Tryz.func95 (by kernel_rfl) rfl
  frame:=by
    rintro us w w' F ⟨v,ty,D,rfl,hB,h,ho,hne,hD⟩ hs hb
    exact ⟨v,ty,D,rfl,hB,(hb g (.inl rfl)).trans h,(ho.block fun q hq => hb q (.inr (.inl hq))).imp fun f a hf => hf.imp (fun b hb' => hb b (.inr (.inr hb'))) fun _ h => h,hne,fun b hb' => ⟨Nat.lt_of_lt_of_le (hD b hb').1 hs,(hD b hb').2⟩⟩
  inb:=by
    rintro us w F ⟨v,ty,D,rfl,hB,h,ho,hne,hD⟩ b hb
    rcases hb with rfl | hb | hb
    · exact ⟨(Array.getElem?_eq_some_iff.1 h).1,hB⟩
    · exact (ho.lt b hb).symm
    · exact ⟨(hD b hb).1,(hD b hb).2.1⟩
  call:=by
    rintro us w F t ⟨v,ty,D,rfl,hc⟩ hn hBw hl
    refine (shapes1_c hc hn hBw (by rw [List.length_map];omega)).mono ?_
    rintro e w' ⟨rfl,v',D',h1,h2,h3⟩
    refine ⟨rfl,fun b => b = g∨v'.ownBlock = some b∨D' b,⟨v',ty,D',rfl,by rw [List.map_append];exact h1⟩,fun b hb => ?_,?_⟩
    · rcases hb with rfl | hb
      · exact .inl (.inl rfl)
      · rcases h2 b hb with h | h | h
        · exact .inl (.inr (.inl h))
        · exact .inl (.inr (.inr h))
        · exact .inr h
    · exact ⟨h3.os,h3.tape,h3.output,h3.size,fun k hk hn => h3.block k hk fun c => hn (c.elim .inl fun c => .inr (.inl c))⟩
set_option maxRecDepth 100000 in
theorem tShapes_c {w:World} {B b k:Nat} {o:Option T} (h:TreeAt w B b k o) (hB:B≤w.heap.size) (hT:∀ w',Below w.heap.size w w'→Tz w') (hl:(Tr.allO o).length≤1000000000) :
    Calls Tryz.prog 45 #[.pointer (some ⟨b,0,none⟩)] w fun e w' =>
      ∃ D d,e = .returned (.slice D (Tr.shapesO k o).length d)∧ShRow w.heap.size w.heap.size w' (.slice D (Tr.shapesO k o).length d) (Tr.shapesO k o)∧Below w.heap.size w w':=by
  have hal:=below_alloc w (.cells #[.slice none 0 0] 71)
  have hsz:(w.alloc (.cells #[.slice none 0 0] 71)).heap.size = w.heap.size + 1:=by simp
  have hI:ShInv w.heap.size w.heap.size k [] (w.alloc (.cells #[.slice none 0 0] 71)) (fun x => x = w.heap.size∨(Value.slice none 0 0).ownBlock = some x∨False) :=
    ⟨.slice none 0 0,_,fun _ => False,rfl,Nat.le_refl _,heap_at w _ _ rfl,ownL_none _ _ _,by simp [Value.ownBlock],fun b h => h.elim⟩
  have HD:=Lib.hid (through_c (shapes_visit w.heap.size w.heap.size k) hI (h.2.2.2.2.below hal hB hB) (by rw [hsz];omega) (fun w' hb => hT w' (hal.trans hb)) hl (Nat.le_refl _))
  have HR:=Lib.hid (h.2.2.2.1.below hal (Nat.lt_of_lt_of_le h.1 hB))
  have HX:=Lib.hid (And.intro hal hsz)
  clear h hB hI hal hsz hT hl
  go_enter Tryz.func45,Tryz.ntmps45
  go_wp2_with (first
    | (go_at_call 60;refine (tRoot_c HR.out).mono ?_;rintro e w' ⟨rfl,rfl⟩)
    | (go_at_call 97;refine HD.out.mono ?_;rintro e w2 ⟨rfl,F2,hi2,hF2,hfo2⟩;obtain ⟨v,t,D0,hF2e,hBg,hg2,ho2,hne2,hD2⟩:=hi2;have q0:w2.cell? ⟨w.heap.size,0,none⟩ = some v:=(by rw [cell_of_row w2 w.heap.size _ _ t (0,0) hg2];rfl);have q1:w2.frozen? ⟨w.heap.size,0,none⟩ = false:=frozen_of_row w2 w.heap.size _ _ t hg2;obtain ⟨D,d,hv,hcap⟩:=OwnL.slice ho2;subst hv))
  refine bodyPost_ret (v:=.slice D (List.map (Tr.shT k) (Tr.allO o)).length d) (by simp [results,Tryz.results45,go_sem]) rfl ?_
  have hb2:Below w.heap.size w w2:=HX.out.1.trans (hfo2.below (B:=w.heap.size) (by rw [HX.out.2];omega) (fun q hq => by rcases hq with rfl | hq | hq;exact Nat.le_refl _;simp [Value.ownBlock] at hq;exact hq.elim))
  refine ⟨D,d,rfl,⟨D0,?_,fun q hq => ?_⟩,hb2⟩
  · exact ho2
  · obtain ⟨h1,h2,h3,h4⟩:=hD2 q hq
    exact ⟨.inr h2,h1,h4⟩
end Go.Proofs.YtkeepngaaleakaaGreatDoor
