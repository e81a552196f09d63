import Derived.Test.YtkeepngaaleakaaGreatDoorM59
import Derived.Test.YtkeepngaaleakaaGreatDoorM30
namespace Go.Proofs.YtkeepngaaleakaaGreatDoor
open Go.ChangeShapes Go.WideShapes Go.ChangeAt Go.RowKit
open Tr (T S4 Ent)
structure FirI (w:World) (g k:Nat) (kk:Int) (o:Option T) (L1:List Ent) (S:List (T × Nat)) (D:Option Addr) (d:Nat) (R:Option Addr) (c:Nat) (wr:World):Prop where
  cur:CurAt wr w.heap.size g k kk o S D d
  whole:L1 ++ Tr.aft S = Tr.entsO o
  row:OwnL 57 2 (EntG wr (Fr w.heap.size R g D)) wr w.heap.size (.slice R L1.length c) L1
  rg:∀ b,R.map (·.block) = some b→¬ Cf g D b
  bel:Below w.heap.size w wr
theorem FirI.next {w:World} {g k:Nat} {kk:Int} {o:Option T} {L1:List Ent} {S:List (T × Nat)} {D:Option Addr} {d:Nat} {R:Option Addr} {c:Nat} {wr:World} (h:FirI w g k kk o L1 S D d R c wr)
    {x:Option Ent} {S':List (T × Nat)} {D':Option Addr} {d':Nat} {P':Option Addr} {n' dd' v':Nat} {w7:World} (hc:CurAt w7 w.heap.size g k kk o S' D' d') (hf:Foot (Cf g D) wr w7) (hr:∀ b,Cf g D' b→Cf g D b∨wr.heap.size≤b)
    (ht:Telt wr w7 g D' x P' n' dd' v') (hx:(Tr.aft S).head? = x) (ha:Tr.aft S' = (Tr.aft S).drop 1) :
    AllI w g k kk o L1 x S' D' d' R c w7.heap.size (w7.alloc (.cells #[.slice P' n' dd',.int .u64 (v':Int)] 57)):=by
  have hal:=below_alloc w7 (.cells #[.slice P' n' dd',.int .u64 (v':Int)] 57)
  have q7:=hf.size
  have qw:=h.bel.size
  have hsz:(w7.alloc (.cells #[.slice P' n' dd',.int .u64 (v':Int)] 57)).heap.size = w7.heap.size + 1:=by simp
  have hlt:∀ b,R.map (·.block) = some b→w.heap.size≤b∧b < wr.heap.size:=fun b hb => h.row.lt b (by rw [own_block];exact hb)
  have h7:Below w.heap.size wr w7:=hf.below qw fun b hb => (h.cur.mem.lt b hb).1
  have hold:∀ b,b < wr.heap.size→¬ Cf g D b→(w7.alloc (.cells #[.slice P' n' dd',.int .u64 (v':Int)] 57)).heap[b]? = wr.heap[b]?:=fun b hb hn => by
    rw [hal.block b (by omega),hf.block b hb hn]
  have hfr:∀ b,b < wr.heap.size→¬ Cf g D b→¬ Cf g D' b:=fun b hb hn hc => by
    rcases hr b hc with hb' | hb'
    · exact hn hb'
    · omega
  refine ⟨hc.below hal,?_,fun e => ?_,?_,fun b hb => ?_,?_,⟨fun hb => ?_,by omega⟩,h.bel.trans (h7.trans (hal.mono (by omega)))⟩
  · rw [← h.whole,ha,← hx]
    cases Tr.aft S <;> rfl
  · rw [ha]
    cases hS:Tr.aft S with
    | nil => rfl
    | cons a l => rw [hS,e] at hx;cases hx
  · refine (h.row.block fun q hq => ?_).imp (EntG.step (by omega) fun b hb hG => ⟨hold b hb hG.2.1,hG.1,hfr b hb hG.2.1,hG.2.2⟩)
    rw [own_block] at hq
    exact hold q (hlt q hq).2 (h.rg q hq)
  · exact ⟨hfr b (hlt b hb).2 (h.rg b hb),by have:=(hlt b hb).2;omega⟩
  · cases x with
    | none =>
      obtain ⟨rfl,rfl,rfl,rfl⟩:=ht
      exact heap_at w7 _ _ rfl
    | some y =>
      obtain ⟨rfl,rfl,hh,rfl,ho,hn⟩:=ht
      have hh1:=(ho.2.lt hh rfl).1
      refine ⟨_,_,heap_at w7 _ _ rfl,(Own.ptsG (G:=Fr w.heap.size R g D') ho ⟨fun e => ?_,hn,by omega⟩).step hal.size (fun b hb hG => ⟨hal.block b hb,hG⟩)⟩
      have:=(hlt hh e).2;omega
  · have:=(hc.mem.lt _ hb).2;omega
theorem AllM.fir {w:World} {g k:Nat} {kk:Int} {o:Option T} {L1:List Ent} {S:List (T × Nat)} {D:Option Addr} {d:Nat} {R:Option Addr} {c eb:Nat} {P:Option Addr} {n nn v:Nat} {wr:World} (h:AllM w g k kk o L1 S D d R c eb P n nn v wr):FirI w g k kk o L1 S D d R c wr :=
  ⟨h.cur,h.whole,h.row,h.rg,h.bel⟩
theorem FirI.newE {w:World} {g k:Nat} {kk:Int} {o:Option T} {L1:List Ent} {S:List (T × Nat)} {D:Option Addr} {d:Nat} {R:Option Addr} {c:Nat} {wr:World} (h:FirI w g k kk o L1 S D d R c wr):NewE w.heap.size wr R c L1 :=
  h.row.imp (EntG.step (Nat.le_refl _) fun _ _ hG => ⟨rfl,hG.2.2,hG.1⟩)
set_option maxRecDepth 1000000 in
set_option maxHeartbeats 4000000 in
theorem wfirst_c {w:World} {B k:Nat} {t:T} (h:Node w B k t) (hB:B≤w.heap.size) (hT:∀ w',Below B w w'→Tz w') (hN:t.ents.length≤100000000) (most:Int) :
    Calls Tryz.prog 159 #[.pointer (some ⟨t.blk,0,none⟩),.int .i64 most] w fun e w' => ∃ A c,e = .returned (.slice A (t.ents.take most.toNat).length c)∧NewE w.heap.size w' A c (t.ents.take most.toNat)∧Below w.heap.size w w':=by
  have h1:=h.1.k1
  have h16:=h.1.k16
  obtain ⟨kp,hnd⟩:=h.2.nd
  have hk:t.pre.length = k:=h.1.len
  have H1:=nK_c hnd
  rw [hk] at H1
  have H2:=tOf_c (NodeO.some h) hB h1 h16
  simp only [rootP] at H2
  have HX:=Lib.hid (And.intro h (And.intro hB (And.intro hT hN)))
  have HK:=Lib.hid H1
  have HO:=Lib.hid H2
  clear h hB hT hN h1 h16 hnd hk H1 H2
  go_enter Tryz.func159,Tryz.ntmps159
  go_upto_region 4 with (first
    | (go_at_call 118;refine HK.out.mono ?_;rintro e w1 ⟨rfl,rfl⟩)
    | (go_at_call 82;refine HO.out.mono ?_;rintro e w2 ⟨rfl,ht2,hb2⟩;have H2:=Lib.hid hb2;have HTr:=Lib.hid ht2;clear hb2 ht2)
    | (go_at_call 213;refine (new_c HTr.out.1 (Nat.le_refl _) (Nat.le_refl _)).mono ?_;rintro e w3 ⟨g,D,d,rfl,hc3,hb3,hg3⟩;have H3:=Lib.hid (And.intro hc3 (And.intro hb3 hg3));clear hc3 hb3 hg3))
  have hT3:Hid (∀ w5,Below w2.heap.size w2 w5→∀ w',Below w2.heap.size w5 w'→Tz w'):=Lib.hid fun w5 h5 w' hb' => HX.out.2.2.1 w' ((H2.out.trans ((h5.trans hb').mono H2.out.size)).mono HX.out.2.1)
  have HI:Hid (FirI w2 g k (k:Int) (some t) [] (startS (some t)) D d none 0 w3):=Lib.hid ⟨H3.out.1,(start_bef (some t)).2,ownL_none _ _ _,fun b hb => (by cases hb),H3.out.2.1⟩
  clear HK HO H3 HTr
  go_loopw [5] (fun l wr => ∃ (L1:List Ent) (S:List (T × Nat)) (D:Option Addr) (d:Nat) (R:Option Addr) (c:Nat),l = .slice R L1.length c∧L1.length≤most.toNat∧FirI w2 g k (k:Int) (some t) L1 S D d R c wr) (fun l _ => t.ents.length - lenV l)
  case atStart => exact ⟨[],_,_,_,none,0,rfl,Nat.zero_le _,HI.out⟩
  case round =>
    obtain ⟨L1,S,D,d,R,c,rfl,hm,hI⟩:=hrel
    clear HI
    have hwl:=congrArg List.length hI.whole
    have hpre:L1 = t.ents.take L1.length:=by rw [show t.ents = Tr.entsO (some t) from rfl,← hI.whole];simp
    rw [List.length_append,show (Tr.entsO (some t)).length = t.ents.length from rfl] at hwl
    by_cases hlt:(L1.length:Int) < most
    · have dl:decide ((L1.length:Int) < most) = true:=decide_eq_true hlt
      cases ha:Tr.aft S with
      | nil =>
        have HNx:=Lib.hid (next_any hI.cur (hT3.out _ hI.bel) none (by rw [ha];rfl) false rfl)
        rw [ha] at hwl
        have HI:=Lib.hid (And.intro hI (And.intro hpre (And.intro hlt (And.intro hwl ha))))
        clear hI hpre hwl hm hlt ha
        go_wp2_with (go_at_call 214;refine HNx.out.mono ?_;rintro e w7 ⟨P',n',dd',v',rfl,S',D',d',hc7,hf7,hr7,ht7,hb7,ha7⟩;have HI8:=Lib.hid (HI.out.1.next hc7 hf7 hr7 ht7 (by rw [HI.out.2.2.2.2];rfl) ha7);clear hc7 hf7 hr7 ht7 hb7 ha7)
        go_ret
        obtain ⟨-,hpre,hlt,hwl,-⟩:=HI.out
        simp only [List.length_nil] at hwl
        have ht:t.ents.take most.toNat = L1:=by
          rw [List.take_of_length_le (by omega),hpre,List.take_of_length_le (by omega)]
        rw [ht]
        exact ⟨R,c,rfl,HI8.out.newE.mono H2.out.size,H2.out.trans (HI8.out.bel.mono H2.out.size)⟩
      | cons y L =>
        have hyb:y.1.length≤maxLen∧y.2 < 18446744073709551616:=by
          have hmem:y∈t.ents:=by rw [show t.ents = Tr.entsO (some t) from rfl,← hI.whole,ha];simp
          have hw:=HX.out.1.1
          have h1:=hw.each y hmem
          have h16:=hw.k16
          exact ⟨by unfold maxLen;omega,h1.2.2.1⟩
        have hN:=HX.out.2.2.2
        have hlen:L1.length≤100000000:=by omega
        have HNx:=Lib.hid (next_any hI.cur (hT3.out _ hI.bel) (some y) (by rw [ha];rfl) true rfl)
        rw [ha] at hwl
        have HI:=Lib.hid (And.intro hI (And.intro hpre (And.intro hlt (And.intro hwl ha))))
        have HY:=Lib.hid hyb
        clear hI hpre hwl hm hlt ha hyb hN
        go_upto_region 7 with (go_at_call 214;refine HNx.out.mono ?_;rintro e w7 ⟨P',n',dd',v',rfl,S',D',d',hc7,hf7,hr7,ht7,hb7,ha7⟩;have HI8:=Lib.hid (HI.out.1.next hc7 hf7 hr7 ht7 (by rw [HI.out.2.2.2.2];rfl) ha7);clear hc7 hf7 hr7 ht7 hb7 ha7)
        have hI8:=HI8.out
        clear HI8 HNx
        obtain ⟨W8,hW8⟩:∃ W,W = w7.alloc (.cells #[.slice P' n' dd',.int .u64 (v':Int)] 57):=⟨_,rfl⟩
        rw [← hW8] at hI8 ⊢
        clear hW8
        obtain ⟨Pn,nn,hblk,hpts⟩:=hI8.ent
        obtain ⟨c0,c1,-,-⟩:=box_cells hblk
        have HE:=Lib.hid (And.intro hI8 (And.intro hblk hpts))
        have hbs:=hI8.bel.size
        clear hI8 hblk hpts
        go_wp2_with (at_builtin;refine wpList_append_list (Q:=EntG W8 (Fr w2.heap.size R g D')) 30 57 (.agg #[.slice none 0 0,.int .u64 0]) 32 Tryz.underlying30 infoE2 (by rfl) (by omega) (by omega) (entG_ok _ _) (by rfl) _ _ (by rfl) w2.heap.size (.slice R L1.length c) L1 [y] (L1.length + 1) (by simp) (by rfl) (by exact HE.out.1.row.below (below_alloc _ _) (Nat.le_refl _)) _ _ 1 1 (by rfl) (by rfl) (by exact lst_at (entG_ok _ _) #[.slice Pn y.1.length nn,.int .u64 (y.2:Int)] y (by rfl) (by exact ⟨Pn,nn,rfl,rfl,HE.out.2.2,HY.out.1,HY.out.2⟩)) (by omega) (by simp;omega) ?_;intro D5 d5 w5 hown5 hgrow5 hat5;have HM:=Lib.hid (AllI.app HE.out.1 HE.out.2.1 hown5 (by simp) hgrow5 hat5);clear hown5 hgrow5 hat5)
        go_roundw
        all_goals have hl:=HI.out.2.2.2.1
        all_goals have h3:=HI.out.2.2.1
        all_goals simp only [List.length_cons] at hl
        all_goals (first
          | exact ⟨L1 ++ [y],S',D',_,D5,d5,by simp,by simp;omega,HM.out.fir⟩
          | (simp only [lenV];omega))
    · have hlm:L1.length = most.toNat:=by omega
      have dl:decide ((L1.length:Int) < most) = false:=decide_eq_false hlt
      have HI:=Lib.hid (And.intro hI (And.intro hpre hlm))
      clear hI hpre hlm hwl hlt hm
      go_wp2_with fail
      go_ret
      rw [← HI.out.2.2,← HI.out.2.1]
      exact ⟨R,c,rfl,HI.out.1.newE.mono H2.out.size,H2.out.trans (HI.out.1.bel.mono H2.out.size)⟩
structure SomC (B g1 g2 g3:Nat) (most:Int) (L:List Ent) (more:Bool) (w:World) (v:Value) (D:Nat→Prop):Prop where
  c1:w.heap[g1]? = some (.cells #[.int .i64 most] 3 (0,0))
  c2:w.heap[g2]? = some (.cells #[v] 30 (0,0))
  c3:w.heap[g3]? = some (.cells #[.bool more] 4 (0,0))
  ne:g1≠g2∧g1≠g3∧g2≠g3
  ge:B≤g1∧B≤g2∧B≤g3
  row:OwnL 57 2 (EntG w D) w B v L
  vne:v.ownBlock≠some g1∧v.ownBlock≠some g2∧v.ownBlock≠some g3
  dom:∀ b,D b→B≤b∧b < w.heap.size∧b≠g1∧b≠g2∧b≠g3∧v.ownBlock≠some b
section
variable {B g1 g2 g3:Nat} {most:Int} {L:List Ent} {more:Bool} {w w':World} {v:Value} {D:Nat→Prop}
theorem SomC.lt (h:SomC B g1 g2 g3 most L more w v D):g1 < w.heap.size∧g2 < w.heap.size∧g3 < w.heap.size :=
  ⟨(Array.getElem?_eq_some_iff.1 h.c1).1,(Array.getElem?_eq_some_iff.1 h.c2).1,(Array.getElem?_eq_some_iff.1 h.c3).1⟩
def somF (g1 g2 g3:Nat) (v:Value) (D:Nat→Prop):Nat→Prop:=fun b => b = g1∨b = g2∨b = g3∨v.ownBlock = some b∨D b
theorem SomC.inb (h:SomC B g1 g2 g3 most L more w v D):∀ b,somF g1 g2 g3 v D b→b < w.heap.size∧B≤b:=by
  have hl:=h.lt
  have hg:=h.ge
  rintro b (rfl | rfl | rfl | hb | hb)
  · exact ⟨hl.1,hg.1⟩
  · exact ⟨hl.2.1,hg.2.1⟩
  · exact ⟨hl.2.2,hg.2.2⟩
  · exact ⟨(h.row.lt b hb).2,(h.row.lt b hb).1⟩
  · exact ⟨(h.dom b hb).2.1,(h.dom b hb).1⟩
theorem SomC.frame (h:SomC B g1 g2 g3 most L more w v D) (hs:w.heap.size≤w'.heap.size) (hF:∀ b,somF g1 g2 g3 v D b→w'.heap[b]? = w.heap[b]?):SomC B g1 g2 g3 most L more w' v D where
  c1:=(hF _ (.inl rfl)).trans h.c1
  c2:=(hF _ (.inr (.inl rfl))).trans h.c2
  c3:=(hF _ (.inr (.inr (.inl rfl)))).trans h.c3
  ne:=h.ne
  ge:=h.ge
  row:=(h.row.block fun q hq => hF q (.inr (.inr (.inr (.inl hq))))).imp (EntG.step hs fun b _ hD => ⟨hF b (.inr (.inr (.inr (.inr hD)))),hD⟩)
  vne:=h.vne
  dom:=fun b hb => by
    have:=h.dom b hb
    exact ⟨this.1,Nat.lt_of_lt_of_le this.2.1 hs,this.2.2⟩
theorem SomC.below (h:SomC B g1 g2 g3 most L more w v D) (hb:Below w.heap.size w w'):SomC B g1 g2 g3 most L more w' v D:=h.frame hb.size fun b hF => hb.block b (h.inb b hF).1
theorem SomC.app {w2 w3:World} {D3:Option Addr} {d3 m:Nat} {M:List Ent} (h:SomC B g1 g2 g3 most L more w v D) (hb:Below w.heap.size w w2)
    (hown:OwnL 57 2 (EntG w2 (fun b => D b∨(w.heap.size≤b∧b < w2.heap.size))) w3 B (.slice D3 m d3) (L ++ M)) (hgr:w2.grownBy w3 v.ownBlock) (hat:(Value.slice D3 m d3).ownBlock = v.ownBlock∨(Value.slice D3 m d3).ownBlock = some w2.heap.size) :
    SomC B g1 g2 g3 most (L ++ M) more (w3.setCell ⟨g2,0,none⟩ (.slice D3 m d3)) (.slice D3 m d3) (fun b => D b∨(w.heap.size≤b∧b < w2.heap.size))∧Foot (fun b => b = g2∨b = g3∨v.ownBlock = some b) w (w3.setCell ⟨g2,0,none⟩ (.slice D3 m d3)):=by
  obtain ⟨V,hV⟩:∃ V,V = Value.slice D3 m d3:=⟨_,rfl⟩
  rw [← hV] at hown hat ⊢
  obtain ⟨l1,l2,l3⟩:=h.lt
  obtain ⟨v1,v2,v3⟩:=h.vne
  have hvl:=h.row.lt
  have s2:=hb.size
  have s3:=hgr.size
  have hsz:(w3.setCell ⟨g2,0,none⟩ V).heap.size = w3.heap.size:=by simp
  have hkeep:∀ b,b < w2.heap.size→v.ownBlock≠some b→b≠g2→(w3.setCell ⟨g2,0,none⟩ V).heap[b]? = w2.heap[b]?:=fun b hb' hn hg => by
    rw [Below.heap_setCell _ _ _ _ hg,hgr.block b hb' (fun e => hn e.symm)]
  have hV2:V.ownBlock≠some g2:=by
    rcases hat with e | e
    · rw [e];exact v2
    · rw [e];simp only [ne_eq,Option.some.injEq];omega
  have hD2:∀ b,(D b∨(w.heap.size≤b∧b < w2.heap.size))→B≤b∧b < w2.heap.size∧b≠g1∧b≠g2∧b≠g3∧v.ownBlock≠some b:=fun b hD => by
    rcases hD with hD | hD
    · have:=h.dom b hD
      exact ⟨this.1,by omega,this.2.2⟩
    · refine ⟨by have:=h.ge;omega,hD.2,by omega,by omega,by omega,fun e => ?_⟩
      have:=(hvl b e).2
      omega
  refine ⟨⟨?_,?_,?_,h.ne,h.ge,?_,?_,fun b hD => ?_⟩,?_⟩
  · rw [hkeep g1 (by omega) v1 h.ne.1,hb.block g1 l1];exact h.c1
  · have hg:w3.heap[g2]? = some (.cells #[v] 30 (0,0)):=by rw [hgr.block g2 (by omega) (fun e => v2 e.symm),hb.block g2 l2];exact h.c2
    rw [heap_setCell_same w3 g2 0 _ _ V hg]
    rfl
  · rw [hkeep g3 (by omega) v3 (fun e => h.ne.2.2 e.symm),hb.block g3 l3];exact h.c3
  · refine (hown.block fun q hq => Below.heap_setCell _ _ _ _ (fun e => hV2 (by rw [hq,e]))).imp (EntG.step (by omega) fun b _ hD => ⟨?_,hD⟩)
    have:=hD2 b hD
    exact hkeep b this.2.1 this.2.2.2.2.2 this.2.2.2.1
  · refine ⟨?_,hV2,?_⟩
    · rcases hat with e | e
      · rw [e];exact v1
      · rw [e];simp only [ne_eq,Option.some.injEq];omega
    · rcases hat with e | e
      · rw [e];exact v3
      · rw [e];simp only [ne_eq,Option.some.injEq];omega
  · have:=hD2 b hD
    refine ⟨this.1,by omega,this.2.2.1,this.2.2.2.1,this.2.2.2.2.1,?_⟩
    rcases hat with e | e
    · rw [e];exact this.2.2.2.2.2
    · rw [e];simp only [ne_eq,Option.some.injEq];omega
  · refine ⟨hgr.os.trans hb.os,hgr.tape.trans hb.tape,hgr.output.trans hb.output,by omega,fun b hb' hn => ?_⟩
    rw [hkeep b (by omega) (fun e => hn (.inr (.inr e))) (fun e => hn (.inl e))]
    exact hb.block b hb'
theorem SomC.tell (h:SomC B g1 g2 g3 most L more w v D) (r:Bool):SomC B g1 g2 g3 most L r (w.setCell ⟨g3,0,none⟩ (.bool r)) v D where
  c1:=(Below.heap_setCell _ _ _ _ h.ne.2.1).trans h.c1
  c2:=(Below.heap_setCell _ _ _ _ h.ne.2.2).trans h.c2
  c3:=by rw [heap_setCell_same w g3 0 _ _ (.bool r) h.c3];rfl
  ne:=h.ne
  ge:=h.ge
  row:=(h.row.block fun q hq => Below.heap_setCell _ _ _ _ (fun e => h.vne.2.2 (by rw [hq,e]))).imp (EntG.step (by simp) fun b _ hD => ⟨Below.heap_setCell _ _ _ _ (h.dom b hD).2.2.2.2.1,hD⟩)
  vne:=h.vne
  dom:=fun b hb => by
    have:=h.dom b hb
    exact ⟨this.1,by simpa using this.2.1,this.2.2⟩
end
theorem new_lst {w0:Nat} {w:World} {D:Nat→Prop} {A:Option Addr} {c:Nat} {L:List Ent} (h:NewE w0 w A c L):Lst 2 (EntG w (fun b => D b∨(w0≤b∧b < w.heap.size))) w w.heap.size A L:=by
  have h2:OwnL 57 2 (EntG w (fun b => D b∨(w0≤b∧b < w.heap.size))) w w0 (.slice A L.length c) L:=OwnL.imp h (EntG.step (Nat.le_refl _) fun b hb hG => ⟨rfl,.inr ⟨hG.1,hb⟩⟩)
  obtain ⟨A',c',hv,-,hl⟩:=OwnL.rd (entG_ok _ _) h2
  simp only [Value.slice.injEq] at hv
  obtain ⟨rfl,-,-⟩:=hv
  exact hl
theorem som_row {B g1 g2 g3:Nat} {most:Int} {L:List Ent} {more:Bool} {w w2 w3:World} {v:Value} {D:Nat→Prop} (h:SomC B g1 g2 g3 most L more w v D) (hb:Below w.heap.size w w2) (hgr:w2.grownBy w3 v.ownBlock):w3.heap[g2]? = some (.cells #[v] 30 (0,0)):=by
  have hl:=h.lt.2.1
  rw [hgr.block g2 (Nat.lt_of_lt_of_le hl hb.size) (fun e => h.vne.2.1 e.symm),hb.block g2 hl]
  exact h.c2
set_option maxRecDepth 1000000 in
set_option maxHeartbeats 4000000 in
theorem wsome1_c {B g1 g2 g3 k:Nat} {most:Int} {L:List Ent} {more:Bool} {w:World} {v:Value} {D:Nat→Prop} (h:SomC B g1 g2 g3 most L more w v D) {t:T} (hn:Node w B k t) (hB:B≤w.heap.size) (hT:∀ w',Below B w w'→Tz w') (hN:t.ents.length≤100000000)
    (hL:L.length≤100000000) {mx:Nat} (hmx:max most 0 = (mx:Int)) (hL2:L.length≤mx) (hm63:mx < 9223372036854775808) :
    Calls Tryz.prog 158 #[.pointer (some ⟨t.blk,0,none⟩),.pointer (some ⟨g1,0,none⟩),.pointer (some ⟨g2,0,none⟩),.pointer (some ⟨g3,0,none⟩)] w fun e w' =>
      e = .returned (.bool (!(decide (mx - L.length < t.ents.length))))∧∃ v' D',SomC B g1 g2 g3 most (L ++ t.ents.take (mx - L.length)) (decide (mx - L.length < t.ents.length)) w' v' D' ∧
        (∀ b,(v'.ownBlock = some b∨D' b)→v.ownBlock = some b∨D b∨w.heap.size≤b)∧Foot (fun b => b = g2∨b = g3∨v.ownBlock = some b) w w':=by
  obtain ⟨rm,hrm⟩:∃ rm,rm = mx - L.length:=⟨_,rfl⟩
  obtain ⟨M,hM⟩:∃ M,M = t.ents.take rm:=⟨_,rfl⟩
  have hwr:wrap64 (max most 0 - (L.length:Int)) = (rm:Int):=by rw [IntWalk.wrap64_in _ (by omega)];omega
  have hMl:M.length≤100000000:=by rw [hM,List.length_take];omega
  rw [← hrm,← hM]
  obtain ⟨r,hr⟩:∃ r,decide (rm < t.ents.length) = r:=⟨_,rfl⟩
  rw [hr]
  have HF:Hid (∀ w1,Below w.heap.size w w1→w1.heap.size = w.heap.size→Calls Tryz.prog 159 #[.pointer (some ⟨t.blk,0,none⟩),.int .i64 (rm:Int)] w1 fun e w' => ∃ A c,e = .returned (.slice A M.length c)∧NewE w.heap.size w' A c M∧Below w.heap.size w w'):=Lib.hid fun w1 hb1 hs1 => by
    have h1:=wfirst_c (hn.below hb1 hB (Nat.le_refl _)) (by rw [hs1];exact hB) (fun w' hb' => hT w' ((hb1.mono hB).trans hb')) hN (rm:Int)
    rw [hs1,show ((rm:Nat):Int).toNat = rm by omega,← hM] at h1
    exact h1.mono fun e w' ⟨A,c,h2,h3,h4⟩ => ⟨A,c,h2,h3,hb1.trans h4⟩
  obtain ⟨kp,hnd⟩:=hn.2.nd
  have hl:=h.lt
  have H:=Lib.hid (And.intro h (And.intro hl (And.intro hB (And.intro hMl (And.intro hL (And.intro hnd (And.intro hr hm63)))))))
  have hgB:=Lib.hid h.ge
  have hrm63:(rm:Int) < 9223372036854775808:=by omega
  obtain ⟨V,c,hv,hc⟩:=h.row.slice
  subst hv
  have c1:w.cell? ⟨g1,0,none⟩ = some (.int .i64 most):=by rw [cell_of_row w g1 _ _ _ (0,0) h.c1];rfl
  have c2:w.cell? ⟨g2,0,none⟩ = some (.slice V L.length c):=by rw [cell_of_row w g2 _ _ _ (0,0) h.c2];rfl
  clear h hn hB hT hN hL hmx hL2 hrm hM hnd hr hm63 hl hMl
  go_enter Tryz.func158,Tryz.ntmps158
  go_upto_region 2 with fail
  rw [hwr]
  have hb0:Below w.heap.size w w:=Below.refl _ _
  have hb1:Below w.heap.size w w.drew:=(Below.refl _ _).drew
  clear hwr
  go_region_law ((first
    | (go_simp;go_at_call 159;refine (HF.out _ (by first | exact hb0 | exact hb1) (by rfl)).mono ?_;rintro e w2 ⟨A2,d2,rfl,hne2,hb2⟩;have c2:w2.cell? ⟨g2,0,none⟩ = some (.slice V L.length c):=(hb2.cell (p:=⟨g2,0,none⟩) H.out.2.1.2.1).trans c2)
    | (refine step_append_list (Q:=EntG w2 (fun b => D b∨(w.heap.size≤b∧b < w2.heap.size))) 30 57 (.agg #[.slice none 0 0,.int .u64 0]) 32 Tryz.underlying30 infoE2 (by rfl) (by omega) (by omega) (entG_ok _ _) (by rfl) _ _ (by rfl) B (.slice V L.length c) L M (L.length + M.length) (by rfl) (by rfl) (by exact (((H.out.1.row.below hb2 (Nat.le_refl _)).imp (EntG.step hb2.size fun b hb hD => ⟨hb2.block b hb,.inl hD⟩)).below (Below.refl _ _) (Nat.le_refl _))) w2.heap.size A2 M.length d2 (by rfl) (by rfl) (by exact new_lst hne2) (by have:=H.out.2.2.2.1;have:=H.out.2.2.2.2.1;omega) (by exact Nat.le_trans H.out.2.2.1 hb2.size) ?_;intro D3 d3 w3 hown3 hgrow3 hat3;have hgr3:w2.grownBy w3 (Value.slice V L.length c).ownBlock:=⟨hgrow3.os,hgrow3.tape,hgrow3.output,hgrow3.size,hgrow3.block⟩;have hg3:w3.heap[g2]? = some (.cells #[.slice V L.length c] 30 (0,0)):=som_row H.out.1 hb2 hgr3;have c3:w3.cell? ⟨g2,0,none⟩ = some (.slice V L.length c):=(by rw [cell_of_row w3 g2 _ _ _ (0,0) hg3];rfl);have f3:w3.frozen? ⟨g2,0,none⟩ = false:=frozen_of_row w3 g2 _ _ _ hg3)))
  all_goals (
    obtain ⟨hs4,hf4⟩:=H.out.1.app hb2 hown3 hgr3 hat3
    obtain ⟨W4,hW4⟩:∃ W4,W4 = w3.setCell ⟨g2,0,none⟩ (.slice D3 (L.length + M.length) d3):=⟨_,rfl⟩
    rw [← hW4] at hs4 hf4 ⊢
    have hB4:Below B w W4:=hf4.below H.out.2.2.1 (by
      rintro b (rfl | rfl | hb)
      · exact hgB.out.2.1
      · exact hgB.out.2.2
      · exact (H.out.1.row.lt b hb).1)
    obtain ⟨s,hs⟩:∃ s,s = Tr.sums t.ents:=⟨_,rfl⟩
    have hsc:s.c = t.ents.length:=by rw [hs,Tr.sums_c]
    have HSm:=Lib.hid (nSums_c (H.out.2.2.2.2.2.1.below hB4 (Nat.le_refl _) (Nat.le_refl _)) (Nat.le_trans H.out.2.2.1 hB4.size))
    rw [← hs] at HSm
    have hat':(Value.slice D3 (L.length + M.length) d3).ownBlock = (Value.slice V L.length c).ownBlock∨(Value.slice D3 (L.length + M.length) d3).ownBlock = some w2.heap.size:=hat3
    have H4:=Lib.hid (And.intro hs4 (And.intro hf4 (And.intro hsc hat')))
    have hs2:=Lib.hid hb2.size
    have f0:=sums_count
    clear hs4 hf4 hB4 hs hsc hW4 hat' c1 c2 c3 f3 hg3 hgr3 hgrow3 hat3 hown3 hne2 hb2 HF hb0 hb1
    go_wp2_with (go_at_call 92;refine HSm.out.mono ?_;rintro e w5 ⟨rfl,hb5⟩;have H5:=Lib.hid (H4.out.1.below hb5);have HB5:=Lib.hid hb5;have c3:w5.cell? ⟨g3,0,none⟩ = some (.bool more):=(by rw [cell_of_row w5 g3 _ _ _ (0,0) H5.out.c3];rfl);have f3:w5.frozen? ⟨g3,0,none⟩ = false:=frozen_of_row w5 g3 _ _ _ H5.out.c3;clear hb5))
  all_goals go_upto_region 4 with fail
  all_goals (
    have hd:decide (rm < s.c) = r:=by rw [H4.out.2.2.1];exact H.out.2.2.2.2.2.2.1
    rw [hd]
    refine bodyPost_ret (v:=.bool (!r)) (by simp [results,Tryz.results158,go_sem]) rfl ?_
    refine ⟨rfl,_,_,H5.out.tell r,?_,?_⟩
    · rintro b (hb | hb | hb)
      · rcases H4.out.2.2.2 with e | e
        · rw [e] at hb;exact .inl hb
        · rw [e] at hb
          simp only [Option.some.injEq] at hb
          have:=hs2.out
          exact .inr (.inr (by omega))
      · exact .inr (.inl hb)
      · exact .inr (.inr hb.1)
    · exact (H4.out.2.1.trans (Foot.of_below (F:=fun _ => False) HB5.out) (fun b h => h.elim)).trans (Foot.setCell (F:=fun b => b = g3) w5 (a:=⟨g3,0,none⟩) rfl (.bool r)) (fun b h => .inl (.inr (.inl h))))
end Go.Proofs.YtkeepngaaleakaaGreatDoor
