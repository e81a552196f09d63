import Derived.Test.YtkeepngaaleakaaGreatDoorMXn
namespace Go.Proofs.YtkeepngaaleakaaGreatDoor
open Go.ChangeShapes Go.WideShapes Go.ChangeAt Go.RowKit
open Tr (T S4 Ent Tri KL)
def MdQ (f:Nat→Option Value) (m:Md):Prop:=f 0 = some (.pointer (rootP m.1))∧f 1 = some (.pointer (rootP m.2))
theorem mdQ_ok:QOk 2 MdQ where
  ext:=by
    rintro f g s h ⟨h0,h1⟩
    exact ⟨(h 0 (by omega)).symm.trans h0,(h 1 (by omega)).symm.trans h1⟩
  has:=by
    rintro f s ⟨h0,h1⟩ j hj
    match j,hj with
    | 0,_ => exact ⟨_,h0,rfl⟩
    | 1,_ => exact ⟨_,h1,rfl⟩
theorem mdQ_nu:∀ f x,MdQ f x→∀ j c,j < 2→f j = some c→NU c:=by
  rintro f x ⟨h0,h1⟩ j c hj hc
  match j,hj with
  | 0,_ => rw [h0] at hc;cases hc;exact nu_ptr _
  | 1,_ => rw [h1] at hc;cases hc;exact nu_ptr _
theorem nz_pr:∀ i c,(p2V none none).cells[i]? = some c→NZ i c:=by
  intro i c h
  have hlt:i < 2:=(Array.getElem?_eq_some_iff.1 h).1
  match i,hlt with
  | 0,_ => have h':some (Value.pointer none) = some c:=h;cases h';exact nu_ptr _
  | 1,_ => have h':some (Value.pointer none) = some c:=h;cases h';exact nu_ptr _
theorem infoPr:(Tryz.prog.info? 97).map (fun i => (i.zero,i.size,i.bytes)) = some (some (p2V none none),2,16):=by kernel_rfl
abbrev MdRow (w:World) (base:Nat) (v:Value) (L:List Md):Prop:=RowZ 97 2 MdQ NZ w base v L
theorem MdRow.keeps {k:Nat} {w w':World} {base:Nat} {v:Value} {L:List Md} (h:MdRow w base v L) (hgr:w.grownBy w' v.ownBlock):Kp k w w' :=
  RowZ.keeps h (by omega) mdQ_nu (fun _ _ h => h) (by decide) hgr
theorem mk_cells {w':World} {g:Nat} {a b c:Value} (h:w'.heap[g]? = some (.cells #[a,b,c] 102 (0,0))):w'.cell? ⟨g,0,none⟩ = some a∧w'.cell? ⟨g,1,none⟩ = some b∧w'.cell? ⟨g,2,none⟩ = some c:=by
  refine ⟨?_,?_,?_⟩
  all_goals rw [cell_of_row w' _ _ _ _ (0,0) h];rfl
structure Lies (G:Nat→Prop) (B hm hg base:Nat):Prop where
  m:B≤hm∧hm < base
  g:B≤hg∧hg < base
  ne:hm≠hg
  gG:∀ b,G b→b < base∧b≠hm∧b≠hg
structure MadeI (I:World→Prop) (G:Nat→Prop) (mkc:Array Value) (k hm hg base:Nat) (us:List Md) (w:World) (F:Nat→Prop):Prop where
  i:I w
  m:w.heap[hm]? = some (.cells mkc 102 (0,0))
  row:∃ D d,w.heap[hg]? = some (.cells #[.slice D us.length d] 239 (0,0))∧MdRow w base (.slice D us.length d) us∧F = fun b => G b∨b = hm∨b = hg∨(Value.slice D us.length d).ownBlock = some b
  nd:∀ m∈us,NodeO w w.heap.size k m.1∧NodeO w w.heap.size k m.2
  le:base≤w.heap.size
section
variable {I:World→Prop} {G:Nat→Prop} {mkc:Array Value} {B k hm hg base:Nat} {us:List Md} {w w':World} {F:Nat→Prop}
theorem slice_keeps {W:World} {h n d:Nat} {D:Option Addr} {ty:TypeId} (hc:W.heap[h]? = some (.cells #[.slice D n d] ty (0,0))) (hne:ty≠81) (v:Value):Kp k W (W.setCell ⟨h,0,none⟩ v):=kp_cell hc hne (fun i u hi => by
  rw [cell_of_row W _ _ _ _ (0,0) hc] at hi
  have hlt:i < 1:=(Array.getElem?_eq_some_iff.1 hi).1
  have:i = 0:=by omega
  subst this
  have h':some (Value.slice D n d) = some u:=hi
  cases h'
  exact ⟨fun _ e => (by cases e),fun _ e => (by cases e)⟩) v
theorem MadeI.frame (hst:∀ w w',I w→w.heap.size≤w'.heap.size→(∀ b,G b→w'.heap[b]? = w.heap[b]?)→I w') (h:MadeI I G mkc k hm hg base us w F) (hs:w.heap.size≤w'.heap.size) (hb:∀ b,F b→w'.heap[b]? = w.heap[b]?) (hk:Kp k w w'):MadeI I G mkc k hm hg base us w' F:=by
  obtain ⟨D,d,h1,h2,hF⟩:=h.row
  refine ⟨hst w w' h.i hs fun b hG => hb b (by rw [hF];exact .inl hG),(hb hm (by rw [hF];exact .inr (.inl rfl))).trans h.m,⟨D,d,(hb hg (by rw [hF];exact .inr (.inr (.inl rfl)))).trans h1,h2.block fun b hq => hb b (by rw [hF];exact .inr (.inr (.inr hq))),hF⟩,fun m hm => ⟨hk.nodeO hs (h.nd m hm).1,hk.nodeO hs (h.nd m hm).2⟩,Nat.le_trans h.le hs⟩
theorem MadeI.inb (hin:∀ w,I w→∀ b,G b→b < w.heap.size∧B≤b) (hl:Lies G B hm hg base) (h:MadeI I G mkc k hm hg base us w F):∀ b,F b→b < w.heap.size∧B≤b:=fun b hb => by
  obtain ⟨D,d,h1,h2,hF⟩:=h.row
  rw [hF] at hb
  rcases hb with c | c | c | c
  · exact hin w h.i b c
  · rw [c];exact ⟨(Array.getElem?_eq_some_iff.1 h.m).1,hl.m.1⟩
  · rw [c];exact ⟨(Array.getElem?_eq_some_iff.1 h1).1,hl.g.1⟩
  · have h3:=h2.lt b c
    have h4:=hl.g
    exact ⟨h3.2,by omega⟩
theorem MadeI.put {us':List Md} {X w5:World} {D D5:Option Addr} {d d5:Nat} (hst:∀ w w',I w→w.heap.size≤w'.heap.size→(∀ b,G b→w'.heap[b]? = w.heap[b]?)→I w') (hl:Lies G B hm hg base) (h:MadeI I G mkc k hm hg base us w F) (hr:w.heap[hg]? = some (.cells #[.slice D us.length d] 239 (0,0))) (hX:Below w.heap.size w X)
    (hgr:X.grownBy w5 (Value.slice D us.length d).ownBlock) (hrow:MdRow w5 base (.slice D5 us'.length d5) us') (hown:(Value.slice D5 us'.length d5).ownBlock = (Value.slice D us.length d).ownBlock∨∃ b,(Value.slice D5 us'.length d5).ownBlock = some b∧w.heap.size≤b) (hnd:∀ m∈us',NodeO X X.heap.size k m.1∧NodeO X X.heap.size k m.2) :
    ∃ F':Nat→Prop,(∀ b,F' b→F b∨w.heap.size≤b)∧Foot F w (w5.setCell ⟨hg,0,none⟩ (.slice D5 us'.length d5))∧MadeI I G mkc k hm hg base us' (w5.setCell ⟨hg,0,none⟩ (.slice D5 us'.length d5)) F'∧Kp k w (w5.setCell ⟨hg,0,none⟩ (.slice D5 us'.length d5)):=by
  obtain ⟨D',d',h1,h2,hF⟩:=h.row
  have e:=hr.symm.trans h1
  simp only [Option.some.injEq,Obj.cells.injEq,Array.mk.injEq,List.cons.injEq,Value.slice.injEq,and_true,true_and] at e
  obtain ⟨rfl,rfl⟩:=e
  have hgs:=(Array.getElem?_eq_some_iff.1 h1).1
  have hms:=(Array.getElem?_eq_some_iff.1 h.m).1
  have hlow:∀ b,(Value.slice D us.length d).ownBlock = some b→base≤b∧b < w.heap.size:=h2.lt
  have hne:∀ b,b < w.heap.size→(Value.slice D us.length d).ownBlock≠some b→w5.heap[b]? = w.heap[b]?:=fun b hb hn => (hgr.block b (Nat.lt_of_lt_of_le hb hX.size) fun e => hn e.symm).trans (hX.block b hb)
  have hl1:=hl.m
  have hl2:=hl.g
  have hg5:w5.heap[hg]? = some (.cells #[.slice D us.length d] 239 (0,0)):=(hne hg hgs fun e => by have:=(hlow _ e).1;omega).trans h1
  have hm5:w5.heap[hm]? = some (.cells mkc 102 (0,0)):=(hne hm hms fun e => by have:=(hlow _ e).1;omega).trans h.m
  have hout:∀ b,b≠hg→(w5.setCell ⟨hg,0,none⟩ (.slice D5 us'.length d5)).heap[b]? = w5.heap[b]?:=fun b hb => Below.heap_setCell w5 ⟨hg,0,none⟩ _ b hb
  have hs5:X.heap.size≤w5.heap.size:=hgr.size
  have hk5:Kp k X w5:=MdRow.keeps (h2.below hX (Nat.le_refl _)) hgr
  have hk6:Kp k w5 (w5.setCell ⟨hg,0,none⟩ (.slice D5 us'.length d5)):=slice_keeps hg5 (by decide) _
  have hkX:Kp k X (w5.setCell ⟨hg,0,none⟩ (.slice D5 us'.length d5)):=hk5.trans hk6 hs5
  have hG5:∀ b,G b→(w5.setCell ⟨hg,0,none⟩ (.slice D5 us'.length d5)).heap[b]? = X.heap[b]?:=fun b hb => by
    have:=hl.gG b hb
    rw [hout b this.2.2]
    exact (hgr.block b (by have:=h.le;have:=hX.size;omega) fun e => by have:=(hlow b e.symm).1;omega)
  have hown':∀ b,(Value.slice D5 us'.length d5).ownBlock = some b→(Value.slice D us.length d).ownBlock = some b∨w.heap.size≤b:=fun b hb => by
    rcases hown with e | ⟨b',e,hb'⟩
    · exact .inl (e ▸ hb)
    · rw [e] at hb;cases hb;exact .inr hb'
  have hhg:base≤w.heap.size:=h.le
  refine ⟨fun b => G b∨b = hm∨b = hg∨(Value.slice D5 us'.length d5).ownBlock = some b,fun b hb => ?_,⟨hgr.os.trans hX.os,hgr.tape.trans hX.tape,hgr.output.trans hX.output,?_,fun b hb hn => ?_⟩,⟨?_,?_,⟨D5,d5,?_,hrow.block fun b hb => hout b fun e => ?_,rfl⟩,fun m hm => ⟨hkX.nodeO ?_ (hnd m hm).1,hkX.nodeO ?_ (hnd m hm).2⟩,?_⟩,(Kp.of_below hX).trans hkX hX.size⟩
  · rw [hF]
    rcases hb with c | c | c | c
    · exact .inl (.inl c)
    · exact .inl (.inr (.inl c))
    · exact .inl (.inr (.inr (.inl c)))
    · exact (hown' b c).imp (fun c => .inr (.inr (.inr c))) id
  · have:=hX.size
    simp only [World.size_setCell]
    omega
  · rw [hF] at hn
    rw [hout b fun e => hn (.inr (.inr (.inl e)))]
    exact hne b hb fun e => hn (.inr (.inr (.inr e)))
  · have hsz:=hX.size
    refine hst X _ (hst w X h.i hX.size fun b hb => hX.block b (by have:=(hl.gG b hb).1;omega)) (by simp only [World.size_setCell];omega) hG5
  · rw [hout hm hl.ne];exact hm5
  · rw [heap_setCell_same w5 hg 0 _ _ (.slice D5 us'.length d5) hg5]
    simp
  · have h6:=hrow.lt b hb
    omega
  · simp only [World.size_setCell];omega
  · simp only [World.size_setCell];omega
  · have:=hX.size
    simp only [World.size_setCell]
    omega
theorem MadeI.put1 {x:Md} {w3 X w5:World} {D D5:Option Addr} {d d5:Nat} (hst:∀ w w',I w→w.heap.size≤w'.heap.size→(∀ b,G b→w'.heap[b]? = w.heap[b]?)→I w') (hl:Lies G B hm hg base) (h:MadeI I G mkc k hm hg base us w F) (hr:w.heap[hg]? = some (.cells #[.slice D us.length d] 239 (0,0))) (h3:Below w.heap.size w w3) (hX:Below w3.heap.size w3 X)
    (hgr:X.grownBy w5 (Value.slice D us.length d).ownBlock) (hrow:MdRow w5 base (.slice D5 (us.length + 1) d5) (us ++ [x])) (hown:(Value.slice D5 (us.length + 1) d5).ownBlock = (Value.slice D us.length d).ownBlock∨(Value.slice D5 (us.length + 1) d5).ownBlock = some X.heap.size) (hnd:NodeO w3 w3.heap.size k x.1∧NodeO w3 w3.heap.size k x.2) :
    ∃ F':Nat→Prop,(∀ b,F' b→F b∨w.heap.size≤b)∧Foot F w (w5.setCell ⟨hg,0,none⟩ (.slice D5 (us.length + 1) d5))∧MadeI I G mkc k hm hg base (us ++ [x]) (w5.setCell ⟨hg,0,none⟩ (.slice D5 (us.length + 1) d5)) F'∧Kp k w (w5.setCell ⟨hg,0,none⟩ (.slice D5 (us.length + 1) d5)):=by
  have e:(us ++ [x]).length = us.length + 1:=by simp
  have hb:=Below.andThen h3 hX
  have:=MadeI.put (us':=us ++ [x]) (D5:=D5) (d5:=d5) hst hl h hr hb hgr (by rw [e];exact hrow) (by rw [e];exact hown.imp (fun e => e) fun e => ⟨_,e,hb.size⟩) (fun m hm => by
    rcases List.mem_append.1 hm with hm | hm
    · exact ⟨(h.nd m hm).1.below hb (Nat.le_refl _) hb.size,(h.nd m hm).2.below hb (Nat.le_refl _) hb.size⟩
    · rw [List.mem_singleton.1 hm]
      exact ⟨hnd.1.below hX (Nat.le_refl _) hX.size,hnd.2.below hX (Nat.le_refl _) hX.size⟩)
  rw [e] at this
  exact this
end
def RMd (g:G3) (u:Tri) (m:Md):Prop:=Tr.entsO m.1 = Tr.ppT g u∧Tr.entsO m.2 = Tr.ppT g u
set_option maxRecDepth 1000000 in
set_option maxHeartbeats 8000000 in
theorem sPair1_c {fk:Nat} {lk:Array Value} {fa:Nat} {la:Array Value} {fb:Nat} {lb:Array Value} {B k:Nat} {kf:Tri→Bool} {g:G3} {I:World→Prop} {G:Nat→Prop} (h:MkS fk lk fa la fb lb B k kf g I G) {hm hg base:Nat} (hl:Lies G B hm hg base) {us:List Md} {w:World} {F:Nat→Prop} (hI:MadeI I G #[.func (.func fk) #[] lk,.func (.func fa) #[] la,.func (.func fb) #[] lb] k hm hg base us w F)
    {u:Tri} (hu:TriN w B k u) (ho:u.o = none) (ht:TermS kf u) (hB:B≤w.heap.size) (hlen:us.length≤1000000) :
    Calls Tryz.prog 177 #[prS u,.pointer (some ⟨hg,0,none⟩),.pointer (some ⟨hm,0,none⟩)] w fun e w' => ∃ F':Nat→Prop,(∀ b,F' b→F b∨w.heap.size≤b)∧Foot F w w'∧e = .returned (.bool true)∧(∃ x,RMd g u x∧MadeI I G #[.func (.func fk) #[] lk,.func (.func fa) #[] la,.func (.func fb) #[] lb] k hm hg base (us ++ [x]) w' F')∧Kp k w w':=by
  obtain ⟨D,d,hr,hrow,-⟩:=hI.row
  obtain ⟨n,hn⟩:∃ n,us.length = n:=⟨_,rfl⟩
  obtain ⟨W0,hW0⟩:∃ W0,W0 = w.alloc (.cells #[.pointer (rootP u.a),.pointer (rootP u.b)] 97):=⟨_,rfl⟩
  have hb0:Below w.heap.size w W0:=by rw [hW0];exact below_alloc _ _
  have ha0:W0.heap[w.heap.size]? = some (.cells #[.pointer (rootP u.a),.pointer (rootP u.b)] 97 (0,0)):=by rw [hW0];exact heap_at w _ _ rfl
  have hr0:=keepz hr hb0
  have hm0:=keepz hI.m hb0
  rw [hn] at hr hr0 hrow
  obtain ⟨y0,y1,y2⟩:=mk_cells hm0
  obtain ⟨p0,p1,-⟩:=atS_cells ha0
  have c0:W0.cell? ⟨hg,0,none⟩ = some (.slice D n d):=by rw [cell_of_row W0 _ _ _ _ (0,0) hr0];rfl
  have HEn:Hid (∀ w1,Below W0.heap.size W0 w1→Calls Tryz.prog 178 #[mkV fk lk fa la fb lb,prS u] w1 (TwoE k g u w1)):=Lib.hid fun w1 hb => by
    have hB1:=Below.andThen hb0 hb
    exact sEnd_c h (h.below hI.i hB1) (hu.below hB1 hB (Nat.le_refl _)) ho ht (Nat.le_trans hB hB1.size)
  have HX:=Lib.hid (And.intro h (And.intro hl (And.intro hI (And.intro hr (And.intro hrow (And.intro hn (And.intro hb0 (And.intro hr0 hlen))))))))
  have HW:=Lib.hid hW0
  have h00:=Below.refl W0.heap.size W0
  clear h hl hI hu ho ht hB hr hrow hn hW0 hb0 ha0 hr0 hm0 hlen
  go_enter Tryz.func177,Tryz.ntmps177
  go_upto_region 1 with fail
  rw [← HW.out]
  go_region_law ((first
    | (go_simp;go_at_call 178;refine (HEn.out _ (by ((repeat first | refine bD ?_ | with_reducible refine bN ?_ | refine bA ?_ | refine bS ?_);first | exact bR | assumption | exact bN bR | exact bN (bN bR)))).mono ?_;rintro e w3 ⟨x,y,rfl,h1,h2,h3,h4,hb3⟩;have hB3:Below W0.heap.size W0 w3:=Below.trans (show Below W0.heap.size W0 _ by ((repeat first | refine bD ?_ | with_reducible refine bN ?_ | refine bA ?_ | refine bS ?_);first | exact bR | assumption | exact bN bR | exact bN (bN bR))) (hb3.mono (Below.size (show Below W0.heap.size W0 _ by ((repeat first | refine bD ?_ | with_reducible refine bN ?_ | refine bA ?_ | refine bS ?_);first | exact bR | assumption | exact bN bR | exact bN (bN bR)))));have hr3:=keepz HX.out.2.2.2.2.2.2.2.1 hB3;have c3:w3.cell? ⟨hg,0,none⟩ = some (.slice D n d):=by { rw [cell_of_row w3 _ _ _ _ (0,0) hr3];rfl };have e3:∀ ob,(w3.alloc ob).cell? ⟨hg,0,none⟩ = some (.slice D n d):=fun ob => by { rw [cell_of_row _ _ _ _ _ (0,0) (heap_past ob hr3)];rfl };have H3:=Lib.hid (And.intro h1 (And.intro h2 (And.intro h3 (And.intro h4 (And.intro hB3 hr3)))));have hww:=Below.refl w3.heap.size w3;clear h1 h2 h3 h4 hb3 hB3 hr3 y0 y1 y2 p0 p1)
    | (refine step_append_rowZ (Q:=MdQ) (Z:=NZ) 239 97 (p2V none none) 16 Tryz.underlying239 infoPr (by rfl) (by omega) (by omega) mdQ_ok nz_pr (by rfl) _ _ (by rfl) base (.slice D n d) us (n + 1) (by rw [← HX.out.2.2.2.2.2.1]) (by rfl) (RowZ.below (C:=w.heap.size) HX.out.2.2.2.2.1 (show Below w.heap.size w _ from Below.andThen HX.out.2.2.2.2.2.2.1 (Below.andThen H3.out.2.2.2.2.1 (show Below w3.heap.size w3 _ by ((repeat first | refine bD ?_ | with_reducible refine bN ?_ | refine bA ?_ | refine bS ?_);first | exact bR | assumption | exact bN bR | exact bN (bN bR))))) (Nat.le_refl _)) (x,y) [.pointer (rootP x),.pointer (rootP y)] (by rfl) (by exact ⟨rfl,rfl⟩) ⟨w3.heap.size,0,none⟩ 1 (by rfl) (by exact news_at _ _ _) (by have h8:=HX.out.2.2.2.2.2.2.2.2;omega) (by have h8:=HX.out.2.2.1.le;have h9:=HX.out.2.2.2.2.2.2.1.size;have h7:=H3.out.2.2.2.2.1.size;simp;omega) ?_;intro D5 d5 w5 hown5 hgrow5 hat5 hch5;have hne5:=(hgrow5.block hg (by have h8:=(Array.getElem?_eq_some_iff.1 H3.out.2.2.2.2.2).1;simp;omega) (fun e => by have h8:=(HX.out.2.2.2.2.1.lt _ e.symm).1;have h9:=HX.out.2.1.g.2;omega)).trans (((show Below w3.heap.size w3 _ by ((repeat first | refine bD ?_ | with_reducible refine bN ?_ | refine bA ?_ | refine bS ?_);first | exact bR | assumption | exact bN bR | exact bN (bN bR))).block hg (Array.getElem?_eq_some_iff.1 H3.out.2.2.2.2.2).1).trans H3.out.2.2.2.2.2);have c5:w5.cell? ⟨hg,0,none⟩ = some (.slice D n d):=by { rw [cell_of_row w5 _ _ _ _ (0,0) hne5];rfl };have f5:=frozen_of_row w5 hg 0 _ _ hne5;have HG:=Lib.hid (And.intro hgrow5 (And.intro hown5 hat5));clear hown5 hgrow5 hat5 hch5 hne5)))
  all_goals (
    obtain ⟨h,hl,hI,hr,hrow,hn,hb0,hr0,hlen⟩:=HX.out
    obtain ⟨h1,h2,h3,h4,hB3,hr3⟩:=H3.out
    obtain ⟨hown5,hgrow5,hat5⟩:=HG.out
    subst hn
    obtain ⟨F',j1,j2,j3,j4⟩:=MadeI.put1 (x:=(x,y)) h.stay hl hI hr (Below.andThen hb0 hB3) (by exact (show Below w3.heap.size w3 _ by ((repeat first | refine bD ?_ | with_reducible refine bN ?_ | refine bA ?_ | refine bS ?_);first | exact bR | assumption | exact bN bR | exact bN (bN bR)))) hown5 hgrow5 hat5 ⟨h1,h2⟩
    have HJ:=Lib.hid (And.intro j1 (And.intro j2 (And.intro j3 (And.intro j4 (And.intro h3 h4)))))
    clear h hl hI hr hrow hb0 hr0 hlen h1 h2 h3 h4 hB3 hr3 hown5 hgrow5 hat5 j1 j2 j3 j4
    go_wp2_with fail
    go_ret
    exact ⟨F',HJ.out.1,HJ.out.2.1,rfl,⟨x,y,⟨HJ.out.2.2.2.2.1,HJ.out.2.2.2.2.2⟩,HJ.out.2.2.1⟩,HJ.out.2.2.2.1⟩)
theorem pp_in {w:World} {B k:Nat} {u:Tri} {g:G3} (hu:TriN w B k u) (ho:u.o = none) (hg:g none none none = none) {e:Ent} (he:e∈Tr.ppT g u):(∃ v,(e.1,v)∈Tr.entsO u.a)∨∃ v,(e.1,v)∈Tr.entsO u.b:=by
  have zo:=zdO hu.o
  have za:=zdO hu.a
  have zb:=zdO hu.b
  obtain ⟨⟨h1,h2⟩,h3⟩:=(Tr.mem_ppL hg zo.1 za.1 zb.1 zo.2 za.2 zb.2).1 he
  have e0:Tr.getE (Tr.entsO u.o) e.1 = none:=by rw [ho];rfl
  rw [e0] at h3
  cases ha:Tr.getE (Tr.entsO u.a) e.1 with
  | some v => exact .inl ⟨v,(Tr.getE_iff za.1 za.2 h1 h2).1 ha⟩
  | none =>
    cases hb:Tr.getE (Tr.entsO u.b) e.1 with
    | some v => exact .inr ⟨v,(Tr.getE_iff zb.1 zb.2 h1 h2).1 hb⟩
    | none => rw [ha,hb,hg] at h3;cases h3
theorem sum_rmd {g:G3}:∀ {P:List PlS} {xs:List Md},All2 (RMd g) P xs→(xs.map fun m => (Tr.entsO m.1).length).sum = (Tr.ppM g P).length
  | [],[],_ => rfl
  | [],_ :: _,h => by have:=h.1;simp at this
  | _ :: _,[],h => by have:=h.1;simp at this
  | p :: P,x :: xs,h => by
    have h0:=h.2 0 p x rfl rfl
    have ih:=sum_rmd (P:=P) (xs:=xs) ⟨by have:=h.1;simpa using this,fun i q y hq hy => h.2 (i + 1) q y (by simpa using hq) (by simpa using hy)⟩
    rw [List.map_cons,List.sum_cons,Tr.ppM_cons,List.length_append,h0.1,ih]
theorem mem_rmd {g:G3} {P:List PlS} {xs:List Md} (h:All2 (RMd g) P xs) (e:Ent):(∃ m∈xs,e∈Tr.entsO m.1)↔e∈Tr.ppM g P:=by
  unfold Tr.ppM
  rw [List.mem_flatMap]
  constructor
  · rintro ⟨m,hm,he⟩
    obtain ⟨i,hi⟩:=List.getElem?_of_mem hm
    have hlt:=(List.getElem?_eq_some_iff.1 hi).1
    obtain ⟨p,hp⟩:=get_lt (us:=P) (k:=i) (by rw [h.1];exact hlt)
    exact ⟨p,List.mem_of_getElem? hp,by rw [← (h.2 i p m hp hi).1];exact he⟩
  · rintro ⟨p,hp,he⟩
    obtain ⟨i,hi⟩:=List.getElem?_of_mem hp
    have hlt:=(List.getElem?_eq_some_iff.1 hi).1
    obtain ⟨m,hm⟩:=get_lt (us:=xs) (k:=i) (by rw [← h.1];exact hlt)
    exact ⟨m,List.mem_of_getElem? hm,by rw [(h.2 i p m hi hm).1];exact he⟩
theorem FrS.joins {w:World} {B k:Nat} {f:FmS} {g:G3} {xs:List Md} (hf:FrS w B k f) (hrem:f.t.rem f.l (nextP f.P) = []) (ha:All2 (RMd g) f.P xs) (hg:g none none none = none) (hnd:∀ m∈xs,NodeO w w.heap.size k m.1∧NodeO w w.heap.size k m.2) (hB:B≤w.heap.size) (hcn:cnt3 f.t≤1000000000) :
    ∃ c0,JnOk w B k f.l c0 f.t f.P xs∧Tr.ppM g f.P = Tr.ppT g f.t:=by
  obtain ⟨c0,hfo,hsd⟩:=hf.ok
  have hP:f.P = f.t.rem f.l 0:=by have:=hf.rem;rw [hrem,List.append_nil] at this;exact this
  have zo:=zdO hf.nt.o
  have za:=zdO hf.nt.a
  have zb:=zdO hf.nt.b
  have hpp:Tr.ppM g f.P = Tr.ppT g f.t:=by rw [hP];exact hfo.rem hg
  have hin:∀ p∈f.P,p∈f.t.rem f.l 0:=fun p hp => by rw [← hP];exact hp
  refine ⟨c0,⟨hf.ho,hfo,hsd,hf.nt,hB,hP,ha.1,hnd,fun m hm => ?_,fun i p m hp hm s x hx => ?_,fun p hp => (hf.place (hin p hp)).1,?_⟩,hpp⟩
  · obtain ⟨i,hi⟩:=List.getElem?_of_mem hm
    have hlt:=(List.getElem?_eq_some_iff.1 hi).1
    obtain ⟨p,hp⟩:=get_lt (us:=f.P) (k:=i) (by rw [ha.1];exact hlt)
    have:=ha.2 i p m hp hi
    rw [this.1,this.2]
  · have hpm:=hin p (List.mem_of_getElem? hp)
    have hr:=ha.2 i p m hp hm
    obtain ⟨q1,q2⟩:=hnd m (List.mem_of_getElem? hm)
    have hxe:x.ents = Tr.ppT g p.2∧Tr.Wf k x:=by
      unfold Md.at at hx
      split at hx
      · have h1:=hr.1
        rw [hx] at h1
        exact ⟨h1,(q1 x hx).1⟩
      · have h1:=hr.2
        rw [hx] at h1
        exact ⟨h1,(q2 x hx).1⟩
    obtain ⟨hpt,-,-,-,-,hpo⟩:=hf.place hpm
    obtain ⟨-,-,-,-,-,ma,mb⟩:=hfo.place hpm
    refine Tr.low_fit hxe.2 fun e he => ?_
    rw [hxe.1] at he
    have key:∀ (o o':Option T) (v:Nat),(∀ y,o = some y→(p.1,y)∈Tr.sdL o' f.l)→Tr.FitL k f.l c0 (Tr.sdL o' f.l)→(e.1,v)∈Tr.entsO o→Z.addr e.1 f.l = p.1∧Z.cut e.1 (f.l + 1) = c0:=fun o o' v hm hF hv => by
      cases o with
      | none => cases hv
      | some y =>
        have:=hF.ent (hm y rfl) hv
        exact ⟨this.1,this.2.1⟩
    rcases pp_in hpt hpo hg he with ⟨v,hv⟩ | ⟨v,hv⟩
    · exact key _ _ v ma hfo.2.2.1 hv
    · exact key _ _ v mb hfo.2.2.2.1 hv
  · rw [sum_rmd ha,hpp]
    have hlen:(Tr.ppT g f.t).length≤cnt3 f.t:=Tr.ppL_len zo.1 zo.2 za.2 zb.2
    unfold cnt3 at hcn hlen
    omega
theorem FrS.some {w:World} {B k:Nat} {f:FmS} (hf:FrS w B k f):f.t.rem f.l 0≠[]:=by
  obtain ⟨c0,hfo,-⟩:=hf.ok
  intro h0
  have hpp:Tr.ppM (fun o a b:Option Nat => o.or (a.or b)) (f.t.rem f.l 0) = Tr.ppT (fun o a b => o.or (a.or b)) f.t:=hfo.rem rfl
  rw [h0] at hpp
  obtain ⟨x,hx⟩:=List.exists_mem_of_ne_nil _ hf.ne
  have hn:=hf.nt.mem hx
  obtain ⟨e,he⟩:=List.exists_mem_of_ne_nil _ hn.1.ne
  have d:=hn.1.dim e he
  have zo:=zdO hf.nt.o
  have za:=zdO hf.nt.a
  have zb:=zdO hf.nt.b
  have hnone:∀ c,c ∉ Tr.ppT (fun o a b:Option Nat => o.or (a.or b)) f.t:=fun c hc => by rw [← hpp] at hc;cases hc
  have h2:Tr.getE (Tr.entsO f.t.o) e.1 = none∧Tr.getE (Tr.entsO f.t.a) e.1 = none∧Tr.getE (Tr.entsO f.t.b) e.1 = none:=by
    cases hv:((Tr.getE (Tr.entsO f.t.o) e.1).or ((Tr.getE (Tr.entsO f.t.a) e.1).or (Tr.getE (Tr.entsO f.t.b) e.1))) with
    | some v => exact absurd ((Tr.mem_ppL (g:=fun o a b:Option Nat => o.or (a.or b)) (c:=(e.1,v)) rfl zo.1 za.1 zb.1 zo.2 za.2 zb.2).2 ⟨⟨d.1,d.2.1⟩,hv⟩) (hnone _)
    | none => simpa using hv
  rcases Tr.Tri.mem.1 hx with c | c | c
  · have:=(Tr.getE_iff zo.1 zo.2 d.1 d.2.1 (v:=e.2)).2 (by rw [c];exact he)
    rw [h2.1] at this;cases this
  · have:=(Tr.getE_iff za.1 za.2 d.1 d.2.1 (v:=e.2)).2 (by rw [c];exact he)
    rw [h2.2.1] at this;cases this
  · have:=(Tr.getE_iff zb.1 zb.2 d.1 d.2.1 (v:=e.2)).2 (by rw [c];exact he)
    rw [h2.2.2] at this;cases this
theorem slice_headM (w:World) (g n d i:Nat) (h2:i≤d) :
    (Instr.sliceAt 239 (.slice (some ⟨g,0,none⟩) n d) none (some (.int .i64 (i:Int))) none).run Tryz.prog w = .ok (.slice (some ⟨g,0,none⟩) i d) w:=by
  have ht:Tryz.prog.underlying 239 = some (.slice 97):=Tryz.underlying239
  have hel:Tryz.prog.elem 239 = 97:=by simp [Program.elem,ht]
  have hs:Tryz.prog.underlying 239 = some (.slice (Tryz.prog.elem 239)):=by rw [hel];exact ht
  have hsz:∀ w,(sizeOf 97).run Tryz.prog w = .ok 2 w:=fun w => by
    obtain ⟨i0,hi0,-,hz,-⟩:=info_parts infoPr
    simp [sizeOf,typeInfo,hi0,hz]
  rw [run_sliceAt_slice w _ _ _ _ _ hs,run_slice_h w _ _ _ _ hs .i64 (i:Int) (by omega) (by omega),hel,hsz]
  simp [Result.andThen,sliced]
  intro _
  rw [Go.WideShapes.add_plain,Nat.add_zero]
theorem slice_tailM (w:World) (g n d i:Nat) (h2:i < n) (h3:n≤d) :
    (Instr.sliceAt 239 (.slice (some ⟨g,0,none⟩) n d) (some (.int .i64 (i:Int))) none none).run Tryz.prog w = .ok (.slice (some ⟨g,i * 2,none⟩) (n - i) (d - i)) w:=by
  have ht:Tryz.prog.underlying 239 = some (.slice 97):=Tryz.underlying239
  have hel:Tryz.prog.elem 239 = 97:=by simp [Program.elem,ht]
  have hs:Tryz.prog.underlying 239 = some (.slice (Tryz.prog.elem 239)):=by rw [hel];exact ht
  have hsz:∀ w,(sizeOf 97).run Tryz.prog w = .ok 2 w:=fun w => by
    obtain ⟨i0,hi0,-,hz,-⟩:=info_parts infoPr
    simp [sizeOf,typeInfo,hi0,hz]
  rw [run_sliceAt_slice w _ _ _ _ _ hs,run_slice_l w _ _ _ _ hs .i64 (i:Int) (by omega) (by omega),hel,hsz]
  simp [Result.andThen,sliced]
  rw [if_neg (by omega),Go.WideShapes.add_plain,Nat.zero_add]
end Go.Proofs.YtkeepngaaleakaaGreatDoor
