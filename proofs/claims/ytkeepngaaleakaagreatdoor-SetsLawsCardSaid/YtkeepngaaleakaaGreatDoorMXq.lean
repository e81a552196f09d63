import Derived.Test.YtkeepngaaleakaaGreatDoorMXo
namespace Go.Proofs.YtkeepngaaleakaaGreatDoor
open Go.ChangeShapes Go.WideShapes Go.ChangeAt Go.RowKit
open Tr (T S4 Ent Tri KL)
theorem MadeI.put2 {I:World→Prop} {G:Nat→Prop} {mkc:Array Value} {B k hm hg base:Nat} {us xs:List Md} {w:World} {F:Nat→Prop} {x:Md} {w3 X w5:World} {D D5:Option Addr} {d d5 n:Nat} (hst:∀ w w',I w→w.heap.size≤w'.heap.size→(∀ b,G b→w'.heap[b]? = w.heap[b]?)→I w') (hl:Lies G B hm hg base) (h:MadeI I G mkc k hm hg base (us ++ xs) w F) (hr:w.heap[hg]? = some (.cells #[.slice D (us ++ xs).length d] 239 (0,0))) (h3:Below w.heap.size w w3) (hX:Below w3.heap.size w3 X)
    (hgr:X.grownBy w5 (Value.slice D n d).ownBlock) (hrow:MdRow w5 base (.slice D5 (us.length + 1) d5) (us ++ [x])) (hown:(Value.slice D5 (us.length + 1) d5).ownBlock = (Value.slice D n d).ownBlock∨(Value.slice D5 (us.length + 1) d5).ownBlock = some X.heap.size) (hnd:NodeO w3 w3.heap.size k x.1∧NodeO w3 w3.heap.size k x.2) :
    ∃ F':Nat→Prop,(∀ b,F' b→F b∨w.heap.size≤b)∧Foot F w (w5.setCell ⟨hg,0,none⟩ (.slice D5 (us.length + 1) d5))∧MadeI I G mkc k hm hg base (us ++ [x]) (w5.setCell ⟨hg,0,none⟩ (.slice D5 (us.length + 1) d5)) F'∧Kp k w (w5.setCell ⟨hg,0,none⟩ (.slice D5 (us.length + 1) d5)):=by
  have e:(us ++ [x]).length = us.length + 1:=by simp
  have hb:=Below.andThen h3 hX
  have ho:(Value.slice D n d).ownBlock = (Value.slice D (us ++ xs).length d).ownBlock:=by cases D <;> rfl
  rw [ho] at hgr hown
  have:=MadeI.put (us':=us ++ [x]) (D5:=D5) (d5:=d5) hst hl h hr hb hgr (by rw [e];exact hrow) (by rw [e];exact hown.imp (fun e => e) fun e => ⟨_,e,hb.size⟩) (fun m hm => by
    rcases List.mem_append.1 hm with hm | hm
    · have hm':=List.mem_append.2 (.inl hm:m∈us∨m∈xs)
      exact ⟨(h.nd m hm').1.below hb (Nat.le_refl _) hb.size,(h.nd m hm').2.below hb (Nat.le_refl _) hb.size⟩
    · rw [List.mem_singleton.1 hm]
      exact ⟨hnd.1.below hX (Nat.le_refl _) hX.size,hnd.2.below hX (Nat.le_refl _) hX.size⟩)
  rw [e] at this
  exact this
theorem joined {w w3:World} {B k:Nat} {f:FmS} {g:G3} {xs:List Md} {x y:Option T} (hf:FrS w B k f) (ha:All2 (RMd g) f.P xs) (hpp:Tr.ppM g f.P = Tr.ppT g f.t) (_hg:g none none none = none) (h1:NodeO w3 w3.heap.size k x) (h2:NodeO w3 w3.heap.size k y) (h3:∀ e,e∈Tr.entsO x↔∃ m∈xs,e∈Tr.entsO m.1) (h4:∀ e,e∈Tr.entsO y↔∃ m∈xs,e∈Tr.entsO m.1):RMd g f.t (x,y):=by
  have zo:=zdO hf.nt.o
  have za:=zdO hf.nt.a
  have zb:=zdO hf.nt.b
  refine ⟨Tr.XS.ext (zdO h1).1 (Tr.ppL_xs zo.1 zo.2 za.2 zb.2) fun e => ?_,Tr.XS.ext (zdO h2).1 (Tr.ppL_xs zo.1 zo.2 za.2 zb.2) fun e => ?_⟩
  · rw [h3 e,mem_rmd ha e,hpp]
  · rw [h4 e,mem_rmd ha e,hpp]
set_option maxRecDepth 1000000 in
set_option maxHeartbeats 8000000 in
theorem sPair2_c {fk:Nat} {lk:Array Value} {fa:Nat} {la:Array Value} {fb:Nat} {lb:Array Value} {B k:Nat} {kf:Tri→Bool} {g:G3} {I:World→Prop} {G:Nat→Prop} (h:MkS fk lk fa la fb lb B k kf g I G) {hm hg base:Nat} (hl:Lies G B hm hg base) {us xs:List Md} {w:World} {F:Nat→Prop} (hI:MadeI I G #[.func (.func fk) #[] lk,.func (.func fa) #[] la,.func (.func fb) #[] lb] k hm hg base (us ++ xs) w F)
    {f:FmS} {bs:Nat} (hf:FrS w B k f) (hc:FrC bs w f) (hrem:f.t.rem f.l (nextP f.P) = []) (ha:All2 (RMd g) f.P xs) (hB:B≤w.heap.size) (hlen:(us ++ xs).length≤1000000) (hcn:cnt3 f.t≤1000000000) :
    Calls Tryz.prog 179 #[.pointer (some ⟨f.q,0,none⟩),.pointer (some ⟨hg,0,none⟩)] w fun e w' => e = .returned (.tuple #[])∧∃ x F',RMd g f.t x∧MadeI I G #[.func (.func fk) #[] lk,.func (.func fa) #[] la,.func (.func fb) #[] lb] k hm hg base (us ++ [x]) w' F'∧(∀ b,F' b→F b∨w.heap.size≤b)∧Foot F w w'∧Kp k w w':=by
  obtain ⟨D,d,hr,hrow,hF⟩:=hI.row
  obtain ⟨c0,hJ,hpp⟩:=hf.joins hrem ha h.gn (fun m hm => hI.nd m (List.mem_append.2 (.inr hm))) hB hcn
  have hPn:f.P≠[]:=by rw [hJ.hP];exact hf.some
  obtain ⟨n,hn⟩:∃ n,us.length = n:=⟨_,rfl⟩
  obtain ⟨pn,hpn⟩:∃ p,f.P.length = p:=⟨_,rfl⟩
  have hxl:xs.length = pn:=by rw [← ha.1,hpn]
  have hpos:0 < pn:=by rw [← hpn];exact List.length_pos_iff.2 hPn
  have hul:(us ++ xs).length = n + pn:=by rw [List.length_append,hn,hxl]
  rw [hul] at hr hrow hlen
  obtain ⟨D',d',hvE,hdc⟩:=RowZ.slice hrow
  simp only [Value.slice.injEq] at hvE
  obtain ⟨rfl,-,rfl⟩:=hvE
  rw [hul] at hdc
  obtain ⟨a,rfl⟩:∃ a,D = some ⟨a,0,none⟩:=by
    rcases hrow with ⟨-,h0⟩ | ⟨a,cap,cur,vs,h1,-⟩
    · rw [h0] at hul;simp at hul;omega
    · simp only [Value.slice.injEq] at h1
      exact ⟨a,h1.1⟩
  have hMd:MdR w w.heap.size (some ⟨a,n * 2,none⟩) xs:=fun _ => ⟨a,n * 2,rfl,(hrow.lt a rfl).2,fun i m hm => by
    obtain ⟨g',d',cur,hvv,-,-,hh,p0,p1⟩:=RowZ.at mdQ_ok hrow (i:=n + i) (x:=m) (by rw [← hn,List.getElem?_append_right (Nat.le_add_right _ _),Nat.add_sub_cancel_left];exact hm)
    simp only [Value.slice.injEq,Option.some.injEq,Addr.mk.injEq,and_true] at hvv
    obtain ⟨rfl,-,-⟩:=hvv
    rw [cell_of_row w _ _ _ _ (0,0) hh,cell_of_row w _ _ _ _ (0,0) hh]
    refine ⟨?_,?_⟩
    · rw [← p0];show cur[n * 2 + i * 2]? = cur[(n + i) * 2 + 0]?;congr 1;omega
    · rw [← p1];show cur[n * 2 + i * 2 + 1]? = cur[(n + i) * 2 + 1]?;congr 1;omega⟩
  have hrow':MdRow w base (.slice (some ⟨a,0,none⟩) n d) us:=by
    have:=RowZ.take hrow mdQ_ok (by omega) mdQ_nu (m:=n) (by rw [hul];omega)
    rw [← hn,List.take_left] at this
    rw [← hn]
    exact this
  obtain ⟨fd,hfd⟩:∃ x,f.d = x:=⟨_,rfl⟩
  obtain ⟨fD,hfD⟩:∃ x,f.D = x:=⟨_,rfl⟩
  have hcell:=hc.cell
  have hprow:=hc.row
  have hvf:f.v = .slice fD pn fd:=by unfold FmS.v;rw [hfD,hpn,hfd]
  rw [hvf] at hcell hprow
  have HJn:Hid (∀ w1,Below w.heap.size w w1→Calls Tryz.prog 180 #[.pointer (some ⟨f.q,0,none⟩),.slice (some ⟨a,n * 2,none⟩) pn (d - n)] w1 fun e w' => JoinE k xs w1 e w'):=Lib.hid fun w1 hb => by
    obtain ⟨c1,hJ1,-⟩:=FrS.joins (w:=w1) ⟨hf.ok,hf.nt.below hb hB (Nat.le_refl _),hf.ho,hf.rem,hf.n5,hf.n6,hf.ne⟩ hrem ha h.gn (fun m hm => ⟨(hI.nd m (List.mem_append.2 (.inr hm))).1.below hb (Nat.le_refl _) hb.size,(hI.nd m (List.mem_append.2 (.inr hm))).2.below hb (Nat.le_refl _) hb.size⟩) (Nat.le_trans hB hb.size) hcn
    exact sJoin_c (mc:=d - n) hJ1 (keepz hcell hb) (hprow.below hb (Nat.le_refl _)) hpn (by have:=hf.n5;have:=hf.n6;omega) (hMd.below hb (Nat.le_refl _) hb.size)
  obtain ⟨-,-,-,-,-,-,y6⟩:=stS_cells hcell
  have c0:w.cell? ⟨hg,0,none⟩ = some (.slice (some ⟨a,0,none⟩) (n + pn) d):=by rw [cell_of_row w _ _ _ _ (0,0) hr];rfl
  have hsh:=fun w2 => slice_headM w2 a (n + pn) d n (by omega)
  have hst:=fun w2 => slice_tailM w2 a (n + pn) d n (by omega) hdc
  rw [Nat.add_sub_cancel_left] at hst
  have e1:((n + pn:Nat):Int) - (pn:Int) = (n:Int):=by omega
  have m1:(n:Int)≤1000000:=by omega
  have m2:(pn:Int)≤1000000:=by omega
  have m3:(n:Int) + (pn:Int) - (pn:Int) = (n:Int):=by omega
  have h00:=Below.refl w.heap.size w
  have HX:=Lib.hid (And.intro h (And.intro hl (And.intro hI (And.intro hr (And.intro hrow' (And.intro hn (And.intro hul (And.intro hlen (And.intro ha (And.intro hpp hf))))))))))
  clear h hl hI hr hrow hrow' hn hul hlen ha hpp hf hJ hPn hc hrem hB hcn hpn hxl hpos hdc hF hMd hfd hfD hcell hprow hvf
  go_enter Tryz.func179,Tryz.ntmps179
  go_upto_region 0 with fail
  go_cut [3] from 4 (fun v wx => v = Value.int .i64 (n:Int)∧Below w.heap.size w wx)
  case first =>
    go_region
    all_goals go_wp2_with fail
    all_goals go_meet
    all_goals exact ⟨rfl,by ((repeat first | refine bD ?_ | with_reducible refine bN ?_ | refine bA ?_ | refine bS ?_);first | exact bR | assumption | exact bN bR | exact bN (bN bR))⟩
  case rest =>
  obtain ⟨rfl,hbc⟩:=hcut
  have hrc:=keepz HX.out.2.2.2.1 hbc
  have cc:wc.cell? ⟨hg,0,none⟩ = some (.slice (some ⟨a,0,none⟩) (n + pn) d):=by rw [cell_of_row wc _ _ _ _ (0,0) hrc];rfl
  have HC:=Lib.hid (And.intro hbc hrc)
  have hcc:=Below.refl wc.heap.size wc
  clear y6 c0 e1 m1 m2 m3 hbc hrc h00
  go_upto_region 1 with fail
  go_region_law ((first
    | (go_simp;go_at_call 180;refine (HJn.out _ (Below.andThen HC.out.1 (by ((repeat first | refine bD ?_ | with_reducible refine bN ?_ | refine bA ?_ | refine bS ?_);first | exact bR | assumption | exact bN bR | exact bN (bN bR))))).mono ?_;rintro e w3 ⟨x,y,rfl,h1,h2,h3,h4,hb3⟩;have hB3:Below wc.heap.size wc w3:=Below.trans (show Below wc.heap.size wc _ by ((repeat first | refine bD ?_ | with_reducible refine bN ?_ | refine bA ?_ | refine bS ?_);first | exact bR | assumption | exact bN bR | exact bN (bN bR))) (hb3.mono (Below.size (show Below wc.heap.size wc _ by ((repeat first | refine bD ?_ | with_reducible refine bN ?_ | refine bA ?_ | refine bS ?_);first | exact bR | assumption | exact bN bR | exact bN (bN bR)))));have hr3:=keepz HC.out.2 hB3;have c3:w3.cell? ⟨hg,0,none⟩ = some (.slice (some ⟨a,0,none⟩) (n + pn) d):=by { rw [cell_of_row w3 _ _ _ _ (0,0) hr3];rfl };have e3:∀ ob,(w3.alloc ob).cell? ⟨hg,0,none⟩ = some (.slice (some ⟨a,0,none⟩) (n + pn) d):=fun ob => by { rw [cell_of_row _ _ _ _ _ (0,0) (heap_past ob hr3)];rfl };have H3:=Lib.hid (And.intro h1 (And.intro h2 (And.intro h3 (And.intro h4 (And.intro hB3 hr3)))));have hww:=Below.refl w3.heap.size w3;clear h1 h2 h3 h4 hb3 hB3 hr3)
    | (refine step_append_rowZ (Q:=MdQ) (Z:=NZ) 239 97 (p2V none none) 16 Tryz.underlying239 infoPr (by rfl) (by omega) (by omega) mdQ_ok nz_pr (by rfl) _ _ (by rfl) base (.slice (some ⟨a,0,none⟩) n d) us (n + 1) (by rw [← HX.out.2.2.2.2.2.1]) (by rfl) (RowZ.below (C:=w.heap.size) HX.out.2.2.2.2.1 (show Below w.heap.size w _ from Below.andThen HC.out.1 (Below.andThen H3.out.2.2.2.2.1 (show Below w3.heap.size w3 _ by ((repeat first | refine bD ?_ | with_reducible refine bN ?_ | refine bA ?_ | refine bS ?_);first | exact bR | assumption | exact bN bR | exact bN (bN bR))))) (Nat.le_refl _)) (x,y) [.pointer (rootP x),.pointer (rootP y)] (by rfl) (by exact ⟨rfl,rfl⟩) ⟨w3.heap.size,0,none⟩ 1 (by rfl) (by exact news_at _ _ _) (by have h8:=HX.out.2.2.2.2.2.2.2.1;have h9:=HX.out.2.2.2.2.2.1;omega) (by have h8:=HX.out.2.2.1.le;have h9:=HC.out.1.size;have h7:=H3.out.2.2.2.2.1.size;simp;omega) ?_;intro D5 d5 w5 hown5 hgrow5 hat5 hch5;have hne5:=(hgrow5.block hg (by have h8:=(Array.getElem?_eq_some_iff.1 H3.out.2.2.2.2.2).1;simp;omega) (fun e => by have h8:=(HX.out.2.2.2.2.1.lt _ e.symm).1;have h9:=HX.out.2.1.g.2;omega)).trans (((show Below w3.heap.size w3 _ by ((repeat first | refine bD ?_ | with_reducible refine bN ?_ | refine bA ?_ | refine bS ?_);first | exact bR | assumption | exact bN bR | exact bN (bN bR))).block hg (Array.getElem?_eq_some_iff.1 H3.out.2.2.2.2.2).1).trans H3.out.2.2.2.2.2);have c5:w5.cell? ⟨hg,0,none⟩ = some (.slice (some ⟨a,0,none⟩) (n + pn) d):=by { rw [cell_of_row w5 _ _ _ _ (0,0) hne5];rfl };have f5:=frozen_of_row w5 hg 0 _ _ hne5;have HG:=Lib.hid (And.intro hgrow5 (And.intro hown5 hat5));clear hown5 hgrow5 hat5 hch5 hne5)))
  all_goals (
    obtain ⟨h,hl,hI,hr,hrow,hn,hul,hlen,ha,hpp,hf⟩:=HX.out
    obtain ⟨h1,h2,h3,h4,hB3,hr3⟩:=H3.out
    obtain ⟨hgrow5,hown5,hat5⟩:=HG.out
    subst hn
    obtain ⟨F',j1,j2,j3,j4⟩:=MadeI.put2 (x:=(x,y)) h.stay hl hI (by rw [hul];exact hr) (Below.andThen HC.out.1 hB3) (by exact (show Below w3.heap.size w3 _ by ((repeat first | refine bD ?_ | with_reducible refine bN ?_ | refine bA ?_ | refine bS ?_);first | exact bR | assumption | exact bN bR | exact bN (bN bR)))) hgrow5 hown5 hat5 ⟨h1,h2⟩
    have HJ:=Lib.hid (And.intro j1 (And.intro j2 (And.intro j3 (And.intro j4 (joined hf ha hpp h.gn h1 h2 h3 h4)))))
    clear h hl hI hr hrow hlen h1 h2 h3 h4 hB3 hr3 hown5 hgrow5 hat5 j1 j2 j3 j4 hul ha hpp hf
    go_wp2_with fail
    refine bodyPost_end (results_none rfl _ _ _) rfl ?_
    exact ⟨rfl,x,y,HJ.out.2.2.2.2,F',HJ.out.2.2.1,HJ.out.1,HJ.out.2.1,HJ.out.2.2.2.1⟩)
end Go.Proofs.YtkeepngaaleakaaGreatDoor
