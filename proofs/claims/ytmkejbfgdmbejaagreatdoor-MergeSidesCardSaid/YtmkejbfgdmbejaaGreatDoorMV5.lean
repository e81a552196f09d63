import Derived.Test.YtmkejbfgdmbejaaGreatDoorMV4
namespace Go.Proofs.YtmkejbfgdmbejaaGreatDoor
open Go.ChangeShapes Go.WideShapes Go.ChangeAt Go.RowKit
open Tr (T S4 Ent Tri)
/-! ### merge -/
theorem PRow.set_m {w:World} {base n d g a:Nat} {ps:List Pl} {u:Tri} {m0 m:Option T} (h:PRow w base (.slice (some ⟨g,0,none⟩) n d) (ps ++ [⟨a,u,m0⟩])):PRow (w.setCell ⟨g,ps.length * 5 + 4,none⟩ (.pointer (rootP m))) base (.slice (some ⟨g,0,none⟩) n d) (ps ++ [⟨a,u,m⟩]):=by
  rcases h with ⟨h,-⟩ | ⟨g',cap,cur,vs,hv,hg,hh,h1,h2,h3,h4,h5,h6⟩
  · simp at h
  · simp only [Value.slice.injEq,Option.some.injEq,Addr.mk.injEq,and_true] at hv
    obtain ⟨rfl,rfl,rfl⟩:=hv
    have hl:(ps ++ [(⟨a,u,m0⟩:Pl)]).length = ps.length + 1:=by simp
    have hl':(ps ++ [(⟨a,u,m⟩:Pl)]).length = ps.length + 1:=by simp
    rw [hl] at h1 h4 h6 ⊢
    have hh2:=heap_setCell_same w g (ps.length * 5 + 4) cur _ (.pointer (rootP m)) hh
    have hvs:vs.length = (ps.length + 1) * 5:=by rw [h5.1,hl]
    have hin:∀ i,i < (ps.length + 1) * 5→cur[i]? = vs[i]?:=fun i hi => by
      rw [← h4,List.getElem?_take,if_pos hi]
      simp
    refine .inr ⟨g,d,_,(cur.setIfInBounds (ps.length * 5 + 4) (.pointer (rootP m))).toList.take ((ps.length + 1) * 5),by rw [hl'],hg,hh2,by rw [hl'];exact h1,h2,by rw [Array.size_setIfInBounds];exact h3,by rw [hl'],⟨?_,fun i x hx => ?_⟩,fun i c hi hc => ?_⟩
    · have hs:(cur.setIfInBounds (ps.length * 5 + 4) (.pointer (rootP m))).toList.length = d * 5:=by simp [h3]
      rw [hl',List.length_take,hs]
      have:(ps.length + 1) * 5≤d * 5:=Nat.mul_le_mul_right _ h1
      omega
    · have hget:∀ j,j < 5→i < ps.length + 1→((cur.setIfInBounds (ps.length * 5 + 4) (.pointer (rootP m))).toList.take ((ps.length + 1) * 5))[i * 5 + j]? = if ps.length * 5 + 4 = i * 5 + j then some (.pointer (rootP m)) else vs[i * 5 + j]?:=fun j hj hi => by
        have hlt:i * 5 + j < (ps.length + 1) * 5:=by omega
        rw [List.getElem?_take,if_pos hlt,Array.getElem?_toList,Array.getElem?_setIfInBounds]
        have hsz:ps.length * 5 + 4 < cur.size:=by
          rw [h3]
          have:(ps.length + 1) * 5≤d * 5:=Nat.mul_le_mul_right _ h1
          omega
        by_cases e:ps.length * 5 + 4 = i * 5 + j
        · rw [if_pos e,if_pos hsz,if_pos e]
        · rw [if_neg e,if_neg e]
          exact hin _ hlt
      rcases Nat.lt_or_ge i ps.length with c | c
      · have hx':(ps ++ [(⟨a,u,m0⟩:Pl)])[i]? = some x:=by
          rw [List.getElem?_append_left c] at hx ⊢
          exact hx
        refine plQ_ok.ext _ _ _ (fun j hj => ?_) (h5.2 i x hx')
        rw [hget j hj (by omega),if_neg (by omega)]
      · have hi:=(List.getElem?_eq_some_iff.1 hx).1
        rw [hl'] at hi
        have hip:i = ps.length:=by omega
        subst hip
        rw [List.getElem?_append_right (by omega)] at hx
        simp only [Nat.sub_self,List.getElem?_cons_zero,Option.some.injEq] at hx
        subst hx
        have hq:=h5.2 ps.length ⟨a,u,m0⟩ (by simp)
        obtain ⟨q0,q1,q2,q3,-⟩:=hq
        refine ⟨?_,?_,?_,?_,?_⟩
        · exact (hget 0 (by omega) (by omega)).trans (by rw [if_neg (by omega)];exact q0)
        · exact (hget 1 (by omega) (by omega)).trans (by rw [if_neg (by omega)];exact q1)
        · exact (hget 2 (by omega) (by omega)).trans (by rw [if_neg (by omega)];exact q2)
        · exact (hget 3 (by omega) (by omega)).trans (by rw [if_neg (by omega)];exact q3)
        · exact (hget 4 (by omega) (by omega)).trans (by rw [if_pos rfl])
    · rw [hl'] at hi
      rw [Array.getElem?_setIfInBounds,if_neg (by omega)] at hc
      exact h6 i c hi hc
def MergeOk (x:T) (u:Tri):Prop:=∀ z∈x.all,∀ y0 y1 y2:Nat × T,y0∈z.ks→y1∈z.ks→y2∈z.ks→y0.1≠y1.1→y0.1≠y2.1→rootP u.o = some ⟨y0.2.blk,0,none⟩→rootP u.a = some ⟨y1.2.blk,0,none⟩→rootP u.b = some ⟨y2.2.blk,0,none⟩→False
theorem PRow.set_keeps {w:World} {base n d g a k:Nat} {ps:List Pl} {u:Tri} (h:PRow w base (.slice (some ⟨g,0,none⟩) n d) (ps ++ [⟨a,u,none⟩])) {v:Value}:∀ B x,Node w B k x→MergeOk x u→Node (w.setCell ⟨g,ps.length * 5 + 4,none⟩ v) B k x:=by
  intro B x hn hx
  have hnn:n = (ps ++ [(⟨a,u,none⟩:Pl)]).length:=by
    obtain ⟨D,c,hv,-⟩:=h.slice
    simp only [Value.slice.injEq] at hv
    exact hv.2.1
  rw [hnn] at h
  obtain ⟨hA,hB,hU⟩:=h.cells
  have hl:(ps ++ [(⟨a,u,none⟩:Pl)]).length = ps.length + 1:=by simp
  rw [hl] at hB
  obtain ⟨c0,c1,c2,c3,c4⟩:=hA ps.length ⟨a,u,none⟩ (by simp)
  have hall:=Node.all _ (Nat.le_refl _) hn
  refine node_keep (r:=g) (S:=fun i => i = ps.length * 5 + 4) (fun b hb => Below.heap_setCell w ⟨g,_,none⟩ _ b hb) (fun i u' hi hS => ?_) hU hn (fun z hz hne => off_fifth (hall z hz) hne c4 c1 c2 c3 (fun p e => ?_) (fun p e => ?_) (hx z hz))
  · rw [World.cell?_setCell_other _ _ _ _ (by
      intro e
      simp only [Addr.mk.injEq,and_true,true_and] at e
      first | exact hS e | exact hS e.symm)]
    exact hi
  · rw [c0] at e;cases e
  · have:=hB (ps.length * 5 + 5) _ (by omega) e
    rw [if_pos (by omega)] at this
    obtain ⟨m,e'⟩:=this
    cases e'
set_option maxRecDepth 1000000 in
set_option maxHeartbeats 2000000 in
theorem mMerge_c {w:World} {base d g a l q k:Nat} {t:Tri} {ps:List Pl} {u:Tri} (m:Option T) (hq:w.heap[q]? = some (.cells (stC t l (.slice (some ⟨g,0,none⟩) (ps.length + 1) d)) 192 (0,0))) (hv:PRow w base (.slice (some ⟨g,0,none⟩) (ps.length + 1) d) (ps ++ [⟨a,u,none⟩])) (hl:ps.length≤65536) :
    Calls Tryz.prog 112 #[.pointer (some ⟨q,0,none⟩),.pointer (rootP m)] w fun e w' => e = .returned (.tuple #[])∧PRow w' base (.slice (some ⟨g,0,none⟩) (ps.length + 1) d) (ps ++ [⟨a,u,m⟩])∧Foot (fun b => b = g) w w'∧∀ B x,Node w B k x→MergeOk x u→Node w' B k x:=by
  have hc:=hv
  rw [show ps.length + 1 = (ps ++ [(⟨a,u,none⟩:Pl)]).length by simp] at hc
  obtain ⟨hA,-,-⟩:=hc.cells
  obtain ⟨-,-,-,-,c4⟩:=hA ps.length ⟨a,u,none⟩ (by simp)
  have zf:w.frozen? ⟨g,ps.length * 5 + 4,none⟩ = false:=by
    rcases hv with ⟨h,-⟩ | ⟨g',cap,cur,vs,hv,hg,hh,-⟩
    · simp at h
    · simp only [Value.slice.injEq,Option.some.injEq,Addr.mk.injEq,and_true] at hv
      obtain ⟨rfl,-⟩:=hv
      exact frozen_of_row w g _ _ _ hh
  have c9:w.cell? ⟨q,9,none⟩ = some (.slice (some ⟨g,0,none⟩) (ps.length + 1) d):=by rw [cell_of_row w _ _ _ _ (0,0) hq];rfl
  have hset:=PRow.set_m (m:=m) hv
  have hkp:=fun (v:Value) => PRow.set_keeps (k:=k) (v:=v) hv
  have hft:=Foot.setCell w (F:=fun b => b = g) (a:=⟨g,ps.length * 5 + 4,none⟩) rfl (.pointer (rootP m))
  have HH:=Lib.hid (And.intro hset (And.intro hft (hkp (.pointer (rootP m)))))
  have e4:((ps.length + 1:Nat):Int) - 1 = (ps.length:Int):=by omega
  have m1:(0:Int)≤(ps.length:Int):=by omega
  have m2:(ps.length:Int) < ((ps.length + 1:Nat):Int):=by omega
  have m3:(ps.length:Int)≤65536:=by omega
  clear hv hc hA hset hkp hft hq hl
  generalize ps.length = pl at *
  simp only [rootP] at c4
  go_enter Tryz.func112,Tryz.ntmps112
  go_wp2_with fail
  go_region
  all_goals go_end0
  all_goals exact ⟨rfl,HH.out.1,⟨HH.out.2.1.os,HH.out.2.1.tape,HH.out.2.1.output,HH.out.2.1.size,HH.out.2.1.block⟩,fun B x hn hx => (HH.out.2.2 B x hn hx).below (C:=B) (by ((repeat first | refine bD ?_ | with_reducible refine bN ?_ | refine bA ?_ | refine bS ?_);first | exact bR | assumption | exact bN bR | exact bN (bN bR))) (Nat.le_refl _) (Nat.le_refl _)⟩
/-! ### with -/
theorem fit_one {k l:Nat} {c0:List Nat} {K:Tr.KL} (hF:Tr.FitL k l c0 K) {a:Nat} {m:T} (hw:Tr.Wf k m) (hfm:m.lv≤l∧Z.cut m.pre (l + 1) = c0∧Z.addr m.pre l = a):Tr.FitL k l c0 (Sl.put a m K) :=
  ⟨Sl.srt_put _ _ hF.1,fun x hx => (Sl.mem_put hx).elim (fun e => by rw [e];exact ⟨hw,hfm⟩) (hF.2 x)⟩
set_option maxRecDepth 1000000 in
set_option maxHeartbeats 2000000 in
theorem mWith_c {w:World} {B k l a:Nat} {c0:List Nat} {K:Tr.KL} {n:Option T} {m:T} (hU:Tr.UniN l c0 K n) (hF:Tr.FitL k l c0 K) (hn:NodeO w B k n) (hm:Node w B k m) (hfm:m.lv≤l∧Z.cut m.pre (l + 1) = c0∧Z.addr m.pre l = a) (hor:K = []∨(∃ x,K = [x]∧x.1≠a)∨2≤K.length) (hB:B≤w.heap.size) (hc:(Tr.entsL K).length + m.ents.length < 18446744073709551616) :
    Calls Tryz.prog 118 #[.pointer (rootP n),.pointer (some ⟨m.blk,0,none⟩)] w fun e w' => ∃ n',e = .returned (.pointer (rootP n'))∧Tr.UniN l c0 (Sl.put a m K) n'∧NodeO w' w'.heap.size k n'∧Below w.heap.size w w':=by
  have hlen:=hm.1.len
  have hk1:=hm.1.k1
  have hk16:=hm.1.k16
  have HPr:=Lib.hid (prefix_at hm hB (Below.refl w.heap.size w))
  rw [hlen] at HPr
  have hpn:=nptr_none
  have hn2:=nptr_no2
  rcases hU with ⟨rfl,rfl⟩ | ⟨x,rfl,rfl⟩ | ⟨h2,g,rfl⟩
  · have HH:=Lib.hid (hm.below (Below.refl w.heap.size w) hB hB)
    clear hF hn hm hor hB hc HPr
    simp only [rootP]
    go_enter Tryz.func118,Tryz.ntmps118
    go_wp2_with fail
    go_ret
    exact ⟨some m,rfl,.inr (.inl ⟨(a,m),rfl,rfl⟩),NodeO.some HH.out,Below.refl _ _⟩
  · have hnx:=hn x.2 rfl
    obtain ⟨wx,lx,cx,ax⟩:=hF.2 x List.mem_cons_self
    have hxa:x.1≠a:=by
      rcases hor with e | ⟨y,e,hy⟩ | e
      · cases e
      · cases e;exact hy
      · simp at e
    have hpart:Z.part x.2.pre m.pre = (l:Int):=by
      refine Z.part_eq (by rw [wx.len,hlen]) wx.ok hm.1.ok l (by rw [ax,hfm.2.2];exact hxa) fun i hi _ => ?_
      have p1:=Z.cut_addr x.2.pre (l + 1) i
      have p2:=Z.cut_addr m.pre (l + 1) i
      rw [if_pos (by omega)] at p1 p2
      rw [← p1,← p2,cx,hfm.2.1]
    obtain ⟨kp,hnd⟩:=hnx.2.nd
    have HC:Hid (∀ (w1:World) (A:Option Addr) (d:Nat),Below w.heap.size w w1→Pts w1 w1.heap.size A m.pre→Calls Tryz.prog 149 #[.pointer (some ⟨x.2.blk,0,none⟩),.slice A k d] w1 fun e w' => e = .returned (.bool false)∧w1 = w'):=Lib.hid fun w1 A d hb hp => by
      have hh:=nCovers_c (hnd.below hb hB (Nat.le_trans hB hb.size)) (by rw [wx.len];omega) (by rw [wx.len];omega) A m.pre d hp (by rw [wx.len,hlen]) false (by rw [hpart];exact decide_eq_false (by unfold levI;omega))
      rw [hlen] at hh
      exact hh
    have HP:Hid (∀ w1,Below w.heap.size w w1→Calls Tryz.prog 76 #[.pointer (some ⟨x.2.blk,0,none⟩),.pointer (some ⟨m.blk,0,none⟩)] w1 fun e w' => ∃ g',e = .returned (.tuple #[.pointer (some ⟨g',0,none⟩),.int .i64 0])∧Node w' w'.heap.size k (.br g' l c0 (Sl.put a m [x]))∧w1.heap.size≤g'∧Below w1.heap.size w1 w'):=Lib.hid fun w1 hb => by
      have hh:=nPair_c (hnx.below hb hB (Nat.le_refl _)) (hm.below hb hB (Nat.le_refl _)) (Nat.le_trans hB hb.size) hpart lx hfm.1 (by simpa [Tr.entsL] using hc)
      rw [cx,ax,hfm.2.2,show Sl.put x.1 x.2 ([]:Tr.KL) = [x] from rfl] at hh
      exact hh
    clear hF hn hm hor hB hc hnx hnd hpart wx lx cx ax
    simp only [rootP]
    go_enter Tryz.func118,Tryz.ntmps118
    go_wp2_with fail
    refine HPr.out.mono ?_
    rintro e w1 ⟨h1,d1,rfl,hp1,hb1⟩
    go_wp2_with fail
    refine (HC.out _ _ _ hb1 hp1).mono ?_
    rintro e w' ⟨rfl,rfl⟩
    go_wp2_with fail
    refine (HP.out _ hb1).mono ?_
    rintro e w2 ⟨g',rfl,hn2',-,hb2⟩
    have HF:=Lib.hid (And.intro hn2' (Below.andThen hb1 hb2))
    clear hn2' hb1 hb2
    go_wp2_with fail
    go_ret
    refine ⟨some (.br g' l c0 (Sl.put a m [x])),rfl,.inr (.inr ⟨?_,g',rfl⟩),NodeO.some HF.out.1,HF.out.2⟩
    cases HF.out.1.1 with
    | br _ _ _ _ _ _ h2 => exact h2
  · have hnb:=hn _ rfl
    have hcut:Z.cut c0 (l + 1) = c0:=hnb.1.cut_pre
    have hl0:c0.length = k:=hnb.1.len
    have hok0:Z.Ok c0:=hnb.1.ok
    have hpart:Z.part c0 m.pre≤(l:Int):=by
      have:=(Z.cut_eq_iff (by rw [hl0,hlen]) hok0 hm.1.ok (l + 1)).1 (by rw [hcut,hfm.2.1])
      omega
    obtain ⟨kp,hnd⟩:=hnb.2.nd
    have hlv:levI (T.br g l c0 K) = (l:Int):=levI_br g l c0 K
    have HC:Hid (∀ (w1:World) (A:Option Addr) (d:Nat),Below w.heap.size w w1→Pts w1 w1.heap.size A m.pre→Calls Tryz.prog 149 #[.pointer (some ⟨g,0,none⟩),.slice A k d] w1 fun e w' => e = .returned (.bool true)∧w1 = w'):=Lib.hid fun w1 A d hb hp => by
      have hh:=nCovers_c (hnd.below hb hB (Nat.le_trans hB hb.size)) (by show 1≤c0.length;omega) (by show c0.length≤16;omega) A m.pre d hp (by show c0.length = _;rw [hl0,hlen]) true (by rw [hlv];exact decide_eq_true hpart)
      rw [hlen] at hh
      exact hh
    have HP:Hid (∀ w1,Below w.heap.size w w1→Calls Tryz.prog 89 #[.pointer (some ⟨g,0,none⟩),.pointer (some ⟨m.blk,0,none⟩)] w1 fun e w' => ∃ g',e = .returned (.tuple #[.pointer (some ⟨g',0,none⟩),.int .i64 0])∧Node w' w'.heap.size k (.br g' l c0 (Sl.put a m K))∧w1.heap.size≤g'∧Below w1.heap.size w1 w'):=Lib.hid fun w1 hb => by
      have hh:=nWith_c (hnb.below hb hB (Nat.le_refl _)) (hm.below hb hB (Nat.le_refl _)) (Nat.le_trans hB hb.size) hpart hfm.1 hc
      rw [hfm.2.2] at hh
      exact hh
    have hroot:rootP (some (T.br g l c0 K)) = some ⟨g,0,none⟩:=rfl
    rw [hroot]
    clear hF hn hm hor hB hc hnb hnd hpart hcut hl0 hok0 hroot hlv
    go_enter Tryz.func118,Tryz.ntmps118
    go_wp2_with fail
    refine HPr.out.mono ?_
    rintro e w1 ⟨h1,d1,rfl,hp1,hb1⟩
    go_wp2_with fail
    refine (HC.out _ _ _ hb1 hp1).mono ?_
    rintro e w' ⟨rfl,rfl⟩
    go_wp2_with fail
    refine (HP.out _ hb1).mono ?_
    rintro e w2 ⟨g',rfl,hn2',-,hb2⟩
    have HF:=Lib.hid (And.intro hn2' (Below.andThen hb1 hb2))
    clear hn2' hb1 hb2
    go_wp2_with fail
    go_ret
    refine ⟨some (.br g' l c0 (Sl.put a m K)),rfl,.inr (.inr ⟨?_,g',rfl⟩),NodeO.some HF.out.1,HF.out.2⟩
    cases HF.out.1.1 with
    | br _ _ _ _ _ _ h2 => exact h2
end Go.Proofs.YtmkejbfgdmbejaaGreatDoor
namespace Go.Proofs.YtmkejbfgdmbejaaGreatDoor
open Go.ChangeShapes Go.WideShapes Go.ChangeAt Go.RowKit
open Tr (T S4 Ent Tri KL)
def app1 (K:KL) (p:Pl):KL:=match p.m with
  | none => Sl.del p.a K
  | some m => Sl.put p.a m K
def appL (K:KL) (L:List Pl):KL:=L.foldl app1 K
def Ris (L:List Pl):Prop:=L.Pairwise fun p q => p.a < q.a
theorem appL_cons (K:KL) (p:Pl) (L:List Pl):appL K (p :: L) = appL (app1 K p) L:=rfl
theorem appL_snoc (K:KL) (p:Pl) (L:List Pl):appL K (L ++ [p]) = app1 (appL K L) p:=by simp [appL]
theorem srt_app1 {K:KL} (h:Sl.Srt K) (p:Pl):Sl.Srt (app1 K p):=by
  unfold app1
  split
  · exact Sl.srt_del _ h
  · exact Sl.srt_put _ _ h
theorem get_app1 {K:KL} (h:Sl.Srt K) (p:Pl) (a:Nat):Sl.get (app1 K p) (a:Int) = if a = p.a then p.m else Sl.get K (a:Int):=by
  unfold app1
  cases hm:p.m with
  | none =>
    simp only
    rw [Sl.get_del h]
    by_cases e:a = p.a
    · rw [if_pos (by omega),if_pos e]
    · rw [if_neg (by omega),if_neg e]
  | some m =>
    simp only
    rw [Sl.get_put h]
    by_cases e:a = p.a
    · rw [if_pos (by omega),if_pos e]
    · rw [if_neg (by omega),if_neg e]
theorem srt_appL:∀ {L:List Pl} {K:KL},Sl.Srt K→Sl.Srt (appL K L)
  | [],_,h => h
  | p :: L,K,h => by rw [appL_cons];exact srt_appL (srt_app1 h p)
theorem get_appL_other:∀ {L:List Pl} {K:KL},Sl.Srt K→∀ {a:Nat},(∀ p∈L,p.a≠a)→Sl.get (appL K L) (a:Int) = Sl.get K (a:Int)
  | [],_,_,_,_ => rfl
  | p :: L,K,h,a,hn => by
    rw [appL_cons,get_appL_other (srt_app1 h p) (fun q hq => hn q (List.mem_cons_of_mem _ hq)),get_app1 h,if_neg (fun e => hn p List.mem_cons_self e.symm)]
theorem get_appL_in:∀ {L:List Pl} {K:KL},Sl.Srt K→Ris L→∀ {p:Pl},p∈L→Sl.get (appL K L) (p.a:Int) = p.m
  | [],_,_,_,_,hp => by cases hp
  | q :: L,K,h,hr,p,hp => by
    obtain ⟨r1,r2⟩:=List.pairwise_cons.1 hr
    rw [appL_cons]
    rcases List.mem_cons.1 hp with rfl | hp
    · rw [get_appL_other (srt_app1 h p) (fun x hx => by have:=r1 x hx;omega),get_app1 h,if_pos rfl]
    · exact get_appL_in (srt_app1 h q) r2 hp
theorem many_get:∀ {Q:List Nat} {K:KL},Sl.Srt K→Q.Nodup→(∀ a∈Q,Sl.get K (a:Int)≠none)→Q.length≤K.length
  | [],_,_,_,_ => Nat.zero_le _
  | a :: Q,K,h,hn,hg => by
    obtain ⟨n1,n2⟩:=List.nodup_cons.1 hn
    cases e:Sl.get K (a:Int) with
    | none => exact absurd e (hg a List.mem_cons_self)
    | some v =>
      have hl:=Sl.length_del h e
      have:=many_get (K:=Sl.del a K) (Sl.srt_del _ h) n2 fun b hb => by
        rw [Sl.get_del h,if_neg (by intro e'; exact n1 ((show b = a by omega) ▸ hb))]
        exact hg b (List.mem_cons_of_mem _ hb)
      simp only [List.length_cons]
      omega
section
variable (ps:List Pl) (was:Pl→Option T)
def eqP (x:Pl):Bool:=decide (rootP (was x) = rootP x.m)
def edL:List Pl:=ps.filter fun x => !eqP was x
def keptL:List Pl:=ps.filter fun x => eqP was x && x.m.isSome
def loseL:List Pl:=ps.filter fun x => !eqP was x && x.m.isNone
def wantL:List Pl:=ps.filter fun x => x.m.isSome
theorem count_ed:(wantL ps).length + (loseL ps was).length = (edL ps was).length + (keptL ps was).length:=by
  induction ps with
  | nil => rfl
  | cons x ps ih =>
    unfold wantL loseL edL keptL at ih ⊢
    cases e1:eqP was x <;> cases e2:x.m with
    | none => simp [e1,e2];omega
    | some m => simp [e1,e2];omega
end
section
variable {ps:List Pl} {was:Pl→Option T}
theorem ris_filter (h:Ris ps) (f:Pl→Bool):Ris (ps.filter f):=h.sublist List.filter_sublist
theorem ris_nodup {L:List Pl} (h:Ris L):(L.map (·.a)).Nodup:=by
  unfold List.Nodup
  rw [List.pairwise_map]
  exact h.imp fun {a b} hab => by omega
theorem ris_uniq {L:List Pl} (h:Ris L) {p q:Pl} (hp:p∈L) (hq:q∈L) (e:p.a = q.a):p = q:=by
  induction L with
  | nil => cases hp
  | cons x L ih =>
    obtain ⟨r1,r2⟩:=List.pairwise_cons.1 h
    rcases List.mem_cons.1 hp with e1 | hp'
    · rcases List.mem_cons.1 hq with e2 | hq'
      · rw [e1,e2]
      · have:=r1 q hq';rw [e1] at e;omega
    · rcases List.mem_cons.1 hq with e2 | hq'
      · have:=r1 p hp';rw [e2] at e;omega
      · exact ih r2 hp' hq'
def EdOk (K:KL) (p:Pl):Prop:=match p.m with
  | none => Sl.has K (p.a:Int) = true∧2≤(Sl.del p.a K).length
  | some _ => K = []∨(∃ x,K = [x]∧x.1≠p.a)∨2≤K.length
theorem edOk_none (hr:Ris ps) {L1 L2:List Pl} {p:Pl} (he:edL ps (fun _ => none) = L1 ++ p :: L2):EdOk (appL [] L1) p:=by
  have hre:Ris (edL ps fun _ => none):=ris_filter hr _
  have hpm:p∈edL ps (fun _ => none):=by rw [he];simp
  rw [he] at hre
  have h1:=(List.pairwise_append.1 hre).1
  have h12:=(List.pairwise_append.1 hre).2.2
  unfold EdOk
  cases hm:p.m with
  | none =>
    have:=(List.mem_filter.1 hpm).2
    simp [eqP,hm,rootP] at this
  | some m =>
    simp only
    have hs:Sl.Srt (appL [] L1):=srt_appL Sl.srt_nil
    match hK:appL [] L1 with
    | [] => exact .inl rfl
    | [x] =>
      refine .inr (.inl ⟨x,rfl,fun e => ?_⟩)
      have hg:Sl.get (appL [] L1) (x.1:Int) = some x.2:=Sl.get_of_mem hs (by rw [hK];exact List.mem_cons_self)
      by_cases c:∀ q∈L1,q.a≠x.1
      · rw [get_appL_other Sl.srt_nil c] at hg
        cases hg
      · obtain ⟨q,hq,hqa⟩:∃ q∈L1,q.a = x.1:=Classical.byContradiction fun h => c fun q hq e => h ⟨q,hq,e⟩
        have:=h12 q hq p List.mem_cons_self
        omega
    | _ :: _ :: _ => exact .inr (.inr (by simp))
theorem edOk_side (hr:Ris ps) {K0:KL} (hs:Sl.Srt K0) (hg:∀ x∈ps,Sl.get K0 (x.a:Int) = was x) (hlt:(edL ps was).length < (wantL ps).length) {L1 L2:List Pl} {p:Pl} (he:edL ps was = L1 ++ p :: L2):EdOk (appL K0 L1) p:=by
  have hcnt:=count_ed ps was
  have hre:Ris (edL ps was):=ris_filter hr _
  have hpm:p∈edL ps was:=by rw [he];simp
  have hp:=List.mem_filter.1 hpm
  have hsub:∀ q∈L1,q∈edL ps was:=fun q hq => by rw [he];simp [hq]
  rw [he] at hre
  have h12:=(List.pairwise_append.1 hre).2.2
  have hs1:Sl.Srt (appL K0 L1):=srt_appL hs
  have hkept:∀ x∈keptL ps was,Sl.get (appL K0 L1) (x.a:Int)≠none∧x.a≠p.a:=fun x hx => by
    obtain ⟨hx1,hx2⟩:=List.mem_filter.1 hx
    simp only [Bool.and_eq_true] at hx2
    have hne:∀ q∈edL ps was,q.a≠x.a:=fun q hq e => by
      obtain ⟨hq1,hq2⟩:=List.mem_filter.1 hq
      have:=ris_uniq hr hq1 hx1 e
      subst this
      rw [hx2.1] at hq2
      cases hq2
    refine ⟨?_,fun e => hne p hpm e.symm⟩
    rw [get_appL_other hs (fun q hq => hne q (hsub q hq)),hg x hx1]
    intro e
    have h1:=hx2.1
    unfold eqP at h1
    rw [e] at h1
    have h2:=of_decide_eq_true h1
    cases hm:x.m with
    | none => rw [hm] at hx2;simp at hx2
    | some m => rw [hm] at h2;cases h2
  have hnd:((keptL ps was).map (·.a)).Nodup:=ris_nodup (ris_filter hr _)
  unfold EdOk
  cases hm:p.m with
  | none =>
    simp only
    have hlose:1≤(loseL ps was).length:=by
      have:p∈loseL ps was:=List.mem_filter.2 ⟨hp.1,by rw [hm];simpa using hp.2⟩
      exact List.length_pos_of_mem this
    have hgp:Sl.get (appL K0 L1) (p.a:Int) = was p:=by
      rw [get_appL_other hs (fun q hq => by have:=h12 q hq p List.mem_cons_self;omega),hg p hp.1]
    have hwp:∃ v,was p = some v:=by
      cases hw:was p with
      | some v => exact ⟨v,rfl⟩
      | none =>
        have h2:=hp.2
        simp [eqP,hm,hw] at h2
    obtain ⟨v,hv⟩:=hwp
    rw [hv] at hgp
    refine ⟨by unfold Sl.has;rw [hgp];rfl,?_⟩
    have h3:=many_get (Q:=p.a :: (keptL ps was).map (·.a)) hs1 (List.nodup_cons.2 ⟨fun h => by
      obtain ⟨x,hx,e⟩:=List.mem_map.1 h
      exact (hkept x hx).2 e,hnd⟩) fun a ha => by
        rcases List.mem_cons.1 ha with rfl | ha
        · rw [hgp];simp
        · obtain ⟨x,hx,rfl⟩:=List.mem_map.1 ha
          exact (hkept x hx).1
    have h4:=Sl.length_del hs1 hgp
    simp only [List.length_cons,List.length_map] at h3
    omega
  | some m =>
    simp only
    have hk1:1≤(keptL ps was).length:=by omega
    obtain ⟨x,hx⟩:∃ x,x∈keptL ps was:=List.exists_mem_of_ne_nil _ (by intro e;rw [e] at hk1;simp at hk1)
    obtain ⟨g1,g2⟩:=hkept x hx
    match hK:appL K0 L1 with
    | [] => rw [hK] at g1;exact absurd rfl g1
    | [y] =>
      refine .inr (.inl ⟨y,rfl,?_⟩)
      rw [hK] at g1
      by_cases c:(y.1:Int) = (x.a:Int)
      · omega
      · simp only [Sl.get,if_neg c] at g1
        exact absurd rfl g1
    | _ :: _ :: _ => exact .inr (.inr (by simp))
theorem mem_out (hr:Ris ps) {K0:KL} (hs:Sl.Srt K0) (hg:∀ x∈ps,Sl.get K0 (x.a:Int) = was x) (hk:∀ x∈K0,∃ p∈ps,p.a = x.1) (heq:∀ x∈ps,eqP was x = true→Tr.entsO (was x) = Tr.entsO x.m) (e:Ent) :
    e∈Tr.entsL (appL K0 (edL ps was))↔∃ x∈ps,e∈Tr.entsO x.m:=by
  have hre:Ris (edL ps was):=ris_filter hr _
  have hsA:Sl.Srt (appL K0 (edL ps was)):=srt_appL hs
  rw [Tr.mem_entsL]
  constructor
  · rintro ⟨y,hy,he⟩
    have hgy:=Sl.get_of_mem hsA hy
    by_cases c:∀ q∈edL ps was,q.a≠y.1
    · rw [get_appL_other hs c] at hgy
      obtain ⟨p,hp,hpa⟩:=hk _ ((Sl.get_iff hs).1 hgy)
      simp only at hpa
      refine ⟨p,hp,?_⟩
      have hq:eqP was p = true:=by
        cases h:eqP was p with
        | true => rfl
        | false => exact absurd hpa (c p (List.mem_filter.2 ⟨hp,by rw [h];rfl⟩))
      rw [← heq p hp hq,← hg p hp,hpa,hgy]
      exact he
    · obtain ⟨q,hq,hqa⟩:∃ q∈edL ps was,q.a = y.1:=Classical.byContradiction fun h => c fun q hq e => h ⟨q,hq,e⟩
      have:=get_appL_in hs hre hq
      rw [hqa,hgy] at this
      exact ⟨q,(List.mem_filter.1 hq).1,by rw [← this];exact he⟩
  · rintro ⟨x,hx,he⟩
    have key:∀ o:Option T,Sl.get (appL K0 (edL ps was)) (x.a:Int) = o→e∈Tr.entsO o→∃ y∈appL K0 (edL ps was),e∈y.2.ents:=fun o ho heo => by
      cases o with
      | none => cases heo
      | some v => exact ⟨(x.a,v),(Sl.get_iff hsA).1 ho,heo⟩
    cases h:eqP was x with
    | false =>
      exact key x.m (get_appL_in hs hre (List.mem_filter.2 ⟨hx,by rw [h];rfl⟩)) he
    | true =>
      refine key (was x) ?_ (by rw [heq x hx h];exact he)
      rw [get_appL_other hs (fun q hq e' => ?_),hg x hx]
      obtain ⟨hq1,hq2⟩:=List.mem_filter.1 hq
      have:=ris_uniq hr hq1 hx e'
      subst this
      rw [h] at hq2
      cases hq2
theorem fit_appL {k l:Nat} {c0:List Nat}:∀ {L:List Pl} {K:KL},Tr.FitL k l c0 K→(∀ p∈L,∀ m,p.m = some m→Tr.Wf k m∧m.lv≤l∧Z.cut m.pre (l + 1) = c0∧Z.addr m.pre l = p.a)→Tr.FitL k l c0 (appL K L)
  | [],_,h,_ => h
  | p :: L,K,h,hm => by
    rw [appL_cons]
    refine fit_appL ?_ fun q hq => hm q (List.mem_cons_of_mem _ hq)
    unfold app1
    cases e:p.m with
    | none => exact ⟨Sl.srt_del _ h.1,fun x hx => h.2 x (Sl.mem_del hx)⟩
    | some m =>
      obtain ⟨h1,h2⟩:=hm p List.mem_cons_self m e
      exact fit_one h h1 h2
end
theorem nodeP_dec {w:World} {B B' k:Nat} {x y:Option T} (hx:NodeO w B k x) (hy:NodeO w B' k y):(binOp .eql 74 (.pointer (rootP x)) (.pointer (rootP y))).run Tryz.prog w = .ok (.bool (decide (rootP x = rootP y))) w:=by
  cases x with
  | none =>
    cases y with
    | none => exact nptr_none w
    | some t => exact nptr_no1 w _
  | some s =>
    cases y with
    | none => exact nptr_no2 w _
    | some t =>
      by_cases h:s.blk = t.blk
      · have e:rootP (some s) = rootP (some t):=by simp only [rootP];rw [h]
        rw [e,decide_eq_true rfl]
        exact ptr_eq w _
      · have e:rootP (some s)≠rootP (some t):=fun e => by
          simp only [rootP,Option.some.injEq,Addr.mk.injEq,and_true] at e
          exact h e
        rw [decide_eq_false e]
        exact nptr_ne (hx s rfl).trb (hy t rfl).trb h
theorem neq_of_eql {w:World} {t:TypeId} {x y:Option Addr} {r:Bool} (h:(binOp .eql t (.pointer x) (.pointer y)).run Tryz.prog w = .ok (.bool r) w):(binOp .neq t (.pointer x) (.pointer y)).run Tryz.prog w = .ok (.bool (!r)) w:=by
  simp only [binOp] at h ⊢
  rw [Sem.run_bind] at h ⊢
  generalize (Op.equal t (.pointer x) (.pointer y)).run Tryz.prog w = res at h ⊢
  cases res with
  | ok b w' =>
    simp [Result.andThen] at h ⊢
    obtain ⟨h1,h2⟩:=h
    exact ⟨by rw [h1],h2⟩
  | _ => simp [Result.andThen] at h
abbrev plV (x:Pl):Value:=.agg #[.int .i64 (x.a:Int),.pointer (rootP x.t.o),.pointer (rootP x.t.a),.pointer (rootP x.t.b),.pointer (rootP x.m)]
theorem filter_take {α:Type} (f:α→Bool) {L:List α} {j:Nat} {x:α} (h:L[j]? = some x):(L.take (j + 1)).filter f = (L.take j).filter f ++ (if f x = true then [x] else []):=by
  rw [List.take_add_one,h]
  simp only [Option.toList_some,List.filter_append]
  congr 1
  by_cases c:f x = true
  · simp [c]
  · simp [c]
set_option maxRecDepth 1000000 in
set_option maxHeartbeats 4000000 in
theorem mEdits_c {w:World} {B k q d base pn fid:Nat} {lb:Array Value} {D:Option Addr} {ps:List Pl} {was:Pl→Option T} {cs:Array Value} (hcs:cs[9]? = some (.slice D pn d)) (hq:w.heap[q]? = some (.cells cs 192 (0,0))) (hpn:ps.length = pn) (hv:PRow w base (.slice D pn d) ps) (hl:pn≤65536) (hB:B≤w.heap.size)
    (hent:∀ args w,(callFunc fid args).run Tryz.prog w = .ok (.enter fid args) w)
    (hW:∀ x∈ps,∀ w1,Below w.heap.size w w1→Calls Tryz.prog fid (#[plV x] ++ lb) w1 fun e w' => e = .returned (.pointer (rootP (was x)))∧Below w1.heap.size w1 w') (hN:∀ x∈ps,NodeO w B k (was x)∧NodeO w B k x.m) :
    Calls Tryz.prog 115 #[.pointer (some ⟨q,0,none⟩),.func (.func fid) #[] lb] w fun e w' => ∃ D2 d2,e = .returned (.slice D2 (edL ps was).length d2)∧OwnL 186 5 PlQ w' w.heap.size (.slice D2 (edL ps was).length d2) (edL ps was)∧Below w.heap.size w w':=by
  have c9:w.cell? ⟨q,9,none⟩ = some (.slice D pn d):=by rw [cell_of_row w _ _ _ _ (0,0) hq];exact hcs
  have HX:=Lib.hid (And.intro hv (And.intro hB (And.intro hW (And.intro hN hpn))))
  have hn9:(pn:Int)≤65536:=by omega
  clear hcs hq hv hB hW hN hl
  go_enter Tryz.func115,Tryz.ntmps115
  go_wp2_with fail
  go_loopw [5,13] (fun u i wr => ∃ (j m:Nat) (D2:Option Addr) (d2:Nat),j≤pn∧i = .int .i64 (j:Int)∧u = .slice D2 m d2∧m = ((ps.take j).filter fun x => !eqP was x).length∧m≤j∧OwnL 186 5 PlQ wr w.heap.size (.slice D2 m d2) ((ps.take j).filter fun x => !eqP was x)∧Below w.heap.size w wr) (fun _ i _ => pn - (intOf i).toNat)
  case atStart => exact ⟨0,0,none,0,Nat.zero_le _,rfl,rfl,rfl,Nat.le_refl _,ownL_none _ _ _,Below.refl _ _⟩
  case round =>
    obtain ⟨j,m,D2,d2,hj,rfl,rfl,hm,hmj,hown,hbr⟩:=hrel
    by_cases hlt:j < pn
    · obtain ⟨x,hx⟩:=get_lt (us:=ps) (k:=j) (by rw [HX.out.2.2.2.2];exact hlt)
      have hxm:=List.mem_of_getElem? hx
      obtain ⟨g,d',cur,hvv,-,hgl,hh,p0,p1,p2,p3,p4⟩:=RowZ.at plQ_ok HX.out.1 hx
      simp only [Value.slice.injEq] at hvv
      obtain ⟨rfl,-⟩:=hvv
      have hhr:=(hbr.block g hgl).trans hh
      have z0:wr.cell? ⟨g,j * 5,none⟩ = some (.int .i64 (x.a:Int)):=by rw [cell_of_row wr _ _ _ _ (0,0) hhr];exact p0
      have z1:wr.cell? ⟨g,j * 5 + 1,none⟩ = some (.pointer (rootP x.t.o)):=by rw [cell_of_row wr _ _ _ _ (0,0) hhr];exact p1
      have z2:wr.cell? ⟨g,j * 5 + 2,none⟩ = some (.pointer (rootP x.t.a)):=by rw [cell_of_row wr _ _ _ _ (0,0) hhr];exact p2
      have z3:wr.cell? ⟨g,j * 5 + 3,none⟩ = some (.pointer (rootP x.t.b)):=by rw [cell_of_row wr _ _ _ _ (0,0) hhr];exact p3
      have z4:wr.cell? ⟨g,j * 5 + 4,none⟩ = some (.pointer (rootP x.m)):=by rw [cell_of_row wr _ _ _ _ (0,0) hhr];exact p4
      have hNx:=HX.out.2.2.2.1 x hxm
      have hWx:=Lib.hid (HX.out.2.2.1 x hxm)
      obtain ⟨xa,hxa⟩:∃ v,x.a = v:=⟨_,rfl⟩
      obtain ⟨xo,hxo⟩:∃ v,rootP x.t.o = v:=⟨_,rfl⟩
      obtain ⟨xA,hxA⟩:∃ v,rootP x.t.a = v:=⟨_,rfl⟩
      obtain ⟨xb,hxb⟩:∃ v,rootP x.t.b = v:=⟨_,rfl⟩
      obtain ⟨xm,hxmm⟩:∃ v,rootP x.m = v:=⟨_,rfl⟩
      obtain ⟨xw,hxw⟩:∃ v,rootP (was x) = v:=⟨_,rfl⟩
      obtain ⟨r,hr⟩:∃ r,eqP was x = r:=⟨_,rfl⟩
      have hneq:∀ w1,Below w.heap.size w w1→(binOp .neq 74 (.pointer xw) (.pointer xm)).run Tryz.prog w1 = .ok (.bool (!r)) w1:=fun w1 hb => by
        have hh:=neq_of_eql (nodeP_dec (hNx.1.below hb HX.out.2.1 (Nat.le_refl B)) (hNx.2.below hb HX.out.2.1 (Nat.le_refl B)))
        rw [← hr,← hxw,← hxmm]
        exact hh
      rw [hxa] at z0
      rw [hxo] at z1
      rw [hxA] at z2
      rw [hxb] at z3
      rw [hxmm] at z4
      have hqx:PlQ (fun j => [Value.int .i64 (xa:Int),.pointer xo,.pointer xA,.pointer xb,.pointer xm][j]?) x:=⟨by rw [← hxa];rfl,by rw [← hxo];rfl,by rw [← hxA];rfl,by rw [← hxb];rfl,by rw [← hxmm];rfl⟩
      have HE:=Lib.hid (And.intro hx (And.intro hlt (And.intro hm (And.intro hmj (And.intro hown (And.intro hbr (And.intro hr hqx)))))))
      have HWx:Hid (∀ w1,Below w.heap.size w w1→Calls Tryz.prog fid (#[.agg #[.int .i64 (xa:Int),.pointer xo,.pointer xA,.pointer xb,.pointer xm]] ++ lb) w1 fun e w' => e = .returned (.pointer xw)∧Below w1.heap.size w1 w'):=Lib.hid fun w1 hb => by
        have hh:=hWx.out w1 hb
        simp only [plV] at hh
        rw [hxa,hxo,hxA,hxb,hxmm,hxw] at hh
        exact hh
      have m1:(0:Int)≤(j:Int):=by omega
      have m2:(j:Int) < (pn:Int):=by omega
      have m3:(j:Int)≤65536:=by omega
      have f1:decide ((j:Int) < (pn:Int)) = true:=decide_eq_true (by omega)
      have f1':decide (j < pn) = true:=decide_eq_true hlt
      clear hhr hNx hWx hxa hxo hxA hxb hxmm hxw hr hqx hx hlt hm hmj hown hj p0 p1 p2 p3 p4 hh hgl hxm
      clear hbr
      go_wp2_with fail
      obtain ⟨W1,hW1⟩:∃ W1,W1 = wr.alloc (.cells #[.int .i64 (xa:Int),.pointer xo,.pointer xA,.pointer xb,.pointer xm] 186):=⟨_,rfl⟩
      have hb1:Below wr.heap.size wr W1:=by rw [hW1];exact below_alloc _ _
      have hq1:W1.heap[wr.heap.size]? = some (.cells #[.int .i64 (xa:Int),.pointer xo,.pointer xA,.pointer xb,.pointer xm] 186 (0,0)):=by rw [hW1];exact heap_at wr _ _ rfl
      have hlt1:=(Array.getElem?_eq_some_iff.1 hq1).1
      rw [← hW1]
      have n0:∀ w2,Below W1.heap.size W1 w2→w2.cell? ⟨wr.heap.size,0,none⟩ = some (.int .i64 (xa:Int)):=fun w2 hb => by rw [cell_of_row w2 _ _ _ _ (0,0) ((hb.block _ hlt1).trans hq1)];rfl
      have n1:∀ w2,Below W1.heap.size W1 w2→w2.cell? ⟨wr.heap.size,1,none⟩ = some (.pointer xo):=fun w2 hb => by rw [cell_of_row w2 _ _ _ _ (0,0) ((hb.block _ hlt1).trans hq1)];rfl
      have n2:∀ w2,Below W1.heap.size W1 w2→w2.cell? ⟨wr.heap.size,2,none⟩ = some (.pointer xA):=fun w2 hb => by rw [cell_of_row w2 _ _ _ _ (0,0) ((hb.block _ hlt1).trans hq1)];rfl
      have n3:∀ w2,Below W1.heap.size W1 w2→w2.cell? ⟨wr.heap.size,3,none⟩ = some (.pointer xb):=fun w2 hb => by rw [cell_of_row w2 _ _ _ _ (0,0) ((hb.block _ hlt1).trans hq1)];rfl
      have n4:∀ w2,Below W1.heap.size W1 w2→w2.cell? ⟨wr.heap.size,4,none⟩ = some (.pointer xm):=fun w2 hb => by rw [cell_of_row w2 _ _ _ _ (0,0) ((hb.block _ hlt1).trans hq1)];rfl
      have hBw:=Below.andThen HE.out.2.2.2.2.2.1 hb1
      have hnq:∀ w2,Below W1.heap.size W1 w2→(binOp .neq 74 (.pointer xw) (.pointer xm)).run Tryz.prog w2 = .ok (.bool (!r)) w2:=fun w2 hb => hneq w2 (Below.andThen hBw hb)
      have HW1:=Lib.hid (And.intro hBw hb1)
      have h11:=Below.refl W1.heap.size W1
      clear hneq hW1 hb1 hq1 hlt1 hBw z0 z1 z2 z3 z4
      go_region_held3 (fun w2 => Below W1.heap.size W1 w2) (((repeat first | refine bD ?_ | with_reducible refine bN ?_ | refine bA ?_ | refine bS ?_);first | exact bR | assumption | exact bN bR | exact bN (bN bR)))
        ((go_at_fn fid;refine (HWx.out _ (Below.andThen HW1.out.1 (show Below W1.heap.size W1 _ by ((repeat first | refine bD ?_ | with_reducible refine bN ?_ | refine bA ?_ | refine bS ?_);first | exact bR | assumption | exact bN bR | exact bN (bN bR))))).mono ?_;rintro e wc ⟨rfl,hbc⟩;have hBc:Below W1.heap.size W1 wc:=Below.trans (show Below W1.heap.size W1 _ by ((repeat first | refine bD ?_ | with_reducible refine bN ?_ | refine bA ?_ | refine bS ?_);first | exact bR | assumption | exact bN bR | exact bN (bN bR))) (hbc.mono (Below.size (show Below W1.heap.size W1 _ by ((repeat first | refine bD ?_ | with_reducible refine bN ?_ | refine bA ?_ | refine bS ?_);first | exact bR | assumption | exact bN bR | exact bN (bN bR)))));have hnc:=hnq wc hBc;clear hbc))
      have k0:=n0 wc hBc
      have k1:=n1 wc hBc
      have k2:=n2 wc hBc
      have k3:=n3 wc hBc
      have k4:=n4 wc hBc
      have HB2:=Lib.hid (And.intro (Below.andThen HW1.out.2 hBc) (Below.andThen HW1.out.1 hBc))
      clear n0 n1 n2 n3 n4 hnq hBc h11 hnc HWx
      have hft:=filter_take (fun x => !eqP was x) HE.out.1
      simp only [HE.out.2.2.2.2.2.2.1] at hft
      have HFT:=Lib.hid hft
      clear hft
      cases r with
      | true =>
        go_wp2_with fail
        go_roundw
        case rel =>
          have e:=HFT.out
          simp only [Bool.not_true,Bool.false_eq_true,if_false,List.append_nil] at e
          exact ⟨j + 1,m,D2,d2,by have:=HE.out.2.1;omega,by first | rfl | go_num,rfl,by rw [e];exact HE.out.2.2.1,by have:=HE.out.2.2.2.1;omega,by rw [e];exact OwnL.below HE.out.2.2.2.2.1 HB2.out.1 (Nat.le_refl _),HB2.out.2⟩
        case measure =>
          have:=HE.out.2.1
          show pn - ((j:Int) + 1).toNat < pn - (j:Int).toNat
          omega
      | false =>
        have hsz:=HB2.out.2.size
        go_wp2_with (at_builtin;refine wpList_append_list (Q:=PlQ) 183 186 pl0V 40 Tryz.underlying183 infoPl (by rfl) (by omega) (by omega) plQ_ok (by rfl) _ _ (by rfl) w.heap.size (.slice D2 m d2) ((ps.take j).filter fun x => !eqP was x) [x] (m + 1) (by rw [← HE.out.2.2.1];rfl) (by rfl) (by exact OwnL.below HE.out.2.2.2.2.1 (Below.andThen HB2.out.1 (below_alloc wc _)) (Nat.le_refl _)) _ _ 1 1 (by rfl) (by rfl) (by exact lst_at plQ_ok #[.int .i64 (xa:Int),.pointer xo,.pointer xA,.pointer xb,.pointer xm] x (by rfl) HE.out.2.2.2.2.2.2.2) (by have:=HE.out.2.2.2.1;have:=HE.out.2.1;omega) (by simp;omega) ?_;intro D5 d5 w5 hown5 hgrow5 hat5;have HN:=Lib.hid (And.intro hown5 hgrow5);clear hown5 hgrow5 hat5)
        go_roundw
        case rel =>
          have e:=HFT.out
          simp only [Bool.not_false,if_true] at e
          have hal:=Below.andThen HB2.out.1 (below_alloc wc (.cells #[.int .i64 (xa:Int),.pointer xo,.pointer xA,.pointer xb,.pointer xm] 186))
          have hol:∀ b,(Value.slice D2 m d2).ownBlock = some b→w.heap.size≤b:=fun b hb => (OwnL.lt HE.out.2.2.2.2.1 b hb).1
          exact ⟨j + 1,m + 1,D5,d5,by have:=HE.out.2.1;omega,by first | rfl | go_num,rfl,by rw [e,List.length_append,← HE.out.2.2.1];rfl,by have:=HE.out.2.2.2.1;omega,by rw [e];exact HN.out.1,(Below.andThen HE.out.2.2.2.2.2.1 hal).grown HN.out.2 (Below.andThen HE.out.2.2.2.2.2.1 hal).size hol⟩
        case measure =>
          have:=HE.out.2.1
          show pn - ((j:Int) + 1).toNat < pn - (j:Int).toNat
          omega
    · have hjp:j = pn:=by omega
      subst hjp
      have f1:decide ((j:Int) < (j:Int)) = false:=decide_eq_false (by omega)
      have f1':decide (j < j) = false:=decide_eq_false (by omega)
      have htk:ps.take j = ps:=by rw [← HX.out.2.2.2.2];exact List.take_length
      rw [htk] at hm hown
      have HF:=Lib.hid (And.intro hm (And.intro hown hbr))
      clear hm hown hbr htk hlt hj hmj
      go_wp2_with fail
      go_ret
      have hm2:m = (edL ps was).length:=HF.out.1
      refine ⟨D2,d2,by rw [hm2];rfl,?_,HF.out.2.2⟩
      rw [← hm2]
      exact HF.out.2.1
theorem node1_c (x:Pl) (w:World):Calls Tryz.prog 116 #[plV x] w fun e w' => e = .returned (.pointer none)∧Below w.heap.size w w':=by
  simp only [plV]
  go_enter Tryz.func116,Tryz.ntmps116
  go_wp2_with fail
  go_ret
  exact ⟨rfl,by ((repeat first | refine bD ?_ | with_reducible refine bN ?_ | refine bA ?_ | refine bS ?_);first | exact bR | assumption | exact bN bR | exact bN (bN bR))⟩
def Tri.at (t:Tri) (i:Nat):Option T:=match i with
  | 0 => t.o
  | 1 => t.a
  | _ => t.b
theorem node2_c (x:Pl) (i:Nat) (hi:i < 3) (g:Nat) (w:World) (hg:w.cell? ⟨g,0,none⟩ = some (.int .i64 (i:Int))) (hgs:g < w.heap.size):Calls Tryz.prog 117 #[plV x,.pointer (some ⟨g,0,none⟩)] w fun e w' => e = .returned (.pointer (rootP (Tri.at x.t i)))∧Below w.heap.size w w':=by
  simp only [plV]
  have hc:∀ ob,(w.alloc ob).cell? ⟨g,0,none⟩ = some (.int .i64 (i:Int)):=fun ob => ((below_alloc w ob).cell (p:=⟨g,0,none⟩) hgs).trans hg
  match i,hi with
  | 0,_ =>
    have hc:∀ ob,(w.alloc ob).cell? ⟨g,0,none⟩ = some (.int .i64 0):=hc
    go_enter Tryz.func117,Tryz.ntmps117
    go_wp2_with fail
    go_ret
    exact ⟨rfl,by ((repeat first | refine bD ?_ | with_reducible refine bN ?_ | refine bA ?_ | refine bS ?_);first | exact bR | assumption | exact bN bR | exact bN (bN bR))⟩
  | 1,_ =>
    have hc:∀ ob,(w.alloc ob).cell? ⟨g,0,none⟩ = some (.int .i64 1):=hc
    go_enter Tryz.func117,Tryz.ntmps117
    go_wp2_with fail
    go_ret
    exact ⟨rfl,by ((repeat first | refine bD ?_ | with_reducible refine bN ?_ | refine bA ?_ | refine bS ?_);first | exact bR | assumption | exact bN bR | exact bN (bN bR))⟩
  | 2,_ =>
    have hc:∀ ob,(w.alloc ob).cell? ⟨g,0,none⟩ = some (.int .i64 2):=hc
    go_enter Tryz.func117,Tryz.ntmps117
    go_wp2_with fail
    go_ret
    exact ⟨rfl,by ((repeat first | refine bD ?_ | with_reducible refine bN ?_ | refine bA ?_ | refine bS ?_);first | exact bR | assumption | exact bN bR | exact bN (bN bR))⟩
theorem len_put (a:Nat) (m:T):∀ (K:KL),(Tr.entsL (Sl.put a m K)).length≤(Tr.entsL K).length + m.ents.length
  | [] => by simp [Sl.put,Tr.entsL]
  | x :: K => by
    unfold Sl.put
    split
    · rw [Tr.entsL_cons,Tr.entsL_cons,List.length_append,List.length_append]
      have:=len_put a m K
      omega
    · split
      · rw [Tr.entsL_cons,Tr.entsL_cons,List.length_append,List.length_append]
        simp only
        omega
      · rw [Tr.entsL_cons,List.length_append]
        simp only
        omega
theorem len_del (a:Nat):∀ (K:KL),(Tr.entsL (Sl.del a K)).length≤(Tr.entsL K).length
  | [] => by simp [Sl.del]
  | x :: K => by
    unfold Sl.del
    split
    · rw [Tr.entsL_cons,List.length_append]
      omega
    · rw [Tr.entsL_cons,Tr.entsL_cons,List.length_append,List.length_append]
      have:=len_del a K
      omega
def sumM (L:List Pl):Nat:=(L.map fun x => (Tr.entsO x.m).length).sum
theorem sumM_cons (p:Pl) (L:List Pl):sumM (p :: L) = (Tr.entsO p.m).length + sumM L:=by simp [sumM]
theorem len_app1 (K:KL) (p:Pl):(Tr.entsL (app1 K p)).length≤(Tr.entsL K).length + (Tr.entsO p.m).length:=by
  unfold app1
  cases p.m with
  | none => exact Nat.le_trans (len_del _ _) (Nat.le_add_right _ _)
  | some m => exact len_put _ _ _
theorem len_appL:∀ (L:List Pl) (K:KL),(Tr.entsL (appL K L)).length≤(Tr.entsL K).length + sumM L
  | [],K => Nat.le_add_right _ _
  | p :: L,K => by
    rw [appL_cons,sumM_cons]
    have h1:=len_appL L (app1 K p)
    have h2:=len_app1 K p
    omega
theorem sumM_filter (f:Pl→Bool):∀ (L:List Pl),sumM (L.filter f)≤sumM L
  | [] => Nat.le_refl _
  | p :: L => by
    have:=sumM_filter f L
    rw [List.filter_cons,sumM_cons]
    split
    · rw [sumM_cons];omega
    · omega
theorem sumM_split {L L1 L2:List Pl} {p:Pl} (h:L = L1 ++ p :: L2):sumM L1 + (Tr.entsO p.m).length≤sumM L:=by
  subst h
  simp only [sumM,List.map_append,List.map_cons,List.sum_append,List.sum_cons]
  omega
theorem ed_want (ps:List Pl):(edL ps fun _ => none) = wantL ps:=by
  unfold edL wantL
  refine List.filter_congr fun x _ => ?_
  unfold eqP
  cases x.m with
  | none => simp [rootP]
  | some m => simp [rootP]
structure Start (k l:Nat) (c0:List Nat) (t:Tri) (ps:List Pl) (n:Option T) (was:Pl→Option T) (K0:KL):Prop where
  fit:Tr.FitL k l c0 K0
  uni:Tr.UniN l c0 K0 n
  get:∀ x∈ps,Sl.get K0 (x.a:Int) = was x
  key:∀ y∈K0,∃ p∈ps,p.a = y.1
  ok:∀ L1 p L2,edL ps was = L1 ++ p :: L2→EdOk (appL K0 L1) p
  len:(Tr.entsL K0).length≤(Tr.entsO t.o).length + (Tr.entsO t.a).length + (Tr.entsO t.b).length
theorem ps_facts {l:Nat} {t:Tri} {ps:List Pl} (hps:ps.map (fun x => (x.a,x.t)) = t.rem l 0):Ris ps∧(∀ x∈ps,x.t = Tr.triAt (Tr.sdL t.o l) (Tr.sdL t.a l) (Tr.sdL t.b l) x.a)∧∀ a,a < 65536→(Tr.triAt (Tr.sdL t.o l) (Tr.sdL t.a l) (Tr.sdL t.b l) a).any = true→∃ p∈ps,p.a = a:=by
  refine ⟨?_,fun x hx => ?_,fun a ha hany => ?_⟩
  · have h:=Tr.rem3_sorted (Lo:=Tr.sdL t.o l) (La:=Tr.sdL t.a l) (Lb:=Tr.sdL t.b l) 0
    have h':(t.rem l 0).Pairwise fun p q => p.1 < q.1:=h
    rw [← hps,List.pairwise_map] at h'
    exact h'
  · have hm:(x.a,x.t)∈t.rem l 0:=by rw [← hps];exact List.mem_map.2 ⟨x,hx,rfl⟩
    exact (Tr.mem_rem3.1 hm).2.2.1
  · have hm:(a,Tr.triAt (Tr.sdL t.o l) (Tr.sdL t.a l) (Tr.sdL t.b l) a)∈t.rem l 0:=Tr.mem_rem3.2 ⟨Nat.zero_le _,ha,rfl,hany⟩
    rw [← hps] at hm
    obtain ⟨x,hx,e⟩:=List.mem_map.1 hm
    exact ⟨x,hx,(Prod.mk.inj e).1⟩
section
variable {k l:Nat} {c0:List Nat} {t:Tri} {ps:List Pl}
theorem start_none (hps:ps.map (fun x => (x.a,x.t)) = t.rem l 0):Start k l c0 t ps none (fun _ => none) [] where
  fit:=⟨Sl.srt_nil,fun x hx => by cases hx⟩
  uni:=.inl ⟨rfl,rfl⟩
  get:=fun x _ => rfl
  key:=fun y hy => by cases hy
  ok:=fun L1 p L2 h => edOk_none (ps_facts hps).1 h
  len:=Nat.zero_le _
theorem start_side (hf:Tr.FrmOk k l c0 t) (hs:∀ x∈t.list,Tr.Wf k x∧x.lv≤l + 1∧Z.cut x.pre (l + 1) = c0) (hps:ps.map (fun x => (x.a,x.t)) = t.rem l 0) {i:Nat} (hi:i < 3) (hlt:(edL ps fun x => Tri.at x.t i).length < (wantL ps).length):Start k l c0 t ps (Tri.at t i) (fun x => Tri.at x.t i) (Tr.sdL (Tri.at t i) l):=by
  obtain ⟨h64,fo,fa,fb,eo,ea,eb⟩:=hf
  obtain ⟨h1,h2,h3⟩:=ps_facts hps
  have hfit:Tr.FitL k l c0 (Tr.sdL (Tri.at t i) l)∧Tr.entsL (Tr.sdL (Tri.at t i) l) = Tr.entsO (Tri.at t i):=by
    match i,hi with
    | 0,_ => exact ⟨fo,eo⟩
    | 1,_ => exact ⟨fa,ea⟩
    | 2,_ => exact ⟨fb,eb⟩
  have hget:∀ a:Nat,Tri.at (Tr.triAt (Tr.sdL t.o l) (Tr.sdL t.a l) (Tr.sdL t.b l) a) i = Sl.get (Tr.sdL (Tri.at t i) l) (a:Int):=fun a => by
    match i,hi with
    | 0,_ => rfl
    | 1,_ => rfl
    | 2,_ => rfl
  have hg:∀ x∈ps,Sl.get (Tr.sdL (Tri.at t i) l) (x.a:Int) = Tri.at x.t i:=fun x hx => by
    rw [h2 x hx,← hget]
  refine ⟨hfit.1,Tr.UniN.side fun x e => hs x ?_,hg,fun y hy => ?_,fun L1 p L2 h => edOk_side h1 hfit.1.1 hg hlt h,?_⟩
  · match i,hi,e with
    | 0,_,e => exact Tr.Tri.mem.2 (.inl e)
    | 1,_,e => exact Tr.Tri.mem.2 (.inr (.inl e))
    | 2,_,e => exact Tr.Tri.mem.2 (.inr (.inr e))
  · have hgy:=Sl.get_of_mem hfit.1.1 hy
    refine h3 y.1 (hfit.1.lt5 y hy) ?_
    have hh:=hget y.1
    rw [hgy] at hh
    match i,hi,hh with
    | 0,_,hh => have hh:Sl.get (Tr.sdL t.o l) (y.1:Int) = some y.2:=hh;simp [Tr.triAt,Tr.Tri.any,hh]
    | 1,_,hh => have hh:Sl.get (Tr.sdL t.a l) (y.1:Int) = some y.2:=hh;simp [Tr.triAt,Tr.Tri.any,hh]
    | 2,_,hh => have hh:Sl.get (Tr.sdL t.b l) (y.1:Int) = some y.2:=hh;simp [Tr.triAt,Tr.Tri.any,hh]
  · rw [hfit.2]
    match i,hi with
    | 0,_ => show (Tr.entsO t.o).length≤_;omega
    | 1,_ => show (Tr.entsO t.a).length≤_;omega
    | 2,_ => show (Tr.entsO t.b).length≤_;omega
end
def Cand (k l:Nat) (c0:List Nat) (t:Tri) (ps:List Pl) (w wr:World) (u v:Value):Prop :=
  ∃ (n:Option T) (was:Pl→Option T) (K0:KL) (D2:Option Addr) (d2:Nat),u = .pointer (rootP n)∧v = .slice D2 (edL ps was).length d2∧OwnL 186 5 PlQ wr w.heap.size (.slice D2 (edL ps was).length d2) (edL ps was)∧Start k l c0 t ps n was K0∧(∀ x,n = some x→x∈t.list)∧(edL ps was).length≤(wantL ps).length∧((∀ x∈ps,was x = none)∨∃ i,i < 3∧∀ x∈ps,was x = Tri.at x.t i)∧Below w.heap.size w wr
set_option maxRecDepth 1000000 in
set_option maxHeartbeats 8000000 in
theorem mNode_c {w:World} {B k l q d base pn:Nat} {c0:List Nat} {D:Option Addr} {t:Tri} {ps:List Pl} (hf:Tr.FrmOk k l c0 t) (hs:∀ x∈t.list,Tr.Wf k x∧x.lv≤l + 1∧Z.cut x.pre (l + 1) = c0) (h:TriN w B k t) (hB:B≤w.heap.size) (hq:w.heap[q]? = some (.cells (stC t l (.slice D pn d)) 192 (0,0))) (hpn:ps.length = pn) (hv:PRow w base (.slice D pn d) ps) (hl:pn≤65536)
    (hps:ps.map (fun x => (x.a,x.t)) = t.rem l 0) (hm:∀ x∈ps,NodeO w w.heap.size k x.m) (ht:∀ x∈ps,TriN w B k x.t) (hfit:∀ x∈ps,∀ m,x.m = some m→Tr.Wf k m∧m.lv≤l∧Z.cut m.pre (l + 1) = c0∧Z.addr m.pre l = x.a)
    (hsum:(Tr.entsO t.o).length + (Tr.entsO t.a).length + (Tr.entsO t.b).length + sumM ps≤1000000000000) :
    Calls Tryz.prog 61 #[.pointer (some ⟨q,0,none⟩)] w fun e w' => ∃ R,e = .returned (.pointer (rootP R))∧NodeO w' w'.heap.size k R∧(∀ e,e∈Tr.entsO R↔∃ x∈ps,e∈Tr.entsO x.m)∧Below w.heap.size w w':=by
  have hcq:∀ (w2:World) (i:Nat) (v:Value),Below w.heap.size w w2→(stC t l (.slice D pn d))[i]? = some v→w2.cell? ⟨q,i,none⟩ = some v:=fun w2 i v hb hi => by rw [cell_of_row w2 _ _ _ _ (0,0) (keepz hq hb)];exact hi
  have hN:∀ (i:Nat),i < 3→∀ x∈ps,NodeO w w.heap.size k (Tri.at x.t i)∧NodeO w w.heap.size k x.m:=fun i hi x hx => by
    have hx1:=(ht x hx).below (Below.refl w.heap.size w) hB hB
    refine ⟨?_,hm x hx⟩
    match i,hi with
    | 0,_ => exact hx1.o
    | 1,_ => exact hx1.a
    | 2,_ => exact hx1.b
  have HT:Hid (∀ (i:Nat),i < 3→∀ x∈ps,NodeO w w.heap.size k (Tri.at x.t i)):=Lib.hid fun i hi x hx => (hN i hi x hx).1
  have HE0:=Lib.hid (mEdits_c (was:=fun _ => none) (fid:=116) (lb:=#[]) (k:=k) (B:=w.heap.size) (by rfl) hq hpn hv hl (Nat.le_refl _) (enters_of Tryz.func116 (by kernel_rfl) rfl) (fun x _ w1 _ => node1_c x w1) (fun x hx => ⟨NodeO.none _ _ _,hm x hx⟩))
  have HEi:∀ (i:Nat),i < 3→∀ (w1:World) (g:Nat),Below w.heap.size w w1→w1.cell? ⟨g,0,none⟩ = some (.int .i64 (i:Int))→g < w1.heap.size→Calls Tryz.prog 115 #[.pointer (some ⟨q,0,none⟩),.func (.func 117) #[] #[.pointer (some ⟨g,0,none⟩)]] w1 fun e w' => ∃ D2 d2,e = .returned (.slice D2 (edL ps fun x => Tri.at x.t i).length d2)∧OwnL 186 5 PlQ w' w1.heap.size (.slice D2 (edL ps fun x => Tri.at x.t i).length d2) (edL ps fun x => Tri.at x.t i)∧Below w1.heap.size w1 w':=fun i hi w1 g hb hg hgs =>
    mEdits_c (was:=fun x => Tri.at x.t i) (fid:=117) (lb:=#[.pointer (some ⟨g,0,none⟩)]) (k:=k) (B:=w.heap.size) (by rfl) (keepz hq hb) hpn (hv.below hb (Nat.le_refl _)) hl hb.size (enters_of Tryz.func117 (by kernel_rfl) rfl) (fun x _ w2 hb2 => node2_c x i hi g w2 ((hb2.cell (p:=⟨g,0,none⟩) hgs).trans hg) (Nat.lt_of_lt_of_le hgs hb2.size)) (fun x hx => ⟨(hN i hi x hx).1.below hb (Nat.le_refl _) (Nat.le_refl _),(hN i hi x hx).2.below hb (Nat.le_refl _) (Nat.le_refl _)⟩)
  have HEi:=Lib.hid HEi
  have hlen2:(wantL ps).length≤pn:=by rw [← hpn];exact List.length_filter_le _ _
  have HX:=Lib.hid (And.intro hf (And.intro hs (And.intro h (And.intro hB (And.intro hps (And.intro hm (And.intro hfit (And.intro hsum (And.intro hl hlen2)))))))))
  have HCQ:=Lib.hid hcq
  have hpn':=Lib.hid hpn
  obtain ⟨po,hpo⟩:∃ v,rootP t.o = v:=⟨_,rfl⟩
  obtain ⟨pa,hpa⟩:∃ v,rootP t.a = v:=⟨_,rfl⟩
  obtain ⟨pb,hpb⟩:∃ v,rootP t.b = v:=⟨_,rfl⟩
  obtain ⟨ko,hko⟩:∃ v,sdK t.o l = v:=⟨_,rfl⟩
  obtain ⟨ka,hka⟩:∃ v,sdK t.a l = v:=⟨_,rfl⟩
  obtain ⟨kb,hkb⟩:∃ v,sdK t.b l = v:=⟨_,rfl⟩
  obtain ⟨ao,hao⟩:∃ v,sdA t.o l = v:=⟨_,rfl⟩
  obtain ⟨aa,haa⟩:∃ v,sdA t.a l = v:=⟨_,rfl⟩
  obtain ⟨ab,hab⟩:∃ v,sdA t.b l = v:=⟨_,rfl⟩
  have k0:∀ w2,Below w.heap.size w w2→w2.cell? ⟨q,0,none⟩ = some (.pointer po):=fun w2 hb => hcq w2 0 _ hb (by rw [← hpo];rfl)
  have k1:∀ w2,Below w.heap.size w w2→w2.cell? ⟨q,1,none⟩ = some (.bool ko):=fun w2 hb => hcq w2 1 _ hb (by rw [← hko];rfl)
  have k2:∀ w2,Below w.heap.size w w2→w2.cell? ⟨q,2,none⟩ = some (.int .i64 (ao:Int)):=fun w2 hb => hcq w2 2 _ hb (by rw [← hao];rfl)
  have k3:∀ w2,Below w.heap.size w w2→w2.cell? ⟨q,3,none⟩ = some (.pointer pa):=fun w2 hb => hcq w2 3 _ hb (by rw [← hpa];rfl)
  have k4:∀ w2,Below w.heap.size w w2→w2.cell? ⟨q,4,none⟩ = some (.bool ka):=fun w2 hb => hcq w2 4 _ hb (by rw [← hka];rfl)
  have k5:∀ w2,Below w.heap.size w w2→w2.cell? ⟨q,5,none⟩ = some (.int .i64 (aa:Int)):=fun w2 hb => hcq w2 5 _ hb (by rw [← haa];rfl)
  have k6:∀ w2,Below w.heap.size w w2→w2.cell? ⟨q,6,none⟩ = some (.pointer pb):=fun w2 hb => hcq w2 6 _ hb (by rw [← hpb];rfl)
  have k7:∀ w2,Below w.heap.size w w2→w2.cell? ⟨q,7,none⟩ = some (.bool kb):=fun w2 hb => hcq w2 7 _ hb (by rw [← hkb];rfl)
  have k8:∀ w2,Below w.heap.size w w2→w2.cell? ⟨q,8,none⟩ = some (.int .i64 (ab:Int)):=fun w2 hb => hcq w2 8 _ hb (by rw [← hab];rfl)
  have HP:=Lib.hid (And.intro hpo (And.intro hpa hpb))
  clear hf hs h hB hq hpn hv hl hps hm ht hfit hsum hN hcq hlen2 hpo hpa hpb hko hka hkb hao haa hab
  go_enter Tryz.func61,Tryz.ntmps61
  go_wp2_with fail
  refine HE0.out.mono ?_
  rintro e w1 ⟨D2,d2,rfl,hown,hb1⟩
  have b0:=k0 w1 hb1
  have c1:=k1 w1 hb1
  have c2:=k2 w1 hb1
  have c3:=k3 w1 hb1
  have c4:=k4 w1 hb1
  have c5:=k5 w1 hb1
  have c6:=k6 w1 hb1
  have c7:=k7 w1 hb1
  have c8:=k8 w1 hb1
  have H1:Hid (Cand k l c0 t ps w w1 (.pointer none) (.slice D2 (edL ps fun _ => none).length d2)):=Lib.hid ⟨none,fun _ => none,[],D2,d2,rfl,rfl,hown,start_none HX.out.2.2.2.2.1,fun x e => (by cases e),by rw [ed_want];exact Nat.le_refl _,.inl fun x _ => rfl,hb1⟩
  clear hown HE0 k0 k1 k2 k3 k4 k5 k6 k7 k8 hb1
  go_wp2_with fail
  clear b0 c1 c2 c3 c4 c5 c6 c7 c8
  go_loopw [3,4,16] (fun u v i wr => ∃ j:Nat,j≤3∧i = .int .i64 (j:Int)∧Cand k l c0 t ps w wr u v) (fun _ _ i _ => 3 - (intOf i).toNat)
  case atStart => exact ⟨0,by omega,rfl,H1.out⟩
  case round =>
    clear H1
    obtain ⟨j,hj,rfl,n,was,K0,D3,d3,rfl,rfl,hown,hst,hnl,hle,hor,hbr⟩:=hrel
    have HR:=Lib.hid (And.intro hown (And.intro hst (And.intro hnl (And.intro hle (And.intro hor hbr)))))
    have hle9:(edL ps was).length≤65536:=by have:=HX.out.2.2.2.2.2.2.2.2;omega
    clear hown hst hnl hle hor hbr
    obtain ⟨el,hel⟩:∃ v,(edL ps was).length = v:=⟨_,rfl⟩
    obtain ⟨pn',hpn''⟩:∃ v,rootP n = v:=⟨_,rfl⟩
    rw [hel] at hle9
    rw [hel,hpn'']
    have HEL:=Lib.hid (And.intro hel hpn'')
    clear hel hpn''
    rcases (show j = 0∨j = 1∨j = 2∨j = 3 by omega) with rfl | rfl | rfl | rfl
    · have i0:∀ w:World,(Instr.index 190 (.agg #[.pointer po,.bool ko,.int .i64 (ao:Int),.pointer pa,.bool ka,.int .i64 (aa:Int),.pointer pb,.bool kb,.int .i64 (ab:Int)]) (.int .i64 0)).run Tryz.prog w = .ok (sdV po ko ao) w:=fun _ => by kernel_rfl
      simp only [show ((0:Nat):Int) = 0 from rfl] at *
      go_wp2_with fail
      obtain ⟨W1,hW1⟩:∃ W1,W1 = (wr.alloc (.cells #[.int .i64 0] 3)).alloc (.cells #[.pointer po,.bool ko,.int .i64 (ao:Int)] 189):=⟨_,rfl⟩
      have hb1:Below wr.heap.size wr W1:=by rw [hW1];exact Below.alloc (below_alloc _ _) (by simp) _
      have hg1:W1.cell? ⟨wr.heap.size,0,none⟩ = some (.int .i64 ((0:Nat):Int)):=by rw [hW1,cell_of_row _ _ _ _ _ (0,0) (heap_past _ (heap_at wr _ _ rfl))];rfl
      have hsz1:wr.heap.size < W1.heap.size:=by rw [hW1];simp;omega
      have hs1:W1.heap[wr.heap.size + 1]? = some (.cells #[.pointer po,.bool ko,.int .i64 (ao:Int)] 189 (0,0)):=by
        rw [hW1]
        have:=heap_at (wr.alloc (.cells #[.int .i64 0] 3)) (.cells #[.pointer po,.bool ko,.int .i64 (ao:Int)] 189) _ rfl
        simpa using this
      rw [← hW1]
      have hcall:=HEi.out 0 (by omega) W1 wr.heap.size (Below.andThen HR.out.2.2.2.2.2 hb1) hg1 hsz1
      have HC:=Lib.hid hcall
      have HB:=Lib.hid (And.intro hb1 hs1)
      clear hW1 hb1 hg1 hsz1 hs1 hcall i0
      refine HC.out.mono ?_
      clear HC
      rintro e w2 ⟨D4,d4,rfl,hown,hb2⟩
      have hs2:=keepz HB.out.2 hb2
      have z0:w2.cell? ⟨wr.heap.size + 1,0,none⟩ = some (.pointer po):=by rw [cell_of_row w2 _ _ _ _ (0,0) hs2];rfl
      have HD:=Lib.hid (And.intro hown (And.intro (Below.andThen HB.out.1 hb2) (Below.andThen HR.out.2.2.2.2.2 (Below.andThen HB.out.1 hb2))))
      have hsW:=Below.andThen HR.out.2.2.2.2.2 HB.out.1
      have HsW:=Lib.hid hsW.size
      clear hown hb2 hs2 hsW
      obtain ⟨m,hm⟩:∃ v,(edL ps fun x => Tri.at x.t 0).length = v:=⟨_,rfl⟩
      rw [hm]
      have HM:=Lib.hid hm
      clear hm
      obtain ⟨r,hr⟩:∃ r,decide (m < el) = r:=⟨_,rfl⟩
      have d1:decide ((m:Int) < (el:Int)) = r:=by rw [← hr];simp
      have HRr:=Lib.hid hr
      cases r with
      | true =>
        go_wp2_with fail
        go_roundw
        case rel =>
          have hlt:m < el:=of_decide_eq_true HRr.out
          have hst:=start_side HX.out.1 HX.out.2.1 HX.out.2.2.2.2.1 (i:=0) (by omega) (by rw [HM.out];have:=HR.out.2.2.2.1;rw [HEL.out.1] at this;omega)
          refine ⟨0 + 1,by omega,by first | rfl | go_num,Tri.at t 0,fun x => Tri.at x.t 0,_,D4,d4,?_,by rw [HM.out],OwnL.mono HD.out.1 HsW.out,hst,fun x e => Tr.Tri.mem.2 ?_,?_,.inr ⟨0,by omega,fun _ _ => rfl⟩,HD.out.2.2⟩
          · rw [← HP.out.1];rfl
          · exact Or.inl e
          · rw [HM.out]
            have:=HR.out.2.2.2.1
            rw [HEL.out.1] at this
            omega
        case measure =>
          show 3 - ((0:Int) + 1).toNat < 3 - (0:Int).toNat
          omega
      | false =>
        go_wp2_with fail
        go_roundw
        case rel =>
          exact ⟨0 + 1,by omega,by first | rfl | go_num,n,was,K0,D3,d3,by rw [HEL.out.2],by rw [HEL.out.1],OwnL.below HR.out.1 HD.out.2.1 (Nat.le_refl _),HR.out.2.1,HR.out.2.2.1,HR.out.2.2.2.1,HR.out.2.2.2.2.1,HD.out.2.2⟩
        case measure =>
          show 3 - ((0:Int) + 1).toNat < 3 - (0:Int).toNat
          omega
    · have i0:∀ w:World,(Instr.index 190 (.agg #[.pointer po,.bool ko,.int .i64 (ao:Int),.pointer pa,.bool ka,.int .i64 (aa:Int),.pointer pb,.bool kb,.int .i64 (ab:Int)]) (.int .i64 1)).run Tryz.prog w = .ok (sdV pa ka aa) w:=fun _ => by kernel_rfl
      simp only [show ((1:Nat):Int) = 1 from rfl] at *
      go_wp2_with fail
      obtain ⟨W1,hW1⟩:∃ W1,W1 = (wr.alloc (.cells #[.int .i64 1] 3)).alloc (.cells #[.pointer pa,.bool ka,.int .i64 (aa:Int)] 189):=⟨_,rfl⟩
      have hb1:Below wr.heap.size wr W1:=by rw [hW1];exact Below.alloc (below_alloc _ _) (by simp) _
      have hg1:W1.cell? ⟨wr.heap.size,0,none⟩ = some (.int .i64 ((1:Nat):Int)):=by rw [hW1,cell_of_row _ _ _ _ _ (0,0) (heap_past _ (heap_at wr _ _ rfl))];rfl
      have hsz1:wr.heap.size < W1.heap.size:=by rw [hW1];simp;omega
      have hs1:W1.heap[wr.heap.size + 1]? = some (.cells #[.pointer pa,.bool ka,.int .i64 (aa:Int)] 189 (0,0)):=by
        rw [hW1]
        have:=heap_at (wr.alloc (.cells #[.int .i64 1] 3)) (.cells #[.pointer pa,.bool ka,.int .i64 (aa:Int)] 189) _ rfl
        simpa using this
      rw [← hW1]
      have hcall:=HEi.out 1 (by omega) W1 wr.heap.size (Below.andThen HR.out.2.2.2.2.2 hb1) hg1 hsz1
      have HC:=Lib.hid hcall
      have HB:=Lib.hid (And.intro hb1 hs1)
      clear hW1 hb1 hg1 hsz1 hs1 hcall i0
      refine HC.out.mono ?_
      clear HC
      rintro e w2 ⟨D4,d4,rfl,hown,hb2⟩
      have hs2:=keepz HB.out.2 hb2
      have z0:w2.cell? ⟨wr.heap.size + 1,0,none⟩ = some (.pointer pa):=by rw [cell_of_row w2 _ _ _ _ (0,0) hs2];rfl
      have HD:=Lib.hid (And.intro hown (And.intro (Below.andThen HB.out.1 hb2) (Below.andThen HR.out.2.2.2.2.2 (Below.andThen HB.out.1 hb2))))
      have hsW:=Below.andThen HR.out.2.2.2.2.2 HB.out.1
      have HsW:=Lib.hid hsW.size
      clear hown hb2 hs2 hsW
      obtain ⟨m,hm⟩:∃ v,(edL ps fun x => Tri.at x.t 1).length = v:=⟨_,rfl⟩
      rw [hm]
      have HM:=Lib.hid hm
      clear hm
      obtain ⟨r,hr⟩:∃ r,decide (m < el) = r:=⟨_,rfl⟩
      have d1:decide ((m:Int) < (el:Int)) = r:=by rw [← hr];simp
      have HRr:=Lib.hid hr
      cases r with
      | true =>
        go_wp2_with fail
        go_roundw
        case rel =>
          have hlt:m < el:=of_decide_eq_true HRr.out
          have hst:=start_side HX.out.1 HX.out.2.1 HX.out.2.2.2.2.1 (i:=1) (by omega) (by rw [HM.out];have:=HR.out.2.2.2.1;rw [HEL.out.1] at this;omega)
          refine ⟨1 + 1,by omega,by first | rfl | go_num,Tri.at t 1,fun x => Tri.at x.t 1,_,D4,d4,?_,by rw [HM.out],OwnL.mono HD.out.1 HsW.out,hst,fun x e => Tr.Tri.mem.2 ?_,?_,.inr ⟨1,by omega,fun _ _ => rfl⟩,HD.out.2.2⟩
          · rw [← HP.out.2.1];rfl
          · exact (fun e => Or.inr (Or.inl e)) e
          · rw [HM.out]
            have:=HR.out.2.2.2.1
            rw [HEL.out.1] at this
            omega
        case measure =>
          show 3 - ((1:Int) + 1).toNat < 3 - (1:Int).toNat
          omega
      | false =>
        go_wp2_with fail
        go_roundw
        case rel =>
          exact ⟨1 + 1,by omega,by first | rfl | go_num,n,was,K0,D3,d3,by rw [HEL.out.2],by rw [HEL.out.1],OwnL.below HR.out.1 HD.out.2.1 (Nat.le_refl _),HR.out.2.1,HR.out.2.2.1,HR.out.2.2.2.1,HR.out.2.2.2.2.1,HD.out.2.2⟩
        case measure =>
          show 3 - ((1:Int) + 1).toNat < 3 - (1:Int).toNat
          omega
    · have i0:∀ w:World,(Instr.index 190 (.agg #[.pointer po,.bool ko,.int .i64 (ao:Int),.pointer pa,.bool ka,.int .i64 (aa:Int),.pointer pb,.bool kb,.int .i64 (ab:Int)]) (.int .i64 2)).run Tryz.prog w = .ok (sdV pb kb ab) w:=fun _ => by kernel_rfl
      simp only [show ((2:Nat):Int) = 2 from rfl] at *
      go_wp2_with fail
      obtain ⟨W1,hW1⟩:∃ W1,W1 = (wr.alloc (.cells #[.int .i64 2] 3)).alloc (.cells #[.pointer pb,.bool kb,.int .i64 (ab:Int)] 189):=⟨_,rfl⟩
      have hb1:Below wr.heap.size wr W1:=by rw [hW1];exact Below.alloc (below_alloc _ _) (by simp) _
      have hg1:W1.cell? ⟨wr.heap.size,0,none⟩ = some (.int .i64 ((2:Nat):Int)):=by rw [hW1,cell_of_row _ _ _ _ _ (0,0) (heap_past _ (heap_at wr _ _ rfl))];rfl
      have hsz1:wr.heap.size < W1.heap.size:=by rw [hW1];simp;omega
      have hs1:W1.heap[wr.heap.size + 1]? = some (.cells #[.pointer pb,.bool kb,.int .i64 (ab:Int)] 189 (0,0)):=by
        rw [hW1]
        have:=heap_at (wr.alloc (.cells #[.int .i64 2] 3)) (.cells #[.pointer pb,.bool kb,.int .i64 (ab:Int)] 189) _ rfl
        simpa using this
      rw [← hW1]
      have hcall:=HEi.out 2 (by omega) W1 wr.heap.size (Below.andThen HR.out.2.2.2.2.2 hb1) hg1 hsz1
      have HC:=Lib.hid hcall
      have HB:=Lib.hid (And.intro hb1 hs1)
      clear hW1 hb1 hg1 hsz1 hs1 hcall i0
      refine HC.out.mono ?_
      clear HC
      rintro e w2 ⟨D4,d4,rfl,hown,hb2⟩
      have hs2:=keepz HB.out.2 hb2
      have z0:w2.cell? ⟨wr.heap.size + 1,0,none⟩ = some (.pointer pb):=by rw [cell_of_row w2 _ _ _ _ (0,0) hs2];rfl
      have HD:=Lib.hid (And.intro hown (And.intro (Below.andThen HB.out.1 hb2) (Below.andThen HR.out.2.2.2.2.2 (Below.andThen HB.out.1 hb2))))
      have hsW:=Below.andThen HR.out.2.2.2.2.2 HB.out.1
      have HsW:=Lib.hid hsW.size
      clear hown hb2 hs2 hsW
      obtain ⟨m,hm⟩:∃ v,(edL ps fun x => Tri.at x.t 2).length = v:=⟨_,rfl⟩
      rw [hm]
      have HM:=Lib.hid hm
      clear hm
      obtain ⟨r,hr⟩:∃ r,decide (m < el) = r:=⟨_,rfl⟩
      have d1:decide ((m:Int) < (el:Int)) = r:=by rw [← hr];simp
      have HRr:=Lib.hid hr
      cases r with
      | true =>
        go_wp2_with fail
        go_roundw
        case rel =>
          have hlt:m < el:=of_decide_eq_true HRr.out
          have hst:=start_side HX.out.1 HX.out.2.1 HX.out.2.2.2.2.1 (i:=2) (by omega) (by rw [HM.out];have:=HR.out.2.2.2.1;rw [HEL.out.1] at this;omega)
          refine ⟨2 + 1,by omega,by first | rfl | go_num,Tri.at t 2,fun x => Tri.at x.t 2,_,D4,d4,?_,by rw [HM.out],OwnL.mono HD.out.1 HsW.out,hst,fun x e => Tr.Tri.mem.2 ?_,?_,.inr ⟨2,by omega,fun _ _ => rfl⟩,HD.out.2.2⟩
          · rw [← HP.out.2.2];rfl
          · exact (fun e => Or.inr (Or.inr e)) e
          · rw [HM.out]
            have:=HR.out.2.2.2.1
            rw [HEL.out.1] at this
            omega
        case measure =>
          show 3 - ((2:Int) + 1).toNat < 3 - (2:Int).toNat
          omega
      | false =>
        go_wp2_with fail
        go_roundw
        case rel =>
          exact ⟨2 + 1,by omega,by first | rfl | go_num,n,was,K0,D3,d3,by rw [HEL.out.2],by rw [HEL.out.1],OwnL.below HR.out.1 HD.out.2.1 (Nat.le_refl _),HR.out.2.1,HR.out.2.2.1,HR.out.2.2.2.1,HR.out.2.2.2.2.1,HD.out.2.2⟩
        case measure =>
          show 3 - ((2:Int) + 1).toNat < 3 - (2:Int).toNat
          omega
    · simp only [show ((3:Nat):Int) = 3 from rfl] at *
      have HUu:Hid (Tr.UniN l c0 K0 n):=Lib.hid HR.out.2.1.uni
      have HNn:Hid (NodeO wr wr.heap.size k n):=Lib.hid fun x e => ((HX.out.2.2.1.mem (HR.out.2.2.1 x e)).below HR.out.2.2.2.2.2 HX.out.2.2.2.1 (Nat.le_trans HX.out.2.2.2.1 HR.out.2.2.2.2.2.size))
      go_wp2_with fail
      generalize wr = wA at *
      obtain ⟨L,hL⟩:∃ L,edL ps was = L:=⟨_,rfl⟩
      rw [hL] at HEL
      have HLL:=Lib.hid hL
      clear hL
      go_loopw [3,34] (fun u i wr => ∃ (j:Nat) (n2:Option T),j≤el∧i = .int .i64 (j:Int)∧u = .pointer (rootP n2)∧Tr.UniN l c0 (appL K0 (L.take j)) n2∧NodeO wr wr.heap.size k n2∧Below wA.heap.size wA wr) (fun _ i _ => el - (intOf i).toNat)
      case atStart => exact ⟨0,n,Nat.zero_le _,rfl,by rw [HEL.out.2],HUu.out,HNn.out,Below.refl _ _⟩
      case round =>
        clear HUu HNn
        obtain ⟨j,n2,hj,rfl,rfl,hU,hN2,hbr⟩:=hrel
        by_cases hlt:j < el
        · obtain ⟨p,hp⟩:=get_lt (us:=L) (k:=j) (by rw [HEL.out.1];exact hlt)
          have hown0:=HR.out.1
          rw [HLL.out] at hown0
          obtain ⟨A,c,hvv,-,hlst⟩:=OwnL.rd plQ_ok (OwnL.below hown0 hbr (Nat.le_refl _))
          simp only [Value.slice.injEq] at hvv
          obtain ⟨rfl,-,-⟩:=hvv
          obtain ⟨b,off,rfl,hbl,hcell⟩:=hlst (by intro e;rw [e] at hp;simp at hp)
          obtain ⟨q0,q1,q2,q3,q4⟩:=hcell j p hp
          have hpL:p∈L:=List.mem_of_getElem? hp
          have hpp:p∈ps:=by rw [← HLL.out] at hpL;exact (List.mem_filter.1 hpL).1
          have hsplit:L = L.take j ++ p :: L.drop (j + 1):=by
            obtain ⟨hj1,he1⟩:=List.getElem?_eq_some_iff.1 hp
            rw [← he1,← List.drop_eq_getElem_cons hj1,List.take_append_drop]
          have hed:=HR.out.2.1.ok _ _ _ (HLL.out.trans hsplit)
          have hfitK:=fit_appL (L:=L.take j) HR.out.2.1.fit (fun x hx m hm => HX.out.2.2.2.2.2.2.1 x (by have:=List.mem_of_mem_take hx;rw [← HLL.out] at this;exact (List.mem_filter.1 this).1) m hm)
          have hlenK:(Tr.entsL (appL K0 (L.take j))).length + (Tr.entsO p.m).length≤1000000000000:=by
            have h1:=len_appL (L.take j) K0
            have h2:=HR.out.2.1.len
            have h3:=sumM_split hsplit
            have h4:sumM L≤sumM ps:=by rw [← HLL.out];exact sumM_filter _ _
            have h5:=HX.out.2.2.2.2.2.2.2.1
            omega
          have hsucc:appL K0 (L.take (j + 1)) = app1 (appL K0 (L.take j)) p:=by rw [List.take_add_one,hp];exact appL_snoc _ _ _
          obtain ⟨K1,hK1⟩:∃ K1,appL K0 (L.take j) = K1:=⟨_,rfl⟩
          rw [hK1] at hU hed hfitK hlenK hsucc
          have hszr:=hbr.size
          have hszA:=HR.out.2.2.2.2.2.size
          have hpm:NodeO wr wr.heap.size k p.m:=(HX.out.2.2.2.2.2.1 p hpp).below (Below.andThen HR.out.2.2.2.2.2 hbr) (Nat.le_refl _) (by omega)
          have hpf:=HX.out.2.2.2.2.2.2.1 p hpp
          replace q0:wr.cell? ⟨b,off + j * 5,none⟩ = some (.int .i64 (p.a:Int)):=q0
          replace q1:wr.cell? ⟨b,off + j * 5 + 1,none⟩ = some (.pointer (rootP p.t.o)):=q1
          replace q2:wr.cell? ⟨b,off + j * 5 + 2,none⟩ = some (.pointer (rootP p.t.a)):=q2
          replace q3:wr.cell? ⟨b,off + j * 5 + 3,none⟩ = some (.pointer (rootP p.t.b)):=q3
          replace q4:wr.cell? ⟨b,off + j * 5 + 4,none⟩ = some (.pointer (rootP p.m)):=q4
          obtain ⟨xa,hxa⟩:∃ v,p.a = v:=⟨_,rfl⟩
          obtain ⟨xo,hxo⟩:∃ v,rootP p.t.o = v:=⟨_,rfl⟩
          obtain ⟨xA,hxA⟩:∃ v,rootP p.t.a = v:=⟨_,rfl⟩
          obtain ⟨xb,hxb⟩:∃ v,rootP p.t.b = v:=⟨_,rfl⟩
          rw [hxa] at q0
          rw [hxo] at q1
          rw [hxA] at q2
          rw [hxb] at q3
          have m1:(0:Int)≤(j:Int):=by omega
          have m2:(j:Int) < (el:Int):=by omega
          have m3:(j:Int)≤65536:=by omega
          have f1:decide ((j:Int) < (el:Int)) = true:=decide_eq_true (by omega)
          have f1':decide (j < el) = true:=decide_eq_true hlt
          have hpn0:=nptr_none
          have hpn2:=nptr_no2
          cases hm:p.m with
          | none =>
            rw [hm] at q4
            replace q4:wr.cell? ⟨b,off + j * 5 + 4,none⟩ = some (.pointer none):=q4
            unfold EdOk at hed
            rw [hm] at hed
            obtain ⟨he1,he2⟩:=hed
            rw [hxa] at he1 he2
            obtain ⟨v1,hv1⟩:∃ v,Sl.get K1 (xa:Int) = some v:=Option.isSome_iff_exists.1 he1
            have hld:=Sl.length_del hfitK.1 hv1
            have hbrK:∃ g,n2 = some (.br g l c0 K1):=by
              rcases hU with ⟨e,-⟩ | ⟨x,e,-⟩ | ⟨-,g,e⟩
              · rw [e] at hv1;cases hv1
              · have hl1:K1.length = 1:=by rw [e];rfl
                omega
              · exact ⟨g,e⟩
            obtain ⟨g,rfl⟩:=hbrK
            have hnb:=hN2 _ rfl
            have hak:xa < 2 ^ k:=by
              have hw:Sl.Wf k K1:=by cases hnb.1 with | br _ _ _ _ _ hw => exact hw
              exact hw.lt _ ((Sl.get_iff hfitK.1).1 hv1)
            have HWo:Hid (∀ w1,Below wr.heap.size wr w1→Calls Tryz.prog 88 #[.pointer (some ⟨g,0,none⟩),.int .i64 (xa:Int)] w1 fun e w' => ∃ g',e = .returned (.tuple #[.pointer (some ⟨g',0,none⟩),.int .i64 0])∧Node w' w'.heap.size k (.br g' l c0 (Sl.del xa K1))∧w1.heap.size≤g'∧Below w1.heap.size w1 w'):=Lib.hid fun w1 hb =>
              nWithout_two (hnb.below hb (Nat.le_refl _) (Nat.le_refl _)) hb.size xa hak he1 he2 (by omega)
            have hap:app1 K1 p = Sl.del xa K1:=by unfold app1;rw [hm,hxa]
            have HE:=Lib.hid (And.intro hlt (And.intro hbr (And.intro hsucc (And.intro hap he2))))
            have hroot:rootP (some (T.br g l c0 K1)) = some ⟨g,0,none⟩:=rfl
            rw [hroot]
            clear hown0 hcell hlst hpL hpp hsplit hfitK hlenK hsucc hK1 hpm hpf hxa hxo hxA hxb hU hN2 hnb hbr hlt hj he1 he2 hv1 hld hak hap hp hm hroot hszr hszA
            go_wp2_with fail
            refine (HWo.out _ (by exact below_alloc wr _)).mono ?_
            rintro e w2 ⟨g',rfl,hn3,-,hb2⟩
            have HF:=Lib.hid (And.intro hn3 (Below.andThen (below_alloc wr _) hb2))
            clear hn3 hb2
            go_wp2_with fail
            go_roundw
            case rel =>
              refine ⟨j + 1,some (.br g' l c0 (Sl.del xa K1)),by have:=HE.out.1;omega,by first | rfl | go_num,rfl,?_,NodeO.some HF.out.1,Below.andThen HE.out.2.1 HF.out.2⟩
              rw [HE.out.2.2.1,HE.out.2.2.2.1]
              exact .inr (.inr ⟨HE.out.2.2.2.2,g',rfl⟩)
            case measure =>
              have:=HE.out.1
              show el - ((j:Int) + 1).toNat < el - (j:Int).toNat
              omega
          | some m =>
            rw [hm] at q4
            replace q4:wr.cell? ⟨b,off + j * 5 + 4,none⟩ = some (.pointer (some ⟨m.blk,0,none⟩)):=q4
            unfold EdOk at hed
            rw [hm] at hed
            have hed:K1 = []∨(∃ x,K1 = [x]∧x.1≠xa)∨2≤K1.length:=by rw [← hxa];exact hed
            have hfm:=hpf m hm
            rw [hxa] at hfm
            have hmn:Node wr wr.heap.size k m:=hpm m hm
            have HWi:Hid (∀ w1,Below wr.heap.size wr w1→Calls Tryz.prog 118 #[.pointer (rootP n2),.pointer (some ⟨m.blk,0,none⟩)] w1 fun e w' => ∃ n',e = .returned (.pointer (rootP n'))∧Tr.UniN l c0 (Sl.put xa m K1) n'∧NodeO w' w'.heap.size k n'∧Below w1.heap.size w1 w'):=Lib.hid fun w1 hb =>
              mWith_c hU hfitK (hN2.below hb (Nat.le_refl _) (Nat.le_refl _)) (hmn.below hb (Nat.le_refl _) (Nat.le_refl _)) hfm.2 hed hb.size (by rw [hm] at hlenK;have h9:(Tr.entsO (some m)).length = m.ents.length:=rfl;omega)
            have hap:app1 K1 p = Sl.put xa m K1:=by unfold app1;rw [hm,hxa]
            have HE:=Lib.hid (And.intro hlt (And.intro hbr (And.intro hsucc hap)))
            obtain ⟨pr,hpr⟩:∃ v,rootP n2 = v:=⟨_,rfl⟩
            rw [hpr] at HWi
            rw [hpr]
            obtain ⟨mb,hmb⟩:∃ v,m.blk = v:=⟨_,rfl⟩
            rw [hmb] at HWi q4
            clear hown0 hcell hlst hpL hpp hsplit hed hfitK hlenK hsucc hK1 hpm hpf hxa hxo hxA hxb hU hN2 hbr hlt hj hap hp hm hszr hszA hfm hmn hpr hmb
            go_wp2_with fail
            refine (HWi.out _ (by exact below_alloc wr _)).mono ?_
            rintro e w2 ⟨n',rfl,hu3,hn3,hb2⟩
            have HF:=Lib.hid (And.intro hu3 (And.intro hn3 (Below.andThen (below_alloc wr _) hb2)))
            clear hu3 hn3 hb2
            go_wp2_with fail
            go_roundw
            case rel =>
              refine ⟨j + 1,n',by have:=HE.out.1;omega,by first | rfl | go_num,rfl,?_,HF.out.2.1,Below.andThen HE.out.2.1 HF.out.2.2⟩
              rw [HE.out.2.2.1,HE.out.2.2.2]
              exact HF.out.1
            case measure =>
              have:=HE.out.1
              show el - ((j:Int) + 1).toNat < el - (j:Int).toNat
              omega
        · have hje:j = el:=by omega
          subst hje
          have f1:decide ((j:Int) < (j:Int)) = false:=decide_eq_false (by omega)
          have f1':decide (j < j) = false:=decide_eq_false (by omega)
          have htk:L.take j = L:=by rw [← HEL.out.1];exact List.take_length
          rw [htk] at hU
          have HF:=Lib.hid (And.intro hU (And.intro hN2 hbr))
          clear hU hN2 hbr htk hlt hj
          go_wp2_with fail
          go_ret
          refine ⟨n2,rfl,HF.out.2.1,fun e => ?_,Below.andThen HR.out.2.2.2.2.2 HF.out.2.2⟩
          rw [HF.out.1.ents,← HLL.out]
          refine mem_out (ps_facts HX.out.2.2.2.2.1).1 HR.out.2.1.fit.1 HR.out.2.1.get HR.out.2.1.key (fun x hx heq => ?_) e
          have hdec:=of_decide_eq_true heq
          refine nodeO_same (w:=w) (B:=w.heap.size) (B':=w.heap.size) (k:=k) ?_ (HX.out.2.2.2.2.2.1 x hx) hdec
          rcases HR.out.2.2.2.2.1 with e1 | ⟨i,hi,e1⟩
          · rw [e1 x hx];exact NodeO.none _ _ _
          · rw [e1 x hx];exact HT.out i hi x hx
end Go.Proofs.YtmkejbfgdmbejaaGreatDoor
