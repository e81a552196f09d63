import Derived.Test.YtkeepngaaleakaaGreatDoorMXd
namespace Go.Proofs.YtkeepngaaleakaaGreatDoor
open Go.ChangeShapes Go.WideShapes Go.ChangeAt Go.RowKit
open Tr (T S4 Ent Tri KL)
def cst1 (was:Pl→Option T) (x:Pl):Nat:=match was x with
  | none => 1
  | some _ => 3
def cstL (was:Pl→Option T) (L:List Pl):Nat:=(L.map (cst1 was)).sum
theorem cst1_bd (was:Pl→Option T) (x:Pl):1≤cst1 was x∧cst1 was x≤3:=by
  unfold cst1
  split <;> omega
theorem cstL_bd (was:Pl→Option T):∀ (L:List Pl),L.length≤cstL was L∧cstL was L≤3 * L.length
  | [] => by simp [cstL]
  | x :: L => by
    have h1:=cstL_bd was L
    have h2:=cst1_bd was x
    simp only [cstL,List.map_cons,List.sum_cons,List.length_cons] at h1 ⊢
    omega
theorem cstL_none:∀ (L:List Pl),cstL (fun _ => none) L = L.length
  | [] => rfl
  | x :: L => by
    have h1:=cstL_none L
    simp only [cstL,List.map_cons,List.sum_cons,List.length_cons,cst1] at h1 ⊢
    omega
theorem cstL_take (was:Pl→Option T) {L:List Pl} {j:Nat} {x:Pl} (h:L[j]? = some x):cstL was (L.take (j + 1)) = cstL was (L.take j) + cst1 was x:=by
  rw [List.take_add_one,h]
  simp [cstL]
set_option maxRecDepth 100000 in
set_option maxHeartbeats 4000000 in
theorem sCost_c {w:World} {base m d:Nat} {D fr:Option Addr} {was:Pl→Option T} {L:List Pl} (hv:EdRow was w base (.slice D m d) L) (hm:L.length = m) (hl:m≤65536) :
    Calls Tryz.prog 230 #[.agg #[.pointer fr,.slice D m d]] w fun e w' => e = .returned (.int .i64 (cstL was L:Int))∧Below w.heap.size w w':=by
  have hb0:=below_alloc w (.cells #[.pointer fr,.slice D m d] 294)
  have hel:∀ j,j < m→∃ x,L[j]? = some x∧∃ g,D = some ⟨g,0,none⟩∧∀ w2,Below w.heap.size w w2→w2.cell? ⟨g,j * 3,none⟩ = some (.int .i64 (x.a:Int))∧w2.cell? ⟨g,j * 3 + 1,none⟩ = some (.pointer (rootP (was x)))∧w2.cell? ⟨g,j * 3 + 2,none⟩ = some (.pointer (rootP x.m)):=fun j hj => by
    obtain ⟨x,hx⟩:=get_lt (us:=L) (k:=j) (by omega)
    obtain ⟨g,d',cur,hvv,-,hgl,hh,p0,p1,p2⟩:=RowZ.at (edQ_ok was) hv hx
    simp only [Value.slice.injEq] at hvv
    refine ⟨x,hx,g,hvv.1,fun w2 hb => ?_⟩
    have h2:=(hb.block g hgl).trans hh
    exact ⟨by rw [cell_of_row w2 _ _ _ _ (0,0) h2];exact p0,by rw [cell_of_row w2 _ _ _ _ (0,0) h2];exact p1,by rw [cell_of_row w2 _ _ _ _ (0,0) h2];exact p2⟩
  have HX:=Lib.hid (And.intro hel (And.intro hm hl))
  have hl9:(m:Int)≤65536:=by omega
  have HB0:=Lib.hid hb0
  clear hv hel hm hl hb0
  go_enter Tryz.func230,Tryz.ntmps230
  go_wp2_with fail
  go_loopw [3,9] (fun u i wr => ∃ j c:Nat,j≤m∧i = .int .i64 (j:Int)∧u = .int .i64 (c:Int)∧c = cstL was (L.take j)∧Below w.heap.size w wr) (fun _ i _ => m - (intOf i).toNat)
  case atStart => exact ⟨0,0,Nat.zero_le _,rfl,rfl,rfl,HB0.out⟩
  case round =>
    obtain ⟨j,c,hj,rfl,rfl,hc,hbr⟩:=hrel
    have hc9:c≤196608:=by
      have h1:=(cstL_bd was (L.take j)).2
      have h2:=List.length_take_le j L
      have:=HX.out.2.2
      omega
    by_cases hlt:j < m
    · obtain ⟨x,hx,g,rfl,hcells⟩:=HX.out.1 j hlt
      obtain ⟨z0,z1,z2⟩:=hcells wr hbr
      have hct:=cstL_take was hx
      have hx1:cst1 was x = match was x with | none => 1 | some _ => 3:=rfl
      obtain ⟨xw,hxw⟩:∃ v,was x = v:=⟨_,rfl⟩
      obtain ⟨xm,hxm⟩:∃ v,rootP x.m = v:=⟨_,rfl⟩
      obtain ⟨xa,hxa⟩:∃ v,x.a = v:=⟨_,rfl⟩
      rw [hxw] at z1 hx1
      rw [hxm] at z2
      rw [hxa] at z0
      rw [← hc] at hct
      have m1:(0:Int)≤(j:Int):=by omega
      have m2:(j:Int) < (m:Int):=by omega
      have m3:(j:Int)≤65536:=by omega
      have m4:(c:Int)≤196608:=by omega
      have m5:(0:Int)≤(c:Int):=by omega
      have f1:decide ((j:Int) < (m:Int)) = true:=decide_eq_true (by omega)
      have f1':decide (j < m) = true:=decide_eq_true hlt
      have hn1:=nptr_nn
      have hn2:=nptr_ns
      have HE:=Lib.hid (And.intro hct (And.intro hx1 (And.intro hlt hbr)))
      clear hct hx1 hx hxw hxm hxa hc hbr hj hcells hc9
      cases xw with
      | none =>
        simp only [rootP] at z1
        go_wp2_with fail
        go_roundw
        case rel => exact ⟨j + 1,c + 1,HE.out.2.2.1,by first | rfl | go_num,by first | rfl | go_num,by rw [HE.out.1,HE.out.2.1],Below.andThen HE.out.2.2.2 (below_alloc _ _)⟩
        case measure =>
          have:=HE.out.2.2.1
          show m - ((j:Int) + 1).toNat < m - (j:Int).toNat
          omega
      | some y =>
        simp only [rootP] at z1
        go_wp2_with fail
        go_roundw
        case rel => exact ⟨j + 1,c + 3,HE.out.2.2.1,by first | rfl | go_num,by first | rfl | go_num,by rw [HE.out.1,HE.out.2.1],Below.andThen HE.out.2.2.2 (below_alloc _ _)⟩
        case measure =>
          have:=HE.out.2.2.1
          show m - ((j:Int) + 1).toNat < m - (j:Int).toNat
          omega
    · have hjp:j = m:=by omega
      subst hjp
      have f1:decide ((j:Int) < (j:Int)) = false:=decide_eq_false (by omega)
      have f1':decide (j < j) = false:=decide_eq_false (by omega)
      have htk:L.take j = L:=by rw [← HX.out.2.1];exact List.take_length
      rw [htk] at hc
      have HF:=Lib.hid (And.intro hc hbr)
      clear hc hbr htk hlt hj hc9
      go_wp2_with fail
      go_ret
      exact ⟨by rw [← HF.out.1];rfl,HF.out.2⟩
set_option maxRecDepth 1000000 in
set_option maxHeartbeats 2000000 in
theorem sWith_c {w:World} {B k l a:Nat} {c0:List Nat} {K:Tr.KL} {n:Option T} {m:T} (hU:Tr.UniN l c0 K n) (hF:Tr.FitL k l c0 K) (hn:NodeO w B k n) (hm:Node w B k m) (hfm:m.lv≤l∧Z.cut m.pre (l + 1) = c0∧Z.addr m.pre l = a) (hor:K = []∨(∃ x,K = [x]∧x.1≠a)∨2≤K.length) (hB:B≤w.heap.size) (hc:(Tr.entsL K).length + m.ents.length < 18446744073709551616) :
    Calls Tryz.prog 261 #[.pointer (rootP n),.pointer (some ⟨m.blk,0,none⟩)] w fun e w' => ∃ n',e = .returned (.pointer (rootP n'))∧Tr.UniN l c0 (Sl.put a m K) n'∧NodeO w' w'.heap.size k n'∧Below w.heap.size w w':=by
  have hlen:=hm.1.len
  have hk1:=hm.1.k1
  have hk16:=hm.1.k16
  have HPr:=Lib.hid (prefix_at hm hB (Below.refl w.heap.size w))
  rw [hlen] at HPr
  have hpn:=nptr_none
  have hn2:=nptr_no2
  rcases hU with ⟨rfl,rfl⟩ | ⟨x,rfl,rfl⟩ | ⟨h2,g,rfl⟩
  · have HH:=Lib.hid (hm.below (Below.refl w.heap.size w) hB hB)
    clear hF hn hm hor hB hc HPr
    simp only [rootP]
    go_enter Tryz.func261,Tryz.ntmps261
    go_wp2_with fail
    go_ret
    exact ⟨some m,rfl,.inr (.inl ⟨(a,m),rfl,rfl⟩),NodeO.some HH.out,Below.refl _ _⟩
  · have hnx:=hn x.2 rfl
    obtain ⟨wx,lx,cx,ax⟩:=hF.2 x List.mem_cons_self
    have hxa:x.1≠a:=by
      rcases hor with e | ⟨y,e,hy⟩ | e
      · cases e
      · cases e;exact hy
      · simp at e
    have hpart:Z.part x.2.pre m.pre = (l:Int):=by
      refine Z.part_eq (by rw [wx.len,hlen]) wx.ok hm.1.ok l (by rw [ax,hfm.2.2];exact hxa) fun i hi _ => ?_
      have p1:=Z.cut_addr x.2.pre (l + 1) i
      have p2:=Z.cut_addr m.pre (l + 1) i
      rw [if_pos (by omega)] at p1 p2
      rw [← p1,← p2,cx,hfm.2.1]
    obtain ⟨kp,hnd⟩:=hnx.2.nd
    have HC:Hid (∀ (w1:World) (A:Option Addr) (d:Nat),Below w.heap.size w w1→Pts w1 w1.heap.size A m.pre→Calls Tryz.prog 174 #[.pointer (some ⟨x.2.blk,0,none⟩),.slice A k d] w1 fun e w' => e = .returned (.bool false)∧w1 = w'):=Lib.hid fun w1 A d hb hp => by
      have hh:=nCovers_c (hnd.below hb hB (Nat.le_trans hB hb.size)) (by rw [wx.len];omega) (by rw [wx.len];omega) A m.pre d hp (by rw [wx.len,hlen]) false (by rw [hpart];exact decide_eq_false (by unfold levI;omega))
      rw [hlen] at hh
      exact hh
    have HP:Hid (∀ w1,Below w.heap.size w w1→Calls Tryz.prog 102 #[.pointer (some ⟨x.2.blk,0,none⟩),.pointer (some ⟨m.blk,0,none⟩)] w1 fun e w' => ∃ g',e = .returned (.tuple #[.pointer (some ⟨g',0,none⟩),.int .i64 0])∧Node w' w'.heap.size k (.br g' l c0 (Sl.put a m [x]))∧w1.heap.size≤g'∧Below w1.heap.size w1 w'):=Lib.hid fun w1 hb => by
      have hh:=nPair_c (hnx.below hb hB (Nat.le_refl _)) (hm.below hb hB (Nat.le_refl _)) (Nat.le_trans hB hb.size) hpart lx hfm.1 (by simpa [Tr.entsL] using hc)
      rw [cx,ax,hfm.2.2,show Sl.put x.1 x.2 ([]:Tr.KL) = [x] from rfl] at hh
      exact hh
    clear hF hn hm hor hB hc hnx hnd hpart wx lx cx ax
    simp only [rootP]
    go_enter Tryz.func261,Tryz.ntmps261
    go_wp2_with fail
    refine HPr.out.mono ?_
    rintro e w1 ⟨h1,d1,rfl,hp1,hb1⟩
    go_wp2_with fail
    refine (HC.out _ _ _ hb1 hp1).mono ?_
    rintro e w' ⟨rfl,rfl⟩
    go_wp2_with fail
    refine (HP.out _ hb1).mono ?_
    rintro e w2 ⟨g',rfl,hn2',-,hb2⟩
    have HF:=Lib.hid (And.intro hn2' (Below.andThen hb1 hb2))
    clear hn2' hb1 hb2
    go_wp2_with fail
    go_ret
    refine ⟨some (.br g' l c0 (Sl.put a m [x])),rfl,.inr (.inr ⟨?_,g',rfl⟩),NodeO.some HF.out.1,HF.out.2⟩
    cases HF.out.1.1 with
    | br _ _ _ _ _ _ h2 => exact h2
  · have hnb:=hn _ rfl
    have hcut:Z.cut c0 (l + 1) = c0:=hnb.1.cut_pre
    have hl0:c0.length = k:=hnb.1.len
    have hok0:Z.Ok c0:=hnb.1.ok
    have hpart:Z.part c0 m.pre≤(l:Int):=by
      have:=(Z.cut_eq_iff (by rw [hl0,hlen]) hok0 hm.1.ok (l + 1)).1 (by rw [hcut,hfm.2.1])
      omega
    obtain ⟨kp,hnd⟩:=hnb.2.nd
    have hlv:levI (T.br g l c0 K) = (l:Int):=levI_br g l c0 K
    have HC:Hid (∀ (w1:World) (A:Option Addr) (d:Nat),Below w.heap.size w w1→Pts w1 w1.heap.size A m.pre→Calls Tryz.prog 174 #[.pointer (some ⟨g,0,none⟩),.slice A k d] w1 fun e w' => e = .returned (.bool true)∧w1 = w'):=Lib.hid fun w1 A d hb hp => by
      have hh:=nCovers_c (hnd.below hb hB (Nat.le_trans hB hb.size)) (by show 1≤c0.length;omega) (by show c0.length≤16;omega) A m.pre d hp (by show c0.length = _;rw [hl0,hlen]) true (by rw [hlv];exact decide_eq_true hpart)
      rw [hlen] at hh
      exact hh
    have HP:Hid (∀ w1,Below w.heap.size w w1→Calls Tryz.prog 114 #[.pointer (some ⟨g,0,none⟩),.pointer (some ⟨m.blk,0,none⟩)] w1 fun e w' => ∃ g',e = .returned (.tuple #[.pointer (some ⟨g',0,none⟩),.int .i64 0])∧Node w' w'.heap.size k (.br g' l c0 (Sl.put a m K))∧w1.heap.size≤g'∧Below w1.heap.size w1 w'):=Lib.hid fun w1 hb => by
      have hh:=nWith_c (hnb.below hb hB (Nat.le_refl _)) (hm.below hb hB (Nat.le_refl _)) (Nat.le_trans hB hb.size) hpart hfm.1 hc
      rw [hfm.2.2] at hh
      exact hh
    have hroot:rootP (some (T.br g l c0 K)) = some ⟨g,0,none⟩:=rfl
    rw [hroot]
    clear hF hn hm hor hB hc hnb hnd hpart hcut hl0 hok0 hroot hlv
    go_enter Tryz.func261,Tryz.ntmps261
    go_wp2_with fail
    refine HPr.out.mono ?_
    rintro e w1 ⟨h1,d1,rfl,hp1,hb1⟩
    go_wp2_with fail
    refine (HC.out _ _ _ hb1 hp1).mono ?_
    rintro e w' ⟨rfl,rfl⟩
    go_wp2_with fail
    refine (HP.out _ hb1).mono ?_
    rintro e w2 ⟨g',rfl,hn2',-,hb2⟩
    have HF:=Lib.hid (And.intro hn2' (Below.andThen hb1 hb2))
    clear hn2' hb1 hb2
    go_wp2_with fail
    go_ret
    refine ⟨some (.br g' l c0 (Sl.put a m K)),rfl,.inr (.inr ⟨?_,g',rfl⟩),NodeO.some HF.out.1,HF.out.2⟩
    cases HF.out.1.1 with
    | br _ _ _ _ _ _ h2 => exact h2
set_option maxRecDepth 1000000 in
set_option maxHeartbeats 8000000 in
theorem sNode_c {w:World} {k l base el d:Nat} {c0:List Nat} {D:Option Addr} {t:Tri} {ps:List Pl} {n:Option T} {was:Pl→Option T} {K0:KL} (hst:Start k l c0 t ps n was K0) (hn:NodeO w w.heap.size k n) (hv:EdRow was w base (.slice D el d) (edL ps was)) (hel:(edL ps was).length = el) (hl:el≤65536)
    (hps:ps.map (fun x => (x.a,x.t)) = t.rem l 0) (hm:∀ x∈ps,NodeO w w.heap.size k x.m) (hw:∀ x∈ps,NodeO w w.heap.size k (was x)) (hfit:∀ x∈ps,∀ m,x.m = some m→Tr.Wf k m∧m.lv≤l∧Z.cut m.pre (l + 1) = c0∧Z.addr m.pre l = x.a)
    (hsum:(Tr.entsO t.o).length + (Tr.entsO t.a).length + (Tr.entsO t.b).length + sumM ps≤1000000000000) :
    Calls Tryz.prog 231 #[.agg #[.pointer (rootP n),.slice D el d]] w fun e w' => ∃ R,e = .returned (.pointer (rootP R))∧NodeO w' w'.heap.size k R∧(∀ e,e∈Tr.entsO R↔∃ x∈ps,e∈Tr.entsO x.m)∧Below w.heap.size w w':=by
  have hb0:=below_alloc w (.cells #[.pointer (rootP n),.slice D el d] 294)
  obtain ⟨L,hL⟩:∃ L,edL ps was = L:=⟨_,rfl⟩
  have hrd:∀ j,j < el→∃ x,L[j]? = some x∧∃ g,D = some ⟨g,0,none⟩∧∀ w2,Below w.heap.size w w2→w2.cell? ⟨g,j * 3,none⟩ = some (.int .i64 (x.a:Int))∧w2.cell? ⟨g,j * 3 + 1,none⟩ = some (.pointer (rootP (was x)))∧w2.cell? ⟨g,j * 3 + 2,none⟩ = some (.pointer (rootP x.m)):=fun j hj => by
    rw [hL] at hv hel
    obtain ⟨x,hx⟩:=get_lt (us:=L) (k:=j) (by omega)
    obtain ⟨g,d',cur,hvv,-,hgl,hh,p0,p1,p2⟩:=RowZ.at (edQ_ok was) hv hx
    simp only [Value.slice.injEq] at hvv
    refine ⟨x,hx,g,hvv.1,fun w2 hb => ?_⟩
    have h2:=(hb.block g hgl).trans hh
    exact ⟨by rw [cell_of_row w2 _ _ _ _ (0,0) h2];exact p0,by rw [cell_of_row w2 _ _ _ _ (0,0) h2];exact p1,by rw [cell_of_row w2 _ _ _ _ (0,0) h2];exact p2⟩
  have HX:=Lib.hid (And.intro hps (And.intro hm (And.intro hfit (And.intro hsum (And.intro hst (And.intro hw (And.intro hrd hel)))))))
  have HLL:=Lib.hid hL
  have HN:=Lib.hid (And.intro hn hb0)
  have hl9:(el:Int)≤65536:=by omega
  clear hst hn hv hel hl hps hm hw hfit hsum hb0 hL hrd
  go_enter Tryz.func231,Tryz.ntmps231
  go_wp2_with fail
  go_loopw [3,11] (fun u i wr => ∃ (j:Nat) (n2:Option T),j≤el∧i = .int .i64 (j:Int)∧u = .pointer (rootP n2)∧Tr.UniN l c0 (appL K0 (L.take j)) n2∧NodeO wr wr.heap.size k n2∧Below w.heap.size w wr) (fun _ i _ => el - (intOf i).toNat)
  case atStart => exact ⟨0,n,Nat.zero_le _,rfl,rfl,HX.out.2.2.2.2.1.uni,HN.out.1.below HN.out.2 (Nat.le_refl _) HN.out.2.size,HN.out.2⟩
  case round =>
    obtain ⟨j,n2,hj,rfl,rfl,hU,hN2,hbr⟩:=hrel
    by_cases hlt:j < el
    · obtain ⟨p,hp,b,rfl,hcells⟩:=HX.out.2.2.2.2.2.2.1 j hlt
      obtain ⟨q0,q1,q4⟩:=hcells wr hbr
      have hpL:p∈L:=List.mem_of_getElem? hp
      have hpp:p∈ps:=by rw [← HLL.out] at hpL;exact (List.mem_filter.1 hpL).1
      have hsplit:L = L.take j ++ p :: L.drop (j + 1):=by
        obtain ⟨hj1,he1⟩:=List.getElem?_eq_some_iff.1 hp
        rw [← he1,← List.drop_eq_getElem_cons hj1,List.take_append_drop]
      have hed:=HX.out.2.2.2.2.1.ok _ _ _ (HLL.out.trans hsplit)
      have hfitK:=fit_appL (L:=L.take j) HX.out.2.2.2.2.1.fit (fun x hx m hm => HX.out.2.2.1 x (by have:=List.mem_of_mem_take hx;rw [← HLL.out] at this;exact (List.mem_filter.1 this).1) m hm)
      have hlenK:(Tr.entsL (appL K0 (L.take j))).length + (Tr.entsO p.m).length≤1000000000000:=by
        have h1:=len_appL (L.take j) K0
        have h2:=HX.out.2.2.2.2.1.len
        have h3:=sumM_split hsplit
        have h4:sumM L≤sumM ps:=by rw [← HLL.out];exact sumM_filter _ _
        have h5:=HX.out.2.2.2.1
        omega
      have hsucc:appL K0 (L.take (j + 1)) = app1 (appL K0 (L.take j)) p:=by rw [List.take_add_one,hp];exact appL_snoc _ _ _
      obtain ⟨K1,hK1⟩:∃ K1,appL K0 (L.take j) = K1:=⟨_,rfl⟩
      rw [hK1] at hU hed hfitK hlenK hsucc
      have hszr:=hbr.size
      have hpm:NodeO wr wr.heap.size k p.m:=(HX.out.2.1 p hpp).below hbr (Nat.le_refl _) hszr
      have hpf:=HX.out.2.2.1 p hpp
      obtain ⟨xa,hxa⟩:∃ v,p.a = v:=⟨_,rfl⟩
      obtain ⟨xo,hxo⟩:∃ v,rootP (was p) = v:=⟨_,rfl⟩
      rw [hxa] at q0
      rw [hxo] at q1
      have m1:(0:Int)≤(j:Int):=by omega
      have m2:(j:Int) < (el:Int):=by omega
      have m3:(j:Int)≤65536:=by omega
      have f1:decide ((j:Int) < (el:Int)) = true:=decide_eq_true (by omega)
      have f1':decide (j < el) = true:=decide_eq_true hlt
      have hpn0:=nptr_none
      have hpn2:=nptr_no2
      cases hm:p.m with
      | none =>
        rw [hm] at q4
        replace q4:wr.cell? ⟨b,j * 3 + 2,none⟩ = some (.pointer none):=q4
        unfold EdOk at hed
        rw [hm] at hed
        obtain ⟨he1,he2⟩:=hed
        rw [hxa] at he1 he2
        obtain ⟨v1,hv1⟩:∃ v,Sl.get K1 (xa:Int) = some v:=Option.isSome_iff_exists.1 he1
        have hld:=Sl.length_del hfitK.1 hv1
        have hbrK:∃ g,n2 = some (.br g l c0 K1):=by
          rcases hU with ⟨e,-⟩ | ⟨x,e,-⟩ | ⟨-,g,e⟩
          · rw [e] at hv1;cases hv1
          · have hl1:K1.length = 1:=by rw [e];rfl
            omega
          · exact ⟨g,e⟩
        obtain ⟨g,rfl⟩:=hbrK
        have hnb:=hN2 _ rfl
        have hak:xa < 2 ^ k:=by
          have hw:Sl.Wf k K1:=by cases hnb.1 with | br _ _ _ _ _ hw => exact hw
          exact hw.lt _ ((Sl.get_iff hfitK.1).1 hv1)
        have HWo:Hid (∀ w1,Below wr.heap.size wr w1→Calls Tryz.prog 113 #[.pointer (some ⟨g,0,none⟩),.int .i64 (xa:Int)] w1 fun e w' => ∃ g',e = .returned (.tuple #[.pointer (some ⟨g',0,none⟩),.int .i64 0])∧Node w' w'.heap.size k (.br g' l c0 (Sl.del xa K1))∧w1.heap.size≤g'∧Below w1.heap.size w1 w'):=Lib.hid fun w1 hb =>
          nWithout_two (hnb.below hb (Nat.le_refl _) (Nat.le_refl _)) hb.size xa hak he1 he2 (by omega)
        have hap:app1 K1 p = Sl.del xa K1:=by unfold app1;rw [hm,hxa]
        have HE:=Lib.hid (And.intro hlt (And.intro hbr (And.intro hsucc (And.intro hap he2))))
        have hroot:rootP (some (T.br g l c0 K1)) = some ⟨g,0,none⟩:=rfl
        rw [hroot]
        clear hcells hpL hpp hsplit hfitK hlenK hsucc hK1 hpm hpf hxa hxo hU hN2 hnb hbr hlt hj he1 he2 hv1 hld hak hap hp hm hroot hszr
        go_wp2_with fail
        refine (HWo.out _ (by exact below_alloc wr _)).mono ?_
        rintro e w2 ⟨g',rfl,hn3,-,hb2⟩
        have HF:=Lib.hid (And.intro hn3 (Below.andThen (below_alloc wr _) hb2))
        clear hn3 hb2
        go_wp2_with fail
        go_roundw
        case rel =>
          refine ⟨j + 1,some (.br g' l c0 (Sl.del xa K1)),by have:=HE.out.1;omega,by first | rfl | go_num,rfl,?_,NodeO.some HF.out.1,Below.andThen HE.out.2.1 HF.out.2⟩
          rw [HE.out.2.2.1,HE.out.2.2.2.1]
          exact .inr (.inr ⟨HE.out.2.2.2.2,g',rfl⟩)
        case measure =>
          have:=HE.out.1
          show el - ((j:Int) + 1).toNat < el - (j:Int).toNat
          omega
      | some m =>
        rw [hm] at q4
        replace q4:wr.cell? ⟨b,j * 3 + 2,none⟩ = some (.pointer (some ⟨m.blk,0,none⟩)):=q4
        unfold EdOk at hed
        rw [hm] at hed
        have hed:K1 = []∨(∃ x,K1 = [x]∧x.1≠xa)∨2≤K1.length:=by rw [← hxa];exact hed
        have hfm:=hpf m hm
        rw [hxa] at hfm
        have hmn:Node wr wr.heap.size k m:=hpm m hm
        have HWi:Hid (∀ w1,Below wr.heap.size wr w1→Calls Tryz.prog 261 #[.pointer (rootP n2),.pointer (some ⟨m.blk,0,none⟩)] w1 fun e w' => ∃ n',e = .returned (.pointer (rootP n'))∧Tr.UniN l c0 (Sl.put xa m K1) n'∧NodeO w' w'.heap.size k n'∧Below w1.heap.size w1 w'):=Lib.hid fun w1 hb =>
          sWith_c hU hfitK (hN2.below hb (Nat.le_refl _) (Nat.le_refl _)) (hmn.below hb (Nat.le_refl _) (Nat.le_refl _)) hfm.2 hed hb.size (by rw [hm] at hlenK;have h9:(Tr.entsO (some m)).length = m.ents.length:=rfl;omega)
        have hap:app1 K1 p = Sl.put xa m K1:=by unfold app1;rw [hm,hxa]
        have HE:=Lib.hid (And.intro hlt (And.intro hbr (And.intro hsucc hap)))
        obtain ⟨pr,hpr⟩:∃ v,rootP n2 = v:=⟨_,rfl⟩
        rw [hpr] at HWi
        rw [hpr]
        obtain ⟨mb,hmb⟩:∃ v,m.blk = v:=⟨_,rfl⟩
        rw [hmb] at HWi q4
        clear hcells hpL hpp hsplit hed hfitK hlenK hsucc hK1 hpm hpf hxa hxo hU hN2 hbr hlt hj hap hp hm hszr hfm hmn hpr hmb
        go_wp2_with fail
        refine (HWi.out _ (by exact below_alloc wr _)).mono ?_
        rintro e w2 ⟨n',rfl,hu3,hn3,hb2⟩
        have HF:=Lib.hid (And.intro hu3 (And.intro hn3 (Below.andThen (below_alloc wr _) hb2)))
        clear hu3 hn3 hb2
        go_wp2_with fail
        go_roundw
        case rel =>
          refine ⟨j + 1,n',by have:=HE.out.1;omega,by first | rfl | go_num,rfl,?_,HF.out.2.1,Below.andThen HE.out.2.1 HF.out.2.2⟩
          rw [HE.out.2.2.1,HE.out.2.2.2]
          exact HF.out.1
        case measure =>
          have:=HE.out.1
          show el - ((j:Int) + 1).toNat < el - (j:Int).toNat
          omega
    · have hje:j = el:=by omega
      subst hje
      have f1:decide ((j:Int) < (j:Int)) = false:=decide_eq_false (by omega)
      have f1':decide (j < j) = false:=decide_eq_false (by omega)
      have htk:L.take j = L:=by
        have h9:=HX.out.2.2.2.2.2.2.2
        rw [HLL.out] at h9
        rw [← h9];exact List.take_length
      rw [htk] at hU
      have HF:=Lib.hid (And.intro hU (And.intro hN2 hbr))
      clear hU hN2 hbr htk hlt hj
      go_wp2_with fail
      go_ret
      refine ⟨n2,rfl,HF.out.2.1,fun e => ?_,HF.out.2.2⟩
      rw [HF.out.1.ents,← HLL.out]
      refine mem_out (ps_facts HX.out.1).1 HX.out.2.2.2.2.1.fit.1 HX.out.2.2.2.2.1.get HX.out.2.2.2.2.1.key (fun x hx heq => ?_) e
      exact nodeO_same (w:=w) (B:=w.heap.size) (B':=w.heap.size) (k:=k) (HX.out.2.2.2.2.2.1 x hx) (HX.out.2.1 x hx) (of_decide_eq_true heq)
end Go.Proofs.YtkeepngaaleakaaGreatDoor
