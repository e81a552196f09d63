import Derived.Deep.Strs
import Derived.ChangeSame
import Derived.LaidEqlPtr
import Derived.Test.YtkeepngaaleakaaGreatDoorM13
import Derived.Test.YtkeepngaaleakaaGreatDoorM16
namespace Go.Proofs.YtkeepngaaleakaaGreatDoor
open Go.ChangeShapes Go.WideShapes Go.ChangeAt Go.RowKit
theorem cells_u64s:Tryz.prog.cellsOf 23 = 1:=by kernel_rfl
set_option maxRecDepth 100000 in
theorem open_u64s {H:Type} {enc:TypeId × Value→H} {W:World} {fuel:Nat} {cs:List Value} {x:DataW H × List MemPlace} (h:DataW.trod enc Tryz.prog W 0 (fun _ => true) true fuel 23 cs = some x) :
    ∃ (A:Option Addr) (c:Nat) (us:List Nat),cs = [.slice A us.length c]∧us.length≤maxLen∧Pts W W.heap.size A us:=by
  rcases open_ints Tryz.underlying23 Tryz.underlying55 (by kernel_rfl) h with ⟨hcs,_⟩ | ⟨a,l,c,zs,hcs,_,hl,hm,hz,_,hcell,hwz⟩
  · obtain ⟨us,hus,hm,hp⟩:=pts_of_row (w:=W) (a:=none) (len:=0) (cap:=0) (zs:=[]) (.inl ⟨rfl,rfl,rfl,rfl⟩)
    exact ⟨none,0,us,by rw [hcs,hus],by omega,hp⟩
  · obtain ⟨us,hus,hm',hp⟩:=pts_of_row (w:=W) (a:=some a) (len:=l) (cap:=c) (zs:=zs) (.inr ⟨a,rfl,hl,hm,by simpa using hz,hcell,hwz⟩)
    exact ⟨some a,c,us,by rw [hcs,hus],by omega,hp⟩
structure ActT where
  del:Bool
  p:List Nat
  v:Nat
def ActQ (w:World) (B:Nat) (f:Nat→Option Value) (a:ActT):Prop :=
  ∃ A c,f 0 = some (.bool a.del)∧f 1 = some (.slice A a.p.length c)∧f 2 = some (.int .u64 (a.v:Int))∧Pts w B A a.p∧a.p.length≤maxLen∧a.v < 18446744073709551616
def ActsT (w:World) (B:Nat) (A:Option Addr) (L:List ActT):Prop:=Lst 3 (ActQ w B) w B A L
theorem ActsT.keep {w w':World} {B B':Nat} {A:Option Addr} {L:List ActT} (h:ActsT w B A L) (hB:B≤B') (hw:∀ p:Addr,p.block < B→w'.cell? p = w.cell? p):ActsT w' B' A L:=by
  intro hn
  obtain ⟨b,off,hA,hb,hq⟩:=h hn
  refine ⟨b,off,hA,by omega,fun i a ha => ?_⟩
  obtain ⟨A',c,h0,h1,h2,h3,h4,h5⟩:=hq i a ha
  exact ⟨A',c,(hw _ hb).trans h0,(hw _ hb).trans h1,(hw _ hb).trans h2,h3.keep hB hw,h4,h5⟩
theorem ActsT.below {w w':World} {B B' C:Nat} {A:Option Addr} {L:List ActT} (h:ActsT w B A L) (hb:Below C w w') (hC:B≤C) (hB:B≤B'):ActsT w' B' A L :=
  h.keep hB fun _ hp => hb.cell (Nat.lt_of_lt_of_le hp hC)
theorem ActsT.at {w:World} {B:Nat} {A:Option Addr} {L:List ActT} (h:ActsT w B A L) {i:Nat} {a:ActT} (ha:L[i]? = some a) :
    ∃ b off A' c',A = some ⟨b,off,none⟩∧b < B∧w.cell? ⟨b,off + i * 3,none⟩ = some (.bool a.del)∧w.cell? ⟨b,off + i * 3 + 1,none⟩ = some (.slice A' a.p.length c')∧w.cell? ⟨b,off + i * 3 + 2,none⟩ = some (.int .u64 (a.v:Int))∧Pts w B A' a.p∧a.p.length≤maxLen∧a.v < 18446744073709551616:=by
  obtain ⟨b,off,hA,hb,hq⟩:=h (by rintro rfl;simp at ha)
  obtain ⟨A',c',h0,h1,h2,h3,h4,h5⟩:=hq i a ha
  exact ⟨b,off,A',c',hA,hb,h0,h1,h2,h3,h4,h5⟩
theorem cells_actT:Tryz.prog.cellsOf 78 = 3:=by kernel_rfl
theorem cells_tb1:Tryz.prog.cellsOf 4 = 1:=by kernel_rfl
theorem cells_tp1:Tryz.prog.cellsOf 23 = 1:=by kernel_rfl
theorem cells_tu1:Tryz.prog.cellsOf 55 = 1:=by kernel_rfl
set_option maxRecDepth 100000 in
theorem open_actsT {H:Type} {enc:TypeId × Value→H} {W:World} {v:Value} {d:DataW H} {ps:List MemPlace} (hv:Value.okWide Tryz.prog W .any 0 22 v) (h:DataW.Trod enc Tryz.prog W 0 (fun _ => true) true 22 v d ps) :
    ∃ (A:Option Addr) (c:Nat) (l:List ActT),v = .slice A l.length c∧l.length≤maxLen∧ActsT W W.heap.size A l:=by
  obtain ⟨a,len,cap,rfl⟩:=okWide_slice Tryz.underlying22 hv
  obtain ⟨fuel,hf⟩:=h
  obtain ⟨A,c,l,hcs,hm,_,hl⟩:=open_list (α:=ActT) (n:=3) (ActQ W W.heap.size)
    Tryz.underlying22 cells_actT (by decide) (fun fuel cs x f hlen ht hc => by
      obtain ⟨y0,y1,y2,n,-,-,g0,g1,g2⟩:=Go.Deep.trod_struct3 Tryz.underlying78 ht
      match cs,hlen with
      | [v0,v1,v2],_ =>
        simp [cells_tb1,cells_tp1,cells_tu1] at g0 g1 g2
        obtain ⟨b,e0,_⟩:=DataW.trod_bool Tryz.underlying4 g0
        obtain ⟨A,c,us,e1,m1,p1⟩:=open_u64s g1
        obtain ⟨n2,e2,_,w2⟩:=DataW.trod_int Tryz.underlying55 g2
        simp at e0 e1 e2
        subst e0 e1 e2
        have b2:=bounds_u64 w2
        refine ⟨⟨b,us,n2.toNat⟩,A,c,?_,?_,?_,p1,m1,by simp only;omega⟩
        · rw [hc 0 (by decide)];rfl
        · rw [hc 1 (by decide)];rfl
        · rw [hc 2 (by decide)];simp only [List.getElem?_cons_succ,List.getElem?_cons_zero];rw [Int.toNat_of_nonneg (by omega)]) hf
  simp [Value.cells] at hcs
  obtain ⟨rfl,rfl,rfl⟩:=hcs
  exact ⟨_,_,l,rfl,hm,hl⟩
end Go.Proofs.YtkeepngaaleakaaGreatDoor
namespace Go.Proofs.YtkeepngaaleakaaGreatDoor
open Go.ChangeShapes Go.WideShapes Go.ChangeAt Go.RowKit
open Tr (T S4 Ent)
theorem tptr_eq (w:World) (a:Addr):(binOp .eql 29 (.pointer (some a)) (.pointer (some a))).run Tryz.prog w = .ok (.bool true) w:=by
  have h:(Tryz.prog.info? 168).isSome = true:=by kernel_rfl
  obtain ⟨j,hj⟩:=Option.isSome_iff_exists.1 h
  exact run_eql_ptr_same w a Tryz.underlying29 hj
theorem tptr_ne {w:World} {a b:Nat} (ha:TrB w a) (hb:TrB w b) (hne:a≠b):(binOp .eql 29 (.pointer (some ⟨a,0,none⟩)) (.pointer (some ⟨b,0,none⟩))).run Tryz.prog w = .ok (.bool false) w:=by
  have h:(Tryz.prog.info? 168).map (·.size) = some 2:=by kernel_rfl
  obtain ⟨j,hj,hs⟩:=Option.map_eq_some_iff.1 h
  obtain ⟨ca,ta,ha⟩:=ha
  obtain ⟨cb,tb,hb⟩:=hb
  exact run_eql_ptr_other w Tryz.underlying29 hj (by rw [hs];decide) (by intro e;apply hne;exact congrArg (·.block) e) ha hb
def Act3 (w:World) (g:Nat) (x0 x1 x2:Value):Prop:=w.cell? ⟨g,0,none⟩ = some x0∧w.cell? ⟨g,1,none⟩ = some x1∧w.cell? ⟨g,2,none⟩ = some x2
theorem act3_at {w:World} {g:Nat} {x0 x1 x2:Value} {t:TypeId} (h:w.heap[g]? = some (.cells #[x0,x1,x2] t (0,0))):Act3 w g x0 x1 x2 :=
  ⟨by rw [cell_of_row w g _ _ t (0,0) h];rfl,by rw [cell_of_row w g _ _ t (0,0) h];rfl,by rw [cell_of_row w g _ _ t (0,0) h];rfl⟩
theorem Act3.below {w w':World} {g C:Nat} {x0 x1 x2:Value} (h:Act3 w g x0 x1 x2) (hb:Below C w w') (hC:g < C):Act3 w' g x0 x1 x2 :=
  ⟨(hb.cell (p:=⟨g,0,none⟩) hC).trans h.1,(hb.cell (p:=⟨g,1,none⟩) hC).trans h.2.1,(hb.cell (p:=⟨g,2,none⟩) hC).trans h.2.2⟩
abbrev actV (del:Bool) (A:Option Addr) (n c v:Nat):Value:=.agg #[.bool del,.slice A n c,.int .u64 (v:Int)]
def doneW (w:World) (del:Bool) (A:Option Addr) (n c v:Nat):World:=w.alloc (.cells #[.bool del,.slice A n c,.int .u64 (v:Int)] 78)
theorem doneW_below (w:World) (del:Bool) (A:Option Addr) (n c v:Nat):Below w.heap.size w (doneW w del A n c v):=below_alloc w _
theorem doneW_size (w:World) (del:Bool) (A:Option Addr) (n c v:Nat):(doneW w del A n c v).heap.size = w.heap.size + 1:=by simp [doneW]
theorem doneW_act (w:World) (del:Bool) (A:Option Addr) (n c v:Nat):Act3 (doneW w del A n c v) w.heap.size (.bool del) (.slice A n c) (.int .u64 (v:Int)):=act3_at (heap_at w _ _ rfl)
set_option maxRecDepth 100000 in
theorem done_del_dim {w:World} {b k:Nat} {r:Option Addr} (hT:TreC w b k r) (hb:b < w.heap.size) (A:Option Addr) (n c:Nat) (A':Option Addr) (m d v:Nat) (hm:m≤maxLen) (hne:m≠k) :
    Calls Tryz.prog 49 #[.pointer (some ⟨b,0,none⟩),.slice A n c,actV true A' m d v] w fun e w' => e = .returned (.tuple #[.pointer (some ⟨b,0,none⟩),.slice A n c,.bool true])∧Below w.heap.size w w':=by
  have hT1:=hT.below (doneW_below w true A' m d v) hb
  have HK:=Lib.hid (tK_c hT1)
  have HD:=Lib.hid (tDel_dim hT1 A' m d hm hne)
  have HB:=Lib.hid (doneW_below w true A' m d v)
  have n1:((m:Int) != (k:Int)) = true:=by simp;omega
  obtain ⟨x0,x1,x2⟩:=doneW_act w true A' m d v
  clear hT hT1
  go_enter Tryz.func49,Tryz.ntmps49
  go_wp2_with fail
  rw [show w.alloc (.cells #[.bool true,.slice A' m d,.int .u64 (v:Int)] 78) = doneW w true A' m d v from rfl]
  generalize doneW w true A' m d v = W at *
  refine HK.out.mono ?_
  rintro e w' ⟨rfl,rfl⟩
  go_wp2_with (go_at_call 106;refine HD.out.mono ?_;rintro e w' ⟨rfl,rfl⟩)
  go_ret3
  exact ⟨rfl,HB.out⟩
structure Hand (w:World) (C b k:Nat) (o:Option T) (A:Option Addr) (c M:Nat):Prop where
  tree:TreeX w b k o
  list:EntL w C w.heap.size A (Tr.entsO o)
  cap:(Tr.entsO o).length≤c
  few:(Tr.entsO o).length≤M
  most:M≤100000
  old:C≤w.heap.size
theorem Hand.below {w w':World} {C b k:Nat} {o:Option T} {A:Option Addr} {c M:Nat} (h:Hand w C b k o A c M) (hb:Below w.heap.size w w'):Hand w' C b k o A c M :=
  ⟨h.tree.below hb (Nat.le_refl _),h.list.below hb h.old (Nat.le_refl _) hb.size,h.cap,h.few,h.most,Nat.le_trans h.old hb.size⟩
theorem Hand.wf {w:World} {C b k:Nat} {o:Option T} {A:Option Addr} {c M:Nat} (h:Hand w C b k o A c M):∀ t,o = some t→Tr.Wf k t:=nodeO_wf h.tree.1.2.2.2.2
set_option maxRecDepth 100000 in
theorem done_put_dim {w:World} {b k:Nat} {r:Option Addr} (hT:TreC w b k r) (hb:b < w.heap.size) (A:Option Addr) (n c:Nat) (A':Option Addr) (m d v:Nat) (hm:m≤maxLen) (hne:m≠k) :
    Calls Tryz.prog 49 #[.pointer (some ⟨b,0,none⟩),.slice A n c,actV false A' m d v] w fun e w' => e = .returned (.tuple #[.pointer (some ⟨b,0,none⟩),.slice A n c,.bool true])∧Below w.heap.size w w':=by
  have hT1:=hT.below (doneW_below w false A' m d v) hb
  have HK:=Lib.hid (tK_c hT1)
  have HD:=Lib.hid (tPut_dim hT1 A' m d v hm hne)
  have HB:=Lib.hid (doneW_below w false A' m d v)
  have n1:((m:Int) != (k:Int)) = true:=by simp;omega
  obtain ⟨x0,x1,x2⟩:=doneW_act w false A' m d v
  clear hT hT1
  go_enter Tryz.func49,Tryz.ntmps49
  go_wp2_with fail
  rw [show w.alloc (.cells #[.bool false,.slice A' m d,.int .u64 (v:Int)] 78) = doneW w false A' m d v from rfl]
  generalize doneW w false A' m d v = W at *
  refine HK.out.mono ?_
  rintro e w' ⟨rfl,rfl⟩
  go_wp2_with (go_at_call 46;refine HD.out.mono ?_;rintro e w' ⟨rfl,rfl⟩)
  go_ret3
  exact ⟨rfl,HB.out⟩
set_option maxRecDepth 100000 in
theorem done_del_none {w:World} {C b k:Nat} {o:Option T} {A:Option Addr} {c M:Nat} (h:Hand w C b k o A c M) {A':Option Addr} {d:Nat} {p:List Nat} (v:Nat) (hp:Pts w C A' p) (hl:p.length = k) (hg:Tr.getE (Tr.entsO o) p = none) :
    Calls Tryz.prog 49 #[.pointer (some ⟨b,0,none⟩),.slice A (Tr.entsO o).length c,actV true A' p.length d v] w fun e w' => e = .returned (.tuple #[.pointer (some ⟨b,0,none⟩),.slice A (Tr.entsO o).length c,.bool true])∧Below w.heap.size w w':=by
  have hbw:=doneW_below w true A' p.length d v
  have h1:=h.below hbw
  have HK:=Lib.hid (tK_c h1.tree.1.2.2.2.1)
  have hp1:=hp.below' hbw h.old
  have HD:=Lib.hid (tDel_c h1.tree.1 (Nat.le_refl _) (hp1.keep h1.old (fun _ _ => rfl)) hl (c:=d) (by have:=h.few;have:=h.most;omega))
  obtain ⟨hz,hdm⟩:=entsO_zs h.wf
  have HG:Hid (∀ w',Below (doneW w true A' p.length d v).heap.size (doneW w true A' p.length d v) w'→Calls Tryz.prog 72 #[.slice A (Tr.entsO o).length c,.slice A' p.length d] w' fun e w'' => e = .returned (.tuple #[.int .u64 0,.bool false])∧w' = w''):=Lib.hid fun w' hb' =>
    rget6_c hz hdm (h1.below hb').list (hp1.below' hb' h1.old) hl h.tree.1.2.1 h.tree.1.2.2.1 (by have:=h.few;have:=h.most;omega) none hg
  have HB:=Lib.hid hbw
  have n1:((p.length:Int) != (k:Int)) = false:=by simp [hl]
  obtain ⟨x0,x1,x2⟩:=doneW_act w true A' p.length d v
  have HA:=Lib.hid (And.intro hg (And.intro (doneW_act w true A' p.length d v) (doneW_size w true A' p.length d v)))
  clear h h1 hp hp1 hg hz hdm hbw hl
  go_enter Tryz.func49,Tryz.ntmps49
  go_wp2_with fail
  rw [show w.alloc (.cells #[.bool true,.slice A' p.length d,.int .u64 (v:Int)] 78) = doneW w true A' p.length d v from rfl]
  generalize doneW w true A' p.length d v = W at *
  refine HK.out.mono ?_
  rintro e w' ⟨rfl,rfl⟩
  go_wp2_with fail
  refine HD.out.mono ?_
  rintro e w2 (⟨-,rfl,hb2⟩ | ⟨⟨v',hv'⟩,-⟩)
  · obtain ⟨x0,x1,x2⟩:=HA.out.2.1.below hb2 (by have:=HA.out.2.2;omega)
    have HG2:=Lib.hid (HG.out w2 hb2)
    have HB2:=Lib.hid (Below.andThen HB.out hb2)
    clear hb2 HG HK HD
    go_wp2_with (go_at_call 72;refine HG2.out.mono ?_;rintro e w' ⟨rfl,rfl⟩)
    go_ret3
    exact ⟨rfl,HB2.out⟩
  · rw [HA.out.1] at hv'
    cases hv'
def DelWay (k:Nat) (o:Option T) (p:List Nat) (o':Option T):Prop :=
  ∃ L q v,Tr.Chain p o L (some (.ent q p v))∧((L = []∧o' = none)∨∃ L' u x t,L = L' ++ [u]∧Tr.DelX u p x∧Tr.Wf k x∧Built L'.reverse x t∧o' = some t)
def PutWay (k:Nat) (o:Option T) (p:List Nat) (v:Nat) (t:T):Prop:=∃ L y x,Tr.Chain p o L y∧Tr.PutX p v y x∧Tr.Wf k x∧Built L.reverse x t
set_option maxRecDepth 100000 in
theorem done_del_some {w:World} {C b k:Nat} {o:Option T} {A:Option Addr} {c M:Nat} (h:Hand w C b k o A c M) {A':Option Addr} {d:Nat} {p:List Nat} (v:Nat) (hp:Pts w C A' p) (hl:p.length = k) {v0:Nat} (hg:Tr.getE (Tr.entsO o) p = some v0) :
    Calls Tryz.prog 49 #[.pointer (some ⟨b,0,none⟩),.slice A (Tr.entsO o).length c,actV true A' p.length d v] w fun e w' => ∃ b' o' D e',e = .returned (.tuple #[.pointer (some ⟨b',0,none⟩),.slice D (Tr.entsO o').length e',.bool true])∧Hand w' C b' k o' D e' M ∧
      Tr.entsO o' = Tr.delE p (Tr.entsO o)∧b≠b'∧DelWay k o p o'∧Below w.heap.size w w':=by
  have hbw:=doneW_below w true A' p.length d v
  have h1:=h.below hbw
  have HK:=Lib.hid (tK_c h1.tree.1.2.2.2.1)
  have hp1:=hp.below' hbw h.old
  have HD:=Lib.hid (tDel_c h1.tree.1 (Nat.le_refl _) (hp1.keep h1.old (fun _ _ => rfl)) hl (c:=d) (by have:=h.few;have:=h.most;omega))
  obtain ⟨hz,hdm⟩:=entsO_zs h.wf
  have HG:Hid (∀ w',Below (doneW w true A' p.length d v).heap.size (doneW w true A' p.length d v) w'→Calls Tryz.prog 72 #[.slice A (Tr.entsO o).length c,.slice A' p.length d] w' fun e w'' => e = .returned (.tuple #[.int .u64 (v0:Int),.bool true])∧w' = w''):=Lib.hid fun w' hb' =>
    rget6_c hz hdm (h1.below hb').list (hp1.below' hb' h1.old) hl h.tree.1.2.1 h.tree.1.2.2.1 (by have:=h.few;have:=h.most;omega) (some v0) hg
  have HE:Hid (∀ w',Below (doneW w true A' p.length d v).heap.size (doneW w true A' p.length d v) w'→Calls Tryz.prog 39 #[.slice A (Tr.entsO o).length c,.slice A' p.length d] w' fun e w'' => ∃ D d',e = .returned (.slice D (Tr.delE p (Tr.entsO o)).length d')∧EntL w'' C w''.heap.size D (Tr.delE p (Tr.entsO o))∧(Tr.delE p (Tr.entsO o)).length≤d'∧Below w'.heap.size w' w''):=Lib.hid fun w' hb' =>
    rdel6_c hz hdm (h1.below hb').list (hp1.below' hb' h1.old) hl h.tree.1.2.1 h.tree.1.2.2.1 (by have:=h.few;have:=h.most;omega) (Nat.le_refl _) (h1.below hb').old h.cap
  have HB:=Lib.hid hbw
  have n1:((p.length:Int) != (k:Int)) = false:=by simp [hl]
  obtain ⟨x0,x1,x2⟩:=doneW_act w true A' p.length d v
  have HA:=Lib.hid (And.intro hg (And.intro (doneW_act w true A' p.length d v) (And.intro (doneW_size w true A' p.length d v) (And.intro h1 (And.intro h (Tr.length_delE p (Tr.entsO o)))))))
  have hbb:=h.tree.1.1
  clear h h1 hp hp1 hg hz hdm hbw hl
  go_enter Tryz.func49,Tryz.ntmps49
  go_wp2_with fail
  rw [show w.alloc (.cells #[.bool true,.slice A' p.length d,.int .u64 (v:Int)] 78) = doneW w true A' p.length d v from rfl]
  generalize doneW w true A' p.length d v = W at *
  refine HK.out.mono ?_
  rintro e w' ⟨rfl,rfl⟩
  go_wp2_with fail
  refine HD.out.mono ?_
  rintro e w2 (⟨hv',-,-⟩ | ⟨-,n,o',rfl,hto,hb2⟩)
  · rw [HA.out.1] at hv'
    cases hv'
  · obtain ⟨x0,x1,x2⟩:=HA.out.2.1.below hb2 (by have:=HA.out.2.2.1;omega)
    have HG2:=Lib.hid (HG.out w2 hb2)
    have HE2:=Lib.hid (HE.out w2 hb2)
    have HB2:=Lib.hid (And.intro hb2 (And.intro hto hbb))
    clear hb2 HG HK HD hto HE hbb
    go_wp2_with (first
      | (go_at_call 72;refine HG2.out.mono ?_;rintro e w' ⟨rfl,rfl⟩)
      | (go_at_call 39;refine HE2.out.mono ?_;rintro e w3 ⟨D3,d3,rfl,hl3,hc3,hb3⟩))
    go_ret3
    obtain ⟨hb2,hto,hbb⟩:=HB2.out
    obtain ⟨t1,t2,t3,t4⟩:=hto
    have hsz:=HA.out.2.2.1
    refine ⟨n,o',D3,d3,by rw [t3];rfl,⟨t1.below hb3 (Nat.le_refl _),by rw [t3];exact hl3,by rw [t3];exact hc3,by rw [t3];have:=HA.out.2.2.2.2.2;have:=HA.out.2.2.2.2.1.few;omega,HA.out.2.2.2.2.1.most,?_⟩,t3,by omega,t4,Below.andThen HB.out (Below.andThen hb2 hb3)⟩
    exact Nat.le_trans HA.out.2.2.2.2.1.old (Below.andThen HB.out (Below.andThen hb2 hb3)).size
theorem putE_same {k:Nat} {L:List Ent} (hz:Tr.ZS L) (hd:Tr.Dim k L) {p:List Nat} (hp:p.length = k) (ho:Z.Ok p) {v:Nat} (hg:Tr.getE L p = some v):Tr.putE p v L = L:=by
  have hm:=(Tr.getE_iff hz hd hp ho).1 hg
  refine Tr.ZS.ext (hz.put p v) hz fun e => ?_
  rw [Tr.mem_putE hz]
  constructor
  · rintro (rfl | h)
    · exact hm
    · exact h.1
  · intro he
    by_cases c:Tr.key e.1 = Tr.key p
    · have h1:e.1 = p:=(Tr.key_inj (by rw [(hd e he).1,hp]) (hd e he).2.1 ho).1 c
      have h2:Tr.getE L p = some e.2:=(Tr.getE_iff hz hd hp ho).2 (by rw [← h1];exact he)
      rw [hg] at h2
      left
      cases e
      simp only at h1 h2
      subst h1
      cases h2
      rfl
    · exact .inr ⟨he,c⟩
set_option maxRecDepth 100000 in
set_option maxHeartbeats 2000000 in
theorem done_put_same {w:World} {C b k:Nat} {o:Option T} {A:Option Addr} {c M:Nat} (h:Hand w C b k o A c M) {A':Option Addr} {d:Nat} {p:List Nat} (v:Nat) (hv:v < 18446744073709551616) (hp:Pts w C A' p) (hl:p.length = k) (hg:Tr.getE (Tr.entsO o) p = some v) :
    Calls Tryz.prog 49 #[.pointer (some ⟨b,0,none⟩),.slice A (Tr.entsO o).length c,actV false A' p.length d v] w fun e w' => ∃ D e',e = .returned (.tuple #[.pointer (some ⟨b,0,none⟩),.slice D (Tr.entsO o).length e',.bool true])∧Hand w' C b k o D e' M∧Below w.heap.size w w':=by
  have hbw:=doneW_below w false A' p.length d v
  have h1:=h.below hbw
  have HK:=Lib.hid (tK_c h1.tree.1.2.2.2.1)
  have hp1:=hp.below' hbw h.old
  have HD:=Lib.hid (tPut_c h1.tree.1 (Nat.le_refl _) (hp1.keep h1.old (fun _ _ => rfl)) hl (c:=d) v hv (by have:=h.few;have:=h.most;omega))
  obtain ⟨hz,hdm⟩:=entsO_zs h.wf
  have hpe:=putE_same hz hdm hl hp.1 hg
  have HG:Hid (∀ w',Below (doneW w false A' p.length d v).heap.size (doneW w false A' p.length d v) w'→Calls Tryz.prog 72 #[.slice A (Tr.entsO o).length c,.slice A' p.length d] w' fun e w'' => e = .returned (.tuple #[.int .u64 (v:Int),.bool true])∧w' = w''):=Lib.hid fun w' hb' =>
    rget6_c hz hdm (h1.below hb').list (hp1.below' hb' h1.old) hl h.tree.1.2.1 h.tree.1.2.2.1 (by have:=h.few;have:=h.most;omega) (some v) hg
  have HE:Hid (∀ w',Below (doneW w false A' p.length d v).heap.size (doneW w false A' p.length d v) w'→Calls Tryz.prog 36 #[.slice A (Tr.entsO o).length c,.slice A' p.length d,.int .u64 (v:Int)] w' fun e w'' => ∃ D d',e = .returned (.slice D (Tr.entsO o).length d')∧EntL w'' C w''.heap.size D (Tr.entsO o)∧(Tr.entsO o).length≤d'∧Below w'.heap.size w' w''):=Lib.hid fun w' hb' => by
    have hh:=rput6_c (c:=c) (c':=d) hz hdm (h1.below hb').list (hp1.below' hb' h1.old) hl h.tree.1.2.1 h.tree.1.2.2.1 (by have:=h.few;have:=h.most;omega) (Nat.le_refl _) (h1.below hb').old h.cap v hv
    rw [hpe] at hh
    exact hh
  have HB:=Lib.hid hbw
  have n1:((p.length:Int) != (k:Int)) = false:=by simp [hl]
  have n2:((v:Int) == (v:Int)) = true:=by simp
  obtain ⟨x0,x1,x2⟩:=doneW_act w false A' p.length d v
  have HA:=Lib.hid (And.intro hg (And.intro (doneW_act w false A' p.length d v) (And.intro (doneW_size w false A' p.length d v) (And.intro h1 h))))
  clear h h1 hp hp1 hg hz hdm hbw hl hpe
  go_enter Tryz.func49,Tryz.ntmps49
  go_wp2_with fail
  rw [show w.alloc (.cells #[.bool false,.slice A' p.length d,.int .u64 (v:Int)] 78) = doneW w false A' p.length d v from rfl]
  generalize doneW w false A' p.length d v = W at *
  refine HK.out.mono ?_
  rintro e w' ⟨rfl,rfl⟩
  go_wp2_with fail
  refine HD.out.mono ?_
  rintro e w2 (⟨-,rfl,hb2⟩ | ⟨hv',-⟩)
  · have ha2:∀ w',Below w2.heap.size w2 w'→Act3 w' w.heap.size (.bool false) (.slice A' p.length d) (.int .u64 (v:Int)):=fun w' hb' => (HA.out.2.1.below hb2 (by have:=HA.out.2.2.1;omega)).below hb' (by have:=HA.out.2.2.1;have:=hb2.size;omega)
    have HG2:=Lib.hid (HG.out w2 hb2)
    have HE2:Hid (∀ w',Below w2.heap.size w2 w'→Calls Tryz.prog 36 #[.slice A (Tr.entsO o).length c,.slice A' p.length d,.int .u64 (v:Int)] w' fun e w'' => ∃ D d',e = .returned (.slice D (Tr.entsO o).length d')∧EntL w'' C w''.heap.size D (Tr.entsO o)∧(Tr.entsO o).length≤d'∧Below w'.heap.size w' w''):=Lib.hid fun w' hb' => HE.out w' (hb2.trans (hb'.mono hb2.size))
    have HB2:=Lib.hid (And.intro hb2 (Below.andThen HB.out hb2))
    obtain ⟨x0,x1,x2⟩:=ha2 w2 (Below.refl _ _)
    have q1:∀ w',Below w2.heap.size w2 w'→w'.cell? ⟨w.heap.size,1,none⟩ = some (.slice A' p.length d):=fun w' hb' => (ha2 w' hb').2.1
    have q2:∀ w',Below w2.heap.size w2 w'→w'.cell? ⟨w.heap.size,2,none⟩ = some (.int .u64 (v:Int)):=fun w' hb' => (ha2 w' hb').2.2
    have hpe:=tptr_eq
    have hb0:Below w2.heap.size w2 w2:=Below.refl _ _
    clear hb2 HG HK HD HE ha2
    go_wp2_with (go_at_call 72;refine HG2.out.mono ?_;rintro e w' ⟨rfl,rfl⟩)
    clear x0 x1 x2
    go_region_held3 (fun w' => Below w2.heap.size w2 w') (((repeat first | refine bD ?_ | with_reducible refine bN ?_ | refine bA ?_ | refine bS ?_);first | exact bR | assumption | exact bN bR | exact bN (bN bR)))
      ((go_at_call 36;refine (HE2.out _ (show Below w2.heap.size w2 _ by ((repeat first | refine bD ?_ | with_reducible refine bN ?_ | refine bA ?_ | refine bS ?_);first | exact bR | assumption | exact bN bR | exact bN (bN bR)))).mono ?_;rintro e w3 ⟨D3,d3,rfl,hl3,hc3,hb3⟩;have hbD:=Below.trans (show Below w2.heap.size w2 _ by ((repeat first | refine bD ?_ | with_reducible refine bN ?_ | refine bA ?_ | refine bS ?_);first | exact bR | assumption | exact bN bR | exact bN (bN bR))) (hb3.mono (Below.size (show Below w2.heap.size w2 _ by ((repeat first | refine bD ?_ | with_reducible refine bN ?_ | refine bA ?_ | refine bS ?_);first | exact bR | assumption | exact bN bR | exact bN (bN bR)))));have HL3:=Lib.hid (And.intro hl3 hc3);clear hb3 hl3 hc3))
    clear q1 q2
    go_wp2_with fail
    go_ret3
    have hb:=Below.andThen HB2.out.2 hbD
    refine ⟨D3,d3,rfl,⟨HA.out.2.2.2.2.tree.below hb (Nat.le_refl _),HL3.out.1,HL3.out.2,HA.out.2.2.2.2.few,HA.out.2.2.2.2.most,Nat.le_trans HA.out.2.2.2.2.old hb.size⟩,hb⟩
  · exact absurd HA.out.1 hv'
set_option maxRecDepth 100000 in
set_option maxHeartbeats 4000000 in
theorem done_put_old {w:World} {C b k:Nat} {o:Option T} {A:Option Addr} {c M:Nat} (h:Hand w C b k o A c M) (hM:M + 1≤100000) {A':Option Addr} {d:Nat} {p:List Nat} (v:Nat) (hv:v < 18446744073709551616) (hp:Pts w C A' p) (hl:p.length = k) {v0:Nat} (hg:Tr.getE (Tr.entsO o) p = some v0) (hne:v0≠v) :
    Calls Tryz.prog 49 #[.pointer (some ⟨b,0,none⟩),.slice A (Tr.entsO o).length c,actV false A' p.length d v] w fun e w' => ∃ b' t D e',e = .returned (.tuple #[.pointer (some ⟨b',0,none⟩),.slice D t.ents.length e',.bool true])∧Hand w' C b' k (some t) D e' (M + 1) ∧
      t.ents = Tr.putE p v (Tr.entsO o)∧b≠b'∧PutWay k o p v t∧Below w.heap.size w w':=by
  have hbw:=doneW_below w false A' p.length d v
  have h1:=h.below hbw
  have HK:=Lib.hid (tK_c h1.tree.1.2.2.2.1)
  have hp1:=hp.below' hbw h.old
  have HD:=Lib.hid (tPut_c h1.tree.1 (Nat.le_refl _) (hp1.keep h1.old (fun _ _ => rfl)) hl (c:=d) v hv (by have:=h.few;have:=h.most;omega))
  obtain ⟨hz,hdm⟩:=entsO_zs h.wf
  have hlen:=Tr.length_putE hz p v
  have HG:Hid (∀ w',Below (doneW w false A' p.length d v).heap.size (doneW w false A' p.length d v) w'→Calls Tryz.prog 72 #[.slice A (Tr.entsO o).length c,.slice A' p.length d] w' fun e w'' => e = .returned (.tuple #[.int .u64 (v0:Int),.bool true])∧w' = w''):=Lib.hid fun w' hb' =>
    rget6_c hz hdm (h1.below hb').list (hp1.below' hb' h1.old) hl h.tree.1.2.1 h.tree.1.2.2.1 (by have:=h.few;have:=h.most;omega) (some v0) hg
  have HE:Hid (∀ w',Below (doneW w false A' p.length d v).heap.size (doneW w false A' p.length d v) w'→Calls Tryz.prog 36 #[.slice A (Tr.entsO o).length c,.slice A' p.length d,.int .u64 (v:Int)] w' fun e w'' => ∃ D d',e = .returned (.slice D (Tr.putE p v (Tr.entsO o)).length d')∧EntL w'' C w''.heap.size D (Tr.putE p v (Tr.entsO o))∧(Tr.putE p v (Tr.entsO o)).length≤d'∧Below w'.heap.size w' w''):=Lib.hid fun w' hb' =>
    rput6_c (c:=c) (c':=d) hz hdm (h1.below hb').list (hp1.below' hb' h1.old) hl h.tree.1.2.1 h.tree.1.2.2.1 (by have:=h.few;have:=h.most;omega) (Nat.le_refl _) (h1.below hb').old h.cap v hv
  have HB:=Lib.hid hbw
  have n1:((p.length:Int) != (k:Int)) = false:=by simp [hl]
  have n2:((v0:Int) == (v:Int)) = false:=by simp;omega
  obtain ⟨x0,x1,x2⟩:=doneW_act w false A' p.length d v
  have HA:=Lib.hid (And.intro hg (And.intro (doneW_act w false A' p.length d v) (And.intro (doneW_size w false A' p.length d v) (And.intro h1 (And.intro h (And.intro hlen hM))))))
  clear h h1 hp hp1 hg hz hdm hbw hl hlen hM
  go_enter Tryz.func49,Tryz.ntmps49
  go_wp2_with fail
  rw [show w.alloc (.cells #[.bool false,.slice A' p.length d,.int .u64 (v:Int)] 78) = doneW w false A' p.length d v from rfl]
  generalize doneW w false A' p.length d v = W at *
  refine HK.out.mono ?_
  rintro e w' ⟨rfl,rfl⟩
  go_wp2_with fail
  refine HD.out.mono ?_
  rintro e w2 (⟨hv',-,-⟩ | ⟨-,n,t,rfl,hto,hb2⟩)
  · rw [HA.out.1] at hv'
    exact absurd hv' (by simpa using hne)
  · have ha2:∀ w',Below w2.heap.size w2 w'→Act3 w' w.heap.size (.bool false) (.slice A' p.length d) (.int .u64 (v:Int)):=fun w' hb' => (HA.out.2.1.below hb2 (by have:=HA.out.2.2.1;omega)).below hb' (by have:=HA.out.2.2.1;have:=hb2.size;omega)
    have HG2:=Lib.hid (HG.out w2 hb2)
    have HE2:Hid (∀ w',Below w2.heap.size w2 w'→Calls Tryz.prog 36 #[.slice A (Tr.entsO o).length c,.slice A' p.length d,.int .u64 (v:Int)] w' fun e w'' => ∃ D d',e = .returned (.slice D (Tr.putE p v (Tr.entsO o)).length d')∧EntL w'' C w''.heap.size D (Tr.putE p v (Tr.entsO o))∧(Tr.putE p v (Tr.entsO o)).length≤d'∧Below w'.heap.size w' w''):=Lib.hid fun w' hb' => HE.out w' (hb2.trans (hb'.mono hb2.size))
    have HB2:=Lib.hid (And.intro hto (And.intro hb2 (Below.andThen HB.out hb2)))
    obtain ⟨x0,x1,x2⟩:=ha2 w2 (Below.refl _ _)
    have q1:∀ w',Below w2.heap.size w2 w'→w'.cell? ⟨w.heap.size,1,none⟩ = some (.slice A' p.length d):=fun w' hb' => (ha2 w' hb').2.1
    have q2:∀ w',Below w2.heap.size w2 w'→w'.cell? ⟨w.heap.size,2,none⟩ = some (.int .u64 (v:Int)):=fun w' hb' => (ha2 w' hb').2.2
    have hpe:∀ w',Below w2.heap.size w2 w'→(binOp .eql 29 (.pointer (some ⟨n,0,none⟩)) (.pointer (some ⟨b,0,none⟩))).run Tryz.prog w' = .ok (.bool false) w':=fun w' hb' =>
      tptr_ne (hto.1.2.below hb' (TrB.lt hto.1.2)) (((HA.out.2.2.2.1.tree.2.below hb2 (TrB.lt HA.out.2.2.2.1.tree.2))).below hb' (by have:=TrB.lt HA.out.2.2.2.1.tree.2;have:=hb2.size;omega)) (by have:=hto.2.2.2.2;omega)
    have hb0:Below w2.heap.size w2 w2:=Below.refl _ _
    clear hb2 HG HK HD HE ha2 hto
    go_wp2_with (go_at_call 72;refine HG2.out.mono ?_;rintro e w' ⟨rfl,rfl⟩)
    clear x0 x1 x2
    go_region_held3 (fun w' => Below w2.heap.size w2 w') (((repeat first | refine bD ?_ | with_reducible refine bN ?_ | refine bA ?_ | refine bS ?_);first | exact bR | assumption | exact bN bR | exact bN (bN bR)))
      ((go_at_call 36;refine (HE2.out _ (show Below w2.heap.size w2 _ by ((repeat first | refine bD ?_ | with_reducible refine bN ?_ | refine bA ?_ | refine bS ?_);first | exact bR | assumption | exact bN bR | exact bN (bN bR)))).mono ?_;rintro e w3 ⟨D3,d3,rfl,hl3,hc3,hb3⟩;have hbD:=Below.trans (show Below w2.heap.size w2 _ by ((repeat first | refine bD ?_ | with_reducible refine bN ?_ | refine bA ?_ | refine bS ?_);first | exact bR | assumption | exact bN bR | exact bN (bN bR))) (hb3.mono (Below.size (show Below w2.heap.size w2 _ by ((repeat first | refine bD ?_ | with_reducible refine bN ?_ | refine bA ?_ | refine bS ?_);first | exact bR | assumption | exact bN bR | exact bN (bN bR)))));have HL3:=Lib.hid (And.intro hl3 hc3);clear hb3 hl3 hc3))
    clear q1 q2 hpe
    go_wp2_with fail
    go_ret3
    have hb:=Below.andThen HB2.out.2.2 hbD
    obtain ⟨t1,t2,t3,t4,t5⟩:=HB2.out.1
    refine ⟨n,t,D3,d3,by rw [t3];rfl,⟨t1.below hbD (Nat.le_refl _),by rw [show Tr.entsO (some t) = t.ents from rfl,t3];exact HL3.out.1,by rw [show Tr.entsO (some t) = t.ents from rfl,t3];exact HL3.out.2,by rw [show Tr.entsO (some t) = t.ents from rfl,t3];have:=HA.out.2.2.2.2.2.1;have:=HA.out.2.2.2.2.1.few;omega,HA.out.2.2.2.2.2.2,Nat.le_trans HA.out.2.2.2.2.1.old hb.size⟩,t3,by omega,t4,hb⟩
end Go.Proofs.YtkeepngaaleakaaGreatDoor
