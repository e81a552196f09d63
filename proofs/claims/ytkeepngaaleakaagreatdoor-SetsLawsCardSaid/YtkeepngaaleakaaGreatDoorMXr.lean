import Derived.Test.YtkeepngaaleakaaGreatDoorMXq
namespace Go.Proofs.YtkeepngaaleakaaGreatDoor
open Go.ChangeShapes Go.WideShapes Go.ChangeAt Go.RowKit
open Tr (T S4 Ent Tri KL)
theorem four_boxes (w:World) (a b c d:Array Value) (ta tb tc td:TypeId):Below w.heap.size w ((((w.alloc (.cells a ta)).alloc (.cells b tb)).alloc (.cells c tc)).alloc (.cells d td))∧((((w.alloc (.cells a ta)).alloc (.cells b tb)).alloc (.cells c tc)).alloc (.cells d td)).heap[w.heap.size]? = some (.cells a ta (0,0))∧((((w.alloc (.cells a ta)).alloc (.cells b tb)).alloc (.cells c tc)).alloc (.cells d td)).heap[w.heap.size + 1]? = some (.cells b tb (0,0))∧((((w.alloc (.cells a ta)).alloc (.cells b tb)).alloc (.cells c tc)).alloc (.cells d td)).heap[w.heap.size + 2]? = some (.cells c tc (0,0))∧((((w.alloc (.cells a ta)).alloc (.cells b tb)).alloc (.cells c tc)).alloc (.cells d td)).heap[w.heap.size + 3]? = some (.cells d td (0,0))∧((((w.alloc (.cells a ta)).alloc (.cells b tb)).alloc (.cells c tc)).alloc (.cells d td)).heap.size = w.heap.size + 4:=by
  have h1:=heap_at (w.alloc (.cells a ta)) (.cells b tb) _ rfl
  have h2:=heap_at ((w.alloc (.cells a ta)).alloc (.cells b tb)) (.cells c tc) _ rfl
  have h3:=heap_at (((w.alloc (.cells a ta)).alloc (.cells b tb)).alloc (.cells c tc)) (.cells d td) _ rfl
  simp only [World.size_alloc] at h1 h2 h3
  refine ⟨Below.andThen (Below.andThen (Below.andThen (below_alloc _ _) (below_alloc _ _)) (below_alloc _ _)) (below_alloc _ _),keepz (keepz (keepz (heap_at w _ _ rfl) (below_alloc _ _)) (below_alloc _ _)) (below_alloc _ _),keepz (keepz h1 (below_alloc _ _)) (below_alloc _ _),keepz h2 (below_alloc _ _),h3,by simp only [World.size_alloc]⟩
theorem sstore_func {w:World} {a:Addr} {u:Value} (f:Fn) (c b:Array Value) (h:w.cell? a = some u) (hf:w.frozen? a = false):(store a (.func f c b)).run Tryz.prog w = .ok () (w.setCell a (.func f c b)):=by
  rw [run_store _ _ _ _ _ rfl,h]
  simp [hf]
theorem store_three0 (w:World) (f:Fn) (c b:Array Value) (u v x:Value) (ty:TypeId):(store ⟨w.heap.size,0,none⟩ (.func f c b)).run Tryz.prog (w.alloc (.cells #[u,v,x] ty)) = .ok () ((w.alloc (.cells #[u,v,x] ty)).setCell ⟨w.heap.size,0,none⟩ (.func f c b)):=by
  have h:=heap_at w (.cells #[u,v,x] ty) _ rfl
  exact sstore_func f c b (u:=u) (by rw [cell_of_row _ _ _ _ _ (0,0) h];rfl) (frozen_of_row _ _ 0 _ _ h)
theorem store_three1 (w:World) (f:Fn) (c b:Array Value) (u v x:Value) (ty:TypeId):(store ⟨w.heap.size,1,none⟩ (.func f c b)).run Tryz.prog (w.alloc (.cells #[u,v,x] ty)) = .ok () ((w.alloc (.cells #[u,v,x] ty)).setCell ⟨w.heap.size,1,none⟩ (.func f c b)):=by
  have h:=heap_at w (.cells #[u,v,x] ty) _ rfl
  exact sstore_func f c b (u:=v) (by rw [cell_of_row _ _ _ _ _ (0,0) h];rfl) (frozen_of_row _ _ 1 _ _ h)
theorem store_three2 (w:World) (f:Fn) (c b:Array Value) (u v x:Value) (ty:TypeId):(store ⟨w.heap.size,2,none⟩ (.func f c b)).run Tryz.prog (w.alloc (.cells #[u,v,x] ty)) = .ok () ((w.alloc (.cells #[u,v,x] ty)).setCell ⟨w.heap.size,2,none⟩ (.func f c b)):=by
  have h:=heap_at w (.cells #[u,v,x] ty) _ rfl
  exact sstore_func f c b (u:=x) (by rw [cell_of_row _ _ _ _ _ (0,0) h];rfl) (frozen_of_row _ _ 2 _ _ h)
theorem pair_visit {fk:Nat} {lk:Array Value} {fa:Nat} {la:Array Value} {fb:Nat} {lb:Array Value} {B k:Nat} {kf:Tri→Bool} {g:G3} {I:World→Prop} {G:Nat→Prop} (h:MkS fk lk fa la fb lb B k kf g I G) {hm hg base:Nat} (hl:Lies G B hm hg base) :
    VisitL fk lk 177 #[.pointer (some ⟨hg,0,none⟩),.pointer (some ⟨hm,0,none⟩)] (some (179,#[.pointer (some ⟨hg,0,none⟩)])) B k 1000000 kf (RMd g) (fun _ => False) (MadeI I G #[.func (.func fk) #[] lk,.func (.func fa) #[] la,.func (.func fb) #[] lb] k hm hg base) (fun _ => False) where
  entk:=h.entk
  entt:=enters_of Tryz.func177 (by kernel_rfl) rfl
  entl:=by
    intro fl ll e
    simp only [Option.some.injEq,Prod.mk.injEq] at e
    obtain ⟨rfl,rfl⟩:=e
    exact enters_of Tryz.func179 (by kernel_rfl) rfl
  frame:=fun us w w' F hI hs hb hk => hI.frame h.stay hs hb hk
  inb:=fun us w F hI => hI.inb h.inb hl
  up:=fun _ _ _ _ _ _ _ _ h => h
  known:=fun us w F u x y hI hu ho ha hb hB => h.known w u x y hI.i hu ho ha hb hB
  tell:=fun us w F u hI hu ho ht hB hM => (sPair1_c h hl hI hu ho ht hB (by omega)).mono fun e w' ⟨F',h1,h2,h3,h4,h5⟩ => ⟨F',h1,h2,.inl ⟨h3,h4,h5⟩⟩
  leaven:=fun e => by cases e
  leave:=by
    intro fl ll e us xs w F f bs hI hf hc _ hrem ha hB hM hcn
    simp only [Option.some.injEq,Prod.mk.injEq] at e
    obtain ⟨rfl,rfl⟩:=e
    exact sPair2_c h hl hI hf hc hrem ha hB hM hcn
set_option maxRecDepth 1000000 in
set_option maxHeartbeats 8000000 in
theorem sMkPair_c {fk:Nat} {lk:Array Value} {fa:Nat} {la:Array Value} {fb:Nat} {lb:Array Value} {B k:Nat} {kf:Tri→Bool} {g:G3} {I:World→Prop} {G:Nat→Prop} (h:MkS fk lk fa la fb lb B k kf g I G) {w:World} {u:Tri} (hI:I w) (hu:TriN w B k u) (ho:u.o = none) (hB:B≤w.heap.size) (hT:∀ w',Below B w w'→Tz w') (hM:Tr.wgt3 u≤1000000) (hcn:cnt3 u≤1000000000) :
    Calls Tryz.prog 131 #[mkV fk lk fa la fb lb,prS u] w fun e w' => ∃ x y:Option T,e = .returned (p2V (rootP x) (rootP y))∧NodeO w' w'.heap.size k x∧NodeO w' w'.heap.size k y∧Tr.entsO x = Tr.ppT g u∧Tr.entsO y = Tr.ppT g u∧Below B w w'∧Foot G w w':=by
  obtain ⟨W2,hW2⟩:∃ W2,W2 = (((w.alloc (.cells #[.func (.func fk) #[] lk,.func (.func fa) #[] la,.func (.func fb) #[] lb] 102)).alloc (.cells #[.pointer (rootP u.a),.pointer (rootP u.b)] 97)).alloc (.cells #[.pointer none,.pointer none] 97)).alloc (.cells #[.slice none 0 0] 239):=⟨_,rfl⟩
  obtain ⟨hb2,hm2,ha2,hr2,hg2,hs2⟩:Below w.heap.size w W2∧W2.heap[w.heap.size]? = some (.cells #[.func (.func fk) #[] lk,.func (.func fa) #[] la,.func (.func fb) #[] lb] 102 (0,0))∧W2.heap[w.heap.size + 1]? = some (.cells #[.pointer (rootP u.a),.pointer (rootP u.b)] 97 (0,0))∧W2.heap[w.heap.size + 2]? = some (.cells #[.pointer none,.pointer none] 97 (0,0))∧W2.heap[w.heap.size + 3]? = some (.cells #[.slice none 0 0] 239 (0,0))∧W2.heap.size = w.heap.size + 4:=by
    rw [hW2]
    exact four_boxes w _ _ _ _ _ _ _ _
  obtain ⟨W3,hW3⟩:∃ W3,W3 = W2.alloc (.cells #[.func (.func fk) #[] lk,(.func (.func 177) #[] #[.pointer (some ⟨w.heap.size + 3,0,none⟩),.pointer (some ⟨w.heap.size,0,none⟩)]),(.func (.func 179) #[] #[.pointer (some ⟨w.heap.size + 3,0,none⟩)])] 110):=⟨_,rfl⟩
  have hb3:Below W2.heap.size W2 W3:=by rw [hW3];exact below_alloc _ _
  have hl3:W3.heap[W2.heap.size]? = some (.cells #[.func (.func fk) #[] lk,(.func (.func 177) #[] #[.pointer (some ⟨w.heap.size + 3,0,none⟩),.pointer (some ⟨w.heap.size,0,none⟩)]),(.func (.func 179) #[] #[.pointer (some ⟨w.heap.size + 3,0,none⟩)])] 110 (0,0)):=by rw [hW3];exact heap_at W2 _ _ rfl
  have hs3:W3.heap.size = w.heap.size + 5:=by rw [hW3,World.size_alloc,hs2]
  have s0:=store_three0 W2 (.func fk) #[] lk .nilFunc .nilFunc .nilFunc 110
  have s1:=store_three1 W2 (.func 177) #[] #[.pointer (some ⟨w.heap.size + 3,0,none⟩),.pointer (some ⟨w.heap.size,0,none⟩)] (.func (.func fk) #[] lk) .nilFunc .nilFunc 110
  have s2:=store_three2 W2 (.func 179) #[] #[.pointer (some ⟨w.heap.size + 3,0,none⟩)] (.func (.func fk) #[] lk) (.func (.func 177) #[] #[.pointer (some ⟨w.heap.size + 3,0,none⟩),.pointer (some ⟨w.heap.size,0,none⟩)]) .nilFunc 110
  have hb:=Below.andThen hb2 hb3
  have hm3:=keepz hm2 hb3
  have ha3:=keepz ha2 hb3
  have hr3:=keepz hr2 hb3
  have hg3:=keepz hg2 hb3
  obtain ⟨y0,-,-⟩:=mk_cells hm2
  obtain ⟨l0,l1,l2⟩:=lockS_cells hl3
  obtain ⟨p0,p1,-⟩:=atS_cells ha3
  have hGlt:∀ b,G b→b < w.heap.size:=fun b hb => (h.inb w hI b hb).1
  have hL:Lies G B w.heap.size (w.heap.size + 3) (w.heap.size + 5):=⟨⟨hB,by omega⟩,⟨by omega,by omega⟩,by omega,fun b hb => by have:=hGlt b hb;omega⟩
  have hT':Hid (Calls Tryz.prog 77 #[.agg #[.func (.func fk) #[] lk,(.func (.func 177) #[] #[.pointer (some ⟨w.heap.size + 3,0,none⟩),.pointer (some ⟨w.heap.size,0,none⟩)]),(.func (.func 179) #[] #[.pointer (some ⟨w.heap.size + 3,0,none⟩)])],prS u] W3 fun e w' => e = .returned (.tuple #[])∧∃ x y:Option T,∃ D d cur,w'.heap[w.heap.size + 3]? = some (.cells #[.slice (some ⟨D,0,none⟩) 1 d] 239 (0,0))∧w'.heap[D]? = some (.cells cur 97 (0,0))∧cur[0]? = some (.pointer (rootP x))∧cur[1]? = some (.pointer (rootP y))∧1≤d∧w'.heap[w.heap.size + 2]? = some (.cells #[.pointer none,.pointer none] 97 (0,0))∧NodeO w' w'.heap.size k x∧NodeO w' w'.heap.size k y∧Tr.entsO x = Tr.ppT g u∧Tr.entsO y = Tr.ppT g u∧Below B w w'∧Foot G w w'):=Lib.hid (by
    refine (sThrough_c (pair_visit h hL) (w:=W3) (F0:=fun b => G b∨b = w.heap.size∨b = w.heap.size + 3∨(Value.slice none 0 0).ownBlock = some b) ⟨h.below hI hb,hm3,⟨none,0,hg3,rowZ_nil _ _ _,rfl⟩,fun m hm => (by cases hm),by rw [hs3];exact Nat.le_refl _⟩ (t0:=u) (hu.below hb hB (Nat.le_refl _)) ho (Nat.le_trans hB hb.size) (fun v hv => hT v ((hb.mono hB).trans hv)) hM hcn).mono ?_
    rintro e w' ⟨rfl,F',hfo,⟨⟨x,y⟩,hR,hMI,-⟩ | ⟨hf,-⟩⟩
    · obtain ⟨D,d,hg',hrow,-⟩:=hMI.row
      obtain ⟨D',d',cur,hvv,-,-,hh,p0,p1⟩:=RowZ.at mdQ_ok hrow (i:=0) (x:=(x,y)) rfl
      obtain ⟨D2,d2,hv2,hle⟩:=RowZ.slice hrow
      simp only [Value.slice.injEq] at hvv hv2
      obtain ⟨rfl,-,rfl⟩:=hvv
      obtain ⟨hn1,hn2⟩:=hMI.nd (x,y) (by simp)
      refine ⟨rfl,x,y,D',d,cur,hg',hh,by simpa using p0,by simpa using p1,by rw [hv2.2.2];exact hle,?_,hn1,hn2,hR.1,hR.2,(hb.mono hB).trans (hfo.below (Nat.le_trans hB hb.size) fun b hb' => ?_),(Foot.of_below hb).trans hfo fun b hb' => ?_⟩
      · refine (hfo.block _ (by rw [hs3];omega) fun c => ?_).trans hr3
        rcases c with c | c | c | c
        · have:=hGlt _ c;omega
        · omega
        · omega
        · simp [Value.ownBlock] at c
      · rcases hb' with c | c | c | c
        · exact (h.inb w hI b c).2
        · omega
        · omega
        · simp [Value.ownBlock] at c
      · rcases hb' with c | c | c | c
        · exact .inl c
        · exact .inr (by omega)
        · exact .inr (by omega)
        · simp [Value.ownBlock] at c
    · exact hf.elim)
  have HW:=Lib.hid (And.intro hW2 hW3)
  have HB:=Lib.hid hB
  have hse:w.heap.size + 4 = W2.heap.size:=hs2.symm
  clear h hI hu ho hB hT hM hcn hb2 hm2 ha2 hr2 hg2 hb3 hl3 hs3 hb hm3 ha3 hr3 hg3 hGlt hL hW2 hW3 hs2
  go_enter Tryz.func131,Tryz.ntmps131
  go_upto_region 2 with fail
  rw [← HW.out.1]
  go_upto_region 3 with fail
  rw [← HW.out.2]
  clear s0 s1 s2 y0
  go_wp2_with fail
  refine hT'.out.mono ?_
  rintro e w5 ⟨rfl,x,y,D,d,cur,hg5,hh5,c0,c1,hd5,hr5,n1,n2,n3,n4,hb5,hf5⟩
  obtain ⟨px,hpx⟩:∃ p,rootP x = p:=⟨_,rfl⟩
  obtain ⟨py,hpy⟩:∃ p,rootP y = p:=⟨_,rfl⟩
  rw [hpx] at c0
  rw [hpy] at c1
  have z0:w5.cell? ⟨w.heap.size + 3,0,none⟩ = some (.slice (some ⟨D,0,none⟩) 1 d):=by rw [cell_of_row w5 _ _ _ _ (0,0) hg5];rfl
  have z1:w5.cell? ⟨D,0,none⟩ = some (.pointer px):=by rw [cell_of_row w5 _ _ _ _ (0,0) hh5];exact c0
  have z2:w5.cell? ⟨D,1,none⟩ = some (.pointer py):=by rw [cell_of_row w5 _ _ _ _ (0,0) hh5];exact c1
  obtain ⟨r0,r1,f0⟩:=pr_cells hr5
  have f1:=f0 1
  have f0:=f0 0
  have r2:=set2 (.pointer px) (.pointer py) hr5
  obtain ⟨t0,t1,-⟩:=pr_cells r2
  have H5:=Lib.hid (And.intro n1 (And.intro n2 (And.intro n3 (And.intro n4 (And.intro (pair_keeps (k:=k) hr5 (by decide) px py) (And.intro ((hb5.setCell (p:=⟨w.heap.size + 2,0,none⟩) (by have:=HB.out;show B≤w.heap.size + 2;omega) (.pointer px)).setCell (p:=⟨w.heap.size + 2,1,none⟩) (by have:=HB.out;show B≤w.heap.size + 2;omega) (.pointer py)) (And.intro hpx (And.intro hpy ((hf5.trans (Foot.setCell w5 (F:=fun b => b = w.heap.size + 2) (a:=⟨w.heap.size + 2,0,none⟩) rfl (.pointer px)) (fun b hb => .inr (by omega))).trans (Foot.setCell _ (F:=fun b => b = w.heap.size + 2) (a:=⟨w.heap.size + 2,1,none⟩) rfl (.pointer py)) (fun b hb => .inr (by omega)))))))))))
  clear hg5 hh5 c0 c1 hd5 hr5 n1 n2 n3 n4 hb5 hf5 r2 hpx hpy hT' l0 l1 l2 p0 p1
  go_wp2_with fail
  refine bodyPost_ret (v:=p2V px py) (by simp [results,Tryz.results131,go_sem,t0,t1]) rfl ?_
  obtain ⟨h1,h2,h3,h4,hkp,hb9,hpx,hpy,hf9⟩:=H5.out
  exact ⟨x,y,by rw [hpx,hpy],Kp.nodeO hkp (by simp) h1,Kp.nodeO hkp (by simp) h2,h3,h4,hb9,hf9⟩
end Go.Proofs.YtkeepngaaleakaaGreatDoor
