import Derived.Test.YtkeepngaaleakaaGreatDoorMY1
namespace Go.Proofs.YtkeepngaaleakaaGreatDoor
open Go.ChangeShapes Go.WideShapes Go.ChangeAt Go.RowKit
open Tr (T S4 Ent KL)
abbrev mtV (m:Mt):Value:=.agg #[.int .i64 (m.a:Int),.pointer (some ⟨m.x.blk,0,none⟩),.pointer (rootP m.n)]
def sameM (m:Mt):Bool:=decide (rootP m.n = rootP (some m.x))
set_option maxRecDepth 100000 in
theorem wWo1_c {w:World} {k:Nat} {m:Mt} (h:MtOk w k m):Calls Tryz.prog 110 #[mtV m] w fun e w' => e = .returned (.bool (sameM m))∧Below w.heap.size w w':=by
  have hb:=below_alloc w (.cells #[.int .i64 (m.a:Int),.pointer (some ⟨m.x.blk,0,none⟩),.pointer (rootP m.n)] 160)
  have h1:NodeO (w.alloc (.cells #[.int .i64 (m.a:Int),.pointer (some ⟨m.x.blk,0,none⟩),.pointer (rootP m.n)] 160)) w.heap.size k m.n:=fun t ht => (h.2.1 t ht).below (C:=w.heap.size) hb (Nat.le_refl _) (Nat.le_refl _)
  have h2:NodeO (w.alloc (.cells #[.int .i64 (m.a:Int),.pointer (some ⟨m.x.blk,0,none⟩),.pointer (rootP m.n)] 160)) w.heap.size k (some m.x):=NodeO.some (h.1.below (C:=w.heap.size) hb (Nat.le_refl _) (Nat.le_refl _))
  have he:=nodeP_one h1 h2
  have hd:decide (rootP m.n = rootP (some m.x)) = sameM m:=rfl
  rw [hd] at he
  obtain ⟨r,hr⟩:∃ r,sameM m = r:=⟨_,rfl⟩
  rw [hr] at he ⊢
  obtain ⟨P,hP⟩:∃ P,rootP m.n = P:=⟨_,rfl⟩
  clear h1 h2 hd
  unfold mtV
  rw [show rootP (some m.x) = some ⟨m.x.blk,0,none⟩ from rfl,hP] at he
  rw [hP]
  rw [hP] at hb
  go_enter Tryz.func110,Tryz.ntmps110
  go_wp2_with fail
  refine bodyPost_ret (v:=.bool r) (by simp [results,Tryz.results110,go_sem]) rfl ?_
  exact ⟨rfl,by ((repeat first | refine bD ?_ | with_reducible refine bN ?_ | refine bA ?_ | refine bS ?_);first | exact bR | assumption | exact bN bR | exact bN (bN bR))⟩
def firstM (L:List Mt) (i:Nat):Prop:=(∀ j x,j < i→L[j]? = some x→sameM x = false)∧∃ x,L[i]? = some x∧sameM x = true
set_option maxRecDepth 1000000 in
set_option maxHeartbeats 4000000 in
theorem wIdxF_c {w:World} {R m c k:Nat} {A:Option Addr} {L:List Mt} (hrow:Lst 3 MtQ w R A L) (hR:R≤w.heap.size) (hm:L.length = m) (hm6:m≤65536) (hok:∀ x∈L,MtOk w k x) :
    Calls Tryz.prog 164 #[.slice A m c,.func (.func 110) #[] #[]] w fun e w' => ((e = .returned (.int .i64 (-1))∧∀ x∈L,sameM x = false)∨∃ i:Nat,i < m∧e = .returned (.int .i64 (i:Int))∧firstM L i)∧Below w.heap.size w w':=by
  have HX:=Lib.hid (And.intro hrow (And.intro hR (And.intro hm hok)))
  have hm9:(m:Int)≤65536:=by omega
  clear hrow hR hm hok
  go_enter Tryz.func164,Tryz.ntmps164
  go_wp2_with fail
  go_loopw [8] (fun v wr => ∃ (j:Nat),v = .int .i64 (j:Int)∧j≤m∧(∀ i x,i < j→L[i]? = some x→sameM x = false)∧Below w.heap.size w wr) (fun v _ => m - (intOf v).toNat)
  case atStart => exact ⟨0,rfl,Nat.zero_le _,fun i c hi => by omega,Below.refl _ _⟩
  case round =>
    obtain ⟨j,rfl,hj,hat,hbr⟩:=hrel
    by_cases hlt:j < m
    · obtain ⟨y,hy⟩:=get_lt (us:=L) (k:=j) (by rw [HX.out.2.2.1];exact hlt)
      obtain ⟨b,off,hA,hb,hq⟩:=HX.out.1 (by rintro rfl;simp at hy)
      obtain ⟨q0,q1,q2⟩:=hq j y hy
      have hbw:=Nat.lt_of_lt_of_le hb HX.out.2.1
      have z0:=(hbr.cell (p:=⟨b,_,none⟩) hbw).trans q0
      have z1:=(hbr.cell (p:=⟨b,_,none⟩) hbw).trans q1
      have z2:=(hbr.cell (p:=⟨b,_,none⟩) hbw).trans q2
      simp only [Nat.add_zero] at z0
      have hoky:MtOk wr k y:=by
        obtain ⟨o1,o2,o3⟩:=HX.out.2.2.2 y (List.mem_of_getElem? hy)
        exact ⟨o1.below hbr (Nat.le_refl _) hbr.size,fun t ht => (o2 t ht).below hbr (Nat.le_refl _) hbr.size,o3⟩
      have f1:decide ((j:Int) < (m:Int)) = true:=decide_eq_true (by omega)
      have f1':decide (j < m) = true:=decide_eq_true hlt
      have m1:(0:Int)≤(j:Int):=by omega
      have m2:(j:Int) < (m:Int):=by omega
      have m3:(j:Int)≤65536:=by omega
      subst hA
      have HS:=Lib.hid (wWo1_c hoky)
      obtain ⟨s,hs⟩:∃ s,sameM y = s:=⟨_,rfl⟩
      rw [hs] at HS
      have HY:=Lib.hid (And.intro hy (And.intro hat (And.intro hbr (And.intro hlt hs))))
      clear hy hat hbr hlt hs hq hj hoky q0 q1 q2
      cases s with
      | false =>
        go_wp2_with (go_at_call 110;refine HS.out.mono ?_;rintro e w2 ⟨rfl,hb2⟩;have H2:=Lib.hid hb2;clear hb2)
        go_roundw
        case rel =>
          refine ⟨j + 1,by first | rfl | go_num,by have:=HY.out.2.2.2.1;omega,fun i x hi hx => ?_,HY.out.2.2.1.trans (H2.out.mono HY.out.2.2.1.size)⟩
          rcases Nat.lt_or_ge i j with h | h
          · exact HY.out.2.1 i x h hx
          · obtain rfl:i = j:=by omega
            obtain rfl:y = x:=Option.some.inj (HY.out.1.symm.trans hx)
            exact HY.out.2.2.2.2
        case measure =>
          have:=HY.out.2.2.2.1
          show m - ((j:Int) + 1).toNat < m - (j:Int).toNat
          omega
      | true =>
        go_wp2_with (go_at_call 110;refine HS.out.mono ?_;rintro e w2 ⟨rfl,hb2⟩;have H2:=Lib.hid hb2;clear hb2)
        go_ret
        exact ⟨.inr ⟨j,HY.out.2.2.2.1,rfl,HY.out.2.1,y,HY.out.1,HY.out.2.2.2.2⟩,HY.out.2.2.1.trans (H2.out.mono HY.out.2.2.1.size)⟩
    · have hjn:m = j:=by omega
      subst hjn
      have f1:decide ((m:Int) < (m:Int)) = false:=decide_eq_false (by omega)
      have f1':decide (m < m) = false:=decide_eq_false (by omega)
      have HY:=Lib.hid (And.intro hat hbr)
      clear hat hbr hlt hj
      go_wp2_with fail
      go_ret
      refine ⟨.inl ⟨rfl,fun x hx => ?_⟩,HY.out.2⟩
      obtain ⟨i,hi⟩:=List.mem_iff_getElem?.1 hx
      exact HY.out.1 i x (by have:=(List.getElem?_eq_some_iff.1 hi).1;have:=HX.out.2.2.1;omega) hi
section
variable {w:World} {e:TypeId} {base g cap:Nat} {L:List Mt}
theorem rowZ_block:RowZ e 3 MtQ metZ w base (.slice (some ⟨g,0,none⟩) L.length cap) L↔∃ cur,base≤g∧w.heap[g]? = some (.cells cur e (0,0))∧L.length≤cap∧cap≤maxLen∧cur.size = cap * 3∧(∀ q m,L[q]? = some m→MtQ (fun j => cur[q * 3 + j]?) m)∧∀ i c,L.length * 3≤i→cur[i]? = some c→metZ (i % 3) c:=by
  constructor
  · rintro (⟨h,-⟩ | ⟨g',cap',cur,vs,h,hg,hh,h1,h2,h3,h4,h5,h6⟩)
    · simp at h
    · simp only [Value.slice.injEq,Option.some.injEq,Addr.mk.injEq,and_true,true_and] at h
      obtain ⟨rfl,rfl⟩:=h
      refine ⟨cur,hg,hh,h1,h2,h3,fun q m hm => mtQ_ok.ext _ _ _ (fun j hj => ?_) (h5.2 q m hm),h6⟩
      have hq:=(List.getElem?_eq_some_iff.1 hm).1
      rw [← h4,List.getElem?_take,if_pos (idx_lt hq hj)]
      simp
  · rintro ⟨cur,hg,hh,h1,h2,h3,h4,h5⟩
    have k3h:min (L.length * 3) cur.size = L.length * 3:=by omega
    refine .inr ⟨g,cap,cur,_,rfl,hg,hh,h1,h2,h3,rfl,⟨?_,fun q m hm => mtQ_ok.ext _ _ _ (fun j hj => ?_) (h4 q m hm)⟩,h5⟩
    · rw [List.length_take]
      exact k3h
    · have hq:=(List.getElem?_eq_some_iff.1 hm).1
      rw [List.getElem?_take,if_pos (idx_lt hq hj)]
      simp
theorem RowZ.put {n i:Nat} (h:RowZ e 3 MtQ metZ w base (.slice (some ⟨g,0,none⟩) n cap) L) (hn:L.length = n) (hi:i < n) (y:Mt) {a0 a1 a2:Value} (h0:a0 = .int .i64 (y.a:Int)) (h1:a1 = .pointer (some ⟨y.x.blk,0,none⟩)) (h2:a2 = .pointer (rootP y.n)) :
    RowZ e 3 MtQ metZ (((w.setCell ⟨g,i * 3,none⟩ a0).setCell ⟨g,i * 3 + 1,none⟩ a1).setCell ⟨g,i * 3 + 2,none⟩ a2) base (.slice (some ⟨g,0,none⟩) n cap) (L.set i y)∧w.grownBy (((w.setCell ⟨g,i * 3,none⟩ a0).setCell ⟨g,i * 3 + 1,none⟩ a1).setCell ⟨g,i * 3 + 2,none⟩ a2) (some g):=by
  subst hn
  obtain ⟨cur,hg,hh,k1,k2,k3,k4,k5⟩:=rowZ_block.1 h
  have e1:=heap_setCell_same w g (i * 3) cur e a0 hh
  have e2:=heap_setCell_same _ g (i * 3 + 1) _ e a1 e1
  have e3:=heap_setCell_same _ g (i * 3 + 2) _ e a2 e2
  constructor
  · rw [show L.length = (L.set i y).length by rw [List.length_set]]
    refine rowZ_block.2 ⟨_,hg,e3,by rw [List.length_set];exact k1,k2,by simpa using k3,fun q m hm => ?_,fun p c hp hc => ?_⟩
    · have hq:=(List.getElem?_eq_some_iff.1 hm).1
      rw [List.length_set] at hq
      by_cases hqi:q = i
      · subst hqi
        rw [List.getElem?_set_self hq] at hm
        cases hm
        refine ⟨?_,?_,?_⟩
        · simp only [Array.getElem?_setIfInBounds,Nat.add_zero]
          rw [if_neg (by omega),if_neg (by omega),if_pos trivial,if_pos (by omega),h0]
        · simp only [Array.getElem?_setIfInBounds,Array.size_setIfInBounds]
          rw [if_neg (by omega),if_pos trivial,if_pos (by omega),h1]
        · simp only [Array.getElem?_setIfInBounds,Array.size_setIfInBounds]
          rw [if_pos trivial,if_pos (by omega),h2]
      · rw [List.getElem?_set_ne (fun e => hqi e.symm)] at hm
        refine mtQ_ok.ext _ _ _ (fun j hj => ?_) (k4 q m hm)
        simp only [Array.getElem?_setIfInBounds]
        rw [if_neg (by omega),if_neg (by omega),if_neg (by omega)]
    · rw [List.length_set] at hp
      refine k5 p c hp ?_
      simp only [Array.getElem?_setIfInBounds] at hc
      rwa [if_neg (by omega),if_neg (by omega),if_neg (by omega)] at hc
  · refine ⟨rfl,rfl,rfl,by simp,fun k _ hk => ?_⟩
    have hkg:k≠g:=fun e => hk (by simp [e])
    rw [Below.heap_setCell _ _ _ k hkg,Below.heap_setCell _ _ _ k hkg,Below.heap_setCell _ _ _ k hkg]
theorem block_setCells3:∀ (vs:List Value) (o:Nat) (w:World) (cur:Array Value),w.heap[g]? = some (.cells cur e (0,0))→o + vs.length≤cur.size →
    ∃ cur',(w.setCells g o vs).heap[g]? = some (.cells cur' e (0,0))∧cur'.size = cur.size∧(∀ i,i < o→cur'[i]? = cur[i]?)∧(∀ i,o + vs.length≤i→cur'[i]? = cur[i]?)∧∀ i v,vs[i]? = some v→cur'[o + i]? = some v
  | [],o,w,cur,h,_ => ⟨cur,h,rfl,fun _ _ => rfl,fun _ _ => rfl,fun i v hv => by simp at hv⟩
  | x :: vs,o,w,cur,h,hl => by
    simp only [List.length_cons] at hl
    have h1:=heap_setCell_same w g o cur e x h
    obtain ⟨cur',h2,h3,h4,h5,h6⟩:=block_setCells3 vs (o + 1) (w.setCell ⟨g,o,none⟩ x) _ h1 (by simp only [Array.size_setIfInBounds];omega)
    refine ⟨cur',h2,by simpa using h3,fun i hi => ?_,fun i hi => ?_,fun i v hv => ?_⟩
    · rw [h4 i (by omega),Array.getElem?_setIfInBounds,if_neg (by omega)]
    · simp only [List.length_cons] at hi
      rw [h5 i (by omega),Array.getElem?_setIfInBounds,if_neg (by omega)]
    · cases i with
      | zero =>
        simp only [List.getElem?_cons_zero,Option.some.injEq] at hv
        subst hv
        rw [Nat.add_zero,h4 o (by omega),Array.getElem?_setIfInBounds,if_pos rfl,if_pos (by omega)]
      | succ i =>
        simp only [List.getElem?_cons_succ] at hv
        rw [show o + (i + 1) = o + 1 + i by omega]
        exact h6 i v hv
theorem grown_setCells3:∀ (vs:List Value) (o:Nat) (w:World),w.grownBy (w.setCells g o vs) (some g)
  | [],_,_ => ⟨rfl,rfl,rfl,Nat.le_refl _,fun _ _ _ => rfl⟩
  | x :: vs,o,w => by
    have h:=grown_setCells3 vs (o + 1) (w.setCell ⟨g,o,none⟩ x)
    exact ⟨h.os,h.tape,h.output,by rw [World.setCells];have:=h.size;simpa using this,fun k hk hne => (h.block k (by simpa using hk) hne).trans (Below.heap_setCell _ _ _ k (fun e => hne (by simp [e])))⟩
theorem RowZ.cleared {n j:Nat} (h:RowZ e 3 MtQ metZ w base (.slice (some ⟨g,0,none⟩) n cap) L) (hn:L.length = n) (hj:j≤n) {vs:List Value} (hv:vs.length = (n - j) * 3) (hz:∀ i c,vs[i]? = some c→metZ (i % 3) c) :
    RowZ e 3 MtQ metZ (w.setCells g (j * 3) vs) base (.slice (some ⟨g,0,none⟩) j cap) (L.take j)∧w.grownBy (w.setCells g (j * 3) vs) (some g):=by
  subst hn
  obtain ⟨cur,hg,hh,k1,k2,k3,k4,k5⟩:=rowZ_block.1 h
  obtain ⟨cur',c1,c2,c3,c4,c5⟩:=block_setCells3 vs (j * 3) w cur hh (by omega)
  have hlj:(L.take j).length = j:=by rw [List.length_take];omega
  constructor
  · have hgoal:=(rowZ_block (w:=w.setCells g (j * 3) vs) (e:=e) (base:=base) (g:=g) (cap:=cap) (L:=L.take j)).2 ⟨cur',hg,c1,by omega,k2,by omega,fun q m hm => ?_,fun i c hi hc => ?_⟩
    · rwa [hlj] at hgoal
    · have hq:=(List.getElem?_eq_some_iff.1 hm).1
      rw [hlj] at hq
      rw [List.getElem?_take,if_pos hq] at hm
      refine mtQ_ok.ext _ _ _ (fun p hp => ?_) (k4 q m hm)
      exact (c3 (q * 3 + p) (by omega)).symm
    · rw [hlj] at hi
      rcases Nat.lt_or_ge i (L.length * 3) with hlt | hge
      · obtain ⟨v,hv'⟩:=get_lt (us:=vs) (k:=i - j * 3) (by omega)
        have h1:=c5 (i - j * 3) v hv'
        rw [show j * 3 + (i - j * 3) = i by omega,hc] at h1
        cases h1
        have:=hz _ _ hv'
        rwa [show (i - j * 3) % 3 = i % 3 by omega] at this
      · rw [c4 i (by omega)] at hc
        exact k5 i c hge hc
  · exact grown_setCells3 vs _ w
end
def zeroM:Value:=.agg #[.int .i64 0,.pointer none,.pointer none]
theorem zeroM_len (n:Nat):(Builtin.zeroCells zeroM.cells n).toList.length = n * 3:=by
  simp [Builtin.zeroCells,zeroM,Value.cells]
theorem zeroM_at {n i:Nat} {c:Value} (h:(Builtin.zeroCells zeroM.cells n).toList[i]? = some c):metZ (i % 3) c∧c.oneCell' = true:=by
  rw [Array.getElem?_toList] at h
  have h1:=zeroCells_at h (by decide)
  have hs:zeroM.cells = #[.int .i64 0,.pointer none,.pointer none]:=rfl
  rw [hs] at h1
  have h3:i % 3 = 0∨i % 3 = 1∨i % 3 = 2:=by omega
  simp only [List.size_toArray,List.length_cons,List.length_nil] at h1
  rcases h3 with e | e | e
  · rw [show i % (0 + 1 + 1 + 1) = 0 from e] at h1
    simp at h1
    subst h1
    rw [e]
    exact ⟨⟨0,rfl⟩,rfl⟩
  · rw [show i % (0 + 1 + 1 + 1) = 1 from e] at h1
    simp at h1
    subst h1
    rw [e]
    exact ⟨rfl,rfl⟩
  · rw [show i % (0 + 1 + 1 + 1) = 2 from e] at h1
    simp at h1
    subst h1
    rw [e]
    exact ⟨rfl,rfl⟩
theorem run_clearM (w:World) (ty:TypeId) (b o n c:Nat) (hn:0 < n) (hc:∀ j,j < n * 3→(w.cell? ⟨b,o + j,none⟩).isSome = true) (hf:∀ j,j < n * 3→w.frozen? ⟨b,o + j,none⟩ = false) :
    (Builtin.clear_ #[157] ty #[.slice (some ⟨b,o,none⟩) n c]).run Tryz.prog w = .ok (.tuple #[]) (w.setCells b o (Builtin.zeroCells zeroM.cells n).toList):=by
  have hz:∀ w:World,(zeroValue 160).run Tryz.prog w = .ok zeroM w:=fun w => by kernel_rfl
  have hst:=run_storeCells_cells (P:=Tryz.prog) b o (Builtin.zeroCells zeroM.cells n).toList 0 w (by simpa only [zeroM_len,Nat.add_zero] using hc) (by simpa only [zeroM_len,Nat.add_zero] using hf) (fun v hv => by
    obtain ⟨i,hi⟩:=List.mem_iff_getElem?.1 hv
    exact (zeroM_at hi).2)
  simp only [Nat.add_zero] at hst
  have ht:Tryz.prog.underlying 157 = some (.slice 160):=Tryz.underlying157
  obtain ⟨m,rfl⟩:∃ m,n = m + 1:=⟨n - 1,by omega⟩
  simp [Builtin.clear_,run_underlying ht,hz,hst]
theorem RowZ.lstM {w:World} {e:TypeId} {base:Nat} {v:Value} {L:List Mt} (h:RowZ e 3 MtQ metZ w base v L):∃ A c,v = .slice A L.length c∧Lst 3 MtQ w w.heap.size A L:=by
  obtain ⟨D,d,rfl,-⟩:=h.slice
  refine ⟨D,d,rfl,fun hne => ?_⟩
  rcases h with ⟨-,rfl⟩ | ⟨g,cap,cur,vs,hv,hg,hh,h1,h2,h3,h4,h5,h6⟩
  · exact absurd rfl hne
  · simp only [Value.slice.injEq,true_and] at hv
    refine ⟨g,0,hv.1,(Array.getElem?_eq_some_iff.1 hh).1,fun i a ha => mtQ_ok.ext _ _ _ (fun j hj => ?_) (h5.2 i a ha)⟩
    have hi:=(List.getElem?_eq_some_iff.1 ha).1
    rw [cell_of_row w g _ cur _ (0,0) hh,Nat.zero_add,← h4,List.getElem?_take,if_pos (idx_lt hi hj)]
    simp
def restM (L:List Mt):List Mt:=L.filter fun m => !sameM m
theorem restM_snoc {L:List Mt} {i:Nat} {y:Mt} (h:L[i]? = some y):restM (L.take (i + 1)) = restM (L.take i) ++ (if sameM y then [] else [y]):=by
  unfold restM
  rw [List.take_add_one,h,List.filter_append]
  cases hs:sameM y <;> simp [hs]
theorem restM_mem {L:List Mt} {x:Mt} (h:x∈restM L):x∈L:=(List.mem_filter.1 h).1
theorem rest_put {F L:List Mt} {i j:Nat} {y:Mt} (hF:F.length = j) (hji:j≤i) (hy:L[i]? = some y):(F ++ L.drop j).set j y = (F ++ [y]) ++ L.drop (j + 1):=by
  have hi:=(List.getElem?_eq_some_iff.1 hy).1
  rw [List.set_append,if_neg (by omega),hF,Nat.sub_self,List.append_assoc]
  congr 1
  obtain ⟨z,hz⟩:=get_lt (us:=L) (k:=j) (by omega)
  rw [List.drop_eq_getElem_cons (by omega)]
  rfl
theorem rest_at {F L:List Mt} {i j:Nat} (hF:F.length = j) (hji:j≤i):(F ++ L.drop j)[i]? = L[i]?:=by
  rw [List.getElem?_append_right (by omega),List.getElem?_drop]
  congr 1
  omega
theorem rest_len {F L:List Mt} {j:Nat} (hF:F.length = j) (hj:j≤L.length):(F ++ L.drop j).length = L.length:=by
  rw [List.length_append,List.length_drop]
  omega
theorem rest_take {F L:List Mt} {j:Nat} (hF:F.length = j):(F ++ L.drop j).take j = F:=by
  rw [← hF]
  exact List.take_left
theorem restM_first {L:List Mt} {i:Nat} (h:firstM L i):restM (L.take (i + 1)) = L.take i:=by
  obtain ⟨h1,y,hy,hs⟩:=h
  rw [restM_snoc hy,hs,if_pos rfl,List.append_nil]
  unfold restM
  rw [List.filter_eq_self]
  intro a ha
  obtain ⟨p,hp⟩:=List.mem_iff_getElem?.1 ha
  have hl:=(List.getElem?_eq_some_iff.1 hp).1
  rw [List.length_take] at hl
  rw [List.getElem?_take,if_pos (by omega)] at hp
  rw [h1 p a (by omega) hp]
  rfl
theorem restM_all {L:List Mt} (h:∀ x∈L,sameM x = false):restM L = L:=by
  unfold restM
  rw [List.filter_eq_self]
  intro a ha
  rw [h a ha]
  rfl
end Go.Proofs.YtkeepngaaleakaaGreatDoor
