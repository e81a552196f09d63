import Derived.Test.YtkeepngaaleakaaGreatDoorMV2
namespace Go.Proofs.YtkeepngaaleakaaGreatDoor
open Go.ChangeShapes Go.WideShapes Go.ChangeAt Go.RowKit
open Tr (T S4 Ent Tri)
section
variable {α:Type} {n:Nat} {Q:(Nat→Option Value)→α→Prop} {Z:Nat→Value→Prop}
def RowZ (e:TypeId) (n:Nat) (Q:(Nat→Option Value)→α→Prop) (Z:Nat→Value→Prop) (w:World) (base:Nat) (v:Value) (L:List α):Prop :=
  (v = .slice none 0 0∧L = [])∨∃ g cap cur vs,v = .slice (some ⟨g,0,none⟩) L.length cap∧base≤g∧w.heap[g]? = some (.cells cur e (0,0))∧L.length≤cap∧cap≤maxLen∧cur.size = cap * n∧cur.toList.take (L.length * n) = vs∧LCells n Q vs L∧∀ i c,L.length * n≤i→cur[i]? = some c→Z (i % n) c
variable {e:TypeId} {w w':World} {base:Nat} {v:Value} {L:List α}
theorem RowZ.block (h:RowZ e n Q Z w base v L) (hb:∀ q,v.ownBlock = some q→w'.heap[q]? = w.heap[q]?):RowZ e n Q Z w' base v L:=by
  rcases h with h | ⟨g,cap,cur,vs,rfl,hg,hh,r⟩
  · exact .inl h
  · exact .inr ⟨g,cap,cur,vs,rfl,hg,(hb g rfl).trans hh,r⟩
theorem RowZ.lt (h:RowZ e n Q Z w base v L):∀ q,v.ownBlock = some q→base≤q∧q < w.heap.size:=by
  intro q hq
  rcases h with ⟨rfl,-⟩ | ⟨g,cap,cur,vs,rfl,hg,hh,r⟩
  · simp [Value.ownBlock] at hq
  · simp only [Value.ownBlock,Option.some.injEq] at hq
    subst hq
    exact ⟨hg,(Array.getElem?_eq_some_iff.1 hh).1⟩
theorem RowZ.nt {g:Nat} {e':TypeId} (h:RowZ e n Q Z w base v L) (hv:v.ownBlock = some g) (hne:e≠e'):∀ c,w.heap[g]?≠some (.cells c e' (0,0)):=fun c hc => by
  rcases h with ⟨rfl,-⟩ | ⟨g',cap,cur,vs,rfl,-,hh,-⟩
  · simp [Value.ownBlock] at hv
  · simp only [Value.ownBlock,Option.some.injEq] at hv
    subst hv
    rw [hh] at hc
    cases hc
    exact hne rfl
theorem RowZ.below {C:Nat} (h:RowZ e n Q Z w base v L) (hb:Below C w w') (hC:w.heap.size≤C):RowZ e n Q Z w' base v L :=
  h.block fun q hq => hb.block q (by have:=(h.lt q hq).2;omega)
theorem RowZ.slice (h:RowZ e n Q Z w base v L):∃ D d,v = .slice D L.length d∧L.length≤d:=by
  rcases h with ⟨rfl,rfl⟩ | ⟨g,cap,cur,vs,rfl,-,-,h,-⟩
  · exact ⟨none,0,rfl,Nat.le_refl _⟩
  · exact ⟨_,_,rfl,h⟩
theorem rowZ_nil (e:TypeId) (w:World) (base:Nat):RowZ e n Q Z w base (.slice none 0 0) []:=.inl ⟨rfl,rfl⟩
theorem RowZ.at (hQ:QOk n Q) (h:RowZ e n Q Z w base v L) {i:Nat} {x:α} (hx:L[i]? = some x):∃ g d cur,v = .slice (some ⟨g,0,none⟩) L.length d∧base≤g∧g < w.heap.size∧w.heap[g]? = some (.cells cur e (0,0))∧Q (fun j => cur[i * n + j]?) x:=by
  rcases h with ⟨-,rfl⟩ | ⟨g,cap,cur,vs,h1,hg,hh,h2,h3,h4,h5,h6,-⟩
  · simp at hx
  · refine ⟨g,cap,cur,h1,hg,(Array.getElem?_eq_some_iff.1 hh).1,hh,hQ.ext _ _ _ (fun j hj => ?_) (h6.2 i x hx)⟩
    have hi:=(List.getElem?_eq_some_iff.1 hx).1
    rw [← h5,List.getElem?_take,if_pos (idx_lt hi hj)]
    simp
theorem mod_add_mul (a i n:Nat):(a * n + i) % n = i % n:=by rw [Nat.add_comm,Nat.add_mul_mod_self_right]
theorem zeroCells_at {z:Array Value} {m i:Nat} {c:Value} (h:(Builtin.zeroCells z m)[i]? = some c) (hz:0 < z.size):z[i % z.size]? = some c:=by
  simp only [Builtin.zeroCells,Array.getElem?_map] at h
  obtain ⟨j,hj,rfl⟩:=Option.map_eq_some_iff.1 h
  have hji:j = i:=by
    obtain ⟨hl,hj⟩:=Array.getElem?_eq_some_iff.1 hj
    simpa using hj.symm
  subst hji
  have hlt:=Nat.mod_lt j hz
  simp [hlt]
theorem run_append_rowZ (t ty:TypeId) (z:Value) (sz:Nat) (hu:Tryz.prog.underlying t = some (.slice e)) (hinfo:(Tryz.prog.info? e).map (fun i => (i.zero,i.size,i.bytes)) = some (some z,n,sz)) (hzc:z.cells.size = n) (hn0:0 < n) (hsz:sz≤1000) (hQ:QOk n Q) (hZ:∀ i c,z.cells[i]? = some c→Z i c)
    (h:RowZ e n Q Z w base v L) (x:α) (us:List Value) (hus:us.length = n) (hx:Q (fun j => us[j]?) x) (ad:Addr) (c:Nat) (hnews:∀ j u,us[j]? = some u→w.cell? (ad.add j) = some u) (hl:L.length≤1000000) (hbase:base≤w.heap.size) :
    ∃ D d w',(Builtin.append_ #[t,t] ty #[v,.slice (some ad) 1 c]).run Tryz.prog w = .ok (.slice D (L.length + 1) d) w'∧RowZ e n Q Z w' base (.slice D (L.length + 1) d) (L ++ [x])∧w.grownBy w' v.ownBlock ∧
      ((Value.slice D (L.length + 1) d).ownBlock = v.ownBlock∨(Value.slice D (L.length + 1) d).ownBlock = some w.heap.size)∧(∀ q i u,v.ownBlock = some q→w.cell? ⟨q,i,none⟩ = some u→w'.cell? ⟨q,i,none⟩ = some u∨L.length * n≤i):=by
  obtain ⟨i0,hi0,hz0,hz1,hz2⟩:=info_parts hinfo
  have hone:LCells n Q us [x]:=⟨by simpa using hus,fun i a ha => by
    cases i with
    | zero =>
      simp only [List.getElem?_cons_zero,Option.some.injEq] at ha
      subst ha
      refine hQ.ext _ _ _ (fun j _ => ?_) hx
      simp
    | succ i => simp at ha⟩
  have hone1:=hone.one hQ
  have hbyt:(L.length + 1) * sz≤140737488355328:=by
    have hm:=Nat.mul_le_mul (show L.length + 1≤1000001 by omega) hsz
    omega
  have grown:∀ old vs,LCells n Q vs L→RowZ e n Q Z (w.drew.alloc (.cells (vs.toArray ++ us.toArray ++ Builtin.zeroCells z.cells (grownCap w (L.length + 1) old e - (L.length + 1))) e)) base (.slice (some ⟨w.heap.size,0,none⟩) (L.length + 1) (grownCap w (L.length + 1) old e)) (L ++ [x]):=by
    intro old vs hvs
    have hge:=grownCap_ge w (L.length + 1) old e
    have hcm:=grownCap_le_maxLen w (L.length + 1) old e (by unfold maxLen;omega)
    have hlen:(vs ++ us).length = (L.length + 1) * n:=by rw [List.length_append,hvs.1,hus,Nat.succ_mul]
    refine .inr ⟨w.heap.size,_,_,vs ++ us,by simp,hbase,World.alloc_heap_new w.drew _,by simp;omega,hcm,?_,?_,hvs.append hQ hone,fun i c' hi hc => ?_⟩
    · simp only [Array.size_append,List.size_toArray,size_zeroCells,hzc,hvs.1,hus]
      have e1:L.length * n + n = (L.length + 1) * n:=by rw [Nat.succ_mul]
      rw [e1,← Nat.add_mul,Nat.add_sub_of_le hge]
    · simp only [Array.toList_append,List.length_append,List.length_singleton]
      rw [← hlen]
      exact List.take_left
    · simp only [List.length_append,List.length_singleton] at hi
      obtain ⟨r,rfl⟩:∃ r,i = (L.length + 1) * n + r:=⟨i - (L.length + 1) * n,by omega⟩
      have hsz2:(vs.toArray ++ us.toArray).size = (L.length + 1) * n:=by simpa using hlen
      rw [Array.getElem?_append_right (by rw [hsz2];omega),hsz2,Nat.add_sub_cancel_left] at hc
      have h2:=zeroCells_at hc (by rw [hzc];exact hn0)
      rw [hzc] at h2
      rw [mod_add_mul]
      exact hZ _ _ h2
  rcases h with ⟨rfl,rfl⟩ | ⟨g,cap,cur,vs,rfl,hg,hh,h1,h2,h3,h4,h5,h6⟩
  · have hr:=_root_.Go.run_append_nil (P:=Tryz.prog) w t ty e i0 z hu hi0 hz0 ad 1 c us (by rw [hz1,hus,Nat.one_mul]) hnews (by omega) (by omega) (by rw [hz2];omega)
    have hgr:=grown 0 [] (LCells.nil n Q)
    simp only [List.length_nil,Nat.zero_add] at hgr hr ⊢
    rw [show ([]:List Value).toArray ++ us.toArray = us.toArray by simp] at hgr
    exact ⟨_,_,_,hr,hgr,⟨rfl,rfl,rfl,by simp,fun k hk _ => Below.heap_alloc w.drew _ k hk⟩,.inr rfl,fun q i u hq => by simp [Value.ownBlock] at hq⟩
  · have hvs:vs.length = L.length * n:=h5.1
    have hcap:L.length * n≤cur.size:=by rw [h3];exact Nat.mul_le_mul_right _ h1
    by_cases hroom:L.length + 1≤cap
    · have hfit:L.length * n + n≤cur.size:=by rw [h3,← Nat.succ_mul];exact Nat.mul_le_mul_right _ hroom
      have hr:=run_append_room (P:=Tryz.prog) w t ty e i0 hu hi0 g L.length cap cur hh ad 1 c us (by rw [hz1,hus,Nat.one_mul]) hnews hone1 hroom (by rw [hz1,hus];exact hfit)
      rw [hz1,h4,hus] at hr
      have hin:∀ i,i < L.length * n→(vs ++ us ++ cur.toList.drop (L.length * n + n)).toArray[i]? = cur[i]?:=fun i hi => by
        rw [List.getElem?_toArray,List.append_assoc,List.getElem?_append_left (by omega),← h4,List.getElem?_take,if_pos hi]
        simp
      refine ⟨some ⟨g,0,none⟩,cap,_,hr,.inr ⟨g,cap,_,vs ++ us,by simp,hg,setRow_heap w g cur _ _ _ hh,by simp;omega,h2,?_,?_,h5.append hQ hone,fun i c' hi hc => ?_⟩,⟨rfl,rfl,rfl,by simp,fun k _ hk => setRow_other w g k _ (fun e => hk (by simp [Value.ownBlock,e]))⟩,.inl rfl,fun q i u hq hu' => ?_⟩
      · simp only [List.size_toArray,List.length_append,List.length_drop,Array.length_toList,hvs,hus]
        omega
      · simp only [List.length_append,List.length_singleton]
        have hlen:(vs ++ us).length = (L.length + 1) * n:=by rw [List.length_append,hvs,hus,Nat.succ_mul]
        rw [← hlen]
        exact List.take_left
      · simp only [List.length_append,List.length_singleton] at hi
        have hlen:(vs ++ us).length = L.length * n + n:=by rw [List.length_append,hvs,hus]
        rw [Nat.succ_mul] at hi
        rw [List.getElem?_toArray,List.getElem?_append_right (by omega),hlen,List.getElem?_drop,show L.length * n + n + (i - (L.length * n + n)) = i by omega] at hc
        exact h6 i c' (by omega) (by simpa using hc)
      · simp only [Value.ownBlock,Option.some.injEq] at hq
        subst hq
        rcases Nat.lt_or_ge i (L.length * n) with hi | hi
        · left
          rw [cell_of_row _ _ _ _ _ (0,0) (setRow_heap w g cur _ _ _ hh),hin i hi,← cell_of_row w g i cur e (0,0) hh]
          exact hu'
        · exact .inr hi
    · have hcells:∀ j u,vs[j]? = some u→w.cell? ((⟨g,0,none⟩:Addr).add j) = some u:=fun j u hj => by
        rw [Go.WideShapes.add_plain,Nat.zero_add,cell_of_row w g j cur e (0,0) hh]
        rw [← h4] at hj
        rw [List.getElem?_take] at hj
        split at hj
        · simpa using hj
        · cases hj
      have hr:=run_append_grow (P:=Tryz.prog) w t ty e i0 z hu hi0 hz0 ⟨g,0,none⟩ L.length cap vs (by rw [hz1];exact hvs) hcells ad 1 c us (by rw [hz1,hus,Nat.one_mul]) hnews (by omega) (by omega) (growslice_fits (by omega) (by rw [hz2];omega))
      refine ⟨_,_,_,hr,grown cap vs h5,⟨rfl,rfl,rfl,by simp,fun k hk _ => Below.heap_alloc w.drew _ k hk⟩,.inr rfl,fun q i u hq hu' => .inl ?_⟩
      simp only [Value.ownBlock,Option.some.injEq] at hq
      subst hq
      rw [World.cell?_of_block (w:=w) (a:=⟨g,i,none⟩) (Below.heap_alloc w.drew _ g (Array.getElem?_eq_some_iff.1 hh).1)]
      exact hu'
end
section
variable {W W':World} {r:Nat}
def NoU (W:World) (r:Nat):Prop:=∀ i u,W.cell? ⟨r,i,none⟩ = some u→(∀ n,u≠.int .u64 n)∧∀ n,u≠.int .u16 n
theorem rdV_far (hk:∀ b,b≠r→W'.heap[b]? = W.heap[b]?) (hu:NoU W r) {B:Nat} {A:Option Addr} {xs:List Value} (h:RdV W B A xs) (hx:∀ x∈xs,(∃ n,x = .int .u64 n)∨∃ n,x = .int .u16 n):RdV W' B A xs:=by
  intro hn
  obtain ⟨b,off,hA,hb,hc⟩:=h hn
  have hbr:b≠r:=by
    rintro rfl
    obtain ⟨x,hm⟩:=List.exists_mem_of_ne_nil _ hn
    obtain ⟨i,hi⟩:=List.getElem?_of_mem hm
    obtain ⟨h1,h2⟩:=hu _ _ (hc i x hi)
    rcases hx x hm with ⟨n,e⟩ | ⟨n,e⟩
    · exact h1 n e
    · exact h2 n e
  exact ⟨b,off,hA,hb,fun i v hi => cell_far hk hbr (hc i v hi)⟩
theorem nd_keep (hk:∀ b,b≠r→W'.heap[b]? = W.heap[b]?) (hu:NoU W r) {B g:Nat} {lev:Int} {pre:List Nat} {v:Nat} {kp:Option Addr} {s:S4} (h:NdAt W B g lev pre v kp s) (hw:TrB W g):NdAt W' B g lev pre v kp s∧TrB W' g:=by
  obtain ⟨h0,⟨A,c,hpt,h1⟩,h2,h3,h4,h5,h6,h7,h8⟩:=h
  have hg:g≠r:=by
    rintro rfl
    exact (hu _ _ h3).1 _ rfl
  refine ⟨⟨h0,⟨A,c,rdV_pts hpt.1 (rdV_far hk hu (pts_rdV hpt) fun x hx => ?_),cell_far hk hg h1⟩,cell_far hk hg h2,cell_far hk hg h3,cell_far hk hg h4,cell_far hk hg h5,cell_far hk hg h6,cell_far hk hg h7,cell_far hk hg h8⟩,hw.keep (hk g hg)⟩
  simp only [vals,List.mem_map] at hx
  obtain ⟨n,-,rfl⟩:=hx
  exact .inl ⟨_,rfl⟩
theorem rdE_far {e:TypeId} (hk:∀ b,b≠r→W'.heap[b]? = W.heap[b]?) (hnt:∀ c,W.heap[r]?≠some (.cells c e (0,0))) {B:Nat} {A:Option Addr} {xs:List Value} (h:RdE e W B A xs):RdE e W' B A xs:=by
  have key:xs≠[]→∀ ad,A = some ad→ad.block≠r:=fun hn ad hA => by
    rintro rfl
    obtain ⟨c,hc⟩:=h.ty hn ad hA
    exact hnt c hc
  refine ⟨fun hn => ?_,fun hn ad hA => ?_⟩
  · obtain ⟨b,off,hA,hb,hc⟩:=h.rd hn
    have hbr:b≠r:=key hn _ hA
    exact ⟨b,off,hA,hb,fun i v hi => cell_far hk hbr (hc i v hi)⟩
  · obtain ⟨c,hc⟩:=h.ty hn ad hA
    exact ⟨c,(hk _ (key hn ad hA)).trans hc⟩
theorem at_keep (hk:∀ b,b≠r→W'.heap[b]? = W.heap[b]?) (hnt:∀ c,W.heap[r]?≠some (.cells c 81 (0,0))) (hu:NoU W r) {B b k:Nat} {L:Sn.Al} (h:Sn.At W B b k L):Sn.At W' B b k L:=by
  refine ⟨h.1,?_⟩
  have hr:=h.2
  generalize hd:Sl.dense k L = d at hr ⊢
  cases d
  · obtain ⟨h0,A,c,D,c',k0,k1,k2,k3,h5,h6,h7,h8⟩:=hr
    have hb:b≠r:=by rintro rfl;exact (hu _ _ k1).1 _ rfl
    refine ⟨h0,A,c,D,c',cell_far hk hb k0,cell_far hk hb k1,cell_far hk hb k2,cell_far hk hb k3,h5,h6,rdV_far hk hu h7 fun x hx => ?_,rdE_far hk hnt h8⟩
    simp only [Sn.u16V,List.mem_map] at hx
    obtain ⟨n,-,rfl⟩:=hx
    exact .inr ⟨_,rfl⟩
  · obtain ⟨h0,hkk,hL,P,D,c',k0,k1,k2,k3,h5,h6,h7⟩:=hr
    have hb:b≠r:=by rintro rfl;exact (hu _ _ k1).1 _ rfl
    exact ⟨h0,hkk,hL,P,D,c',cell_far hk hb k0,cell_far hk hb k1,cell_far hk hb k2,cell_far hk hb k3,h5,h6,rdE_far hk hnt h7⟩
theorem node_keep (hk:∀ b,b≠r→W'.heap[b]? = W.heap[b]?) (hnt:∀ c,W.heap[r]?≠some (.cells c 81 (0,0))) (hu:NoU W r) {B k:Nat} {t:T} (hn:Node W B k t):Node W' B k t:=by
  obtain ⟨hw,hm⟩:=hn
  refine ⟨hw,?_⟩
  induction hm with
  | ent g p v h hwb => exact .ent g p v (nd_keep hk hu h hwb).1 (nd_keep hk hu h hwb).2
  | br g l pre ks b h hA hkk hwb ih => exact .br g l pre ks b (nd_keep hk hu h hwb).1 (at_keep hk hnt hu hA) (fun y hy => ih y hy (hw.kid hy)) (nd_keep hk hu h hwb).2
end
theorem Node.all {W:World} {B k:Nat}:∀ (n:Nat) {t:T},t.all.length≤n→Node W B k t→∀ x∈t.all,Node W B k x:=by
  intro n
  induction n with
  | zero => intro t h;have:=Tr.all_pos t;omega
  | succ n ih =>
    intro t h hn x hx
    cases t with
    | ent g p v =>
      rw [Tr.all_eq] at hx
      simp only [T.ks,Tr.allK,List.flatMap_nil,List.mem_singleton] at hx
      rw [hx]
      exact hn
    | br g l pre ks =>
      rw [Tr.all_br] at hx h
      rcases List.mem_cons.1 hx with rfl | hx
      · exact hn
      · obtain ⟨y,hy,hxy⟩:=List.mem_flatMap.1 hx
        refine ih ?_ (hn.kid hy) x hxy
        have hle:y.2.all.length≤(Tr.allK ks).length:=by
          unfold Tr.allK
          obtain ⟨a,b,rfl⟩:=List.append_of_mem hy
          simp only [List.flatMap_append,List.flatMap_cons,List.length_append]
          omega
        simp only [List.length_cons] at h
        omega
def Kp (k:Nat) (w w':World):Prop:=∀ B t,B≤w.heap.size→Node w B k t→Node w' B k t
theorem Kp.of_below {k:Nat} {w w':World} (h:Below w.heap.size w w'):Kp k w w':=fun _ _ hB hn => hn.below h hB (Nat.le_refl _)
theorem Kp.trans {k:Nat} {w w1 w2:World} (h:Kp k w w1) (h':Kp k w1 w2) (hs:w.heap.size≤w1.heap.size):Kp k w w2:=fun B t hB hn => h' B t (Nat.le_trans hB hs) (h B t hB hn)
theorem kp_one {k g:Nat} {w w':World} (hgr:w.grownBy w' (some g)) (hnt:∀ c,w.heap[g]?≠some (.cells c 81 (0,0))) (hu:NoU w g):Kp k w w':=by
  intro B t hB hn
  have hk:∀ b,b≠g→b < w.heap.size→w'.heap[b]? = w.heap[b]?:=fun b hb hbl => hgr.block b hbl (by simp only [ne_eq,Option.some.injEq];exact fun e => hb e)
  let wm:World:={ w with heap:=w'.heap.extract 0 w.heap.size }
  have hwm:∀ b,b < w.heap.size→wm.heap[b]? = w'.heap[b]?:=fun b hb => by
    show (w'.heap.extract 0 w.heap.size)[b]? = _
    rw [Array.getElem?_extract]
    have:=hgr.size
    rw [if_pos (by omega)]
    congr 1
    omega
  have hwn:∀ b,w.heap.size≤b→wm.heap[b]? = none:=fun b hb => by
    show (w'.heap.extract 0 w.heap.size)[b]? = _
    rw [Array.getElem?_extract]
    have:=hgr.size
    rw [if_neg (by omega)]
  have hkm:∀ b,b≠g→wm.heap[b]? = w.heap[b]?:=fun b hb => by
    rcases Nat.lt_or_ge b w.heap.size with c | c
    · rw [hwm b c,hk b hb c]
    · rw [hwn b c,Array.getElem?_eq_none c]
  have hnm:Node wm B k t:=node_keep (r:=g) hkm hnt hu hn
  exact hnm.below (C:=w.heap.size) ⟨hgr.os,hgr.tape,hgr.output,by have:=hgr.size;show (w'.heap.extract 0 w.heap.size).size≤_;simp;omega,fun b hb => (hwm b hb).symm⟩ hB (Nat.le_refl _)
theorem kp_row {k:Nat} {w w':World} {v:Value} (hgr:w.grownBy w' v.ownBlock) (h:∀ g,v.ownBlock = some g→(∀ c,w.heap[g]?≠some (.cells c 81 (0,0)))∧NoU w g):Kp k w w':=by
  cases hv:v.ownBlock with
  | none =>
    rw [hv] at hgr
    exact Kp.of_below ⟨hgr.os,hgr.tape,hgr.output,by exact hgr.size,fun b hb => hgr.block b hb (by simp)⟩
  | some g =>
    rw [hv] at hgr
    exact kp_one hgr (h g hv).1 (h g hv).2
def NU (c:Value):Prop:=(∀ n,c≠.int .u64 n)∧∀ n,c≠.int .u16 n
theorem nu_ptr (p:Option Addr):NU (.pointer p):=⟨fun _ e => (by cases e),fun _ e => (by cases e)⟩
theorem nu_int (m:Int):NU (.int .i64 m):=⟨fun _ e => (by cases e),fun _ e => (by cases e)⟩
theorem nu_slice (A:Option Addr) (n c:Nat):NU (.slice A n c):=⟨fun _ e => (by cases e),fun _ e => (by cases e)⟩
section
variable {α:Type} {e:TypeId} {n:Nat} {Q:(Nat→Option Value)→α→Prop} {Z:Nat→Value→Prop} {w w':World} {base:Nat} {v:Value} {L:List α}
theorem RowZ.noU {g:Nat} (h:RowZ e n Q Z w base v L) (hn:0 < n) (hq:∀ f x,Q f x→∀ j c,j < n→f j = some c→NU c) (hz:∀ i c,Z i c→NU c) (hv:v.ownBlock = some g):NoU w g:=by
  rcases h with ⟨rfl,-⟩ | ⟨g',cap,cur,vs,rfl,-,hh,h1,h2,h3,h4,h5,h6⟩
  · simp [Value.ownBlock] at hv
  · simp only [Value.ownBlock,Option.some.injEq] at hv
    subst hv
    intro i u hu
    rw [cell_of_row w g' i cur _ (0,0) hh] at hu
    rcases Nat.lt_or_ge i (L.length * n) with c | c
    · have hd:i / n < L.length:=Nat.div_lt_of_lt_mul (by rw [Nat.mul_comm];exact c)
      obtain ⟨x,hx⟩:=get_lt hd
      refine hq _ x (h5.2 _ x hx) (i % n) u (Nat.mod_lt _ hn) ?_
      have e1:i / n * n + i % n = i:=by rw [Nat.mul_comm];exact Nat.div_add_mod i n
      show vs[i / n * n + i % n]? = _
      rw [e1,← h4,List.getElem?_take,if_pos c]
      simpa using hu
    · exact hz _ u (h6 i u c hu)
theorem RowZ.keeps {k:Nat} (h:RowZ e n Q Z w base v L) (hn:0 < n) (hq:∀ f x,Q f x→∀ j c,j < n→f j = some c→NU c) (hz:∀ i c,Z i c→NU c) (hne:e≠81) (hgr:w.grownBy w' v.ownBlock):Kp k w w' :=
  kp_row hgr fun _ hv => ⟨h.nt hv hne,h.noU hn hq hz hv⟩
end
/-! ### places -/
structure Pl where
  a:Nat
  t:Tri
  m:Option T
section
variable {w:World} {α:Type} {n:Nat} {Q:(Nat→Option Value)→α→Prop} {Z:Nat→Value→Prop}
theorem step_append_rowZ {ops:Array Oper} {o:Oper} {a:Act} {K:Act→World→Prop} {P:Exit→Act→World→Prop} {E:Prop} (t e:TypeId) (z:Value) (sz:Nat) (hu:Tryz.prog.underlying t = some (.slice e)) (hinfo:(Tryz.prog.info? e).map (fun i => (i.zero,i.size,i.bytes)) = some (some z,n,sz)) (hzc:z.cells.size = n) (hn0:0 < n) (hsz:sz≤1000) (hQ:QOk n Q) (hZ:∀ i c,z.cells[i]? = some c→Z i c)
    (hgd:o.guard = none) (s x:Operand) (ho:o.op = .call { callee:=.builtin .append,args:=#[s,x],argTypes:=#[t,t] }) (base:Nat) (v:Value) (L:List α) (m:Nat) (hm:L.length + 1 = m) (hs:a.eval s = v) (hown:RowZ e n Q Z w base v L)
    (y:α) (us:List Value) (hus:us.length = n) (hy:Q (fun j => us[j]?) y) (ad:Addr) (c:Nat) (hx:a.eval x = .slice (some ad) 1 c) (hnews:∀ j u,us[j]? = some u→w.cell? (ad.add j) = some u) (hlen:L.length≤1000000) (hbase:base≤w.heap.size)
    (h:∀ D d w',RowZ e n Q Z w' base (.slice D m d) (L ++ [y])→w.grownBy w' v.ownBlock→((Value.slice D m d).ownBlock = v.ownBlock∨(Value.slice D m d).ownBlock = some w.heap.size)→(∀ q i u,v.ownBlock = some q→w.cell? ⟨q,i,none⟩ = some u→w'.cell? ⟨q,i,none⟩ = some u∨L.length * n≤i)→K (a.put o.dst (.slice D m d)) w') :
    if Region.wanted o (yielded ops a.tmps) = true then Oper.wp Tryz.prog o a w K P else E:=by
  subst hm
  have hw:Region.wanted o (yielded ops a.tmps) = true:=by simp [Region.wanted,hgd]
  rw [if_pos hw]
  obtain ⟨D,d,w',hr,h2,h3,h4,h5⟩:=run_append_rowZ t o.type z sz hu hinfo hzc hn0 hsz hQ hZ hown y us hus hy ad c hnews hlen hbase
  unfold Oper.wp execOp
  simp only [ho,resolve,invoke,builtin,Sem.run_bind,Sem.run_pure,Result.andThen_ok,List.map_toArray,List.map_cons,List.map_nil,hs,hx,hr]
  exact h D d w' h2 h3 h4 h5
theorem wpList_append_rowZ {ops:Array Oper} {rest:List Oper} {o:Oper} {a:Act} {K:Exit→Act→World→Prop} (t e:TypeId) (z:Value) (sz:Nat) (hu:Tryz.prog.underlying t = some (.slice e)) (hinfo:(Tryz.prog.info? e).map (fun i => (i.zero,i.size,i.bytes)) = some (some z,n,sz)) (hzc:z.cells.size = n) (hn0:0 < n) (hsz:sz≤1000) (hQ:QOk n Q) (hZ:∀ i c,z.cells[i]? = some c→Z i c)
    (hgd:o.guard = none) (s x:Operand) (ho:o.op = .call { callee:=.builtin .append,args:=#[s,x],argTypes:=#[t,t] }) (base:Nat) (v:Value) (L:List α) (m:Nat) (hm:L.length + 1 = m) (hs:a.eval s = v) (hown:RowZ e n Q Z w base v L)
    (y:α) (us:List Value) (hus:us.length = n) (hy:Q (fun j => us[j]?) y) (ad:Addr) (c:Nat) (hx:a.eval x = .slice (some ad) 1 c) (hnews:∀ j u,us[j]? = some u→w.cell? (ad.add j) = some u) (hlen:L.length≤1000000) (hbase:base≤w.heap.size)
    (h:∀ D d w',RowZ e n Q Z w' base (.slice D m d) (L ++ [y])→w.grownBy w' v.ownBlock→((Value.slice D m d).ownBlock = v.ownBlock∨(Value.slice D m d).ownBlock = some w.heap.size)→(∀ q i u,v.ownBlock = some q→w.cell? ⟨q,i,none⟩ = some u→w'.cell? ⟨q,i,none⟩ = some u∨L.length * n≤i)→wpList Tryz.prog ops K rest (a.put o.dst (.slice D m d)) w') :
    wpList Tryz.prog ops K (o :: rest) a w:=by
  subst hm
  refine wpList_plain hgd fun K hK => ?_
  obtain ⟨D,d,w',hr,h2,h3,h4,h5⟩:=run_append_rowZ t o.type z sz hu hinfo hzc hn0 hsz hQ hZ hown y us hus hy ad c hnews hlen hbase
  unfold Oper.wp execOp
  simp only [ho,resolve,invoke,builtin,Sem.run_bind,Sem.run_pure,Result.andThen_ok,List.map_toArray,List.map_cons,List.map_nil,hs,hx,hr]
  exact hK _ _ (h D d w' h2 h3 h4 h5)
end
end Go.Proofs.YtkeepngaaleakaaGreatDoor
