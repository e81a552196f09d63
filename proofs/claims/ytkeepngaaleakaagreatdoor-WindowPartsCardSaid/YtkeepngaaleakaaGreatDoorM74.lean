import Derived.Test.YtkeepngaaleakaaGreatDoorM72
namespace Go.Proofs.YtkeepngaaleakaaGreatDoor
open Go.ChangeShapes Go.WideShapes Go.ChangeAt Go.RowKit
open Tr (T S4 Ent)
theorem infoPtr:(Tryz.prog.info? 81).map (fun i => (i.zero,i.size,i.bytes)) = some (some (.pointer none),1,8):=by kernel_rfl
def RowP (w:World) (base:Nat) (v:Value) (us:List T):Prop :=
  (v = .slice none 0 0∧us = [])∨∃ g cap cur,v = .slice (some ⟨g,0,none⟩) us.length cap∧base≤g∧w.heap[g]? = some (.cells cur 81 (0,0))∧us.length≤cap∧cap≤maxLen∧cur.size = cap∧cur.toList.take us.length = ptrV us∧∀ c∈cur.toList.drop us.length,c = Value.pointer none
section
variable {w:World} {base:Nat} {v:Value} {us:List T}
theorem RowP.own (h:RowP w base v us):OwnV 81 w base v (ptrV us):=by
  refine ⟨fun x hx => ?_,by simp,?_⟩
  · simp only [ptrV,List.mem_map] at hx
    obtain ⟨u,-,rfl⟩:=hx
    rfl
  · rcases h with ⟨hv,hu⟩ | ⟨g,cap,cur,hv,hg,hh,h1,h2,h3,h4,-⟩
    · exact .inl ⟨hv,by simp [hu,ptrV]⟩
    · have hl:(ptrV us).length = us.length:=by simp [ptrV]
      exact .inr ⟨g,cap,cur,by rw [hl];exact hv,hg,hh,by omega,h2,by omega,by rw [hl,Nat.mul_one];exact h4⟩
theorem zeroCells_none (n:Nat):∀ c∈(Builtin.zeroCells (Value.pointer none).cells n).toList,c = Value.pointer none:=by
  intro c hc
  simp [Builtin.zeroCells,Value.cells] at hc
  obtain ⟨i,-,rfl⟩:=hc
  rw [Nat.mod_one]
  rfl
theorem run_append_rowP {t:T} (h:RowP w base v us) (ty:TypeId) (a:Addr) (c:Nat) (ha:w.cell? a = some (.pointer (some ⟨t.blk,0,none⟩))) (hp:a.add 0 = a) (hl:us.length≤1000000) (hbase:base≤w.heap.size) :
    ∃ v' w',(Builtin.append_ #[144,144] ty #[v,.slice (some a) 1 c]).run Tryz.prog w = .ok v' w'∧RowP w' base v' (us ++ [t])∧w.grownBy w' v.ownBlock∧(v'.ownBlock = v.ownBlock∨v'.ownBlock = some w.heap.size):=by
  obtain ⟨i0,hi0,hz0,hz1,hz2⟩:=info_parts infoPtr
  have hnews:∀ j u,[Value.pointer (some ⟨t.blk,0,none⟩)][j]? = some u→w.cell? (a.add j) = some u:=fun j u hj => by
    cases j with
    | zero =>
      simp only [List.getElem?_cons_zero,Option.some.injEq] at hj
      rw [hp,ha,hj]
    | succ j => simp at hj
  have hpt:ptrV (us ++ [t]) = ptrV us ++ [Value.pointer (some ⟨t.blk,0,none⟩)]:=by simp [ptrV,ndV]
  have hpl:(ptrV us).length = us.length:=by simp [ptrV]
  have grown:∀ old,RowP (w.drew.alloc (.cells ((ptrV us).toArray ++ [Value.pointer (some ⟨t.blk,0,none⟩)].toArray ++ Builtin.zeroCells (Value.pointer none).cells (grownCap w (us.length + 1) old 81 - (us.length + 1))) 81)) base (.slice (some ⟨w.heap.size,0,none⟩) (us.length + 1) (grownCap w (us.length + 1) old 81)) (us ++ [t]):=by
    intro old
    have hge:=grownCap_ge w (us.length + 1) old 81
    have hcm:=grownCap_le_maxLen w (us.length + 1) old 81 (by unfold maxLen;omega)
    refine .inr ⟨w.heap.size,_,_,by simp,hbase,World.alloc_heap_new w.drew _,by simp;omega,hcm,?_,?_,?_⟩
    · simp only [Array.size_append,List.size_toArray,size_zeroCells,hpl,List.length_singleton]
      have:(Value.pointer none).cells.size = 1:=rfl
      rw [this]
      omega
    · rw [hpt]
      simp only [Array.toList_append]
      rw [List.take_append_of_le_length (by simp [hpl])]
      exact List.take_of_length_le (by simp [hpl])
    · intro x hx
      simp only [Array.toList_append] at hx
      rw [List.drop_append_of_le_length (by simp [hpl]),List.drop_of_length_le (by simp [hpl]),List.nil_append] at hx
      exact zeroCells_none _ x hx
  rcases h with ⟨rfl,rfl⟩ | ⟨g,cap,cur,rfl,hg,hh,h1,h2,h3,h4,h5⟩
  · have hr:=_root_.Go.run_append_nil (P:=Tryz.prog) w 144 ty 81 i0 (Value.pointer none) Tryz.underlying144 hi0 hz0 a 1 c [Value.pointer (some ⟨t.blk,0,none⟩)] (by simp [hz1]) hnews (by omega) (by omega) (by rw [hz2];omega)
    have hgr:=grown 0
    simp only [ptrV,List.map_nil,List.length_nil,Nat.zero_add,Array.empty_append] at hgr hr
    exact ⟨_,_,hr,hgr,⟨rfl,rfl,rfl,by simp,fun k hk _ => Below.heap_alloc w.drew _ k hk⟩,.inr rfl⟩
  · by_cases hroom:us.length + 1≤cap
    · have hr:=run_append_room (P:=Tryz.prog) w 144 ty 81 i0 Tryz.underlying144 hi0 g us.length cap cur hh a 1 c [Value.pointer (some ⟨t.blk,0,none⟩)] (by simp [hz1]) hnews (fun u hu => by rw [List.mem_singleton] at hu;subst hu;rfl) hroom (by rw [hz1];simp;omega)
      rw [hz1,Nat.mul_one,h4] at hr
      refine ⟨_,_,hr,.inr ⟨g,cap,_,by simp,hg,setRow_heap w g cur _ _ _ hh,by simp;omega,h2,?_,?_,?_⟩,⟨rfl,rfl,rfl,by simp,fun k _ hk => setRow_other w g k _ (fun e => hk (by simp [Value.ownBlock,e]))⟩,.inl rfl⟩
      · simp only [List.size_toArray,List.length_append,hpl,List.length_drop,Array.length_toList,List.length_singleton]
        omega
      · rw [hpt]
        rw [List.take_append_of_le_length (by simp [hpl])]
        exact List.take_of_length_le (by simp [hpl])
      · intro x hx
        rw [List.drop_append_of_le_length (by simp [hpl]),List.drop_of_length_le (by simp [hpl]),List.nil_append] at hx
        refine h5 x ?_
        simp only [List.length_singleton] at hx
        rw [← List.drop_drop] at hx
        exact List.mem_of_mem_drop hx
    · have hr:=run_append_grow (P:=Tryz.prog) w 144 ty 81 i0 (Value.pointer none) Tryz.underlying144 hi0 hz0 ⟨g,0,none⟩ us.length cap (ptrV us) (by rw [hz1,hpl];omega) (RowP.own (.inr ⟨g,cap,cur,rfl,hg,hh,h1,h2,h3,h4,h5⟩) |>.2.cells (by simp [Value.ownBlock])) a 1 c [Value.pointer (some ⟨t.blk,0,none⟩)] (by simp [hz1]) hnews (by omega) (by omega) (growslice_fits (by omega) (by rw [hz2];omega))
      exact ⟨_,_,hr,grown cap,⟨rfl,rfl,rfl,by simp,fun k hk _ => Below.heap_alloc w.drew _ k hk⟩,.inr rfl⟩
theorem RowP.block {w':World} (h:RowP w base v us) (hb:∀ q,v.ownBlock = some q→w'.heap[q]? = w.heap[q]?):RowP w' base v us:=by
  rcases h with h | ⟨g,cap,cur,rfl,hg,hh,r⟩
  · exact .inl h
  · exact .inr ⟨g,cap,cur,rfl,hg,(hb g rfl).trans hh,r⟩
theorem RowP.lt (h:RowP w base v us):∀ q,v.ownBlock = some q→q < w.heap.size∧base≤q:=by
  intro q hq
  rcases h with ⟨rfl,-⟩ | ⟨g,cap,cur,rfl,hg,hh,r⟩
  · simp [Value.ownBlock] at hq
  · simp only [Value.ownBlock,Option.some.injEq] at hq
    subst hq
    exact ⟨(Array.getElem?_eq_some_iff.1 hh).1,hg⟩
theorem RowP.slice (h:RowP w base v us):∃ D d,v = .slice D us.length d:=by
  rcases h with ⟨rfl,rfl⟩ | ⟨g,cap,cur,rfl,-⟩
  · exact ⟨none,0,rfl⟩
  · exact ⟨_,_,rfl⟩
theorem wpList_append_rowP {ops:Array Oper} {rest:List Oper} {o:Oper} {a:Act} {Q:Exit→Act→World→Prop} {t:T} {m:Nat} (hgd:o.guard = none) (s x:Operand) (ho:o.op = .call { callee:=.builtin .append,args:=#[s,x],argTypes:=#[144,144] }) (hs:a.eval s = v) (h:RowP w base v us) (hm:us.length + 1 = m)
    (ad:Addr) (c:Nat) (hx:a.eval x = .slice (some ad) 1 c) (ha:w.cell? ad = some (.pointer (some ⟨t.blk,0,none⟩))) (hp:ad.add 0 = ad) (hl:us.length≤1000000) (hbase:base≤w.heap.size)
    (hk:∀ D d w',RowP w' base (.slice D m d) (us ++ [t])→w.grownBy w' v.ownBlock→((Value.slice D m d).ownBlock = v.ownBlock∨(Value.slice D m d).ownBlock = some w.heap.size)→wpList Tryz.prog ops Q rest (a.put o.dst (.slice D m d)) w'):wpList Tryz.prog ops Q (o :: rest) a w:=by
  refine wpList_plain hgd fun K hK => ?_
  obtain ⟨v',w',hr,h1,h2,h3⟩:=run_append_rowP h o.type ad c ha hp hl hbase
  obtain ⟨D,d,rfl⟩:=h1.slice
  rw [List.length_append,List.length_singleton,hm] at h1 h3 hr
  unfold Oper.wp
  simp [execOp,ho,resolve,invoke,builtin,hs,hx,hr,Result.andThen]
  exact hK _ _ (hk D d w' h1 h2 h3)
end
end Go.Proofs.YtkeepngaaleakaaGreatDoor
