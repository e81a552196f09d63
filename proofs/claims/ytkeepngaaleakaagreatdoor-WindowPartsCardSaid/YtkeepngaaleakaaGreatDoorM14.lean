import Derived.Deep.Slices
import Derived.ShutString
import Derived.ChangeOld
import Derived.Test.YtkeepngaaleakaaGreatDoorM02
namespace Go.Proofs.YtkeepngaaleakaaGreatDoor
open Go.ChangeShapes Go.WideShapes Go.ChangeAt Go.RowKit
def Lst {α:Type} (n:Nat) (Q:(Nat→Option Value)→α→Prop) (w:World) (B:Nat) (A:Option Addr) (l:List α):Prop :=
  l≠[]→∃ b off,A = some ⟨b,off,none⟩∧b < B∧∀ (i:Nat) (a:α),l[i]? = some a→Q (fun j => w.cell? ⟨b,off + i * n + j,none⟩) a
theorem open_list {α H:Type} {enc:TypeId × Value→H} {W:World} {t e:TypeId} {n:Nat} (Q:(Nat→Option Value)→α→Prop) (ht:Tryz.prog.underlying t = some (.slice e)) (hn:Tryz.prog.cellsOf e = n) (hpos:0 < n)
    (each:∀ (fuel:Nat) (cs:List Value) (x:DataW H × List MemPlace) (f:Nat→Option Value),cs.length = n→DataW.trod enc Tryz.prog W 0 (fun _ => true) true fuel e cs = some x→(∀ j,j < n→f j = cs[j]?)→∃ a,Q f a)
    {fuel:Nat} {cs:List Value} {x:DataW H × List MemPlace} (h:DataW.trod enc Tryz.prog W 0 (fun _ => true) true fuel t cs = some x) :
    ∃ (A:Option Addr) (c:Nat) (l:List α),cs = [.slice A l.length c]∧l.length≤maxLen∧l.length≤c∧Lst n Q W W.heap.size A l:=by
  rcases Go.Deep.open_slice ht h with ⟨rfl,_⟩ | ⟨a,len,cap,m,fl,D,Pl,rfl,_,hl,hm,hmm,_,hx⟩
  · exact ⟨none,0,[],rfl,Nat.zero_le _,Nat.le_refl _,fun h => absurd rfl h⟩
  · rw [hn] at hx
    have hlm:len≤m:=by rw [hmm];split <;> omega
    have hsp:0 < len→∃ b off,a = ⟨b,off,none⟩∧b < W.heap.size:=by
      intro hi
      obtain ⟨cs',h1,_⟩:=hx 0 (by omega)
      obtain ⟨_,hlen,hc⟩:=World.cells?_some h1
      have h0:=hc 0 hpos
      rw [List.getElem?_eq_getElem (by omega)] at h0
      obtain ⟨b,off,spot⟩:=a
      have hspot:spot = none:=by
        have:=World.cell?_spot h0
        simpa [Addr.add] using this
      subst hspot
      rw [add_plain,add_plain] at h0
      exact ⟨b,off,rfl,World.block_lt_of_cell? W _ h0⟩
    have all:∀ k,k≤len→∃ l:List α,l.length = k∧∀ (i:Nat) (u:α),l[i]? = some u→Q (fun j => W.cell? ((a.add (i * n)).add j)) u:=by
      intro k
      induction k with
      | zero => exact fun _ => ⟨[],rfl,fun i u hu => by simp at hu⟩
      | succ k ih =>
        intro hk
        obtain ⟨l,hlen,hq⟩:=ih (by omega)
        obtain ⟨cs',h1,h2⟩:=hx k (by omega)
        obtain ⟨_,hcl,hc⟩:=World.cells?_some h1
        obtain ⟨u,hu⟩:=each _ cs' _ (fun j => W.cell? ((a.add (k * n)).add j)) hcl h2 hc
        refine ⟨l ++ [u],by simp [hlen],fun i v hv => ?_⟩
        by_cases hi:i < l.length
        · rw [List.getElem?_append_left hi] at hv
          exact hq i v hv
        · rw [List.getElem?_append_right (by omega)] at hv
          have hik:i = k:=by
            rcases Nat.lt_or_ge (i - l.length) 1 with h | h
            · omega
            · rw [List.getElem?_eq_none (by simpa using h)] at hv;cases hv
          subst hik
          rw [show i - l.length = 0 by omega] at hv
          cases hv
          exact hu
    obtain ⟨l,hlen,hq⟩:=all len (Nat.le_refl _)
    refine ⟨some a,cap,l,by rw [hlen],by omega,by omega,fun hne => ?_⟩
    have hlp:0 < len:=by
      rcases Nat.eq_zero_or_pos len with h | h
      · rw [h] at hlen;exact absurd (List.eq_nil_of_length_eq_zero hlen) hne
      · exact h
    obtain ⟨b,off,rfl,hb⟩:=hsp hlp
    refine ⟨b,off,rfl,hb,fun i u hu => ?_⟩
    have:=hq i u hu
    simp only [add_plain] at this
    exact this
structure QOk {α:Type} (n:Nat) (Q:(Nat→Option Value)→α→Prop):Prop where
  ext:∀ f g a,(∀ j,j < n→f j = g j)→Q f a→Q g a
  has:∀ f a,Q f a→∀ j,j < n→∃ u,f j = some u∧u.oneCell' = true
def LCells {α:Type} (n:Nat) (Q:(Nat→Option Value)→α→Prop) (vs:List Value) (L:List α):Prop:=vs.length = L.length * n∧∀ i a,L[i]? = some a→Q (fun j => vs[i * n + j]?) a
def OwnL {α:Type} (e:TypeId) (n:Nat) (Q:(Nat→Option Value)→α→Prop) (w:World) (base:Nat) (v:Value) (L:List α):Prop:=∃ vs,LCells n Q vs L∧w.ownsRow base e n v L.length vs
variable {α:Type} {n:Nat} {Q Q':(Nat→Option Value)→α→Prop}
theorem idx_lt {i j n m:Nat} (hi:i < m) (hj:j < n):i * n + j < m * n:=by
  have:(i + 1) * n≤m * n:=Nat.mul_le_mul_right _ hi
  rw [Nat.succ_mul] at this
  omega
theorem LCells.nil (n:Nat) (Q:(Nat→Option Value)→α→Prop):LCells n Q [] []:=⟨by simp,fun i a h => by simp at h⟩
theorem LCells.append (hQ:QOk n Q) {vs us:List Value} {L M:List α} (h:LCells n Q vs L) (k:LCells n Q us M):LCells n Q (vs ++ us) (L ++ M):=by
  refine ⟨by rw [List.length_append,List.length_append,h.1,k.1,Nat.add_mul],fun i a ha => ?_⟩
  rcases Nat.lt_or_ge i L.length with hi | hi
  · rw [List.getElem?_append_left hi] at ha
    exact hQ.ext _ _ _ (fun j hj => (List.getElem?_append_left (by rw [h.1];exact idx_lt hi hj)).symm) (h.2 i a ha)
  · rw [List.getElem?_append_right hi] at ha
    refine hQ.ext _ _ _ (fun j hj => ?_) (k.2 _ a ha)
    have h1:L.length * n≤i * n:=Nat.mul_le_mul_right _ hi
    rw [List.getElem?_append_right (by rw [h.1];omega),h.1,Nat.sub_mul]
    congr 1
    omega
theorem LCells.imp {vs:List Value} {L:List α} (h:LCells n Q vs L) (k:∀ f a,Q f a→Q' f a):LCells n Q' vs L:=⟨h.1,fun i a ha => k _ _ (h.2 i a ha)⟩
theorem LCells.one (hQ:QOk n Q) {vs:List Value} {L:List α} (h:LCells n Q vs L):∀ u∈vs,u.oneCell' = true:=by
  intro u hu
  obtain ⟨m,hm⟩:=List.mem_iff_getElem?.1 hu
  have hlt:=(List.getElem?_eq_some_iff.1 hm).1
  rw [h.1] at hlt
  have hn:0 < n:=by
    rcases Nat.eq_zero_or_pos n with h0 | h0
    · subst h0;simp at hlt
    · exact h0
  have hi:m / n < L.length:=(Nat.div_lt_iff_lt_mul hn).2 hlt
  obtain ⟨a,ha⟩:∃ a,L[m / n]? = some a:=⟨_,List.getElem?_eq_getElem hi⟩
  obtain ⟨y,hy,h1⟩:=hQ.has _ _ (h.2 _ a ha) (m % n) (Nat.mod_lt _ hn)
  rw [Nat.div_add_mod' m n,hm] at hy
  cases hy
  exact h1
theorem OwnL.imp {e:TypeId} {w:World} {base:Nat} {v:Value} {L:List α} (h:OwnL e n Q w base v L) (k:∀ f a,Q f a→Q' f a):OwnL e n Q' w base v L:=by
  obtain ⟨vs,h1,h2⟩:=h
  exact ⟨vs,h1.imp k,h2⟩
theorem OwnL.block {e:TypeId} {w w':World} {base:Nat} {v:Value} {L:List α} (h:OwnL e n Q w base v L) (hb:∀ q,v.ownBlock = some q→w'.heap[q]? = w.heap[q]?):OwnL e n Q w' base v L:=by
  obtain ⟨vs,h1,h2⟩:=h
  refine ⟨vs,h1,h2.1,?_⟩
  rcases h2.2 with h3 | ⟨g,cap,cur,hv,hg,hh,r⟩
  · exact .inl h3
  · exact .inr ⟨g,cap,cur,hv,hg,(hb g (by subst hv;rfl)).trans hh,r⟩
theorem OwnL.lt {e:TypeId} {w:World} {base:Nat} {v:Value} {L:List α} (h:OwnL e n Q w base v L):∀ q,v.ownBlock = some q→base≤q∧q < w.heap.size:=by
  obtain ⟨vs,_,h2⟩:=h
  exact h2.lt
theorem OwnL.below {e:TypeId} {w w':World} {base C:Nat} {v:Value} {L:List α} (h:OwnL e n Q w base v L) (hb:Below C w w') (hC:w.heap.size≤C):OwnL e n Q w' base v L :=
  h.block fun q hq => hb.block q (by have:=(h.lt q hq).2;omega)
theorem OwnL.mono {e:TypeId} {w:World} {base base':Nat} {v:Value} {L:List α} (h:OwnL e n Q w base v L) (hb:base'≤base):OwnL e n Q w base' v L:=by
  obtain ⟨vs,h1,h2⟩:=h
  refine ⟨vs,h1,h2.1,?_⟩
  rcases h2.2 with h3 | ⟨g,cap,cur,hv,hg,r⟩
  · exact .inl h3
  · exact .inr ⟨g,cap,cur,hv,by omega,r⟩
theorem ownL_none (e:TypeId) (w:World) (base:Nat):OwnL e n Q w base (.slice none 0 0) []:=⟨[],LCells.nil n Q,World.ownsRow_nil w base e n⟩
theorem ownL_nil (e:TypeId) (w:World):OwnL e n Q (w.alloc (.cells #[] e)) w.heap.size (.slice (some ⟨w.heap.size,0,none⟩) 0 0) [] :=
  ⟨[],LCells.nil n Q,World.ownsRow_made w #[] 0 (Nat.le_refl _) (by unfold maxLen;omega) (by simp)⟩
theorem OwnL.rd {e:TypeId} {w:World} {base:Nat} {v:Value} {L:List α} (hQ:QOk n Q) (h:OwnL e n Q w base v L):∃ A c,v = .slice A L.length c∧L.length≤c∧Lst n Q w w.heap.size A L:=by
  obtain ⟨vs,h1,h2⟩:=h
  rcases h2.2 with ⟨hv,hn⟩ | ⟨g,cap,cur,hv,hg,hh,hnc,r⟩
  · have:L = []:=List.eq_nil_of_length_eq_zero hn
    subst this
    exact ⟨none,0,hv,Nat.le_refl _,fun h => absurd rfl h⟩
  · refine ⟨_,cap,hv,hnc,fun _ => ⟨g,0,rfl,(Array.getElem?_eq_some_iff.1 hh).1,fun i a ha => ?_⟩⟩
    refine hQ.ext _ _ _ (fun j hj => ?_) (h1.2 i a ha)
    have hi:=(List.getElem?_eq_some_iff.1 ha).1
    have hlt:i * n + j < vs.length:=by rw [h1.1];exact idx_lt hi hj
    have hcell:=h2.cells (g:=g) (by subst hv;rfl) (i * n + j) vs[i * n + j] (List.getElem?_eq_getElem hlt)
    rw [List.getElem?_eq_getElem hlt]
    rw [Go.WideShapes.add_plain,Nat.zero_add] at hcell
    rw [Nat.zero_add]
    exact hcell.symm
theorem OwnL.slice {e:TypeId} {w:World} {base:Nat} {v:Value} {L:List α} (h:OwnL e n Q w base v L):∃ A c,v = .slice A L.length c∧L.length≤c:=by
  obtain ⟨vs,h1,h2⟩:=h
  rcases h2.2 with ⟨hv,hn⟩ | ⟨g,cap,cur,hv,hg,hh,hnc,r⟩
  · exact ⟨none,0,by rw [hn];exact hv,by omega⟩
  · exact ⟨_,cap,hv,hnc⟩
theorem Lst.cells {w:World} {R:Nat} {A:Option Addr} {L:List α} (hQ:QOk n Q) (h:Lst n Q w R A L) (hne:L≠[]):∃ ad vs,A = some ad∧LCells n Q vs L∧∀ j u,vs[j]? = some u→w.cell? (ad.add j) = some u:=by
  obtain ⟨b,off,hA,_,hq⟩:=h hne
  have hcell:∀ m,m < L.length * n→∃ u,w.cell? ⟨b,off + m,none⟩ = some u:=fun m hm => by
    have hn:0 < n:=by
      rcases Nat.eq_zero_or_pos n with h0 | h0
      · subst h0;simp at hm
      · exact h0
    have hi:m / n < L.length:=(Nat.div_lt_iff_lt_mul hn).2 hm
    obtain ⟨u,hu,_⟩:=hQ.has _ _ (hq _ _ (List.getElem?_eq_getElem hi)) (m % n) (Nat.mod_lt _ hn)
    refine ⟨u,?_⟩
    rw [← hu,Nat.add_assoc,Nat.div_add_mod' m n]
  have hget:∀ m,m < L.length * n→((List.range (L.length * n)).map fun m => (w.cell? ⟨b,off + m,none⟩).getD undef)[m]? = w.cell? ⟨b,off + m,none⟩:=fun m hm => by
    obtain ⟨u,hu⟩:=hcell m hm
    simp [hm,hu]
  refine ⟨⟨b,off,none⟩,(List.range (L.length * n)).map fun m => (w.cell? ⟨b,off + m,none⟩).getD undef,hA,⟨by simp,fun i a ha => ?_⟩,fun j u hj => ?_⟩
  · have hi:=(List.getElem?_eq_some_iff.1 ha).1
    refine hQ.ext _ _ _ (fun j hj => ?_) (hq i a ha)
    rw [hget _ (idx_lt hi hj),Nat.add_assoc]
  · have hjl:=(List.getElem?_eq_some_iff.1 hj).1
    simp only [List.length_map,List.length_range] at hjl
    rw [hget j hjl] at hj
    rw [Go.WideShapes.add_plain]
    exact hj
theorem run_append_list {w:World} (t ty e:TypeId) (z:Value) (sz:Nat) (hu:Tryz.prog.underlying t = some (.slice e)) (hinfo:(Tryz.prog.info? e).map (fun i => (i.zero,i.size,i.bytes)) = some (some z,n,sz)) (hzc:z.cells.size = n) (hn0:0 < n) (hsz:sz≤1000) (hQ:QOk n Q)
    (base:Nat) (v:Value) (L M:List α) (hown:OwnL e n Q w base v L) (R:Nat) (A:Option Addr) (c:Nat) (hp:Lst n Q w R A M) (hlen:L.length + M.length≤8000000000) (hbase:base≤w.heap.size) :
    ∃ D d w',(Builtin.append_ #[t,t] ty #[v,.slice A M.length c]).run Tryz.prog w = .ok (.slice D (L.length + M.length) d) w'∧OwnL e n Q w' base (.slice D (L.length + M.length) d) (L ++ M)∧w.grownBy w' v.ownBlock ∧
      ((Value.slice D (L.length + M.length) d).ownBlock = v.ownBlock∨(Value.slice D (L.length + M.length) d).ownBlock = some w.heap.size):=by
  obtain ⟨i0,hi0,hz0,hz1,hz2⟩:=info_parts hinfo
  obtain ⟨vs,h1,h2⟩:=hown
  by_cases hM:M = []
  · subst hM
    obtain ⟨D,d,hv,hcap⟩:=OwnL.slice ⟨vs,h1,h2⟩
    subst hv
    refine ⟨D,d,w,?_,by rw [List.append_nil];exact ⟨vs,h1,h2⟩,World.grownBy.refl w _,.inl rfl⟩
    rcases h2.2 with ⟨hv,h0⟩ | ⟨g,cap,cur,hv,_,_,hnc,_⟩
    · obtain ⟨hD,_,hd⟩:D = none∧L.length = 0∧d = 0:=by simpa using hv
      subst hD hd
      rw [h0]
      cases A <;> simp [Builtin.append_,run_underlying hu,sizeOf,typeInfo,hi0,Builtin.lenOf,Builtin.firstCells,loadCells,loadCellsFrom]
    · cases hv
      cases A <;> simp [Builtin.append_,run_underlying hu,sizeOf,typeInfo,hi0,Builtin.lenOf,Builtin.firstCells,hnc,storeCells,loadCells,loadCellsFrom]
  · obtain ⟨ad,us,rfl,k1,k2⟩:=hp.cells hQ hM
    have hb:(L.length + M.length) * sz≤140737488355328:=Nat.le_trans (Nat.mul_le_mul hlen hsz) (by omega)
    obtain ⟨v',w',hr,g1,g2,g3,g4⟩:=run_append_own_at (P:=Tryz.prog) w base t ty e i0 z n sz hu hi0 hz0 hz1 hz2 hzc hn0 v L.length vs h2 ad M.length c us k1.1 k2 (k1.one hQ) (by unfold maxLen;omega) hb hbase
    have hO:OwnL e n Q w' base v' (L ++ M):=⟨vs ++ us,h1.append hQ k1,by rw [List.length_append];exact g1⟩
    obtain ⟨D,d,hv,_⟩:=hO.slice
    rw [List.length_append] at hv
    subst hv
    exact ⟨D,d,w',hr,hO,g2,g4⟩
theorem wpList_append_list {w:World} {ops:Array Oper} {rest:List Oper} {o:Oper} {a:Act} {K:Exit→Act→World→Prop} (t e:TypeId) (z:Value) (sz:Nat) (hu:Tryz.prog.underlying t = some (.slice e)) (hinfo:(Tryz.prog.info? e).map (fun i => (i.zero,i.size,i.bytes)) = some (some z,n,sz)) (hzc:z.cells.size = n) (hn0:0 < n) (hsz:sz≤1000) (hQ:QOk n Q)
    (hgd:o.guard = none) (s x:Operand) (ho:o.op = .call { callee:=.builtin .append,args:=#[s,x],argTypes:=#[t,t] }) (base:Nat) (v:Value) (L M:List α) (m:Nat) (hm:L.length + M.length = m) (hs:a.eval s = v) (hown:OwnL e n Q w base v L)
    (R:Nat) (A:Option Addr) (k c:Nat) (hk:M.length = k) (hx:a.eval x = .slice A k c) (hp:Lst n Q w R A M) (hlen:m≤8000000000) (hbase:base≤w.heap.size)
    (h:∀ D d w',OwnL e n Q w' base (.slice D m d) (L ++ M)→w.grownBy w' v.ownBlock→((Value.slice D m d).ownBlock = v.ownBlock∨(Value.slice D m d).ownBlock = some w.heap.size)→wpList Tryz.prog ops K rest (a.put o.dst (.slice D m d)) w'):wpList Tryz.prog ops K (o :: rest) a w:=by
  subst hm hk
  refine wpList_plain hgd fun K hK => ?_
  obtain ⟨D,d,w',hr,h2,h3,h5⟩:=run_append_list (w:=w) t o.type e z sz hu hinfo hzc hn0 hsz hQ base v L M hown R A c hp hlen hbase
  unfold Oper.wp execOp
  simp only [ho,resolve,invoke,builtin,Sem.run_bind,Sem.run_pure,Result.andThen_ok,List.map_toArray,List.map_cons,List.map_nil,hs,hx,hr]
  exact hK _ _ (h D d w' h2 h3 h5)
theorem step_append_list {w:World} {ops:Array Oper} {o:Oper} {a:Act} {K:Act→World→Prop} {P:Exit→Act→World→Prop} {E:Prop} (t e:TypeId) (z:Value) (sz:Nat) (hu:Tryz.prog.underlying t = some (.slice e)) (hinfo:(Tryz.prog.info? e).map (fun i => (i.zero,i.size,i.bytes)) = some (some z,n,sz)) (hzc:z.cells.size = n) (hn0:0 < n) (hsz:sz≤1000) (hQ:QOk n Q)
    (hgd:o.guard = none) (s x:Operand) (ho:o.op = .call { callee:=.builtin .append,args:=#[s,x],argTypes:=#[t,t] }) (base:Nat) (v:Value) (L M:List α) (m:Nat) (hm:L.length + M.length = m) (hs:a.eval s = v) (hown:OwnL e n Q w base v L)
    (R:Nat) (A:Option Addr) (k c:Nat) (hk:M.length = k) (hx:a.eval x = .slice A k c) (hp:Lst n Q w R A M) (hlen:m≤8000000000) (hbase:base≤w.heap.size)
    (h:∀ D d w',OwnL e n Q w' base (.slice D m d) (L ++ M)→w.grownBy w' v.ownBlock→((Value.slice D m d).ownBlock = v.ownBlock∨(Value.slice D m d).ownBlock = some w.heap.size)→K (a.put o.dst (.slice D m d)) w') :
    if Region.wanted o (yielded ops a.tmps) = true then Oper.wp Tryz.prog o a w K P else E:=by
  subst hm hk
  have hw:Region.wanted o (yielded ops a.tmps) = true:=by simp [Region.wanted,hgd]
  rw [if_pos hw]
  obtain ⟨D,d,w',hr,h2,h3,h5⟩:=run_append_list (w:=w) t o.type e z sz hu hinfo hzc hn0 hsz hQ base v L M hown R A c hp hlen hbase
  unfold Oper.wp execOp
  simp only [ho,resolve,invoke,builtin,Sem.run_bind,Sem.run_pure,Result.andThen_ok,List.map_toArray,List.map_cons,List.map_nil,hs,hx,hr]
  exact h D d w' h2 h3 h5
end Go.Proofs.YtkeepngaaleakaaGreatDoor
