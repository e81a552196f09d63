import Derived.Test.YtkeepngaaleakaaGreatDoorM06
import Derived.Test.YtkeepngaaleakaaGreatDoorM15
import Derived.Test.YtkeepngaaleakaaGreatDoorM14
namespace Go.Proofs.YtkeepngaaleakaaGreatDoor.Tr
open Go.Proofs.YtkeepngaaleakaaGreatDoor.Z
open Go.Proofs.YtkeepngaaleakaaGreatDoor (kidL levI denseT)
/-! ### all nodes -/
def T.all (t:T):List T :=
  match t with
  | .ent g p v => [.ent g p v]
  | .br g l pre ks => .br g l pre ks :: ks.attach.flatMap fun x => T.all x.1.2
termination_by SizeOf.sizeOf t
decreasing_by
  have:=kid_lt x.2 g l pre
  simpa using this
def allK (ks:List (Nat × T)):List T:=ks.flatMap fun x => x.2.all
theorem all_ent (g:Nat) (p:List Nat) (v:Nat):(T.ent g p v).all = [.ent g p v]:=by rw [T.all]
theorem all_br (g l:Nat) (pre:List Nat) (ks:List (Nat × T)):(T.br g l pre ks).all = .br g l pre ks :: allK ks:=by
  rw [T.all,allK]
  congr 1
  conv => rhs;rw [← List.attach_map_subtype_val ks]
  rw [List.flatMap_map]
theorem all_eq (t:T):t.all = t :: allK t.ks:=by
  cases t with
  | ent g p v => rw [all_ent];rfl
  | br g l pre ks => rw [all_br];rfl
theorem allK_nil:allK [] = []:=rfl
theorem allK_cons (x:Nat × T) (ks:List (Nat × T)):allK (x :: ks) = x.2.all ++ allK ks:=by simp [allK]
def allO:Option T→List T
  | none => []
  | some t => t.all
theorem all_len {k:Nat} {t:T} (h:Wf k t):t.all.length + 1≤2 * t.ents.length:=by
  induction h with
  | ent g p v => rw [all_ent,ents_ent];simp
  | br g l pre ks h63 hw h2 hl ho hk hc ih =>
    rw [all_br,ents_br]
    have key:∀ L:List (Nat × T),(∀ x∈L,x∈ks)→(allK L).length + L.length≤2 * (entsL L).length:=by
      intro L
      induction L with
      | nil => intro _;simp [allK_nil,entsL_nil]
      | cons x L ihL =>
        intro hL
        have h1:=ihL fun y hy => hL y (List.mem_cons_of_mem _ hy)
        have h3:=ih x (hL x List.mem_cons_self)
        rw [allK_cons,entsL_cons,List.length_append,List.length_append,List.length_cons]
        omega
    have:=key ks fun _ h => h
    simp only [List.length_cons]
    omega
theorem allO_len {k:Nat} {o:Option T} (h:∀ t,o = some t→Wf k t):(allO o).length≤2 * (entsO o).length:=by
  cases o with
  | none => simp [allO]
  | some t => have:=all_len (h t rfl);simp only [allO,entsO];omega
/-! ### what is left on the way through -/
def rest:List (T × Nat)→List T
  | [] => []
  | (t,n) :: S => allK (t.ks.drop (Sl.idx t.ks (n:Int))) ++ rest S
theorem rest_pop {t:T} {n:Nat} {S:List (T × Nat)} (h:t.ks[Sl.idx t.ks (n:Int)]? = none):rest ((t,n) :: S) = rest S:=by
  have:t.ks.drop (Sl.idx t.ks (n:Int)) = []:=List.drop_eq_nil_of_le (by rw [List.getElem?_eq_none_iff] at h;exact h)
  simp [rest,this,allK_nil]
theorem rest_push {t s:T} {n a:Nat} {S:List (T × Nat)} (hs:Sl.Srt t.ks) (h:t.ks[Sl.idx t.ks (n:Int)]? = some (a,s)) :
    rest ((t,n) :: S) = s :: rest ((s,0) :: (t,a + 1) :: S):=by
  obtain ⟨hi,hx⟩:=List.getElem?_eq_some_iff.1 h
  have h1:t.ks.drop (Sl.idx t.ks (n:Int)) = (a,s) :: t.ks.drop (Sl.idx t.ks (n:Int) + 1):=by
    rw [List.drop_eq_getElem_cons hi,hx]
  have h2:Sl.idx t.ks ((a + 1:Nat):Int) = Sl.idx t.ks (n:Int) + 1:=by
    have e1:Sl.idx t.ks (a:Int) = Sl.idx t.ks (n:Int):=Sl.idx_of hs h
    have e2:=Sl.idx_succ hs (a:Int)
    have e3:Sl.has t.ks (a:Int) = true:=by
      unfold Sl.has
      rw [Sl.get_of_mem hs (p:=(a,s)) (List.mem_of_getElem? h)]
      rfl
    rw [e3,if_pos rfl,e1] at e2
    rw [← e2]
    congr 1
  have h3:Sl.idx s.ks ((0:Nat):Int) = 0:=Sl.idx_zero _
  simp only [rest,h1,h2,h3,allK_cons,List.drop_zero,List.append_assoc]
  rw [all_eq s]
  rfl
theorem rest_one (t:T):t :: rest [(t,0)] = t.all:=by
  have h3:Sl.idx t.ks ((0:Nat):Int) = 0:=Sl.idx_zero _
  simp only [rest,h3,List.drop_zero,List.append_nil]
  rw [all_eq t]
/-! ### shapes -/
structure Shp where
  lev:Int
  pre:List Nat
  ks:List Nat
  dn:Bool
  val:Nat
def shT (k:Nat) (t:T):Shp:=⟨levI t,t.pre,Sl.keys (kidL t.ks),denseT k t,t.val⟩
def shapes (k:Nat) (t:T):List Shp:=t.all.map (shT k)
def shapesO (k:Nat) (o:Option T):List Shp:=(allO o).map (shT k)
def shapesK (k:Nat) (ks:List (Nat × T)):List Shp:=(allK ks).map (shT k)
theorem shapes_br (k g l:Nat) (pre:List Nat) (ks:List (Nat × T)):shapes k (.br g l pre ks) = shT k (.br g l pre ks) :: shapesK k ks:=by
  rw [shapes,all_br,List.map_cons,shapesK]
theorem shapes_ent (k g:Nat) (p:List Nat) (v:Nat):shapes k (.ent g p v) = [shT k (.ent g p v)]:=by rw [shapes,all_ent];rfl
/-! ### trees of the same entries -/
end Go.Proofs.YtkeepngaaleakaaGreatDoor.Tr
namespace Go.Proofs.YtkeepngaaleakaaGreatDoor
open Go.ChangeShapes Go.WideShapes Go.ChangeAt Go.RowKit
open Tr (T S4 Ent Shp)
/-! ### a scope that counts -/
theorem least_of (P:Nat→Prop) (h:∃ n,P n):∃ n,P n∧∀ m,P m→n≤m:=by
  obtain ⟨n,hn⟩:=h
  induction n using Nat.strongRecOn with
  | _ n ih =>
    by_cases c:∃ m,m < n∧P m
    · obtain ⟨m,hm,hp⟩:=c
      exact ih m hm hp
    · exact ⟨n,hn,fun m hm => Nat.le_of_not_lt fun hlt => c ⟨m,hlt,hm⟩⟩
theorem wp_scope_count {P:Program} {c rest:Code} {Q:Exit→Act→World→Prop} {a:Act} {w:World} (l:Nat) (J:Nat→Act→World→Prop) (hf:findLabel c l = some (Code.skip.seq rest))
    (first:(∀ m a w,J m a w→rest.wp P (Exit.jump l (fun a' w' => ∃ m,J m a' w') Q) a w)→c.wp P (Exit.jump l (fun a' w' => ∃ m,J m a' w') Q) a w)
    (pass:∀ m a w,J m a w→rest.wp P (Exit.jump l (fun a' w' => ∃ m',m' < m∧J m' a' w') Q) a w):(Code.scope c).wp P Q a w:=by
  have weak:∀ m a w,J m a w→rest.wp P (Exit.jump l (fun a' w' => ∃ m,J m a' w') Q) a w:=fun m a w h => Code.wp_mono (by
    intro e a' w' h'
    cases e <;> first | exact h' | exact ⟨h'.1,h'.2.imp fun m hm => hm.2⟩) (pass m a w h)
  refine wp_scope_jumps l (fun a w => ∃ m,J m a w) (fun a w => Classical.choose (least_of (fun n => (∃ m,J m a w)→J n a w) (by
    by_cases h:∃ m,J m a w
    · exact h.imp fun m hm _ => hm
    · exact ⟨0,fun h' => absurd h' h⟩))) hf (first weak) ?_
  intro a w h
  refine wp_seq (wp_skip ?_)
  have hsp:=Classical.choose_spec (least_of (fun n => (∃ m,J m a w)→J n a w) (by
    by_cases h:∃ m,J m a w
    · exact h.imp fun m hm _ => hm
    · exact ⟨0,fun h' => absurd h' h⟩))
  refine Code.wp_mono ?_ (pass _ a w (hsp.1 h))
  intro e a' w' h'
  cases e with
  | goto l' =>
    obtain ⟨h1,m',hm,hJ⟩:=h'
    refine ⟨h1,⟨m',hJ⟩,Nat.lt_of_le_of_lt ?_ hm⟩
    exact (Classical.choose_spec (least_of (fun n => (∃ m,J m a' w')→J n a' w') (by
      by_cases h:∃ m,J m a' w'
      · exact h.imp fun m hm _ => hm
      · exact ⟨0,fun h' => absurd h' h⟩))).2 m' fun _ => hJ
  | _ => exact h'
/-! ### rows of wide elements: cut,written to -/
variable {α:Type} {n:Nat} {Q Q':(Nat→Option Value)→α→Prop}
theorem LCells.take {vs:List Value} {L:List α} (hQ:QOk n Q) (h:LCells n Q vs L) (i:Nat) (hi:i≤L.length):LCells n Q (vs.take (i * n)) (L.take i):=by
  have hm:i * n≤L.length * n:=Nat.mul_le_mul_right n hi
  refine ⟨by rw [List.length_take,List.length_take,h.1,Nat.min_eq_left hm,Nat.min_eq_left hi],fun j a ha => ?_⟩
  have hj:j < i:=by have:=lt_get ha;simp at this;omega
  rw [List.getElem?_take_of_lt hj] at ha
  refine hQ.ext _ _ _ (fun q hq => ?_) (h.2 j a ha)
  have h1:j * n + q < i * n:=idx_lt hj hq
  rw [List.getElem?_take_of_lt h1]
theorem OwnL.take {e:TypeId} {w:World} {base m c:Nat} {A:Option Addr} {L:List α} (hQ:QOk n Q) (h:OwnL e n Q w base (.slice A m c) L) (i:Nat) (hi:i≤L.length):OwnL e n Q w base (.slice A i c) (L.take i):=by
  obtain ⟨vs,h1,h2⟩:=h
  have hm:i * n≤L.length * n:=Nat.mul_le_mul_right n hi
  refine ⟨vs.take (i * n),h1.take hQ i hi,by rw [List.length_take,List.length_take,h1.1,Nat.min_eq_left hm,Nat.min_eq_left hi],?_⟩
  rw [List.length_take,Nat.min_eq_left hi]
  rcases h2.2 with ⟨hv,hn⟩ | ⟨g,cap,cur,hv,hg,hh,hnc,hcm,hsz,hcur⟩
  · cases hv
    exact .inl ⟨by rw [show i = 0 by omega],by omega⟩
  · cases hv
    refine .inr ⟨g,c,cur,rfl,hg,hh,by omega,hcm,hsz,?_⟩
    rw [← hcur,List.take_take,Nat.min_eq_left hm]
theorem OwnL.set {e:TypeId} {w:World} {base m c:Nat} {A:Option Addr} {L:List α} (h:OwnL e n Q w base (.slice A m c) L) {i j:Nat} {x:α} {u:Value} (hQ:QOk n Q) (hi:i < L.length) (hj:j < n)
    (hx:∀ f a,L[i]? = some a→Q f a→Q (fun q => if q = j then some u else f q) x) :
    ∃ g,A = some ⟨g,0,none⟩∧OwnL e n Q (w.setCell ⟨g,i * n + j,none⟩ u) base (.slice A m c) (L.set i x):=by
  obtain ⟨vs,h1,h2⟩:=h
  rcases h2.2 with ⟨hv,hn⟩ | ⟨g,cap,cur,hv,hg,hh,hnc,hcm,hsz,hcur⟩
  · omega
  · cases hv
    have hlt:i * n + j < L.length * n:=idx_lt hi hj
    have hlv:i * n + j < vs.length:=by rw [h1.1];exact hlt
    have hls:(L.set i x).length = L.length:=List.length_set
    refine ⟨g,rfl,⟨vs.set (i * n + j) u,⟨by rw [List.length_set,hls];exact h1.1,fun k a ha => ?_⟩,by rw [List.length_set,hls];exact h2.1,?_⟩⟩
    · by_cases hki:k = i
      · subst hki
        rw [List.getElem?_set_self hi] at ha
        cases ha
        refine hQ.ext _ _ _ (fun q hq => ?_) (hx _ _ (List.getElem?_eq_getElem hi) (h1.2 k _ (List.getElem?_eq_getElem hi)))
        by_cases hqj:q = j
        · subst hqj
          rw [if_pos rfl,List.getElem?_set_self hlv]
        · rw [if_neg hqj,List.getElem?_set_ne (by omega)]
      · rw [List.getElem?_set_ne (fun e => hki e.symm)] at ha
        refine hQ.ext _ _ _ (fun q hq => ?_) (h1.2 k a ha)
        have hne:i * n + j≠k * n + q:=fun e => by
          have e1:(i * n + j) / n = i:=by rw [Nat.mul_comm,Nat.mul_add_div (by omega),Nat.div_eq_of_lt hj,Nat.add_zero]
          have e2:(k * n + q) / n = k:=by rw [Nat.mul_comm,Nat.mul_add_div (by omega),Nat.div_eq_of_lt hq,Nat.add_zero]
          rw [e] at e1
          exact hki (e2.symm.trans e1)
        rw [List.getElem?_set_ne hne]
    · rw [hls]
      refine .inr ⟨g,c,cur.setIfInBounds (i * n + j) u,rfl,hg,heap_setCell_same w g (i * n + j) cur e u hh,hnc,hcm,by simpa using hsz,?_⟩
      rw [Array.toList_setIfInBounds,List.take_set,hcur]
/-! ### rows of shapes -/
def ShQ (w:World) (D:Nat→Prop) (f:Nat→Option Value) (s:Shp):Prop :=
  ∃ A c A' c',f 0 = some (.int .i64 s.lev)∧f 1 = some (.slice A s.pre.length c)∧f 2 = some (.slice A' s.ks.length c')∧f 3 = some (.bool s.dn)∧f 4 = some (.int .u64 (s.val:Int)) ∧
    (∃ B,Pts w B A s.pre)∧(∃ B,RdV w B A' (Sn.intV s.ks))∧(s.pre≠[]→∀ x,A = some x→D x.block)∧(s.ks≠[]→∀ x,A' = some x→D x.block)
theorem shQ_ok (w:World) (D:Nat→Prop):QOk 5 (ShQ w D) where
  ext:=by
    rintro f g s h ⟨A,c,A',c',h0,h1,h2,h3,h4,r⟩
    exact ⟨A,c,A',c',(h 0 (by omega)).symm.trans h0,(h 1 (by omega)).symm.trans h1,(h 2 (by omega)).symm.trans h2,(h 3 (by omega)).symm.trans h3,(h 4 (by omega)).symm.trans h4,r⟩
  has:=by
    rintro f s ⟨A,c,A',c',h0,h1,h2,h3,h4,r⟩ j hj
    match j,hj with
    | 0,_ => exact ⟨_,h0,rfl⟩
    | 1,_ => exact ⟨_,h1,rfl⟩
    | 2,_ => exact ⟨_,h2,rfl⟩
    | 3,_ => exact ⟨_,h3,rfl⟩
    | 4,_ => exact ⟨_,h4,rfl⟩
theorem pts_block {w w':World} {B:Nat} {A:Option Addr} {us:List Nat} (h:Pts w B A us) (hb:us≠[]→∀ x,A = some x→w'.heap[x.block]? = w.heap[x.block]?):Pts w' B A us:=by
  refine ⟨h.1,fun hn => ?_⟩
  obtain ⟨b,off,hA,hlt,hc⟩:=h.2 hn
  have h1:=hb hn _ hA
  exact ⟨b,off,hA,hlt,fun i u hi => (World.cell?_of_block (a:=⟨b,off + i,none⟩) h1).trans (hc i u hi)⟩
theorem rdV_block {w w':World} {B:Nat} {A:Option Addr} {xs:List Value} (h:RdV w B A xs) (hb:xs≠[]→∀ x,A = some x→w'.heap[x.block]? = w.heap[x.block]?):RdV w' B A xs:=by
  intro hn
  obtain ⟨b,off,hA,hlt,hc⟩:=h hn
  have h1:=hb hn _ hA
  exact ⟨b,off,hA,hlt,fun i u hi => (World.cell?_of_block (a:=⟨b,off + i,none⟩) h1).trans (hc i u hi)⟩
theorem intV_ne {ks:List Nat} (h:Sn.intV ks≠[]):ks≠[]:=by rintro rfl;exact h rfl
theorem ShQ.imp {w w':World} {D D':Nat→Prop} {f:Nat→Option Value} {s:Shp} (h:ShQ w D f s) (hb:∀ b,D b→w'.heap[b]? = w.heap[b]?) (hD:∀ b,D b→D' b):ShQ w' D' f s:=by
  obtain ⟨A,c,A',c',h0,h1,h2,h3,h4,⟨B,p⟩,⟨B',r⟩,d,d'⟩:=h
  exact ⟨A,c,A',c',h0,h1,h2,h3,h4,⟨B,pts_block p fun hn x hx => hb _ (d hn x hx)⟩,⟨B',rdV_block r fun hn x hx => hb _ (d' (intV_ne hn) x hx)⟩,fun hn x hx => hD _ (d hn x hx),fun hn x hx => hD _ (d' hn x hx)⟩
abbrev shpV (A:Option Addr) (c:Nat) (A':Option Addr) (c':Nat) (s:Shp):Value:=shapeV s.lev A s.pre.length c A' s.ks.length c' s.dn s.val
theorem infoSh:(Tryz.prog.info? 138).map (fun i => (i.zero,i.size,i.bytes)) = some (some (.agg #[.int .i64 0,.slice none 0 0,.slice none 0 0,.bool false,.int .u64 0]),5,72):=by kernel_rfl
end Go.Proofs.YtkeepngaaleakaaGreatDoor
