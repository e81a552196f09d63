import Derived.Test.YtkeepngaaleakaaGreatDoorM07
import Derived.Test.YtkeepngaaleakaaGreatDoorM05
namespace Go.Proofs.YtkeepngaaleakaaGreatDoor.Sn
open Go.ChangeShapes Go.WideShapes Go.ChangeAt Go.RowKit
theorem made_none (t e:TypeId) {z:Value} {by':Nat} (ht:Tryz.prog.underlying t = some (.slice e)) (hi:(Tryz.prog.info? e).map (fun i => (i.zero,i.size,i.bytes)) = some (some z,1,by')) :
    ∃ Zs,∀ (w:World),(Instr.makeSlice t (.int .i64 0) (.int .i64 0)).run Tryz.prog w = .ok (.slice (some ⟨w.heap.size,0,none⟩) 0 0) (w.alloc (.cells Zs e)):=by
  obtain ⟨i0,hi0,hz0,hz1,hz2⟩:=info_parts hi
  refine ⟨madeCells z.cells (0 * i0.size),fun w => ?_⟩
  have h:=run_make (P:=Tryz.prog) w t e i0 z ht hi0 hz0 .i64 .i64 0 0 (by omega) (by omega) (by simp) (by omega)
  simpa using h
set_option maxRecDepth 100000 in
theorem sPlaces_nil (w:World):Calls Tryz.prog 147 #[.pointer none] w fun e w' => (∃ A,e = .returned (.slice A 0 0))∧Below w.heap.size w w':=by
  obtain ⟨Zs,hmk⟩:=made_none 136 3 Tryz.underlying136 infoI
  go_enter Tryz.func147,Tryz.ntmps147
  go_wp2_with (go_at_call 200;refine (sLen_nil _).mono ?_;rintro e w' ⟨rfl,rfl⟩)
  refine (sEach_nil _ _).mono ?_
  rintro e w' ⟨rfl,rfl⟩
  go_wp2_with fail
  go_ret
  exact ⟨⟨_,rfl⟩,(below_alloc _ _).alloc (by simp) _⟩
end Go.Proofs.YtkeepngaaleakaaGreatDoor.Sn
namespace Go.Proofs.YtkeepngaaleakaaGreatDoor
open Go.ChangeShapes Go.WideShapes Go.ChangeAt Go.RowKit
open Tr (T S4)
abbrev shapeV (lev:Int) (A:Option Addr) (n c:Nat) (A':Option Addr) (n' c':Nat) (d:Bool) (v:Nat):Value:=.agg #[.int .i64 lev,.slice A n c,.slice A' n' c',.bool d,.int .u64 (v:Int)]
def ShapeAt (w:World) (e:Ending) (lev:Int) (pre ks:List Nat) (d:Bool) (v:Nat):Prop :=
  ∃ A c A' c',e = .returned (shapeV lev A pre.length c A' ks.length c' d v)∧Pts w w.heap.size A pre∧RdV w w.heap.size A' (Sn.intV ks)
def ShapeNew (base:Nat) (w:World) (e:Ending) (lev:Int) (pre ks:List Nat) (d:Bool) (v:Nat):Prop :=
  ∃ A c A' c',e = .returned (shapeV lev A pre.length c A' ks.length c' d v)∧Pts w w.heap.size A pre∧RdV w w.heap.size A' (Sn.intV ks)∧(∀ x,A = some x→base≤x.block)∧(ks≠[]→∀ x,A' = some x→base≤x.block)
theorem ShapeNew.at {base:Nat} {w:World} {e:Ending} {lev:Int} {pre ks:List Nat} {d:Bool} {v:Nat} (h:ShapeNew base w e lev pre ks d v):ShapeAt w e lev pre ks d v:=by
  obtain ⟨A,c,A',c',h1,h2,h3,-⟩:=h
  exact ⟨A,c,A',c',h1,h2,h3⟩
def Q5 (w:World) (b:Nat) (x0 x1 x2 x3 x4:Value):Prop :=
  (w.cell? ⟨b,0,none⟩ = some x0∧w.cell? ⟨b,1,none⟩ = some x1∧w.cell? ⟨b,2,none⟩ = some x2∧w.cell? ⟨b,3,none⟩ = some x3∧w.cell? ⟨b,4,none⟩ = some x4) ∧
    (w.frozen? ⟨b,0,none⟩ = false∧w.frozen? ⟨b,1,none⟩ = false∧w.frozen? ⟨b,2,none⟩ = false∧w.frozen? ⟨b,3,none⟩ = false∧w.frozen? ⟨b,4,none⟩ = false)
theorem q5_at {w:World} {b:Nat} {x0 x1 x2 x3 x4:Value} {t:TypeId} (h:w.heap[b]? = some (.cells #[x0,x1,x2,x3,x4] t (0,0))):Q5 w b x0 x1 x2 x3 x4:=by
  refine ⟨⟨?_,?_,?_,?_,?_⟩,⟨?_,?_,?_,?_,?_⟩⟩
  · rw [cell_of_row w b _ _ t (0,0) h];rfl
  · rw [cell_of_row w b _ _ t (0,0) h];rfl
  · rw [cell_of_row w b _ _ t (0,0) h];rfl
  · rw [cell_of_row w b _ _ t (0,0) h];rfl
  · rw [cell_of_row w b _ _ t (0,0) h];rfl
  all_goals exact frozen_of_row w b _ _ t h
theorem Q5.below {w w':World} {C b:Nat} {x0 x1 x2 x3 x4:Value} (h:Q5 w b x0 x1 x2 x3 x4) (hb:Below C w w') (hg:b < C):Q5 w' b x0 x1 x2 x3 x4 :=
  ⟨⟨(hb.cell (p:=⟨b,0,none⟩) hg).trans h.1.1,(hb.cell (p:=⟨b,1,none⟩) hg).trans h.1.2.1,(hb.cell (p:=⟨b,2,none⟩) hg).trans h.1.2.2.1,(hb.cell (p:=⟨b,3,none⟩) hg).trans h.1.2.2.2.1,(hb.cell (p:=⟨b,4,none⟩) hg).trans h.1.2.2.2.2⟩,
    ⟨(hb.frozen (p:=⟨b,0,none⟩) hg).trans h.2.1,(hb.frozen (p:=⟨b,1,none⟩) hg).trans h.2.2.1,(hb.frozen (p:=⟨b,2,none⟩) hg).trans h.2.2.2.1,(hb.frozen (p:=⟨b,3,none⟩) hg).trans h.2.2.2.2.1,(hb.frozen (p:=⟨b,4,none⟩) hg).trans h.2.2.2.2.2⟩⟩
theorem Q5.drew {w:World} {b:Nat} {x0 x1 x2 x3 x4:Value} (h:Q5 w b x0 x1 x2 x3 x4):Q5 w.drew b x0 x1 x2 x3 x4:=h
theorem Q5.set {w:World} {b:Nat} {x0 x1 x2 x3 x4:Value} (h:Q5 w b x0 x1 x2 x3 x4) (y0 y1 y2 y3 y4:Value) :
    Q5 (((((w.setCell ⟨b,0,none⟩ y0).setCell ⟨b,1,none⟩ y1).setCell ⟨b,2,none⟩ y2).setCell ⟨b,3,none⟩ y3).setCell ⟨b,4,none⟩ y4) b y0 y1 y2 y3 y4:=by
  obtain ⟨⟨h0,h1,h2,h3,h4⟩,⟨f0,f1,f2,f3,f4⟩⟩:=h
  have e:∀ (w:World) (v:Value) (i j:Nat),i≠j→(w.setCell ⟨b,i,none⟩ v).cell? ⟨b,j,none⟩ = w.cell? ⟨b,j,none⟩:=fun w v i j hij => World.cell?_setCell_other _ _ _ _ (by first | (simp;done) | (simp;omega))
  have f:∀ (w:World) (v:Value) (i j:Nat),(w.setCell ⟨b,i,none⟩ v).frozen? ⟨b,j,none⟩ = w.frozen? ⟨b,j,none⟩:=fun w v i j => World.frozen?_setCell _ _ _ _
  refine ⟨⟨?_,?_,?_,?_,?_⟩,⟨by rw [f,f,f,f,f];exact f0,by rw [f,f,f,f,f];exact f1,by rw [f,f,f,f,f];exact f2,by rw [f,f,f,f,f];exact f3,by rw [f,f,f,f,f];exact f4⟩⟩
  · rw [e _ _ 4 0 (by omega),e _ _ 3 0 (by omega),e _ _ 2 0 (by omega),e _ _ 1 0 (by omega)];exact World.cell?_setCell_same _ _ _ h0
  · rw [e _ _ 4 1 (by omega),e _ _ 3 1 (by omega),e _ _ 2 1 (by omega)];exact World.cell?_setCell_same _ _ _ ((e _ _ 0 1 (by omega)).trans h1)
  · rw [e _ _ 4 2 (by omega),e _ _ 3 2 (by omega)];exact World.cell?_setCell_same _ _ _ ((e _ _ 1 2 (by omega)).trans ((e _ _ 0 2 (by omega)).trans h2))
  · rw [e _ _ 4 3 (by omega)];exact World.cell?_setCell_same _ _ _ ((e _ _ 2 3 (by omega)).trans ((e _ _ 1 3 (by omega)).trans ((e _ _ 0 3 (by omega)).trans h3)))
  · exact World.cell?_setCell_same _ _ _ ((e _ _ 3 4 (by omega)).trans ((e _ _ 2 4 (by omega)).trans ((e _ _ 1 4 (by omega)).trans ((e _ _ 0 4 (by omega)).trans h4))))
theorem pts_set {w:World} {B:Nat} {A:Option Addr} {us:List Nat} {a:Addr} (h:Pts w B A us) (ha:∀ x,A = some x→x.block≠a.block) (v:Value):Pts (w.setCell a v) B A us:=by
  refine ⟨h.1,fun hn => ?_⟩
  obtain ⟨b,off,rfl,hb,hc⟩:=h.2 hn
  exact ⟨b,off,rfl,hb,fun i u hi => (World.cell?_setCell_other _ _ _ _ (by intro e;exact ha _ rfl (show b = a.block by rw [e]))).trans (hc i u hi)⟩
theorem rdV_set {w:World} {B:Nat} {A:Option Addr} {xs:List Value} {a:Addr} (h:RdV w B A xs) (ha:∀ x,A = some x→x.block≠a.block) (v:Value):RdV (w.setCell a v) B A xs:=by
  intro hn
  obtain ⟨b,off,rfl,hb,hc⟩:=h hn
  exact ⟨b,off,rfl,hb,fun i u hi => (World.cell?_setCell_other _ _ _ _ (by intro e;exact ha _ rfl (show b = a.block by rw [e]))).trans (hc i u hi)⟩
theorem OwnV.same {e:TypeId} {w:World} {base:Nat} {v:Value} {xs:List Value} (h:OwnV e w base v xs):OwnV e w.drew base v xs:=h
theorem places_c {w:World} {B b k:Nat} {L:Sn.Al} {d:Bool} (wf:Sl.Wf k L) (h:Sn.Rp w B b k L d) (hB:B≤w.heap.size) :
    Calls Tryz.prog 147 #[.pointer (some ⟨b,0,none⟩)] w fun e w' => ∃ A c,e = .returned (.slice A (Sl.keys L).length c)∧OwnV 3 w' w.heap.size (.slice A (Sl.keys L).length c) (Sn.intV (Sl.keys L))∧Below w.heap.size w w':=by
  refine (Sn.sPlaces_c wf h hB).mono ?_
  rintro e w' ⟨v,rfl,ho,hb⟩
  obtain ⟨A,c,hv,-,-⟩:=ho.rd
  rw [Sn.intV_length] at hv
  subst hv
  exact ⟨A,c,rfl,ho,hb⟩
set_option maxRecDepth 100000 in
theorem nShape_nil (w:World):Calls Tryz.prog 96 #[.pointer none] w fun e w' => e = .returned (shapeV 0 none 0 0 none 0 0 false 0)∧Below w.heap.size w w':=by
  go_enter Tryz.func96,Tryz.ntmps96
  go_wp2
  refine bodyPost_ret (v:=shapeV 0 none 0 0 none 0 0 false 0) (by simp [results,Tryz.results96,go_sem]) rfl ?_
  exact ⟨rfl,by ((repeat first | refine bD ?_ | with_reducible refine bN ?_ | refine bA ?_ | refine bS ?_);first | exact bR | assumption | exact bN bR | exact bN (bN bR))⟩
set_option maxRecDepth 100000 in
set_option maxHeartbeats 2000000 in
theorem nShape_br_new {w:World} {B g b k:Nat} {lev:Int} {pre:List Nat} {v:Nat} {s:S4} {L:Sn.Al} (h:NdAt w B g lev pre v (some ⟨b,0,none⟩) s) (ha:Sn.At w B b k L) (hB:B≤w.heap.size) (hne:pre≠[]) (hl:pre.length≤1000000) (d:Bool) (hd:Sl.dense k L = d) :
    Calls Tryz.prog 96 #[.pointer (some ⟨g,0,none⟩)] w fun e w' => ShapeNew w.heap.size w' e lev pre (Sl.keys L) d v∧Below w.heap.size w w':=by
  obtain ⟨hg,⟨A,c,hp,h1⟩,h0,h2,h3,-⟩:=h
  have hgw:g < w.heap.size:=by omega
  have hbel:=below_alloc w (.cells #[.int .i64 0,.slice none 0 0,.slice none 0 0,.bool false,.int .u64 0] 138)
  have hsz:(w.alloc (.cells #[.int .i64 0,.slice none 0 0,.slice none 0 0,.bool false,.int .u64 0] 138)).heap.size = w.heap.size + 1:=by simp
  have HQ:=Lib.hid (q5_at (heap_at w (.cells #[.int .i64 0,.slice none 0 0,.slice none 0 0,.bool false,.int .u64 0] 138) _ rfl))
  rw [← hd]
  have HP:=Lib.hid (And.intro hp (And.intro hne (And.intro hl ha)))
  clear hp hne hl ha hd
  go_enter Tryz.func96,Tryz.ntmps96
  go_wp2_with fail
  have q0:∀ w',Below w.heap.size w w'→w'.cell? ⟨g,0,none⟩ = some (.int .i64 lev):=fun w' hb => (hb.cell (p:=⟨g,0,none⟩) hgw).trans h0
  have q1:∀ w',Below w.heap.size w w'→w'.cell? ⟨g,1,none⟩ = some (.slice A pre.length c):=fun w' hb => (hb.cell (p:=⟨g,1,none⟩) hgw).trans h1
  have q2:∀ w',Below w.heap.size w w'→w'.cell? ⟨g,2,none⟩ = some (.int .u64 (v:Int)):=fun w' hb => (hb.cell (p:=⟨g,2,none⟩) hgw).trans h2
  have q3:∀ w',Below w.heap.size w w'→w'.cell? ⟨g,3,none⟩ = some (.pointer (some ⟨b,0,none⟩)):=fun w' hb => (hb.cell (p:=⟨g,3,none⟩) hgw).trans h3
  have Hz:=Lib.hid hsz
  clear hsz h0 h1 h2 h3
  generalize w.alloc _ = W1 at *
  have hsz:w.heap.size + 1≤W1.heap.size:=by have:=Hz.out;omega
  go_region_held3 (fun w' => Below w.heap.size w w') (((repeat first | refine bD ?_ | with_reducible refine bN ?_ | refine bA ?_ | refine bS ?_);first | exact bR | assumption | exact bN bR | exact bN (bN bR)))
    ((first
      | (go_at_call 146;refine (clone_pts pre A c B _ (Nat.le_trans hB (Below.size (show Below w.heap.size w _ by ((repeat first | refine bD ?_ | with_reducible refine bN ?_ | refine bA ?_ | refine bS ?_);first | exact bR | assumption | exact bN bR | exact bN (bN bR))))) (HP.out.1.below' (show Below w.heap.size w _ by ((repeat first | refine bD ?_ | with_reducible refine bN ?_ | refine bA ?_ | refine bS ?_);first | exact bR | assumption | exact bN bR | exact bN (bN bR))) hB) HP.out.2.1 HP.out.2.2.1).mono ?_;rintro e wq ⟨h,d,rfl,ho,hb⟩;have hb':=Below.trans (show Below w.heap.size w _ by ((repeat first | refine bD ?_ | with_reducible refine bN ?_ | refine bA ?_ | refine bS ?_);first | exact bR | assumption | exact bN bR | exact bN (bN bR))) (hb.mono (by first | omega | (simp;omega)));have HQ:=Lib.hid (Q5.below (by first | exact HQ.out | exact HQ.out.drew) hb (by first | omega | (simp;omega)));have O1:=Lib.hid (ho.mono (show w.heap.size + 1≤_ by first | exact hsz | (simp;omega)));(try (have O2:=Lib.hid (OwnV.below (by first | exact O2.out | exact O2.out.same) hb (Nat.le_refl _))));have hsz:w.heap.size + 1≤wq.heap.size:=(Nat.le_trans (by first | exact hsz | (simp;omega)) hb.size);clear ho hb;have k0:=HQ.out.1.1;have k1:=HQ.out.1.2.1;have k2:=HQ.out.1.2.2.1;have k3:=HQ.out.1.2.2.2.1;have k4:=HQ.out.1.2.2.2.2;have f0:=HQ.out.2.1;have f1:=HQ.out.2.2.1;have f2:=HQ.out.2.2.2.1;have f3:=HQ.out.2.2.2.2.1;have f4:=HQ.out.2.2.2.2.2)
      | (go_at_call 147;refine (places_c HP.out.2.2.2.1 (HP.out.2.2.2.2.below (show Below w.heap.size w _ by ((repeat first | refine bD ?_ | with_reducible refine bN ?_ | refine bA ?_ | refine bS ?_);first | exact bR | assumption | exact bN bR | exact bN (bN bR))) hB (Nat.le_refl _)) (Nat.le_trans hB (Below.size (show Below w.heap.size w _ by ((repeat first | refine bD ?_ | with_reducible refine bN ?_ | refine bA ?_ | refine bS ?_);first | exact bR | assumption | exact bN bR | exact bN (bN bR)))))).mono ?_;rintro e wq ⟨A2,c2,rfl,ho,hb⟩;have hb':=Below.trans (show Below w.heap.size w _ by ((repeat first | refine bD ?_ | with_reducible refine bN ?_ | refine bA ?_ | refine bS ?_);first | exact bR | assumption | exact bN bR | exact bN (bN bR))) (hb.mono (by first | omega | (simp;omega)));have HQ:=Lib.hid (Q5.below (by first | exact HQ.out | exact HQ.out.drew) hb (by first | omega | (simp;omega)));have O2:=Lib.hid (ho.mono (show w.heap.size + 1≤_ by first | exact hsz | (simp;omega)));(try (have O1:=Lib.hid (Own.below (by first | exact O1.out | exact O1.out.drew) hb (Nat.le_refl _))));have hsz:w.heap.size + 1≤wq.heap.size:=(Nat.le_trans (by first | exact hsz | (simp;omega)) hb.size);clear ho hb;have k0:=HQ.out.1.1;have k1:=HQ.out.1.2.1;have k2:=HQ.out.1.2.2.1;have k3:=HQ.out.1.2.2.2.1;have k4:=HQ.out.1.2.2.2.2;have f0:=HQ.out.2.1;have f1:=HQ.out.2.2.1;have f2:=HQ.out.2.2.2.1;have f3:=HQ.out.2.2.2.2.1;have f4:=HQ.out.2.2.2.2.2)
      | (go_at_call 148;refine (Sn.sDense_c (HP.out.2.2.2.2.below (show Below w.heap.size w _ by ((repeat first | refine bD ?_ | with_reducible refine bN ?_ | refine bA ?_ | refine bS ?_);first | exact bR | assumption | exact bN bR | exact bN (bN bR))) hB (Nat.le_refl _))).mono ?_;rintro e wq ⟨rfl,rfl⟩)))
  have HB:=Lib.hid hb'
  clear q0 q1 q2 q3 k0 k1 k2 k3 k4 f0 f1 f2 f3 f4 hb' hsz
  go_wp2_with fail
  obtain ⟨⟨z0,z1,z2,z3,z4⟩,-⟩:=HQ.out.set (.int .i64 lev) (.slice (some ⟨h,0,none⟩) pre.length d) (.slice A2 (Sl.keys L).length c2) (.bool (Sl.dense k L)) (.int .u64 (v:Int))
  refine bodyPost_ret (v:=shapeV lev (some ⟨h,0,none⟩) pre.length d A2 (Sl.keys L).length c2 (Sl.dense k L) v) (by simp [results,Tryz.results96,go_sem,z0,z1,z2,z3,z4]) rfl ?_
  have hh:h≠w.heap.size:=by have:=(O1.out.2.lt h rfl).1;omega
  have hA2:∀ x,A2 = some x→x.block≠w.heap.size:=fun x hx => by subst hx;have:=(O2.out.lt x.block rfl).1;omega
  obtain ⟨A1,c1,hv1,hp1⟩:=O1.out.pts
  cases hv1
  have hA1:∀ x,some (⟨h,0,none⟩:Addr) = some x→x.block≠w.heap.size:=fun x hx => by cases hx;exact hh
  have hb:=HB.out
  refine ⟨⟨_,_,_,_,rfl,?_,?_,fun x hx => by cases hx;have:=(O1.out.2.lt h rfl).1;show w.heap.size≤h;omega,fun _ x hx => by subst hx;have:=(O2.out.lt x.block rfl).1;omega⟩,by ((repeat first | refine bD ?_ | with_reducible refine bN ?_ | refine bA ?_ | refine bS ?_);first | exact bR | assumption | exact bN bR | exact bN (bN bR))⟩
  · exact (pts_set (pts_set (pts_set (pts_set (pts_set hp1 hA1 _) hA1 _) hA1 _) hA1 _) hA1 _).keep (by simp) (fun _ _ => rfl)
  · exact (rdV_set (rdV_set (rdV_set (rdV_set (rdV_set O2.out.rd_at hA2 _) hA2 _) hA2 _) hA2 _) hA2 _).keep (by simp) (fun _ _ => rfl)
set_option maxRecDepth 100000 in
set_option maxHeartbeats 2000000 in
theorem nShape_ent_new {w:World} {B g:Nat} {lev:Int} {pre:List Nat} {v:Nat} {s:S4} (h:NdAt w B g lev pre v none s) (hB:B≤w.heap.size) (hne:pre≠[]) (hl:pre.length≤1000000) :
    Calls Tryz.prog 96 #[.pointer (some ⟨g,0,none⟩)] w fun e w' => ShapeNew w.heap.size w' e lev pre [] false v∧Below w.heap.size w w':=by
  obtain ⟨hg,⟨A,c,hp,h1⟩,h0,h2,h3,-⟩:=h
  have hgw:g < w.heap.size:=by omega
  have hbel:=below_alloc w (.cells #[.int .i64 0,.slice none 0 0,.slice none 0 0,.bool false,.int .u64 0] 138)
  have hsz:(w.alloc (.cells #[.int .i64 0,.slice none 0 0,.slice none 0 0,.bool false,.int .u64 0] 138)).heap.size = w.heap.size + 1:=by simp
  have HQ:=Lib.hid (q5_at (heap_at w (.cells #[.int .i64 0,.slice none 0 0,.slice none 0 0,.bool false,.int .u64 0] 138) _ rfl))
  have HP:=Lib.hid (And.intro hp (And.intro hne (And.intro hl trivial)))
  clear hp hne hl
  go_enter Tryz.func96,Tryz.ntmps96
  go_wp2_with fail
  have q0:∀ w',Below w.heap.size w w'→w'.cell? ⟨g,0,none⟩ = some (.int .i64 lev):=fun w' hb => (hb.cell (p:=⟨g,0,none⟩) hgw).trans h0
  have q1:∀ w',Below w.heap.size w w'→w'.cell? ⟨g,1,none⟩ = some (.slice A pre.length c):=fun w' hb => (hb.cell (p:=⟨g,1,none⟩) hgw).trans h1
  have q2:∀ w',Below w.heap.size w w'→w'.cell? ⟨g,2,none⟩ = some (.int .u64 (v:Int)):=fun w' hb => (hb.cell (p:=⟨g,2,none⟩) hgw).trans h2
  have q3:∀ w',Below w.heap.size w w'→w'.cell? ⟨g,3,none⟩ = some (.pointer none):=fun w' hb => (hb.cell (p:=⟨g,3,none⟩) hgw).trans h3
  have Hz:=Lib.hid hsz
  clear hsz h0 h1 h2 h3
  generalize w.alloc _ = W1 at *
  have hsz:w.heap.size + 1≤W1.heap.size:=by have:=Hz.out;omega
  go_region_held3 (fun w' => Below w.heap.size w w') (((repeat first | refine bD ?_ | with_reducible refine bN ?_ | refine bA ?_ | refine bS ?_);first | exact bR | assumption | exact bN bR | exact bN (bN bR)))
    ((first
      | (go_at_call 146;refine (clone_pts pre A c B _ (Nat.le_trans hB (Below.size (show Below w.heap.size w _ by ((repeat first | refine bD ?_ | with_reducible refine bN ?_ | refine bA ?_ | refine bS ?_);first | exact bR | assumption | exact bN bR | exact bN (bN bR))))) (HP.out.1.below' (show Below w.heap.size w _ by ((repeat first | refine bD ?_ | with_reducible refine bN ?_ | refine bA ?_ | refine bS ?_);first | exact bR | assumption | exact bN bR | exact bN (bN bR))) hB) HP.out.2.1 HP.out.2.2.1).mono ?_;rintro e wq ⟨h,d,rfl,ho,hb⟩;have hb':=Below.trans (show Below w.heap.size w _ by ((repeat first | refine bD ?_ | with_reducible refine bN ?_ | refine bA ?_ | refine bS ?_);first | exact bR | assumption | exact bN bR | exact bN (bN bR))) (hb.mono (by first | omega | (simp;omega)));have HQ:=Lib.hid (Q5.below (by first | exact HQ.out | exact HQ.out.drew) hb (by first | omega | (simp;omega)));have O1:=Lib.hid (ho.mono (show w.heap.size + 1≤_ by first | exact hsz | (simp;omega)));have hsz:w.heap.size + 1≤wq.heap.size:=(Nat.le_trans (by first | exact hsz | (simp;omega)) hb.size);clear ho hb;have k0:=HQ.out.1.1;have k1:=HQ.out.1.2.1;have k2:=HQ.out.1.2.2.1;have k3:=HQ.out.1.2.2.2.1;have k4:=HQ.out.1.2.2.2.2;have f0:=HQ.out.2.1;have f1:=HQ.out.2.2.1;have f2:=HQ.out.2.2.2.1;have f3:=HQ.out.2.2.2.2.1;have f4:=HQ.out.2.2.2.2.2)
      | (go_at_call 147;refine (Sn.sPlaces_nil _).mono ?_;rintro e wq ⟨⟨A2,rfl⟩,hb⟩;have hb':=Below.trans (show Below w.heap.size w _ by ((repeat first | refine bD ?_ | with_reducible refine bN ?_ | refine bA ?_ | refine bS ?_);first | exact bR | assumption | exact bN bR | exact bN (bN bR))) (hb.mono (by first | omega | (simp;omega)));have HQ:=Lib.hid (Q5.below (by first | exact HQ.out | exact HQ.out.drew) hb (by first | omega | (simp;omega)));(try (have O1:=Lib.hid (Own.below (by first | exact O1.out | exact O1.out.drew) hb (Nat.le_refl _))));have hsz:w.heap.size + 1≤wq.heap.size:=(Nat.le_trans (by first | exact hsz | (simp;omega)) hb.size);clear hb;have k0:=HQ.out.1.1;have k1:=HQ.out.1.2.1;have k2:=HQ.out.1.2.2.1;have k3:=HQ.out.1.2.2.2.1;have k4:=HQ.out.1.2.2.2.2;have f0:=HQ.out.2.1;have f1:=HQ.out.2.2.1;have f2:=HQ.out.2.2.2.1;have f3:=HQ.out.2.2.2.2.1;have f4:=HQ.out.2.2.2.2.2)
      | (go_at_call 148;refine (Sn.sDense_nil _).mono ?_;rintro e wq ⟨rfl,rfl⟩)))
  have HB:=Lib.hid hb'
  clear q0 q1 q2 q3 k0 k1 k2 k3 k4 f0 f1 f2 f3 f4 hb' hsz
  go_wp2_with fail
  obtain ⟨⟨z0,z1,z2,z3,z4⟩,-⟩:=HQ.out.set (.int .i64 lev) (.slice (some ⟨h,0,none⟩) pre.length d) (.slice A2 0 0) (.bool false) (.int .u64 (v:Int))
  refine bodyPost_ret (v:=shapeV lev (some ⟨h,0,none⟩) pre.length d A2 0 0 false v) (by simp [results,Tryz.results96,go_sem,z0,z1,z2,z3,z4]) rfl ?_
  have hh:h≠w.heap.size:=by have:=(O1.out.2.lt h rfl).1;omega
  obtain ⟨A1,c1,hv1,hp1⟩:=O1.out.pts
  cases hv1
  have hA1:∀ x,some (⟨h,0,none⟩:Addr) = some x→x.block≠w.heap.size:=fun x hx => by cases hx;exact hh
  have hb:=HB.out
  refine ⟨⟨_,_,_,_,rfl,?_,?_,fun x hx => by cases hx;have:=(O1.out.2.lt h rfl).1;show w.heap.size≤h;omega,fun h => absurd rfl h⟩,by ((repeat first | refine bD ?_ | with_reducible refine bN ?_ | refine bA ?_ | refine bS ?_);first | exact bR | assumption | exact bN bR | exact bN (bN bR))⟩
  · exact (pts_set (pts_set (pts_set (pts_set (pts_set hp1 hA1 _) hA1 _) hA1 _) hA1 _) hA1 _).keep (by simp) (fun _ _ => rfl)
  · exact RdV.nil _ _ _
def denseT (k:Nat) (t:T):Bool:=Sl.dense k (kidL t.ks)
theorem dense_ent (k:Nat) (_h:1≤k):Sl.dense k (kidL []) = false:=by simp [Sl.dense,kidL]
theorem nShape_new {w:World} {B k:Nat} {t:T} (h:Node w B k t) (hB:B≤w.heap.size) :
    Calls Tryz.prog 96 #[.pointer (some ⟨t.blk,0,none⟩)] w fun e w' => ShapeNew w.heap.size w' e (levI t) t.pre (Sl.keys (kidL t.ks)) (denseT k t) t.val∧Below w.heap.size w w':=by
  obtain ⟨wf,hm⟩:=h
  have h1:=wf.k1
  have h16:=wf.k16
  have hl:=wf.len
  have hne:t.pre≠[]:=by intro e;rw [e] at hl;simp at hl;omega
  cases hm with
  | ent g p v h => 
    have:=nShape_ent_new h hB hne (by rw [show p.length = k from hl];omega)
    rw [show denseT k (.ent g p v) = false from dense_ent k h1]
    exact this
  | br g l pre ks b h ha hk =>
    have:=nShape_br_new h ha hB hne (by rw [show pre.length = k from hl];omega) _ rfl
    rw [show levI (.br g l pre ks) = (l:Int) by simp [levI,T.lv]]
    exact this
theorem nShape_br {w:World} {B g b k:Nat} {lev:Int} {pre:List Nat} {v:Nat} {s:S4} {L:Sn.Al} (h:NdAt w B g lev pre v (some ⟨b,0,none⟩) s) (ha:Sn.At w B b k L) (hB:B≤w.heap.size) (hne:pre≠[]) (hl:pre.length≤1000000) (d:Bool) (hd:Sl.dense k L = d) :
    Calls Tryz.prog 96 #[.pointer (some ⟨g,0,none⟩)] w fun e w' => ShapeAt w' e lev pre (Sl.keys L) d v∧Below w.heap.size w w' :=
  (nShape_br_new h ha hB hne hl d hd).mono fun _ _ h => ⟨h.1.at,h.2⟩
theorem nShape_ent {w:World} {B g:Nat} {lev:Int} {pre:List Nat} {v:Nat} {s:S4} (h:NdAt w B g lev pre v none s) (hB:B≤w.heap.size) (hne:pre≠[]) (hl:pre.length≤1000000) :
    Calls Tryz.prog 96 #[.pointer (some ⟨g,0,none⟩)] w fun e w' => ShapeAt w' e lev pre [] false v∧Below w.heap.size w w' :=
  (nShape_ent_new h hB hne hl).mono fun _ _ h => ⟨h.1.at,h.2⟩
theorem nShape_c {w:World} {B k:Nat} {t:T} (h:Node w B k t) (hB:B≤w.heap.size) :
    Calls Tryz.prog 96 #[.pointer (some ⟨t.blk,0,none⟩)] w fun e w' => ShapeAt w' e (levI t) t.pre (Sl.keys (kidL t.ks)) (denseT k t) t.val∧Below w.heap.size w w' :=
  (nShape_new h hB).mono fun _ _ h => ⟨h.1.at,h.2⟩
end Go.Proofs.YtkeepngaaleakaaGreatDoor
