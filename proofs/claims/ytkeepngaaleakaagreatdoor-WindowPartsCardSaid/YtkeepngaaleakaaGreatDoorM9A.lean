import Derived.Test.YtkeepngaaleakaaGreatDoorM75
import Derived.Test.YtkeepngaaleakaaGreatDoorM91
namespace Go.Proofs.YtkeepngaaleakaaGreatDoor
open Go.ChangeShapes Go.WideShapes Go.ChangeAt Go.RowKit
open Tr (T S4 Ent)
set_option maxRecDepth 100000 in
set_option maxHeartbeats 2000000 in
theorem nShape_br_cap {w:World} {B g b k:Nat} {lev:Int} {pre:List Nat} {v:Nat} {s:S4} {L:Sn.Al} (h:NdAt w B g lev pre v (some ⟨b,0,none⟩) s) (ha:Sn.At w B b k L) (hB:B≤w.heap.size) (hne:pre≠[]) (hl:pre.length≤1000000) (d:Bool) (hd:Sl.dense k L = d) :
    Calls Tryz.prog 96 #[.pointer (some ⟨g,0,none⟩)] w fun e w' => ∃ (A1:Option Addr) (n1 c1:Nat) (A2:Option Addr) (c2:Nat),e = .returned (shapeV lev A1 n1 c1 A2 (Sl.keys L).length c2 d v)∧RdV w' w'.heap.size A2 (Sn.intV (Sl.keys L))∧(Sl.keys L).length≤c2∧Below w.heap.size w w':=by
  obtain ⟨hg,⟨A,c,hp,h1⟩,h0,h2,h3,-⟩:=h
  have hgw:g < w.heap.size:=by omega
  have hbel:=below_alloc w (.cells #[.int .i64 0,.slice none 0 0,.slice none 0 0,.bool false,.int .u64 0] 138)
  have hsz:(w.alloc (.cells #[.int .i64 0,.slice none 0 0,.slice none 0 0,.bool false,.int .u64 0] 138)).heap.size = w.heap.size + 1:=by simp
  have HQ:=Lib.hid (q5_at (heap_at w (.cells #[.int .i64 0,.slice none 0 0,.slice none 0 0,.bool false,.int .u64 0] 138) _ rfl))
  rw [← hd]
  have HP:=Lib.hid (And.intro hp (And.intro hne (And.intro hl ha)))
  clear hp hne hl ha hd
  go_enter Tryz.func96,Tryz.ntmps96
  go_wp2_with fail
  have q0:∀ w',Below w.heap.size w w'→w'.cell? ⟨g,0,none⟩ = some (.int .i64 lev):=fun w' hb => (hb.cell (p:=⟨g,0,none⟩) hgw).trans h0
  have q1:∀ w',Below w.heap.size w w'→w'.cell? ⟨g,1,none⟩ = some (.slice A pre.length c):=fun w' hb => (hb.cell (p:=⟨g,1,none⟩) hgw).trans h1
  have q2:∀ w',Below w.heap.size w w'→w'.cell? ⟨g,2,none⟩ = some (.int .u64 (v:Int)):=fun w' hb => (hb.cell (p:=⟨g,2,none⟩) hgw).trans h2
  have q3:∀ w',Below w.heap.size w w'→w'.cell? ⟨g,3,none⟩ = some (.pointer (some ⟨b,0,none⟩)):=fun w' hb => (hb.cell (p:=⟨g,3,none⟩) hgw).trans h3
  have Hz:=Lib.hid hsz
  clear hsz h0 h1 h2 h3
  generalize w.alloc _ = W1 at *
  have hsz:w.heap.size + 1≤W1.heap.size:=by have:=Hz.out;omega
  go_region_held3 (fun w' => Below w.heap.size w w') (((repeat first | refine bD ?_ | with_reducible refine bN ?_ | refine bA ?_ | refine bS ?_);first | exact bR | assumption | exact bN bR | exact bN (bN bR)))
    ((first
      | (go_at_call 146;refine (clone_pts pre A c B _ (Nat.le_trans hB (Below.size (show Below w.heap.size w _ by ((repeat first | refine bD ?_ | with_reducible refine bN ?_ | refine bA ?_ | refine bS ?_);first | exact bR | assumption | exact bN bR | exact bN (bN bR))))) (HP.out.1.below' (show Below w.heap.size w _ by ((repeat first | refine bD ?_ | with_reducible refine bN ?_ | refine bA ?_ | refine bS ?_);first | exact bR | assumption | exact bN bR | exact bN (bN bR))) hB) HP.out.2.1 HP.out.2.2.1).mono ?_;rintro e wq ⟨h,d,rfl,ho,hb⟩;have hb':=Below.trans (show Below w.heap.size w _ by ((repeat first | refine bD ?_ | with_reducible refine bN ?_ | refine bA ?_ | refine bS ?_);first | exact bR | assumption | exact bN bR | exact bN (bN bR))) (hb.mono (by first | omega | (simp;omega)));have HQ:=Lib.hid (Q5.below (by first | exact HQ.out | exact HQ.out.drew) hb (by first | omega | (simp;omega)));have O1:=Lib.hid (ho.mono (show w.heap.size + 1≤_ by first | exact hsz | (simp;omega)));(try (have O2:=Lib.hid (OwnV.below (by first | exact O2.out | exact O2.out.same) hb (Nat.le_refl _))));have hsz:w.heap.size + 1≤wq.heap.size:=(Nat.le_trans (by first | exact hsz | (simp;omega)) hb.size);clear ho hb;have k0:=HQ.out.1.1;have k1:=HQ.out.1.2.1;have k2:=HQ.out.1.2.2.1;have k3:=HQ.out.1.2.2.2.1;have k4:=HQ.out.1.2.2.2.2;have f0:=HQ.out.2.1;have f1:=HQ.out.2.2.1;have f2:=HQ.out.2.2.2.1;have f3:=HQ.out.2.2.2.2.1;have f4:=HQ.out.2.2.2.2.2)
      | (go_at_call 147;refine (places_c HP.out.2.2.2.1 (HP.out.2.2.2.2.below (show Below w.heap.size w _ by ((repeat first | refine bD ?_ | with_reducible refine bN ?_ | refine bA ?_ | refine bS ?_);first | exact bR | assumption | exact bN bR | exact bN (bN bR))) hB (Nat.le_refl _)) (Nat.le_trans hB (Below.size (show Below w.heap.size w _ by ((repeat first | refine bD ?_ | with_reducible refine bN ?_ | refine bA ?_ | refine bS ?_);first | exact bR | assumption | exact bN bR | exact bN (bN bR)))))).mono ?_;rintro e wq ⟨A2,c2,rfl,ho,hb⟩;have hb':=Below.trans (show Below w.heap.size w _ by ((repeat first | refine bD ?_ | with_reducible refine bN ?_ | refine bA ?_ | refine bS ?_);first | exact bR | assumption | exact bN bR | exact bN (bN bR))) (hb.mono (by first | omega | (simp;omega)));have HQ:=Lib.hid (Q5.below (by first | exact HQ.out | exact HQ.out.drew) hb (by first | omega | (simp;omega)));have O2:=Lib.hid (ho.mono (show w.heap.size + 1≤_ by first | exact hsz | (simp;omega)));(try (have O1:=Lib.hid (Own.below (by first | exact O1.out | exact O1.out.drew) hb (Nat.le_refl _))));have hsz:w.heap.size + 1≤wq.heap.size:=(Nat.le_trans (by first | exact hsz | (simp;omega)) hb.size);clear ho hb;have k0:=HQ.out.1.1;have k1:=HQ.out.1.2.1;have k2:=HQ.out.1.2.2.1;have k3:=HQ.out.1.2.2.2.1;have k4:=HQ.out.1.2.2.2.2;have f0:=HQ.out.2.1;have f1:=HQ.out.2.2.1;have f2:=HQ.out.2.2.2.1;have f3:=HQ.out.2.2.2.2.1;have f4:=HQ.out.2.2.2.2.2)
      | (go_at_call 148;refine (Sn.sDense_c (HP.out.2.2.2.2.below (show Below w.heap.size w _ by ((repeat first | refine bD ?_ | with_reducible refine bN ?_ | refine bA ?_ | refine bS ?_);first | exact bR | assumption | exact bN bR | exact bN (bN bR))) hB (Nat.le_refl _))).mono ?_;rintro e wq ⟨rfl,rfl⟩)))
  have HB:=Lib.hid hb'
  clear q0 q1 q2 q3 k0 k1 k2 k3 k4 f0 f1 f2 f3 f4 hb' hsz
  go_wp2_with fail
  obtain ⟨⟨z0,z1,z2,z3,z4⟩,-⟩:=HQ.out.set (.int .i64 lev) (.slice (some ⟨h,0,none⟩) pre.length d) (.slice A2 (Sl.keys L).length c2) (.bool (Sl.dense k L)) (.int .u64 (v:Int))
  refine bodyPost_ret (v:=shapeV lev (some ⟨h,0,none⟩) pre.length d A2 (Sl.keys L).length c2 (Sl.dense k L) v) (by simp [results,Tryz.results96,go_sem,z0,z1,z2,z3,z4]) rfl ?_
  have hh:h≠w.heap.size:=by have:=(O1.out.2.lt h rfl).1;omega
  have hA2:∀ x,A2 = some x→x.block≠w.heap.size:=fun x hx => by subst hx;have:=(O2.out.lt x.block rfl).1;omega
  have hcap:(Sl.keys L).length≤c2:=by
    obtain ⟨A3,c3,hv,hc3,-⟩:=O2.out.rd
    simp only [Value.slice.injEq] at hv
    obtain ⟨-,-,rfl⟩:=hv
    simpa [Sn.intV] using hc3
  have hb:=HB.out
  refine ⟨_,_,_,_,_,rfl,?_,hcap,by ((repeat first | refine bD ?_ | with_reducible refine bN ?_ | refine bA ?_ | refine bS ?_);first | exact bR | assumption | exact bN bR | exact bN (bN bR))⟩
  exact (rdV_set (rdV_set (rdV_set (rdV_set (rdV_set O2.out.rd_at hA2 _) hA2 _) hA2 _) hA2 _) hA2 _).keep (by simp) (fun _ _ => rfl)
theorem keys_kidL (ks:List (Nat × T)):Sl.keys (kidL ks) = ks.map (·.1):=by simp [Sl.keys,kidL]
theorem shape_cut {w:World} {B k g l:Nat} {pre:List Nat} {ks:List (Nat × T)} (h:Node w B k (.br g l pre ks)) (hB:B≤w.heap.size) {n:Nat} (hn:ks.length = n) :
    Calls Tryz.prog 96 #[.pointer (some ⟨g,0,none⟩)] w fun e w' => ∃ (lev:Int) (A1:Option Addr) (n1 c1:Nat) (A2:Option Addr) (c2:Nat) (d:Bool) (v:Nat),e = .returned (.agg #[.int .i64 lev,.slice A1 n1 c1,.slice A2 n c2,.bool d,.int .u64 (v:Int)])∧RdV w' w'.heap.size A2 (Sn.intV (ks.map (·.1)))∧n≤c2∧Below w.heap.size w w':=by
  obtain ⟨wf,hm⟩:=h
  have h1:=wf.k1
  have h16:=wf.k16
  have hl:=wf.len
  have hne:(T.br g l pre ks).pre≠[]:=by intro e;rw [e] at hl;simp at hl;omega
  cases hm with
  | br _ _ _ _ b h ha hk =>
    refine (nShape_br_cap h ha hB hne (by rw [show pre.length = k from hl];omega) _ rfl).mono ?_
    rintro e w' ⟨A1,n1,c1,A2,c2,he,hr,hc,hb⟩
    rw [keys_kidL] at hr
    rw [keys_kidL,List.length_map,hn] at hc
    exact ⟨_,A1,n1,c1,A2,c2,_,_,by rw [he,keys_kidL,List.length_map,hn],hr,hc,hb⟩
theorem nptr_none (w:World):(binOp .eql 81 (.pointer none) (.pointer none)).run Tryz.prog w = .ok (.bool true) w:=by
  have h2:∀ d:Nat,(Op.equalIn (d + 1) 81 (.pointer none) (.pointer none)).run Tryz.prog w = .ok true w:=fun d => by
    simp [Op.equalIn,run_underlying Tryz.underlying81]
  simp only [binOp]
  simp [Op.equal,Op.maxDepth,h2 9999]
end Go.Proofs.YtkeepngaaleakaaGreatDoor
