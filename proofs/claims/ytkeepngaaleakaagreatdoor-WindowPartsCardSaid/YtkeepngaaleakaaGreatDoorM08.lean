import Derived.Deep.RegionLaw
import Derived.Test.YtkeepngaaleakaaGreatDoorM07
namespace Go.Proofs.YtkeepngaaleakaaGreatDoor.Ch
open Go.ChangeShapes Go.WideShapes Go.ChangeAt Go.RowKit
theorem info:(Tryz.prog.info? 307).map (fun i => (i.zero,i.size,i.bytes)) = some (some (Value.int .u16 0),1,2):=by kernel_rfl
theorem und:Tryz.prog.underlying 275 = some (.slice 307):=Tryz.underlying275
theorem grow_zero (w:World):Calls Tryz.prog 266 #[.slice none 0 0,.int .i64 0] w fun e w' => e = .returned (.slice none 0 0)∧w = w':=by
  go_enter Tryz.func266,Tryz.ntmps266
  go_wp2
  go_ret
  exact ⟨rfl,rfl⟩
theorem zeros_size (n:Nat):(Builtin.zeroCells (Value.cells (Value.int .u16 0)) n).size = n:=by simp [size_zeroCells,Value.cells]
set_option maxRecDepth 100000 in
theorem grow_pos (n:Nat) (w:World) (h0:0 < n) (hn:n≤1000000) :
    Calls Tryz.prog 266 #[.slice none 0 0,.int .i64 (n:Int)] w fun e w' => ∃ v,e = .returned v∧OwnV 307 w' w.heap.size v []∧Below w.heap.size w w':=by
  obtain ⟨i0,hi0,hz0,hz1,hz2⟩:=info_parts info
  have hb:n * i0.bytes≤281474976710656:=by rw [hz2];omega
  have hrun:=fun (w:World) => Lib.run_append_nil_zeros (P:=Tryz.prog) w 275 3 275 307 i0 (Value.int .u16 0) .i64 .i64 und Tryz.underlying3 hi0 hz0 n h0 (by omega) (by omega) hb
  have HR:=Lib.hid hrun
  have hge:=grownCap_ge w n 0 307
  have hmx:=grownCap_le_maxLen w n 0 307 (by unfold maxLen;omega)
  have HZ:Hid ((Builtin.zeroCells (Value.cells (Value.int .u16 0)) n ++ Builtin.zeroCells (Value.cells (Value.int .u16 0)) (grownCap w n 0 307 - n)).size = grownCap w n 0 307):=Lib.hid (by
    rw [Array.size_append,zeros_size,zeros_size];omega)
  have HM:=Lib.hid hmx
  clear hrun hi0 hz0 hz1 hz2 hb hmx
  go_enter Tryz.func266,Tryz.ntmps266
  go_wp2_with (at_builtin;refine Lib.wpList_append_run _ rfl _ _ _ _ rfl _ _ rfl rfl _ _ (HR.out _) ?_)
  go_ret
  refine ⟨_,rfl,⟨fun x hx => by simp at hx,World.ownsRow_made w _ _ (Nat.le_refl _) HM.out (by rw [Nat.mul_one];exact HZ.out)⟩,(below_alloc _ _).drew⟩
theorem grow_c (n:Nat) (w:World) (hn:n≤1000000) :
    Calls Tryz.prog 266 #[.slice none 0 0,.int .i64 (n:Int)] w fun e w' => ∃ v,e = .returned v∧OwnV 307 w' w.heap.size v []∧Below w.heap.size w w':=by
  rcases Nat.eq_zero_or_pos n with rfl | h
  · refine (grow_zero w).mono ?_
    rintro e w' ⟨rfl,rfl⟩
    exact ⟨_,rfl,ownV_none _ _ _,Below.refl _ _⟩
  · exact grow_pos n w h hn
/-! ### Concat -/
def Part (w:World) (B:Nat) (p:Value × List Value):Prop:=∃ A c,p.1 = .slice A p.2.length c∧RdV w B A p.2∧∀ x∈p.2,x.oneCell' = true
theorem Part.below {w w':World} {B C:Nat} {p:Value × List Value} (h:Part w B p) (hb:Below C w w') (hC:B≤C):Part w' B p:=by
  obtain ⟨A,c,h1,h2,h3⟩:=h
  exact ⟨A,c,h1,h2.below hb hC (Nat.le_refl _),h3⟩
theorem Part.up {w:World} {B B':Nat} {p:Value × List Value} (h:Part w B p) (hB:B≤B'):Part w B' p:=by
  obtain ⟨A,c,h1,h2,h3⟩:=h
  exact ⟨A,c,h1,h2.below (Below.refl B w) (Nat.le_refl _) hB,h3⟩
theorem part_one {w:World} {B g:Nat} {v:Value} {ty:TypeId} (hh:w.heap[g]? = some (.cells #[v] ty (0,0))) (hg:g < B) (h1:v.oneCell' = true):Part w B (.slice (some ⟨g,0,none⟩) 1 1,[v]):=by
  refine ⟨_,1,rfl,fun _ => ⟨g,0,rfl,hg,fun i u hi => ?_⟩,fun x hx => by simp at hx;subst hx;exact h1⟩
  rw [cell_of_row w g _ _ ty (0,0) hh]
  cases i with
  | zero => simpa using hi
  | succ i => simp at hi
def cat (ps:List (Value × List Value)):List Value:=(ps.map (·.2)).flatten
theorem cat_succ {ps:List (Value × List Value)} {j:Nat} {p:Value × List Value} (h:ps[j]? = some p):cat (ps.take (j + 1)) = cat (ps.take j) ++ p.2:=by
  obtain ⟨hlt,rfl⟩:=List.getElem?_eq_some_iff.1 h
  unfold cat
  rw [List.take_succ_eq_append_getElem hlt,List.map_append,List.flatten_append]
  congr 1
  simp
theorem cat_le (ps:List (Value × List Value)) (j:Nat):(cat (ps.take j)).length≤(cat ps).length:=by
  have:cat ps = cat (ps.take j) ++ cat (ps.drop j):=by
    unfold cat
    rw [← List.flatten_append,← List.map_append,List.take_append_drop]
  rw [this,List.length_append]
  omega
set_option maxRecDepth 100000 in
theorem concat_c (g cp:Nat) (ps:List (Value × List Value)) (B:Nat) (w:World) (hg:g < w.heap.size) (hB:B≤w.heap.size) (hcell:∀ i p,ps[i]? = some p→w.cell? ⟨g,i,none⟩ = some p.1∧Part w B p) (hl:(cat ps).length≤1000000) (hn:ps.length≤100) :
    Calls Tryz.prog 257 #[.slice (some ⟨g,0,none⟩) ps.length cp] w fun e w' => ∃ v,e = .returned v∧OwnV 307 w' w.heap.size v (cat ps)∧Below w.heap.size w w':=by
  have HC:=Lib.hid hcell
  have HL:=Lib.hid hl
  clear hcell hl
  go_enter Tryz.func257,Tryz.ntmps257
  go_wp2_with fail
  go_loop [3,5,11] (fun s _ i => ∃ j:Nat,j≤ps.length∧i = .int .i64 j∧s = .int .i64 ((cat (ps.take j)).length:Nat)) (fun _ _ i => ps.length - (intOf i).toNat)
  case atStart => exact ⟨0,Nat.zero_le _,rfl,rfl⟩
  case round =>
    obtain ⟨j,hj,rfl,rfl⟩:=hrel
    have hle:=cat_le ps j
    have hb:(cat (ps.take j)).length≤1000000:=by have:=HL.out;omega
    clear hle
    by_cases hlt:j < ps.length
    · obtain ⟨p,hp⟩:=get_lt hlt
      obtain ⟨hc,A,c,hp1,hp2,hp3⟩:=HC.out j p hp
      have hs:=congrArg List.length (cat_succ hp)
      rw [List.length_append] at hs
      have hle2:=cat_le ps (j + 1)
      have hb2:(cat (ps.take j)).length + p.2.length≤1000000:=by have:=HL.out;omega
      have Hs:=Lib.hid hs
      rw [hp1] at hc
      clear hs hle2 hp1 hp2 hp3
      generalize (cat (ps.take j)).length = s at *
      generalize p.2.length = q at *
      go_wp2_with fail
      go_round
      case rel => exact ⟨j + 1,by omega,by go_num,by rw [Hs.out];go_num⟩
      case measure => simp [intOf];omega
    · have hjn:Hid (cat (ps.take j) = cat ps):=Lib.hid (by rw [List.take_of_length_le (by omega)])
      generalize (cat (ps.take j)).length = s at *
      go_wp2_with fail
      refine (grow_c s _ hb).mono ?_
      rintro e w1 ⟨v1,rfl,hown,hb1⟩
      have Ho:=Lib.hid hown
      have Hb1:=Lib.hid hb1
      clear hown hb1
      have hsz1:=Hb1.out.size
      go_wp2_with fail
      go_loopw [6,8,27] (fun v _ i wr => ∃ j:Nat,j≤ps.length∧i = .int .i64 j∧OwnV 307 wr w.heap.size v (cat (ps.take j))∧Below w.heap.size w wr) (fun _ _ i _ => ps.length - (intOf i).toNat)
      case atStart => exact ⟨0,Nat.zero_le _,rfl,Ho.out,Hb1.out⟩
      case round =>
        obtain ⟨i,hi,rfl,hv,hbw⟩:=hrel
        have Hv:=Lib.hid hv
        have hsz:=hbw.size
        clear hv
        by_cases hlt2:i < ps.length
        · obtain ⟨p,hp⟩:=get_lt hlt2
          obtain ⟨hc,hpart⟩:=HC.out i p hp
          obtain ⟨A,c,hp1,hp2,hp3⟩:=hpart.below hbw hB
          have hs:=cat_succ hp
          have hle2:=cat_le ps (i + 1)
          rw [hs,List.length_append] at hle2
          have hb2:Hid ((cat (ps.take i)).length + p.2.length≤8000000000):=Lib.hid (by have:=HL.out;omega)
          have Hs:=Lib.hid hs
          have Hp:=Lib.hid (And.intro hp2 hp3)
          have hc2:=(hbw.cell (p:=⟨g,i,none⟩) hg).trans hc
          rw [hp1] at hc2
          have Hbw:=Lib.hid hbw
          clear hs hle2 hp1 hp2 hp3 hc hpart hbw
          go_wp2_with (at_builtin;refine wpList_append_vals 275 307 (Value.int .u16 0) 2 und info rfl (by omega) rfl (.tmp 31) (.tmp 32) rfl w.heap.size _ (cat (ps.take i)) p.2 rfl Hv.out B A _ c rfl rfl Hp.out.1 Hp.out.2 hb2.out hsz ?_;intro v2 w2 hown2 hgrow2 _)
          go_roundw
          case rel => exact ⟨i + 1,by omega,by go_num,by rw [Hs.out];exact hown2,Hbw.out.grown hgrow2 hsz (fun q hq => (Hv.out.lt q hq).1)⟩
          case measure => simp [intOf];omega
        · have hin:cat (ps.take i) = cat ps:=by rw [List.take_of_length_le (by omega)]
          have hfin:=Hv.out
          rw [hin] at hfin
          have Hf:=Lib.hid hfin
          have Hbw:=Lib.hid hbw
          clear hfin hin hbw
          go_wp2_with fail
          go_ret
          exact ⟨_,rfl,Hf.out,Hbw.out⟩
theorem concat2_c (g cp:Nat) (v1 v2:Value) (x1 x2:List Value) (ty:TypeId) (B:Nat) (w:World) (hB:B≤w.heap.size) (hh:w.heap[g]? = some (.cells #[v1,v2] ty (0,0))) (p1:Part w B (v1,x1)) (p2:Part w B (v2,x2)) (hl:x1.length + x2.length≤1000000) :
    Calls Tryz.prog 257 #[.slice (some ⟨g,0,none⟩) 2 cp] w fun e w' => ∃ v,e = .returned v∧OwnV 307 w' w.heap.size v (x1 ++ x2)∧Below w.heap.size w w':=by
  have h:=concat_c g cp [(v1,x1),(v2,x2)] B w (Array.getElem?_eq_some_iff.1 hh).1 hB ?_ (by simp [cat];omega) (by simp)
  · have e:cat [(v1,x1),(v2,x2)] = x1 ++ x2:=by simp [cat]
    rw [e] at h
    exact h
  · intro i p hp
    rw [cell_of_row w g i _ ty (0,0) hh]
    match i,hp with
    | 0,hp => simp at hp;subst hp;exact ⟨rfl,p1⟩
    | 1,hp => simp at hp;subst hp;exact ⟨rfl,p2⟩
theorem concat3_c (g cp:Nat) (v1 v2 v3:Value) (x1 x2 x3:List Value) (ty:TypeId) (B:Nat) (w:World) (hB:B≤w.heap.size) (hh:w.heap[g]? = some (.cells #[v1,v2,v3] ty (0,0))) (p1:Part w B (v1,x1)) (p2:Part w B (v2,x2)) (p3:Part w B (v3,x3)) (hl:x1.length + x2.length + x3.length≤1000000) :
    Calls Tryz.prog 257 #[.slice (some ⟨g,0,none⟩) 3 cp] w fun e w' => ∃ v,e = .returned v∧OwnV 307 w' w.heap.size v (x1 ++ x2 ++ x3)∧Below w.heap.size w w':=by
  have h:=concat_c g cp [(v1,x1),(v2,x2),(v3,x3)] B w (Array.getElem?_eq_some_iff.1 hh).1 hB ?_ (by simp [cat];omega) (by simp)
  · have e:cat [(v1,x1),(v2,x2),(v3,x3)] = x1 ++ x2 ++ x3:=by simp [cat]
    rw [e] at h
    exact h
  · intro i p hp
    rw [cell_of_row w g i _ ty (0,0) hh]
    match i,hp with
    | 0,hp => simp at hp;subst hp;exact ⟨rfl,p1⟩
    | 1,hp => simp at hp;subst hp;exact ⟨rfl,p2⟩
    | 2,hp => simp at hp;subst hp;exact ⟨rfl,p3⟩
end Go.Proofs.YtkeepngaaleakaaGreatDoor.Ch
namespace Go.Proofs.YtkeepngaaleakaaGreatDoor.Sn
open Go.ChangeShapes Go.WideShapes Go.ChangeAt Go.RowKit
def Gam (w:World) (B g p k:Nat) (v u:Value) (xs ys:List Value):Prop :=
  (B≤g∧B≤p∧g≠p∧g < w.heap.size∧p < w.heap.size)∧w.cell? ⟨g,0,none⟩ = some (.pointer (some ⟨p,0,none⟩))∧w.cell? ⟨p,0,none⟩ = some (.int .i64 (k:Int))∧w.cell? ⟨p,1,none⟩ = some (.int .u64 0) ∧
    w.cell? ⟨p,2,none⟩ = some v∧w.cell? ⟨p,3,none⟩ = some u∧w.frozen? ⟨p,2,none⟩ = false∧w.frozen? ⟨p,3,none⟩ = false∧OwnV 307 w B v xs∧OwnV 81 w B u ys ∧
    (v.ownBlock≠some g∧v.ownBlock≠some p∧u.ownBlock≠some g∧u.ownBlock≠some p)∧(v.ownBlock = none∨v.ownBlock≠u.ownBlock)
theorem grown_undrew {w w1:World} {r:Option Nat} (h:w.drew.grownBy w1 r):w.grownBy w1 r:=⟨h.os,h.tape,h.output,h.size,h.block⟩
theorem Gam.drew {w:World} {B g p k:Nat} {v u:Value} {xs ys:List Value} (h:Gam w B g p k v u xs ys):Gam w.drew B g p k v u xs ys:=h
theorem gam_grow {w w1:World} {B g p k:Nat} {v u x:Value} {xs ys:List Value} (h:Gam w B g p k v u xs ys) (o:Obj) (hg:(w.alloc o).grownBy w1 x.ownBlock) (hx:x = v∨x = u) :
    (g < w1.heap.size∧p < w1.heap.size)∧w1.cell? ⟨g,0,none⟩ = some (.pointer (some ⟨p,0,none⟩))∧w1.cell? ⟨p,0,none⟩ = some (.int .i64 (k:Int))∧w1.cell? ⟨p,1,none⟩ = some (.int .u64 0) ∧
      w1.cell? ⟨p,2,none⟩ = some v∧w1.cell? ⟨p,3,none⟩ = some u∧w1.frozen? ⟨p,2,none⟩ = false∧w1.frozen? ⟨p,3,none⟩ = false∧Below B w w1:=by
  obtain ⟨⟨b1,b2,n,l1,l2⟩,c0,c1,c2,c3,c4,f2,f3,o1,o2,⟨m1,m2,m3,m4⟩,_⟩:=h
  have hbase:∀ q,x.ownBlock = some q→B≤q∧q≠g∧q≠p:=by
    rcases hx with rfl | rfl
    · exact fun q hq => ⟨(o1.lt q hq).1,fun e => m1 (by rw [hq,e]),fun e => m2 (by rw [hq,e])⟩
    · exact fun q hq => ⟨(o2.lt q hq).1,fun e => m3 (by rw [hq,e]),fun e => m4 (by rw [hq,e])⟩
  have hbl:∀ b,b < w.heap.size→(b = g∨b = p)→w1.heap[b]? = w.heap[b]?:=fun b hb hc => by
    rw [hg.block b (by simp;omega) (by intro e;have:=hbase b e.symm;omega),Below.heap_alloc _ _ _ hb]
  have hs:=hg.size
  rw [World.size_alloc] at hs
  have kg:=hbl g l1 (.inl rfl)
  have kp:=hbl p l2 (.inr rfl)
  exact ⟨⟨by omega,by omega⟩,(World.cell?_of_block (w:=w) (a:=⟨g,0,none⟩) kg).trans c0,(World.cell?_of_block (w:=w) (a:=⟨p,0,none⟩) kp).trans c1,(World.cell?_of_block (w:=w) (a:=⟨p,1,none⟩) kp).trans c2,
    (World.cell?_of_block (w:=w) (a:=⟨p,2,none⟩) kp).trans c3,(World.cell?_of_block (w:=w) (a:=⟨p,3,none⟩) kp).trans c4,(World.frozen?_of_block (w:=w) (a:=⟨p,2,none⟩) kp).trans f2,(World.frozen?_of_block (w:=w) (a:=⟨p,3,none⟩) kp).trans f3,
    ((Below.refl B w).alloc (by omega) o).grown hg (by simp;omega) (fun q hq => (hbase q hq).1)⟩
theorem gam_lo {w w1:World} {B g p k:Nat} {v u v1:Value} {xs ys zs:List Value} (h:Gam w B g p k v u xs ys) (o:Obj) (hown:OwnV 307 w1 B v1 zs) (hg:(w.alloc o).grownBy w1 v.ownBlock) (hat:v1.ownBlock = v.ownBlock∨v1.ownBlock = some (w.alloc o).heap.size) :
    Gam (w1.setCell ⟨p,2,none⟩ v1) B g p k v1 u zs ys∧Below B w (w1.setCell ⟨p,2,none⟩ v1):=by
  obtain ⟨⟨s1,s2⟩,e0,e1,e2,e3,e4,e5,e6,hb⟩:=gam_grow h o hg (.inl rfl)
  obtain ⟨⟨b1,b2,n,l1,l2⟩,c0,c1,c2,c3,c4,f2,f3,o1,o2,⟨m1,m2,m3,m4⟩,m5⟩:=h
  have hu:OwnV 81 w1 B u ys:=⟨o2.1,(o2.2.alloc o).kept hg (by
    rcases hb2:u.ownBlock with _ | b
    · exact .inl rfl
    · refine .inr ?_
      rcases m5 with m5 | m5
      · rw [m5];simp
      · rw [← hb2];exact Ne.symm m5)⟩
  have hv1:v1.ownBlock≠some g∧v1.ownBlock≠some p:=by
    rcases hat with e | e
    · rw [e];exact ⟨m1,m2⟩
    · rw [e];simp;omega
  have hvu:v1.ownBlock = none∨v1.ownBlock≠u.ownBlock:=by
    rcases hat with e | e
    · rw [e];exact m5
    · refine .inr ?_
      rw [e]
      intro e2
      have:=(o2.lt _ e2.symm).2
      simp at this
      omega
  refine ⟨⟨⟨b1,b2,n,by simpa using s1,by simpa using s2⟩,?_,?_,?_,World.cell?_setCell_same _ _ _ e3,?_,?_,?_,ownV_store hown hv1.2 _,ownV_store hu m4 _,⟨hv1.1,hv1.2,m3,m4⟩,hvu⟩,hb.setCell (p:=⟨p,2,none⟩) b2 _⟩
  · rw [World.cell?_setCell_other _ _ _ _ (by first | (simp;done) | (simp;omega))];exact e0
  · rw [World.cell?_setCell_other _ _ _ _ (by simp)];exact e1
  · rw [World.cell?_setCell_other _ _ _ _ (by simp)];exact e2
  · rw [World.cell?_setCell_other _ _ _ _ (by simp)];exact e4
  · rw [frozen_set];exact e5
  · rw [frozen_set];exact e6
theorem gam_hi {w w1:World} {B g p k:Nat} {v u u1:Value} {xs ys zs:List Value} (h:Gam w B g p k v u xs ys) (o:Obj) (hown:OwnV 81 w1 B u1 zs) (hg:(w.alloc o).grownBy w1 u.ownBlock) (hat:u1.ownBlock = u.ownBlock∨u1.ownBlock = some (w.alloc o).heap.size) :
    Gam (w1.setCell ⟨p,3,none⟩ u1) B g p k v u1 xs zs∧Below B w (w1.setCell ⟨p,3,none⟩ u1):=by
  obtain ⟨⟨s1,s2⟩,e0,e1,e2,e3,e4,e5,e6,hb⟩:=gam_grow h o hg (.inr rfl)
  obtain ⟨⟨b1,b2,n,l1,l2⟩,c0,c1,c2,c3,c4,f2,f3,o1,o2,⟨m1,m2,m3,m4⟩,m5⟩:=h
  have hv:OwnV 307 w1 B v xs:=⟨o1.1,(o1.2.alloc o).kept hg m5⟩
  have hu1:u1.ownBlock≠some g∧u1.ownBlock≠some p:=by
    rcases hat with e | e
    · rw [e];exact ⟨m3,m4⟩
    · rw [e];simp;omega
  have hvu:v.ownBlock = none∨v.ownBlock≠u1.ownBlock:=by
    rcases hat with e | e
    · rw [e];exact m5
    · rcases hb2:v.ownBlock with _ | b
      · exact .inl rfl
      · refine .inr ?_
        rw [e]
        intro e2
        have:=(o1.lt _ hb2).2
        simp at e2
        omega
  refine ⟨⟨⟨b1,b2,n,by simpa using s1,by simpa using s2⟩,?_,?_,?_,?_,World.cell?_setCell_same _ _ _ e4,?_,?_,ownV_store hv m2 _,ownV_store hown hu1.2 _,⟨m1,m2,hu1.1,hu1.2⟩,hvu⟩,hb.setCell (p:=⟨p,3,none⟩) b2 _⟩
  · rw [World.cell?_setCell_other _ _ _ _ (by first | (simp;done) | (simp;omega))];exact e0
  · rw [World.cell?_setCell_other _ _ _ _ (by simp)];exact e1
  · rw [World.cell?_setCell_other _ _ _ _ (by simp)];exact e2
  · rw [World.cell?_setCell_other _ _ _ _ (by simp)];exact e3
  · rw [frozen_set];exact e5
  · rw [frozen_set];exact e6
set_option maxRecDepth 100000 in
set_option maxHeartbeats 1000000 in
theorem gathered1_c {w:World} {B g p k a:Nat} {v u:Value} {xs ys:List Value} (x:Option Addr) (h:Gam w B g p k v u xs ys) (ha:a < 65536) (lx:xs.length≤1000000) (ly:ys.length≤1000000) :
    Calls Tryz.prog 269 #[.int .i64 (a:Int),(Value.pointer (x)),.pointer (some ⟨g,0,none⟩)] w fun e w' => e = .returned (.tuple #[])∧(∃ v' u',Gam w' B g p k v' u' (xs ++ [.int .u16 (a:Int)]) (ys ++ [(Value.pointer (x))]))∧Below B w w':=by
  have hh:=h
  obtain ⟨⟨b1,b2,n,l1,l2⟩,c0,c1,c2,c3,c4,f2,f3,o1,o2,_,_⟩:=hh
  have H:=Lib.hid h
  have q0:∀ w',Below w.heap.size w w'→w'.cell? ⟨g,0,none⟩ = some (.pointer (some ⟨p,0,none⟩)):=fun w' hb => (hb.cell (p:=⟨g,0,none⟩) l1).trans c0
  have q2:∀ w',Below w.heap.size w w'→w'.cell? ⟨p,2,none⟩ = some v:=fun w' hb => (hb.cell (p:=⟨p,2,none⟩) l2).trans c3
  have hb0:Below w.heap.size w w:=Below.refl _ _
  have hb1:Below w.heap.size w w.drew:=(Below.refl _ _).drew
  have hb2:∀ o,Below w.heap.size w (w.alloc o):=fun o => below_alloc _ _
  have hb3:∀ o,Below w.heap.size w (w.alloc o).drew:=fun o => (below_alloc _ _).drew
  have hwr:IntKind.u16.wrap (a:Int) = (a:Int):=by simp [IntKind.wrap,IntKind.signed,IntKind.bits];omega
  have O1:=Lib.hid o1
  have Lx:=Lib.hid lx
  have Ly:=Lib.hid ly
  have Hb:=Lib.hid (And.intro b1 b2)
  clear o1 o2 c0 c1 c2 c3 c4 f2 f3 h lx ly
  go_enter Tryz.func269,Tryz.ntmps269
  go_upto_region 0 with fail
  go_cut [4] from 5 (fun _ wx => ∃ v',Gam wx B g p k v' u (xs ++ [.int .u16 (a:Int)]) ys∧Below B w wx)
  case first =>
    go_region_law ((refine step_append_vals 275 307 (.int .u16 0) 2 Ch.und Ch.info (by rfl) (by omega) (by rfl) _ _ (by rfl) B v xs [.int .u16 (a:Int)] (by rfl) (by exact ⟨O1.out.1,O1.out.2.alloc _⟩) _ _ 1 1 (by rfl) (by rfl) (by exact rdV_one _ _ _) (fun y hy => by simp at hy;subst hy;rfl) (by have:=Lx.out;simp;omega) (by have:=Hb.out.1;simp;omega) ?_;intro D d w1 hown1 hgrow1 hat1;obtain ⟨⟨s1,s2⟩,e0,e1,e2,e3,e4,e5,e6,hbw⟩:=gam_grow H.out _ (grown_undrew hgrow1) (.inl rfl)))
    all_goals (
      have G1:=gam_lo H.out _ hown1 (grown_undrew hgrow1) hat1
      rw [show (xs ++ [Value.int .u16 (a:Int)]).length = xs.length + 1 by simp] at G1
      have GG:=Lib.hid G1
      clear hgrow1 hown1 hat1 e0 e1 e2 e3 e4 e5 e6 hbw s1 s2 q0 q2 hb0 hb1 hb2 hb3 G1
      go_wp2_with fail
      go_meet
      exact ⟨_,GG.out⟩)
  case rest =>
  obtain ⟨v',G1,B1⟩:=hcut
  clear q0 q2 hb0 hb1 hb2 hb3
  have G:=Lib.hid G1
  have hB1:=Lib.hid B1
  obtain ⟨⟨_,_,_,l1,l2⟩,c0,c1,c2,c3,c4,f2,f3,o1,o2,_,_⟩:=G1
  have O2:=Lib.hid o2
  have q0:∀ w',Below wc.heap.size wc w'→w'.cell? ⟨g,0,none⟩ = some (.pointer (some ⟨p,0,none⟩)):=fun w' hb => (hb.cell (p:=⟨g,0,none⟩) l1).trans c0
  have q3:∀ w',Below wc.heap.size wc w'→w'.cell? ⟨p,3,none⟩ = some u:=fun w' hb => (hb.cell (p:=⟨p,3,none⟩) l2).trans c4
  have hb0:Below wc.heap.size wc wc:=Below.refl _ _
  have hb1:Below wc.heap.size wc wc.drew:=(Below.refl _ _).drew
  have hb2:∀ o,Below wc.heap.size wc (wc.alloc o):=fun o => below_alloc _ _
  have hb3:∀ o,Below wc.heap.size wc (wc.alloc o).drew:=fun o => (below_alloc _ _).drew
  clear c0 c1 c2 c3 c4 f2 f3 o1 o2 B1
  go_wp2_with fail
  go_region_law ((refine step_append_vals 144 81 (Value.pointer none) 8 Cn.und Cn.info (by rfl) (by omega) (by rfl) _ _ (by rfl) B u ys [(Value.pointer (x))] (by rfl) (by exact ⟨O2.out.1,O2.out.2.alloc _⟩) _ _ 1 1 (by rfl) (by rfl) (by exact rdV_one _ _ _) (fun y hy => by simp at hy;subst hy;rfl) (by have:=Ly.out;simp;omega) (by have:=Hb.out.1;simp;omega) ?_;intro D2 d2 w2 hown2 hgrow2 hat2;obtain ⟨⟨s1,s2⟩,e0,e1,e2,e3,e4,e5,e6,hbw⟩:=gam_grow G.out _ (grown_undrew hgrow2) (.inr rfl)))
  all_goals (
    have G2:=gam_hi G.out _ hown2 (grown_undrew hgrow2) hat2
    rw [show (ys ++ [(Value.pointer (x))]).length = ys.length + 1 by simp] at G2
    have GG:=Lib.hid G2
    clear hgrow2 hown2 hat2 e0 e1 e2 e3 e4 e5 e6 hbw s1 s2 q0 q3 hb0 hb1 hb2 hb3 G2
    go_wp2_with fail
    go_end0
    exact ⟨rfl,⟨_,_,GG.out.1⟩,hB1.out.trans GG.out.2⟩)
end Go.Proofs.YtkeepngaaleakaaGreatDoor.Sn
