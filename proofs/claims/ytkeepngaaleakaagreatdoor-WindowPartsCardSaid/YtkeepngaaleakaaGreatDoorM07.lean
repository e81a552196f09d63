import Derived.Lib.AppendZeros
import Derived.Shelf.Abstract
import Derived.Deep.RegionHeld
import Derived.BigRegion
import Derived.Test.YtkeepngaaleakaaGreatDoorM03
namespace Go.Proofs.YtkeepngaaleakaaGreatDoor.Cn
open Go.ChangeShapes Go.WideShapes Go.ChangeAt Go.RowKit
theorem info:(Tryz.prog.info? 81).map (fun i => (i.zero,i.size,i.bytes)) = some (some (Value.pointer none),1,8):=by kernel_rfl
theorem und:Tryz.prog.underlying 144 = some (.slice 81):=Tryz.underlying144
theorem grow_zero (w:World):Calls Tryz.prog 267 #[.slice none 0 0,.int .i64 0] w fun e w' => e = .returned (.slice none 0 0)∧w = w':=by
  go_enter Tryz.func267,Tryz.ntmps267
  go_wp2
  go_ret
  exact ⟨rfl,rfl⟩
theorem zeros_size (n:Nat):(Builtin.zeroCells (Value.cells (Value.pointer none)) n).size = n:=by simp [size_zeroCells,Value.cells]
set_option maxRecDepth 100000 in
theorem grow_pos (n:Nat) (w:World) (h0:0 < n) (hn:n≤1000000) :
    Calls Tryz.prog 267 #[.slice none 0 0,.int .i64 (n:Int)] w fun e w' => ∃ v,e = .returned v∧OwnV 81 w' w.heap.size v []∧Below w.heap.size w w':=by
  obtain ⟨i0,hi0,hz0,hz1,hz2⟩:=info_parts info
  have hb:n * i0.bytes≤281474976710656:=by rw [hz2];omega
  have hrun:=fun (w:World) => Lib.run_append_nil_zeros (P:=Tryz.prog) w 144 3 144 81 i0 (Value.pointer none) .i64 .i64 und Tryz.underlying3 hi0 hz0 n h0 (by omega) (by omega) hb
  have HR:=Lib.hid hrun
  have hge:=grownCap_ge w n 0 81
  have hmx:=grownCap_le_maxLen w n 0 81 (by unfold maxLen;omega)
  have HZ:Hid ((Builtin.zeroCells (Value.cells (Value.pointer none)) n ++ Builtin.zeroCells (Value.cells (Value.pointer none)) (grownCap w n 0 81 - n)).size = grownCap w n 0 81):=Lib.hid (by
    rw [Array.size_append,zeros_size,zeros_size];omega)
  have HM:=Lib.hid hmx
  clear hrun hi0 hz0 hz1 hz2 hb hmx
  go_enter Tryz.func267,Tryz.ntmps267
  go_wp2_with (at_builtin;refine Lib.wpList_append_run _ rfl _ _ _ _ rfl _ _ rfl rfl _ _ (HR.out _) ?_)
  go_ret
  refine ⟨_,rfl,⟨fun x hx => by simp at hx,World.ownsRow_made w _ _ (Nat.le_refl _) HM.out (by rw [Nat.mul_one];exact HZ.out)⟩,(below_alloc _ _).drew⟩
theorem grow_c (n:Nat) (w:World) (hn:n≤1000000) :
    Calls Tryz.prog 267 #[.slice none 0 0,.int .i64 (n:Int)] w fun e w' => ∃ v,e = .returned v∧OwnV 81 w' w.heap.size v []∧Below w.heap.size w w':=by
  rcases Nat.eq_zero_or_pos n with rfl | h
  · refine (grow_zero w).mono ?_
    rintro e w' ⟨rfl,rfl⟩
    exact ⟨_,rfl,ownV_none _ _ _,Below.refl _ _⟩
  · exact grow_pos n w h hn
/-! ### Concat -/
def Part (w:World) (B:Nat) (p:Value × List Value):Prop:=∃ A c,p.1 = .slice A p.2.length c∧RdV w B A p.2∧∀ x∈p.2,x.oneCell' = true
theorem Part.below {w w':World} {B C:Nat} {p:Value × List Value} (h:Part w B p) (hb:Below C w w') (hC:B≤C):Part w' B p:=by
  obtain ⟨A,c,h1,h2,h3⟩:=h
  exact ⟨A,c,h1,h2.below hb hC (Nat.le_refl _),h3⟩
theorem Part.up {w:World} {B B':Nat} {p:Value × List Value} (h:Part w B p) (hB:B≤B'):Part w B' p:=by
  obtain ⟨A,c,h1,h2,h3⟩:=h
  exact ⟨A,c,h1,h2.below (Below.refl B w) (Nat.le_refl _) hB,h3⟩
theorem part_one {w:World} {B g:Nat} {v:Value} {ty:TypeId} (hh:w.heap[g]? = some (.cells #[v] ty (0,0))) (hg:g < B) (h1:v.oneCell' = true):Part w B (.slice (some ⟨g,0,none⟩) 1 1,[v]):=by
  refine ⟨_,1,rfl,fun _ => ⟨g,0,rfl,hg,fun i u hi => ?_⟩,fun x hx => by simp at hx;subst hx;exact h1⟩
  rw [cell_of_row w g _ _ ty (0,0) hh]
  cases i with
  | zero => simpa using hi
  | succ i => simp at hi
def cat (ps:List (Value × List Value)):List Value:=(ps.map (·.2)).flatten
theorem cat_succ {ps:List (Value × List Value)} {j:Nat} {p:Value × List Value} (h:ps[j]? = some p):cat (ps.take (j + 1)) = cat (ps.take j) ++ p.2:=by
  obtain ⟨hlt,rfl⟩:=List.getElem?_eq_some_iff.1 h
  unfold cat
  rw [List.take_succ_eq_append_getElem hlt,List.map_append,List.flatten_append]
  congr 1
  simp
theorem cat_le (ps:List (Value × List Value)) (j:Nat):(cat (ps.take j)).length≤(cat ps).length:=by
  have:cat ps = cat (ps.take j) ++ cat (ps.drop j):=by
    unfold cat
    rw [← List.flatten_append,← List.map_append,List.take_append_drop]
  rw [this,List.length_append]
  omega
set_option maxRecDepth 100000 in
theorem concat_c (g cp:Nat) (ps:List (Value × List Value)) (B:Nat) (w:World) (hg:g < w.heap.size) (hB:B≤w.heap.size) (hcell:∀ i p,ps[i]? = some p→w.cell? ⟨g,i,none⟩ = some p.1∧Part w B p) (hl:(cat ps).length≤1000000) (hn:ps.length≤100) :
    Calls Tryz.prog 258 #[.slice (some ⟨g,0,none⟩) ps.length cp] w fun e w' => ∃ v,e = .returned v∧OwnV 81 w' w.heap.size v (cat ps)∧Below w.heap.size w w':=by
  have HC:=Lib.hid hcell
  have HL:=Lib.hid hl
  clear hcell hl
  go_enter Tryz.func258,Tryz.ntmps258
  go_wp2_with fail
  go_loop [3,5,11] (fun s _ i => ∃ j:Nat,j≤ps.length∧i = .int .i64 j∧s = .int .i64 ((cat (ps.take j)).length:Nat)) (fun _ _ i => ps.length - (intOf i).toNat)
  case atStart => exact ⟨0,Nat.zero_le _,rfl,rfl⟩
  case round =>
    obtain ⟨j,hj,rfl,rfl⟩:=hrel
    have hle:=cat_le ps j
    have hb:(cat (ps.take j)).length≤1000000:=by have:=HL.out;omega
    clear hle
    by_cases hlt:j < ps.length
    · obtain ⟨p,hp⟩:=get_lt hlt
      obtain ⟨hc,A,c,hp1,hp2,hp3⟩:=HC.out j p hp
      have hs:=congrArg List.length (cat_succ hp)
      rw [List.length_append] at hs
      have hle2:=cat_le ps (j + 1)
      have hb2:(cat (ps.take j)).length + p.2.length≤1000000:=by have:=HL.out;omega
      have Hs:=Lib.hid hs
      rw [hp1] at hc
      clear hs hle2 hp1 hp2 hp3
      generalize (cat (ps.take j)).length = s at *
      generalize p.2.length = q at *
      go_wp2_with fail
      go_round
      case rel => exact ⟨j + 1,by omega,by go_num,by rw [Hs.out];go_num⟩
      case measure => simp [intOf];omega
    · have hjn:Hid (cat (ps.take j) = cat ps):=Lib.hid (by rw [List.take_of_length_le (by omega)])
      generalize (cat (ps.take j)).length = s at *
      go_wp2_with fail
      refine (grow_c s _ hb).mono ?_
      rintro e w1 ⟨v1,rfl,hown,hb1⟩
      have Ho:=Lib.hid hown
      have Hb1:=Lib.hid hb1
      clear hown hb1
      have hsz1:=Hb1.out.size
      go_wp2_with fail
      go_loopw [6,8,27] (fun v _ i wr => ∃ j:Nat,j≤ps.length∧i = .int .i64 j∧OwnV 81 wr w.heap.size v (cat (ps.take j))∧Below w.heap.size w wr) (fun _ _ i _ => ps.length - (intOf i).toNat)
      case atStart => exact ⟨0,Nat.zero_le _,rfl,Ho.out,Hb1.out⟩
      case round =>
        obtain ⟨i,hi,rfl,hv,hbw⟩:=hrel
        have Hv:=Lib.hid hv
        have hsz:=hbw.size
        clear hv
        by_cases hlt2:i < ps.length
        · obtain ⟨p,hp⟩:=get_lt hlt2
          obtain ⟨hc,hpart⟩:=HC.out i p hp
          obtain ⟨A,c,hp1,hp2,hp3⟩:=hpart.below hbw hB
          have hs:=cat_succ hp
          have hle2:=cat_le ps (i + 1)
          rw [hs,List.length_append] at hle2
          have hb2:Hid ((cat (ps.take i)).length + p.2.length≤8000000000):=Lib.hid (by have:=HL.out;omega)
          have Hs:=Lib.hid hs
          have Hp:=Lib.hid (And.intro hp2 hp3)
          have hc2:=(hbw.cell (p:=⟨g,i,none⟩) hg).trans hc
          rw [hp1] at hc2
          have Hbw:=Lib.hid hbw
          clear hs hle2 hp1 hp2 hp3 hc hpart hbw
          go_wp2_with (at_builtin;refine wpList_append_vals 144 81 (Value.pointer none) 8 und info rfl (by omega) rfl (.tmp 31) (.tmp 32) rfl w.heap.size _ (cat (ps.take i)) p.2 rfl Hv.out B A _ c rfl rfl Hp.out.1 Hp.out.2 hb2.out hsz ?_;intro v2 w2 hown2 hgrow2 _)
          go_roundw
          case rel => exact ⟨i + 1,by omega,by go_num,by rw [Hs.out];exact hown2,Hbw.out.grown hgrow2 hsz (fun q hq => (Hv.out.lt q hq).1)⟩
          case measure => simp [intOf];omega
        · have hin:cat (ps.take i) = cat ps:=by rw [List.take_of_length_le (by omega)]
          have hfin:=Hv.out
          rw [hin] at hfin
          have Hf:=Lib.hid hfin
          have Hbw:=Lib.hid hbw
          clear hfin hin hbw
          go_wp2_with fail
          go_ret
          exact ⟨_,rfl,Hf.out,Hbw.out⟩
theorem concat2_c (g cp:Nat) (v1 v2:Value) (x1 x2:List Value) (ty:TypeId) (B:Nat) (w:World) (hB:B≤w.heap.size) (hh:w.heap[g]? = some (.cells #[v1,v2] ty (0,0))) (p1:Part w B (v1,x1)) (p2:Part w B (v2,x2)) (hl:x1.length + x2.length≤1000000) :
    Calls Tryz.prog 258 #[.slice (some ⟨g,0,none⟩) 2 cp] w fun e w' => ∃ v,e = .returned v∧OwnV 81 w' w.heap.size v (x1 ++ x2)∧Below w.heap.size w w':=by
  have h:=concat_c g cp [(v1,x1),(v2,x2)] B w (Array.getElem?_eq_some_iff.1 hh).1 hB ?_ (by simp [cat];omega) (by simp)
  · have e:cat [(v1,x1),(v2,x2)] = x1 ++ x2:=by simp [cat]
    rw [e] at h
    exact h
  · intro i p hp
    rw [cell_of_row w g i _ ty (0,0) hh]
    match i,hp with
    | 0,hp => simp at hp;subst hp;exact ⟨rfl,p1⟩
    | 1,hp => simp at hp;subst hp;exact ⟨rfl,p2⟩
theorem concat3_c (g cp:Nat) (v1 v2 v3:Value) (x1 x2 x3:List Value) (ty:TypeId) (B:Nat) (w:World) (hB:B≤w.heap.size) (hh:w.heap[g]? = some (.cells #[v1,v2,v3] ty (0,0))) (p1:Part w B (v1,x1)) (p2:Part w B (v2,x2)) (p3:Part w B (v3,x3)) (hl:x1.length + x2.length + x3.length≤1000000) :
    Calls Tryz.prog 258 #[.slice (some ⟨g,0,none⟩) 3 cp] w fun e w' => ∃ v,e = .returned v∧OwnV 81 w' w.heap.size v (x1 ++ x2 ++ x3)∧Below w.heap.size w w':=by
  have h:=concat_c g cp [(v1,x1),(v2,x2),(v3,x3)] B w (Array.getElem?_eq_some_iff.1 hh).1 hB ?_ (by simp [cat];omega) (by simp)
  · have e:cat [(v1,x1),(v2,x2),(v3,x3)] = x1 ++ x2 ++ x3:=by simp [cat]
    rw [e] at h
    exact h
  · intro i p hp
    rw [cell_of_row w g i _ ty (0,0) hh]
    match i,hp with
    | 0,hp => simp at hp;subst hp;exact ⟨rfl,p1⟩
    | 1,hp => simp at hp;subst hp;exact ⟨rfl,p2⟩
    | 2,hp => simp at hp;subst hp;exact ⟨rfl,p3⟩
end Go.Proofs.YtkeepngaaleakaaGreatDoor.Cn
namespace Go.Proofs.YtkeepngaaleakaaGreatDoor.Sn
open Go.ChangeShapes Go.WideShapes Go.ChangeAt Go.RowKit
theorem enters_at {fid:Nat} {fn:Func} {c:Code} (hf:Tryz.prog.funcs[fid]? = some fn) (hname:(fn.name == "runtime.NumGoroutine") = false) (hb:fn.body = some c):∀ args w,(callFunc fid args).run Tryz.prog w = .ok (.enter fid args) w :=
  fun args w => enters_of hf hname hb args w
theorem sEach_nil (f:Value) (w:World):Calls Tryz.prog 201 #[.pointer none,f] w fun e w' => e = .returned (.tuple #[])∧w = w':=by
  go_enter Tryz.func201,Tryz.ntmps201
  go_wp2
  refine bodyPost_ret (results_none rfl _ _ _) rfl ?_
  exact ⟨rfl,rfl⟩
set_option maxRecDepth 100000 in
set_option maxHeartbeats 1000000 in
theorem sEach_sp {w:World} {B b k:Nat} {L:Al} (wf:Sl.Wf k L) (h:Sp w B b k L) (fid g:Nat) (Inv:Nat→World→Prop)
    (he:∀ args w,(callFunc fid args).run Tryz.prog w = .ok (.enter fid args) w) (h0:Inv 0 w) (hkeep:∀ j wr,Inv j wr→Below B w wr)
    (H:∀ j p wr,L[j]? = some p→Inv j wr→Calls Tryz.prog fid #[.int .i64 (p.1:Int),(Value.pointer (p.2)),.pointer (some ⟨g,0,none⟩)] wr fun e w' => e = .returned (.tuple #[])∧Inv (j + 1) w') :
    Calls Tryz.prog 201 #[.pointer (some ⟨b,0,none⟩),.func (.func fid) #[] #[.pointer (some ⟨g,0,none⟩)]] w fun e w' => e = .returned (.tuple #[])∧Inv L.length w':=by
  have Hs:=Lib.hid h
  obtain ⟨hbB,A,c,C,c',c0,c1,c2,c3,c4,c5,hA,hC⟩:=h
  have hlen:=wf.len16
  have HH:=Lib.hid (And.intro hkeep H)
  have H0:=Lib.hid h0
  have Hr:=Lib.hid (And.intro hA hC)
  have Hw:=Lib.hid wf
  have Hc:=Lib.hid c2
  clear hkeep H h0 hA hC wf
  go_enter Tryz.func201,Tryz.ntmps201
  go_wp2_with fail
  go_loopw [13] (fun i wr => ∃ j:Nat,j≤L.length∧i = .int .i64 j∧Inv j wr) (fun i _ => L.length - (intOf i).toNat)
  case atStart => exact ⟨0,Nat.zero_le _,rfl,H0.out⟩
  case round =>
    obtain ⟨j,hj,rfl,hi⟩:=hrel
    have Hi:=Lib.hid hi
    have hbel:=HH.out.1 j _ hi
    clear hi c0 c1 c2 c3
    by_cases hlt:j < L.length
    · obtain ⟨p,hp⟩:=get_lt hlt
      have hp16:=Hw.out.lt16 p (List.mem_of_getElem? hp)
      have hrA:=(Hr.out.1.below hbel (Nat.le_refl _) (Nat.le_refl _)).at (u16V_get (Sl.keys_get hp))
      have hrC:=(Hr.out.2.below hbel (Nat.le_refl _) (Nat.le_refl _)).at (elV_get (Sl.things_get hp))
      obtain ⟨pb,po,hAA,hpb,hcell⟩:=hrA
      obtain ⟨qb,qo,hCC,hqb,hcell'⟩:=hrC
      subst hAA hCC
      have c2:=(hbel.cell (p:=⟨b,2,none⟩) hbB).trans Hc.out
      have HD:=Lib.hid (sDense_c (d:=false) (Hs.out.below hbel (Nat.le_refl _) (Nat.le_refl _)))
      have Hp:=Lib.hid hp
      clear hp hbel
      go_wp2_with (first
        | (go_at_call 148;refine HD.out.mono ?_;rintro e w' ⟨rfl,rfl⟩)
        | (go_at_fn fid;refine (HH.out.2 j p _ Hp.out Hi.out).mono ?_;rintro e w2 ⟨rfl,hi2⟩;have Hi2:=Lib.hid hi2;clear hi2))
      go_roundw
      case rel => exact ⟨j + 1,by omega,by go_num,Hi2.out⟩
      case measure => simp [intOf];omega
    · have hjn:j = L.length:=by omega
      subst hjn
      go_wp2_with fail
      go_end0
      exact ⟨rfl,Hi.out⟩
set_option maxRecDepth 100000 in
set_option maxHeartbeats 1000000 in
theorem sEach_de {w:World} {B b k:Nat} {L:Al} (wf:Sl.Wf k L) (h:De w B b k L) (fid g:Nat) (Inv:Nat→World→Prop)
    (he:∀ args w,(callFunc fid args).run Tryz.prog w = .ok (.enter fid args) w) (h0:Inv 0 w) (hkeep:∀ j wr,Inv j wr→Below B w wr)
    (H:∀ j p wr,L[j]? = some p→Inv j wr→Calls Tryz.prog fid #[.int .i64 (p.1:Int),(Value.pointer (p.2)),.pointer (some ⟨g,0,none⟩)] wr fun e w' => e = .returned (.tuple #[])∧Inv (j + 1) w') :
    Calls Tryz.prog 201 #[.pointer (some ⟨b,0,none⟩),.func (.func fid) #[] #[.pointer (some ⟨g,0,none⟩)]] w fun e w' => e = .returned (.tuple #[])∧Inv L.length w':=by
  have Hs:=Lib.hid h
  obtain ⟨hbB,hk,hL,P,C,c',c0,c1,c2,c3,c4,c5,hC⟩:=h
  have hp2:2 ^ k≤2 ^ 6:=Nat.pow_le_pow_right (n:=2) (by omega) hk
  have hm:=Sl.mask_lt (wf.lt64 hk)
  have hall:Sl.idx L ((2 ^ k:Nat):Int) = L.length:=Sl.idx_all (fun p hp => by have:=wf.lt p hp;omega)
  have h0':Sl.idx L ((0:Nat):Int) = 0:=Sl.idx_zero L
  have hrow:=fun i (hi:i < 2 ^ k) => Sl.row_get none L hi
  obtain ⟨m,hmm⟩:∃ m,2 ^ k = m:=⟨_,rfl⟩
  rw [hmm] at c3 hp2 hall hC hrow
  have HH:=Lib.hid (And.intro hkeep H)
  have H0:=Lib.hid h0
  have Hr:=Lib.hid (And.intro hC hrow)
  have Hw:=Lib.hid (And.intro wf hm)
  have Hc:=Lib.hid c1
  have Hall:=Lib.hid (And.intro hall h0')
  clear hkeep H h0 hC wf hall h0' hrow hmm hm hL hk c5
  go_enter Tryz.func201,Tryz.ntmps201
  go_wp2_with fail
  go_loopw [13] (fun i wr => ∃ j:Nat,j≤m∧i = .int .i64 j∧Inv (Sl.idx L (j:Int)) wr) (fun i _ => m - (intOf i).toNat)
  case atStart => exact ⟨0,Nat.zero_le _,rfl,by rw [Hall.out.2];exact H0.out⟩
  case round =>
    obtain ⟨j,hj,rfl,hi⟩:=hrel
    have Hi:=Lib.hid hi
    have hbel:=HH.out.1 _ _ hi
    clear hi c0 c1 c2 c3
    by_cases hlt:j < m
    · have hsucc:=Sl.idx_succ Hw.out.1.srt (j:Int)
      rw [show ((j:Int) + 1) = ((j + 1:Nat):Int) by omega] at hsucc
      have hbit:=bit_and_one (Sl.mask L) j (by have:=Hw.out.2;omega)
      rw [Sl.mask_testBit] at hbit
      have hrC:=(Hr.out.1.below hbel (Nat.le_refl _) (Nat.le_refl _)).at (elV_get (Hr.out.2 j hlt))
      obtain ⟨qb,qo,hCC,hqb,hcell'⟩:=hrC
      subst hCC
      have c1:=(hbel.cell (p:=⟨b,1,none⟩) hbB).trans Hc.out
      have HD:=Lib.hid (sDense_c (d:=true) (Hs.out.below hbel (Nat.le_refl _) (Nat.le_refl _)))
      have hj64:j < 64:=by omega
      clear hbel
      cases hg:Sl.get L (j:Int) with
      | none =>
        have hh:Sl.has L (j:Int) = false:=by simp [Sl.has,hg]
        rw [hh] at hsucc hbit
        have hbit':(bits .and .u64 ((Sl.mask L:Int) / 2 ^ j) 1 == 1) = false:=by simpa using hbit
        have Hs2:=Lib.hid hsucc
        clear hg hh hsucc hbit
        go_wp2_with (go_at_call 148;refine HD.out.mono ?_;rintro e w' ⟨rfl,rfl⟩)
        go_roundw
        case rel => exact ⟨j + 1,by omega,by go_num,by rw [Hs2.out];exact Hi.out⟩
        case measure => simp [intOf];omega
      | some v =>
        obtain ⟨n,hn,hp⟩:=Sl.get_at Hw.out.1.srt hg
        have hnj:n = j:=by omega
        subst hnj
        have hh:Sl.has L (n:Int) = true:=by simp [Sl.has,hg]
        rw [hh] at hsucc hbit
        have hbit':(bits .and .u64 ((Sl.mask L:Int) / 2 ^ n) 1 == 1) = true:=by simpa using hbit
        have Hs2:=Lib.hid hsucc
        have Hp:=Lib.hid hp
        rw [hg] at hcell'
        clear hg hh hsucc hbit hp hn
        go_wp2_with (first
          | (go_at_call 148;refine HD.out.mono ?_;rintro e w' ⟨rfl,rfl⟩)
          | (go_at_fn fid;refine (HH.out.2 _ (n,v) _ Hp.out Hi.out).mono ?_;rintro e w2 ⟨rfl,hi2⟩;have Hi2:=Lib.hid hi2;clear hi2))
        go_roundw
        case rel => exact ⟨n + 1,by omega,by go_num,by rw [Hs2.out];exact Hi2.out⟩
        case measure => simp [intOf];omega
    · have hjn:j = m:=by omega
      subst hjn
      go_wp2_with fail
      go_end0
      exact ⟨rfl,by have:=Hi.out;rw [Hall.out.1] at this;exact this⟩
theorem sEach_c {w:World} {B b k:Nat} {L:Al} {d:Bool} (wf:Sl.Wf k L) (h:Rp w B b k L d) (fid g:Nat) (Inv:Nat→World→Prop)
    (he:∀ args w,(callFunc fid args).run Tryz.prog w = .ok (.enter fid args) w) (h0:Inv 0 w) (hkeep:∀ j wr,Inv j wr→Below B w wr)
    (H:∀ j p wr,L[j]? = some p→Inv j wr→Calls Tryz.prog fid #[.int .i64 (p.1:Int),(Value.pointer (p.2)),.pointer (some ⟨g,0,none⟩)] wr fun e w' => e = .returned (.tuple #[])∧Inv (j + 1) w') :
    Calls Tryz.prog 201 #[.pointer (some ⟨b,0,none⟩),.func (.func fid) #[] #[.pointer (some ⟨g,0,none⟩)]] w fun e w' => e = .returned (.tuple #[])∧Inv L.length w':=by
  cases d
  · exact sEach_sp wf h fid g Inv he h0 hkeep H
  · exact sEach_de wf h fid g Inv he h0 hkeep H
def Lst (e:TypeId) (w:World) (B g:Nat) (xs:List Value):Prop :=
  B≤g∧g < w.heap.size∧w.frozen? ⟨g,0,none⟩ = false∧∃ v,w.cell? ⟨g,0,none⟩ = some v∧OwnV e w B v xs∧v.ownBlock≠some g
theorem frozen_set (w:World) (a p:Addr) (v:Value):(w.setCell a v).frozen? p = w.frozen? p:=World.frozen?_setCell w a p v
theorem lst_step {e:TypeId} {w w1:World} {B g:Nat} {xs ys:List Value} {v v1:Value} {o:Obj} (h1:B≤g) (h2:g < w.heap.size) (h3:w.frozen? ⟨g,0,none⟩ = false) (hc:w.cell? ⟨g,0,none⟩ = some v) (ho:OwnV e w B v xs) (hne:v.ownBlock≠some g)
    (hown:OwnV e w1 B v1 ys) (hgrow:(w.alloc o).grownBy w1 v.ownBlock) (hat:v1.ownBlock = v.ownBlock∨v1.ownBlock = some (w.alloc o).heap.size) :
    (w1.cell? ⟨g,0,none⟩ = some v∧w1.frozen? ⟨g,0,none⟩ = false)∧Lst e (w1.setCell ⟨g,0,none⟩ v1) B g ys∧Below B w (w1.setCell ⟨g,0,none⟩ v1):=by
  have hblk:w1.heap[g]? = w.heap[g]?:=by
    rw [hgrow.block g (by simp;omega) (Ne.symm hne)]
    exact Below.heap_alloc w o g h2
  have hc1:w1.cell? ⟨g,0,none⟩ = some v:=(World.cell?_of_block (w:=w) (a:=⟨g,0,none⟩) hblk).trans hc
  have hf1:w1.frozen? ⟨g,0,none⟩ = false:=(World.frozen?_of_block (w:=w) (a:=⟨g,0,none⟩) hblk).trans h3
  have hne1:v1.ownBlock≠some g:=by
    rcases hat with e | e
    · rw [e];exact hne
    · rw [e];simp;omega
  have hs:w.heap.size≤w1.heap.size:=by have:=hgrow.size;simp at this;omega
  refine ⟨⟨hc1,hf1⟩,⟨h1,by simpa using Nat.lt_of_lt_of_le h2 hs,by rw [frozen_set];exact hf1,v1,World.cell?_setCell_same _ _ _ hc1,ownV_store hown hne1 _,hne1⟩,?_⟩
  refine Below.setCell (Below.grown ((Below.refl B w).alloc (by omega) o) hgrow (by simp;omega) fun q hq => (ho.lt q hq).1) (p:=⟨g,0,none⟩) h1 _
def intV (ks:List Nat):List Value:=ks.map fun (k:Nat) => Value.int .i64 (k:Int)
theorem intV_length (ks:List Nat):(intV ks).length = ks.length:=by simp [intV]
theorem infoI:(Tryz.prog.info? 3).map (fun i => (i.zero,i.size,i.bytes)) = some (some (.int .i64 0),1,8):=by kernel_rfl
set_option maxRecDepth 100000 in
theorem places1_c (a g B:Nat) (x:Value) (w:World) (xs:List Value) (h:Lst 3 w B g xs) (hl:xs.length≤1000000) :
    Calls Tryz.prog 202 #[.int .i64 (a:Int),x,.pointer (some ⟨g,0,none⟩)] w fun e w' => e = .returned (.tuple #[])∧Lst 3 w' B g (xs ++ [.int .i64 (a:Int)])∧Below B w w':=by
  obtain ⟨h1,h2,h3,v,hc,ho,hne⟩:=h
  have Ho:=Lib.hid (And.intro ho hne)
  have Hl:=Lib.hid hl
  have HL:=Lib.hid (fun ys w1 v1 o => lst_step (ys:=ys) (w1:=w1) (v1:=v1) (o:=o) h1 h2 h3 hc ho hne)
  clear ho hne hl
  go_enter Tryz.func202,Tryz.ntmps202
  go_wp2_with (at_builtin;refine wpList_append_vals 136 3 (.int .i64 0) 8 Tryz.underlying136 infoI rfl (by omega) rfl (.tmp 5) (.tmp 7) rfl B v xs [.int .i64 (a:Int)] rfl ⟨Ho.out.1.1,Ho.out.1.2.alloc _⟩ _ _ 1 1 rfl rfl (rdV_one _ _ _) (fun u hu => by simp at hu;subst hu;rfl) (by have:=Hl.out;simp;omega) (by simp;omega) ?_;intro v1 w1 hown1 hgrow1 hat1;obtain ⟨D,d,hv1,-,-⟩:=hown1.rd;generalize List.length _ = n1 at hv1;subst hv1;obtain ⟨⟨hc1,hf1⟩,hL1,hB1⟩:=HL.out _ _ _ _ hown1 hgrow1 hat1)
  go_end0
  exact ⟨rfl,hL1,hB1⟩
set_option maxRecDepth 100000 in
theorem all1_c (a g B:Nat) (x:Option Addr) (w:World) (xs:List Value) (h:Lst 81 w B g xs) (hl:xs.length≤1000000) :
    Calls Tryz.prog 226 #[.int .i64 (a:Int),(Value.pointer (x)),.pointer (some ⟨g,0,none⟩)] w fun e w' => e = .returned (.tuple #[])∧Lst 81 w' B g (xs ++ [(Value.pointer (x))])∧Below B w w':=by
  obtain ⟨h1,h2,h3,v,hc,ho,hne⟩:=h
  have Ho:=Lib.hid (And.intro ho hne)
  have Hl:=Lib.hid hl
  have HL:=Lib.hid (fun ys w1 v1 o => lst_step (ys:=ys) (w1:=w1) (v1:=v1) (o:=o) h1 h2 h3 hc ho hne)
  clear ho hne hl
  go_enter Tryz.func226,Tryz.ntmps226
  go_wp2_with (at_builtin;refine wpList_append_vals 144 81 (Value.pointer none) 8 Cn.und Cn.info rfl (by omega) rfl (.tmp 5) (.tmp 7) rfl B v xs [(Value.pointer (x))] rfl ⟨Ho.out.1.1,Ho.out.1.2.alloc _⟩ _ _ 1 1 rfl rfl (rdV_one _ _ _) (fun u hu => by simp at hu;subst hu;rfl) (by have:=Hl.out;simp;omega) (by simp;omega) ?_;intro v1 w1 hown1 hgrow1 hat1;obtain ⟨D,d,hv1,-,-⟩:=hown1.rd;generalize List.length _ = n1 at hv1;subst hv1;obtain ⟨⟨hc1,hf1⟩,hL1,hB1⟩:=HL.out _ _ _ _ hown1 hgrow1 hat1)
  go_end0
  exact ⟨rfl,hL1,hB1⟩
theorem lst_new (e t:TypeId) (w:World) (Zs:Array Value) (n:Nat) (hz:Zs.size = n) (hn:n≤65536):Lst e ((w.alloc (.cells Zs e)).alloc (.cells #[.slice (some ⟨w.heap.size,0,none⟩) 0 n] t)) w.heap.size (w.heap.size + 1) []:=by
  refine ⟨by omega,by simp,?_,.slice (some ⟨w.heap.size,0,none⟩) 0 n,?_,?_,?_⟩
  · exact World.frozen?_alloc_at _ _ _ _ (by simp)
  · have h:=World.cell?_alloc_new (w.alloc (.cells Zs e)) #[.slice (some ⟨w.heap.size,0,none⟩) 0 n] t 0
    rw [World.size_alloc] at h
    rw [h];rfl
  · exact (show OwnV e (w.alloc (.cells Zs e)) w.heap.size (.slice (some ⟨w.heap.size,0,none⟩) 0 n) [] from ⟨fun x h => by simp at h,World.ownsRow_made w Zs n (Nat.le_refl _) (by unfold maxLen;omega) (by rw [Nat.mul_one];exact hz)⟩).below (below_alloc _ _) (Nat.le_refl _)
  · simp [Value.ownBlock]
set_option maxRecDepth 100000 in
theorem sPlaces_c {w:World} {B b k:Nat} {L:Al} {d:Bool} (wf:Sl.Wf k L) (h:Rp w B b k L d) (hB:B≤w.heap.size) :
    Calls Tryz.prog 147 #[.pointer (some ⟨b,0,none⟩)] w fun e w' => ∃ v,e = .returned v∧OwnV 3 w' w.heap.size v (intV (Sl.keys L))∧Below w.heap.size w w':=by
  have HLn:=Lib.hid (sLen_c wf h)
  obtain ⟨i0,hi0,hz0,hz1,hz2⟩:=info_parts infoI
  have hlen:=wf.len16
  obtain ⟨n,hn⟩:∃ n,L.length = n:=⟨_,rfl⟩
  rw [hn] at HLn hlen
  have hmk:∀ (w:World),(Instr.makeSlice 136 (.int .i64 0) (.int .i64 (n:Int))).run Tryz.prog w = .ok (.slice (some ⟨w.heap.size,0,none⟩) 0 n) (w.alloc (.cells (madeCells (Value.int .i64 0).cells (n * 1)) 3)):=by
    intro w
    have h:=run_make (P:=Tryz.prog) w 136 3 i0 (.int .i64 0) Tryz.underlying136 hi0 hz0 .i64 .i64 0 (n:Int) (by omega) (by omega) (by rw [hz2];omega) (by omega)
    rw [hz1] at h
    simpa using h
  have HZ:Hid ((madeCells (Value.int IntKind.i64 0).cells (n * 1)).size = n):=Lib.hid (by rw [size_madeCells];simp)
  generalize madeCells (Value.int IntKind.i64 0).cells (n * 1) = Zs at *
  have Hw:=Lib.hid (And.intro wf h)
  clear wf h hi0 hz0 hz1 hz2
  go_enter Tryz.func147,Tryz.ntmps147
  go_wp2_with (go_at_call 200;refine HLn.out.mono ?_;rintro e w' ⟨rfl,rfl⟩)
  have hini:Lst 3 ((w.alloc (.cells Zs 3)).alloc (.cells #[.slice (some ⟨w.heap.size,0,none⟩) 0 n] 136)) w.heap.size (w.heap.size + 1) []:=lst_new _ _ w Zs n HZ.out (by omega)
  have hbw:=((Below.refl w.heap.size w).alloc (Nat.le_refl _) (.cells Zs 3)).alloc (by simp) (.cells #[.slice (some ⟨w.heap.size,0,none⟩) 0 n] 136)
  generalize (w.alloc (.cells Zs 3)).alloc (.cells #[.slice (some ⟨w.heap.size,0,none⟩) 0 n] 136) = W at *
  have Hb:=Lib.hid hbw
  refine (sEach_c Hw.out.1 (Hw.out.2.below hbw hB (Nat.le_refl _)) 202 (w.heap.size + 1) (fun j wr => Lst 3 wr w.heap.size (w.heap.size + 1) (intV ((Sl.keys L).take j))∧Below w.heap.size W wr)
    (enters_at Tryz.func202 (by kernel_rfl) rfl) ⟨hini,Below.refl _ _⟩ (fun j wr h => h.2.mono hB) ?_).mono ?_
  · rintro j p wr hp ⟨hl,hb⟩
    have hlt:=lt_get hp
    refine (places1_c p.1 (w.heap.size + 1) w.heap.size _ wr _ hl (by rw [intV_length,List.length_take];omega)).mono ?_
    rintro e w2 ⟨rfl,hl2,hb2⟩
    refine ⟨rfl,?_,hb.trans hb2⟩
    have e1:intV ((Sl.keys L).take j) ++ [Value.int .i64 (p.1:Int)] = intV ((Sl.keys L).take (j + 1)):=by
      have hk:=Sl.keys_get hp
      obtain ⟨hk1,hk2⟩:=List.getElem?_eq_some_iff.1 hk
      rw [List.take_succ_eq_append_getElem hk1,hk2]
      simp [intV]
    rw [← e1]
    exact hl2
  · rintro e w2 ⟨rfl,⟨g1,g2,g3,v,hc,ho,hne⟩,hb2⟩
    rw [List.take_of_length_le (by rw [Sl.keys_length];exact Nat.le_refl _)] at ho
    have Ho:=Lib.hid ho
    have hfin:=Lib.hid (Hb.out.trans hb2)
    clear ho hne hini
    go_wp2_with fail
    go_ret
    exact ⟨_,rfl,Ho.out,hfin.out⟩
set_option maxRecDepth 100000 in
theorem sAll_c {w:World} {B b k:Nat} {L:Al} {d:Bool} (wf:Sl.Wf k L) (h:Rp w B b k L d) (hB:B≤w.heap.size) :
    Calls Tryz.prog 166 #[.pointer (some ⟨b,0,none⟩)] w fun e w' => ∃ v,e = .returned v∧OwnV 81 w' w.heap.size v (elV (Sl.things L))∧Below w.heap.size w w':=by
  have HLn:=Lib.hid (sLen_c wf h)
  obtain ⟨i0,hi0,hz0,hz1,hz2⟩:=info_parts Cn.info
  have hlen:=wf.len16
  obtain ⟨n,hn⟩:∃ n,L.length = n:=⟨_,rfl⟩
  rw [hn] at HLn hlen
  have hmk:∀ (w:World),(Instr.makeSlice 144 (.int .i64 0) (.int .i64 (n:Int))).run Tryz.prog w = .ok (.slice (some ⟨w.heap.size,0,none⟩) 0 n) (w.alloc (.cells (madeCells (Value.cells (Value.pointer none)) (n * 1)) 81)):=by
    intro w
    have h:=run_make (P:=Tryz.prog) w 144 81 i0 (Value.pointer none) Tryz.underlying144 hi0 hz0 .i64 .i64 0 (n:Int) (by omega) (by omega) (by rw [hz2];omega) (by omega)
    rw [hz1] at h
    simpa using h
  have HZ:Hid ((madeCells (Value.cells (Value.pointer none)) (n * 1)).size = n):=Lib.hid (by rw [size_madeCells];simp)
  generalize madeCells (Value.cells (Value.pointer none)) (n * 1) = Zs at *
  have Hw:=Lib.hid (And.intro wf h)
  clear wf h hi0 hz0 hz1 hz2
  go_enter Tryz.func166,Tryz.ntmps166
  go_wp2_with (go_at_call 200;refine HLn.out.mono ?_;rintro e w' ⟨rfl,rfl⟩)
  have hini:Lst 81 ((w.alloc (.cells Zs 81)).alloc (.cells #[.slice (some ⟨w.heap.size,0,none⟩) 0 n] 144)) w.heap.size (w.heap.size + 1) []:=lst_new _ _ w Zs n HZ.out (by omega)
  have hbw:=((Below.refl w.heap.size w).alloc (Nat.le_refl _) (.cells Zs 81)).alloc (by simp) (.cells #[.slice (some ⟨w.heap.size,0,none⟩) 0 n] 144)
  generalize (w.alloc (.cells Zs 81)).alloc (.cells #[.slice (some ⟨w.heap.size,0,none⟩) 0 n] 144) = W at *
  have Hb:=Lib.hid hbw
  refine (sEach_c Hw.out.1 (Hw.out.2.below hbw hB (Nat.le_refl _)) 226 (w.heap.size + 1) (fun j wr => Lst 81 wr w.heap.size (w.heap.size + 1) (elV ((Sl.things L).take j))∧Below w.heap.size W wr)
    (enters_at Tryz.func226 (by kernel_rfl) rfl) ⟨hini,Below.refl _ _⟩ (fun j wr h => h.2.mono hB) ?_).mono ?_
  · rintro j p wr hp ⟨hl,hb⟩
    have hlt:=lt_get hp
    refine (all1_c p.1 (w.heap.size + 1) w.heap.size p.2 wr _ hl (by rw [elV_length,List.length_take];omega)).mono ?_
    rintro e w2 ⟨rfl,hl2,hb2⟩
    refine ⟨rfl,?_,hb.trans hb2⟩
    have e1:elV ((Sl.things L).take j) ++ [(Value.pointer (p.2))] = elV ((Sl.things L).take (j + 1)):=by
      have hk:=Sl.things_get hp
      obtain ⟨hk1,hk2⟩:=List.getElem?_eq_some_iff.1 hk
      rw [List.take_succ_eq_append_getElem hk1,hk2]
      simp [elV]
    rw [← e1]
    exact hl2
  · rintro e w2 ⟨rfl,⟨g1,g2,g3,v,hc,ho,hne⟩,hb2⟩
    rw [List.take_of_length_le (by rw [Sl.things_length];exact Nat.le_refl _)] at ho
    have Ho:=Lib.hid ho
    have hfin:=Lib.hid (Hb.out.trans hb2)
    clear ho hne hini
    go_wp2_with fail
    go_ret
    exact ⟨_,rfl,Ho.out,hfin.out⟩
def Spm (w:World) (B g p c k m:Nat) (M:Al):Prop :=
  (B≤g∧B≤p∧B≤c∧g≠p∧g≠c∧p≠c)∧p < w.heap.size∧w.cell? ⟨g,0,none⟩ = some (.pointer (some ⟨p,0,none⟩))∧w.cell? ⟨p,0,none⟩ = some (.int .i64 (k:Int))∧w.cell? ⟨p,1,none⟩ = some (.int .u64 (Sl.mask M:Int)) ∧
    w.cell? ⟨p,2,none⟩ = some (.slice none 0 0)∧w.cell? ⟨p,3,none⟩ = some (.slice (some ⟨c,0,none⟩) m m)∧w.frozen? ⟨p,1,none⟩ = false∧OwnV 81 w B (.slice (some ⟨c,0,none⟩) m m) (elV (Sl.row none m M))
theorem Spm.drew {w:World} {B g p c k m:Nat} {M:Al} (h:Spm w B g p c k m M):Spm w.drew B g p c k m M:=h
theorem spm_step {w:World} {B g p c k m a:Nat} {M:Al} (x:Option Addr) (srt:Sl.Srt M) (h:Spm w B g p c k m M) :
    Spm ((w.setCell ⟨p,1,none⟩ (.int .u64 ((Sl.mask M ||| 2 ^ a:Nat):Int))).setCell ⟨c,a,none⟩ (Value.pointer (x))) B g p c k m (Sl.put a x M)∧Below B w ((w.setCell ⟨p,1,none⟩ (.int .u64 ((Sl.mask M ||| 2 ^ a:Nat):Int))).setCell ⟨c,a,none⟩ (Value.pointer (x))):=by
  obtain ⟨⟨b1,b2,b3,n1,n2,n3⟩,hlt,h1,h2,h3,h4,h5,h6,h7⟩:=h
  have e:∀ q:Addr,q.block≠c→q≠⟨p,1,none⟩→((w.setCell ⟨p,1,none⟩ (.int .u64 ((Sl.mask M ||| 2 ^ a:Nat):Int))).setCell ⟨c,a,none⟩ (Value.pointer (x))).cell? q = w.cell? q:=fun q hq hp => by
    rw [World.cell?_setCell_other _ _ _ _ (fun e => hq (by rw [← e])),World.cell?_setCell_other _ _ _ _ (Ne.symm hp)]
  refine ⟨⟨⟨b1,b2,b3,n1,n2,n3⟩,by simpa using hlt,?_,?_,?_,?_,?_,?_,?_⟩,(((Below.refl B w).setCell (p:=⟨p,1,none⟩) b2 _).setCell (p:=⟨c,a,none⟩) b3 _)⟩
  · rw [e _ n2 (by simp)];exact h1
  · rw [e _ n3 (by simp)];exact h2
  · rw [World.cell?_setCell_other _ _ _ _ (by simp),World.cell?_setCell_same _ _ _ h3,Sl.mask_put srt]
  · rw [e _ n3 (by simp)];exact h4
  · rw [e _ n3 (by simp)];exact h5
  · rw [frozen_set,frozen_set];exact h6
  · have o1:=ownV_store h7 (a:=⟨p,1,none⟩) (by simpa [Value.ownBlock] using Ne.symm n3) (.int .u64 ((Sl.mask M ||| 2 ^ a:Nat):Int))
    have hl:(elV (Sl.row none m M)).length = m:=by rw [elV_length,Sl.row_length]
    have o2:=o1.2
    rw [hl] at o2
    have o3:=(o2.stored a (Value.pointer (x))).1
    have hr:(elV (Sl.row none m M)).set a (Value.pointer (x)) = elV (Sl.row none m (Sl.put a x M)):=by
      rw [Sl.row_put srt]
      simp [elV,List.map_set]
    rw [hr] at o3
    refine ⟨elV_one _,?_⟩
    rw [elV_length,Sl.row_length]
    exact o3
set_option maxRecDepth 100000 in
theorem spread1_c {w:World} {B g p c k m a:Nat} {M:Al} (x:Option Addr) (srt:Sl.Srt M) (h:Spm w B g p c k m M) (hm:m≤64) (ha:a < m) (hlt:Sl.mask M < 18446744073709551616) :
    Calls Tryz.prog 268 #[.int .i64 (a:Int),(Value.pointer (x)),.pointer (some ⟨g,0,none⟩)] w fun e w' => e = .returned (.tuple #[])∧Spm w' B g p c k m (Sl.put a x M)∧Below B w w':=by
  have hst:=spm_step (a:=a) x srt h
  obtain ⟨⟨b1,b2,b3,n1,n2,n3⟩,_,h1,h2,h3,h4,h5,h6,h7⟩:=h
  have hl:(elV (Sl.row none m M)).length = m:=by rw [elV_length,Sl.row_length]
  have o2:=h7.2
  rw [hl] at o2
  have hfr:=o2.frozenAt a
  obtain ⟨y,hy⟩:∃ y,w.cell? ⟨c,a,none⟩ = some y:=by
    rw [o2.cellAt a (by omega)]
    exact get_lt (by rw [hl];exact ha)
  have hp:2 ^ a < 18446744073709551616:=Nat.lt_of_lt_of_le (Nat.pow_lt_pow_right (by omega) (show a < 64 by omega)) (by omega)
  have hw:IntKind.u64.wrap (2 ^ a) = ((2 ^ a:Nat):Int):=by
    rw [show (2:Int) ^ a = ((2 ^ a:Nat):Int) by simp]
    generalize 2 ^ a = P at *
    rw [IntKind.wrap_u64];omega
  have hor:=bits_or_u64_nat (Sl.mask M) (2 ^ a) hlt hp
  have k1:(0:Int)≤(a:Int):=by omega
  have k2:(a:Int) < (m:Int):=by omega
  have n1':=Ne.symm n1
  have n2':=Ne.symm n2
  have n3':=Ne.symm n3
  have Hst:=Lib.hid hst
  generalize Sl.mask M ||| 2 ^ a = q at *
  generalize 2 ^ a = P at *
  clear hst h7 o2 hl srt b1 b2 b3 hp hlt
  go_enter Tryz.func268,Tryz.ntmps268
  go_wp2_with fail
  go_region
  go_wp2_with fail
  go_end0
  exact ⟨rfl,Hst.out.1.drew,Hst.out.2.drew⟩
/-! ### spread -/
theorem put_last {M:Al} {a:Nat} {x:Option Addr} (h:Sl.Srt (M ++ [(a,x)])):Sl.put a x M = M ++ [(a,x)]:=by
  induction M with
  | nil => rfl
  | cons p M ih =>
    have:=h.head (a,x) (by simp)
    simp only [Sl.put,List.cons_append]
    rw [if_pos this,ih h.tail]
theorem srt_take {L:Al} (h:Sl.Srt L) (j:Nat):Sl.Srt (L.take j):=List.Pairwise.sublist (List.take_sublist j L) h
theorem take_put {L:Al} (h:Sl.Srt L) {j:Nat} {p:Nat × Option Addr} (hp:L[j]? = some p):Sl.put p.1 p.2 (L.take j) = L.take (j + 1):=by
  obtain ⟨h1,h2⟩:=List.getElem?_eq_some_iff.1 hp
  have e:L.take (j + 1) = L.take j ++ [(p.1,p.2)]:=by rw [List.take_succ_eq_append_getElem h1,h2]
  rw [e]
  refine put_last ?_
  rw [← e]
  exact srt_take h _
theorem spm_new {w:World} {B g p c k m:Nat} {Zs:Array Value} (hz:Zs = (elV (Sl.row none m [])).toArray) (hm:m≤64) (b:B≤g∧B≤p∧B≤c∧g≠p∧g≠c∧p≠c) (hg:w.heap[g]? = some (.cells #[.pointer (some ⟨p,0,none⟩)] 199 (0,0)))
    (hp:w.heap[p]? = some (.cells #[.int .i64 (k:Int),.int .u64 0,.slice none 0 0,.slice (some ⟨c,0,none⟩) m m] 277 (0,0))) (hc:w.heap[c]? = some (.cells Zs 81 (0,0))):Spm w B g p c k m []:=by
  refine ⟨b,(Array.getElem?_eq_some_iff.1 hp).1,?_,?_,?_,?_,?_,?_,elV_one _,?_⟩
  · rw [cell_of_row w g _ _ _ (0,0) hg];rfl
  · rw [cell_of_row w p _ _ _ (0,0) hp];rfl
  · rw [cell_of_row w p _ _ _ (0,0) hp];rfl
  · rw [cell_of_row w p _ _ _ (0,0) hp];rfl
  · rw [cell_of_row w p _ _ _ (0,0) hp];rfl
  · exact frozen_of_row w p _ _ _ hp
  · have hl:(elV (Sl.row none m ([]:Al))).length = m:=by rw [elV_length,Sl.row_length]
    rw [hl]
    refine ⟨by rw [hl];omega,.inr ⟨c,m,Zs,rfl,b.2.2.1,hc,Nat.le_refl _,by unfold maxLen;omega,by rw [hz];simp [hl],?_⟩⟩
    rw [hz,Nat.mul_one]
    exact List.take_of_length_le (by rw [hl];exact Nat.le_refl _)
set_option maxRecDepth 100000 in
theorem sSpread_c {w:World} {B b k:Nat} {L:Al} {d:Bool} (wf:Sl.Wf k L) (h:Rp w B b k L d) (hB:B≤w.heap.size) (hk:k≤6) (hL:L≠[]) :
    Calls Tryz.prog 259 #[.pointer (some ⟨b,0,none⟩)] w fun e w' => ∃ p,e = .returned (.pointer (some ⟨p,0,none⟩))∧De w' w'.heap.size p k L∧Below w.heap.size w w':=by
  obtain ⟨i0,hi0,hz0,hz1,hz2⟩:=info_parts Cn.info
  have h1:=rp_k h
  have hp2:2 ^ k≤2 ^ 6:=Nat.pow_le_pow_right (n:=2) (by omega) hk
  have hp0:=Nat.two_pow_pos k
  have hw:wrap64 (2 ^ k) = ((2 ^ k:Nat):Int):=by
    rw [show (2:Int) ^ k = ((2 ^ k:Nat):Int) by simp];exact IntWalk.wrap64_in _ (by omega)
  have Hlt:=Lib.hid wf.lt
  obtain ⟨m,hmm⟩:∃ m,2 ^ k = m:=⟨_,rfl⟩
  have Hmm:=Lib.hid hmm
  rw [hmm] at hp2 hp0 hw
  have hmk:∀ (w:World),(Instr.makeSlice 144 (.int .i64 (m:Int)) (.int .i64 (m:Int))).run Tryz.prog w = .ok (.slice (some ⟨w.heap.size,0,none⟩) m m) (w.alloc (.cells (madeCells (Value.cells (Value.pointer none)) (m * 1)) 81)):=by
    intro w
    have h:=run_make (P:=Tryz.prog) w 144 81 i0 (Value.pointer none) Cn.und hi0 hz0 .i64 .i64 (m:Int) (m:Int) (by omega) (by omega) (by rw [hz2];omega) (by omega)
    rw [hz1] at h
    simpa using h
  have HZ:Hid (madeCells (Value.cells (Value.pointer none)) (m * 1) = (elV (Sl.row none m ([]:Al))).toArray):=Lib.hid (by
    apply Array.toList_inj.1
    rw [Nat.mul_one]
    refine (toList_madeCells_one (Value.pointer none) m).trans ?_
    apply List.ext_getElem?
    intro i
    simp only [elV,Sl.row,List.getElem?_map,List.getElem?_replicate,Sl.get]
    by_cases hi:i < m <;> simp [hi])
  generalize madeCells (Value.cells (Value.pointer none)) (m * 1) = Zs at *
  have Hw:=Lib.hid (And.intro wf h)
  have HL:=Lib.hid hL
  have hk7:(k:Int)≤6:=by omega
  have hw2:IntKind.i64.wrap (2 ^ k) = (m:Int):=by
    rw [show (2:Int) ^ k = ((2 ^ k:Nat):Int) by simp,hmm];exact IntWalk.i64_in _ (by omega)
  have hbB:b < w.heap.size:=by have:=rp_lt h;omega
  have q0:∀ w',Below w.heap.size w w'→w'.cell? ⟨b,0,none⟩ = some (.int .i64 (k:Int)):=fun w' hb => (hb.cell (p:=⟨b,0,none⟩) hbB).trans h1
  clear wf h hi0 hz0 hz1 hz2 hmm hL
  go_enter Tryz.func259,Tryz.ntmps259
  go_upto_region 1 with fail
  go_cut [3] from 4 (fun v wx => ∃ g p c,v = .pointer (some ⟨g,0,none⟩)∧Spm wx w.heap.size g p c k m []∧Below w.heap.size w wx)
  case first =>
    go_region_held (fun w' => Below w.heap.size w w') (((repeat (first | refine Below.drew ?_ | refine Below.alloc ?_ (by first | omega | (simp;done) | (simp;omega)) _ | refine Below.setCell ?_ (by first | omega | (simp;done) | (simp;omega)) _));first | exact Below.refl _ _ | assumption | exact below_drewN _ (Below.refl _ _))) (fail)
    all_goals (
      go_wp2_with fail
      go_meet
      refine ⟨_,_,_,rfl,spm_new HZ.out (by omega) ?_ (by (first | (refine heap_at _ _ _ ?_;simp;done) | (refine heap_past _ (heap_at _ _ _ ?_);simp;done) | (refine heap_past _ (heap_past _ (heap_at _ _ _ ?_));simp;done) | (refine heap_past _ (heap_past _ (heap_past _ (heap_at _ _ _ ?_)));simp;done))) (by (first | (refine heap_at _ _ _ ?_;simp;done) | (refine heap_past _ (heap_at _ _ _ ?_);simp;done) | (refine heap_past _ (heap_past _ (heap_at _ _ _ ?_));simp;done) | (refine heap_past _ (heap_past _ (heap_past _ (heap_at _ _ _ ?_)));simp;done))) (by (first | (refine heap_at _ _ _ ?_;simp;done) | (refine heap_past _ (heap_at _ _ _ ?_);simp;done) | (refine heap_past _ (heap_past _ (heap_at _ _ _ ?_));simp;done) | (refine heap_past _ (heap_past _ (heap_past _ (heap_at _ _ _ ?_)));simp;done))),by ((repeat (first | refine Below.drew ?_ | refine Below.alloc ?_ (by first | omega | (simp;done) | (simp;omega)) _ | refine Below.setCell ?_ (by first | omega | (simp;done) | (simp;omega)) _));first | exact Below.refl _ _ | assumption | exact below_drewN _ (Below.refl _ _))⟩
      refine ⟨?_,?_,?_,?_,?_,?_⟩ <;> omega)
  case rest =>
  obtain ⟨g,p,c,rfl,hsp,hbx⟩:=hcut
  have Hsp:=Lib.hid (And.intro hsp hbx)
  clear hmk hw hw2 q0 h1 hsp hbx
  go_wp2_with fail
  refine (sEach_c Hw.out.1 (Hw.out.2.below Hsp.out.2 hB (Nat.le_refl _)) 268 g (fun j wr => Spm wr w.heap.size g p c k m (L.take j)∧Below w.heap.size wc wr)
    (enters_at Tryz.func268 (by kernel_rfl) rfl) ⟨Hsp.out.1,Below.refl _ _⟩ (fun j wr h => h.2.mono hB) ?_).mono ?_
  · rintro j q wr hq ⟨hl,hb⟩
    have hlt:q.1 < m:=by rw [← Hmm.out];exact Hlt.out q (List.mem_of_getElem? hq)
    have hmk:Sl.mask (L.take j) < 2 ^ 64:=Sl.mask_lt (fun r hr => by have:=Hw.out.1.lt64 hk r (List.mem_of_mem_take hr);exact this)
    refine (spread1_c (a:=q.1) q.2 (srt_take Hw.out.1.srt j) hl (by omega) hlt (by omega)).mono ?_
    rintro e w2 ⟨rfl,hl2,hb2⟩
    rw [take_put Hw.out.1.srt hq] at hl2
    exact ⟨rfl,hl2,hb.trans hb2⟩
  · rintro e w2 ⟨rfl,hl2,hb2⟩
    rw [List.take_of_length_le (Nat.le_refl _)] at hl2
    obtain ⟨_,r0,r1,r2,r3,r4,r5,_,r6⟩:=hl2
    have Hr:=Lib.hid (And.intro r0 (And.intro r2 (And.intro r3 (And.intro r4 (And.intro r5 r6)))))
    have hfin:=Lib.hid (Hsp.out.2.trans hb2)
    clear r0 r2 r3 r4 r5 r6 hb2
    go_wp2_with fail
    go_ret
    refine ⟨p,rfl,⟨Hr.out.1,hk,HL.out,.slice none 0 0,some ⟨c,0,none⟩,m,Hr.out.2.1,Hr.out.2.2.1,Hr.out.2.2.2.1,by rw [Hmm.out];exact Hr.out.2.2.2.2.1,by rw [Hmm.out];exact Nat.le_refl _,⟨none,0,0,rfl⟩,?_⟩,hfin.out⟩
    rw [Hmm.out]
    exact Hr.out.2.2.2.2.2.rdE_at
end Go.Proofs.YtkeepngaaleakaaGreatDoor.Sn
