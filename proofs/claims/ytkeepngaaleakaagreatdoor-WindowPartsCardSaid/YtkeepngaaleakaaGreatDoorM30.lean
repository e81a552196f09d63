import Derived.Test.YtkeepngaaleakaaGreatDoorM29
namespace Go.Proofs.YtkeepngaaleakaaGreatDoor
open Go.ChangeShapes Go.WideShapes Go.ChangeAt Go.RowKit
open Tr (T S4 Ent)
/-! ### isPoint,side -/
/-! ### First,Last -/
/-! ### over,New -/
def startS:Option T→List (T × Nat)
  | none => []
  | some t => [(t,0)]
theorem start_bef (o:Option T):Tr.bef (startS o) = []∧Tr.aft (startS o) = Tr.entsO o:=by
  cases o with
  | none => exact ⟨rfl,rfl⟩
  | some t =>
    refine ⟨?_,?_⟩
    · show [] ++ Tr.fore t 0 = []
      rw [(Tr.fore_zero t).1];rfl
    · show Tr.aftT t 0 ++ [] = t.ents
      rw [(Tr.fore_zero t).2,List.append_nil]
theorem over_c {w:World} {B C k:Nat} {o:Option T} (h:NodeO w B k o) (hB:B≤C) (hC:C≤w.heap.size):Calls Tryz.prog 248 #[.pointer (rootP o)] w fun e w' => ∃ g D d kk,e = .returned (.pointer (some ⟨g,0,none⟩)) ∧
    CurAt w' C g k kk o (startS o) D d∧Below w.heap.size w w'∧(∀ b,Cf g D b→w.heap.size≤b):=by
  cases o with
  | none =>
    go_enter Tryz.func248,Tryz.ntmps248
    simp only [rootP]
    go_wp2_with (go_at_call 118;refine (nK_nil _).mono ?_;rintro e w2 ⟨rfl,rfl⟩)
    go_ret
    refine ⟨w.heap.size,none,0,0,rfl,⟨⟨heap_at w _ _ rfl,hC,ownL_none _ _ _,by simp⟩,rfl,fun x hx => by simp [startS] at hx,by simp;omega⟩,below_alloc w _,fun b hb => by rcases hb with rfl | hb;exact Nat.le_refl _;cases hb⟩
  | some t =>
    have hn:=h t rfl
    obtain ⟨kp,hnd⟩:=hn.2.nd
    have HK:=Lib.hid (nK_c hnd)
    have hal:=below_alloc w (.cells #[.int .i64 (t.pre.length:Int),.pointer (some ⟨t.blk,0,none⟩),.slice none 0 0] 312)
    have hm:CurM (w.alloc (.cells #[.int .i64 (t.pre.length:Int),.pointer (some ⟨t.blk,0,none⟩),.slice none 0 0] 312)) C w.heap.size (t.pre.length:Int) (some ⟨t.blk,0,none⟩) [] none 0 :=
      ⟨heap_at w _ _ rfl,hC,ownL_none _ _ _,by simp⟩
    have HS:Hid (Calls Tryz.prog 250 #[.pointer (some ⟨w.heap.size,0,none⟩),.pointer (some ⟨t.blk,0,none⟩),.int .i64 0] (w.alloc (.cells #[.int .i64 (t.pre.length:Int),.pointer (some ⟨t.blk,0,none⟩),.slice none 0 0] 312)) fun e w' => e = .returned (.tuple #[]) ∧
      ∃ D' d',CurM w' C w.heap.size (t.pre.length:Int) (some ⟨t.blk,0,none⟩) [(t,0)] D' d'∧Foot (Cf w.heap.size none) (w.alloc (.cells #[.int .i64 (t.pre.length:Int),.pointer (some ⟨t.blk,0,none⟩),.slice none 0 0] 312)) w'∧(∀ b,Cf w.heap.size D' b→Cf w.heap.size none b∨(w.alloc (.cells #[.int .i64 (t.pre.length:Int),.pointer (some ⟨t.blk,0,none⟩),.slice none 0 0] 312)).heap.size≤b)):=Lib.hid (step_c hm (by simp) (Nat.le_trans hC hal.size) t 0)
    have HA:=Lib.hid (And.intro hal (And.intro hn (And.intro hB hC)))
    clear h hn hnd hal hm hB hC
    go_enter Tryz.func248,Tryz.ntmps248
    simp only [rootP]
    go_wp2_with (first
      | (go_at_call 118;refine HK.out.mono ?_;rintro e w2 ⟨rfl,rfl⟩)
      | (go_at_call 250;refine HS.out.mono ?_;rintro e w5 ⟨rfl,D5,d5,hm5,hf5,hn5⟩))
    go_ret
    have hb5:Below w.heap.size w w5:=HA.out.1.trans (hf5.below HA.out.1.size (fun b hb => by rcases hb with rfl | hb;exact Nat.le_refl _;cases hb))
    refine ⟨w.heap.size,D5,d5,_,rfl,⟨hm5,rfl,fun x hx => ?_,Nat.le_trans HA.out.2.2.2 hb5.size⟩,hb5,fun b hb => by rcases hn5 b hb with (rfl | hb) | hb;exact Nat.le_refl _;cases hb;exact Nat.le_trans HA.out.1.size hb⟩
    have hx':x = (t,0):=by simpa [startS] using hx
    subst hx'
    exact ⟨HA.out.2.1.below hb5 (Nat.le_trans HA.out.2.2.1 HA.out.2.2.2) HA.out.2.2.1,by show (0:Nat)≤65536;omega⟩
theorem CurAt.setK {w:World} {B g k:Nat} {kk:Int} {o:Option T} {S:List (T × Nat)} {D:Option Addr} {d:Nat} (h:CurAt w B g k kk o S D d) (k':Int):CurAt (w.setCell ⟨g,0,none⟩ (.int .i64 k')) B g k k' o S D d:=by
  have hb:Below B w (w.setCell ⟨g,0,none⟩ (.int .i64 k')):=(Below.refl B w).setCell (p:=⟨g,0,none⟩) h.mem.gB _
  exact ⟨⟨block_set h.mem.blk _,h.mem.gB,h.mem.stk.block fun q hq => Below.heap_setCell _ _ _ _ (fun e => h.mem.ne (by rw [own_block] at hq;rw [hq,e])),h.mem.ne⟩,h.chain,
    fun x hx => ⟨(h.nodes x hx).1.below hb (Nat.le_refl _) (Nat.le_refl _),(h.nodes x hx).2⟩,by simpa using h.size⟩
theorem new_c {w:World} {B C b k:Nat} {o:Option T} (h:TreeAt w B b k o) (hB:B≤C) (hC:C≤w.heap.size):Calls Tryz.prog 213 #[.pointer (some ⟨b,0,none⟩)] w fun e w' => ∃ g D d,e = .returned (.pointer (some ⟨g,0,none⟩)) ∧
    CurAt w' C g k (k:Int) o (startS o) D d∧Below w.heap.size w w'∧(∀ b,Cf g D b→w.heap.size≤b):=by
  have H1:=Lib.hid (tRoot_c h.2.2.2.1)
  have H2:=Lib.hid (over_c h.2.2.2.2 hB hC)
  have H3:Hid (∀ w2,Below w.heap.size w w2→Calls Tryz.prog 57 #[.pointer (some ⟨b,0,none⟩)] w2 fun e w' => e = .returned (.int .i64 (k:Int))∧w2 = w'):=Lib.hid fun w2 hb => tK_c (h.2.2.2.1.below hb (Nat.lt_of_lt_of_le h.1 (Nat.le_trans hB hC)))
  have HC:=Lib.hid hC
  clear h hB hC
  go_enter Tryz.func213,Tryz.ntmps213
  go_wp2_with (first
    | (go_at_call 60;refine H1.out.mono ?_;rintro e w2 ⟨rfl,rfl⟩)
    | (go_at_call 248;refine H2.out.mono ?_;rintro e w2 ⟨g,D,d,kk,rfl,hc,hb,hg⟩;have hc0:=hc.mem.cells.1;have hf0:=frozen_of_row w2 g 0 _ _ hc.mem.blk;have H4:=Lib.hid (And.intro hc (And.intro hb hg));clear hc hb hg)
    | (go_at_call 57;refine (H3.out _ H4.out.2.1).mono ?_;rintro e w' ⟨rfl,rfl⟩))
  go_ret
  exact ⟨g,D,d,rfl,H4.out.1.setK _,H4.out.2.1.setCell (p:=⟨g,0,none⟩) (H4.out.2.2 g (.inl rfl)) _,H4.out.2.2⟩
theorem CurM.cut {w:World} {B g:Nat} {kk:Int} {r:Option Addr} {S:List (T × Nat)} {D:Option Addr} {d:Nat} (h:CurM w B g kk r S D d) :
    CurM (w.setCell ⟨g,2,none⟩ (.slice D 0 d)) B g kk r [] D d:=by
  have h7:=OwnL.take stQ_ok h.stk 0 (Nat.zero_le _)
  rw [List.take_zero] at h7
  exact ⟨block_set h.blk _,h.gB,h7.block fun q hq => Below.heap_setCell _ _ _ _ (fun e => h.ne (by rw [own_block] at hq;rw [hq,e])),h.ne⟩
def PtsG (w:World) (G:Nat→Prop) (A:Option Addr) (us:List Nat):Prop :=
  Z.Ok us∧(us≠[]→∃ b off,A = some ⟨b,off,none⟩∧G b∧b < w.heap.size∧∀ (i u:Nat),us[i]? = some u→w.cell? ⟨b,off + i,none⟩ = some (.int .u64 (u:Int)))
theorem PtsG.pts {w:World} {G:Nat→Prop} {A:Option Addr} {us:List Nat} (h:PtsG w G A us):Pts w w.heap.size A us :=
  ⟨h.1,fun hn => by obtain ⟨b,off,h1,_,h3,h4⟩:=h.2 hn;exact ⟨b,off,h1,h3,h4⟩⟩
theorem PtsG.step {w w':World} {G G':Nat→Prop} {A:Option Addr} {us:List Nat} (h:PtsG w G A us) (hs:w.heap.size≤w'.heap.size) (hk:∀ b,b < w.heap.size→G b→w'.heap[b]? = w.heap[b]?∧G' b):PtsG w' G' A us :=
  ⟨h.1,fun hn => by
    obtain ⟨b,off,h1,h2,h3,h4⟩:=h.2 hn
    obtain ⟨h5,h6⟩:=hk b h3 h2
    exact ⟨b,off,h1,h6,by omega,fun i u hu => (World.cell?_of_block (a:=⟨b,off + i,none⟩) h5).trans (h4 i u hu)⟩⟩
theorem Own.ptsG {w:World} {base h n d:Nat} {us:List Nat} {G:Nat→Prop} (ho:Own w base (.slice (some ⟨h,0,none⟩) n d) us) (hG:G h):PtsG w G (some ⟨h,0,none⟩) us:=by
  obtain ⟨A,c,hv,hp⟩:=ho.pts
  simp only [Value.slice.injEq] at hv
  obtain ⟨rfl,-,-⟩:=hv
  refine ⟨hp.1,fun hn => ?_⟩
  obtain ⟨b,off,h1,h2,h3⟩:=hp.2 hn
  simp only [Option.some.injEq,Addr.mk.injEq,and_true] at h1
  obtain ⟨rfl,rfl⟩:=h1
  exact ⟨h,0,rfl,hG,h2,h3⟩
def EntG (w:World) (G:Nat→Prop) (f:Nat→Option Value) (e:Ent):Prop :=
  ∃ A c,f 0 = some (.slice A e.1.length c)∧f 1 = some (.int .u64 (e.2:Int))∧PtsG w G A e.1∧e.1.length≤maxLen∧e.2 < 18446744073709551616
theorem entG_ok (w:World) (G:Nat→Prop):QOk 2 (EntG w G) where
  ext:=by
    rintro f g a h ⟨A,c,h0,h1,r⟩
    exact ⟨A,c,by rw [← h 0 (by omega)];exact h0,by rw [← h 1 (by omega)];exact h1,r⟩
  has:=by
    rintro f a ⟨A,c,h0,h1,r⟩ j hj
    match j,hj with
    | 0,_ => exact ⟨_,h0,rfl⟩
    | 1,_ => exact ⟨_,h1,rfl⟩
theorem EntG.step {w w':World} {G G':Nat→Prop} (hs:w.heap.size≤w'.heap.size) (hk:∀ b,b < w.heap.size→G b→w'.heap[b]? = w.heap[b]?∧G' b):∀ f e,EntG w G f e→EntG w' G' f e:=by
  rintro f e ⟨A,c,h0,h1,h2,r⟩
  exact ⟨A,c,h0,h1,h2.step hs hk,r⟩
def Fr (w0:Nat) (R:Option Addr) (g:Nat) (D:Option Addr):Nat→Prop:=fun b => R.map (·.block)≠some b∧¬ Cf g D b∧w0≤b
def CurE (w:World) (G:Nat→Prop) (eb:Nat) (x:Option Ent):Prop:=match x with
  | none => w.heap[eb]? = some (.cells #[.slice none 0 0,.int .u64 0] 57 (0,0))
  | some y => ∃ P n,w.heap[eb]? = some (.cells #[.slice P y.1.length n,.int .u64 (y.2:Int)] 57 (0,0))∧PtsG w G P y.1
structure AllI (w:World) (g k:Nat) (kk:Int) (o:Option T) (L1:List Ent) (x:Option Ent) (S:List (T × Nat)) (D:Option Addr) (d:Nat) (R:Option Addr) (c:Nat) (eb:Nat) (wr:World):Prop where
  cur:CurAt wr w.heap.size g k kk o S D d
  whole:L1 ++ (x.toList ++ Tr.aft S) = Tr.entsO o
  stop:x = none→Tr.aft S = []
  row:OwnL 57 2 (EntG wr (Fr w.heap.size R g D)) wr w.heap.size (.slice R L1.length c) L1
  rg:∀ b,R.map (·.block) = some b→¬ Cf g D b∧b≠eb
  ent:CurE wr (Fr w.heap.size R g D) eb x
  ebn:¬ Cf g D eb∧w.heap.size≤eb
  bel:Below w.heap.size w wr
structure AllM (w:World) (g k:Nat) (kk:Int) (o:Option T) (L1:List Ent) (S:List (T × Nat)) (D:Option Addr) (d:Nat) (R:Option Addr) (c:Nat) (eb:Nat) (P:Option Addr) (n nn v:Nat) (wr:World):Prop where
  cur:CurAt wr w.heap.size g k kk o S D d
  whole:L1 ++ Tr.aft S = Tr.entsO o
  row:OwnL 57 2 (EntG wr (Fr w.heap.size R g D)) wr w.heap.size (.slice R L1.length c) L1
  rg:∀ b,R.map (·.block) = some b→¬ Cf g D b
  blk:wr.heap[eb]? = some (.cells #[.slice P n nn,.int .u64 (v:Int)] 57 (0,0))
  bel:Below w.heap.size w wr
theorem AllI.app {w:World} {g k:Nat} {kk:Int} {o:Option T} {L1:List Ent} {y:Ent} {S:List (T × Nat)} {D:Option Addr} {d:Nat} {R:Option Addr} {c eb:Nat} {wr w5:World} {P:Option Addr} {nn d5:Nat} {D5:Option Addr} {ob:Obj} {M:Nat}
    (h:AllI w g k kk o L1 (some y) S D d R c eb wr) (hblk:wr.heap[eb]? = some (.cells #[.slice P y.1.length nn,.int .u64 (y.2:Int)] 57 (0,0)))
    (hown:OwnL 57 2 (EntG wr (Fr w.heap.size R g D)) w5 w.heap.size (.slice D5 M d5) (L1 ++ [y])) (hM:M = (L1 ++ [y]).length) (hgr:(wr.alloc ob).grownBy w5 (Value.slice R L1.length c).ownBlock)
    (hat:(Value.slice D5 M d5).ownBlock = (Value.slice R L1.length c).ownBlock∨(Value.slice D5 M d5).ownBlock = some (wr.alloc ob).heap.size) :
    AllM w g k kk o (L1 ++ [y]) S D d D5 d5 eb P y.1.length nn y.2 w5:=by
  subst hM
  rw [own_block,own_block] at hat
  rw [own_block] at hgr
  have hsz:(wr.alloc ob).heap.size = wr.heap.size + 1:=by simp
  have hs5:wr.heap.size≤w5.heap.size:=Nat.le_trans (by omega) hgr.size
  have hb:∀ b,b < wr.heap.size→R.map (·.block)≠some b→w5.heap[b]? = wr.heap[b]?:=fun b hb hn => (hgr.block b (by omega) (fun e => hn e.symm)).trans (Below.heap_alloc _ _ _ hb)
  have hebw:=(Array.getElem?_eq_some_iff.1 hblk).1
  have hR:∀ b,R.map (·.block) = some b→w.heap.size≤b:=fun b hb => (h.row.lt b (by rw [own_block];exact hb)).1
  have hbel:Below w.heap.size wr w5:=⟨hgr.os,hgr.tape,hgr.output,hs5,fun b hb' => hb b (Nat.lt_of_lt_of_le hb' h.bel.size) (fun e => by have:=hR b e;omega)⟩
  refine ⟨h.cur.keep hbel fun b hb' => hb b (h.cur.mem.lt b hb').2 (fun e => (h.rg b e).1 hb'),?_,?_,fun b hb' => ?_,?_,h.bel.trans hbel⟩
  · rw [← h.whole];simp
  · refine hown.imp (EntG.step hs5 fun b hb' hG => ⟨hb b hb' hG.1,?_,hG.2⟩)
    rcases hat with e | e
    · rw [e];exact hG.1
    · rw [e];intro e';simp only [Option.some.injEq] at e';omega
  · rcases hat with e | e
    · rw [e] at hb';exact (h.rg b hb').1
    · rw [e] at hb';simp only [Option.some.injEq] at hb';intro hc;have:=(h.cur.mem.lt b hc).2;omega
  · rw [hb eb hebw (fun e => (h.rg eb e).2 rfl)];exact hblk
def Telt (w w':World) (g:Nat) (D:Option Addr) (x:Option Ent) (P:Option Addr) (n dd v:Nat):Prop:=match x with
  | none => P = none∧n = 0∧dd = 0∧v = 0
  | some y => n = y.1.length∧v = y.2∧∃ hh,P = some ⟨hh,0,none⟩∧Own w' w.heap.size (.slice P n dd) y.1∧¬ Cf g D hh
theorem next_any {w:World} {B g k:Nat} {kk:Int} {o:Option T} {S0:List (T × Nat)} {D0:Option Addr} {d0:Nat} (h:CurAt w B g k kk o S0 D0 d0) (hT:∀ w',Below B w w'→Tz w') (x:Option Ent) (hx:(Tr.aft S0).head? = x) (r:Bool) (hr:x.isSome = r) :
    Calls Tryz.prog 214 #[.pointer (some ⟨g,0,none⟩)] w fun e w' => ∃ (P:Option Addr) (n dd v:Nat),e = .returned (.tuple #[.agg #[.slice P n dd,.int .u64 (v:Int)],.bool r]) ∧
      ∃ S D d,CurAt w' B g k kk o S D d∧Foot (Cf g D0) w w'∧(∀ b,Cf g D b→Cf g D0 b∨w.heap.size≤b)∧Telt w w' g D x P n dd v∧Tr.bef S = Tr.bef S0 ++ (Tr.aft S0).take 1∧Tr.aft S = (Tr.aft S0).drop 1:=by
  refine (next_c h hT).mono ?_
  rintro e w' ⟨S,D,d,h1,h2,h3,h4,h5,h6⟩
  rw [hx] at h4
  subst hr
  cases x with
  | none => exact ⟨none,0,0,0,h4,S,D,d,h1,h2,h3,⟨rfl,rfl,rfl,rfl⟩,h5,h6⟩
  | some y =>
    obtain ⟨hh,dd,h7,h8,h9⟩:=h4
    exact ⟨_,_,dd,_,h7,S,D,d,h1,h2,h3,⟨rfl,rfl,hh,rfl,h8,h9⟩,h5,h6⟩
def lenV:Value→Nat
  | .slice _ n _ => n
  | _ => 0
def NewE (base:Nat) (w:World) (A:Option Addr) (c:Nat) (L:List Ent):Prop :=
  OwnL 57 2 (EntG w (fun b => base≤b∧A.map (·.block)≠some b)) w base (.slice A L.length c) L
theorem AllI.newE {w:World} {g k:Nat} {kk:Int} {o:Option T} {L1:List Ent} {x:Option Ent} {S:List (T × Nat)} {D:Option Addr} {d:Nat} {R:Option Addr} {c eb:Nat} {wr:World} (h:AllI w g k kk o L1 x S D d R c eb wr):NewE w.heap.size wr R c L1 :=
  h.row.imp (EntG.step (Nat.le_refl _) fun _ _ hG => ⟨rfl,hG.2.2,hG.1⟩)
theorem NewE.mono {base base':Nat} {w:World} {A:Option Addr} {c:Nat} {L:List Ent} (h:NewE base w A c L) (hb:base'≤base):NewE base' w A c L :=
  (OwnL.mono h hb).imp (EntG.step (Nat.le_refl _) fun _ _ hG => ⟨rfl,Nat.le_trans hb hG.1,hG.2⟩)
theorem NewE.ents {base:Nat} {w:World} {A:Option Addr} {c:Nat} {L:List Ent} (h:NewE base w A c L):Ents w w.heap.size A L:=by
  obtain ⟨A',c',hv,-,hl⟩:=OwnL.rd (entG_ok _ _) h
  simp only [Value.slice.injEq] at hv
  obtain ⟨rfl,-,-⟩:=hv
  intro hn
  obtain ⟨b,off,h1,h2,h3⟩:=hl hn
  refine ⟨b,off,h1,h2,fun i a ha => ?_⟩
  obtain ⟨A',c'',h4,h5,h6,h7⟩:=h3 i a ha
  exact ⟨A',c'',h4,h5,h6.pts,h7⟩
end Go.Proofs.YtkeepngaaleakaaGreatDoor
