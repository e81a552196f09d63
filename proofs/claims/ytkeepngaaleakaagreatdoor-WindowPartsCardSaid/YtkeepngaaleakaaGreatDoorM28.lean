import Derived.Test.YtkeepngaaleakaaGreatDoorM24
namespace Go.Proofs.YtkeepngaaleakaaGreatDoor.Tr
open Go.Proofs.YtkeepngaaleakaaGreatDoor.Z
open Go.Proofs.YtkeepngaaleakaaGreatDoor (levI)
/-! ### ahead of a gap,behind it -/
def fore (t:T) (n:Nat):List Ent:=match t with
  | .ent _ p v => if n = 0 then [] else [(p,v)]
  | .br _ _ _ ks => entsL (ks.take (Sl.idx ks (n:Int)))
def aftT (t:T) (n:Nat):List Ent:=match t with
  | .ent _ p v => if n = 0 then [(p,v)] else []
  | .br _ _ _ ks => entsL (ks.drop (Sl.idx ks (n:Int)))
def foreR:List (T × Nat)→List Ent
  | [] => []
  | (t,n) :: R => foreR R ++ entsL (t.ks.take (Sl.idx t.ks (n:Int)))
def aftR:List (T × Nat)→List Ent
  | [] => []
  | (t,n) :: R => entsL (t.ks.drop (Sl.idx t.ks (n:Int) + 1)) ++ aftR R
def bef:List (T × Nat)→List Ent
  | [] => []
  | (t,n) :: R => foreR R ++ fore t n
def aft:List (T × Nat)→List Ent
  | [] => []
  | (t,n) :: R => aftT t n ++ aftR R
theorem fore_aft (t:T) (n:Nat):fore t n ++ aftT t n = t.ents:=by
  cases t with
  | ent g p v => rw [ents_ent];unfold fore aftT;by_cases h:n = 0 <;> simp [h]
  | br g l pre ks => rw [ents_br];simp only [fore,aftT];rw [← entsL_append,List.take_append_drop]
def Steps (o:Option T):List (T × Nat)→Prop
  | [] => o = none
  | [(t,_)] => o = some t
  | (s,_) :: (t,a) :: R => (a,s)∈t.ks∧Steps o ((t,a) :: R)
theorem ks_br {t:T} {x:Nat × T} (h:x∈t.ks):∃ g l pre ks,t = .br g l pre ks:=by
  cases t with
  | ent => simp [T.ks] at h
  | br g l pre ks => exact ⟨g,l,pre,ks,rfl⟩
theorem Wf.srt {k:Nat} {t:T} (h:Wf k t):Sl.Srt t.ks:=by
  cases h with
  | ent => exact Sl.srt_nil
  | br _ _ _ _ _ hw => exact hw.srt
theorem Wf.lt16 {k:Nat} {t:T} (h:Wf k t):∀ x∈t.ks,x.1 < 65536:=by
  cases h with
  | ent => intro x hx;simp [T.ks] at hx
  | br _ _ _ _ _ hw => exact hw.lt16
theorem Wf.sub {k:Nat} {t:T} (h:Wf k t) {x:Nat × T} (hx:x∈t.ks):Wf k x.2∧x.2.lv < t.lv:=by
  cases h with
  | ent => simp [T.ks] at hx
  | br g l pre ks h63 hw h2 hl ho hk hc => exact ⟨hk x hx,by have:=(hc x hx).1;show x.2.lv < l + 1;omega⟩
theorem kid_split {k:Nat} {t s:T} {a:Nat} (h:Wf k t) (hx:(a,s)∈t.ks) :
    t.ks[Sl.idx t.ks (a:Int)]? = some (a,s)∧Sl.idx t.ks ((a + 1:Nat):Int) = Sl.idx t.ks (a:Int) + 1:=by
  obtain ⟨i,hi⟩:=List.mem_iff_getElem?.1 hx
  have h1:Sl.idx t.ks (a:Int) = i:=Sl.idx_of h.srt hi
  refine ⟨by rw [h1];exact hi,?_⟩
  have e2:=Sl.idx_succ h.srt (a:Int)
  have e3:Sl.has t.ks (a:Int) = true:=by
    unfold Sl.has
    rw [Sl.get_of_mem h.srt (p:=(a,s)) hx]
    rfl
  rw [e3,if_pos rfl] at e2
  exact e2
theorem ents_ks {t:T} {x:Nat × T} (h:x∈t.ks):t.ents = entsL t.ks:=by
  obtain ⟨g,l,pre,ks,rfl⟩:=ks_br h
  rw [ents_br];rfl
theorem steps_all {k:Nat} {o:Option T}:∀ {R:List (T × Nat)} {t:T} {n:Nat},Steps o ((t,n) :: R)→(∀ x∈(t,n) :: R,Wf k x.1)→foreR R ++ t.ents ++ aftR R = entsO o
  | [],t,n,hc,_ => by
    have h1:o = some t:=hc
    subst h1
    simp [foreR,aftR,entsO]
  | (u,a) :: R,t,n,hc,hw => by
    obtain ⟨hm,hc'⟩:=hc
    have ih:=steps_all hc' fun x hx => hw x (List.mem_cons_of_mem _ hx)
    have hs:=kid_split (hw (u,a) (List.mem_cons_of_mem _ List.mem_cons_self)) hm
    rw [← ih,ents_ks hm,ents_split hs.1]
    simp only [foreR,aftR,List.append_assoc]
theorem steps_lv {k:Nat} {o:Option T}:∀ {R:List (T × Nat)} {t:T} {n:Nat},Steps o ((t,n) :: R)→(∀ x∈(t,n) :: R,Wf k x.1)→t.lv + R.length≤64
  | [],t,n,_,hw => by have:=(hw (t,n) List.mem_cons_self).lv64;simpa using this
  | (u,a) :: R,t,n,hc,hw => by
    obtain ⟨hm,hc'⟩:=hc
    have ih:=steps_lv hc' fun x hx => hw x (List.mem_cons_of_mem _ hx)
    have h1:=((hw (u,a) (List.mem_cons_of_mem _ List.mem_cons_self)).sub hm).2
    simp only at h1
    rw [List.length_cons]
    omega
theorem steps_len {k:Nat} {o:Option T} {S:List (T × Nat)} (hc:Steps o S) (hw:∀ x∈S,Wf k x.1):S.length≤65:=by
  cases S with
  | nil => simp
  | cons x R => have:=steps_lv (n:=x.2) (t:=x.1) hc hw;rw [List.length_cons];omega
theorem Steps.gap {o:Option T} {t:T} {n m:Nat} {R:List (T × Nat)} (h:Steps o ((t,n) :: R)):Steps o ((t,m) :: R):=by
  cases R with
  | nil => exact h
  | cons x R => exact h
theorem Steps.up {o:Option T} {s t:T} {n a:Nat} {R:List (T × Nat)} (h:Steps o ((s,n) :: (t,a) :: R)):(a,s)∈t.ks∧Steps o ((t,a) :: R):=h
/-! ### steps -/
theorem fore_zero (t:T):fore t 0 = []∧aftT t 0 = t.ents:=by
  cases t with
  | ent g p v => rw [ents_ent];exact ⟨rfl,rfl⟩
  | br g l pre ks =>
    have h1:Sl.idx ks ((0:Nat):Int) = 0:=Sl.idx_zero ks
    rw [ents_br]
    simp only [fore,aftT]
    rw [h1,List.take_zero,List.drop_zero]
    exact ⟨rfl,rfl⟩
theorem fore_br {t:T} {x:Nat × T} (h:x∈t.ks) (n:Nat):fore t n = entsL (t.ks.take (Sl.idx t.ks (n:Int)))∧aftT t n = entsL (t.ks.drop (Sl.idx t.ks (n:Int))):=by
  obtain ⟨g,l,pre,ks,rfl⟩:=ks_br h
  exact ⟨rfl,rfl⟩
theorem next_push {k:Nat} {t s:T} {n a:Nat} {R:List (T × Nat)} (h:Wf k t) (hx:t.ks[Sl.idx t.ks (n:Int)]? = some (a,s)) :
    bef ((s,0) :: (t,a) :: R) = bef ((t,n) :: R)∧aft ((s,0) :: (t,a) :: R) = aft ((t,n) :: R):=by
  have hm:=List.mem_of_getElem? hx
  have h1:Sl.idx t.ks (a:Int) = Sl.idx t.ks (n:Int):=Sl.idx_of h.srt hx
  have h2:t.ks.drop (Sl.idx t.ks (n:Int)) = (a,s) :: t.ks.drop (Sl.idx t.ks (n:Int) + 1):=by
    obtain ⟨hi,hx'⟩:=List.getElem?_eq_some_iff.1 hx
    rw [List.drop_eq_getElem_cons hi,hx']
  simp only [bef,aft,foreR,aftR,h1,(fore_zero s).1,(fore_zero s).2,(fore_br hm n).1,(fore_br hm n).2,h2,entsL_cons,List.append_assoc,List.append_nil]
  exact ⟨trivial,trivial⟩
theorem next_pop {k:Nat} {t s:T} {n a:Nat} {R:List (T × Nat)} (h:Wf k t) (hm:(a,s)∈t.ks) (he:aftT s n = []) :
    bef ((t,a + 1) :: R) = bef ((s,n) :: (t,a) :: R)∧aft ((t,a + 1) :: R) = aft ((s,n) :: (t,a) :: R):=by
  obtain ⟨h1,h2⟩:=kid_split h hm
  have h3:=fore_aft s n
  rw [he,List.append_nil] at h3
  obtain ⟨hi,hx'⟩:=List.getElem?_eq_some_iff.1 h1
  have h4:t.ks.take (Sl.idx t.ks (a:Int) + 1) = t.ks.take (Sl.idx t.ks (a:Int)) ++ [(a,s)]:=by
    rw [List.take_add_one,h1];rfl
  have h5:entsL [(a,s)] = s.ents:=by rw [entsL_cons,entsL_nil,List.append_nil]
  simp only [bef,aft,foreR,aftR,(fore_br hm (a + 1)).1,(fore_br hm (a + 1)).2,h2,h4,entsL_append,h5,h3,he,List.append_assoc,List.nil_append]
  exact ⟨trivial,trivial⟩
theorem aftT_end {t:T} {n:Nat} (hx:t.ks[Sl.idx t.ks (n:Int)]? = none) (hn:t.lv = 0→n≠0):aftT t n = []:=by
  cases t with
  | ent g p v => exact if_neg (hn rfl)
  | br g l pre ks =>
    have:ks.drop (Sl.idx ks (n:Int)) = []:=List.drop_eq_nil_of_le (by
      have h1:ks[Sl.idx ks (n:Int)]? = none:=hx
      rw [List.getElem?_eq_none_iff] at h1;exact h1)
    simp only [aftT,this]
    rfl
/-! ### how much is left -/
def leftR:List (T × Nat)→Nat
  | [] => 0
  | (t,n) :: R => (allK (t.ks.drop (Sl.idx t.ks (n:Int) + 1))).length + leftR R
def mN:List (T × Nat)→Nat
  | [] => 0
  | (t,n) :: R => 2 * ((allK (t.ks.drop (Sl.idx t.ks (n:Int)))).length + leftR R) + (R.length + 1)
theorem mN_push {k:Nat} {t s:T} {n a:Nat} {R:List (T × Nat)} (h:Wf k t) (hx:t.ks[Sl.idx t.ks (n:Int)]? = some (a,s)):mN ((s,0) :: (t,a) :: R) < mN ((t,n) :: R):=by
  have h1:Sl.idx t.ks (a:Int) = Sl.idx t.ks (n:Int):=Sl.idx_of h.srt hx
  have h2:t.ks.drop (Sl.idx t.ks (n:Int)) = (a,s) :: t.ks.drop (Sl.idx t.ks (n:Int) + 1):=by
    obtain ⟨hi,hx'⟩:=List.getElem?_eq_some_iff.1 hx
    rw [List.drop_eq_getElem_cons hi,hx']
  have h3:Sl.idx s.ks ((0:Nat):Int) = 0:=Sl.idx_zero _
  simp only [mN,leftR,h1,h2,h3,allK_cons,List.drop_zero,List.length_append,List.length_cons,all_eq s]
  omega
theorem mN_pop {k:Nat} {t s:T} {n a:Nat} {R:List (T × Nat)} (h:Wf k t) (hm:(a,s)∈t.ks):mN ((t,a + 1) :: R) < mN ((s,n) :: (t,a) :: R):=by
  obtain ⟨_,h2⟩:=kid_split h hm
  simp only [mN,leftR,h2,List.length_cons]
  omega
/-! ### the way down to a point -/
end Go.Proofs.YtkeepngaaleakaaGreatDoor.Tr
namespace Go.Proofs.YtkeepngaaleakaaGreatDoor
open Go.ChangeShapes Go.WideShapes Go.ChangeAt Go.RowKit
open Tr (T S4 Ent)
theorem infoStep:(Tryz.prog.info? 316).map (fun i => (i.zero,i.size,i.bytes)) = some (some (.agg #[.pointer none,.int .i64 0]),2,16):=by kernel_rfl
theorem step_top (w:World) (b off n c i:Nat) (h2:i≤n) (h3:n≤c) :
    (Instr.sliceAt 310 (.slice (some ⟨b,off,none⟩) n c) none (some (.int .i64 (i:Int))) none).run Tryz.prog w = .ok (.slice (some ⟨b,off,none⟩) i c) w:=by
  have ht:Tryz.prog.underlying 310 = some (.slice 316):=Tryz.underlying310
  have hel:Tryz.prog.elem 310 = 316:=by simp [Program.elem,ht]
  have hs:Tryz.prog.underlying 310 = some (.slice (Tryz.prog.elem 310)):=by rw [hel];exact ht
  have hsz:∀ w,(sizeOf 316).run Tryz.prog w = .ok 2 w:=fun w => by
    have h:(Tryz.prog.info? 316).map (·.size) = some 2:=by kernel_rfl
    obtain ⟨i0,hi0,hz⟩:=Option.map_eq_some_iff.1 h
    simp [sizeOf,typeInfo,hi0,hz]
  rw [run_sliceAt_slice w _ _ _ _ _ hs,run_slice_h w _ _ _ _ hs .i64 (i:Int) (by omega) (by omega),hel,hsz]
  simp [Result.andThen,sliced]
  intro _
  rw [Go.WideShapes.add_plain,Nat.add_zero]
abbrev StkC (w:World) (base:Nat) (v:Value) (S:List (T × Nat)):Prop:=OwnL 316 2 StQ w base v S.reverse
def Cf (g:Nat) (D:Option Addr):Nat→Prop:=fun b => b = g∨D.map (·.block) = some b
structure CurM (w:World) (B g:Nat) (kk:Int) (r:Option Addr) (S:List (T × Nat)) (D:Option Addr) (d:Nat):Prop where
  blk:w.heap[g]? = some (.cells #[.int .i64 kk,.pointer r,.slice D S.length d] 312 (0,0))
  gB:B≤g
  stk:StkC w B (.slice D S.length d) S
  ne:D.map (·.block)≠some g
theorem CurM.lt {w:World} {B g:Nat} {kk:Int} {r:Option Addr} {S:List (T × Nat)} {D:Option Addr} {d:Nat} (h:CurM w B g kk r S D d):∀ b,Cf g D b→B≤b∧b < w.heap.size:=by
  rintro b (rfl | hb)
  · exact ⟨h.gB,(Array.getElem?_eq_some_iff.1 h.blk).1⟩
  · exact h.stk.lt b (by rw [own_block];exact hb)
theorem CurM.keep {w w':World} {B g:Nat} {kk:Int} {r:Option Addr} {S:List (T × Nat)} {D:Option Addr} {d:Nat} (h:CurM w B g kk r S D d) (hk:∀ b,Cf g D b→w'.heap[b]? = w.heap[b]?):CurM w' B g kk r S D d :=
  ⟨(hk g (.inl rfl)).trans h.blk,h.gB,h.stk.block fun q hq => hk q (.inr (by rw [own_block] at hq;exact hq)),h.ne⟩
theorem CurM.below {w w':World} {B g:Nat} {kk:Int} {r:Option Addr} {S:List (T × Nat)} {D:Option Addr} {d:Nat} (h:CurM w B g kk r S D d) (hb:Below w.heap.size w w'):CurM w' B g kk r S D d :=
  h.keep fun b hb' => hb.block b (h.lt b hb').2
theorem CurM.cells {w:World} {B g:Nat} {kk:Int} {r:Option Addr} {S:List (T × Nat)} {D:Option Addr} {d:Nat} (h:CurM w B g kk r S D d) :
    w.cell? ⟨g,0,none⟩ = some (.int .i64 kk)∧w.cell? ⟨g,1,none⟩ = some (.pointer r)∧w.cell? ⟨g,2,none⟩ = some (.slice D S.length d)∧w.frozen? ⟨g,2,none⟩ = false :=
  ⟨by rw [cell_of_row w g _ _ _ (0,0) h.blk];rfl,by rw [cell_of_row w g _ _ _ (0,0) h.blk];rfl,by rw [cell_of_row w g _ _ _ (0,0) h.blk];rfl,frozen_of_row w g _ _ _ h.blk⟩
theorem CurM.top {w:World} {B g:Nat} {kk:Int} {r:Option Addr} {t:T} {n:Nat} {S:List (T × Nat)} {D:Option Addr} {d:Nat} (h:CurM w B g kk r ((t,n) :: S) D d) :
    ∃ q,D = some ⟨q,0,none⟩∧B≤q∧q < w.heap.size∧q≠g∧S.length + 1≤d∧w.cell? ⟨q,S.length * 2,none⟩ = some (.pointer (some ⟨t.blk,0,none⟩))∧w.cell? ⟨q,S.length * 2 + 1,none⟩ = some (.int .i64 (n:Int))∧w.frozen? ⟨q,S.length * 2 + 1,none⟩ = false:=by
  have hs:=h.stk
  have hg:((t,n) :: S).reverse[S.length]? = some (t,n):=by rw [List.reverse_cons,List.getElem?_append_right (by simp)];simp
  obtain ⟨A,c,hv,hc,hl⟩:=OwnL.rd stQ_ok hs
  obtain ⟨b,off,hA,hb,hq⟩:=hl (by simp)
  obtain ⟨vs,h1,h2⟩:=hs
  rcases h2.2 with ⟨hv',hn⟩ | ⟨q,cap,cur,hv',hge,hh,hnc,r⟩
  · simp at hn
  · simp only [Value.slice.injEq] at hv hv'
    obtain ⟨rfl,-,rfl⟩:=hv'
    obtain ⟨hv1,-,hv2⟩:=hv
    rw [← hv1] at hA
    simp only [Option.some.injEq,Addr.mk.injEq,and_true] at hA
    obtain ⟨rfl,rfl⟩:=hA
    obtain ⟨e0,e1⟩:=hq _ _ hg
    refine ⟨q,rfl,hge,hb,fun e => h.ne (by rw [e];rfl),by simpa using hnc,?_,?_,frozen_of_row w q _ _ _ hh⟩
    · simpa using e0
    · simpa using e1
theorem CurM.gap {w:World} {B g:Nat} {kk:Int} {r:Option Addr} {t:T} {n:Nat} {S:List (T × Nat)} {q d:Nat} (h:CurM w B g kk r ((t,n) :: S) (some ⟨q,0,none⟩) d) (m:Nat) :
    CurM (w.setCell ⟨q,S.length * 2 + 1,none⟩ (.int .i64 (m:Int))) B g kk r ((t,m) :: S) (some ⟨q,0,none⟩) d:=by
  have hqg:q≠g:=fun e => h.ne (by rw [e];rfl)
  obtain ⟨g2,hg2,hset2⟩:=OwnL.set (i:=S.length) (j:=1) (x:=(t,m)) (u:=.int .i64 (m:Int)) h.stk stQ_ok (by simp) (by omega) (by
    intro f y hy hf
    rw [List.reverse_cons,List.getElem?_append_right (by simp)] at hy
    simp at hy
    subst hy
    exact ⟨hf.1,rfl⟩)
  have hq2:q = g2:=by simp only [Option.some.injEq,Addr.mk.injEq] at hg2;exact hg2.1
  rw [← hq2] at hset2
  refine ⟨(Below.heap_setCell _ _ _ _ (fun e => hqg e.symm)).trans h.blk,h.gB,?_,h.ne⟩
  have hrev:((t,n) :: S).reverse.set S.length (t,m) = ((t,m) :: S).reverse:=by
    simp only [List.reverse_cons]
    rw [List.set_append_right _ _ (by simp)]
    simp
  rw [hrev] at hset2
  exact hset2
theorem block_set {w:World} {g i:Nat} {cs:Array Value} {t:TypeId} {fr:Nat × Nat} (h:w.heap[g]? = some (.cells cs t fr)) (v:Value) :
    (w.setCell ⟨g,i,none⟩ v).heap[g]? = some (.cells (cs.setIfInBounds i v) t fr):=by
  simp [World.setCell,Array.getElem?_modify,h]
theorem CurM.pop {w:World} {B g:Nat} {kk:Int} {r:Option Addr} {x:T × Nat} {S:List (T × Nat)} {D:Option Addr} {d:Nat} (h:CurM w B g kk r (x :: S) D d) :
    CurM (w.setCell ⟨g,2,none⟩ (.slice D S.length d)) B g kk r S D d:=by
  have h7:=OwnL.take stQ_ok h.stk S.length (by simp)
  rw [show ((x :: S).reverse).take S.length = S.reverse by rw [List.reverse_cons,List.take_append_of_le_length (by simp),List.take_of_length_le (by simp)]] at h7
  refine ⟨block_set h.blk _,h.gB,h7.block fun q hq => Below.heap_setCell _ _ _ _ (fun e => h.ne (by rw [own_block] at hq;rw [hq,e])),h.ne⟩
/-! ### last,up,step -/
theorem last_none {w:World} {B g:Nat} {kk:Int} {r:Option Addr} {D:Option Addr} {d:Nat} (h:CurM w B g kk r [] D d) :
    Calls Tryz.prog 249 #[.pointer (some ⟨g,0,none⟩)] w fun e w' => e = .returned (.pointer none)∧w = w':=by
  obtain ⟨-,-,c2,-⟩:=h.cells
  have c2':w.cell? ⟨g,2,none⟩ = some (.slice D 0 d):=c2
  clear h c2
  go_enter Tryz.func249,Tryz.ntmps249
  go_wp2
  go_ret
  exact ⟨rfl,rfl⟩
theorem last_c {w:World} {B g:Nat} {kk:Int} {r:Option Addr} {x:T × Nat} {S:List (T × Nat)} {q d:Nat} (h:CurM w B g kk r (x :: S) (some ⟨q,0,none⟩) d) (hl:S.length≤1000) :
    Calls Tryz.prog 249 #[.pointer (some ⟨g,0,none⟩)] w fun e w' => e = .returned (.pointer (some ⟨q,S.length * 2,none⟩))∧∃ m,w' = w.drewN m:=by
  obtain ⟨-,-,c2,-⟩:=h.cells
  have c2':w.cell? ⟨g,2,none⟩ = some (.slice (some ⟨q,0,none⟩) (S.length + 1) d):=c2
  have e4:((S.length + 1:Nat):Int) - 1 = (S.length:Int):=by omega
  have e5:(((S.length + 1:Nat):Int) == 0) = false:=by simp;omega
  have m1:(0:Int)≤(S.length:Int):=by omega
  have m2:(S.length:Int) < ((S.length + 1:Nat):Int):=by omega
  clear h c2
  go_enter Tryz.func249,Tryz.ntmps249
  go_wp2_with fail
  go_quiet (fail)
  go_wp2_with fail
  go_ret
  refine ⟨?_,nq,rfl⟩
  first | rfl | simp
theorem up_no {w:World} {B g:Nat} {kk:Int} {r:Option Addr} {S:List (T × Nat)} {D:Option Addr} {d:Nat} (h:CurM w B g kk r S D d) (hl:S.length < 2) :
    Calls Tryz.prog 251 #[.pointer (some ⟨g,0,none⟩)] w fun e w' => e = .returned (.bool false)∧w = w':=by
  obtain ⟨-,-,c2,-⟩:=h.cells
  have e1:decide ((S.length:Int) < 2) = true:=decide_eq_true (by omega)
  clear h
  go_enter Tryz.func251,Tryz.ntmps251
  go_wp2
  go_ret
  exact ⟨rfl,rfl⟩
theorem up_c {w:World} {B g:Nat} {kk:Int} {r:Option Addr} {x:T × Nat} {S:List (T × Nat)} {q d:Nat} (h:CurM w B g kk r (x :: S) (some ⟨q,0,none⟩) d) (h1:1≤S.length) (hl:S.length≤1000) :
    Calls Tryz.prog 251 #[.pointer (some ⟨g,0,none⟩)] w fun e w' => e = .returned (.bool true)∧∃ m,w' = (w.drewN m).setCell ⟨g,2,none⟩ (.slice (some ⟨q,0,none⟩) S.length d):=by
  obtain ⟨-,-,c2,f2⟩:=h.cells
  have hcap:S.length + 1≤d:=by obtain ⟨_,_,hv,hc,_⟩:=OwnL.rd stQ_ok h.stk;simp only [Value.slice.injEq] at hv;obtain ⟨-,-,rfl⟩:=hv;simpa using hc
  have c2':w.cell? ⟨g,2,none⟩ = some (.slice (some ⟨q,0,none⟩) (S.length + 1) d):=c2
  have e1:decide (((S.length + 1:Nat):Int) < 2) = false:=decide_eq_false (by omega)
  have e4:((S.length + 1:Nat):Int) - 1 = (S.length:Int):=by omega
  have m1:(0:Int)≤(S.length:Int):=by omega
  have m2:(S.length:Int) < ((S.length + 1:Nat):Int):=by omega
  have HST:=fun (w:World) => step_top w q 0 (S.length + 1) d S.length (by omega) hcap
  clear h c2 hcap
  go_enter Tryz.func251,Tryz.ntmps251
  go_wp2_with fail
  go_region
  go_wp2_with fail
  go_ret
  exact ⟨rfl,1,rfl⟩
set_option maxRecDepth 100000 in
theorem step_c {w:World} {B g:Nat} {kk:Int} {r:Option Addr} {S:List (T × Nat)} {D:Option Addr} {d:Nat} (h:CurM w B g kk r S D d) (hl:S.length≤1000) (hB:B≤w.heap.size) (t:T) (n:Nat) :
    Calls Tryz.prog 250 #[.pointer (some ⟨g,0,none⟩),.pointer (some ⟨t.blk,0,none⟩),.int .i64 (n:Int)] w fun e w' => e = .returned (.tuple #[]) ∧
      ∃ D' d',CurM w' B g kk r ((t,n) :: S) D' d'∧Foot (Cf g D) w w'∧(∀ b,Cf g D' b→Cf g D b∨w.heap.size≤b):=by
  obtain ⟨-,-,c2,-⟩:=h.cells
  have HX:=Lib.hid (And.intro h (And.intro hl hB))
  clear h hl hB
  go_enter Tryz.func250,Tryz.ntmps250
  go_wp2_with (at_builtin;refine wpList_append_list (Q:=StQ) 310 316 (.agg #[.pointer none,.int .i64 0]) 16 Tryz.underlying310 infoStep (by rfl) (by omega) (by omega) stQ_ok (by rfl) _ _ (by rfl) B (.slice D S.length d) S.reverse [(t,n)] (S.length + 1) (by simp) (by rfl) (by exact HX.out.1.stk.below (below_alloc _ _) (Nat.le_refl _)) _ _ 1 1 (by rfl) (by rfl) (by exact lst_at stQ_ok #[.pointer (some ⟨t.blk,0,none⟩),.int .i64 (n:Int)] (t,n) (by rfl) (by exact ⟨rfl,rfl⟩)) (by have:=HX.out.2.1;omega) (by have:=HX.out.2.2;simp;omega) ?_;intro D5 d5 w5 hown5 hgrow5 hat5;have hg5:w5.heap[g]? = some (.cells #[.int .i64 kk,.pointer r,.slice D S.length d] 312 (0,0)):=(hgrow5.block g (by have:=(HX.out.1.lt g (.inl rfl)).2;simp;omega) (fun e => HX.out.1.ne (by rw [own_block] at e;exact e.symm))).trans ((Below.heap_alloc _ _ _ (HX.out.1.lt g (.inl rfl)).2).trans HX.out.1.blk);have fz5:=frozen_of_row w5 g 2 _ _ hg5;have cz5:w5.cell? ⟨g,2,none⟩ = some (.slice D S.length d):=by { rw [cell_of_row w5 g _ _ _ (0,0) hg5];rfl };have HG:=Lib.hid (And.intro hown5 (And.intro hgrow5 (And.intro hat5 hg5)));clear hown5 hgrow5 hat5 hg5)
  refine bodyPost_end (results_none rfl _ _ _) rfl ?_
  obtain ⟨hown5,hgrow5,hat5,hg5⟩:=HG.out
  obtain ⟨h,hl,hB⟩:=HX.out
  have hgs:=(h.lt g (.inl rfl)).2
  have hat:D5.map (·.block) = D.map (·.block)∨D5.map (·.block) = some (w.heap.size + 1):=by
    rcases hat5 with e | e
    · rw [own_block,own_block] at e;exact .inl e
    · rw [own_block] at e;exact .inr (e.trans (by simp))
  have hne:D5.map (·.block)≠some g:=by
    rcases hat with e | e
    · rw [e];exact h.ne
    · rw [e];intro e';simp only [Option.some.injEq] at e';omega
  have hfo:Foot (Cf g D) w w5:=(Foot.of_below (F:=Cf g D) (below_alloc w _)).trans (Foot.grown (F:=Cf g D) hgrow5 (fun q hq => .inr (by rw [own_block] at hq;exact hq))) (fun b hb => .inl hb)
  refine ⟨rfl,D5,d5,⟨block_set hg5 _,h.gB,?_,hne⟩,hfo.trans (Foot.setCell w5 (F:=Cf g D) (a:=⟨g,2,none⟩) (.inl rfl) _) (fun b hb => .inl hb),fun b hb => ?_⟩
  · rw [← List.reverse_cons] at hown5
    exact hown5.block fun q hq => Below.heap_setCell _ _ _ _ (fun e => hne (by rw [own_block] at hq;rw [hq,e]))
  · rcases hb with rfl | hb
    · exact .inl (.inl rfl)
    · rcases hat with e | e
      · rw [e] at hb;exact .inl (.inr hb)
      · rw [e] at hb;simp only [Option.some.injEq] at hb;exact .inr (by omega)
structure CurAt (w:World) (B g k:Nat) (kk:Int) (o:Option T) (S:List (T × Nat)) (D:Option Addr) (d:Nat):Prop where
  mem:CurM w B g kk (rootP o) S D d
  chain:Tr.Steps o S
  nodes:∀ x∈S,Node w B k x.1∧x.2≤65536
  size:B≤w.heap.size
theorem CurAt.wf {w:World} {B g k:Nat} {kk:Int} {o:Option T} {S:List (T × Nat)} {D:Option Addr} {d:Nat} (h:CurAt w B g k kk o S D d):∀ x∈S,Tr.Wf k x.1:=fun x hx => (h.nodes x hx).1.1
theorem CurAt.len {w:World} {B g k:Nat} {kk:Int} {o:Option T} {S:List (T × Nat)} {D:Option Addr} {d:Nat} (h:CurAt w B g k kk o S D d):S.length≤65:=Tr.steps_len h.chain h.wf
theorem CurAt.keep {w w':World} {B g k:Nat} {kk:Int} {o:Option T} {S:List (T × Nat)} {D:Option Addr} {d:Nat} (h:CurAt w B g k kk o S D d) (hb:Below B w w') (hk:∀ b,Cf g D b→w'.heap[b]? = w.heap[b]?):CurAt w' B g k kk o S D d :=
  ⟨h.mem.keep hk,h.chain,fun x hx => ⟨(h.nodes x hx).1.below hb (Nat.le_refl _) (Nat.le_refl _),(h.nodes x hx).2⟩,Nat.le_trans h.size hb.size⟩
theorem CurAt.below {w w':World} {B g k:Nat} {kk:Int} {o:Option T} {S:List (T × Nat)} {D:Option Addr} {d:Nat} (h:CurAt w B g k kk o S D d) (hb:Below w.heap.size w w'):CurAt w' B g k kk o S D d :=
  h.keep (hb.mono h.size) fun b hb' => hb.block b (h.mem.lt b hb').2
theorem CurAt.foot {w w':World} {B g k:Nat} {kk:Int} {o:Option T} {S:List (T × Nat)} {D:Option Addr} {d:Nat} (h:CurAt w B g k kk o S D d) {F:Nat→Prop} (hf:Foot F w w') (hF:∀ b,F b→B≤b) (hn:∀ b,Cf g D b→¬ F b):CurAt w' B g k kk o S D d :=
  h.keep (hf.below h.size hF) fun b hb' => hf.block b (h.mem.lt b hb').2 (hn b hb')
def Told (w w':World) (g:Nat) (D:Option Addr) (x:Option Ent) (e:Ending):Prop:=match x with
  | none => e = .returned (.tuple #[entryV none 0 0 0,.bool false])
  | some x => ∃ h d,e = .returned (.tuple #[entryV (some ⟨h,0,none⟩) x.1.length d x.2,.bool true])∧Own w' w.heap.size (.slice (some ⟨h,0,none⟩) x.1.length d) x.1∧¬ Cf g D h
structure Stp (w:World) (B g k:Nat) (kk:Int) (o:Option T) (S0:List (T × Nat)) (D0:Option Addr) (μ:List (T × Nat)→Nat) (m:Nat) (S:List (T × Nat)) (D:Option Addr) (d:Nat) (w':World):Prop where
  cur:CurAt w' B g k kk o S D d
  bef:Tr.bef S = Tr.bef S0
  aft:Tr.aft S = Tr.aft S0
  foot:Foot (Cf g D0) w w'
  far:∀ b,Cf g D b→Cf g D0 b∨w.heap.size < b
  old:∀ b,Cf g D0 b→b < w.heap.size
  box:w'.heap[w.heap.size]? = some (.cells #[.slice none 0 0,.int .u64 0] 57 (0,0))
  cnt:m = μ S
theorem foot_cell (w:World) (F:Nat→Prop) {b:Nat} (i:Nat) (v:Value) (hb:F b):Foot F w (w.setCell ⟨b,i,none⟩ v):=Foot.setCell w (a:=⟨b,i,none⟩) hb v
theorem foot_res {w w':World} {F:Nat→Prop} (h:Foot F w w') (x y:Value):Foot F w ((w'.setCell ⟨w.heap.size,0,none⟩ x).setCell ⟨w.heap.size,1,none⟩ y) :=
  (h.trans (foot_cell w' (fun b => b = w.heap.size) 0 x rfl) (fun _ hb => .inr (by omega))).trans (foot_cell _ (fun b => b = w.heap.size) 1 y rfl) (fun _ hb => .inr (by omega))
theorem box_cells {w':World} {b:Nat} {x y:Value} {t:TypeId} (h:w'.heap[b]? = some (.cells #[x,y] t (0,0))) :
    w'.cell? ⟨b,0,none⟩ = some x∧w'.cell? ⟨b,1,none⟩ = some y∧w'.frozen? ⟨b,0,none⟩ = false∧w'.frozen? ⟨b,1,none⟩ = false :=
  ⟨by rw [cell_of_row w' b _ _ t (0,0) h];rfl,by rw [cell_of_row w' b _ _ t (0,0) h];rfl,frozen_of_row w' b _ _ t h,frozen_of_row w' b _ _ t h⟩
theorem res_cells {w':World} {b:Nat} {x y:Value} {t:TypeId} (h:w'.heap[b]? = some (.cells #[x,y] t (0,0))) (x' y':Value) :
    (w'.setCell ⟨b,0,none⟩ x').cell? ⟨b,0,none⟩ = some x'∧((w'.setCell ⟨b,0,none⟩ x').setCell ⟨b,1,none⟩ y').cell? ⟨b,1,none⟩ = some y' :=
  ⟨by rw [cell_of_row _ b _ _ t (0,0) (block_set h _)];rfl,by rw [cell_of_row _ b _ _ t (0,0) (block_set (block_set h _) _)];rfl⟩
section
variable {w:World} {B g k:Nat} {kk:Int} {o:Option T} {S0:List (T × Nat)} {D0:Option Addr} {μ:List (T × Nat)→Nat} {m:Nat} {S:List (T × Nat)} {D:Option Addr} {d:Nat} {w':World}
theorem Stp.lt (h:Stp w B g k kk o S0 D0 μ m S D d w'):w.heap.size < w'.heap.size:=(Array.getElem?_eq_some_iff.1 h.box).1
theorem Stp.out (h:Stp w B g k kk o S0 D0 μ m S D d w'):¬ Cf g D w.heap.size:=fun hb => by
  rcases h.far _ hb with hb | hb
  · have:=h.old _ hb;omega
  · omega
theorem Stp.below {w2:World} (h:Stp w B g k kk o S0 D0 μ m S D d w') (hb:Below w'.heap.size w' w2):Stp w B g k kk o S0 D0 μ m S D d w2 :=
  ⟨h.cur.below hb,h.bef,h.aft,h.foot.trans (Foot.of_below (F:=fun _ => False) hb) (fun _ hb => hb.elim),h.far,h.old,(hb.block _ h.lt).trans h.box,h.cnt⟩
theorem Stp.drew (h:Stp w B g k kk o S0 D0 μ m S D d w') (i:Nat):Stp w B g k kk o S0 D0 μ m S D d (w'.drewN i):=h.below (below_drewN i (Below.refl _ _))
theorem Stp.next {S':List (T × Nat)} {D':Option Addr} {d':Nat} {w2:World} (h:Stp w B g k kk o S0 D0 μ m S D d w') (hc:CurAt w2 B g k kk o S' D' d') (hb:Tr.bef S' = Tr.bef S) (ha:Tr.aft S' = Tr.aft S)
    (hf:Foot (Cf g D) w' w2) (hn:∀ b,Cf g D' b→Cf g D b∨w'.heap.size≤b):Stp w B g k kk o S0 D0 μ (μ S') S' D' d' w2:=by
  have hlt:=h.lt
  refine ⟨hc,hb.trans h.bef,ha.trans h.aft,h.foot.trans hf (fun b hb => ?_),fun b hb => ?_,h.old,(hf.block _ hlt h.out).trans h.box,rfl⟩
  · rcases h.far b hb with hb | hb
    · exact .inl hb
    · exact .inr (Nat.le_of_lt hb)
  · rcases hn b hb with hb | hb
    · exact h.far b hb
    · exact .inr (by omega)
theorem Stp.res (h:Stp w B g k kk o S0 D0 μ m S D d w') (x y:Value):CurAt ((w'.setCell ⟨w.heap.size,0,none⟩ x).setCell ⟨w.heap.size,1,none⟩ y) B g k kk o S D d∧Foot (Cf g D0) w ((w'.setCell ⟨w.heap.size,0,none⟩ x).setCell ⟨w.heap.size,1,none⟩ y) ∧
    (∀ b,Cf g D b→Cf g D0 b∨w.heap.size≤b):=by
  have hB:B≤w.heap.size:=by
    have h1:=h.cur.mem.gB
    by_cases hg:Cf g D0 g
    · have:=h.old _ hg;omega
    · exact absurd (.inl rfl) hg
  have hF:Foot (fun b => b = w.heap.size) w' ((w'.setCell ⟨w.heap.size,0,none⟩ x).setCell ⟨w.heap.size,1,none⟩ y) :=
    (foot_cell w' (fun b => b = w.heap.size) 0 x rfl).trans (foot_cell _ (fun b => b = w.heap.size) 1 y rfl) (fun b hb => .inl hb)
  refine ⟨h.cur.foot hF (fun _ hb => by rw [hb];exact hB) (fun _ hb hn => h.out (hn ▸ hb)),foot_res h.foot x y,fun b hb => ?_⟩
  rcases h.far b hb with hb | hb
  · exact .inl hb
  · exact .inr (Nat.le_of_lt hb)
theorem Stp.bel (h:Stp w B g k kk o S0 D0 μ m S D d w') (h0:CurAt w B g k kk o S0 D0 d):Below B w w':=h.foot.below h0.size fun b hb => (h0.mem.lt b hb).1
end
theorem CurAt.gap {w:World} {B g k:Nat} {kk:Int} {o:Option T} {t:T} {n:Nat} {R:List (T × Nat)} {q d:Nat} (h:CurAt w B g k kk o ((t,n) :: R) (some ⟨q,0,none⟩) d) (m:Nat) (hm:m≤65536) :
    CurAt (w.setCell ⟨q,R.length * 2 + 1,none⟩ (.int .i64 (m:Int))) B g k kk o ((t,m) :: R) (some ⟨q,0,none⟩) d∧Foot (Cf g (some ⟨q,0,none⟩)) w (w.setCell ⟨q,R.length * 2 + 1,none⟩ (.int .i64 (m:Int))):=by
  have hf:Foot (Cf g (some ⟨q,0,none⟩)) w (w.setCell ⟨q,R.length * 2 + 1,none⟩ (.int .i64 (m:Int))):=foot_cell w _ _ _ (.inr rfl)
  have hb:Below B w (w.setCell ⟨q,R.length * 2 + 1,none⟩ (.int .i64 (m:Int))):=hf.below h.size fun b hb => (h.mem.lt b hb).1
  refine ⟨⟨h.mem.gap m,h.chain.gap,fun x hx => ?_,by simpa using h.size⟩,hf⟩
  rcases List.mem_cons.1 hx with rfl | hx
  · exact ⟨(h.nodes (t,n) List.mem_cons_self).1.below hb (Nat.le_refl _) (Nat.le_refl _),hm⟩
  · exact ⟨(h.nodes x (List.mem_cons_of_mem _ hx)).1.below hb (Nat.le_refl _) (Nat.le_refl _),(h.nodes x (List.mem_cons_of_mem _ hx)).2⟩
theorem CurAt.pop {w:World} {B g k:Nat} {kk:Int} {o:Option T} {s t:T} {n a:Nat} {R:List (T × Nat)} {q d:Nat} (h:CurAt w B g k kk o ((s,n) :: (t,a) :: R) (some ⟨q,0,none⟩) d) :
    CurAt (w.setCell ⟨g,2,none⟩ (.slice (some ⟨q,0,none⟩) ((t,a) :: R).length d)) B g k kk o ((t,a) :: R) (some ⟨q,0,none⟩) d∧Foot (Cf g (some ⟨q,0,none⟩)) w (w.setCell ⟨g,2,none⟩ (.slice (some ⟨q,0,none⟩) ((t,a) :: R).length d)):=by
  have hf:Foot (Cf g (some ⟨q,0,none⟩)) w (w.setCell ⟨g,2,none⟩ (.slice (some ⟨q,0,none⟩) ((t,a) :: R).length d)):=foot_cell w _ _ _ (.inl rfl)
  have hb:Below B w (w.setCell ⟨g,2,none⟩ (.slice (some ⟨q,0,none⟩) ((t,a) :: R).length d)):=hf.below h.size fun b hb => (h.mem.lt b hb).1
  exact ⟨⟨h.mem.pop,h.chain.up.2,fun x hx => ⟨(h.nodes x (List.mem_cons_of_mem _ hx)).1.below hb (Nat.le_refl _) (Nat.le_refl _),(h.nodes x (List.mem_cons_of_mem _ hx)).2⟩,by simpa using h.size⟩,hf⟩
theorem CurAt.push {w w':World} {B g k:Nat} {kk:Int} {o:Option T} {s t:T} {n a:Nat} {R:List (T × Nat)} {D D':Option Addr} {d d':Nat} (h:CurAt w B g k kk o ((t,a) :: R) D d) (hm:(a,s)∈t.ks) (hn:n≤65536)
    (hc:CurM w' B g kk (rootP o) ((s,n) :: (t,a) :: R) D' d') (hf:Foot (Cf g D) w w'):CurAt w' B g k kk o ((s,n) :: (t,a) :: R) D' d':=by
  have hb:Below B w w':=hf.below h.size fun b hb => (h.mem.lt b hb).1
  have ht:=(h.nodes (t,a) List.mem_cons_self).1
  have hs:Node w B k s:=by
    obtain ⟨g',l,pre,ks,rfl⟩:=Tr.ks_br hm
    exact ht.kid hm
  refine ⟨hc,⟨hm,h.chain⟩,fun x hx => ?_,Nat.le_trans h.size hf.size⟩
  rcases List.mem_cons.1 hx with rfl | hx
  · exact ⟨hs.below hb (Nat.le_refl _) (Nat.le_refl _),hn⟩
  · exact ⟨(h.nodes x hx).1.below hb (Nat.le_refl _) (Nat.le_refl _),(h.nodes x hx).2⟩
end Go.Proofs.YtkeepngaaleakaaGreatDoor
