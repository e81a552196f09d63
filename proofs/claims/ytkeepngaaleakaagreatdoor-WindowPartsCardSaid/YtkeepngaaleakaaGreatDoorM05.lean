import Derived.Lib.SliceRun
import Derived.Deep.RegionHeld3
import Derived.Deep.RegionLaw
import Derived.Test.YtkeepngaaleakaaGreatDoorM03
import Derived.Test.YtkeepngaaleakaaGreatDoorM04
namespace Go.Proofs.YtkeepngaaleakaaGreatDoor
open Go.ChangeShapes Go.WideShapes Go.ChangeAt Go.RowKit
open Tr (T S4)
/-! ### slices.Clone of a point -/
set_option maxRecDepth 100000 in
theorem clone_pts (us:List Nat) (A:Option Addr) (c B:Nat) (w:World) (hB:B≤w.heap.size) (hA:Pts w B A us) (hne:us≠[]) (hl:us.length≤1000000) :
    Calls Tryz.prog 146 #[.slice A us.length c] w fun e w' => ∃ g d,e = .returned (.slice (some ⟨g,0,none⟩) us.length d)∧Own w' w.heap.size (.slice (some ⟨g,0,none⟩) us.length d) us∧Below w.heap.size w w':=by
  obtain ⟨b,off,hAA,hb,_⟩:=hA.2 hne
  have Hok:=Lib.hid hA.1
  have hv:vals us≠[]:=by intro h;apply hne;simpa [vals] using h
  subst hAA
  have Hh:=Lib.hid (pts_rdV hA)
  have Hl:=Lib.hid (And.intro hl hv)
  have Ho:=Lib.hid (ownV_nil 55 w)
  have hq:∀ (w:World) (a:Option Addr) (n c n' c':Nat),(binOp .eql 23 (.slice a n c) (.slice none n' c')).run Tryz.prog w = .ok (.bool a.isNone) w:=fun w a n c n' c' => Lib.run_eql_slice_nil w _ _ a n c n' c' Tryz.underlying23
  clear hA hl hne hv
  go_enter Tryz.func146,Tryz.ntmps146
  go_wp2_with (at_builtin;refine wpList_append_vals 23 55 (Value.int .u64 0) 8 Tryz.underlying23 info_u64 rfl (by omega) rfl (.tmp 5) (.tmp 6) rfl w.heap.size _ [] (vals us) rfl Ho.out B _ _ c (vals_length us) rfl (Hh.out.below (below_alloc _ _) hB (Nat.le_refl _)) (vals_one us) (by have:=Hl.out.1;rw [vals_length];simp;omega) (by simp) ?_;intro v2 w2 hown2 hgrow2 _)
  go_ret
  rw [List.nil_append] at hown2
  obtain ⟨g,d,hv⟩:=hown2.row Hl.out.2
  rw [vals_length] at hv
  subst hv
  refine ⟨g,d,rfl,⟨Hok.out,?_⟩,((Below.refl w.heap.size w).alloc (Nat.le_refl _) _).grown hgrow2 (by simp) (fun q hq => (Ho.out.lt q hq).1)⟩
  have:=hown2.2
  rw [vals_length] at this
  exact this
/-! ### nodes in memory -/
abbrev sumsV (s:S4):Value:=.agg #[.int .u64 (s.c:Int),.int .u64 (s.s:Int),.int .u64 (s.lo:Int),.int .u64 (s.hi:Int)]
def SumAt (w:World) (g:Nat) (s:S4):Prop :=
  w.cell? ⟨g,4,none⟩ = some (.int .u64 (s.c:Int))∧w.cell? ⟨g,5,none⟩ = some (.int .u64 (s.s:Int))∧w.cell? ⟨g,6,none⟩ = some (.int .u64 (s.lo:Int))∧w.cell? ⟨g,7,none⟩ = some (.int .u64 (s.hi:Int))
def NdAt (w:World) (B g:Nat) (lev:Int) (pre:List Nat) (v:Nat) (kp:Option Addr) (s:S4):Prop :=
  g < B∧(∃ A c,Pts w B A pre∧w.cell? ⟨g,1,none⟩ = some (.slice A pre.length c))∧w.cell? ⟨g,0,none⟩ = some (.int .i64 lev)∧w.cell? ⟨g,2,none⟩ = some (.int .u64 (v:Int))∧w.cell? ⟨g,3,none⟩ = some (.pointer kp)∧SumAt w g s
theorem SumAt.below {w w':World} {g C:Nat} {s:S4} (h:SumAt w g s) (hb:Below C w w') (hg:g < C):SumAt w' g s :=
  ⟨(hb.cell (p:=⟨g,4,none⟩) hg).trans h.1,(hb.cell (p:=⟨g,5,none⟩) hg).trans h.2.1,(hb.cell (p:=⟨g,6,none⟩) hg).trans h.2.2.1,(hb.cell (p:=⟨g,7,none⟩) hg).trans h.2.2.2⟩
theorem NdAt.below {w w':World} {B B' C g:Nat} {lev:Int} {pre:List Nat} {v:Nat} {kp:Option Addr} {s:S4} (h:NdAt w B g lev pre v kp s) (hb:Below C w w') (hC:B≤C) (hB:B≤B'):NdAt w' B' g lev pre v kp s:=by
  obtain ⟨h0,⟨A,c,hp,h1⟩,h2,h3,h4,h5⟩:=h
  have hg:g < C:=by omega
  exact ⟨by omega,⟨A,c,(hp.below' hb hC).keep hB (fun _ _ => rfl),(hb.cell (p:=⟨g,1,none⟩) hg).trans h1⟩,(hb.cell (p:=⟨g,0,none⟩) hg).trans h2,(hb.cell (p:=⟨g,2,none⟩) hg).trans h3,(hb.cell (p:=⟨g,3,none⟩) hg).trans h4,h5.below hb hg⟩
theorem NdAt.drew {w:World} {B g:Nat} {lev:Int} {pre:List Nat} {v:Nat} {kp:Option Addr} {s:S4} (h:NdAt w B g lev pre v kp s):NdAt w.drew B g lev pre v kp s:=h
def TrB (w:World) (b:Nat):Prop:=∃ c ty,w.heap[b]? = some (.cells c ty (0,0))
theorem TrB.lt {w:World} {b:Nat} (h:TrB w b):b < w.heap.size:=by
  obtain ⟨c,ty,h⟩:=h
  exact (Array.getElem?_eq_some_iff.1 h).1
theorem TrB.below {w w':World} {b C:Nat} (h:TrB w b) (hb:Below C w w') (hC:b < C):TrB w' b:=by
  obtain ⟨c,ty,h⟩:=h
  exact ⟨c,ty,(hb.block b hC).trans h⟩
theorem TrB.keep {w w':World} {b:Nat} (h:TrB w b) (hb:w'.heap[b]? = w.heap[b]?):TrB w' b:=by
  obtain ⟨c,ty,h⟩:=h
  exact ⟨c,ty,hb.trans h⟩
theorem TrB.setCell {w:World} {b:Nat} (h:TrB w b) {g off:Nat} (v:Value):TrB (w.setCell ⟨g,off,none⟩ v) b:=by
  by_cases e:b = g
  · obtain ⟨c,ty,h⟩:=h
    subst e
    exact ⟨_,ty,heap_setCell_same w b off c ty v h⟩
  · exact h.keep (Below.heap_setCell w ⟨g,off,none⟩ v b e)
def NdN (w:World) (B g:Nat) (lev:Int) (pre:List Nat) (v:Nat) (kp:Option Addr) (s:S4):Prop:=NdAt w B g lev pre v kp s∧TrB w g
def kidL (ks:List (Nat × T)):Sn.Al:=ks.map fun x => (x.1,some ⟨x.2.blk,0,none⟩)
def levI (t:T):Int:=(t.lv:Int) - 1
inductive Mem (w:World) (B k:Nat):T→Prop
  | ent (g:Nat) (p:List Nat) (v:Nat) (h:NdAt w B g (-1) p v none (Tr.s1 v)) (hw:TrB w g):Mem w B k (.ent g p v)
  | br (g l:Nat) (pre:List Nat) (ks:List (Nat × T)) (b:Nat) (h:NdAt w B g (l:Int) pre 0 (some ⟨b,0,none⟩) (Tr.sums (Tr.entsL ks))) (ha:Sn.At w B b k (kidL ks)) (hk:∀ x∈ks,Mem w B k x.2) (hw:TrB w g):Mem w B k (.br g l pre ks)
theorem Mem.keep {w w':World} {B B' C k:Nat} {t:T} (h:Mem w B k t) (hb:Below C w w') (hC:B≤C) (hB:B≤B'):Mem w' B' k t:=by
  induction h with
  | ent g p v h hw => exact .ent g p v (h.below hb hC hB) (hw.below hb (Nat.lt_of_lt_of_le h.1 hC))
  | br g l pre ks b h ha hk hw ih => exact .br g l pre ks b (h.below hb hC hB) (ha.below hb hC hB) ih (hw.below hb (Nat.lt_of_lt_of_le h.1 hC))
def Node (w:World) (B k:Nat) (t:T):Prop:=Tr.Wf k t∧Mem w B k t
theorem Node.below {w w':World} {B B' C k:Nat} {t:T} (h:Node w B k t) (hb:Below C w w') (hC:B≤C) (hB:B≤B'):Node w' B' k t:=⟨h.1,h.2.keep hb hC hB⟩
theorem Mem.trb {w:World} {B k:Nat} {t:T} (h:Mem w B k t):TrB w t.blk:=by
  cases h with
  | ent g p v h hw => exact hw
  | br g l pre ks b h ha hk hw => exact hw
theorem Node.trb {w:World} {B k:Nat} {t:T} (h:Node w B k t):TrB w t.blk:=h.2.trb
def ndV (t:T):Value:=.pointer (some ⟨t.blk,0,none⟩)
theorem Mem.nd {w:World} {B k:Nat} {t:T} (h:Mem w B k t):∃ kp,NdAt w B t.blk (levI t) t.pre t.val kp (Tr.sums t.ents):=by
  cases h with
  | ent g p v h => exact ⟨none,by rw [Tr.ents_ent,Tr.sums_one];exact h⟩
  | br g l pre ks b h => exact ⟨some ⟨b,0,none⟩,by rw [Tr.ents_br];show NdAt w B g (((l + 1:Nat):Int) - 1) pre 0 _ _;rw [show ((l + 1:Nat):Int) - 1 = (l:Int) by omega];exact h⟩
theorem Node.kid {w:World} {B k g l:Nat} {pre:List Nat} {ks:List (Nat × T)} (h:Node w B k (.br g l pre ks)) {x:Nat × T} (hx:x∈ks):Node w B k x.2:=by
  refine ⟨h.1.kid hx,?_⟩
  cases h.2 with
  | br _ _ _ _ _ _ _ hk => exact hk x hx
/-! ### K,Level,Sums -/
theorem nK_nil (w:World):Calls Tryz.prog 118 #[.pointer none] w fun e w' => e = .returned (.int .i64 0)∧w = w':=by
  go_enter Tryz.func118,Tryz.ntmps118
  go_wp2
  go_ret
  exact ⟨rfl,rfl⟩
theorem nK_c {w:World} {B g:Nat} {lev:Int} {pre:List Nat} {v:Nat} {kp:Option Addr} {s:S4} (h:NdAt w B g lev pre v kp s) :
    Calls Tryz.prog 118 #[.pointer (some ⟨g,0,none⟩)] w fun e w' => e = .returned (.int .i64 (pre.length:Int))∧w = w':=by
  obtain ⟨-,⟨A,c,-,h1⟩,-⟩:=h
  go_enter Tryz.func118,Tryz.ntmps118
  go_wp2
  go_ret
  exact ⟨rfl,rfl⟩
theorem nLevel_nil (w:World):Calls Tryz.prog 120 #[.pointer none] w fun e w' => e = .returned (.int .i64 (-1))∧w = w':=by
  go_enter Tryz.func120,Tryz.ntmps120
  go_wp2
  go_ret
  exact ⟨rfl,rfl⟩
theorem nLevel_c {w:World} {B g:Nat} {lev:Int} {pre:List Nat} {v:Nat} {kp:Option Addr} {s:S4} (h:NdAt w B g lev pre v kp s) :
    Calls Tryz.prog 120 #[.pointer (some ⟨g,0,none⟩)] w fun e w' => e = .returned (.int .i64 lev)∧w = w':=by
  obtain ⟨-,-,h0,-⟩:=h
  go_enter Tryz.func120,Tryz.ntmps120
  go_wp2
  go_ret
  exact ⟨rfl,rfl⟩
theorem nSums_nil (w:World):Calls Tryz.prog 92 #[.pointer none] w fun e w' => e = .returned (sumsV Tr.s0)∧Below w.heap.size w w':=by
  go_enter Tryz.func92,Tryz.ntmps92
  go_wp2
  refine bodyPost_ret (v:=sumsV Tr.s0) (by simp [results,Tryz.results92,go_sem,sumsV,Tr.s0]) rfl ?_
  exact ⟨rfl,by first | exact below_alloc _ _ | (go_outline;done)⟩
theorem nSums_c {w:World} {B g:Nat} {lev:Int} {pre:List Nat} {v:Nat} {kp:Option Addr} {s:S4} (h:NdAt w B g lev pre v kp s) (hB:B≤w.heap.size) :
    Calls Tryz.prog 92 #[.pointer (some ⟨g,0,none⟩)] w fun e w' => e = .returned (sumsV s)∧Below w.heap.size w w':=by
  obtain ⟨hg,-,-,-,-,h4,h5,h6,h7⟩:=h
  have hgw:g < w.heap.size:=by omega
  go_enter Tryz.func92,Tryz.ntmps92
  go_wp2
  refine bodyPost_ret (v:=sumsV s) (by simp [results,Tryz.results92,go_sem,sumsV]) rfl ?_
  exact ⟨rfl,below_alloc _ _⟩
set_option maxRecDepth 100000 in
theorem together_zero (a b:S4) (w:World) (h:a.c = 0) :
    Calls Tryz.prog 209 #[sumsV a,sumsV b] w fun e w' => e = .returned (sumsV (Tr.tog a b))∧Below w.heap.size w w':=by
  have h1:((a.c:Int) == 0) = true:=by rw [beq_iff_eq];omega
  have ht:Hid (Tr.tog a b = b):=Lib.hid (by simp [Tr.tog,h])
  obtain ⟨b0,b1,b2,b3⟩:=b
  obtain ⟨a0,a1,a2,a3⟩:=a
  simp only at h1 ht
  clear h
  go_enter Tryz.func209,Tryz.ntmps209
  go_wp2
  refine bodyPost_ret (v:=sumsV ⟨b0,b1,b2,b3⟩) (by simp [results,Tryz.results209,go_sem,sumsV]) rfl ?_
  exact ⟨by rw [ht.out],by ((repeat first | refine bD ?_ | with_reducible refine bN ?_ | refine bA ?_ | refine bS ?_);first | exact bR | assumption | exact bN bR | exact bN (bN bR))⟩
set_option maxRecDepth 100000 in
theorem together_two (a b:S4) (w:World) (ha:a.c≠0) (hb:b.c≠0) (hc:a.c + b.c < 18446744073709551616) :
    Calls Tryz.prog 209 #[sumsV a,sumsV b] w fun e w' => e = .returned (sumsV (Tr.tog a b))∧Below w.heap.size w w':=by
  have h1:((a.c:Int) == 0) = false:=by rw [beq_eq_false_iff_ne];omega
  have e1:IntKind.u64.wrap ((a.c:Int) + (b.c:Int)) = ((a.c + b.c:Nat):Int):=by rw [IntKind.wrap_u64];omega
  have e2:IntKind.u64.wrap ((a.s:Int) + (b.s:Int)) = (((a.s + b.s) % 18446744073709551616:Nat):Int):=by rw [IntKind.wrap_u64];omega
  have ht:Hid (Tr.tog a b = ⟨a.c + b.c,(a.s + b.s) % 18446744073709551616,min a.lo b.lo,max a.hi b.hi⟩):=Lib.hid (by simp [Tr.tog,ha,hb])
  obtain ⟨b0,b1,b2,b3⟩:=b
  obtain ⟨a0,a1,a2,a3⟩:=a
  simp only at h1 ht e1 e2
  clear ha hb hc
  have H:=Lib.hid (And.intro e1 e2)
  clear e1 e2
  go_enter Tryz.func209,Tryz.ntmps209
  go_wp2
  refine bodyPost_ret (v:=sumsV ⟨a0 + b0,(a1 + b1) % 18446744073709551616,min a2 b2,max a3 b3⟩) (by simp [results,Tryz.results209,go_sem,sumsV,H.out.1,H.out.2];refine ⟨by omega,by omega⟩) rfl ?_
  exact ⟨by rw [ht.out],by ((repeat first | refine bD ?_ | with_reducible refine bN ?_ | refine bA ?_ | refine bS ?_);first | exact bR | assumption | exact bN bR | exact bN (bN bR))⟩
theorem together_c (a b:S4) (w:World) (hb:b.c≠0) (hc:a.c + b.c < 18446744073709551616) :
    Calls Tryz.prog 209 #[sumsV a,sumsV b] w fun e w' => e = .returned (sumsV (Tr.tog a b))∧Below w.heap.size w w':=by
  by_cases ha:a.c = 0
  · exact together_zero a b w ha
  · exact together_two a b w ha hb hc
/-! ### having -/
theorem nd_at {w:World} {B B' g:Nat} {A:Option Addr} {c:Nat} {lev:Int} {pre:List Nat} {v:Nat} {kp:Option Addr} {a0 a1 a2 a3:Nat} {t:TypeId} (hp:Pts w B A pre)
    (h:w.heap[g]? = some (.cells #[.int .i64 lev,.slice A pre.length c,.int .u64 (v:Int),.pointer kp,.int .u64 (a0:Int),.int .u64 (a1:Int),.int .u64 (a2:Int),.int .u64 (a3:Int)] t (0,0))) (hB:B≤B') (hg:g < B'):NdAt w B' g lev pre v kp ⟨a0,a1,a2,a3⟩:=by
  refine ⟨hg,⟨A,c,hp.keep hB (fun _ _ => rfl),?_⟩,?_,?_,?_,?_,?_,?_,?_⟩ <;> (rw [cell_of_row w g _ _ t (0,0) h];rfl)
theorem nd_new {w:World} {B B' g:Nat} {A:Option Addr} {c:Nat} {lev:Int} {pre:List Nat} {v:Nat} {kp:Option Addr} {a0 a1 a2 a3:Nat} {t:TypeId} (hp:Pts w B A pre)
    (h:w.heap[g]? = some (.cells #[.int .i64 lev,.slice A pre.length c,.int .u64 (v:Int),.pointer kp,.int .u64 (a0:Int),.int .u64 (a1:Int),.int .u64 (a2:Int),.int .u64 (a3:Int)] t (0,0))) (hB:B≤B') (hg:g < B'):NdN w B' g lev pre v kp ⟨a0,a1,a2,a3⟩ :=
  ⟨nd_at hp h hB hg,_,_,h⟩
set_option maxRecDepth 100000 in
theorem having_c {w:World} {B g:Nat} {lev:Int} {pre:List Nat} {v:Nat} {kp:Option Addr} {s:S4} (h:NdAt w B g lev pre v kp s) (hB:B≤w.heap.size) (kp':Option Addr) (s':S4) :
    Calls Tryz.prog 167 #[.pointer (some ⟨g,0,none⟩),.pointer kp',sumsV s'] w fun e w' => ∃ g',e = .returned (.pointer (some ⟨g',0,none⟩))∧NdN w' w'.heap.size g' lev pre 0 kp' s'∧w.heap.size≤g'∧Below w.heap.size w w':=by
  obtain ⟨hg,⟨A,c,hp,h1⟩,h0,h2,h3,h4⟩:=h
  have hgw:g < w.heap.size:=by omega
  have HP:=Lib.hid hp
  clear hp h4
  obtain ⟨s0,s1,s2,s3⟩:=s'
  go_enter Tryz.func167,Tryz.ntmps167
  go_wp2_with fail
  go_region
  all_goals go_wp2_with fail
  all_goals go_ret
  all_goals refine ⟨_,rfl,nd_new (HP.out.below' (C:=w.heap.size) (by ((repeat first | refine bD ?_ | with_reducible refine bN ?_ | refine bA ?_ | refine bS ?_);first | exact bR | assumption | exact bN bR | exact bN (bN bR))) hB) (v:=0) (by (first | (refine heap_at _ _ _ ?_;simp;done) | (refine heap_past _ (heap_at _ _ _ ?_);simp;done) | (refine heap_past _ (heap_past _ (heap_at _ _ _ ?_));simp;done) | (refine heap_past _ (heap_past _ (heap_past _ (heap_at _ _ _ ?_)));simp;done))) (by (first | omega | (simp;done) | (simp;omega))) (by (first | omega | (simp;done) | (simp;omega))),by omega,by ((repeat first | refine bD ?_ | with_reducible refine bN ?_ | refine bA ?_ | refine bS ?_);first | exact bR | assumption | exact bN bR | exact bN (bN bR))⟩
/-! ### sumsOf -/
def togF (ss:List S4):S4:=ss.foldl Tr.tog Tr.s0
theorem togF_take {ss:List S4} {j:Nat} {s:S4} (h:ss[j]? = some s):togF (ss.take (j + 1)) = Tr.tog (togF (ss.take j)) s:=by
  obtain ⟨hj,rfl⟩:=List.getElem?_eq_some_iff.1 h
  rw [List.take_succ_eq_append_getElem hj,togF,List.foldl_append]
  rfl
theorem togF_c (ss:List S4):(togF ss).c = (ss.map (·.c)).sum:=by
  have h:∀ (ss:List S4) (a:S4),(ss.foldl Tr.tog a).c = a.c + (ss.map (·.c)).sum:=by
    intro ss
    induction ss with
    | nil => simp
    | cons s ss ih => intro a;simp only [List.foldl_cons,List.map_cons,List.sum_cons];rw [ih,Tr.tog_c];omega
  rw [togF,h]
  simp [Tr.s0]
theorem sum_take_le:∀ (l:List Nat) (j:Nat),(l.take j).sum≤l.sum
  | [],j => by simp
  | x :: l,0 => by simp
  | x :: l,j + 1 => by have:=sum_take_le l j;simp only [List.take_succ_cons,List.sum_cons];omega
def SumsAt (w:World) (B:Nat) (xs:List (Option Addr)) (ss:List S4):Prop:=xs.length = ss.length∧∀ (i:Nat) (s:S4),ss[i]? = some s→s.c≠0∧∃ g,xs[i]? = some (some ⟨g,0,none⟩)∧g < B∧SumAt w g s
theorem SumsAt.below {w w':World} {B C:Nat} {xs:List (Option Addr)} {ss:List S4} (h:SumsAt w B xs ss) (hb:Below C w w') (hC:B≤C):SumsAt w' B xs ss :=
  ⟨h.1,fun i s hs => by obtain ⟨h0,g,h1,h2,h3⟩:=h.2 i s hs;exact ⟨h0,g,h1,h2,h3.below hb (by omega)⟩⟩
def Q4 (w:World) (g:Nat) (s:S4):Prop :=
  (w.cell? ⟨g,0,none⟩ = some (.int .u64 (s.c:Int))∧w.cell? ⟨g,1,none⟩ = some (.int .u64 (s.s:Int))∧w.cell? ⟨g,2,none⟩ = some (.int .u64 (s.lo:Int))∧w.cell? ⟨g,3,none⟩ = some (.int .u64 (s.hi:Int))) ∧
    (w.frozen? ⟨g,0,none⟩ = false∧w.frozen? ⟨g,1,none⟩ = false∧w.frozen? ⟨g,2,none⟩ = false∧w.frozen? ⟨g,3,none⟩ = false)∧g < w.heap.size
theorem q4_at {w:World} {g a b c d:Nat} {t:TypeId} (h:w.heap[g]? = some (.cells #[.int .u64 (a:Int),.int .u64 (b:Int),.int .u64 (c:Int),.int .u64 (d:Int)] t (0,0))):Q4 w g ⟨a,b,c,d⟩:=by
  refine ⟨⟨?_,?_,?_,?_⟩,⟨?_,?_,?_,?_⟩,(Array.getElem?_eq_some_iff.1 h).1⟩
  · rw [cell_of_row w g _ _ t (0,0) h];rfl
  · rw [cell_of_row w g _ _ t (0,0) h];rfl
  · rw [cell_of_row w g _ _ t (0,0) h];rfl
  · rw [cell_of_row w g _ _ t (0,0) h];rfl
  all_goals exact frozen_of_row w g _ _ t h
theorem Q4.below {w w':World} {C g:Nat} {s:S4} (h:Q4 w g s) (hb:Below C w w') (hg:g < C):Q4 w' g s :=
  ⟨⟨(hb.cell (p:=⟨g,0,none⟩) hg).trans h.1.1,(hb.cell (p:=⟨g,1,none⟩) hg).trans h.1.2.1,(hb.cell (p:=⟨g,2,none⟩) hg).trans h.1.2.2.1,(hb.cell (p:=⟨g,3,none⟩) hg).trans h.1.2.2.2⟩,
    ⟨(hb.frozen (p:=⟨g,0,none⟩) hg).trans h.2.1.1,(hb.frozen (p:=⟨g,1,none⟩) hg).trans h.2.1.2.1,(hb.frozen (p:=⟨g,2,none⟩) hg).trans h.2.1.2.2.1,(hb.frozen (p:=⟨g,3,none⟩) hg).trans h.2.1.2.2.2⟩,Nat.lt_of_lt_of_le h.2.2 hb.size⟩
theorem Q4.other {w:World} {g:Nat} {s:S4} (h:Q4 w g s) (a:Addr) (v:Value) (ha:a.block≠g):Q4 (w.setCell a v) g s:=by
  have e:∀ i,(w.setCell a v).cell? ⟨g,i,none⟩ = w.cell? ⟨g,i,none⟩:=fun i => World.cell?_setCell_other _ _ _ _ (by rintro rfl;exact ha rfl)
  have f:∀ i,(w.setCell a v).frozen? ⟨g,i,none⟩ = w.frozen? ⟨g,i,none⟩:=fun i => World.frozen?_setCell _ _ _ _
  exact ⟨⟨(e 0).trans h.1.1,(e 1).trans h.1.2.1,(e 2).trans h.1.2.2.1,(e 3).trans h.1.2.2.2⟩,⟨(f 0).trans h.2.1.1,(f 1).trans h.2.1.2.1,(f 2).trans h.2.1.2.2.1,(f 3).trans h.2.1.2.2.2⟩,by simpa using h.2.2⟩
theorem Q4.set {w:World} {g:Nat} {s:S4} (h:Q4 w g s) (a b c d:Nat) :
    Q4 ((((w.setCell ⟨g,0,none⟩ (.int .u64 (a:Int))).setCell ⟨g,1,none⟩ (.int .u64 (b:Int))).setCell ⟨g,2,none⟩ (.int .u64 (c:Int))).setCell ⟨g,3,none⟩ (.int .u64 (d:Int))) g ⟨a,b,c,d⟩:=by
  obtain ⟨⟨h0,h1,h2,h3⟩,⟨f0,f1,f2,f3⟩,hs⟩:=h
  have e:∀ (w:World) (v:Value) (i j:Nat),i≠j→(w.setCell ⟨g,i,none⟩ v).cell? ⟨g,j,none⟩ = w.cell? ⟨g,j,none⟩:=fun w v i j hij => World.cell?_setCell_other _ _ _ _ (by first | (simp;done) | (simp;omega))
  have f:∀ (w:World) (v:Value) (i j:Nat),(w.setCell ⟨g,i,none⟩ v).frozen? ⟨g,j,none⟩ = w.frozen? ⟨g,j,none⟩:=fun w v i j => World.frozen?_setCell _ _ _ _
  refine ⟨⟨?_,?_,?_,?_⟩,⟨by rw [f,f,f,f];exact f0,by rw [f,f,f,f];exact f1,by rw [f,f,f,f];exact f2,by rw [f,f,f,f];exact f3⟩,by simpa using hs⟩
  · rw [e _ _ 3 0 (by omega),e _ _ 2 0 (by omega),e _ _ 1 0 (by omega)];exact World.cell?_setCell_same _ _ _ h0
  · rw [e _ _ 3 1 (by omega),e _ _ 2 1 (by omega)];exact World.cell?_setCell_same _ _ _ ((e _ _ 0 1 (by omega)).trans h1)
  · rw [e _ _ 3 2 (by omega)];exact World.cell?_setCell_same _ _ _ ((e _ _ 1 2 (by omega)).trans ((e _ _ 0 2 (by omega)).trans h2))
  · exact World.cell?_setCell_same _ _ _ ((e _ _ 2 3 (by omega)).trans ((e _ _ 1 3 (by omega)).trans ((e _ _ 0 3 (by omega)).trans h3)))
set_option maxRecDepth 100000 in
set_option maxHeartbeats 2000000 in
theorem sumsOf_c {w:World} {B:Nat} {A:Option Addr} {c:Nat} {xs:List (Option Addr)} {ss:List S4} (hx:RdV w B A (Sn.elV xs)) (hs:SumsAt w B xs ss) (hB:B≤w.heap.size) (hc:(togF ss).c < 18446744073709551616) (hl:xs.length≤maxLen) :
    Calls Tryz.prog 168 #[.slice A xs.length c] w fun e w' => e = .returned (sumsV (togF ss))∧Below w.heap.size w w':=by
  have HX:=Lib.hid (And.intro hx (And.intro hs hc))
  have Hl:=Lib.hid hs.1
  have Hm:=Lib.hid hl
  unfold maxLen at hl
  clear hx hs hc
  go_enter Tryz.func168,Tryz.ntmps168
  go_wp2_with fail
  have B0:Hid (Below w.heap.size w ((w.alloc (.cells #[.int .u64 0,.int .u64 0,.int .u64 0,.int .u64 0] 133)).alloc (.cells #[.int .u64 0,.int .u64 0,.int .u64 0,.int .u64 0] 133))):=Lib.hid (by ((repeat first | refine bD ?_ | with_reducible refine bN ?_ | refine bA ?_ | refine bS ?_);first | exact bR | assumption | exact bN bR | exact bN (bN bR)))
  have G0:=Lib.hid (q4_at (w:=((w.alloc (.cells #[.int .u64 0,.int .u64 0,.int .u64 0,.int .u64 0] 133)).alloc (.cells #[.int .u64 0,.int .u64 0,.int .u64 0,.int .u64 0] 133))) (g:=w.heap.size) (a:=0) (b:=0) (c:=0) (d:=0) (t:=133) (by (first | (refine heap_at _ _ _ ?_;simp;done) | (refine heap_past _ (heap_at _ _ _ ?_);simp;done) | (refine heap_past _ (heap_past _ (heap_at _ _ _ ?_));simp;done) | (refine heap_past _ (heap_past _ (heap_past _ (heap_at _ _ _ ?_)));simp;done))))
  have G1:=Lib.hid (q4_at (w:=((w.alloc (.cells #[.int .u64 0,.int .u64 0,.int .u64 0,.int .u64 0] 133)).alloc (.cells #[.int .u64 0,.int .u64 0,.int .u64 0,.int .u64 0] 133))) (g:=w.heap.size + 1) (a:=0) (b:=0) (c:=0) (d:=0) (t:=133) (by (first | (refine heap_at _ _ _ ?_;simp;done) | (refine heap_past _ (heap_at _ _ _ ?_);simp;done) | (refine heap_past _ (heap_past _ (heap_at _ _ _ ?_));simp;done) | (refine heap_past _ (heap_past _ (heap_past _ (heap_at _ _ _ ?_)));simp;done))))
  go_loopw [8] (fun i wr => ∃ j:Nat,j≤xs.length∧i = .int .i64 j∧Q4 wr w.heap.size Tr.s0∧Q4 wr (w.heap.size + 1) (togF (ss.take j))∧Below w.heap.size w wr) (fun i _ => xs.length - (intOf i).toNat)
  case atStart => exact ⟨0,Nat.zero_le _,rfl,G0.out,G1.out,B0.out⟩
  case round =>
    clear B0 G0 G1
    obtain ⟨j,hj,rfl,hr0,hr1,hrb⟩:=hrel
    by_cases hlt:j < xs.length
    · obtain ⟨s,hs⟩:=get_lt (show j < ss.length by rw [← Hl.out];exact hlt)
      obtain ⟨hsc,g,hxj,hgB,hsg⟩:=HX.out.2.1.2 j s hs
      obtain ⟨pb,po,hAA,hpb,hcell⟩:=HX.out.1.at (Sn.elV_get hxj)
      subst hAA
      have hgw:g < wr.heap.size:=by have:=hrb.size;omega
      have hpw:pb < wr.heap.size:=by have:=hrb.size;omega
      have hcr:wr.cell? ⟨pb,po + j,none⟩ = some (.pointer (some ⟨g,0,none⟩)):=(hrb.cell (p:=⟨pb,po + j,none⟩) (by show pb < _;omega)).trans hcell
      have hsr:=hsg.below hrb (by omega)
      have hz:=hr1.2.2
      have q0:∀ w',Below wr.heap.size wr w'→w'.cell? ⟨w.heap.size + 1,0,none⟩ = some (.int .u64 ((togF (ss.take j)).c:Int)):=fun w' hb => (hr1.below hb hz).1.1
      have q1:∀ w',Below wr.heap.size wr w'→w'.cell? ⟨w.heap.size + 1,1,none⟩ = some (.int .u64 ((togF (ss.take j)).s:Int)):=fun w' hb => (hr1.below hb hz).1.2.1
      have q2:∀ w',Below wr.heap.size wr w'→w'.cell? ⟨w.heap.size + 1,2,none⟩ = some (.int .u64 ((togF (ss.take j)).lo:Int)):=fun w' hb => (hr1.below hb hz).1.2.2.1
      have q3:∀ w',Below wr.heap.size wr w'→w'.cell? ⟨w.heap.size + 1,3,none⟩ = some (.int .u64 ((togF (ss.take j)).hi:Int)):=fun w' hb => (hr1.below hb hz).1.2.2.2
      have f0:∀ w',Below wr.heap.size wr w'→w'.frozen? ⟨w.heap.size + 1,0,none⟩ = false:=fun w' hb => (hr1.below hb hz).2.1.1
      have f1:∀ w',Below wr.heap.size wr w'→w'.frozen? ⟨w.heap.size + 1,1,none⟩ = false:=fun w' hb => (hr1.below hb hz).2.1.2.1
      have f2:∀ w',Below wr.heap.size wr w'→w'.frozen? ⟨w.heap.size + 1,2,none⟩ = false:=fun w' hb => (hr1.below hb hz).2.1.2.2.1
      have f3:∀ w',Below wr.heap.size wr w'→w'.frozen? ⟨w.heap.size + 1,3,none⟩ = false:=fun w' hb => (hr1.below hb hz).2.1.2.2.2
      have n0:∀ w',Below wr.heap.size wr w'→w'.cell? ⟨g,4,none⟩ = some (.int .u64 (s.c:Int)):=fun w' hb => (hsr.below hb hgw).1
      have n1:∀ w',Below wr.heap.size wr w'→w'.cell? ⟨g,5,none⟩ = some (.int .u64 (s.s:Int)):=fun w' hb => (hsr.below hb hgw).2.1
      have n2:∀ w',Below wr.heap.size wr w'→w'.cell? ⟨g,6,none⟩ = some (.int .u64 (s.lo:Int)):=fun w' hb => (hsr.below hb hgw).2.2.1
      have n3:∀ w',Below wr.heap.size wr w'→w'.cell? ⟨g,7,none⟩ = some (.int .u64 (s.hi:Int)):=fun w' hb => (hsr.below hb hgw).2.2.2
      have HC:Hid ((togF (ss.take j)).c + s.c < 18446744073709551616∧s.c≠0):=Lib.hid ⟨by
        have h1:=togF_take hs
        have h2:(togF (ss.take (j + 1))).c = (togF (ss.take j)).c + s.c:=by rw [h1,Tr.tog_c]
        have h3:=togF_c (ss.take (j + 1))
        have h4:=togF_c ss
        have h5:=sum_take_le (ss.map (·.c)) (j + 1)
        rw [← List.map_take] at h5
        have:=HX.out.2.2
        omega,hsc⟩
      have HR:=Lib.hid (And.intro hr0 (And.intro hr1 hrb))
      have HT:=Lib.hid (togF_take hs)
      have hb0:Below wr.heap.size wr wr:=Below.refl _ _
      have hb1:Below wr.heap.size wr wr.drew:=(Below.refl _ _).drew
      clear hr0 hr1 hrb hsr hsg hs hsc hxj hcell
      go_wp2_with fail
      go_region_with ((go_at_call 209;refine (together_c (togF (ss.take j)) s _ HC.out.2 HC.out.1).mono ?_;rintro e w3 ⟨rfl,hb3⟩;have hB3:=Below.andThen (show Below wr.heap.size wr _ by ((repeat first | refine bD ?_ | with_reducible refine bN ?_ | refine bA ?_ | refine bS ?_);first | exact bR | assumption | exact bN bR | exact bN (bN bR))) hb3;clear hb3;have k0:=q0 _ hB3;have k1:=q1 _ hB3;have k2:=q2 _ hB3;have k3:=q3 _ hB3;have k4:=f0 _ hB3;have k5:=f1 _ hB3;have k6:=f2 _ hB3;have k7:=f3 _ hB3))
      all_goals (
        have HB:=Lib.hid hB3
        clear q0 q1 q2 q3 f0 f1 f2 f3 n0 n1 n2 n3 k0 k1 k2 k3 k4 k5 k6 k7 hB3 hb0 hb1
        go_wp2_with fail
        go_roundw
        case rel =>
          have h1:=(HR.out.2.1.below HB.out hz).set (Tr.tog (togF (ss.take j)) s).c (Tr.tog (togF (ss.take j)) s).s (Tr.tog (togF (ss.take j)) s).lo (Tr.tog (togF (ss.take j)) s).hi
          have h0:=((((HR.out.1.below HB.out (by omega)).other ⟨w.heap.size + 1,0,none⟩ (.int .u64 ((Tr.tog (togF (ss.take j)) s).c:Int)) (by simp)).other ⟨w.heap.size + 1,1,none⟩ (.int .u64 ((Tr.tog (togF (ss.take j)) s).s:Int)) (by simp)).other ⟨w.heap.size + 1,2,none⟩ (.int .u64 ((Tr.tog (togF (ss.take j)) s).lo:Int)) (by simp)).other ⟨w.heap.size + 1,3,none⟩ (.int .u64 ((Tr.tog (togF (ss.take j)) s).hi:Int)) (by simp)
          have h2:=HR.out.2.2.trans (HB.out.mono HR.out.2.2.size)
          exact ⟨j + 1,by omega,by go_num,h0,by rw [HT.out];exact h1,by ((repeat first | refine bD ?_ | with_reducible refine bN ?_ | refine bA ?_ | refine bS ?_);first | exact bR | assumption | exact bN bR | exact bN (bN bR))⟩
        case measure => simp [intOf];omega)
    · have hjx:j = xs.length:=by omega
      obtain ⟨⟨q0,q1,q2,q3⟩,-⟩:=hr1
      obtain ⟨⟨r0,r1,r2,r3⟩,⟨f0,f1,f2,f3⟩,hz⟩:=hr0
      have HR:=Lib.hid (And.intro hrb (show Q4 wr w.heap.size Tr.s0 from ⟨⟨r0,r1,r2,r3⟩,⟨f0,f1,f2,f3⟩,hz⟩))
      have HT:Hid (togF (ss.take j) = togF ss):=Lib.hid (by rw [List.take_of_length_le (by rw [← Hl.out];omega)])
      clear hrb hjx
      go_wp2_with fail
      have hq:=(HR.out.2.set (togF (ss.take j)).c (togF (ss.take j)).s (togF (ss.take j)).lo (togF (ss.take j)).hi).1
      obtain ⟨k0,k1,k2,k3⟩:=hq
      refine bodyPost_ret (v:=sumsV (togF (ss.take j))) (by simp [results,Tryz.results168,go_sem,k0,k1,k2,k3]) rfl ?_
      have hb:=HR.out.1
      exact ⟨by rw [HT.out],by ((repeat first | refine bD ?_ | with_reducible refine bN ?_ | refine bA ?_ | refine bS ?_);first | exact bR | assumption | exact bN bR | exact bN (bN bR))⟩
/-! ### Leaf -/
set_option maxRecDepth 100000 in
theorem nLeaf_raw (us:List Nat) (A:Option Addr) (c B:Nat) (v:Nat) (w:World) (hB:B≤w.heap.size) (hA:Pts w B A us) (h1:1≤us.length) (h16:us.length≤16) :
    Calls Tryz.prog 101 #[.slice A us.length c,.int .u64 (v:Int)] w fun e w' => ∃ g h d,e = .returned (.tuple #[.pointer (some ⟨g,0,none⟩),.int .i64 0]) ∧
      w'.heap[g]? = some (.cells #[.int .i64 (-1),.slice (some ⟨h,0,none⟩) us.length d,.int .u64 (v:Int),.pointer none,.int .u64 1,.int .u64 (v:Int),.int .u64 (v:Int),.int .u64 (v:Int)] 201 (0,0)) ∧
      w.heap.size≤g∧g≠h∧Own w' w.heap.size (.slice (some ⟨h,0,none⟩) us.length d) us∧Below w.heap.size w w':=by
  have H1:=Lib.hid (right_yes A us.length c w h1 h16)
  have H2:=Lib.hid (clone_pts us A c B w hB hA (by intro h;simp [h] at h1) (by omega))
  clear hA h1 h16
  go_enter Tryz.func101,Tryz.ntmps101
  go_wp2_with (first
    | (go_at_call 150;refine H1.out.mono ?_;rintro e w' ⟨rfl,rfl⟩)
    | (go_at_call 146;refine H2.out.mono ?_;rintro e w2 ⟨h,d,rfl,ho,hb⟩))
  go_ret2
  have hh:=(ho.2.lt h rfl)
  exact ⟨w2.heap.size,h,d,rfl,by (first | (refine heap_at _ _ _ ?_;simp;done) | (refine heap_past _ (heap_at _ _ _ ?_);simp;done) | (refine heap_past _ (heap_past _ (heap_at _ _ _ ?_));simp;done) | (refine heap_past _ (heap_past _ (heap_past _ (heap_at _ _ _ ?_)));simp;done)),hb.size,by omega,ho.below (below_alloc _ _) (Nat.le_refl _),hb.trans ((below_alloc w2 _).mono hb.size)⟩
theorem nLeaf_c (us:List Nat) (A:Option Addr) (c B:Nat) (v:Nat) (w:World) (hB:B≤w.heap.size) (hA:Pts w B A us) (h1:1≤us.length) (h16:us.length≤16) (hv:v < 18446744073709551616) :
    Calls Tryz.prog 101 #[.slice A us.length c,.int .u64 (v:Int)] w fun e w' => ∃ g,e = .returned (.tuple #[.pointer (some ⟨g,0,none⟩),.int .i64 0])∧Node w' w'.heap.size us.length (.ent g us v)∧w.heap.size≤g∧Below w.heap.size w w':=by
  refine (nLeaf_raw us A c B v w hB hA h1 h16).mono ?_
  rintro e w' ⟨g,h,d,rfl,hh,hg,_,ho,hb⟩
  obtain ⟨A',c',hv',hp⟩:=ho.pts
  cases hv'
  exact ⟨g,rfl,⟨.ent g us v h1 h16 rfl hA.1 hv,.ent g us v (nd_at hp hh (Nat.le_refl _) (Array.getElem?_eq_some_iff.1 hh).1) ⟨_,_,hh⟩⟩,hg,hb⟩
/-! ### Kid -/
theorem nKid_ent {w:World} {B g:Nat} {lev:Int} {pre:List Nat} {v:Nat} {s:S4} (h:NdAt w B g lev pre v none s) (a:Int) :
    Calls Tryz.prog 122 #[.pointer (some ⟨g,0,none⟩),.int .i64 a] w fun e w' => e = .returned (.pointer none)∧∃ n,w' = w.drewN n:=by
  obtain ⟨-,-,-,-,h3,-⟩:=h
  go_enter Tryz.func122,Tryz.ntmps122
  go_wp2_with (go_at_call 172;refine (Sn.sGet_nil a _).mono ?_;rintro e w' ⟨rfl,rfl⟩)
  go_ret
  exact ⟨rfl,0,rfl⟩
theorem nKid_br {w:World} {B B' g b k:Nat} {lev:Int} {pre:List Nat} {v:Nat} {s:S4} {L:Sn.Al} (h:NdAt w B g lev pre v (some ⟨b,0,none⟩) s) (ha:Sn.At w B' b k L) (a:Int) (x:Option Addr) (hx:(Sl.get L a).getD none = x) :
    Calls Tryz.prog 122 #[.pointer (some ⟨g,0,none⟩),.int .i64 a] w fun e w' => e = .returned (.pointer x)∧∃ n,w' = w.drewN n:=by
  obtain ⟨-,-,-,-,h3,-⟩:=h
  have H:=Lib.hid (Sn.sGet_c ha.1 ha.2 a x _ hx rfl)
  clear ha hx
  go_enter Tryz.func122,Tryz.ntmps122
  go_wp2_with (go_at_call 172;refine H.out.mono ?_;rintro e w' ⟨rfl,n,rfl⟩)
  go_ret
  exact ⟨rfl,_,rfl⟩
theorem nKid_c {w:World} {B k:Nat} {t:T} (h:Mem w B k t) (a:Int) (x:Option Addr) (hx:(Sl.get (kidL t.ks) a).getD none = x) :
    Calls Tryz.prog 122 #[.pointer (some ⟨t.blk,0,none⟩),.int .i64 a] w fun e w' => e = .returned (.pointer x)∧∃ n,w' = w.drewN n:=by
  cases h with
  | ent g p v h =>
    have:x = none:=by rw [← hx];rfl
    subst this
    exact nKid_ent h a
  | br g l pre ks b h ha hk => exact nKid_br h ha a x hx
/-! ### Prefix,Entry -/
theorem nPrefix_nil (w:World):Calls Tryz.prog 121 #[.pointer none] w fun e w' => e = .returned (.slice none 0 0)∧w = w':=by
  go_enter Tryz.func121,Tryz.ntmps121
  go_wp2
  go_ret
  exact ⟨rfl,rfl⟩
theorem nPrefix_c {w:World} {B g:Nat} {lev:Int} {pre:List Nat} {v:Nat} {kp:Option Addr} {s:S4} (h:NdAt w B g lev pre v kp s) (hB:B≤w.heap.size) (hne:pre≠[]) (hl:pre.length≤1000000) :
    Calls Tryz.prog 121 #[.pointer (some ⟨g,0,none⟩)] w fun e w' => ∃ h d,e = .returned (.slice (some ⟨h,0,none⟩) pre.length d)∧Own w' w.heap.size (.slice (some ⟨h,0,none⟩) pre.length d) pre∧Below w.heap.size w w':=by
  obtain ⟨-,⟨A,c,hp,h1⟩,-⟩:=h
  have H2:=Lib.hid (clone_pts pre A c B w hB hp hne hl)
  clear hp hne hl
  go_enter Tryz.func121,Tryz.ntmps121
  go_wp2_with (go_at_call 146;refine H2.out.mono ?_;rintro e w2 ⟨h,d,rfl,ho,hb⟩)
  go_ret
  exact ⟨h,d,rfl,ho,hb⟩
abbrev entryV (A:Option Addr) (n c v:Nat):Value:=.agg #[.slice A n c,.int .u64 (v:Int)]
set_option maxRecDepth 100000 in
theorem nEntry_br {w:World} {B g l:Nat} {pre:List Nat} {v:Nat} {kp:Option Addr} {s:S4} (h:NdAt w B g (l:Int) pre v kp s) (hB:B≤w.heap.size) :
    Calls Tryz.prog 88 #[.pointer (some ⟨g,0,none⟩)] w fun e w' => e = .returned (.tuple #[entryV none 0 0 0,.bool false])∧Below w.heap.size w w':=by
  obtain ⟨hg,-,h0,-⟩:=h
  have hgw:g < w.heap.size:=by omega
  have hne:((l:Int) != -1) = true:=by rw [bne_iff_ne];omega
  go_enter Tryz.func88,Tryz.ntmps88
  go_wp2
  refine bodyPost_ret (v:=.tuple #[entryV none 0 0 0,.bool false]) (by simp [results,Tryz.results88,go_sem]) rfl ?_
  exact ⟨rfl,by ((repeat first | refine bD ?_ | with_reducible refine bN ?_ | refine bA ?_ | refine bS ?_);first | exact bR | assumption | exact bN bR | exact bN (bN bR))⟩
theorem own_set {w:World} {base:Nat} {v:Value} {us:List Nat} (h:Own w base v us) {a:Addr} (ha:v.ownBlock≠some a.block) (u:Value):Own (w.setCell a u) base v us :=
  ⟨h.1,ownsRow_setCell_other h.2 ha u⟩
theorem cells2 (w:World) (x y:Value) (t:TypeId):(w.alloc (.cells #[x,y] t)).cell? ⟨w.heap.size,0,none⟩ = some x∧(w.alloc (.cells #[x,y] t)).cell? ⟨w.heap.size,1,none⟩ = some y∧(w.alloc (.cells #[x,y] t)).frozen? ⟨w.heap.size,0,none⟩ = false∧(w.alloc (.cells #[x,y] t)).frozen? ⟨w.heap.size,1,none⟩ = false :=
  ⟨by rw [World.cell?_alloc_new];rfl,by rw [World.cell?_alloc_new];rfl,frozen_of_row _ _ _ _ t (heap_at w _ _ rfl),frozen_of_row _ _ _ _ t (heap_at w _ _ rfl)⟩
set_option maxRecDepth 100000 in
theorem nEntry_ent {w:World} {B g:Nat} {pre:List Nat} {v:Nat} {kp:Option Addr} {s:S4} (h:NdAt w B g (-1) pre v kp s) (hB:B≤w.heap.size) (hne:pre≠[]) (hl:pre.length≤1000000) :
    Calls Tryz.prog 88 #[.pointer (some ⟨g,0,none⟩)] w fun e w' => ∃ h d,e = .returned (.tuple #[entryV (some ⟨h,0,none⟩) pre.length d v,.bool true])∧Own w' w.heap.size (.slice (some ⟨h,0,none⟩) pre.length d) pre∧Below w.heap.size w w':=by
  obtain ⟨hg,⟨A,c,hp,h1⟩,h0,h2,-⟩:=h
  have hgw:g < w.heap.size:=by omega
  obtain ⟨e0,e1,f0,f1⟩:=cells2 w (.slice none 0 0) (.int .u64 0) 57
  have hbel:=below_alloc w (.cells #[.slice none 0 0,.int .u64 0] 57)
  have hsz:(w.alloc (.cells #[.slice none 0 0,.int .u64 0] 57)).heap.size = w.heap.size + 1:=by simp
  have HP:=Lib.hid (And.intro hp (And.intro hne hl))
  have hd:((-1:Int) != -1) = false:=by decide
  clear hp hne hl
  go_enter Tryz.func88,Tryz.ntmps88
  go_wp2_with fail
  have q1:∀ w',Below w.heap.size w w'→w'.cell? ⟨g,1,none⟩ = some (.slice A pre.length c):=fun w' hb => (hb.cell (p:=⟨g,1,none⟩) hgw).trans h1
  have q2:∀ w',Below w.heap.size w w'→w'.cell? ⟨g,2,none⟩ = some (.int .u64 (v:Int)):=fun w' hb => (hb.cell (p:=⟨g,2,none⟩) hgw).trans h2
  have Hz:=Lib.hid hsz
  have HE:=Lib.hid (And.intro e0 (And.intro e1 (And.intro f0 f1)))
  clear hsz e0 e1 f0 f1 h0 h1 h2
  generalize w.alloc _ = W1 at *
  go_region_held3 (fun w' => Below w.heap.size w w') (((repeat first | refine bD ?_ | with_reducible refine bN ?_ | refine bA ?_ | refine bS ?_);first | exact bR | assumption | exact bN bR | exact bN (bN bR)))
    ((first
      | (go_at_call 146;refine (clone_pts pre A c B _ (by have:=Hz.out;first | omega | (simp;omega)) (HP.out.1.below' (by ((repeat first | refine bD ?_ | with_reducible refine bN ?_ | refine bA ?_ | refine bS ?_);first | exact bR | assumption | exact bN bR | exact bN (bN bR))) hB) HP.out.2.1 HP.out.2.2).mono ?_;rintro e w2 ⟨h,d,rfl,ho,hb⟩;have hb':=Below.trans (show Below w.heap.size w _ by ((repeat first | refine bD ?_ | with_reducible refine bN ?_ | refine bA ?_ | refine bS ?_);first | exact bR | assumption | exact bN bR | exact bN (bN bR))) (hb.mono (by have:=Hz.out;first | omega | (simp;omega)));have k0:=(hb.cell (p:=⟨w.heap.size,0,none⟩) (by have:=Hz.out;first | (show w.heap.size < _;omega) | (simp;omega))).trans HE.out.1;have k1:=(hb.cell (p:=⟨w.heap.size,1,none⟩) (by have:=Hz.out;first | (show w.heap.size < _;omega) | (simp;omega))).trans HE.out.2.1;have k2:=(hb.frozen (p:=⟨w.heap.size,0,none⟩) (by have:=Hz.out;first | (show w.heap.size < _;omega) | (simp;omega))).trans HE.out.2.2.1;have k3:=(hb.frozen (p:=⟨w.heap.size,1,none⟩) (by have:=Hz.out;first | (show w.heap.size < _;omega) | (simp;omega))).trans HE.out.2.2.2;have HO:=Lib.hid (And.intro ho hb);clear ho hb)))
  have hsW:w.heap.size < w2.heap.size:=by have:=HO.out.2.size;have:=Hz.out;simp at *;omega
  go_wp2_with fail
  have z0:((w2.setCell ⟨w.heap.size,0,none⟩ (.slice (some ⟨h,0,none⟩) pre.length d)).setCell ⟨w.heap.size,1,none⟩ (.int .u64 (v:Int))).cell? ⟨w.heap.size,0,none⟩ = some (.slice (some ⟨h,0,none⟩) pre.length d):=by
    rw [World.cell?_setCell_other _ _ _ _ (by simp)];exact World.cell?_setCell_same _ _ _ k0
  have z1:((w2.setCell ⟨w.heap.size,0,none⟩ (.slice (some ⟨h,0,none⟩) pre.length d)).setCell ⟨w.heap.size,1,none⟩ (.int .u64 (v:Int))).cell? ⟨w.heap.size,1,none⟩ = some (.int .u64 (v:Int)) :=
    World.cell?_setCell_same _ _ _ ((World.cell?_setCell_other _ _ _ _ (by simp)).trans k1)
  refine bodyPost_ret (v:=.tuple #[entryV (some ⟨h,0,none⟩) pre.length d v,.bool true]) (by simp [results,Tryz.results88,go_sem,z0,z1]) rfl ?_
  have hh:=(HO.out.1.2.lt h rfl).1
  have hne:h≠w.heap.size:=by have:=Hz.out;simp at hh;omega
  refine ⟨h,d,rfl,own_set (own_set (HO.out.1.mono (by have:=Hz.out;simp;omega)) ?_ _) ?_ _,by ((repeat first | refine bD ?_ | with_reducible refine bN ?_ | refine bA ?_ | refine bS ?_);first | exact bR | assumption | exact bN bR | exact bN (bN bR))⟩
  · simpa [Value.ownBlock] using hne
  · simpa [Value.ownBlock] using hne
/-! ### Covers -/
theorem nCovers_nil (A:Option Addr) (n c:Nat) (w:World):Calls Tryz.prog 174 #[.pointer none,.slice A n c] w fun e w' => e = .returned (.bool false)∧w = w':=by
  go_enter Tryz.func174,Tryz.ntmps174
  go_wp2
  go_ret
  exact ⟨rfl,rfl⟩
theorem nCovers_c {w:World} {B g:Nat} {lev:Int} {pre:List Nat} {v:Nat} {kp:Option Addr} {s:S4} (h:NdAt w B g lev pre v kp s) (h1':1≤pre.length) (hpl:pre.length≤16) (A:Option Addr) (us:List Nat) (c:Nat) (hu:Pts w B A us) (hl:pre.length = us.length) (r:Bool) (hr:decide (Z.part pre us≤lev) = r) :
    Calls Tryz.prog 174 #[.pointer (some ⟨g,0,none⟩),.slice A us.length c] w fun e w' => e = .returned (.bool r)∧w = w':=by
  obtain ⟨-,⟨A0,c0,hp,h1⟩,h0,-⟩:=h
  have H:=Lib.hid (part_yes A0 A c0 c pre us B w hp hu h1' hpl hl)
  generalize Z.part pre us = m at *
  clear hp hu hl
  go_enter Tryz.func174,Tryz.ntmps174
  go_wp2_with (go_at_call 152;refine H.out.mono ?_;rintro e w' ⟨rfl,rfl⟩)
  go_ret
  exact ⟨rfl,rfl⟩
end Go.Proofs.YtkeepngaaleakaaGreatDoor
