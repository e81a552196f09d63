import Derived.Test.YtkeepngaaleakaaGreatDoorMXk
namespace Go.Proofs.YtkeepngaaleakaaGreatDoor
open Go.ChangeShapes Go.WideShapes Go.ChangeAt Go.RowKit
open Tr (T S4 Ent Tri KL)
theorem Tr.two_list {u:Tri} {x y:T} (ho:u.o = none) (ha:u.a = some x) (hb:u.b = some y):u.list = [x,y]:=by
  unfold Tr.Tri.list
  rw [ho,ha,hb]
  rfl
theorem Tr.two_lvl {k:Nat} {u:Tri} {x y:T} (hx:Tr.Wf k x) (ho:u.o = none) (ha:u.a = some x) (hb:u.b = some y):Tr.lvlT u.list = Tr.lvl x y:=by
  rw [Tr.two_list ho ha hb]
  show max (max (max (max (-1) (Z.part x.pre x.pre)) ((x.lv:Int) - 1)) (Z.part x.pre y.pre)) ((y.lv:Int) - 1) = max (max (Z.part x.pre y.pre) ((x.lv:Int) - 1)) ((y.lv:Int) - 1)
  rw [Z.part_same x.pre hx.ok]
  omega
section
variable {ρ:Type} (B k Mx:Nat) (R:Tri→ρ→Prop) (Inv:List ρ→World→(Nat→Prop)→Prop) (kv tv xv:Value) (w:World) (F0:Nat→Prop) (t0:Tri)
structure DownS (u:Tri) (us:List ρ) (S:List FmS) (D:Option Addr) (d:Nat) (F:Nat→Prop) (wr:World) (m:Nat):Prop where
  thr:ThrS B k Inv kv tv xv w F0 us S D d u F wr
  hu:TriN w B k u
  ho:u.o = none
  ok:Tr.TriOk k (roomS S) u
  pend:PendS R t0 u S us
  sum:us.length + Tr.wgt3 u + wSS S + S.length≤Mx
  cnt:m = 4 * (Tr.wgt3 u + wSS S) + 2 * S.length
structure NextS (us:List ρ) (S:List FmS) (D:Option Addr) (d:Nat) (β:Tri) (F:Nat→Prop) (wr:World) (m:Nat):Prop where
  thr:ThrS B k Inv kv tv xv w F0 us S D d β F wr
  done:DoneS R t0 S us
  sum:us.length + wSS S + S.length≤Mx
  cnt:m = 4 * wSS S + 2 * S.length + 1
def EndL (N:Tri→Prop) (Stop:World→Prop) (e:Ending) (w':World):Prop:=e = .returned (.tuple #[])∧∃ F':Nat→Prop,Foot F0 w w'∧((∃ x,R t0 x∧Inv [x] w' F'∧∀ b,F' b→F0 b∨w.heap.size≤b)∨(Stop w'∧N t0))
end
section
variable {ρ:Type} {fk ft:Nat} {lk lt:Array Value} {lv:Option (Nat × Array Value)} {B k Mx:Nat} {kf:Tri→Bool} {R:Tri→ρ→Prop} {N:Tri→Prop} {Inv:List ρ→World→(Nat→Prop)→Prop} {Stop:World→Prop} {kv tv xv:Value} {w w1 w2:World} {F0 F:Nat→Prop} {t0:Tri} {us:List ρ} {S:List FmS} {D:Option Addr} {d m:Nat} {β u:Tri} {f:FmS}
theorem roomS_le (h:LevS2 S):roomS S≤64:=by have:=h.room;omega
theorem NextS.end (h:NextS B k Mx R Inv kv tv xv w F0 t0 us [] D d β F w1 m):EndL R Inv w F0 t0 N Stop (.returned (.tuple #[])) w1:=by
  obtain ⟨x,rfl,hr⟩:=h.done
  exact ⟨rfl,F,h.thr.foot,.inl ⟨x,hr,h.thr.inv,fun b hb => (h.thr.f0 b hb).imp id fun c => by omega⟩⟩
theorem DownS.told (hv:VisitL fk lk ft lt lv B k Mx kf R N Inv Stop) (hF0:∀ b,F0 b→b < w.heap.size∧B≤b) (hB:B≤w.heap.size) (h:DownS B k Mx R Inv kv tv xv w F0 t0 u us S D d F w1 m) (hb:Below w1.heap.size w1 w2) (ht:TermS kf u) :
    Calls Tryz.prog ft (#[prS u] ++ lt) w2 fun e w3 => (e = .returned (.bool true)∧∃ us' F' m',m' < m∧NextS B k Mx R Inv kv tv xv w F0 t0 us' S D d u F' w3 m')∨(e = .returned (.bool false)∧EndL R Inv w F0 t0 N Stop (.returned (.tuple #[])) w3):=by
  have s2:=h.thr.below hv (fun b hb => (hF0 b hb).1) hb
  have hB2:=s2.old (fun b hb => (hF0 b hb).2) hB
  have hwp:=Tr.wgt3_pos u
  have hsum:=h.sum
  refine (hv.tell us w2 F u s2.inv (h.hu.below hB2 (Nat.le_refl _) (Nat.le_refl _)) h.ho ht (Nat.le_trans hB hB2.size) (by omega)).mono ?_
  rintro e w3 ⟨F',hF',hfo,⟨rfl,⟨x,hr,hI⟩,-⟩ | ⟨rfl,hst,hn⟩⟩
  · refine .inl ⟨rfl,_,F',_,?_,s2.move (fun b hb => (hF0 b hb).1) hfo hI hF',h.pend.done hr,?_,rfl⟩
    · rw [h.cnt];omega
    · simp only [List.length_append,List.length_singleton];omega
  · exact .inr ⟨rfl,rfl,F',s2.foot.trans hfo fun b hb => (s2.f0 b hb).imp id fun c => by omega,.inr ⟨hst,h.pend.fail hv.up s2.fs hn⟩⟩
theorem DownS.push {l q d5:Nat} {D5:Option Addr} {wX:World} (hv:VisitL fk lk ft lt lv B k Mx kf R N Inv Stop) (hF0:∀ b,F0 b→b < w.heap.size) (h:DownS B k Mx R Inv kv tv xv w F0 t0 u us S D d F w1 m) (hne:u.list≠[]) (hl:Tr.lvlT u.list = (l:Int)) (hbX:Below w1.heap.size w1 wX) (hq0:w1.heap.size≤q) (hqX:wX.heap[q]? = some (.cells (stS u l (.slice none 0 0)) 245 (0,0)))
    (hgr:wX.grownBy w2 (Value.slice D S.length d).ownBlock) (hrow:SkRow w2 (w.heap.size + 2) (.slice D5 (S.length + 1) d5) (S.reverse.map FmS.q ++ [q])) (hob:(Value.slice D5 (S.length + 1) d5).ownBlock = (Value.slice D S.length d).ownBlock∨(Value.slice D5 (S.length + 1) d5).ownBlock = some wX.heap.size) :
    ∃ m',m' < m∧NextS B k Mx R Inv kv tv xv w F0 t0 us (⟨q,l,u,[],none,0⟩ :: S) D5 d5 u F w2 m':=by
  obtain ⟨c0,hfr,hln,hw⟩:=frame_side h.ok (roomS_le h.thr.lev) hne hl
  have hsum:=h.sum
  have e:Tr.w3M (u.rem l (nextP [])) = Tr.w3M (u.rem l 0):=rfl
  refine ⟨_,?_,h.thr.push hv hF0 hbX hq0 hqX hgr hrow hob hfr h.hu h.ho hne hln,⟨us,[],(List.append_nil _).symm,All2.nil R,h.pend⟩,?_,rfl⟩
  · rw [h.cnt,wSS_cons]
    show 4 * (Tr.w3M (u.rem l (nextP [])) + wSS S) + 2 * (S.length + 1) + 1 < _
    omega
  · rw [wSS_cons]
    show us.length + (Tr.w3M (u.rem l (nextP [])) + wSS S) + (S.length + 1)≤Mx
    omega
theorem NextS.found {a d5:Nat} {D5:Option Addr} (hv:VisitL fk lk ft lt lv B k Mx kf R N Inv Stop) (hF0:∀ b,F0 b→b < w.heap.size) (h:NextS B k Mx R Inv kv tv xv w F0 t0 us (f :: S) D d β F w1 m) (hrem:f.t.rem f.l (nextP f.P) = (a,u) :: f.t.rem f.l (a + 1)) (ha:a < 65536) (hq:w2.heap[f.q]? = some (.cells (stS f.t f.l (.slice D5 (f.P.length + 1) d5)) 245 (0,0)))
    (hrow:PsRow w2 (w.heap.size + 2) (.slice D5 (f.P.length + 1) d5) (f.P ++ [(a,u)])) (hob:(Value.slice D5 (f.P.length + 1) d5).ownBlock = f.v.ownBlock∨∃ b,(Value.slice D5 (f.P.length + 1) d5).ownBlock = some b∧w1.heap.size≤b) (hfo:Foot (fun b => b = f.q∨f.v.ownBlock = some b) w1 w2) (hk:Kp k w1 w2) :
    ∃ m',m' < m∧DownS B k Mx R Inv kv tv xv w F0 t0 u us (⟨f.q,f.l,f.t,f.P ++ [(a,u)],D5,d5⟩ :: S) D d F ((w2.setCell ⟨w.heap.size + 1,0,none⟩ (.pointer (rootP u.a))).setCell ⟨w.heap.size + 1,1,none⟩ (.pointer (rootP u.b))) m':=by
  have hfs:=h.thr.fs f List.mem_cons_self
  obtain ⟨p1,p2,-,-,-,p6⟩:=hfs.place (x:=(a,u)) (n:=nextP f.P) (by rw [hrem];exact List.mem_cons_self)
  have ht:=h.thr.found hv hrem ha hq hrow hob hfo hk
  have hsum:=h.sum
  have hnx:nextP (f.P ++ [((a,u):PlS)]) = a + 1:=nextP_snoc _ _
  obtain ⟨us',xs,e1,e2,e3⟩:=h.done
  have hw:Tr.w3M (f.t.rem f.l (nextP f.P)) = Tr.wgt3 u + Tr.w3M (f.t.rem f.l (a + 1)):=by rw [hrem,Tr.w3M_cons]
  rw [wSS_cons] at hsum
  simp only [List.length_cons] at hsum
  refine ⟨_,?_,ht.write hv hF0 u,p1,p6,p2,⟨f.P,a,us',xs,rfl,e1,e2,e3⟩,?_,rfl⟩
  · rw [h.cnt,wSS_cons,wSS_cons]
    show 4 * (Tr.wgt3 u + (Tr.w3M (f.t.rem f.l (nextP (f.P ++ [((a,u):PlS)]))) + wSS S)) + 2 * (S.length + 1) < 4 * (Tr.w3M (f.t.rem f.l (nextP f.P)) + wSS S) + 2 * (S.length + 1) + 1
    rw [hnx]
    omega
  · rw [wSS_cons]
    show us.length + Tr.wgt3 u + (Tr.w3M (f.t.rem f.l (nextP (f.P ++ [((a,u):PlS)]))) + wSS S) + (S.length + 1)≤Mx
    rw [hnx]
    omega
theorem NextS.nothing (hv:VisitL fk lk ft lt lv B k Mx kf R N Inv Stop) (hF0:∀ b,F0 b→b < w.heap.size) (h:NextS B k Mx R Inv kv tv xv w F0 t0 us (f :: S) D d β F w1 m) (hb:Below w1.heap.size w1 w2) :
    ThrS B k Inv kv tv xv w F0 us (f :: S) D d tri0 F ((w2.setCell ⟨w.heap.size + 1,0,none⟩ (.pointer none)).setCell ⟨w.heap.size + 1,1,none⟩ (.pointer none)):=(h.thr.below hv hF0 hb).write hv hF0 tri0
theorem NextS.popped {us' xs:List ρ} {x:ρ} {F':Nat→Prop} {g:Nat} (h:NextS B k Mx R Inv kv tv xv w F0 t0 us (f :: S) (some ⟨g,0,none⟩) d β F w1 m) (ht:ThrS B k Inv kv tv xv w F0 (us' ++ [x]) (f :: S) (some ⟨g,0,none⟩) d tri0 F' w2) (hu:us = us' ++ xs) (hr:R f.t x) (hp:PendS R t0 f.t S us'):∃ us' F' m',m' < m∧NextS B k Mx R Inv kv tv xv w F0 t0 us' S (some ⟨g,0,none⟩) d tri0 F' w2 m':=by
  have hsum:=h.sum
  rw [wSS_cons,hu] at hsum
  simp only [List.length_cons,List.length_append] at hsum
  refine ⟨_,F',_,?_,ht.pop,hp.done hr,?_,rfl⟩
  · rw [h.cnt,wSS_cons]
    show _ < 4 * _ + 2 * (S.length + 1) + 1
    omega
  · simp only [List.length_append,List.length_singleton]
    omega
theorem NextS.leaven {g:Nat} (hv:VisitL fk lk ft lt none B k Mx kf R N Inv Stop) (hF0:∀ b,F0 b→b < w.heap.size∧B≤b) (hB:B≤w.heap.size) (h:NextS B k Mx R Inv kv tv xv w F0 t0 us (f :: S) (some ⟨g,0,none⟩) d β F w1 m) (ht:ThrS B k Inv kv tv xv w F0 us (f :: S) (some ⟨g,0,none⟩) d tri0 F w2) (hrem:f.t.rem f.l (nextP f.P) = []):∃ us' F' m',m' < m∧NextS B k Mx R Inv kv tv xv w F0 t0 us' S (some ⟨g,0,none⟩) d tri0 F' w2 m':=by
  obtain ⟨us',xs,e1,e2,e3⟩:=h.done
  have hB2:=ht.old (fun b hb => (hF0 b hb).2) hB
  have hfs:=ht.fs f List.mem_cons_self
  obtain ⟨x,hr,hI⟩:=hv.leaven rfl us' xs w2 F f (by rw [← e1];exact ht.inv) ⟨hfs.ok,hfs.nt.below hB2 (Nat.le_refl _) (Nat.le_refl _),hfs.ho,hfs.rem,hfs.n5,hfs.n6,hfs.ne⟩ hrem e2
  exact h.popped (us':=us') (x:=x) (F':=F) ⟨hI,ht.f0,ht.foot,ht.box,ht.atb,ht.row,ht.rF,ht.fs,ht.fc,ht.fF,ht.dis,ht.lev⟩ e1 hr e3
theorem NextS.leave {fl g:Nat} {ll:Array Value} (hv:VisitL fk lk ft lt (some (fl,ll)) B k Mx kf R N Inv Stop) (hF0:∀ b,F0 b→b < w.heap.size∧B≤b) (hB:B≤w.heap.size) (h:NextS B k Mx R Inv kv tv xv w F0 t0 us (f :: S) (some ⟨g,0,none⟩) d β F w1 m) (ht:ThrS B k Inv kv tv xv w F0 us (f :: S) (some ⟨g,0,none⟩) d tri0 F w2) (hrem:f.t.rem f.l (nextP f.P) = []) (hcn:cnt3 t0≤1000000000) :
    Calls Tryz.prog fl (#[.pointer (some ⟨f.q,0,none⟩)] ++ ll) w2 fun e w3 => e = .returned (.tuple #[])∧∃ us' F' m',m' < m∧NextS B k Mx R Inv kv tv xv w F0 t0 us' S (some ⟨g,0,none⟩) d tri0 F' w3 m':=by
  obtain ⟨us',xs,e1,e2,e3⟩:=h.done
  have hf:=List.mem_cons_self (a:=f) (l:=S)
  have hB2:=ht.old (fun b hb => (hF0 b hb).2) hB
  have hsum:=h.sum
  have hfs:=ht.fs f hf
  have hcf:cnt3 f.t≤1000000000:=Nat.le_trans (e3.cnt fun g hg => ht.fs g (List.mem_cons_of_mem _ hg)) hcn
  refine (hv.leave fl ll rfl us' xs w2 F f _ (by rw [← e1];exact ht.inv) ⟨hfs.ok,hfs.nt.below hB2 (Nat.le_refl _) (Nat.le_refl _),hfs.ho,hfs.rem,hfs.n5,hfs.n6,hfs.ne⟩ (ht.fc f hf) (fun b hb => (ht.fF f hf b hb).1) hrem e2 (Nat.le_trans hB hB2.size) (by rw [← e1];omega) hcf).mono ?_
  rintro e w3 ⟨rfl,x,F',hr,hI,hF',hfo,-⟩
  exact ⟨rfl,h.popped (ht.move (fun b hb => (hF0 b hb).1) hfo hI hF') e1 hr e3⟩
end
end Go.Proofs.YtkeepngaaleakaaGreatDoor
