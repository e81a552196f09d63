import Derived.Laws.StructEq
import Derived.Test.YtmkejbfgdmbejaaGreatDoorM71
import Derived.Test.YtmkejbfgdmbejaaGreatDoorM17
namespace Go.Proofs.YtmkejbfgdmbejaaGreatDoor
open Tr (T S4 Ent)
namespace Tr
open Go.Proofs.YtmkejbfgdmbejaaGreatDoor.Z
/-! ### changes -/
abbrev Chg:=List Nat × Option Nat × Option Nat
def ptsU (L M:List Ent):List Ent:=M.foldl (fun A e => putE e.1 0 A) L
theorem ptsU_nil (L:List Ent):ptsU L [] = L:=rfl
theorem ptsU_cons (L:List Ent) (e:Ent) (M:List Ent):ptsU L (e :: M) = ptsU (putE e.1 0 L) M:=rfl
theorem ptsU_snoc (L M:List Ent) (e:Ent):ptsU L (M ++ [e]) = putE e.1 0 (ptsU L M):=by simp [ptsU]
theorem ptsU_take {L M:List Ent} {j:Nat} {e:Ent} (h:M[j]? = some e):ptsU L (M.take (j + 1)) = putE e.1 0 (ptsU L (M.take j)):=by
  rw [List.take_add_one,h]
  exact ptsU_snoc L (M.take j) e
theorem ptsU_zs {k:Nat}:∀ {M L:List Ent},ZS L→Dim k L→Dim k M→ZS (ptsU L M)∧Dim k (ptsU L M)∧(ptsU L M).length≤L.length + M.length∧∀ p,(∃ v,(p,v)∈ptsU L M)↔(∃ v,(p,v)∈L)∨∃ v,(p,v)∈M
  | [],L,hz,hd,_ => ⟨hz,hd,Nat.le_refl _,fun p => by rw [ptsU_nil];simp⟩
  | e :: M,L,hz,hd,hm => by
    have he:=hm e List.mem_cons_self
    obtain ⟨h1,h2,h3,h4⟩:=ptsU_zs (hz.put e.1 0) (Dim.put hz hd he.1 he.2.1 (by omega)) (fun x hx => hm x (List.mem_cons_of_mem _ hx))
    rw [ptsU_cons]
    refine ⟨h1,h2,?_,fun p => ?_⟩
    · have:=length_putE hz e.1 0
      simp only [List.length_cons]
      omega
    · rw [h4 p]
      constructor
      · rintro (⟨v,hv⟩ | ⟨v,hv⟩)
        · rcases (mem_putE hz).1 hv with c | c
          · simp only [Prod.mk.injEq] at c
            exact .inr ⟨e.2,by rw [c.1];exact List.mem_cons_self⟩
          · exact .inl ⟨v,c.1⟩
        · exact .inr ⟨v,List.mem_cons_of_mem _ hv⟩
      · rintro (⟨v,hv⟩ | ⟨v,hv⟩)
        · by_cases c:key p = key e.1
          · have hp:p = e.1:=(key_inj (by rw [(hd _ hv).1,he.1]) (hd _ hv).2.1 he.2.1).1 c
            exact .inl ⟨0,(mem_putE hz).2 (.inl (by rw [hp]))⟩
          · exact .inl ⟨v,(mem_putE hz).2 (.inr ⟨hv,c⟩)⟩
        · rcases List.mem_cons.1 hv with c | c
          · exact .inl ⟨0,(mem_putE hz).2 (.inl (by rw [← c]))⟩
          · exact .inr ⟨v,c⟩
section
variable {k:Nat} {L M:List Ent}
end
/-! ### two rows of kids side by side -/
abbrev Pr:=Nat × Option T × Option T
def FitL (k l:Nat) (c0:List Nat) (xs:List (Nat × T)):Prop:=Sl.Srt xs∧∀ x∈xs,Wf k x.2∧x.2.lv≤l∧cut x.2.pre (l + 1) = c0∧addr x.2.pre l = x.1
theorem FitL.tail {k l:Nat} {c0:List Nat} {x:Nat × T} {xs:List (Nat × T)} (h:FitL k l c0 (x :: xs)):FitL k l c0 xs:=⟨h.1.tail,fun y hy => h.2 y (List.mem_cons_of_mem _ hy)⟩
theorem FitL.ent {k l:Nat} {c0:List Nat} {xs:List (Nat × T)} (h:FitL k l c0 xs) {x:Nat × T} (hx:x∈xs) {e:Ent} (he:e∈x.2.ents):addr e.1 l = x.1∧cut e.1 (l + 1) = c0∧e.1.length = k∧Ok e.1:=by
  obtain ⟨w,hl,hc,ha⟩:=h.2 x hx
  have hd:=w.each e he
  exact ⟨(w.addr_at he hl).trans ha,(w.cut_at he (by omega:x.2.lv≤l + 1)).trans hc,hd.1,hd.2.1⟩
theorem fit_bef {k l:Nat} (hl:l < 64) {c0:List Nat} {x y:Nat × T} {xs ys:List (Nat × T)} (hx:FitL k l c0 xs) (hy:FitL k l c0 ys) (mx:x∈xs) (my:y∈ys) (h:x.1 < y.1):Bef x.2.ents y.2.ents:=fun e he f hf => by
  obtain ⟨a1,a2,a3,a4⟩:=hx.ent mx he
  obtain ⟨b1,b2,b3,b4⟩:=hy.ent my hf
  refine key_addr (by rw [a3,b3]) hl (by rw [a1,b1];exact h) fun m hm => ?_
  have p1:=cut_addr e.1 (l + 1) m
  have p2:=cut_addr f.1 (l + 1) m
  rw [if_pos (by omega)] at p1 p2
  rw [← p1,← p2,a2,b2]
theorem fit_befL {k l:Nat} (hl:l < 64) {c0:List Nat} {x:Nat × T} {xs ys:List (Nat × T)} (hx:FitL k l c0 xs) (hy:FitL k l c0 ys) (mx:x∈xs) (h:∀ y∈ys,x.1 < y.1):Bef x.2.ents (entsL ys):=fun e he f hf => by
  obtain ⟨y,my,hf⟩:=mem_entsL.1 hf
  exact fit_bef hl hx hy mx my (h y my) e he f hf
theorem fit_zd {k l:Nat} (hl:l < 64) {c0:List Nat}:∀ {xs:List (Nat × T)},FitL k l c0 xs→ZS (entsL xs)∧Dim k (entsL xs)
  | [],_ => ⟨ZS.nil,fun e he => by cases he⟩
  | x :: xs,h => by
    obtain ⟨z,d⟩:=fit_zd hl h.tail
    obtain ⟨w,-⟩:=h.2 x List.mem_cons_self
    rw [entsL_cons]
    refine ⟨(fit_befL hl h h.tail List.mem_cons_self h.1.head).zs w.zs z,fun e he => (List.mem_append.1 he).elim (w.dim e) (d e)⟩
theorem dim_nil (k:Nat):Dim k []:=fun e he => by cases he
end Tr
namespace Tr
open Go.Proofs.YtmkejbfgdmbejaaGreatDoor.Z
/-! ### from an address on -/
def dropF (L:List (Nat × T)) (n:Nat):List (Nat × T):=L.drop (Sl.idx L (n:Int))
theorem dropF_zero (L:List (Nat × T)):dropF L 0 = L:=by
  unfold dropF
  rw [show ((0:Nat):Int) = 0 from rfl,Sl.idx_zero]
  rfl
theorem dropF_mem {L:List (Nat × T)} {n:Nat} {x:Nat × T} (h:x∈dropF L n):x∈L:=List.mem_of_mem_drop h
theorem dropF_head (L:List (Nat × T)) (n:Nat):L[Sl.idx L (n:Int)]? = (dropF L n).head?:=by unfold dropF;rw [List.head?_drop]
theorem dropF_at {L:List (Nat × T)} {n:Nat} {x:Nat × T} {xs:List (Nat × T)} (h:dropF L n = x :: xs):L[Sl.idx L (n:Int)]? = some x:=by rw [dropF_head,h];rfl
theorem dropF_ge {L:List (Nat × T)} {n:Nat} {x:Nat × T} {xs:List (Nat × T)} (h:dropF L n = x :: xs):n≤x.1:=by
  have:=Sl.idx_at L n x (dropF_at h)
  omega
theorem dropF_step {L:List (Nat × T)} (hs:Sl.Srt L) {n:Nat} {x:Nat × T} {xs:List (Nat × T)} (h:dropF L n = x :: xs):dropF L (x.1 + 1) = xs:=by
  have hx:=dropF_at h
  have e1:Sl.idx L (x.1:Int) = Sl.idx L (n:Int):=Sl.idx_of hs hx
  have e2:=Sl.idx_succ hs (x.1:Int)
  have e3:Sl.has L (x.1:Int) = true:=by
    unfold Sl.has
    rw [Sl.get_of_mem hs (List.mem_of_getElem? hx)]
    rfl
  rw [e3,if_pos rfl,e1] at e2
  unfold dropF at h ⊢
  rw [show ((x.1 + 1:Nat):Int) = (x.1:Int) + 1 by omega,e2,← List.drop_drop,h]
  rfl
theorem dropF_skip {L:List (Nat × T)} (_hs:Sl.Srt L) {n m:Nat} (hnm:n≤m) (h:∀ x xs,dropF L n = x :: xs→m≤x.1):dropF L m = dropF L n:=by
  unfold dropF
  congr 1
  refine Sl.idx_uniq L m _ (Sl.idx_le _ _) (fun j p hj hp => ?_) fun p hp => ?_
  · have:=Sl.idx_below L n j p hj hp
    omega
  · rw [dropF_head] at hp
    cases hd:dropF L n with
    | nil => rw [hd] at hp;cases hp
    | cons x xs =>
      have h1:=h x xs hd
      rw [hd] at hp
      have h2:x = p:=Option.some.inj hp
      rw [← h2]
      omega
/-! ### sides,frames -/
structure Sd where
  t:T
  kd:Bool
  a:Nat
def Sd.L (s:Sd):List (Nat × T):=match s.kd with
  | true => s.t.ks
  | false => [(s.a,s.t)]
structure Fr where
  x:Sd
  y:Sd
  n:Nat
def Fr.to (f:Fr) (n:Nat):Fr:=⟨f.x,f.y,n⟩
def hdA (L:List (Nat × T)):Nat:=match L with
  | [] => 65536
  | x :: _ => x.1
def hdT (L:List (Nat × T)):Option T:=match L with
  | [] => none
  | x :: _ => some x.2
/-! ### how much there is to be done -/
def wgt (x y:Option T):Nat:=max 1 (2 * ((allO x).length + (allO y).length) - 1)
def wM (qs:List Pr):Nat:=(qs.map fun q => wgt q.2.1 q.2.2).sum
theorem all_pos (t:T):1≤t.all.length:=by rw [all_eq];simp
/-! ### a pair's frame -/
def sdOf (t:T) (l:Nat):Sd:=⟨t,decide (t.lv = l + 1),addr t.pre l⟩
theorem sd_ents {k:Nat} {t:T} (l:Nat) (hl:t.lv≤l + 1) (h:Wf k t):FitL k l (cut t.pre (l + 1)) (sdOf t l).L∧entsL (sdOf t l).L = t.ents ∧
    ((t.lv = l + 1∧(allK (sdOf t l).L).length + 1 = t.all.length)∨(t.lv≤l∧(sdOf t l).L = [(addr t.pre l,t)])):=by
  by_cases c:t.lv = l + 1
  · cases t with
    | ent g p v => simp [T.lv] at c
    | br g l' pre ks =>
      have e:l' = l:=by simp only [T.lv] at c;omega
      subst e
      have hd:(sdOf (.br g l' pre ks) l').L = ks:=by simp [sdOf,Sd.L,T.lv,T.ks]
      rw [hd]
      obtain ⟨f1,f2⟩:=kids_fit h
      have hc:cut pre (l' + 1) = pre:=h.cut_pre
      refine ⟨⟨f2,fun x hx => ?_⟩,(ents_br g l' pre ks).symm,.inl ⟨rfl,by rw [all_br];simp⟩⟩
      obtain ⟨a1,a2,a3,a4⟩:=f1 x hx
      exact ⟨a1,a2,a3.trans hc.symm,a4⟩
  · have hlv:t.lv≤l:=by omega
    have hd:(sdOf t l).L = [(addr t.pre l,t)]:=by simp [sdOf,Sd.L,c]
    rw [hd]
    refine ⟨⟨List.pairwise_singleton _ _,fun x hx => ?_⟩,by rw [entsL_cons,entsL_nil,List.append_nil],.inr ⟨hlv,rfl⟩⟩
    rw [List.mem_singleton.1 hx]
    exact ⟨h,hlv,rfl,rfl⟩
/-! ### the stack -/
abbrev Fl:=Nat × Fr
def room:List Fl→Nat
  | [] => 64
  | f :: _ => f.1
theorem cut_top {p q:List Nat} (hl:p.length = q.length) (hp:Ok p) (hq:Ok q):cut p 64 = cut q 64:=(cut_eq_iff hl hp hq 64).2 (by have:=part_bd hl hp hq;omega)
end Tr
end Go.Proofs.YtmkejbfgdmbejaaGreatDoor
namespace Go.Proofs.YtmkejbfgdmbejaaGreatDoor
open Tr (T S4 Ent Chg)
namespace Tr
open Go.Proofs.YtmkejbfgdmbejaaGreatDoor.Z
/-! ### changes as they lie in memory -/
abbrev Raw:=List Nat × (Bool × Nat) × (Bool × Nat)
/-! ### lists that are right -/
/-! ### the change at a point -/
/-! ### done on entries -/
/-! ### two lists side by side -/
abbrev Pc:=Option Chg × Option Chg
/-! ### one after the other -/
/-! ### the document's way: all that was there -/
end Tr
end Go.Proofs.YtmkejbfgdmbejaaGreatDoor
namespace Go.Proofs.YtmkejbfgdmbejaaGreatDoor
open Go.ChangeShapes Go.WideShapes Go.ChangeAt Go.RowKit
open Tr (T S4 Ent Chg Raw)
/-! ### Fits -/
theorem get_lastE {k:Nat} {o:Option T} (hwf:∀ t,o = some t→Tr.Wf k t) {p:List Nat} (hp:p.length = k) (ho:Z.Ok p):entO (Tr.pathT o p).getLast? = ((Tr.getE (Tr.entsO o) p).getD 0,(Tr.getE (Tr.entsO o) p).isSome):=by
  rcases Tr.path_chain hp ho 65 o (fun t e => ⟨hwf t e,by have:=(hwf t e).lv64;omega⟩) with ⟨g,v0,L,h1,-,h3⟩ | ⟨h1,h2,h3⟩
  · rw [Tr.get_here hp ho hwf h3,show Tr.pathT o p = L ++ [.ent g p v0] from h1,List.getLast?_append]
    rfl
  · rw [Tr.get_none hp ho hwf h1 h2]
    rcases h3 with h3 | ⟨L,u,h3,h4⟩
    · rw [show Tr.pathT o p = [] from h3];rfl
    · rw [show Tr.pathT o p = L ++ [u] from h3,List.getLast?_append]
      cases u with
      | ent g q v => exact h4.elim
      | br g l pre ks => rfl
theorem tGetE_c {w:World} {B b k:Nat} {o:Option T} (h:TreeAt w B b k o) (hB:B≤w.heap.size) {p:List Nat} {A:Option Addr} {c m:Nat} (hp:Pts w B A p) (hl:p.length = k) (hm:p.length = m) {g:Option Nat} (hg:Tr.getE (Tr.entsO o) p = g) :
    Calls Tryz.prog 50 #[.pointer (some ⟨b,0,none⟩),.slice A m c] w fun e w' => e = .returned (.tuple #[.int .u64 ((g.getD 0:Nat):Int),.bool g.isSome,.int .i64 0])∧Below w.heap.size w w':=by
  subst hm hg
  exact tGet_c h hB hp hl _ _ (get_lastE (nodeO_wf h.2.2.2.2) hl hp.1)
end Go.Proofs.YtmkejbfgdmbejaaGreatDoor
