import Derived.Test.YtkeepngaaleakaaGreatDoorM28
import Derived.Test.YtkeepngaaleakaaGreatDoorM13
namespace Go.Proofs.YtkeepngaaleakaaGreatDoor
open Go.ChangeShapes Go.WideShapes Go.ChangeAt Go.RowKit
open Tr (T S4 Ent)
section
variable {W W':World} {r:Nat} {U:List T}
theorem cell_far (hk:∀ b,b≠r→W'.heap[b]? = W.heap[b]?) {g i:Nat} (hg:g≠r) {v:Value} (h:W.cell? ⟨g,i,none⟩ = some v):W'.cell? ⟨g,i,none⟩ = some v :=
  (World.cell?_of_block (w:=W) (a:=⟨g,i,none⟩) (hk g hg)).trans h
end
end Go.Proofs.YtkeepngaaleakaaGreatDoor
namespace Go.Proofs.YtkeepngaaleakaaGreatDoor
open Tr (T S4 Ent)
namespace Tr
open Go.Proofs.YtkeepngaaleakaaGreatDoor.Z
theorem cut_down {u v:List Nat} (hl:u.length = v.length) (hu:Ok u) (hv:Ok v) {l:Nat} (hc:cut u (l + 1) = cut v (l + 1)) (ha:addr u l = addr v l):cut u l = cut v l:=by
  refine points_eq (by simp [cut_length,hl]) (cut_ok hu l) (cut_ok hv l) fun m hm => ?_
  rw [cut_addr,cut_addr]
  split
  · rcases Nat.lt_or_ge l m with h | h
    · have c1:=cut_addr u (l + 1) m
      have c2:=cut_addr v (l + 1) m
      rw [if_pos (by omega)] at c1 c2
      rw [← c1,← c2,hc]
    · have:m = l:=by omega
      rw [this]
      exact ha
  · rfl
theorem low_of {k:Nat} {n:T} (h:Wf k n) {m:Nat} {c:List Nat} (hc:∀ e∈n.ents,cut e.1 m = c):n.lv≤m∧cut n.pre m = c:=by
  have hlv:n.lv≤m:=by
    have hw:=h
    cases h with
    | ent g p v => exact Nat.zero_le _
    | br g l pre ks h63 hsl h2 hl ho hk hcc =>
      show l + 1≤m
      refine Classical.byContradiction fun hn => ?_
      obtain ⟨x,hx⟩:=get_lt (us:=ks) (k:=0) (by omega)
      obtain ⟨y,hy⟩:=get_lt (us:=ks) (k:=1) (by omega)
      have hxm:=List.mem_of_getElem? hx
      have hym:=List.mem_of_getElem? hy
      have hlt:x.1 < y.1:=by
        have:=List.pairwise_iff_getElem.1 hsl.srt 0 1 (by omega) (by omega) (by omega)
        rw [(List.getElem?_eq_some_iff.1 hx).2,(List.getElem?_eq_some_iff.1 hy).2] at this
        exact this
      obtain ⟨e,he⟩:=List.exists_mem_of_ne_nil _ (hk x hxm).ne
      obtain ⟨f,hf⟩:=List.exists_mem_of_ne_nil _ (hk y hym).ne
      have a1:=kid_addr hw hxm he
      have b1:=kid_addr hw hym hf
      have c1:=cut_addr e.1 m l
      have c2:=cut_addr f.1 m l
      rw [if_pos (by omega)] at c1 c2
      rw [hc e (by rw [ents_br,mem_entsL];exact ⟨x,hxm,he⟩)] at c1
      rw [hc f (by rw [ents_br,mem_entsL];exact ⟨y,hym,hf⟩)] at c2
      omega
  obtain ⟨e,he⟩:=List.exists_mem_of_ne_nil _ h.ne
  exact ⟨hlv,by rw [← h.cut_at he hlv];exact hc e he⟩
/-! ### a node that fits below another one -/
section
variable {k g l:Nat} {pre:List Nat} {ks:List (Nat × T)}
end
section
variable {k g l:Nat} {pre:List Nat} {ks:List (Nat × T)}
end
/-! ### the kids of two nodes of one level and prefix -/
section
variable {k g l:Nat} {pre:List Nat} {ks:List (Nat × T)}
end
section
variable {k ga gb l g:Nat} {pre:List Nat} {ka kb ks:List (Nat × T)}
theorem kids_fit (h:Wf k (.br ga l pre ka)):(∀ x∈ka,Wf k x.2∧x.2.lv≤l∧cut x.2.pre (l + 1) = pre∧addr x.2.pre l = x.1)∧Sl.Srt ka:=by
  cases h with
  | br _ _ _ _ h63 hw h2 hl ho hk hc => exact ⟨fun x hx => ⟨hk x hx,hc x hx⟩,hw.srt⟩
end
end Tr
namespace Tr
open Go.Proofs.YtkeepngaaleakaaGreatDoor.Z
/-! ### changes -/
abbrev Chg:=List Nat × Option Nat × Option Nat
section
variable {k:Nat} {L M:List Ent}
end
/-! ### two rows of kids side by side -/
abbrev Pr:=Nat × Option T × Option T
def FitL (k l:Nat) (c0:List Nat) (xs:List (Nat × T)):Prop:=Sl.Srt xs∧∀ x∈xs,Wf k x.2∧x.2.lv≤l∧cut x.2.pre (l + 1) = c0∧addr x.2.pre l = x.1
theorem FitL.tail {k l:Nat} {c0:List Nat} {x:Nat × T} {xs:List (Nat × T)} (h:FitL k l c0 (x :: xs)):FitL k l c0 xs:=⟨h.1.tail,fun y hy => h.2 y (List.mem_cons_of_mem _ hy)⟩
theorem FitL.ent {k l:Nat} {c0:List Nat} {xs:List (Nat × T)} (h:FitL k l c0 xs) {x:Nat × T} (hx:x∈xs) {e:Ent} (he:e∈x.2.ents):addr e.1 l = x.1∧cut e.1 (l + 1) = c0∧e.1.length = k∧Ok e.1:=by
  obtain ⟨w,hl,hc,ha⟩:=h.2 x hx
  have hd:=w.each e he
  exact ⟨(w.addr_at he hl).trans ha,(w.cut_at he (by omega:x.2.lv≤l + 1)).trans hc,hd.1,hd.2.1⟩
end Tr
namespace Tr
open Go.Proofs.YtkeepngaaleakaaGreatDoor.Z
/-! ### from an address on -/
/-! ### sides,frames -/
structure Sd where
  t:T
  kd:Bool
  a:Nat
def Sd.L (s:Sd):List (Nat × T):=match s.kd with
  | true => s.t.ks
  | false => [(s.a,s.t)]
structure Fr where
  x:Sd
  y:Sd
  n:Nat
def Fr.to (f:Fr) (n:Nat):Fr:=⟨f.x,f.y,n⟩
/-! ### how much there is to be done -/
def wgt (x y:Option T):Nat:=max 1 (2 * ((allO x).length + (allO y).length) - 1)
def wM (qs:List Pr):Nat:=(qs.map fun q => wgt q.2.1 q.2.2).sum
theorem all_pos (t:T):1≤t.all.length:=by rw [all_eq];simp
/-! ### a pair's frame -/
/-! ### the stack -/
abbrev Fl:=Nat × Fr
end Tr
namespace Tr
open Go.Proofs.YtkeepngaaleakaaGreatDoor.Z
/-! ### three lists,point by point -/
section
variable {X:Type}
abbrev Pt (X:Type):=Option Nat→Option Nat→Option Nat→Option X
variable {k:Nat} {g:Pt X} {O A B:List Ent}
end
/-! ### kids of three nodes,side by side -/
structure Tri where
  o:Option T
  a:Option T
  b:Option T
def Tri.none:Tri:=⟨.none,.none,.none⟩
def Tri.any (t:Tri):Bool:=t.o.isSome || t.a.isSome || t.b.isSome
abbrev KL:=List (Nat × T)
section
variable {Lo La Lb:KL}
end
/-! ### how much there is to be done -/
/-! ### places and points -/
section
variable {X:Type} {g:Pt X} {k l:Nat} {c0:List Nat} {Lo La Lb:KL}
end
end Tr
namespace Tr
open Go.Proofs.YtkeepngaaleakaaGreatDoor.Z
/-! ### one point -/
def bec (o a b:Option Nat):Option (Option Nat):=if a = b then some a else if a = o then some b else if b = o then some a else none
section
variable {k:Nat} {O A B:List Ent}
end
/-! ### three nodes -/
def Tri.list (t:Tri):List T:=t.o.toList ++ (t.a.toList ++ t.b.toList)
theorem Tri.mem {t:Tri} {x:T}:x∈t.list↔t.o = some x∨t.a = some x∨t.b = some x:=by
  simp [Tri.list]
theorem low_fit {k l:Nat} {c0:List Nat} {a:Nat} {m:T} (hm:Wf k m) (h:∀ e∈m.ents,addr e.1 l = a∧cut e.1 (l + 1) = c0):Wf k m∧m.lv≤l∧cut m.pre (l + 1) = c0∧addr m.pre l = a:=by
  obtain ⟨e0,h0⟩:=List.exists_mem_of_ne_nil _ hm.ne
  have d0:=hm.each e0 h0
  obtain ⟨h1,h2⟩:=low_of hm (m:=l) (c:=cut e0.1 l) fun e he => by
    have d:=hm.each e he
    exact cut_down (by rw [d.1,d0.1]) d.2.1 d0.2.1 ((h e he).2.trans (h e0 h0).2.symm) ((h e he).1.trans (h e0 h0).1.symm)
  refine ⟨hm,h1,?_,?_⟩
  · rw [← cut_cut m.pre l (l + 1) (by omega),h2,cut_cut e0.1 l (l + 1) (by omega)]
    exact (h e0 h0).2
  · rw [← hm.addr_at h0 h1]
    exact (h e0 h0).1
/-! ### the node of a list of kids -/
def UniN (l:Nat) (c0:List Nat) (K:KL) (n:Option T):Prop:=(K = []∧n = none)∨(∃ x,K = [x]∧n = some x.2)∨(2≤K.length∧∃ g,n = some (.br g l c0 K))
theorem UniN.ents {l:Nat} {c0:List Nat} {K:KL} {n:Option T} (h:UniN l c0 K n):entsO n = entsL K:=by
  rcases h with ⟨rfl,rfl⟩ | ⟨x,rfl,rfl⟩ | ⟨-,g,rfl⟩
  · rfl
  · simp [entsO,entsL]
  · exact ents_br g l c0 K
end Tr
end Go.Proofs.YtkeepngaaleakaaGreatDoor
