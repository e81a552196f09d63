import Derived.Test.YtmkejbfgdmbejaaGreatDoorM24
import Derived.Test.YtmkejbfgdmbejaaGreatDoorM13
namespace Go.Proofs.YtmkejbfgdmbejaaGreatDoor
open Go.ChangeShapes Go.WideShapes Go.ChangeAt Go.RowKit
open Tr (T S4 Ent)
section
variable {W W':World} {r:Nat} {U:List T}
theorem cell_far (hk:∀ b,b≠r→W'.heap[b]? = W.heap[b]?) {g i:Nat} (hg:g≠r) {v:Value} (h:W.cell? ⟨g,i,none⟩ = some v):W'.cell? ⟨g,i,none⟩ = some v :=
  (World.cell?_of_block (w:=W) (a:=⟨g,i,none⟩) (hk g hg)).trans h
end
end Go.Proofs.YtmkejbfgdmbejaaGreatDoor
namespace Go.Proofs.YtmkejbfgdmbejaaGreatDoor
open Tr (T S4 Ent)
namespace Tr
open Go.Proofs.YtmkejbfgdmbejaaGreatDoor.Z
def Bef (L M:List Ent):Prop:=∀ e∈L,∀ f∈M,key e.1 < key f.1
theorem Bef.zs {L M:List Ent} (h:Bef L M) (hL:ZS L) (hM:ZS M):ZS (L ++ M):=List.pairwise_append.2 ⟨hL,hM,h⟩
theorem cut_down {u v:List Nat} (hl:u.length = v.length) (hu:Ok u) (hv:Ok v) {l:Nat} (hc:cut u (l + 1) = cut v (l + 1)) (ha:addr u l = addr v l):cut u l = cut v l:=by
  refine points_eq (by simp [cut_length,hl]) (cut_ok hu l) (cut_ok hv l) fun m hm => ?_
  rw [cut_addr,cut_addr]
  split
  · rcases Nat.lt_or_ge l m with h | h
    · have c1:=cut_addr u (l + 1) m
      have c2:=cut_addr v (l + 1) m
      rw [if_pos (by omega)] at c1 c2
      rw [← c1,← c2,hc]
    · have:m = l:=by omega
      rw [this]
      exact ha
  · rfl
theorem low_of {k:Nat} {n:T} (h:Wf k n) {m:Nat} {c:List Nat} (hc:∀ e∈n.ents,cut e.1 m = c):n.lv≤m∧cut n.pre m = c:=by
  have hlv:n.lv≤m:=by
    have hw:=h
    cases h with
    | ent g p v => exact Nat.zero_le _
    | br g l pre ks h63 hsl h2 hl ho hk hcc =>
      show l + 1≤m
      refine Classical.byContradiction fun hn => ?_
      obtain ⟨x,hx⟩:=get_lt (us:=ks) (k:=0) (by omega)
      obtain ⟨y,hy⟩:=get_lt (us:=ks) (k:=1) (by omega)
      have hxm:=List.mem_of_getElem? hx
      have hym:=List.mem_of_getElem? hy
      have hlt:x.1 < y.1:=by
        have:=List.pairwise_iff_getElem.1 hsl.srt 0 1 (by omega) (by omega) (by omega)
        rw [(List.getElem?_eq_some_iff.1 hx).2,(List.getElem?_eq_some_iff.1 hy).2] at this
        exact this
      obtain ⟨e,he⟩:=List.exists_mem_of_ne_nil _ (hk x hxm).ne
      obtain ⟨f,hf⟩:=List.exists_mem_of_ne_nil _ (hk y hym).ne
      have a1:=kid_addr hw hxm he
      have b1:=kid_addr hw hym hf
      have c1:=cut_addr e.1 m l
      have c2:=cut_addr f.1 m l
      rw [if_pos (by omega)] at c1 c2
      rw [hc e (by rw [ents_br,mem_entsL];exact ⟨x,hxm,he⟩)] at c1
      rw [hc f (by rw [ents_br,mem_entsL];exact ⟨y,hym,hf⟩)] at c2
      omega
  obtain ⟨e,he⟩:=List.exists_mem_of_ne_nil _ h.ne
  exact ⟨hlv,by rw [← h.cut_at he hlv];exact hc e he⟩
/-! ### a node that fits below another one -/
section
variable {k g l:Nat} {pre:List Nat} {ks:List (Nat × T)}
end
section
variable {k g l:Nat} {pre:List Nat} {ks:List (Nat × T)}
end
/-! ### the kids of two nodes of one level and prefix -/
section
variable {k g l:Nat} {pre:List Nat} {ks:List (Nat × T)}
end
theorem addr_le {k l:Nat} {pre:List Nat} {p q:List Nat} (hp:p.length = k) (hq:q.length = k) (op:Ok p) (oq:Ok q) (cp:cut p (l + 1) = pre) (cq:cut q (l + 1) = pre) (h:key p < key q):addr p l≤addr q l:=by
  have hl:p.length = q.length:=by rw [hp,hq]
  refine Classical.byContradiction fun hn => ?_
  have h1:Z.part p q < ((l + 1:Nat):Int):=(cut_eq_iff hl op oq (l + 1)).1 (cp.trans cq.symm)
  have h2:¬ Z.part p q < (l:Int):=fun c => by
    have h2:=(cut_eq_iff hl op oq l).2 c
    have c1:=cut_addr p l l
    have c2:=cut_addr q l l
    rw [if_pos (Nat.le_refl _)] at c1 c2
    rw [h2] at c1
    omega
  have h3:Z.part p q = (l:Int):=by omega
  rw [key_lt hl op oq,cmp_at h3,if_neg (by omega)] at h
  omega
section
variable {k ga gb l g:Nat} {pre:List Nat} {ka kb ks:List (Nat × T)}
theorem kids_fit (h:Wf k (.br ga l pre ka)):(∀ x∈ka,Wf k x.2∧x.2.lv≤l∧cut x.2.pre (l + 1) = pre∧addr x.2.pre l = x.1)∧Sl.Srt ka:=by
  cases h with
  | br _ _ _ _ h63 hw h2 hl ho hk hc => exact ⟨fun x hx => ⟨hk x hx,hc x hx⟩,hw.srt⟩
end
end Tr
end Go.Proofs.YtmkejbfgdmbejaaGreatDoor
namespace Go.Proofs.YtmkejbfgdmbejaaGreatDoor
open Go.RowKit Go.Shelf
open Tr (T S4 Ent)
attribute [local go_sem] Oper.semAt_some
theorem prefix_at {w w2:World} {B k:Nat} {t:T} (h:Node w B k t) (hB:B≤w.heap.size) (h2:Below w.heap.size w w2) :
    Calls Tryz.prog 101 #[.pointer (some ⟨t.blk,0,none⟩)] w2 fun e w' => ∃ h d,e = .returned (.slice (some ⟨h,0,none⟩) t.pre.length d)∧Pts w' w'.heap.size (some ⟨h,0,none⟩) t.pre∧Below w2.heap.size w2 w':=by
  have hn:=h.below h2 hB (Nat.le_refl _)
  obtain ⟨kp,hnd⟩:=hn.2.nd
  have hlen:=h.1.len
  have k1:=h.1.k1
  have k16:=h.1.k16
  refine (nPrefix_c hnd (Nat.le_trans hB h2.size) (by intro e;rw [e] at hlen;simp at hlen;omega) (by omega)).mono ?_
  rintro e w' ⟨g,d,rfl,ho,hb⟩
  obtain ⟨A',c',hv,hp'⟩:=ho.pts
  simp only [Value.slice.injEq] at hv
  obtain ⟨rfl,-,rfl⟩:=hv
  exact ⟨g,d,rfl,hp',hb⟩
theorem level_at {w w2:World} {B k:Nat} {t:T} (h:Node w B k t) (hB:B≤w.heap.size) (h2:Below w.heap.size w w2) {lev:Int} (hl:levI t = lev) :
    Calls Tryz.prog 100 #[.pointer (some ⟨t.blk,0,none⟩)] w2 fun e w' => e = .returned (.int .i64 lev)∧w2 = w':=by
  have hn:=h.below h2 hB (Nat.le_refl _)
  obtain ⟨kp,hnd⟩:=hn.2.nd
  subst hl
  exact nLevel_c hnd
theorem addr_at {w2:World} {k l:Nat} {us:List Nat} {A:Option Addr} {c B:Nat} (hp:Pts w2 B A us) (hB:B≤w2.heap.size) (hu:us.length = k) (k1:1≤k) (k16:k≤16) (hl:l≤63) {a:Nat} (ha:Z.addr us l = a) :
    Calls Tryz.prog 132 #[.slice A us.length c,.int .i64 (l:Int)] w2 fun e w' => e = .returned (.tuple #[.int .i64 (a:Int),.int .i64 0])∧w2 = w':=by
  subst ha
  exact addr_yes A c us l w2.heap.size w2 (hp.keep hB (fun _ _ => rfl)) (by omega) (by omega) hl
theorem levI_br (g l:Nat) (pre:List Nat) (ks:List (Nat × T)):levI (.br g l pre ks) = (l:Int):=by simp [levI,T.lv]
end Go.Proofs.YtmkejbfgdmbejaaGreatDoor
