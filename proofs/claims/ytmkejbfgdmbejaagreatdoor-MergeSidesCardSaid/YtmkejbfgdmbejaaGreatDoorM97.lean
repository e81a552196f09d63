import Derived.Test.YtmkejbfgdmbejaaGreatDoorM94
import Derived.Test.YtmkejbfgdmbejaaGreatDoorM35
namespace Go.Proofs.YtmkejbfgdmbejaaGreatDoor
open Go.ChangeShapes Go.WideShapes Go.ChangeAt Go.RowKit
open Tr (T S4 Ent Sd Fl Chg)
theorem filterMap_take {α β:Type} (f:α→Option β) {U:List α} {j:Nat} {e:α} (h:U[j]? = some e):(U.take (j + 1)).filterMap f = (U.take j).filterMap f ++ (f e).toList:=by
  rw [List.take_add_one,h,List.filterMap_append]
  cases hf:f e <;> simp [hf]
theorem ptsG_of {w:World} {B:Nat} {A:Option Addr} {us:List Nat} (h:Pts w B A us) (hB:B≤w.heap.size):PtsG w (fun b => b < B) A us :=
  ⟨h.1,fun hn => by obtain ⟨b,off,h1,h3,h4⟩:=h.2 hn;exact ⟨b,off,h1,h3,Nat.lt_of_lt_of_le h3 hB,h4⟩⟩
theorem getE_lt {k:Nat} {L:List Ent} (zL:Tr.ZS L) (dL:Tr.Dim k L) {p:List Nat} {g:Option Nat} (hp:p.length = k) (ho:Z.Ok p) (h:Tr.getE L p = g):g.getD 0 < 18446744073709551616:=by
  cases g with
  | none => show 0 < _;omega
  | some v => exact (dL _ ((Tr.getE_iff zL dL hp ho).1 h)).2.2
set_option maxRecDepth 100000 in
set_option maxHeartbeats 2000000 in
theorem two_c {w:World} {C k:Nat} {A A':Option Addr} {c c' n n':Nat} {l m:List ActT} (h1:1≤k) (h16:k≤16) (hA:ActsT w C A l) (hA':ActsT w C A' m) (hC:C≤w.heap.size) (hl:l.length≤100) (hm:m.length≤100) (hn:l.length = n) (hn':m.length = n') :
    Calls Tryz.prog 51 #[.int .i64 (k:Int),.slice A n c,.slice A' n' c'] w fun e w' => ∃ (b:Nat) (o:Option T) (D:Option Addr) (d b':Nat) (o':Option T) (D':Option Addr) (d':Nat),e = .returned (.tuple #[.pointer (some ⟨b,0,none⟩),.pointer (some ⟨b',0,none⟩),.slice D (Tr.entsO o).length d,.slice D' (Tr.entsO o').length d',.bool true])∧Hand w' C b k o D d n∧Hand w' C b' k o' D' d' (n + n')∧Below w.heap.size w w':=by
  have HG:=grown_c (c:=c) h1 h16 hA hC hl
  rw [hn] at HG
  have HG:=Lib.hid HG
  have HX:=Lib.hid (And.intro hA' (And.intro hC (And.intro hl (And.intro hm (And.intro hn hn')))))
  have hn9:(n':Int)≤100:=by omega
  clear h1 h16 hA hA' hC hl hm hn hn'
  go_enter Tryz.func51,Tryz.ntmps51
  go_wp2_with fail
  refine HG.out.mono ?_
  rintro e w1 ⟨b,o,D,d,rfl,hh,-,hb1⟩
  have H1:=Lib.hid (And.intro hh hb1)
  obtain ⟨N,hN⟩:∃ N,(Tr.entsO o).length = N:=⟨_,rfl⟩
  have HN:=Lib.hid hN
  rw [hN]
  clear hh hb1 HG hN
  go_wp2_with fail
  go_loopw [13,14,15,16] (fun ok t v i wr => ∃ (j b':Nat) (o':Option T) (D':Option Addr) (d':Nat),ok = .bool true∧j≤n'∧t = .pointer (some ⟨b',0,none⟩)∧v = .slice D' (Tr.entsO o').length d'∧i = .int .i64 (j:Int)∧Hand wr C b' k o' D' d' (n + j)∧Below w1.heap.size w1 wr) (fun _ _ _ i _ => n' - (intOf i).toNat)
  case atStart => exact ⟨0,b,o,D,d,rfl,Nat.zero_le _,rfl,by rw [HN.out],rfl,H1.out.1,Below.refl _ _⟩
  case round =>
    obtain ⟨j,b',o',D',d',rfl,hj,rfl,rfl,rfl,hh,hbr⟩:=hrel
    by_cases hlt:j < n'
    · obtain ⟨a,ha⟩:=get_lt (us:=m) (k:=j) (by rw [HX.out.2.2.2.2.2];exact hlt)
      have hbw:=Below.andThen H1.out.2 hbr
      obtain ⟨gb,go,A5,c5,hAA,hgb,x0,x1,x2,hp,hpm,hv⟩:=(HX.out.1.below hbw HX.out.2.1 (Nat.le_refl _)).at ha
      have HD:=Lib.hid (done_c (d:=c5) hh (by have:=HX.out;omega) hp hpm hv)
      have HY:=Lib.hid (And.intro hbr hlt)
      subst hAA
      have f1:decide ((j:Int) < (n':Int)) = true:=decide_eq_true (by omega)
      have f1':decide (j < n') = true:=decide_eq_true hlt
      have m1:(0:Int)≤(j:Int):=by omega
      have m2:(j:Int) < (n':Int):=by omega
      clear hh hbr ha hp hpm hv hbw hlt hj
      go_wp2_with (go_at_call 35;refine HD.out.mono ?_;rintro e w2 ⟨b2,o2,D2,d2,rfl,hh2,-,-,hb2⟩)
      go_roundw
      case rel =>
        exact ⟨j + 1,b2,o2,D2,d2,rfl,by have:=HY.out.2;omega,rfl,rfl,by first | rfl | go_num,hh2,Below.andThen HY.out.1 hb2⟩
      case measure =>
        have:=HY.out.2
        show n' - ((j:Int) + 1).toNat < n' - (j:Int).toNat
        omega
    · have hjn:n' = j:=by omega
      subst hjn
      have f1:decide ((n':Int) < (n':Int)) = false:=decide_eq_false (by omega)
      have f1':decide (n' < n') = false:=decide_eq_false (by omega)
      have HY:=Lib.hid (And.intro hh hbr)
      clear hh hbr hlt hj
      go_wp2_with fail
      refine bodyPost_ret (v:=.tuple #[.pointer (some ⟨b,0,none⟩),.pointer (some ⟨b',0,none⟩),.slice D N d,.slice D' (Tr.entsO o').length d',.bool true]) (by simp [results,Tryz.results51,go_sem]) rfl ?_
      exact ⟨b,o,D,d,b',o',D',d',by rw [HN.out],H1.out.1.below HY.out.2,HY.out.1,Below.andThen H1.out.2 HY.out.2⟩
theorem treeX_dz {w:World} {b k:Nat} {o:Option T} (h:TreeX w b k o):Tr.Dim k (Tr.entsO o)∧Tr.ZS (Tr.entsO o):=by
  cases o with
  | none => exact ⟨fun e he => (by cases he),List.Pairwise.nil⟩
  | some t => exact ⟨(h.1.2.2.2.2 t rfl).1.dim,(h.1.2.2.2.2 t rfl).1.zs⟩
end Go.Proofs.YtmkejbfgdmbejaaGreatDoor
namespace Go.Proofs.YtmkejbfgdmbejaaGreatDoor
open Go.ChangeShapes Go.WideShapes Go.ChangeAt Go.RowKit
open Tr (T S4 Ent)
theorem nptr_none (w:World):(binOp .eql 74 (.pointer none) (.pointer none)).run Tryz.prog w = .ok (.bool true) w:=by
  have h2:∀ d:Nat,(Op.equalIn (d + 1) 74 (.pointer none) (.pointer none)).run Tryz.prog w = .ok true w:=fun d => by
    simp [Op.equalIn,run_underlying Tryz.underlying74]
  simp only [binOp]
  simp [Op.equal,Op.maxDepth,h2 9999]
theorem nodeP_eql {w:World} {B B' k:Nat} {x y:Option T} (hx:NodeO w B k x) (hy:NodeO w B' k y):∃ r:Bool,(binOp .eql 74 (.pointer (rootP x)) (.pointer (rootP y))).run Tryz.prog w = .ok (.bool r) w∧(r = true→Tr.entsO x = Tr.entsO y):=by
  cases x with
  | none =>
    cases y with
    | none => exact ⟨true,nptr_none w,fun _ => rfl⟩
    | some t => exact ⟨false,nptr_no1 w _,fun h => Bool.noConfusion h⟩
  | some s =>
    cases y with
    | none => exact ⟨false,nptr_no2 w _,fun h => Bool.noConfusion h⟩
    | some t =>
      by_cases h:s.blk = t.blk
      · refine ⟨true,?_,fun _ => node_same (hx s rfl) (hy t rfl) h⟩
        show (binOp .eql 74 (.pointer (some ⟨s.blk,0,none⟩)) (.pointer (some ⟨t.blk,0,none⟩))).run Tryz.prog w = _
        rw [h]
        exact ptr_eq w _
      · exact ⟨false,nptr_ne (hx s rfl).trb (hy t rfl).trb h,fun h => Bool.noConfusion h⟩
end Go.Proofs.YtmkejbfgdmbejaaGreatDoor
namespace Go.Proofs.YtmkejbfgdmbejaaGreatDoor
open Go.ChangeShapes Go.WideShapes Go.ChangeAt Go.RowKit
open Tr (T S4 Ent Chg Raw Pc)
theorem lst_pt {w W:World} {B k:Nat} {A':Option Addr} {c':Nat} {p:List Nat} {v:Nat} (hp:Pts w B A' p) (hk:p.length = k) (h16:k≤16) (hv:v < 18446744073709551616) :
    Lst 2 (EntQ w B) (W.alloc (.cells #[.slice A' k c',.int .u64 (v:Int)] 69)) (W.heap.size + 1) (some ⟨W.heap.size,0,none⟩) [(p,v)]:=by
  subst hk
  exact lst_one hp (by unfold maxLen;omega) hv
end Go.Proofs.YtmkejbfgdmbejaaGreatDoor
