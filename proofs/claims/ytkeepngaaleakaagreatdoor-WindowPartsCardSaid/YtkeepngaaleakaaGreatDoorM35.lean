import Derived.Test.YtkeepngaaleakaaGreatDoorM18
import Derived.Test.YtkeepngaaleakaaGreatDoorM33
namespace Go.Proofs.YtkeepngaaleakaaGreatDoor
open Go.ChangeShapes Go.WideShapes Go.ChangeAt Go.RowKit
open Tr (T S4 Ent)
set_option maxRecDepth 100000 in
theorem rheavy7_c {w:World} {B:Nat} {A:Option Addr} {c:Nat} {L:List ActT} (h:ActsT w B A L) (hl:L.length≤maxLen) (m:Nat) (r:Bool) (hr:decide (m < L.length∨∃ e∈L,40 < e.p.length) = r) :
    Calls Tryz.prog 14 #[.slice A L.length c,.int .i64 (m:Int)] w fun e w' => e = .returned (.bool r)∧w = w':=by
  have HX:=Lib.hid (And.intro h hr)
  have hm:L.length≤9223372036854775807:=by unfold maxLen at hl;omega
  clear h hr hl
  by_cases hbig:m < L.length
  · have d1:decide ((m:Int) < (L.length:Int)) = true:=decide_eq_true (by omega)
    have hrt:Hid (r = true):=Lib.hid (by rw [← HX.out.2];exact decide_eq_true (.inl hbig))
    have d1':decide (m < L.length) = true:=decide_eq_true hbig
    go_enter Tryz.func14,Tryz.ntmps14
    go_wp2
    go_ret
    exact ⟨by rw [hrt.out];rfl,rfl⟩
  · have d1:decide ((m:Int) < (L.length:Int)) = false:=decide_eq_false (by omega)
    have d1':decide (m < L.length) = false:=decide_eq_false hbig
    have HB:=Lib.hid hbig
    go_enter Tryz.func14,Tryz.ntmps14
    go_wp2
    go_loopw [5] (fun i wr => ∃ j:Nat,j≤L.length∧i = .int .i64 j∧wr = w∧∀ q e,q < j→L[q]? = some e→¬ 40 < e.p.length) (fun i _ => L.length - (intOf i).toNat)
    case atStart => exact ⟨0,Nat.zero_le _,(by first | rfl | trivial),(by first | rfl | trivial),fun m e hm => by omega⟩
    case round =>
      obtain ⟨j,hj,rfl,rfl,hbe⟩:=hrel
      by_cases hlt:j < L.length
      · obtain ⟨e,he⟩:=get_lt hlt
        obtain ⟨b,off,A1,c1,hA,-,-,x0,-,-,-,-⟩:=HX.out.1.at he
        subst hA
        have m1:(0:Int)≤(j:Int):=by omega
        have m2:(j:Int) < (L.length:Int):=by omega
        have HY:=Lib.hid (And.intro he hbe)
        by_cases hc:40 < e.p.length
        · have d2:decide ((40:Int) < (e.p.length:Int)) = true:=decide_eq_true (by omega)
          have hrt:Hid (r = true):=Lib.hid (by rw [← HX.out.2];exact decide_eq_true (.inr ⟨e,List.mem_of_getElem? he,hc⟩))
          clear he hbe hc
          go_wp2_with fail
          go_ret
          exact ⟨by rw [hrt.out];rfl,rfl⟩
        · have d2:decide ((40:Int) < (e.p.length:Int)) = false:=decide_eq_false (by omega)
          have hc:=Lib.hid hc
          clear he hbe
          go_wp2_with fail
          go_roundw
          case rel =>
            refine ⟨j + 1,by omega,by go_num,(by first | rfl | trivial),fun q e' hq he' => ?_⟩
            by_cases c:q < j
            · exact HY.out.2 q e' c he'
            · have:q = j:=by omega
              subst this
              rw [HY.out.1] at he'
              cases he'
              exact hc.out
          case measure => simp [intOf];omega
      · have hrf:Hid (r = false):=Lib.hid (by
          rw [← HX.out.2]
          refine decide_eq_false ?_
          rintro (h | ⟨e,he,h40⟩)
          · exact HB.out h
          · obtain ⟨q,hq⟩:=List.mem_iff_getElem?.1 he
            exact hbe q e (by have:=lt_get hq;omega) hq h40)
        clear hbe
        go_wp2_with fail
        go_ret
        exact ⟨by rw [hrf.out];rfl,rfl⟩
def heavyA (m:Nat) (L:List ActT):Bool:=decide (m < L.length∨∃ a∈L,40 < a.p.length)
theorem heavyA_few {m:Nat} {L:List ActT} (h:heavyA m L = false):L.length≤m:=by
  simp only [heavyA,decide_eq_false_iff_not,not_or] at h
  omega
theorem Hand.ents {w w':World} {C b k:Nat} {o:Option T} {A:Option Addr} {c M:Nat} (h:Hand w C b k o A c M) (hb:Below w.heap.size w w'):Ents w' w'.heap.size A (Tr.entsO o) :=
  (h.list.ents h.old (Nat.le_refl _)).below hb (Nat.le_refl _) hb.size
end Go.Proofs.YtkeepngaaleakaaGreatDoor
