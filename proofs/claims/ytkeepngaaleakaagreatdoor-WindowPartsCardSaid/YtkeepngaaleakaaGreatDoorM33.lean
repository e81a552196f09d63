import Derived.Test.YtkeepngaaleakaaGreatDoorM30
import Derived.Test.YtkeepngaaleakaaGreatDoorM27
namespace Go.Proofs.YtkeepngaaleakaaGreatDoor
open Go.ChangeShapes Go.WideShapes Go.ChangeAt Go.RowKit
open Tr (T S4 Ent)
set_option maxRecDepth 100000 in
set_option maxHeartbeats 2000000 in
theorem rsameEnts_c {w:World} {L:List Ent} {A A':Option Addr} {c c':Nat} (h:Ents w w.heap.size A L) (h':Ents w w.heap.size A' L) (hl:L.length≤1000000000) :
    Calls Tryz.prog 48 #[.slice A L.length c,.slice A' L.length c'] w fun e w' => e = .returned (.bool true)∧Below w.heap.size w w':=by
  have HX:=Lib.hid (And.intro h h')
  have n1:((L.length:Int) != (L.length:Int)) = false:=by simp
  clear h h'
  go_enter Tryz.func48,Tryz.ntmps48
  go_wp2_with fail
  go_loopw [5] (fun i wr => ∃ j:Nat,j≤L.length∧i = .int .i64 j∧Below w.heap.size w wr) (fun i _ => L.length - (intOf i).toNat)
  case atStart => exact ⟨0,Nat.zero_le _,rfl,Below.refl _ _⟩
  case round =>
    obtain ⟨j,hj,rfl,hbr⟩:=hrel
    have HB:=Lib.hid hbr
    by_cases hlt:j < L.length
    · obtain ⟨y,hy⟩:=get_lt hlt
      obtain ⟨b,off,P,pc,hA,hb,e0,e1,pp,pl,ph⟩:=(HX.out.1.below hbr (Nat.le_refl _) hbr.size).at hy
      obtain ⟨b2,off2,P2,pc2,hA2,hb2,g0,g1,pp2,-,-⟩:=(HX.out.2.below hbr (Nat.le_refl _) hbr.size).at hy
      subst hA hA2
      have a0:∀ w',Below wr.heap.size wr w'→w'.cell? ⟨b,off + j * 2,none⟩ = some (.slice P y.1.length pc):=fun w' h => (h.cell (p:=⟨b,off + j * 2,none⟩) hb).trans e0
      have a1:∀ w',Below wr.heap.size wr w'→w'.cell? ⟨b,off + j * 2 + 1,none⟩ = some (.int .u64 (y.2:Int)):=fun w' h => (h.cell (p:=⟨b,off + j * 2 + 1,none⟩) hb).trans e1
      have a2:∀ w',Below wr.heap.size wr w'→w'.cell? ⟨b2,off2 + j * 2,none⟩ = some (.slice P2 y.1.length pc2):=fun w' h => (h.cell (p:=⟨b2,off2 + j * 2,none⟩) hb2).trans g0
      have a3:∀ w',Below wr.heap.size wr w'→w'.cell? ⟨b2,off2 + j * 2 + 1,none⟩ = some (.int .u64 (y.2:Int)):=fun w' h => (h.cell (p:=⟨b2,off2 + j * 2 + 1,none⟩) hb2).trans g1
      have HC:Hid (∀ w1,Below wr.heap.size wr w1→Calls Tryz.prog 105 #[.slice P y.1.length pc,.slice P2 y.1.length pc2] w1 fun e w' => e = .returned (.bool true)∧Below w1.heap.size w1 w'):=Lib.hid fun w1 hb1 =>
        rsame_self P P2 pc pc2 y.1 wr.heap.size w1 (pp.below' hb1 (Nat.le_refl _)) (pp2.below' hb1 (Nat.le_refl _)) hb1.size pl
      have hb0:Below wr.heap.size wr wr:=Below.refl _ _
      have m1:(0:Int)≤(j:Int):=by omega
      have m2:(j:Int) < (L.length:Int):=by omega
      clear hy e0 e1 g0 g1 pp pp2 pl ph hbr
      go_wp2_with fail
      go_region_held3 (fun w' => Below wr.heap.size wr w') (((repeat first | refine bD ?_ | with_reducible refine bN ?_ | refine bA ?_ | refine bS ?_);first | exact bR | assumption | exact bN bR | exact bN (bN bR)))
        ((go_at_call 105;refine (HC.out _ (show Below wr.heap.size wr _ by ((repeat first | refine bD ?_ | with_reducible refine bN ?_ | refine bA ?_ | refine bS ?_);first | exact bR | assumption | exact bN bR | exact bN (bN bR)))).mono ?_;rintro e w2 ⟨rfl,hb2⟩;have hbD:=Below.trans (show Below wr.heap.size wr _ by ((repeat first | refine bD ?_ | with_reducible refine bN ?_ | refine bA ?_ | refine bS ?_);first | exact bR | assumption | exact bN bR | exact bN (bN bR))) (hb2.mono (Below.size (show Below wr.heap.size wr _ by ((repeat first | refine bD ?_ | with_reducible refine bN ?_ | refine bA ?_ | refine bS ?_);first | exact bR | assumption | exact bN bR | exact bN (bN bR)))));clear hb2))
      clear a0 a1 a2 a3
      go_wp2_with fail
      go_roundw
      case rel => exact ⟨j + 1,by omega,by go_num,HB.out.trans (hbD.mono HB.out.size)⟩
      case measure => simp [intOf];omega
    · go_wp2_with fail
      go_ret
      exact ⟨rfl,HB.out⟩
/-! ### at -/
end Go.Proofs.YtkeepngaaleakaaGreatDoor
namespace Go.Proofs.YtkeepngaaleakaaGreatDoor
open Go.ChangeShapes Go.WideShapes Go.ChangeAt Go.RowKit
open Tr (T S4 Ent Shp)
theorem pts_two' {w W:World} (a b:Nat) (ha:a < 1000) (hb:b < 1000) (h:Below (w.alloc (.cells #[.int .u64 (a:Int),.int .u64 (b:Int)] 55)).heap.size (w.alloc (.cells #[.int .u64 (a:Int),.int .u64 (b:Int)] 55)) W):Pts W W.heap.size (some ⟨w.heap.size,0,none⟩) [a,b] :=
  ((pts_two w a b ha hb).below' h (Nat.le_refl _)).keep h.size (fun _ _ => rfl)
end Go.Proofs.YtkeepngaaleakaaGreatDoor
