import Derived.Test.YtkeepngaaleakaaGreatDoorMXs
namespace Go.Proofs.YtkeepngaaleakaaGreatDoor
open Go.ChangeShapes Go.WideShapes Go.ChangeAt Go.RowKit
open Tr (T S4 Ent Tri KL)
theorem tptrS_sn (w:World) (a:Addr):(binOp .eql 29 (.pointer (some a)) (.pointer none)).run Tryz.prog w = .ok (.bool false) w:=by
  have h2:∀ d:Nat,(Op.equalIn (d + 1) 29 (.pointer (some a)) (.pointer none)).run Tryz.prog w = .ok false w:=fun d => by
    simp [Op.equalIn,run_underlying Tryz.underlying29]
  simp only [binOp]
  simp [Op.equal,Op.maxDepth,h2 9999]
theorem sRefusal_ok {w:World} {b0 b1 k0 k1:Nat} {x y:Option T} (h0:TreeX w b0 k0 x) (h1:TreeX w b1 k1 y) (hk:k1 = k0):Calls Tryz.prog 66 #[.pointer (some ⟨b0,0,none⟩),.pointer (some ⟨b1,0,none⟩)] w fun e w' => e = .returned (.int .i64 0)∧Below w.heap.size w w':=by
  have h2:=tptrS_sn
  have HK0:Hid (∀ w',Below w.heap.size w w'→Calls Tryz.prog 57 #[.pointer (some ⟨b0,0,none⟩)] w' fun e w'' => e = .returned (.int .i64 (k0:Int))∧w' = w''):=Lib.hid fun w' hw => tK_c (h0.below hw (Nat.le_refl _)).1.2.2.2.1
  have HK1:Hid (∀ w',Below w.heap.size w w'→Calls Tryz.prog 57 #[.pointer (some ⟨b1,0,none⟩)] w' fun e w'' => e = .returned (.int .i64 (k1:Int))∧w' = w''):=Lib.hid fun w' hw => tK_c (h1.below hw (Nat.le_refl _)).1.2.2.2.1
  have hb:=Below.refl w.heap.size w
  have hr:((k0:Int) != (k1:Int)) = false:=by subst hk;simp
  clear h0 h1 hk
  go_enter Tryz.func66,Tryz.ntmps66
  go_wp2_with fail
  refine (HK0.out _ (by ((repeat first | refine bD ?_ | with_reducible refine bN ?_ | refine bA ?_ | refine bS ?_);first | exact bR | assumption | exact bN bR | exact bN (bN bR)))).mono ?_
  rintro e w1 ⟨rfl,rfl⟩
  go_wp2_with fail
  refine (HK1.out _ (by ((repeat first | refine bD ?_ | with_reducible refine bN ?_ | refine bA ?_ | refine bS ?_);first | exact bR | assumption | exact bN bR | exact bN (bN bR)))).mono ?_
  rintro e w1 ⟨rfl,rfl⟩
  go_wp2_with fail
  go_ret
  exact ⟨rfl,by ((repeat first | refine bD ?_ | with_reducible refine bN ?_ | refine bA ?_ | refine bS ?_);first | exact bR | assumption | exact bN bR | exact bN (bN bR))⟩
def ruleV (r:Int) (v w:Nat):Nat:=if r = 3 then min v w else if r = 4 then max v w else if r = 5 then (v + w) % 18446744073709551616 else if r = 6 then max v w - min v w else v
theorem sKeeps_c (r:Int) (w:World):Calls Tryz.prog 127 #[.int .i64 r] w fun e w' => e = .returned (.bool (r != 5 && r != 6))∧Below w.heap.size w w':=by
  have hb:=Below.refl w.heap.size w
  obtain ⟨a,ha⟩:∃ a,(r != 5) = a:=⟨_,rfl⟩
  obtain ⟨b,hb'⟩:∃ a,(r != 6) = a:=⟨_,rfl⟩
  rw [ha,hb']
  cases a
  all_goals cases b
  all_goals (
    go_enter Tryz.func127,Tryz.ntmps127
    go_wp2_with fail
    go_ret
    exact ⟨rfl,by ((repeat first | refine bD ?_ | with_reducible refine bN ?_ | refine bA ?_ | refine bS ?_);first | exact bR | assumption | exact bN bR | exact bN (bN bR))⟩)
set_option maxRecDepth 100000 in
theorem sBy_c {r:Int} {v u:Nat} (hr:r = 1∨r = 3∨r = 4∨r = 5∨r = 6) (hv:v < 18446744073709551616) (hu:u < 18446744073709551616) (w:World):Calls Tryz.prog 130 #[.int .i64 r,.int .u64 (v:Int),.int .u64 (u:Int)] w fun e w' => e = .returned (.int .u64 (ruleV r v u:Int))∧Below w.heap.size w w':=by
  have hb:=Below.refl w.heap.size w
  rcases hr with rfl | rfl | rfl | rfl | rfl
  · go_enter Tryz.func130,Tryz.ntmps130
    go_wp2_with fail
    refine bodyPost_ret (v:=.int .u64 ((v:Int))) (by simp [results,Tryz.results130,go_sem]) rfl ⟨?_,hb⟩
    have h:((ruleV 1 v u:Nat):Int) = (v:Int):=by simp [ruleV]
    rw [h]
  · go_enter Tryz.func130,Tryz.ntmps130
    go_wp2_with fail
    refine bodyPost_ret (v:=.int .u64 (min (v:Int) (u:Int))) (by simp [results,Tryz.results130,go_sem]) rfl ⟨?_,hb⟩
    have h:((ruleV 3 v u:Nat):Int) = min (v:Int) (u:Int):=by simp [ruleV];omega
    rw [h]
  · go_enter Tryz.func130,Tryz.ntmps130
    go_wp2_with fail
    refine bodyPost_ret (v:=.int .u64 (max (v:Int) (u:Int))) (by simp [results,Tryz.results130,go_sem]) rfl ⟨?_,hb⟩
    have h:((ruleV 4 v u:Nat):Int) = max (v:Int) (u:Int):=by simp [ruleV];omega
    rw [h]
  · go_enter Tryz.func130,Tryz.ntmps130
    go_wp2_with fail
    refine bodyPost_ret (v:=.int .u64 (IntKind.u64.wrap ((v:Int) + (u:Int)))) (by simp [results,Tryz.results130,go_sem]) rfl ⟨?_,hb⟩
    have h:((ruleV 5 v u:Nat):Int) = IntKind.u64.wrap ((v:Int) + (u:Int)):=by rw [IntKind.wrap_u64];simp [ruleV]
    rw [h]
  · go_enter Tryz.func130,Tryz.ntmps130
    go_wp2_with fail
    refine bodyPost_ret (v:=.int .u64 (max (v:Int) (u:Int) - min (v:Int) (u:Int))) (by simp [results,Tryz.results130,go_sem]) rfl ⟨?_,hb⟩
    have h:((ruleV 6 v u:Nat):Int) = max (v:Int) (u:Int) - min (v:Int) (u:Int):=by simp [ruleV];omega
    rw [h]
set_option maxRecDepth 100000 in
set_option maxHeartbeats 4000000 in
theorem sKnown_c {w:World} {B k h:Nat} {u:Tri} {r:Int} (hr:w.heap[h]? = some (.cells #[.int .i64 r] 3 (0,0))) (hu:TriN w B k u) (hB:B≤w.heap.size) :
    Calls Tryz.prog 126 #[prS u,.pointer (some ⟨h,0,none⟩)] w fun e w' => e = .returned (.bool ((r != 5 && r != 6) && decide (rootP u.a = rootP u.b)))∧Below w.heap.size w w':=by
  obtain ⟨W0,hW0⟩:∃ W0,W0 = w.alloc (.cells #[.pointer (rootP u.a),.pointer (rootP u.b)] 97):=⟨_,rfl⟩
  have hb0:Below w.heap.size w W0:=by rw [hW0];exact below_alloc _ _
  have ha0:W0.heap[w.heap.size]? = some (.cells #[.pointer (rootP u.a),.pointer (rootP u.b)] 97 (0,0)):=by rw [hW0];exact heap_at w _ _ rfl
  have hr0:=keepz hr hb0
  have c0:W0.cell? ⟨h,0,none⟩ = some (.int .i64 r):=by rw [cell_of_row W0 _ _ _ _ (0,0) hr0];rfl
  have HKe:=Lib.hid (sKeeps_c r W0)
  obtain ⟨a,ha⟩:∃ a,(r != 5 && r != 6) = a:=⟨_,rfl⟩
  rw [ha] at HKe ⊢
  have HS:Hid (∀ w1,Below W0.heap.size W0 w1→Calls Tryz.prog 67 #[p2V (rootP u.a) (rootP u.b)] w1 fun e w' => e = .returned (.bool (decide (rootP u.a = rootP u.b)))∧Below w1.heap.size w1 w'):=Lib.hid fun w1 hb => by
    have h1:=Below.andThen hb0 hb
    exact sSame_c (hu.a.below h1 hB (Nat.le_refl _)) (hu.b.below h1 hB (Nat.le_refl _)) (Nat.le_trans hB h1.size)
  obtain ⟨d,hd⟩:∃ d,decide (rootP u.a = rootP u.b) = d:=⟨_,rfl⟩
  rw [hd] at HS ⊢
  have HA:=Lib.hid ha0
  have HW:=Lib.hid hW0
  have HB:=Lib.hid hb0
  clear hr hu hB hW0 hb0 ha0 hr0 ha hd
  go_enter Tryz.func126,Tryz.ntmps126
  go_upto_region 1 with fail
  rw [← HW.out]
  go_wp2_with fail
  refine HKe.out.mono ?_
  rintro e w1 ⟨rfl,hb1⟩
  obtain ⟨p0,p1,-⟩:=atS_cells (keepz HA.out hb1)
  have H1:=Lib.hid hb1
  clear hb1 HKe
  cases a with
  | false =>
    go_wp2_with fail
    go_ret
    exact ⟨by simp,Below.andThen HB.out H1.out⟩
  | true =>
    go_wp2_with fail
    refine (HS.out _ H1.out).mono ?_
    rintro e w2 ⟨rfl,hb2⟩
    have H2:=Lib.hid hb2
    clear hb2 HS
    go_wp2_with fail
    go_ret
    exact ⟨by simp,Below.andThen (Below.andThen HB.out H1.out) H2.out⟩
end Go.Proofs.YtkeepngaaleakaaGreatDoor
