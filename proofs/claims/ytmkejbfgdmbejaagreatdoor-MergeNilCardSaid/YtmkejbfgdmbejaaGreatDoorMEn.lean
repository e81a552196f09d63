import Derived.Test.YtmkejbfgdmbejaaGreatDoorMVg
namespace Go.Proofs.YtmkejbfgdmbejaaGreatDoor
open Go.ChangeShapes Go.WideShapes Go.ChangeAt Go.RowKit
open Tr (T S4 Ent Tri KL)
theorem mRefusal_nil {w:World} {g d:Nat} {p0 p1 p2:Option Addr} (h:TreP w g p0 p1 p2) (hn:(p0.isNone || p1.isNone || p2.isNone) = true):Calls Tryz.prog 53 #[.slice (some ⟨g,0,none⟩) 3 d] w fun e w' => e = .returned (.int .i64 1)∧Below w.heap.size w w':=by
  have HI:=Lib.hid (mContains_c (d:=d) h)
  rw [hn] at HI
  clear h hn
  go_enter Tryz.func53,Tryz.ntmps53
  go_wp2_with fail
  refine HI.out.mono ?_
  rintro e w1 ⟨rfl,hbl⟩
  go_wp2_with fail
  go_ret
  exact ⟨rfl,hbl⟩
theorem mClashes_nil (w:World) (p0 p1 p2:Option Addr) (hn:(p0.isNone || p1.isNone || p2.isNone) = true):Calls Tryz.prog 23 #[.pointer p0,.pointer p1,.pointer p2] w fun e w' => e = .returned (.tuple #[.slice none 0 0,.int .i64 1])∧Below w.heap.size w w':=by
  have HR:=Lib.hid fun (d:Nat) => mRefusal_nil (d:=d) (treP_at w p0 p1 p2 29) hn
  have hb:=Lib.hid (below_alloc w (.cells #[.pointer p0,.pointer p1,.pointer p2] 29))
  clear hn
  go_enter Tryz.func23,Tryz.ntmps23
  go_wp2_with fail
  refine (HR.out _).mono ?_
  rintro e w1 ⟨rfl,hb1⟩
  have HB:=Lib.hid (Below.andThen hb.out hb1)
  clear hb1 HR
  go_wp2_with fail
  go_ret2
  exact ⟨rfl,HB.out⟩
theorem mBy_nil (w:World) (p0 p1 p2:Option Addr) (r:Int) (hn:(p0.isNone || p1.isNone || p2.isNone) = true):Calls Tryz.prog 24 #[.pointer p0,.pointer p1,.pointer p2,.int .i64 r] w fun e w' => e = .returned (.tuple #[.pointer none,.int .i64 0,.int .i64 1])∧Below w.heap.size w w':=by
  obtain ⟨W1,hW1⟩:∃ W1,W1 = w.alloc (.cells #[.int .i64 r] 3):=⟨_,rfl⟩
  have hb1:Below w.heap.size w W1:=by rw [hW1];exact below_alloc _ _
  have HR:=Lib.hid fun (d:Nat) => mRefusal_nil (d:=d) (treP_at W1 p0 p1 p2 29) hn
  have hb:=Lib.hid (Below.andThen hb1 (below_alloc W1 (.cells #[.pointer p0,.pointer p1,.pointer p2] 29)))
  have HW:=Lib.hid hW1
  clear hn hb1 hW1
  go_enter Tryz.func24,Tryz.ntmps24
  go_upto_region 1 with fail
  rw [← HW.out]
  go_wp2_with fail
  refine (HR.out _).mono ?_
  rintro e w1 ⟨rfl,hb1⟩
  have HB:=Lib.hid (Below.andThen hb.out hb1)
  clear hb1 HR
  go_wp2_with fail
  go_ret3
  exact ⟨rfl,HB.out⟩
theorem mThree_nil (w:World) (p0 p1 p2:Option Addr) (hn:(p0.isNone || p1.isNone || p2.isNone) = true):Calls Tryz.prog 22 #[.pointer p0,.pointer p1,.pointer p2] w fun e w' => e = .returned (.tuple #[.pointer none,.slice none 0 0,.int .i64 1])∧Below w.heap.size w w':=by
  have HR:=Lib.hid (mClashes_nil w p0 p1 p2 hn)
  clear hn
  go_enter Tryz.func22,Tryz.ntmps22
  go_wp2_with fail
  refine HR.out.mono ?_
  rintro e w1 ⟨rfl,hb1⟩
  have HB:=Lib.hid hb1
  clear hb1 HR
  go_wp2_with fail
  go_ret3
  exact ⟨rfl,HB.out⟩
end Go.Proofs.YtmkejbfgdmbejaaGreatDoor
