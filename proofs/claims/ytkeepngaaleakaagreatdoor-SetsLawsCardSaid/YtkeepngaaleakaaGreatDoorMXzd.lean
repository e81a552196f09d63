import Derived.Test.YtkeepngaaleakaaGreatDoorMXz
namespace Go.Proofs.YtkeepngaaleakaaGreatDoor
open Go.ChangeShapes Go.WideShapes Go.ChangeAt Go.RowKit
open Tr (T S4 Ent Tri KL)
theorem store_one0 (w:World) (f:Fn) (c b:Array Value) (u:Value) (ty:TypeId):(store ⟨w.heap.size,0,none⟩ (.func f c b)).run Tryz.prog (w.alloc (.cells #[u] ty)) = .ok () ((w.alloc (.cells #[u] ty)).setCell ⟨w.heap.size,0,none⟩ (.func f c b)):=by
  have h:=heap_at w (.cells #[u] ty) _ rfl
  exact sstore_func f c b (u:=u) (by rw [cell_of_row _ _ _ _ _ (0,0) h];rfl) (frozen_of_row _ _ 0 _ _ h)
theorem fn_cells {w':World} {g:Nat} {a:Value} {ty:TypeId} (h:w'.heap[g]? = some (.cells #[a] ty (0,0))):w'.cell? ⟨g,0,none⟩ = some a:=by
  rw [cell_of_row w' _ _ _ _ (0,0) h];rfl
set_option maxRecDepth 1000000 in
set_option maxHeartbeats 8000000 in
theorem sRule_c {fa:Nat} {la:Array Value} {un:Bool} {w:World} {b0 b1 k:Nat} {x y:Option T} {r:Int} (enta:∀ args w,(callFunc fa args).run Tryz.prog w = .ok (.enter fa args) w) (hal:AloneS w.heap.size k fa la (Tr.jG r un un true)) (h0:TreeX w b0 k x) (h1:TreeX w b1 k y) (hrr:r = 1∨r = 3∨r = 4∨r = 5∨r = 6) (hT:∀ w',Below w.heap.size w w'→Tz w') (hM:Tr.wgt3 (two x y)≤1000000) (hcn:cnt3 (two x y)≤1000000000) :
    Calls Tryz.prog 63 #[.pointer (some ⟨b0,0,none⟩),.pointer (some ⟨b1,0,none⟩),.int .i64 r,.func (.func fa) #[] la] w fun e w' => ∃ (b:Nat) (N:Option T),e = .returned (.tuple #[.pointer (some ⟨b,0,none⟩),.int .i64 0])∧TreeX w' b k N∧Tr.entsO N = Tr.jL r un un true (Tr.entsO x) (Tr.entsO y)∧Below w.heap.size w w':=by
  have hba:=below_alloc w (.cells #[.int .i64 r] 3)
  have hra:=heap_at w (.cells #[.int .i64 r] 3) _ rfl
  have HRf:=Lib.hid (sRefusal_ok (h0.below hba (Nat.le_refl _)) (h1.below hba (Nat.le_refl _)) rfl)
  have HX:=Lib.hid (And.intro h0 (And.intro h1 (And.intro hT (And.intro hM (And.intro hcn (And.intro enta hal))))))
  have HB:=Lib.hid (And.intro hba hra)
  have d1:decide (r < 1) = false:=decide_eq_false (by omega)
  have d2:decide (6 < r) = false:=decide_eq_false (by omega)
  have d3:(r == 2) = false:=by rw [beq_eq_false_iff_ne];omega
  have HR:=Lib.hid hrr
  clear h0 h1 hT hM hcn enta hal hba hra hrr
  go_enter Tryz.func63,Tryz.ntmps63
  go_wp2_with fail
  refine HRf.out.mono ?_
  rintro e w1 ⟨rfl,hb1⟩
  have c0:=fn_cells (keepz HB.out.2 hb1)
  have hbw1:=Below.andThen HB.out.1 hb1
  have hr1:=keepz HB.out.2 hb1
  have hlw:w.heap.size < w1.heap.size:=(Array.getElem?_eq_some_iff.1 hr1).1
  obtain ⟨W2,hW2⟩:∃ W2,W2 = w1.alloc (.cells #[.func (.func 126) #[] #[.pointer (some ⟨w.heap.size,0,none⟩)]] 99):=⟨_,rfl⟩
  have hb2:Below w1.heap.size w1 W2:=by rw [hW2];exact below_alloc _ _
  have hk2:W2.heap[w1.heap.size]? = some (.cells #[.func (.func 126) #[] #[.pointer (some ⟨w.heap.size,0,none⟩)]] 99 (0,0)):=by rw [hW2];exact heap_at w1 _ _ rfl
  have hs2:W2.heap.size = w1.heap.size + 1:=by rw [hW2,World.size_alloc]
  have hr2:W2.heap[w.heap.size]? = some (.cells #[.int .i64 r] 3 (0,0)):=(hb2.block _ hlw).trans hr1
  obtain ⟨W3,hW3⟩:∃ W3,W3 = W2.alloc (.cells #[.func (.func 126) #[] #[.pointer (some ⟨w.heap.size,0,none⟩)],.func (.func fa) #[] la,.func (.func 128) #[] #[.pointer (some ⟨w1.heap.size,0,none⟩),.pointer (some ⟨w.heap.size,0,none⟩)]] 102):=⟨_,rfl⟩
  have hb3:Below W2.heap.size W2 W3:=by rw [hW3];exact below_alloc _ _
  have hm3:W3.heap[W2.heap.size]? = some (.cells #[.func (.func 126) #[] #[.pointer (some ⟨w.heap.size,0,none⟩)],.func (.func fa) #[] la,.func (.func 128) #[] #[.pointer (some ⟨w1.heap.size,0,none⟩),.pointer (some ⟨w.heap.size,0,none⟩)]] 102 (0,0)):=by rw [hW3];exact heap_at W2 _ _ rfl
  have hbW2:Below w.heap.size w W2:=(hbw1).trans (hb2.mono (Nat.le_of_lt hlw))
  have hbW3:=Below.andThen hbW2 hb3
  have hI:RuleI w1.heap.size w.heap.size r W3:=⟨keepz hk2 hb3,keepz hr2 hb3⟩
  obtain ⟨h0,h1,hT,hM,hcn,enta,hal⟩:=HX.out
  have HTr:=Lib.hid (sTree_c (w0:=w) (w:=W3) (rule_mk (un:=un) (B:=w.heap.size) (k:=k) (hk:=w1.heap.size) (hr:=w.heap.size) (Nat.le_of_lt hlw) (Nat.le_refl _) HR.out enta hal) hI h0 h1 hbW3 hT hM hcn)
  have s0:=store_one0 w1 (.func 126) #[] #[.pointer (some ⟨w.heap.size,0,none⟩)] .nilFunc 99
  have t0:=store_three0 W2 (.func 126) #[] #[.pointer (some ⟨w.heap.size,0,none⟩)] .nilFunc .nilFunc .nilFunc 102
  have t1:=store_three1 W2 (.func fa) #[] la (.func (.func 126) #[] #[.pointer (some ⟨w.heap.size,0,none⟩)]) .nilFunc .nilFunc 102
  have t2:=store_three2 W2 (.func 128) #[] #[.pointer (some ⟨w1.heap.size,0,none⟩),.pointer (some ⟨w.heap.size,0,none⟩)] (.func (.func 126) #[] #[.pointer (some ⟨w.heap.size,0,none⟩)]) (.func (.func fa) #[] la) .nilFunc 102
  have k2:=fn_cells hk2
  obtain ⟨y0,y1,y2⟩:=mk_cells hm3
  have HW:=Lib.hid (And.intro hW2 hW3)
  have HZ:=Lib.hid (And.intro (zdJ h0.1.2.2.2.2) (zdJ h1.1.2.2.2.2))
  have hse:w1.heap.size + 1 = W2.heap.size:=hs2.symm
  clear h0 h1 hT hM hcn enta hal hb1 hbw1 hlw hb2 hk2 hs2 hr2 hb3 hm3 hbW2 hbW3 hI hW2 hW3 HX HRf hr1
  go_upto_region 9 with fail
  rw [← HW.out.1]
  go_upto_region 10 with fail
  rw [← HW.out.2]
  clear s0 t0 t1 t2 k2
  go_wp2_with fail
  refine HTr.out.mono ?_
  rintro e w9 ⟨b,N,rfl,n1,n2,hb9⟩
  have H9:=Lib.hid (And.intro n1 (And.intro n2 hb9))
  clear n1 n2 hb9 HTr y0 y1 y2
  go_wp2_with fail
  go_ret2
  exact ⟨b,N,rfl,H9.out.1,(H9.out.2.1.trans (pp_j _ _ _ _ rfl)),H9.out.2.2⟩
set_option maxRecDepth 1000000 in
set_option maxHeartbeats 8000000 in
theorem sRule_2 {fa:Nat} {la:Array Value} {un:Bool} {w:World} {b0 b1 k:Nat} {x y:Option T} (enta:∀ args w,(callFunc fa args).run Tryz.prog w = .ok (.enter fa args) w) (hal:AloneS w.heap.size k fa la (Tr.jG 1 un un true)) (h0:TreeX w b0 k x) (h1:TreeX w b1 k y) (hT:∀ w',Below w.heap.size w w'→Tz w') (hM:Tr.wgt3 (two y x)≤1000000) (hcn:cnt3 (two y x)≤1000000000) :
    Calls Tryz.prog 63 #[.pointer (some ⟨b0,0,none⟩),.pointer (some ⟨b1,0,none⟩),.int .i64 2,.func (.func fa) #[] la] w fun e w' => ∃ (b:Nat) (N:Option T),e = .returned (.tuple #[.pointer (some ⟨b,0,none⟩),.int .i64 0])∧TreeX w' b k N∧Tr.entsO N = Tr.jL 2 un un true (Tr.entsO x) (Tr.entsO y)∧Below w.heap.size w w':=by
  have hba:=below_alloc w (.cells #[.int .i64 2] 3)
  have hra:=heap_at w (.cells #[.int .i64 2] 3) _ rfl
  have HRf:=Lib.hid (sRefusal_ok (h0.below hba (Nat.le_refl _)) (h1.below hba (Nat.le_refl _)) rfl)
  have HX:=Lib.hid (And.intro h0 (And.intro h1 (And.intro hT (And.intro hM (And.intro hcn (And.intro enta hal))))))
  have HB:=Lib.hid (And.intro hba hra)
  clear h0 h1 hT hM hcn enta hal hba hra
  go_enter Tryz.func63,Tryz.ntmps63
  go_wp2_with fail
  refine HRf.out.mono ?_
  rintro e w1 ⟨rfl,hb1⟩
  have c0:=fn_cells (keepz HB.out.2 hb1)
  have hbw1:=Below.andThen HB.out.1 hb1
  have hr1:=keepz HB.out.2 hb1
  obtain ⟨wx,hwx⟩:∃ wx,wx = w1.setCell ⟨w.heap.size,0,none⟩ (.int .i64 1):=⟨_,rfl⟩
  have hrx:wx.heap[w.heap.size]? = some (.cells #[.int .i64 1] 3 (0,0)):=by
    rw [hwx]
    have h:=heap_setCell_same w1 w.heap.size 0 _ _ (.int .i64 1) hr1
    simpa using h
  have hbx:Below w.heap.size w wx:=by rw [hwx];exact hbw1.setCell (p:=⟨w.heap.size,0,none⟩) (Nat.le_refl _) _
  have fz:=frozen_of_row w1 w.heap.size 0 _ _ hr1
  have HWx:=Lib.hid hwx
  have hlw:w.heap.size < wx.heap.size:=(Array.getElem?_eq_some_iff.1 hrx).1
  obtain ⟨W2,hW2⟩:∃ W2,W2 = wx.alloc (.cells #[.func (.func 126) #[] #[.pointer (some ⟨w.heap.size,0,none⟩)]] 99):=⟨_,rfl⟩
  have hb2:Below wx.heap.size wx W2:=by rw [hW2];exact below_alloc _ _
  have hk2:W2.heap[wx.heap.size]? = some (.cells #[.func (.func 126) #[] #[.pointer (some ⟨w.heap.size,0,none⟩)]] 99 (0,0)):=by rw [hW2];exact heap_at wx _ _ rfl
  have hs2:W2.heap.size = wx.heap.size + 1:=by rw [hW2,World.size_alloc]
  have hr2:W2.heap[w.heap.size]? = some (.cells #[.int .i64 1] 3 (0,0)):=(hb2.block _ hlw).trans hrx
  obtain ⟨W3,hW3⟩:∃ W3,W3 = W2.alloc (.cells #[.func (.func 126) #[] #[.pointer (some ⟨w.heap.size,0,none⟩)],.func (.func fa) #[] la,.func (.func 128) #[] #[.pointer (some ⟨wx.heap.size,0,none⟩),.pointer (some ⟨w.heap.size,0,none⟩)]] 102):=⟨_,rfl⟩
  have hb3:Below W2.heap.size W2 W3:=by rw [hW3];exact below_alloc _ _
  have hm3:W3.heap[W2.heap.size]? = some (.cells #[.func (.func 126) #[] #[.pointer (some ⟨w.heap.size,0,none⟩)],.func (.func fa) #[] la,.func (.func 128) #[] #[.pointer (some ⟨wx.heap.size,0,none⟩),.pointer (some ⟨w.heap.size,0,none⟩)]] 102 (0,0)):=by rw [hW3];exact heap_at W2 _ _ rfl
  have hbW2:Below w.heap.size w W2:=(hbx).trans (hb2.mono (Nat.le_of_lt hlw))
  have hbW3:=Below.andThen hbW2 hb3
  have hI:RuleI wx.heap.size w.heap.size 1 W3:=⟨keepz hk2 hb3,keepz hr2 hb3⟩
  obtain ⟨h0,h1,hT,hM,hcn,enta,hal⟩:=HX.out
  have HTr:=Lib.hid (sTree_c (w0:=w) (w:=W3) (rule_mk (un:=un) (B:=w.heap.size) (k:=k) (hk:=wx.heap.size) (hr:=w.heap.size) (Nat.le_of_lt hlw) (Nat.le_refl _) (.inl rfl) enta hal) hI h1 h0 hbW3 hT hM hcn)
  have s0:=store_one0 wx (.func 126) #[] #[.pointer (some ⟨w.heap.size,0,none⟩)] .nilFunc 99
  have t0:=store_three0 W2 (.func 126) #[] #[.pointer (some ⟨w.heap.size,0,none⟩)] .nilFunc .nilFunc .nilFunc 102
  have t1:=store_three1 W2 (.func fa) #[] la (.func (.func 126) #[] #[.pointer (some ⟨w.heap.size,0,none⟩)]) .nilFunc .nilFunc 102
  have t2:=store_three2 W2 (.func 128) #[] #[.pointer (some ⟨wx.heap.size,0,none⟩),.pointer (some ⟨w.heap.size,0,none⟩)] (.func (.func 126) #[] #[.pointer (some ⟨w.heap.size,0,none⟩)]) (.func (.func fa) #[] la) .nilFunc 102
  have k2:=fn_cells hk2
  obtain ⟨y0,y1,y2⟩:=mk_cells hm3
  have HW:=Lib.hid (And.intro hW2 hW3)
  have HZ:=Lib.hid (And.intro (zdJ h0.1.2.2.2.2) (zdJ h1.1.2.2.2.2))
  have hse:wx.heap.size + 1 = W2.heap.size:=hs2.symm
  clear h0 h1 hT hM hcn enta hal hb1 hbw1 hlw hb2 hk2 hs2 hr2 hb3 hm3 hbW2 hbW3 hI hW2 hW3 HX HRf hr1 hwx hrx hbx
  go_upto_region 8 with fail
  rw [← HWx.out]
  go_upto_region 9 with fail
  rw [← HW.out.1]
  go_upto_region 10 with fail
  rw [← HW.out.2]
  clear s0 t0 t1 t2 k2
  go_wp2_with fail
  refine HTr.out.mono ?_
  rintro e w9 ⟨b,N,rfl,n1,n2,hb9⟩
  have H9:=Lib.hid (And.intro n1 (And.intro n2 hb9))
  clear n1 n2 hb9 HTr y0 y1 y2
  go_wp2_with fail
  go_ret2
  exact ⟨b,N,rfl,H9.out.1,(H9.out.2.1.trans ((pp_j _ _ _ _ rfl).trans (Tr.jL_second _ _ _ HZ.out.1 HZ.out.2).symm)),H9.out.2.2⟩
theorem sUnion_of {w:World} {va vb:Value} {r:Int} {Q:Ending→World→Prop} (h:Calls Tryz.prog 63 #[va,vb,.int .i64 r,.func (.func 64) #[] #[]] w fun e w' => ∃ (v:Option Addr) (c:Int),e = .returned (.tuple #[.pointer v,.int .i64 c])∧Q e w') :
    Calls Tryz.prog 23 #[va,vb,.int .i64 r] w Q:=by
  have H:=Lib.hid h
  clear h
  go_enter Tryz.func23,Tryz.ntmps23
  go_wp2_with fail
  refine H.out.mono ?_
  rintro e w1 ⟨v,c,rfl,hq⟩
  have HQ:=Lib.hid hq
  clear hq
  go_wp2_with fail
  exact HQ.out
theorem sUnion_c {w:World} {b0 b1 k:Nat} {x y:Option T} (h0:TreeX w b0 k x) (h1:TreeX w b1 k y) {r:Int} (hr:1≤r∧r≤6) (hT:∀ w',Below w.heap.size w w'→Tz w') (hM:Tr.wgt3 (two x y)≤1000000∧Tr.wgt3 (two y x)≤1000000) (hcn:cnt3 (two x y)≤1000000000∧cnt3 (two y x)≤1000000000) :
    Calls Tryz.prog 23 #[.pointer (some ⟨b0,0,none⟩),.pointer (some ⟨b1,0,none⟩),.int .i64 r] w fun e w' => ∃ (b:Nat) (N:Option T),e = .returned (.tuple #[.pointer (some ⟨b,0,none⟩),.int .i64 0])∧TreeX w' b k N∧Tr.entsO N = Tr.jL r true true true (Tr.entsO x) (Tr.entsO y)∧Below w.heap.size w w':=by
  have enta:∀ args w,(callFunc 64 args).run Tryz.prog w = .ok (.enter 64 args) w:=enters_of Tryz.func64 (by kernel_rfl) rfl
  by_cases h2:r = 2
  · subst h2
    exact sUnion_of ((sRule_2 enta (either_alone _ _ 1) h0 h1 hT hM.2 hcn.2).mono fun _ _ h => by
      obtain ⟨b,N,h'⟩:=h
      exact ⟨_,_,h'.1,b,N,h'⟩)
  · exact sUnion_of ((sRule_c enta (either_alone _ _ r) h0 h1 (by omega) hT hM.1 hcn.1).mono fun _ _ h => by
      obtain ⟨b,N,h'⟩:=h
      exact ⟨_,_,h'.1,b,N,h'⟩)
theorem sCommon_of {w:World} {va vb:Value} {r:Int} {Q:Ending→World→Prop} (h:Calls Tryz.prog 63 #[va,vb,.int .i64 r,.func (.func 65) #[] #[]] w fun e w' => ∃ (v:Option Addr) (c:Int),e = .returned (.tuple #[.pointer v,.int .i64 c])∧Q e w') :
    Calls Tryz.prog 24 #[va,vb,.int .i64 r] w Q:=by
  have H:=Lib.hid h
  clear h
  go_enter Tryz.func24,Tryz.ntmps24
  go_wp2_with fail
  refine H.out.mono ?_
  rintro e w1 ⟨v,c,rfl,hq⟩
  have HQ:=Lib.hid hq
  clear hq
  go_wp2_with fail
  exact HQ.out
theorem sCommon_c {w:World} {b0 b1 k:Nat} {x y:Option T} (h0:TreeX w b0 k x) (h1:TreeX w b1 k y) {r:Int} (hr:1≤r∧r≤6) (hT:∀ w',Below w.heap.size w w'→Tz w') (hM:Tr.wgt3 (two x y)≤1000000∧Tr.wgt3 (two y x)≤1000000) (hcn:cnt3 (two x y)≤1000000000∧cnt3 (two y x)≤1000000000) :
    Calls Tryz.prog 24 #[.pointer (some ⟨b0,0,none⟩),.pointer (some ⟨b1,0,none⟩),.int .i64 r] w fun e w' => ∃ (b:Nat) (N:Option T),e = .returned (.tuple #[.pointer (some ⟨b,0,none⟩),.int .i64 0])∧TreeX w' b k N∧Tr.entsO N = Tr.jL r false false true (Tr.entsO x) (Tr.entsO y)∧Below w.heap.size w w':=by
  have enta:∀ args w,(callFunc 65 args).run Tryz.prog w = .ok (.enter 65 args) w:=enters_of Tryz.func65 (by kernel_rfl) rfl
  by_cases h2:r = 2
  · subst h2
    exact sCommon_of ((sRule_2 enta (neither_alone _ _ 1) h0 h1 hT hM.2 hcn.2).mono fun _ _ h => by
      obtain ⟨b,N,h'⟩:=h
      exact ⟨_,_,h'.1,b,N,h'⟩)
  · exact sCommon_of ((sRule_c enta (neither_alone _ _ r) h0 h1 (by omega) hT hM.1 hcn.1).mono fun _ _ h => by
      obtain ⟨b,N,h'⟩:=h
      exact ⟨_,_,h'.1,b,N,h'⟩)
set_option maxRecDepth 1000000 in
set_option maxHeartbeats 8000000 in
theorem sLess_c {w:World} {b0 b1 k:Nat} {x y:Option T} (h0:TreeX w b0 k x) (h1:TreeX w b1 k y) (hT:∀ w',Below w.heap.size w w'→Tz w') (hM:Tr.wgt3 (two x y)≤1000000) (hcn:cnt3 (two x y)≤1000000000) :
    Calls Tryz.prog 25 #[.pointer (some ⟨b0,0,none⟩),.pointer (some ⟨b1,0,none⟩)] w fun e w' => ∃ (b:Nat) (N:Option T),e = .returned (.tuple #[.pointer (some ⟨b,0,none⟩),.int .i64 0])∧TreeX w' b k N∧Tr.entsO N = Tr.jL 1 true false false (Tr.entsO x) (Tr.entsO y)∧Below w.heap.size w w':=by
  have HRf:=Lib.hid (sRefusal_ok h0 h1 rfl)
  have HX:=Lib.hid (And.intro h0 (And.intro h1 (And.intro hT (And.intro hM hcn))))
  clear h0 h1 hT hM hcn
  go_enter Tryz.func25,Tryz.ntmps25
  go_wp2_with fail
  refine HRf.out.mono ?_
  rintro e w1 ⟨rfl,hb1⟩
  obtain ⟨h0,h1,hT,hM,hcn⟩:=HX.out
  obtain ⟨W3,hW3⟩:∃ W3,W3 = w1.alloc (.cells #[.func (.func 67) #[] #[],.func (.func 68) #[] #[],.func (.func 69) #[] #[]] 102):=⟨_,rfl⟩
  have hb3:Below w1.heap.size w1 W3:=by rw [hW3];exact below_alloc _ _
  have hm3:W3.heap[w1.heap.size]? = some (.cells #[.func (.func 67) #[] #[],.func (.func 68) #[] #[],.func (.func 69) #[] #[]] 102 (0,0)):=by rw [hW3];exact heap_at w1 _ _ rfl
  have HTr:=Lib.hid (sTree_c (w0:=w) (w:=W3) (less_mk (B:=w.heap.size) (k:=k)) trivial h0 h1 (Below.andThen hb1 hb3) hT hM hcn)
  have t0:=store_three0 w1 (.func 67) #[] #[] .nilFunc .nilFunc .nilFunc 102
  have t1:=store_three1 w1 (.func 68) #[] #[] (.func (.func 67) #[] #[]) .nilFunc .nilFunc 102
  have t2:=store_three2 w1 (.func 69) #[] #[] (.func (.func 67) #[] #[]) (.func (.func 68) #[] #[]) .nilFunc 102
  obtain ⟨y0,y1,y2⟩:=mk_cells hm3
  have HW:=Lib.hid hW3
  clear h0 h1 hT hM hcn hb1 hb3 hm3 hW3 HX HRf
  go_upto_region 5 with fail
  rw [← HW.out]
  clear t0 t1 t2
  go_wp2_with fail
  refine HTr.out.mono ?_
  rintro e w9 ⟨b,N,rfl,n1,n2,hb9⟩
  have H9:=Lib.hid (And.intro n1 (And.intro n2 hb9))
  clear n1 n2 hb9 HTr y0 y1 y2
  go_wp2_with fail
  go_ret2
  exact ⟨b,N,rfl,H9.out.1,H9.out.2.1.trans (pp_j _ _ _ _ rfl),H9.out.2.2⟩
end Go.Proofs.YtkeepngaaleakaaGreatDoor
