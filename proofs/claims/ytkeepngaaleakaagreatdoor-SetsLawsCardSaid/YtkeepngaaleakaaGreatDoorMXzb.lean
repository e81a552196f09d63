import Derived.Test.YtkeepngaaleakaaGreatDoorMXza
namespace Go.Proofs.YtkeepngaaleakaaGreatDoor
open Go.ChangeShapes Go.WideShapes Go.ChangeAt Go.RowKit
open Tr (T S4 Ent Tri KL)
theorem setCell_id {w:World} {b o:Nat} {c:Array Value} {ty:TypeId} {fz:Nat × Nat} {v:Value} (h:w.heap[b]? = some (.cells c ty fz)) (hc:c[o]? = some v):w.setCell ⟨b,o,none⟩ v = w:=by
  have hs:c.setIfInBounds o v = c:=by
    refine Array.ext_getElem? fun i => ?_
    rw [Array.getElem?_setIfInBounds]
    split
    · rename_i e
      subst e
      split
      · exact hc.symm
      · rename_i hn
        rw [Array.getElem?_eq_none (by omega)]
    · rfl
  unfold World.setCell
  have hm:(w.heap.modify b fun | .cells c elem frozen => .cells (if (none:Option Nat).isSome then c else c.setIfInBounds o v) elem frozen | o => o) = w.heap:=by
    refine Array.ext_getElem? fun i => ?_
    rw [Array.getElem?_modify]
    split
    · rename_i e
      subst e
      rw [h]
      simp [hs]
    · rfl
  exact congrArg (fun h => { w with heap:=h }) hm
theorem store_three2n (w:World) (f g:Value) (ty:TypeId):(store ⟨w.heap.size,2,none⟩ .nilFunc).run Tryz.prog (w.alloc (.cells #[f,g,.nilFunc] ty)) = .ok () (w.alloc (.cells #[f,g,.nilFunc] ty)):=by
  have h:=heap_at w (.cells #[f,g,.nilFunc] ty) _ rfl
  rw [run_store _ _ _ _ _ rfl,show (w.alloc (.cells #[f,g,.nilFunc] ty)).cell? ⟨w.heap.size,2,none⟩ = some .nilFunc by rw [cell_of_row _ _ _ _ _ (0,0) h];rfl]
  simp [frozen_of_row _ _ 2 _ _ h,setCell_id h (o:=2) (v:=.nilFunc) rfl]
set_option maxRecDepth 1000000 in
set_option maxHeartbeats 8000000 in
theorem sSubset_c {w:World} {b0 b1 k:Nat} {x y:Option T} (h0:TreeX w b0 k x) (h1:TreeX w b1 k y) (hT:∀ w',Below w.heap.size w w'→Tz w') (hM:Tr.wgt3 (two x y)≤1000000) (hcn:cnt3 (two x y)≤1000000000) {r:Bool} (hr:decide (Tr.jL 1 true false false (Tr.entsO x) (Tr.entsO y) = []) = r) :
    Calls Tryz.prog 27 #[.pointer (some ⟨b0,0,none⟩),.pointer (some ⟨b1,0,none⟩)] w fun e w' => e = .returned (.tuple #[.bool r,.int .i64 0])∧Below w.heap.size w w':=by
  have HRf:=Lib.hid (sRefusal_ok h0 h1 rfl)
  have HX:=Lib.hid (And.intro h0 (And.intro h1 (And.intro hT (And.intro hM (And.intro hcn hr)))))
  clear h0 h1 hT hM hcn hr
  go_enter Tryz.func27,Tryz.ntmps27
  go_wp2_with fail
  refine HRf.out.mono ?_
  rintro e w1 ⟨rfl,hb1⟩
  obtain ⟨h0,h1,hT,hM,hcn,hr⟩:=HX.out
  obtain ⟨W2,hW2⟩:∃ W2,W2 = w1.alloc (.cells #[.bool true] 4):=⟨_,rfl⟩
  have hb2:Below w1.heap.size w1 W2:=by rw [hW2];exact below_alloc _ _
  have hh2:W2.heap[w1.heap.size]? = some (.cells #[.bool true] 4 (0,0)):=by rw [hW2];exact heap_at w1 _ _ rfl
  have hs2:W2.heap.size = w1.heap.size + 1:=by rw [hW2,World.size_alloc]
  obtain ⟨W3,hW3⟩:∃ W3,W3 = W2.alloc (.cells #[.func (.func 74) #[] #[],.func (.func 76) #[] #[.pointer (some ⟨w1.heap.size,0,none⟩)],.nilFunc] 110):=⟨_,rfl⟩
  have hb3:Below W2.heap.size W2 W3:=by rw [hW3];exact below_alloc _ _
  have hl3:W3.heap[W2.heap.size]? = some (.cells #[.func (.func 74) #[] #[],.func (.func 76) #[] #[.pointer (some ⟨w1.heap.size,0,none⟩)],.nilFunc] 110 (0,0)):=by rw [hW3];exact heap_at W2 _ _ rfl
  have s0:=store_three0 W2 (.func 74) #[] #[] .nilFunc .nilFunc .nilFunc 110
  have s1:=store_three1 W2 (.func 76) #[] #[.pointer (some ⟨w1.heap.size,0,none⟩)] (.func (.func 74) #[] #[]) .nilFunc .nilFunc 110
  have s2:=store_three2n W2 (.func (.func 74) #[] #[]) (.func (.func 76) #[] #[.pointer (some ⟨w1.heap.size,0,none⟩)]) 110
  have hbw3:=Below.andThen hb2 hb3
  have hbw:=Below.andThen hb1 hbw3
  have m0:∀ w2:World,w2.heap[W2.heap.size]? = W3.heap[W2.heap.size]?→w2.cell? ⟨W2.heap.size,0,none⟩ = some (.func (.func 74) #[] #[]):=fun w2 hb => (lockS_cells (hb.trans hl3)).1
  have m1:∀ w2:World,w2.heap[W2.heap.size]? = W3.heap[W2.heap.size]?→w2.cell? ⟨W2.heap.size,1,none⟩ = some (.func (.func 76) #[] #[.pointer (some ⟨w1.heap.size,0,none⟩)]):=fun w2 hb => (lockS_cells (hb.trans hl3)).2.1
  have m2:∀ w2:World,w2.heap[W2.heap.size]? = W3.heap[W2.heap.size]?→w2.cell? ⟨W2.heap.size,2,none⟩ = some .nilFunc:=fun w2 hb => (lockS_cells (hb.trans hl3)).2.2
  have HR0:Hid (∀ w',Below W3.heap.size W3 w'→Calls Tryz.prog 60 #[.pointer (some ⟨b0,0,none⟩)] w' fun e w'' => e = .returned (.pointer (rootP x))∧w' = w''):=Lib.hid fun w' hw => tRoot_c ((h0.below (Below.andThen hbw hw) (Nat.le_refl _)).1.2.2.2.1)
  have HR1:Hid (∀ w',Below W3.heap.size W3 w'→Calls Tryz.prog 60 #[.pointer (some ⟨b1,0,none⟩)] w' fun e w'' => e = .returned (.pointer (rootP y))∧w' = w''):=Lib.hid fun w' hw => tRoot_c ((h1.below (Below.andThen hbw hw) (Nat.le_refl _)).1.2.2.2.1)
  have HTh:Hid (∀ w2,Below W3.heap.size W3 w2→Calls Tryz.prog 77 #[.agg #[.func (.func 74) #[] #[],.func (.func 76) #[] #[.pointer (some ⟨w1.heap.size,0,none⟩)],.nilFunc],p2V (rootP x) (rootP y)] w2 fun e w' => e = .returned (.tuple #[])∧w'.heap[w1.heap.size]? = some (.cells #[.bool r] 4 (0,0))∧Below w1.heap.size w1 w'∧w'.heap[W2.heap.size]? = W3.heap[W2.heap.size]?):=Lib.hid fun w2 hw => by
    have hbb:=Below.andThen hbw3 hw
    have hbn:=Below.andThen hbw hw
    have hlt:W2.heap.size < W3.heap.size:=(Array.getElem?_eq_some_iff.1 hl3).1
    have hu:TriN w2 w1.heap.size k (two x y):=⟨fun _ e => (by cases e),((h0.below hb1 (Nat.le_refl _)).1.2.2.2.2).below hbb (Nat.le_refl _) (Nat.le_refl _),((h1.below hb1 (Nat.le_refl _)).1.2.2.2.2).below hbb (Nat.le_refl _) (Nat.le_refl _)⟩
    have hI:AskI w1.heap.size id w1.heap.size [] w2 (fun b => b = w1.heap.size):=⟨(keepz (keepz hh2 hb3) hw:_),Nat.le_refl _,rfl⟩
    refine (sThrough_c (sub_visit (B:=w1.heap.size) (k:=k) (Mx:=1000000) (h:=w1.heap.size)) hI (t0:=two x y) hu rfl hbb.size (fun v hv => hT v (hb1.trans ((hbb.trans hv).mono hb1.size))) hM hcn).mono ?_
    rintro e w' ⟨rfl,F',hfo,⟨_,hR,hI',-⟩ | ⟨hst,hn⟩⟩
    · have hv:Tr.jL 1 true false false (Tr.entsO x) (Tr.entsO y) = []:=hR
      refine ⟨rfl,?_,hbb.trans (hfo.below hbb.size fun b hb => by omega),(hfo.block _ (by have:=hw.size;omega) (by omega)).trans (hw.block _ hlt)⟩
      have h:=hI'.1
      rw [← hr,hv]
      exact h
    · have hv:Tr.jL 1 true false false (Tr.entsO x) (Tr.entsO y)≠[]:=hn
      refine ⟨rfl,?_,hbb.trans (hfo.below hbb.size fun b hb => by omega),(hfo.block _ (by have:=hw.size;omega) (by omega)).trans (hw.block _ hlt)⟩
      rw [← hr]
      simp only [hv,decide_false]
      exact hst
  have HW:=Lib.hid (And.intro hW2 hW3)
  have HB:=Lib.hid hb1
  have HLT:Hid (W2.heap.size < W3.heap.size):=Lib.hid (Array.getElem?_eq_some_iff.1 hl3).1
  have h33:=Below.refl W3.heap.size W3
  have hse:w1.heap.size + 1 = W2.heap.size:=hs2.symm
  obtain ⟨px,hpx⟩:∃ p,rootP x = p:=⟨_,rfl⟩
  obtain ⟨py,hpy⟩:∃ p,rootP y = p:=⟨_,rfl⟩
  rw [hpx] at HR0 HTh
  rw [hpy] at HR1 HTh
  clear h0 h1 hT hM hcn hr hb1 hb2 hh2 hs2 hb3 hl3 hbw3 hbw hW2 hW3 HX HRf hpx hpy
  go_upto_region 5 with fail
  rw [← HW.out.1]
  go_upto_region 6 with fail
  rw [← HW.out.2]
  clear s0 s1 s2
  go_wp2_with fail
  go_region_held3 (fun w2:World => w2.heap[W2.heap.size]? = W3.heap[W2.heap.size]?) (first | exact hl9 | exact (show Below W3.heap.size W3 _ by ((repeat first | refine bD ?_ | with_reducible refine bN ?_ | refine bA ?_ | refine bS ?_);first | exact bR | assumption | exact bN bR | exact bN (bN bR))).block _ HLT.out) (first
    | (go_at_call 60;with_reducible (refine (HR0.out _ (show Below W3.heap.size W3 _ by ((repeat first | refine bD ?_ | with_reducible refine bN ?_ | refine bA ?_ | refine bS ?_);first | exact bR | assumption | exact bN bR | exact bN (bN bR)))).mono ?_);rintro e w' ⟨rfl,rfl⟩)
    | (go_at_call 60;with_reducible (refine (HR1.out _ (show Below W3.heap.size W3 _ by ((repeat first | refine bD ?_ | with_reducible refine bN ?_ | refine bA ?_ | refine bS ?_);first | exact bR | assumption | exact bN bR | exact bN (bN bR)))).mono ?_);rintro e w' ⟨rfl,rfl⟩)
    | (go_at_call 77;refine (HTh.out _ (show Below W3.heap.size W3 _ by ((repeat first | refine bD ?_ | with_reducible refine bN ?_ | refine bA ?_ | refine bS ?_);first | exact bR | assumption | exact bN bR | exact bN (bN bR)))).mono ?_;rintro e w9 ⟨rfl,hh9,hb9,hl9⟩;have z0:w9.cell? ⟨w1.heap.size,0,none⟩ = some (.bool r):=(by rw [cell_of_row w9 _ _ _ _ (0,0) hh9];rfl);have H9:=Lib.hid hb9;clear hh9 hb9))
  all_goals (
    clear hl9
    go_wp2_with fail
    go_ret2
    exact ⟨rfl,Below.andThen HB.out H9.out⟩)
set_option maxRecDepth 1000000 in
set_option maxHeartbeats 8000000 in
theorem sTouch_c {w:World} {b0 b1 k:Nat} {x y:Option T} (h0:TreeX w b0 k x) (h1:TreeX w b1 k y) (hT:∀ w',Below w.heap.size w w'→Tz w') (hM:Tr.wgt3 (two x y)≤1000000) (hcn:cnt3 (two x y)≤1000000000) {r:Bool} (hr:(!decide (Tr.jL 1 false false true (Tr.entsO x) (Tr.entsO y) = [])) = r) :
    Calls Tryz.prog 28 #[.pointer (some ⟨b0,0,none⟩),.pointer (some ⟨b1,0,none⟩)] w fun e w' => e = .returned (.tuple #[.bool r,.int .i64 0])∧Below w.heap.size w w':=by
  have HRf:=Lib.hid (sRefusal_ok h0 h1 rfl)
  have HX:=Lib.hid (And.intro h0 (And.intro h1 (And.intro hT (And.intro hM (And.intro hcn hr)))))
  clear h0 h1 hT hM hcn hr
  go_enter Tryz.func28,Tryz.ntmps28
  go_wp2_with fail
  refine HRf.out.mono ?_
  rintro e w1 ⟨rfl,hb1⟩
  obtain ⟨h0,h1,hT,hM,hcn,hr⟩:=HX.out
  obtain ⟨W2,hW2⟩:∃ W2,W2 = w1.alloc (.cells #[.bool false] 4):=⟨_,rfl⟩
  have hb2:Below w1.heap.size w1 W2:=by rw [hW2];exact below_alloc _ _
  have hh2:W2.heap[w1.heap.size]? = some (.cells #[.bool false] 4 (0,0)):=by rw [hW2];exact heap_at w1 _ _ rfl
  have hs2:W2.heap.size = w1.heap.size + 1:=by rw [hW2,World.size_alloc]
  obtain ⟨W3,hW3⟩:∃ W3,W3 = W2.alloc (.cells #[.func (.func 67) #[] #[],.func (.func 78) #[] #[.pointer (some ⟨w1.heap.size,0,none⟩)],.nilFunc] 110):=⟨_,rfl⟩
  have hb3:Below W2.heap.size W2 W3:=by rw [hW3];exact below_alloc _ _
  have hl3:W3.heap[W2.heap.size]? = some (.cells #[.func (.func 67) #[] #[],.func (.func 78) #[] #[.pointer (some ⟨w1.heap.size,0,none⟩)],.nilFunc] 110 (0,0)):=by rw [hW3];exact heap_at W2 _ _ rfl
  have s0:=store_three0 W2 (.func 67) #[] #[] .nilFunc .nilFunc .nilFunc 110
  have s1:=store_three1 W2 (.func 78) #[] #[.pointer (some ⟨w1.heap.size,0,none⟩)] (.func (.func 67) #[] #[]) .nilFunc .nilFunc 110
  have s2:=store_three2n W2 (.func (.func 67) #[] #[]) (.func (.func 78) #[] #[.pointer (some ⟨w1.heap.size,0,none⟩)]) 110
  have hbw3:=Below.andThen hb2 hb3
  have hbw:=Below.andThen hb1 hbw3
  have m0:∀ w2:World,w2.heap[W2.heap.size]? = W3.heap[W2.heap.size]?→w2.cell? ⟨W2.heap.size,0,none⟩ = some (.func (.func 67) #[] #[]):=fun w2 hb => (lockS_cells (hb.trans hl3)).1
  have m1:∀ w2:World,w2.heap[W2.heap.size]? = W3.heap[W2.heap.size]?→w2.cell? ⟨W2.heap.size,1,none⟩ = some (.func (.func 78) #[] #[.pointer (some ⟨w1.heap.size,0,none⟩)]):=fun w2 hb => (lockS_cells (hb.trans hl3)).2.1
  have m2:∀ w2:World,w2.heap[W2.heap.size]? = W3.heap[W2.heap.size]?→w2.cell? ⟨W2.heap.size,2,none⟩ = some .nilFunc:=fun w2 hb => (lockS_cells (hb.trans hl3)).2.2
  have HR0:Hid (∀ w',Below W3.heap.size W3 w'→Calls Tryz.prog 60 #[.pointer (some ⟨b0,0,none⟩)] w' fun e w'' => e = .returned (.pointer (rootP x))∧w' = w''):=Lib.hid fun w' hw => tRoot_c ((h0.below (Below.andThen hbw hw) (Nat.le_refl _)).1.2.2.2.1)
  have HR1:Hid (∀ w',Below W3.heap.size W3 w'→Calls Tryz.prog 60 #[.pointer (some ⟨b1,0,none⟩)] w' fun e w'' => e = .returned (.pointer (rootP y))∧w' = w''):=Lib.hid fun w' hw => tRoot_c ((h1.below (Below.andThen hbw hw) (Nat.le_refl _)).1.2.2.2.1)
  have HTh:Hid (∀ w2,Below W3.heap.size W3 w2→Calls Tryz.prog 77 #[.agg #[.func (.func 67) #[] #[],.func (.func 78) #[] #[.pointer (some ⟨w1.heap.size,0,none⟩)],.nilFunc],p2V (rootP x) (rootP y)] w2 fun e w' => e = .returned (.tuple #[])∧w'.heap[w1.heap.size]? = some (.cells #[.bool r] 4 (0,0))∧Below w1.heap.size w1 w'∧w'.heap[W2.heap.size]? = W3.heap[W2.heap.size]?):=Lib.hid fun w2 hw => by
    have hbb:=Below.andThen hbw3 hw
    have hbn:=Below.andThen hbw hw
    have hlt:W2.heap.size < W3.heap.size:=(Array.getElem?_eq_some_iff.1 hl3).1
    have hu:TriN w2 w1.heap.size k (two x y):=⟨fun _ e => (by cases e),((h0.below hb1 (Nat.le_refl _)).1.2.2.2.2).below hbb (Nat.le_refl _) (Nat.le_refl _),((h1.below hb1 (Nat.le_refl _)).1.2.2.2.2).below hbb (Nat.le_refl _) (Nat.le_refl _)⟩
    have hI:AskI w1.heap.size not w1.heap.size [] w2 (fun b => b = w1.heap.size):=⟨(keepz (keepz hh2 hb3) hw:_),Nat.le_refl _,rfl⟩
    refine (sThrough_c (tch_visit (B:=w1.heap.size) (k:=k) (Mx:=1000000) (h:=w1.heap.size)) hI (t0:=two x y) hu rfl hbb.size (fun v hv => hT v (hb1.trans ((hbb.trans hv).mono hb1.size))) hM hcn).mono ?_
    rintro e w' ⟨rfl,F',hfo,⟨_,hR,hI',-⟩ | ⟨hst,hn⟩⟩
    · have hv:Tr.jL 1 false false true (Tr.entsO x) (Tr.entsO y) = []:=hR
      refine ⟨rfl,?_,hbb.trans (hfo.below hbb.size fun b hb => by omega),(hfo.block _ (by have:=hw.size;omega) (by omega)).trans (hw.block _ hlt)⟩
      have h:=hI'.1
      rw [← hr,hv]
      exact h
    · have hv:Tr.jL 1 false false true (Tr.entsO x) (Tr.entsO y)≠[]:=hn
      refine ⟨rfl,?_,hbb.trans (hfo.below hbb.size fun b hb => by omega),(hfo.block _ (by have:=hw.size;omega) (by omega)).trans (hw.block _ hlt)⟩
      rw [← hr]
      simp only [hv,decide_false,Bool.not_false]
      exact hst
  have HW:=Lib.hid (And.intro hW2 hW3)
  have HB:=Lib.hid hb1
  have HLT:Hid (W2.heap.size < W3.heap.size):=Lib.hid (Array.getElem?_eq_some_iff.1 hl3).1
  have h33:=Below.refl W3.heap.size W3
  have hse:w1.heap.size + 1 = W2.heap.size:=hs2.symm
  obtain ⟨px,hpx⟩:∃ p,rootP x = p:=⟨_,rfl⟩
  obtain ⟨py,hpy⟩:∃ p,rootP y = p:=⟨_,rfl⟩
  rw [hpx] at HR0 HTh
  rw [hpy] at HR1 HTh
  clear h0 h1 hT hM hcn hr hb1 hb2 hh2 hs2 hb3 hl3 hbw3 hbw hW2 hW3 HX HRf hpx hpy
  go_upto_region 5 with fail
  rw [← HW.out.1]
  go_upto_region 6 with fail
  rw [← HW.out.2]
  clear s0 s1 s2
  go_wp2_with fail
  go_region_held3 (fun w2:World => w2.heap[W2.heap.size]? = W3.heap[W2.heap.size]?) (first | exact hl9 | exact (show Below W3.heap.size W3 _ by ((repeat first | refine bD ?_ | with_reducible refine bN ?_ | refine bA ?_ | refine bS ?_);first | exact bR | assumption | exact bN bR | exact bN (bN bR))).block _ HLT.out) (first
    | (go_at_call 60;with_reducible (refine (HR0.out _ (show Below W3.heap.size W3 _ by ((repeat first | refine bD ?_ | with_reducible refine bN ?_ | refine bA ?_ | refine bS ?_);first | exact bR | assumption | exact bN bR | exact bN (bN bR)))).mono ?_);rintro e w' ⟨rfl,rfl⟩)
    | (go_at_call 60;with_reducible (refine (HR1.out _ (show Below W3.heap.size W3 _ by ((repeat first | refine bD ?_ | with_reducible refine bN ?_ | refine bA ?_ | refine bS ?_);first | exact bR | assumption | exact bN bR | exact bN (bN bR)))).mono ?_);rintro e w' ⟨rfl,rfl⟩)
    | (go_at_call 77;refine (HTh.out _ (show Below W3.heap.size W3 _ by ((repeat first | refine bD ?_ | with_reducible refine bN ?_ | refine bA ?_ | refine bS ?_);first | exact bR | assumption | exact bN bR | exact bN (bN bR)))).mono ?_;rintro e w9 ⟨rfl,hh9,hb9,hl9⟩;have z0:w9.cell? ⟨w1.heap.size,0,none⟩ = some (.bool r):=(by rw [cell_of_row w9 _ _ _ _ (0,0) hh9];rfl);have H9:=Lib.hid hb9;clear hh9 hb9))
  all_goals (
    clear hl9
    go_wp2_with fail
    go_ret2
    exact ⟨rfl,Below.andThen HB.out H9.out⟩)
end Go.Proofs.YtkeepngaaleakaaGreatDoor
