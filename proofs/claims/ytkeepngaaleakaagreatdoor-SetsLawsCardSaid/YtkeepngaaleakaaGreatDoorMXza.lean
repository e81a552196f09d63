import Derived.Test.YtkeepngaaleakaaGreatDoorMXx
namespace Go.Proofs.YtkeepngaaleakaaGreatDoor
open Go.ChangeShapes Go.WideShapes Go.ChangeAt Go.RowKit
open Tr (T S4 Ent Tri KL)
set_option maxRecDepth 100000 in
set_option maxHeartbeats 4000000 in
theorem sSub1_c {w:World} {B k:Nat} {u:Tri} (hu:TriN w B k u) (hB:B≤w.heap.size) :
    Calls Tryz.prog 74 #[prS u] w fun e w' => e = .returned (.bool (subKf u))∧Below w.heap.size w w':=by
  obtain ⟨W0,hW0⟩:∃ W0,W0 = w.alloc (.cells #[.pointer (rootP u.a),.pointer (rootP u.b)] 97):=⟨_,rfl⟩
  have hb0:Below w.heap.size w W0:=by rw [hW0];exact below_alloc _ _
  have ha0:W0.heap[w.heap.size]? = some (.cells #[.pointer (rootP u.a),.pointer (rootP u.b)] 97 (0,0)):=by rw [hW0];exact heap_at w _ _ rfl
  have HS:=Lib.hid (sSame_c (hu.a.below hb0 hB (Nat.le_refl _)) (hu.b.below hb0 hB (Nat.le_refl _)) (Nat.le_trans hB hb0.size))
  have HC:Hid (∀ w1,Below W0.heap.size W0 w1→Calls Tryz.prog 75 #[p2V (rootP u.a) (rootP u.b)] w1 fun e w' => e = .returned (.bool (decide ((Tr.entsO u.a).length≤(Tr.entsO u.b).length)))∧Below w1.heap.size w1 w'):=Lib.hid fun w1 hb => by
    have h1:=Below.andThen hb0 hb
    exact sCould_c (hu.a.below h1 hB (Nat.le_refl _)) (hu.b.below h1 hB (Nat.le_refl _)) (Nat.le_trans hB h1.size)
  unfold subKf
  obtain ⟨d,hd⟩:∃ d,decide (rootP u.a = rootP u.b) = d:=⟨_,rfl⟩
  obtain ⟨c,hc⟩:∃ c,decide ((Tr.entsO u.a).length≤(Tr.entsO u.b).length) = c:=⟨_,rfl⟩
  rw [hd] at HS
  rw [hc] at HC
  rw [hd,hc]
  have HA:=Lib.hid ha0
  obtain ⟨a0,a1,-⟩:=atS_cells ha0
  have HW:=Lib.hid hW0
  have HB:=Lib.hid hb0
  clear hu hB hW0 hb0 ha0 hd hc
  go_enter Tryz.func74,Tryz.ntmps74
  go_upto_region 1 with fail
  rw [← HW.out]
  go_wp2_with fail
  refine HS.out.mono ?_
  rintro e w1 ⟨rfl,hb1⟩
  obtain ⟨p0,p1,-⟩:=atS_cells (keepz HA.out hb1)
  have H1:=Lib.hid hb1
  clear hb1 HS a0 a1
  cases d with
  | true =>
    go_wp2_with fail
    go_ret
    exact ⟨by simp,Below.andThen HB.out H1.out⟩
  | false =>
    go_wp2_with fail
    refine (HC.out _ H1.out).mono ?_
    rintro e w2 ⟨rfl,hb2⟩
    have H2:=Lib.hid hb2
    clear hb2 HC
    go_wp2_with fail
    go_ret
    exact ⟨by simp,Below.andThen (Below.andThen HB.out H1.out) H2.out⟩
set_option maxRecDepth 100000 in
set_option maxHeartbeats 4000000 in
theorem sSub2_c {w:World} {B k h:Nat} {b0:Bool} {u:Tri} (hh:w.heap[h]? = some (.cells #[.bool b0] 4 (0,0))) (hu:TriN w B k u) (hB:B≤w.heap.size) {r:Bool} (hr:decide ((Tr.entsO u.a).length≤(Tr.entsO u.b).length) = r) :
    Calls Tryz.prog 76 #[prS u,.pointer (some ⟨h,0,none⟩)] w fun e w' => e = .returned (.bool r)∧w'.heap[h]? = some (.cells #[.bool r] 4 (0,0))∧Foot (fun b => b = h) w w'∧Kp k w w':=by
  obtain ⟨W0,hW0⟩:∃ W0,W0 = w.alloc (.cells #[.pointer (rootP u.a),.pointer (rootP u.b)] 97):=⟨_,rfl⟩
  have hb0:Below w.heap.size w W0:=by rw [hW0];exact below_alloc _ _
  have ha0:W0.heap[w.heap.size]? = some (.cells #[.pointer (rootP u.a),.pointer (rootP u.b)] 97 (0,0)):=by rw [hW0];exact heap_at w _ _ rfl
  obtain ⟨a0,a1,-⟩:=atS_cells ha0
  have hh0:=keepz hh hb0
  have HC:=Lib.hid (sCould_c (hu.a.below hb0 hB (Nat.le_refl _)) (hu.b.below hb0 hB (Nat.le_refl _)) (Nat.le_trans hB hb0.size))
  rw [hr] at HC
  have HW:=Lib.hid hW0
  have HB:=Lib.hid (And.intro hb0 hh0)
  obtain ⟨pa,hpa⟩:∃ p,rootP u.a = p:=⟨_,rfl⟩
  obtain ⟨pb,hpb⟩:∃ p,rootP u.b = p:=⟨_,rfl⟩
  rw [hpa,hpb] at HC HW
  rw [hpa] at a0
  rw [hpb] at a1
  show Calls Tryz.prog 76 #[p2V (rootP u.a) (rootP u.b),.pointer (some ⟨h,0,none⟩)] w _
  rw [hpa,hpb]
  clear hh hu hB hW0 hb0 ha0 hh0 hpa hpb hr
  go_enter Tryz.func76,Tryz.ntmps76
  go_upto_region 1 with fail
  rw [← HW.out]
  go_wp2_with fail
  refine HC.out.mono ?_
  rintro e w1 ⟨rfl,hb1⟩
  obtain ⟨hb0,hh0⟩:=HB.out
  have hh1:=keepz hh0 hb1
  have c0:w1.cell? ⟨h,0,none⟩ = some (.bool b0):=by rw [cell_of_row w1 _ _ _ _ (0,0) hh1];rfl
  have f0:=frozen_of_row w1 h 0 _ _ hh1
  have r1:(w1.setCell ⟨h,0,none⟩ (.bool r)).heap[h]? = some (.cells #[.bool r] 4 (0,0)):=by
    have h1:=heap_setCell_same w1 h 0 _ _ (.bool r) hh1
    simpa using h1
  have c1:(w1.setCell ⟨h,0,none⟩ (.bool r)).cell? ⟨h,0,none⟩ = some (.bool r):=by rw [cell_of_row _ _ _ _ _ (0,0) r1];rfl
  have HE:=Lib.hid (And.intro r1 (And.intro (((Foot.of_below (Below.andThen hb0 hb1)).trans (F1:=fun b => b = h) (Foot.setCell w1 (F:=fun b => b = h) (a:=⟨h,0,none⟩) rfl (.bool r)) (fun b hb => .inl hb)):Foot (fun b => b = h) w (w1.setCell ⟨h,0,none⟩ (.bool r))) (Kp.trans (Kp.of_below (k:=k) (Below.andThen hb0 hb1)) (bool_keeps hh1 (by decide) (.bool r)) (Below.andThen hb0 hb1).size)))
  clear hb0 hh0 hh1 hb1 r1 HC HB HW a0 a1
  go_wp2_with fail
  go_ret
  exact ⟨rfl,HE.out.1,HE.out.2.1,HE.out.2.2⟩
set_option maxRecDepth 100000 in
set_option maxHeartbeats 4000000 in
theorem sTch1_c {w:World} {k h:Nat} {b0:Bool} {u:Tri} (hh:w.heap[h]? = some (.cells #[.bool b0] 4 (0,0))) {r:Bool} (hr:((rootP u.a).isSome && (rootP u.b).isSome) = r) :
    Calls Tryz.prog 78 #[prS u,.pointer (some ⟨h,0,none⟩)] w fun e w' => e = .returned (.bool (!r))∧w'.heap[h]? = some (.cells #[.bool r] 4 (0,0))∧Foot (fun b => b = h) w w'∧Kp k w w':=by
  obtain ⟨W0,hW0⟩:∃ W0,W0 = w.alloc (.cells #[.pointer (rootP u.a),.pointer (rootP u.b)] 97):=⟨_,rfl⟩
  have hb0:Below w.heap.size w W0:=by rw [hW0];exact below_alloc _ _
  have ha0:W0.heap[w.heap.size]? = some (.cells #[.pointer (rootP u.a),.pointer (rootP u.b)] 97 (0,0)):=by rw [hW0];exact heap_at w _ _ rfl
  obtain ⟨a0,a1,-⟩:=atS_cells ha0
  have hh0:=keepz hh hb0
  have HC:=Lib.hid (sBoth_c (rootP u.a) (rootP u.b) W0)
  rw [hr] at HC
  have HW:=Lib.hid hW0
  have HB:=Lib.hid (And.intro hb0 hh0)
  obtain ⟨pa,hpa⟩:∃ p,rootP u.a = p:=⟨_,rfl⟩
  obtain ⟨pb,hpb⟩:∃ p,rootP u.b = p:=⟨_,rfl⟩
  rw [hpa,hpb] at HC HW
  rw [hpa] at a0
  rw [hpb] at a1
  show Calls Tryz.prog 78 #[p2V (rootP u.a) (rootP u.b),.pointer (some ⟨h,0,none⟩)] w _
  rw [hpa,hpb]
  clear hh hW0 hb0 ha0 hh0 hpa hpb hr
  go_enter Tryz.func78,Tryz.ntmps78
  go_upto_region 1 with fail
  rw [← HW.out]
  go_wp2_with fail
  refine HC.out.mono ?_
  rintro e w1 ⟨rfl,hb1⟩
  obtain ⟨hb0,hh0⟩:=HB.out
  have hh1:=keepz hh0 hb1
  have c0:w1.cell? ⟨h,0,none⟩ = some (.bool b0):=by rw [cell_of_row w1 _ _ _ _ (0,0) hh1];rfl
  have f0:=frozen_of_row w1 h 0 _ _ hh1
  have r1:(w1.setCell ⟨h,0,none⟩ (.bool r)).heap[h]? = some (.cells #[.bool r] 4 (0,0)):=by
    have h1:=heap_setCell_same w1 h 0 _ _ (.bool r) hh1
    simpa using h1
  have c1:(w1.setCell ⟨h,0,none⟩ (.bool r)).cell? ⟨h,0,none⟩ = some (.bool r):=by rw [cell_of_row _ _ _ _ _ (0,0) r1];rfl
  have HE:=Lib.hid (And.intro r1 (And.intro (((Foot.of_below (Below.andThen hb0 hb1)).trans (F1:=fun b => b = h) (Foot.setCell w1 (F:=fun b => b = h) (a:=⟨h,0,none⟩) rfl (.bool r)) (fun b hb => .inl hb)):Foot (fun b => b = h) w (w1.setCell ⟨h,0,none⟩ (.bool r))) (Kp.trans (Kp.of_below (k:=k) (Below.andThen hb0 hb1)) (bool_keeps hh1 (by decide) (.bool r)) (Below.andThen hb0 hb1).size)))
  clear hb0 hh0 hh1 hb1 r1 HC HB HW a0 a1
  go_wp2_with fail
  go_ret
  exact ⟨rfl,HE.out.1,HE.out.2.1,HE.out.2.2⟩
theorem sub_visit {B k Mx h:Nat}:VisitL 74 #[] 76 #[.pointer (some ⟨h,0,none⟩)] none B k Mx subKf (fun u (_:Unit) => Tr.ppT (Tr.jG 1 true false false) u = []) (fun u => Tr.ppT (Tr.jG 1 true false false) u≠[]) (AskI h id B) (fun w' => w'.heap[h]? = some (.cells #[.bool (id false)] 4 (0,0))) :=
  ask_visit (Tr.jG_none _ _ _ _) (enters_of Tryz.func74 (by kernel_rfl) rfl) (enters_of Tryz.func76 (by kernel_rfl) rfl) (fun w u x y hu _ _ _ hB => sSub1_c hu hB) fun w u hh hu ho ht hB => by
    refine (sSub2_c hh hu hB rfl).mono ?_
    rintro e w' ⟨rfl,h1,h2,h3⟩
    exact ⟨_,sub_term hu ho ht,rfl,h1,h2,h3⟩
theorem tch_visit {B k Mx h:Nat}:VisitL 67 #[] 78 #[.pointer (some ⟨h,0,none⟩)] none B k Mx sameKf (fun u (_:Unit) => Tr.ppT (Tr.jG 1 false false true) u = []) (fun u => Tr.ppT (Tr.jG 1 false false true) u≠[]) (AskI h not B) (fun w' => w'.heap[h]? = some (.cells #[.bool (not false)] 4 (0,0))) :=
  ask_visit (Tr.jG_none _ _ _ _) (enters_of Tryz.func67 (by kernel_rfl) rfl) (enters_of Tryz.func78 (by kernel_rfl) rfl) (fun w u x y hu _ _ _ hB => sSame_c hu.a hu.b hB) fun w u hh hu ho ht hB => by
    refine (sTch1_c (k:=k) hh (touch_term hu ho ht)).mono ?_
    rintro e w' ⟨rfl,h1,h2,h3⟩
    exact ⟨_,rfl,by rw [Bool.not_not],h1,h2,h3⟩
end Go.Proofs.YtkeepngaaleakaaGreatDoor
