import Derived.Test.YtmkejbfgdmbejaaGreatDoorMV2
namespace Go.Proofs.YtmkejbfgdmbejaaGreatDoor
open Go.ChangeShapes Go.WideShapes Go.ChangeAt Go.RowKit
open Tr (T S4 Ent Tri)
def sdK (o:Option T) (l:Nat):Bool:=match o with
  | none => false
  | some t => decide (t.lv = l + 1)
def sdA (o:Option T) (l:Nat):Nat:=match o with
  | none => 0
  | some t => if t.lv = l + 1 then 0 else Z.addr t.pre l
set_option maxRecDepth 1000000 in
theorem mSide_c {w:World} {B k:Nat} {o:Option T} (h:NodeO w B k o) (hB:B≤w.heap.size) (l:Nat) (h63:l≤63) :
    Calls Tryz.prog 152 #[.pointer (rootP o),.int .i64 (l:Int)] w fun e w' => e = .returned (sdV (rootP o) (sdK o l) (sdA o l))∧Below w.heap.size w w':=by
  have hb0:=below_alloc w (.cells #[.pointer none,.bool false,.int .i64 0] 189)
  cases o with
  | none =>
    have d1:((-1:Int) == (l:Int)) = false:=beq_eq_false_iff_ne.2 (by omega)
    have HL:=Lib.hid fun (w1:World) => nLevel_nil w1
    have HP:=Lib.hid fun (w1:World) => nPrefix_nil w1
    have HA:=Lib.hid fun (w1:World) => addr_dim none 0 0 (l:Int) w1 (by unfold maxLen;omega) (by omega)
    simp only [rootP,sdK,sdA]
    clear h hB
    go_enter Tryz.func152,Tryz.ntmps152
    go_wp2_with (first
      | (go_at_call 100;refine (HL.out _).mono ?_;rintro e w' ⟨rfl,rfl⟩)
      | (go_at_call 101;refine (HP.out _).mono ?_;rintro e w' ⟨rfl,rfl⟩)
      | (go_at_call 132;refine (HA.out _).mono ?_;rintro e w' ⟨rfl,rfl⟩))
    refine bodyPost_ret (v:=sdV none false 0) (by simp [results,Tryz.results152,go_sem]) rfl ?_
    exact ⟨rfl,by ((repeat first | refine bD ?_ | with_reducible refine bN ?_ | refine bA ?_ | refine bS ?_);first | exact bR | assumption | exact bN bR | exact bN (bN bR))⟩
  | some t =>
    have hn:=h t rfl
    have hlen:=hn.1.len
    have hk1:=hn.1.k1
    have hk16:=hn.1.k16
    have HL:=Lib.hid fun (w1:World) (hb:Below w.heap.size w w1) => level_at hn hB hb rfl
    simp only [rootP,sdK,sdA]
    by_cases c:t.lv = l + 1
    · have d1:(levI t == (l:Int)) = true:=by rw [beq_iff_eq];unfold levI;omega
      rw [if_pos c,decide_eq_true c]
      clear h hB hn
      generalize levI t = lv at *
      go_enter Tryz.func152,Tryz.ntmps152
      go_wp2_with (go_at_call 100;refine (HL.out _ hb0).mono ?_;rintro e w' ⟨rfl,rfl⟩)
      refine bodyPost_ret (v:=sdV (some ⟨t.blk,0,none⟩) true 0) (by simp [results,Tryz.results152,go_sem]) rfl ?_
      exact ⟨rfl,by ((repeat first | refine bD ?_ | with_reducible refine bN ?_ | refine bA ?_ | refine bS ?_);first | exact bR | assumption | exact bN bR | exact bN (bN bR))⟩
    · have d1:(levI t == (l:Int)) = false:=beq_eq_false_iff_ne.2 (by unfold levI;omega)
      rw [if_neg c,decide_eq_false c]
      have HP:=Lib.hid (prefix_at hn hB hb0)
      rw [hlen] at HP
      have HA:Hid (∀ (w1:World) (A:Option Addr) (d:Nat),Pts w1 w1.heap.size A t.pre→Calls Tryz.prog 132 #[.slice A k d,.int .i64 (l:Int)] w1 fun e w' => e = .returned (.tuple #[.int .i64 (Z.addr t.pre l:Int),.int .i64 0])∧w1 = w'):=Lib.hid fun w1 A d hp => by
        have hh:=addr_yes A d t.pre l w1.heap.size w1 hp (by omega) (by omega) h63
        rw [hlen] at hh
        exact hh
      clear h hB hn
      generalize levI t = lv at *
      generalize Z.addr t.pre l = ad at *
      obtain ⟨W0,hW0⟩:∃ W0,W0 = w.alloc (.cells #[.pointer none,.bool false,.int .i64 0] 189):=⟨_,rfl⟩
      have hr0:W0.heap[w.heap.size]? = some (.cells #[.pointer none,.bool false,.int .i64 0] 189 (0,0)):=by rw [hW0];exact heap_at w _ _ rfl
      rw [← hW0] at HP hb0
      have HW:=Lib.hid (And.intro hW0 hr0)
      clear hW0 hr0
      go_enter Tryz.func152,Tryz.ntmps152
      go_upto_region 1 with fail
      rw [← HW.out.1]
      go_wp2_with (go_at_call 100;refine (HL.out _ hb0).mono ?_;rintro e w' ⟨rfl,rfl⟩)
      refine HP.out.mono ?_
      rintro e w1 ⟨h1,d1',rfl,hp1,hb1⟩
      have hq1:=keepz HW.out.2 hb1
      have z0:w1.cell? ⟨w.heap.size,0,none⟩ = some (.pointer none):=by rw [cell_of_row w1 _ _ _ _ (0,0) hq1];rfl
      have z1:w1.cell? ⟨w.heap.size,1,none⟩ = some (.bool false):=by rw [cell_of_row w1 _ _ _ _ (0,0) hq1];rfl
      have z2:w1.cell? ⟨w.heap.size,2,none⟩ = some (.int .i64 0):=by rw [cell_of_row w1 _ _ _ _ (0,0) hq1];rfl
      have zf:∀ i,w1.frozen? ⟨w.heap.size,i,none⟩ = false:=fun i => frozen_of_row w1 _ i _ _ hq1
      have HB1:Hid (Below w.heap.size w w1):=Lib.hid (Below.andThen hb0 hb1)
      clear hb1 hq1 HP HL
      go_wp2_with (go_at_call 132;refine (HA.out _ _ _ hp1).mono ?_;rintro e w' ⟨rfl,rfl⟩)
      refine bodyPost_ret (v:=sdV (some ⟨t.blk,0,none⟩) false ad) (by simp [results,Tryz.results152,go_sem,z0,z1,z2]) rfl ?_
      exact ⟨rfl,((HB1.out.setCell (p:=⟨w.heap.size,0,none⟩) (Nat.le_refl _) _).setCell (p:=⟨w.heap.size,1,none⟩) (Nat.le_refl _) _).setCell (p:=⟨w.heap.size,2,none⟩) (Nat.le_refl _) _⟩
abbrev stC (t:Tri) (l:Nat) (v:Value):Array Value:=#[.pointer (rootP t.o),.bool (sdK t.o l),.int .i64 (sdA t.o l:Int),.pointer (rootP t.a),.bool (sdK t.a l),.int .i64 (sdA t.a l:Int),.pointer (rootP t.b),.bool (sdK t.b l),.int .i64 (sdA t.b l:Int),v]
theorem set3 {W:World} {q i:Nat} {cs:Array Value} {ty:TypeId} (a b c:Value) (h:W.heap[q]? = some (.cells cs ty (0,0))):(((W.setCell ⟨q,i,none⟩ a).setCell ⟨q,i + 1,none⟩ b).setCell ⟨q,i + 2,none⟩ c).heap[q]? = some (.cells (((cs.setIfInBounds i a).setIfInBounds (i + 1) b).setIfInBounds (i + 2) c) ty (0,0)) :=
  heap_setCell_same _ q (i + 2) _ _ c (heap_setCell_same _ q (i + 1) _ _ b (heap_setCell_same _ q i _ _ a h))
abbrev ten0:Array Value:=#[.pointer none,.bool false,.int .i64 0,.pointer none,.bool false,.int .i64 0,.pointer none,.bool false,.int .i64 0,.slice none 0 0]
set_option maxRecDepth 1000000 in
theorem mStep_no {w:World} {B k:Nat} {t:Tri} (h:TriN w B k t) (hB:B≤w.heap.size) (hl:Tr.lvlT t.list = -1) (hk:k≤16) :
    Calls Tryz.prog 110 #[trV t] w fun e w' => e = .returned (.pointer none)∧Below w.heap.size w w':=by
  obtain ⟨W0,hW0⟩:∃ W0,W0 = w.alloc (.cells #[.pointer (rootP t.o),.pointer (rootP t.a),.pointer (rootP t.b)] 98):=⟨_,rfl⟩
  have hb0:Below w.heap.size w W0:=by rw [hW0];exact below_alloc _ _
  have hr0:W0.heap[w.heap.size]? = some (.cells #[.pointer (rootP t.o),.pointer (rootP t.a),.pointer (rootP t.b)] 98 (0,0)):=by rw [hW0];exact heap_at w _ _ rfl
  have HL:=Lib.hid (mLevel_c (c:=3) (h.below hb0 hB (Nat.le_refl B)) (Nat.le_trans hB hb0.size) (Array.getElem?_eq_some_iff.1 hr0).1 (fun j hj => by
    rw [cell_of_row W0 _ _ _ _ (0,0) hr0]
    match j,hj with
    | 0,_ => rfl
    | 1,_ => rfl
    | 2,_ => rfl) hl hk)
  have HW:=Lib.hid (And.intro hW0 hb0)
  clear h hB hl hr0 hb0 hW0
  simp only [trV]
  go_enter Tryz.func110,Tryz.ntmps110
  go_upto_region 1 with fail
  rw [← HW.out.1]
  go_wp2_with fail
  refine HL.out.mono ?_
  rintro e w1 ⟨rfl,hb1⟩
  go_wp2_with fail
  go_ret
  exact ⟨rfl,Below.andThen HW.out.2 hb1⟩
set_option maxRecDepth 1000000 in
set_option maxHeartbeats 4000000 in
theorem mStep_c {w:World} {B k:Nat} {t:Tri} (h:TriN w B k t) (hB:B≤w.heap.size) {l:Nat} (hl:Tr.lvlT t.list = (l:Int)) (hk:k≤16) (h63:l≤63) :
    Calls Tryz.prog 110 #[trV t] w fun e w' => ∃ q,e = .returned (.pointer (some ⟨q,0,none⟩))∧w.heap.size≤q∧w'.heap[q]? = some (.cells (stC t l (.slice none 0 0)) 192 (0,0))∧Below w.heap.size w w':=by
  obtain ⟨W0,hW0⟩:∃ W0,W0 = w.alloc (.cells #[.pointer (rootP t.o),.pointer (rootP t.a),.pointer (rootP t.b)] 98):=⟨_,rfl⟩
  have hb0:Below w.heap.size w W0:=by rw [hW0];exact below_alloc _ _
  have hr0:W0.heap[w.heap.size]? = some (.cells #[.pointer (rootP t.o),.pointer (rootP t.a),.pointer (rootP t.b)] 98 (0,0)):=by rw [hW0];exact heap_at w _ _ rfl
  have h0:=h.below hb0 hB (Nat.le_refl B)
  have hB0:=Nat.le_trans hB hb0.size
  have hlt0:=(Array.getElem?_eq_some_iff.1 hr0).1
  have HL:=Lib.hid (mLevel_c (c:=3) h0 hB0 hlt0 (fun j hj => by
    rw [cell_of_row W0 _ _ _ _ (0,0) hr0]
    match j,hj with
    | 0,_ => rfl
    | 1,_ => rfl
    | 2,_ => rfl) hl hk)
  have HO:=Lib.hid fun (w1:World) (hb:Below W0.heap.size W0 w1) => mSide_c (h0.o.below hb hB0 (Nat.le_refl B)) (Nat.le_trans hB0 hb.size) l h63
  have HA:=Lib.hid fun (w1:World) (hb:Below W0.heap.size W0 w1) => mSide_c (h0.a.below hb hB0 (Nat.le_refl B)) (Nat.le_trans hB0 hb.size) l h63
  have HBb:=Lib.hid fun (w1:World) (hb:Below W0.heap.size W0 w1) => mSide_c (h0.b.below hb hB0 (Nat.le_refl B)) (Nat.le_trans hB0 hb.size) l h63
  have HW:=Lib.hid (And.intro hW0 (And.intro hb0 (And.intro hr0 hlt0)))
  clear h hB hl hr0 hb0 hW0 h0 hB0 hlt0
  simp only [trV,stC]
  obtain ⟨ko,hko⟩:∃ v,sdK t.o l = v:=⟨_,rfl⟩
  obtain ⟨ka,hka⟩:∃ v,sdK t.a l = v:=⟨_,rfl⟩
  obtain ⟨kb,hkb⟩:∃ v,sdK t.b l = v:=⟨_,rfl⟩
  obtain ⟨ao,hao⟩:∃ v,sdA t.o l = v:=⟨_,rfl⟩
  obtain ⟨aa,haa⟩:∃ v,sdA t.a l = v:=⟨_,rfl⟩
  obtain ⟨ab,hab⟩:∃ v,sdA t.b l = v:=⟨_,rfl⟩
  rw [hko,hka,hkb,hao,haa,hab]
  rw [hko,hao] at HO
  rw [hka,haa] at HA
  rw [hkb,hab] at HBb
  clear hko hka hkb hao haa hab
  generalize rootP t.o = po at *
  generalize rootP t.a = pa at *
  generalize rootP t.b = pb at *
  have i0:∀ w:World,(Instr.index 98 (p3V po pa pb) (.int .i64 0)).run Tryz.prog w = .ok (.pointer po) w:=fun _ => by kernel_rfl
  have i1:∀ w:World,(Instr.index 98 (p3V po pa pb) (.int .i64 1)).run Tryz.prog w = .ok (.pointer pa) w:=fun _ => by kernel_rfl
  have i2:∀ w:World,(Instr.index 98 (p3V po pa pb) (.int .i64 2)).run Tryz.prog w = .ok (.pointer pb) w:=fun _ => by kernel_rfl
  have d0:decide ((l:Int) < 0) = false:=decide_eq_false (by omega)
  go_enter Tryz.func110,Tryz.ntmps110
  go_upto_region 1 with fail
  rw [← HW.out.1]
  go_wp2_with fail
  refine HL.out.mono ?_
  rintro e w1 ⟨rfl,hb1⟩
  have hr1:=keepz HW.out.2.2.1 hb1
  have c0:∀ ob,(w1.alloc ob).cell? ⟨w.heap.size,0,none⟩ = some (.pointer po):=fun ob => by rw [cell_of_row _ _ _ _ _ (0,0) (heap_past ob hr1)];rfl
  have c1:∀ ob,(w1.alloc ob).cell? ⟨w.heap.size,1,none⟩ = some (.pointer pa):=fun ob => by rw [cell_of_row _ _ _ _ _ (0,0) (heap_past ob hr1)];rfl
  have c2:∀ ob,(w1.alloc ob).cell? ⟨w.heap.size,2,none⟩ = some (.pointer pb):=fun ob => by rw [cell_of_row _ _ _ _ _ (0,0) (heap_past ob hr1)];rfl
  have H1:=Lib.hid hb1
  clear hb1 hr1 HL
  go_wp2_with fail
  refine wp_loop_rounds 4 ?_
  rw [rounds_succ]
  obtain ⟨W1,hW1⟩:∃ W1,W1 = w1.alloc (.cells ten0 192):=⟨_,rfl⟩
  have hB1:Below W0.heap.size W0 W1:=by rw [hW1];exact Below.andThen H1.out (below_alloc _ _)
  have hq1:W1.heap[w1.heap.size]? = some (.cells ten0 192 (0,0)):=by rw [hW1];exact heap_at w1 _ _ rfl
  rw [← hW1]
  obtain ⟨q,hq⟩:∃ q,w1.heap.size = q:=⟨_,rfl⟩
  rw [hq] at hq1
  have hqw:W0.heap.size≤q:=by rw [← hq];exact H1.out.size
  rw [hq]
  clear c0 c1 c2 hW1 H1 hq
  have hqs1:q < W1.heap.size:=(Array.getElem?_eq_some_iff.1 hq1).1
  go_wp2_with fail
  go_region_held3 (fun w2 => Below W0.heap.size W0 w2) (((repeat first | refine bD ?_ | with_reducible refine bN ?_ | refine bA ?_ | refine bS ?_);first | exact bR | assumption | exact bN bR | exact bN (bN bR)))
    ((go_at_call 152;refine (HO.out _ (show Below W0.heap.size W0 _ by ((repeat first | refine bD ?_ | with_reducible refine bN ?_ | refine bA ?_ | refine bS ?_);first | exact bR | assumption | exact bN bR | exact bN (bN bR)))).mono ?_;rintro e x1 ⟨rfl,hbx1⟩;have hBx1:Below W0.heap.size W0 x1:=Below.trans (show Below W0.heap.size W0 _ by ((repeat first | refine bD ?_ | with_reducible refine bN ?_ | refine bA ?_ | refine bS ?_);first | exact bR | assumption | exact bN bR | exact bN (bN bR))) (hbx1.mono (Below.size (show Below W0.heap.size W0 _ by ((repeat first | refine bD ?_ | with_reducible refine bN ?_ | refine bA ?_ | refine bS ?_);first | exact bR | assumption | exact bN bR | exact bN (bN bR)))));have hz:=(hbx1.block q hqs1).trans hq1;have z0:x1.cell? ⟨q,0,none⟩ = some (.pointer none):=(by rw [cell_of_row x1 _ _ _ _ (0,0) hz];rfl);have z1:x1.cell? ⟨q,1,none⟩ = some (.bool false):=(by rw [cell_of_row x1 _ _ _ _ (0,0) hz];rfl);have z2:x1.cell? ⟨q,2,none⟩ = some (.int .i64 0):=(by rw [cell_of_row x1 _ _ _ _ (0,0) hz];rfl);have zf:∀ i,x1.frozen? ⟨q,i,none⟩ = false:=(fun i => frozen_of_row x1 _ i _ _ hz);clear hbx1 HO))
  go_wp2_with fail
  try rw [rounds_succ]
  obtain ⟨W2,hW2⟩:∃ W2,W2 = (((x1.setCell ⟨q,0,none⟩ (.pointer po)).setCell ⟨q,1,none⟩ (.bool ko)).setCell ⟨q,2,none⟩ (.int .i64 (ao:Int))):=⟨_,rfl⟩
  have hq2:W2.heap[q]? = some (.cells #[.pointer po,.bool ko,.int .i64 (ao:Int),.pointer none,.bool false,.int .i64 0,.pointer none,.bool false,.int .i64 0,.slice none 0 0] 192 (0,0)):=by
    rw [hW2]
    have hh:=set3 (i:=0) (.pointer po) (.bool ko) (.int .i64 (ao:Int)) hz
    simpa using hh
  have hB2:Below W0.heap.size W0 W2:=by rw [hW2];exact ((hBx1.setCell (p:=⟨q,0,none⟩) hqw _).setCell (p:=⟨q,1,none⟩) hqw _).setCell (p:=⟨q,2,none⟩) hqw _
  rw [← hW2]
  clear z0 z1 z2 zf hz hW2 hBx1 hq1 hB1 hqs1
  have hqs2:q < W2.heap.size:=(Array.getElem?_eq_some_iff.1 hq2).1
  go_wp2_with fail
  go_region_held3 (fun w2 => Below W0.heap.size W0 w2) (((repeat first | refine bD ?_ | with_reducible refine bN ?_ | refine bA ?_ | refine bS ?_);first | exact bR | assumption | exact bN bR | exact bN (bN bR)))
    ((go_at_call 152;refine (HA.out _ (show Below W0.heap.size W0 _ by ((repeat first | refine bD ?_ | with_reducible refine bN ?_ | refine bA ?_ | refine bS ?_);first | exact bR | assumption | exact bN bR | exact bN (bN bR)))).mono ?_;rintro e x2 ⟨rfl,hbx2⟩;have hBx2:Below W0.heap.size W0 x2:=Below.trans (show Below W0.heap.size W0 _ by ((repeat first | refine bD ?_ | with_reducible refine bN ?_ | refine bA ?_ | refine bS ?_);first | exact bR | assumption | exact bN bR | exact bN (bN bR))) (hbx2.mono (Below.size (show Below W0.heap.size W0 _ by ((repeat first | refine bD ?_ | with_reducible refine bN ?_ | refine bA ?_ | refine bS ?_);first | exact bR | assumption | exact bN bR | exact bN (bN bR)))));have hz:=(hbx2.block q hqs2).trans hq2;have z0:x2.cell? ⟨q,3,none⟩ = some (.pointer none):=(by rw [cell_of_row x2 _ _ _ _ (0,0) hz];rfl);have z1:x2.cell? ⟨q,4,none⟩ = some (.bool false):=(by rw [cell_of_row x2 _ _ _ _ (0,0) hz];rfl);have z2:x2.cell? ⟨q,5,none⟩ = some (.int .i64 0):=(by rw [cell_of_row x2 _ _ _ _ (0,0) hz];rfl);have zf:∀ i,x2.frozen? ⟨q,i,none⟩ = false:=(fun i => frozen_of_row x2 _ i _ _ hz);clear hbx2 HA))
  go_wp2_with fail
  try rw [rounds_succ]
  obtain ⟨W3,hW3⟩:∃ W3,W3 = (((x2.setCell ⟨q,3,none⟩ (.pointer pa)).setCell ⟨q,4,none⟩ (.bool ka)).setCell ⟨q,5,none⟩ (.int .i64 (aa:Int))):=⟨_,rfl⟩
  have hq3:W3.heap[q]? = some (.cells #[.pointer po,.bool ko,.int .i64 (ao:Int),.pointer pa,.bool ka,.int .i64 (aa:Int),.pointer none,.bool false,.int .i64 0,.slice none 0 0] 192 (0,0)):=by
    rw [hW3]
    have hh:=set3 (i:=3) (.pointer pa) (.bool ka) (.int .i64 (aa:Int)) hz
    simpa using hh
  have hB3:Below W0.heap.size W0 W3:=by rw [hW3];exact ((hBx2.setCell (p:=⟨q,3,none⟩) hqw _).setCell (p:=⟨q,4,none⟩) hqw _).setCell (p:=⟨q,5,none⟩) hqw _
  rw [← hW3]
  clear z0 z1 z2 zf hz hW3 hBx2 hq2 hB2 hqs2
  have hqs3:q < W3.heap.size:=(Array.getElem?_eq_some_iff.1 hq3).1
  go_wp2_with fail
  go_region_held3 (fun w2 => Below W0.heap.size W0 w2) (((repeat first | refine bD ?_ | with_reducible refine bN ?_ | refine bA ?_ | refine bS ?_);first | exact bR | assumption | exact bN bR | exact bN (bN bR)))
    ((go_at_call 152;refine (HBb.out _ (show Below W0.heap.size W0 _ by ((repeat first | refine bD ?_ | with_reducible refine bN ?_ | refine bA ?_ | refine bS ?_);first | exact bR | assumption | exact bN bR | exact bN (bN bR)))).mono ?_;rintro e x3 ⟨rfl,hbx3⟩;have hBx3:Below W0.heap.size W0 x3:=Below.trans (show Below W0.heap.size W0 _ by ((repeat first | refine bD ?_ | with_reducible refine bN ?_ | refine bA ?_ | refine bS ?_);first | exact bR | assumption | exact bN bR | exact bN (bN bR))) (hbx3.mono (Below.size (show Below W0.heap.size W0 _ by ((repeat first | refine bD ?_ | with_reducible refine bN ?_ | refine bA ?_ | refine bS ?_);first | exact bR | assumption | exact bN bR | exact bN (bN bR)))));have hz:=(hbx3.block q hqs3).trans hq3;have z0:x3.cell? ⟨q,6,none⟩ = some (.pointer none):=(by rw [cell_of_row x3 _ _ _ _ (0,0) hz];rfl);have z1:x3.cell? ⟨q,7,none⟩ = some (.bool false):=(by rw [cell_of_row x3 _ _ _ _ (0,0) hz];rfl);have z2:x3.cell? ⟨q,8,none⟩ = some (.int .i64 0):=(by rw [cell_of_row x3 _ _ _ _ (0,0) hz];rfl);have zf:∀ i,x3.frozen? ⟨q,i,none⟩ = false:=(fun i => frozen_of_row x3 _ i _ _ hz);clear hbx3 HBb))
  go_wp2_with fail
  try rw [rounds_succ]
  obtain ⟨W4,hW4⟩:∃ W4,W4 = (((x3.setCell ⟨q,6,none⟩ (.pointer pb)).setCell ⟨q,7,none⟩ (.bool kb)).setCell ⟨q,8,none⟩ (.int .i64 (ab:Int))):=⟨_,rfl⟩
  have hq4:W4.heap[q]? = some (.cells #[.pointer po,.bool ko,.int .i64 (ao:Int),.pointer pa,.bool ka,.int .i64 (aa:Int),.pointer pb,.bool kb,.int .i64 (ab:Int),.slice none 0 0] 192 (0,0)):=by
    rw [hW4]
    have hh:=set3 (i:=6) (.pointer pb) (.bool kb) (.int .i64 (ab:Int)) hz
    simpa using hh
  have hB4:Below W0.heap.size W0 W4:=by rw [hW4];exact ((hBx3.setCell (p:=⟨q,6,none⟩) hqw _).setCell (p:=⟨q,7,none⟩) hqw _).setCell (p:=⟨q,8,none⟩) hqw _
  rw [← hW4]
  clear z0 z1 z2 zf hz hW4 hBx3 hq3 hB3 hqs3
  go_wp2_with fail
  go_ret
  exact ⟨q,rfl,Nat.le_trans HW.out.2.1.size hqw,hq4,Below.andThen HW.out.2.1 hB4⟩
section
variable {α:Type} {n:Nat} {Q:(Nat→Option Value)→α→Prop} {Z:Nat→Value→Prop}
def RowZ (e:TypeId) (n:Nat) (Q:(Nat→Option Value)→α→Prop) (Z:Nat→Value→Prop) (w:World) (base:Nat) (v:Value) (L:List α):Prop :=
  (v = .slice none 0 0∧L = [])∨∃ g cap cur vs,v = .slice (some ⟨g,0,none⟩) L.length cap∧base≤g∧w.heap[g]? = some (.cells cur e (0,0))∧L.length≤cap∧cap≤maxLen∧cur.size = cap * n∧cur.toList.take (L.length * n) = vs∧LCells n Q vs L∧∀ i c,L.length * n≤i→cur[i]? = some c→Z (i % n) c
variable {e:TypeId} {w w':World} {base:Nat} {v:Value} {L:List α}
theorem RowZ.block (h:RowZ e n Q Z w base v L) (hb:∀ q,v.ownBlock = some q→w'.heap[q]? = w.heap[q]?):RowZ e n Q Z w' base v L:=by
  rcases h with h | ⟨g,cap,cur,vs,rfl,hg,hh,r⟩
  · exact .inl h
  · exact .inr ⟨g,cap,cur,vs,rfl,hg,(hb g rfl).trans hh,r⟩
theorem RowZ.lt (h:RowZ e n Q Z w base v L):∀ q,v.ownBlock = some q→base≤q∧q < w.heap.size:=by
  intro q hq
  rcases h with ⟨rfl,-⟩ | ⟨g,cap,cur,vs,rfl,hg,hh,r⟩
  · simp [Value.ownBlock] at hq
  · simp only [Value.ownBlock,Option.some.injEq] at hq
    subst hq
    exact ⟨hg,(Array.getElem?_eq_some_iff.1 hh).1⟩
theorem RowZ.below {C:Nat} (h:RowZ e n Q Z w base v L) (hb:Below C w w') (hC:w.heap.size≤C):RowZ e n Q Z w' base v L :=
  h.block fun q hq => hb.block q (by have:=(h.lt q hq).2;omega)
theorem RowZ.slice (h:RowZ e n Q Z w base v L):∃ D d,v = .slice D L.length d∧L.length≤d:=by
  rcases h with ⟨rfl,rfl⟩ | ⟨g,cap,cur,vs,rfl,-,-,h,-⟩
  · exact ⟨none,0,rfl,Nat.le_refl _⟩
  · exact ⟨_,_,rfl,h⟩
theorem RowZ.impZ {Z':Nat→Value→Prop} (h:RowZ e n Q Z w base v L) (k:∀ i c,Z i c→Z' i c):RowZ e n Q Z' w base v L:=by
  rcases h with h | ⟨g,cap,cur,vs,h1,hg,hh,h2,h3,h4,h5,h6,h7⟩
  · exact .inl h
  · exact .inr ⟨g,cap,cur,vs,h1,hg,hh,h2,h3,h4,h5,h6,fun i c hi hc => k _ _ (h7 i c hi hc)⟩
theorem rowZ_nil (e:TypeId) (w:World) (base:Nat):RowZ e n Q Z w base (.slice none 0 0) []:=.inl ⟨rfl,rfl⟩
theorem RowZ.at (hQ:QOk n Q) (h:RowZ e n Q Z w base v L) {i:Nat} {x:α} (hx:L[i]? = some x):∃ g d cur,v = .slice (some ⟨g,0,none⟩) L.length d∧base≤g∧g < w.heap.size∧w.heap[g]? = some (.cells cur e (0,0))∧Q (fun j => cur[i * n + j]?) x:=by
  rcases h with ⟨-,rfl⟩ | ⟨g,cap,cur,vs,h1,hg,hh,h2,h3,h4,h5,h6,-⟩
  · simp at hx
  · refine ⟨g,cap,cur,h1,hg,(Array.getElem?_eq_some_iff.1 hh).1,hh,hQ.ext _ _ _ (fun j hj => ?_) (h6.2 i x hx)⟩
    have hi:=(List.getElem?_eq_some_iff.1 hx).1
    rw [← h5,List.getElem?_take,if_pos (idx_lt hi hj)]
    simp
theorem mod_add_mul (a i n:Nat):(a * n + i) % n = i % n:=by rw [Nat.add_comm,Nat.add_mul_mod_self_right]
theorem zeroCells_at {z:Array Value} {m i:Nat} {c:Value} (h:(Builtin.zeroCells z m)[i]? = some c) (hz:0 < z.size):z[i % z.size]? = some c:=by
  simp only [Builtin.zeroCells,Array.getElem?_map] at h
  obtain ⟨j,hj,rfl⟩:=Option.map_eq_some_iff.1 h
  have hji:j = i:=by
    obtain ⟨hl,hj⟩:=Array.getElem?_eq_some_iff.1 hj
    simpa using hj.symm
  subst hji
  have hlt:=Nat.mod_lt j hz
  simp [hlt]
theorem run_append_rowZ (t ty:TypeId) (z:Value) (sz:Nat) (hu:Tryz.prog.underlying t = some (.slice e)) (hinfo:(Tryz.prog.info? e).map (fun i => (i.zero,i.size,i.bytes)) = some (some z,n,sz)) (hzc:z.cells.size = n) (hn0:0 < n) (hsz:sz≤1000) (hQ:QOk n Q) (hZ:∀ i c,z.cells[i]? = some c→Z i c)
    (h:RowZ e n Q Z w base v L) (x:α) (us:List Value) (hus:us.length = n) (hx:Q (fun j => us[j]?) x) (ad:Addr) (c:Nat) (hnews:∀ j u,us[j]? = some u→w.cell? (ad.add j) = some u) (hl:L.length≤1000000) (hbase:base≤w.heap.size) :
    ∃ D d w',(Builtin.append_ #[t,t] ty #[v,.slice (some ad) 1 c]).run Tryz.prog w = .ok (.slice D (L.length + 1) d) w'∧RowZ e n Q Z w' base (.slice D (L.length + 1) d) (L ++ [x])∧w.grownBy w' v.ownBlock ∧
      ((Value.slice D (L.length + 1) d).ownBlock = v.ownBlock∨(Value.slice D (L.length + 1) d).ownBlock = some w.heap.size)∧(∀ q i u,v.ownBlock = some q→w.cell? ⟨q,i,none⟩ = some u→w'.cell? ⟨q,i,none⟩ = some u∨L.length * n≤i):=by
  obtain ⟨i0,hi0,hz0,hz1,hz2⟩:=info_parts hinfo
  have hone:LCells n Q us [x]:=⟨by simpa using hus,fun i a ha => by
    cases i with
    | zero =>
      simp only [List.getElem?_cons_zero,Option.some.injEq] at ha
      subst ha
      refine hQ.ext _ _ _ (fun j _ => ?_) hx
      simp
    | succ i => simp at ha⟩
  have hone1:=hone.one hQ
  have hbyt:(L.length + 1) * sz≤140737488355328:=by
    have hm:=Nat.mul_le_mul (show L.length + 1≤1000001 by omega) hsz
    omega
  have grown:∀ old vs,LCells n Q vs L→RowZ e n Q Z (w.drew.alloc (.cells (vs.toArray ++ us.toArray ++ Builtin.zeroCells z.cells (grownCap w (L.length + 1) old e - (L.length + 1))) e)) base (.slice (some ⟨w.heap.size,0,none⟩) (L.length + 1) (grownCap w (L.length + 1) old e)) (L ++ [x]):=by
    intro old vs hvs
    have hge:=grownCap_ge w (L.length + 1) old e
    have hcm:=grownCap_le_maxLen w (L.length + 1) old e (by unfold maxLen;omega)
    have hlen:(vs ++ us).length = (L.length + 1) * n:=by rw [List.length_append,hvs.1,hus,Nat.succ_mul]
    refine .inr ⟨w.heap.size,_,_,vs ++ us,by simp,hbase,World.alloc_heap_new w.drew _,by simp;omega,hcm,?_,?_,hvs.append hQ hone,fun i c' hi hc => ?_⟩
    · simp only [Array.size_append,List.size_toArray,size_zeroCells,hzc,hvs.1,hus]
      have e1:L.length * n + n = (L.length + 1) * n:=by rw [Nat.succ_mul]
      rw [e1,← Nat.add_mul,Nat.add_sub_of_le hge]
    · simp only [Array.toList_append,List.length_append,List.length_singleton]
      rw [← hlen]
      exact List.take_left
    · simp only [List.length_append,List.length_singleton] at hi
      obtain ⟨r,rfl⟩:∃ r,i = (L.length + 1) * n + r:=⟨i - (L.length + 1) * n,by omega⟩
      have hsz2:(vs.toArray ++ us.toArray).size = (L.length + 1) * n:=by simpa using hlen
      rw [Array.getElem?_append_right (by rw [hsz2];omega),hsz2,Nat.add_sub_cancel_left] at hc
      have h2:=zeroCells_at hc (by rw [hzc];exact hn0)
      rw [hzc] at h2
      rw [mod_add_mul]
      exact hZ _ _ h2
  rcases h with ⟨rfl,rfl⟩ | ⟨g,cap,cur,vs,rfl,hg,hh,h1,h2,h3,h4,h5,h6⟩
  · have hr:=_root_.Go.run_append_nil (P:=Tryz.prog) w t ty e i0 z hu hi0 hz0 ad 1 c us (by rw [hz1,hus,Nat.one_mul]) hnews (by omega) (by omega) (by rw [hz2];omega)
    have hgr:=grown 0 [] (LCells.nil n Q)
    simp only [List.length_nil,Nat.zero_add] at hgr hr ⊢
    rw [show ([]:List Value).toArray ++ us.toArray = us.toArray by simp] at hgr
    exact ⟨_,_,_,hr,hgr,⟨rfl,rfl,rfl,by simp,fun k hk _ => Below.heap_alloc w.drew _ k hk⟩,.inr rfl,fun q i u hq => by simp [Value.ownBlock] at hq⟩
  · have hvs:vs.length = L.length * n:=h5.1
    have hcap:L.length * n≤cur.size:=by rw [h3];exact Nat.mul_le_mul_right _ h1
    by_cases hroom:L.length + 1≤cap
    · have hfit:L.length * n + n≤cur.size:=by rw [h3,← Nat.succ_mul];exact Nat.mul_le_mul_right _ hroom
      have hr:=run_append_room (P:=Tryz.prog) w t ty e i0 hu hi0 g L.length cap cur hh ad 1 c us (by rw [hz1,hus,Nat.one_mul]) hnews hone1 hroom (by rw [hz1,hus];exact hfit)
      rw [hz1,h4,hus] at hr
      have hin:∀ i,i < L.length * n→(vs ++ us ++ cur.toList.drop (L.length * n + n)).toArray[i]? = cur[i]?:=fun i hi => by
        rw [List.getElem?_toArray,List.append_assoc,List.getElem?_append_left (by omega),← h4,List.getElem?_take,if_pos hi]
        simp
      refine ⟨some ⟨g,0,none⟩,cap,_,hr,.inr ⟨g,cap,_,vs ++ us,by simp,hg,setRow_heap w g cur _ _ _ hh,by simp;omega,h2,?_,?_,h5.append hQ hone,fun i c' hi hc => ?_⟩,⟨rfl,rfl,rfl,by simp,fun k _ hk => setRow_other w g k _ (fun e => hk (by simp [Value.ownBlock,e]))⟩,.inl rfl,fun q i u hq hu' => ?_⟩
      · simp only [List.size_toArray,List.length_append,List.length_drop,Array.length_toList,hvs,hus]
        omega
      · simp only [List.length_append,List.length_singleton]
        have hlen:(vs ++ us).length = (L.length + 1) * n:=by rw [List.length_append,hvs,hus,Nat.succ_mul]
        rw [← hlen]
        exact List.take_left
      · simp only [List.length_append,List.length_singleton] at hi
        have hlen:(vs ++ us).length = L.length * n + n:=by rw [List.length_append,hvs,hus]
        rw [Nat.succ_mul] at hi
        rw [List.getElem?_toArray,List.getElem?_append_right (by omega),hlen,List.getElem?_drop,show L.length * n + n + (i - (L.length * n + n)) = i by omega] at hc
        exact h6 i c' (by omega) (by simpa using hc)
      · simp only [Value.ownBlock,Option.some.injEq] at hq
        subst hq
        rcases Nat.lt_or_ge i (L.length * n) with hi | hi
        · left
          rw [cell_of_row _ _ _ _ _ (0,0) (setRow_heap w g cur _ _ _ hh),hin i hi,← cell_of_row w g i cur e (0,0) hh]
          exact hu'
        · exact .inr hi
    · have hcells:∀ j u,vs[j]? = some u→w.cell? ((⟨g,0,none⟩:Addr).add j) = some u:=fun j u hj => by
        rw [Go.WideShapes.add_plain,Nat.zero_add,cell_of_row w g j cur e (0,0) hh]
        rw [← h4] at hj
        rw [List.getElem?_take] at hj
        split at hj
        · simpa using hj
        · cases hj
      have hr:=run_append_grow (P:=Tryz.prog) w t ty e i0 z hu hi0 hz0 ⟨g,0,none⟩ L.length cap vs (by rw [hz1];exact hvs) hcells ad 1 c us (by rw [hz1,hus,Nat.one_mul]) hnews (by omega) (by omega) (growslice_fits (by omega) (by rw [hz2];omega))
      refine ⟨_,_,_,hr,grown cap vs h5,⟨rfl,rfl,rfl,by simp,fun k hk _ => Below.heap_alloc w.drew _ k hk⟩,.inr rfl,fun q i u hq hu' => .inl ?_⟩
      simp only [Value.ownBlock,Option.some.injEq] at hq
      subst hq
      rw [World.cell?_of_block (w:=w) (a:=⟨g,i,none⟩) (Below.heap_alloc w.drew _ g (Array.getElem?_eq_some_iff.1 hh).1)]
      exact hu'
end
def Off (W:World) (r:Nat) (S:Nat→Prop) (k:Nat) (x:T):Prop:=∀ off:Nat,
  ((∀ i y,x.ks[i]? = some y→W.cell? ⟨r,off + i,none⟩ = some (.pointer (some ⟨y.2.blk,0,none⟩)))→∀ i,i < x.ks.length→¬ S (off + i)) ∧
  (2 ^ k < 2 * x.ks.length→(∀ a:Nat,a < 2 ^ k→W.cell? ⟨r,off + a,none⟩ = some (.pointer (rootP (Sl.get x.ks (a:Int)))))→∀ a,a < 2 ^ k→¬ S (off + a))
section
variable {W W':World} {r:Nat} {S:Nat→Prop}
def NoU (W:World) (r:Nat):Prop:=∀ i u,W.cell? ⟨r,i,none⟩ = some u→(∀ n,u≠.int .u64 n)∧∀ n,u≠.int .u16 n
theorem rdV_far (hk:∀ b,b≠r→W'.heap[b]? = W.heap[b]?) (hu:NoU W r) {B:Nat} {A:Option Addr} {xs:List Value} (h:RdV W B A xs) (hx:∀ x∈xs,(∃ n,x = .int .u64 n)∨∃ n,x = .int .u16 n):RdV W' B A xs:=by
  intro hn
  obtain ⟨b,off,hA,hb,hc⟩:=h hn
  have hbr:b≠r:=by
    rintro rfl
    obtain ⟨x,hm⟩:=List.exists_mem_of_ne_nil _ hn
    obtain ⟨i,hi⟩:=List.getElem?_of_mem hm
    obtain ⟨h1,h2⟩:=hu _ _ (hc i x hi)
    rcases hx x hm with ⟨n,e⟩ | ⟨n,e⟩
    · exact h1 n e
    · exact h2 n e
  exact ⟨b,off,hA,hb,fun i v hi => cell_far hk hbr (hc i v hi)⟩
theorem nd_keep (hk:∀ b,b≠r→W'.heap[b]? = W.heap[b]?) (hu:NoU W r) {B g:Nat} {lev:Int} {pre:List Nat} {v:Nat} {kp:Option Addr} {s:S4} (h:NdAt W B g lev pre v kp s) (hw:TrB W g):NdAt W' B g lev pre v kp s∧TrB W' g:=by
  obtain ⟨h0,⟨A,c,hpt,h1⟩,h2,h3,h4,h5,h6,h7,h8⟩:=h
  have hg:g≠r:=by
    rintro rfl
    exact (hu _ _ h3).1 _ rfl
  refine ⟨⟨h0,⟨A,c,rdV_pts hpt.1 (rdV_far hk hu (pts_rdV hpt) fun x hx => ?_),cell_far hk hg h1⟩,cell_far hk hg h2,cell_far hk hg h3,cell_far hk hg h4,cell_far hk hg h5,cell_far hk hg h6,cell_far hk hg h7,cell_far hk hg h8⟩,hw.keep (hk g hg)⟩
  simp only [vals,List.mem_map] at hx
  obtain ⟨n,-,rfl⟩:=hx
  exact .inl ⟨_,rfl⟩
theorem at_keep (hk:∀ b,b≠r→W'.heap[b]? = W.heap[b]?) (hin:∀ i u,W.cell? ⟨r,i,none⟩ = some u→¬ S i→W'.cell? ⟨r,i,none⟩ = some u) (hu:NoU W r) {B b k g l:Nat} {pre:List Nat} {ks:List (Nat × T)} (h:Sn.At W B b k (kidL ks)) (ho:Off W r S k (.br g l pre ks)):Sn.At W' B b k (kidL ks):=by
  refine ⟨h.1,?_⟩
  have hr:=h.2
  have hks:(T.br g l pre ks).ks = ks:=rfl
  generalize hd:Sl.dense k (kidL ks) = d at hr ⊢
  cases d
  · obtain ⟨h0,A,c,D,c',k0,k1,k2,k3,h5,h6,h7,h8⟩:=hr
    have hb:b≠r:=by rintro rfl;exact (hu _ _ k1).1 _ rfl
    refine ⟨h0,A,c,D,c',cell_far hk hb k0,cell_far hk hb k1,cell_far hk hb k2,cell_far hk hb k3,h5,h6,rdV_far hk hu h7 fun x hx => ?_,fun hn => ?_⟩
    · simp only [Sn.u16V,List.mem_map] at hx
      obtain ⟨n,-,rfl⟩:=hx
      exact .inr ⟨_,rfl⟩
    · obtain ⟨q,off,hA,hq,hc⟩:=h8 hn
      refine ⟨q,off,hA,hq,fun i v hi => ?_⟩
      by_cases e:q = r
      · subst e
        have hil:i < ks.length:=by
          have:=(List.getElem?_eq_some_iff.1 hi).1
          simpa [Sn.elV,Sl.things,kidL] using this
        refine hin _ _ (hc i v hi) ((ho off).1 (fun j y hy => ?_) i (by rw [hks];exact hil))
        rw [hks] at hy
        exact hc j _ (Sn.elV_get (Sl.things_get (L:=kidL ks) (p:=((y.1,some (⟨y.2.blk,0,none⟩:Addr)):Nat × Option Addr)) (by simp [kidL,hy])))
      · exact cell_far hk e (hc i v hi)
  · obtain ⟨h0,hkk,hL,P,D,c',k0,k1,k2,k3,h5,h6,h7⟩:=hr
    have hb:b≠r:=by rintro rfl;exact (hu _ _ k1).1 _ rfl
    refine ⟨h0,hkk,hL,P,D,c',cell_far hk hb k0,cell_far hk hb k1,cell_far hk hb k2,cell_far hk hb k3,h5,h6,fun hn => ?_⟩
    obtain ⟨q,off,hA,hq,hc⟩:=h7 hn
    refine ⟨q,off,hA,hq,fun i v hi => ?_⟩
    by_cases e:q = r
    · subst e
      have hil:i < 2 ^ k:=by
        have:=(List.getElem?_eq_some_iff.1 hi).1
        simpa [Sn.elV,Sl.row_length] using this
      have hdk:=(Sl.dense_k hd).2
      rw [kidL_length] at hdk
      refine hin _ _ (hc i v hi) ((ho off).2 (by rw [hks];exact hdk) (fun a ha => ?_) i hil)
      have:=hc a _ (Sn.elV_get (Sl.row_get none (kidL ks) ha))
      rw [hks,← rootP_kid]
      exact this
    · exact cell_far hk e (hc i v hi)
theorem mem_all_kid {g l:Nat} {pre:List Nat} {ks:List (Nat × T)} {x:Nat × T} (hx:x∈ks) {z:T} (hz:z∈x.2.all):z∈(T.br g l pre ks).all:=by
  rw [Tr.all_br]
  exact List.mem_cons_of_mem _ (List.mem_flatMap.2 ⟨x,hx,hz⟩)
theorem node_keep (hk:∀ b,b≠r→W'.heap[b]? = W.heap[b]?) (hin:∀ i u,W.cell? ⟨r,i,none⟩ = some u→¬ S i→W'.cell? ⟨r,i,none⟩ = some u) (hu:NoU W r) {B k:Nat} {t:T} (hn:Node W B k t) (ho:∀ x∈t.all,x.ks≠[]→Off W r S k x):Node W' B k t:=by
  obtain ⟨hw,hm⟩:=hn
  refine ⟨hw,?_⟩
  induction hm with
  | ent g p v h hwb => exact .ent g p v (nd_keep hk hu h hwb).1 (nd_keep hk hu h hwb).2
  | br g l pre ks b h hA hkk hwb ih =>
    have hne:ks≠[]:=by
      cases hw with
      | br _ _ _ _ _ _ h2 => intro e;rw [e] at h2;simp at h2
    exact .br g l pre ks b (nd_keep hk hu h hwb).1 (at_keep hk hin hu hA (ho _ (by rw [Tr.all_br];exact List.mem_cons_self) hne)) (fun y hy => ih y hy (fun x hx => ho x (mem_all_kid hy hx)) (hw.kid hy)) (nd_keep hk hu h hwb).2
end
theorem Node.all {W:World} {B k:Nat}:∀ (n:Nat) {t:T},t.all.length≤n→Node W B k t→∀ x∈t.all,Node W B k x:=by
  intro n
  induction n with
  | zero => intro t h;have:=Tr.all_pos t;omega
  | succ n ih =>
    intro t h hn x hx
    cases t with
    | ent g p v =>
      rw [Tr.all_eq] at hx
      simp only [T.ks,Tr.allK,List.flatMap_nil,List.mem_singleton] at hx
      rw [hx]
      exact hn
    | br g l pre ks =>
      rw [Tr.all_br] at hx h
      rcases List.mem_cons.1 hx with rfl | hx
      · exact hn
      · obtain ⟨y,hy,hxy⟩:=List.mem_flatMap.1 hx
        refine ih ?_ (hn.kid hy) x hxy
        have hle:y.2.all.length≤(Tr.allK ks).length:=by
          unfold Tr.allK
          obtain ⟨a,b,rfl⟩:=List.append_of_mem hy
          simp only [List.flatMap_append,List.flatMap_cons,List.length_append]
          omega
        simp only [List.length_cons] at h
        omega
theorem Node.kids_dense {W:World} {B k:Nat} {x:T} (hn:Node W B k x) (hne:x.ks≠[]):Sl.Wf k x.ks∧2≤x.ks.length:=by
  cases x with
  | ent g p v => exact absurd rfl hne
  | br g l pre ks =>
    cases hn.1 with
    | br _ _ _ _ _ hw h2 => exact ⟨hw,h2⟩
theorem miss_one {V:Type} {k:Nat} {L:List (Nat × V)} (h:Sl.Wf k L) {a:Nat} (ha:a < 2 ^ k) (hg:Sl.get L (a:Int) = none):L.length + 1≤2 ^ k:=by
  by_cases hne:L = []
  · subst hne
    have:=Nat.two_pow_pos k
    simp only [List.length_nil]
    omega
  · obtain ⟨p,hp⟩:=List.exists_mem_of_ne_nil _ hne
    have h1:=(h.put p.2 ha).len
    rw [Sl.length_put h.srt] at h1
    have:Sl.has L (a:Int) = false:=by unfold Sl.has;rw [hg];rfl
    rw [this] at h1
    simpa using h1
section
variable {W:World} {r k B:Nat} {S:Nat→Prop} {x:T}
theorem off_any (hn:Node W B k x) (hne:x.ks≠[]) (h:∀ y∈x.ks,∀ i,W.cell? ⟨r,i,none⟩≠some (.pointer (some ⟨y.2.blk,0,none⟩))):Off W r S k x:=by
  obtain ⟨hw,h2⟩:=hn.kids_dense hne
  obtain ⟨y,hy⟩:=List.exists_mem_of_ne_nil _ hne
  intro off
  refine ⟨fun hc => ?_,fun _ hc => ?_⟩
  · obtain ⟨i,hi⟩:=List.getElem?_of_mem hy
    exact absurd (hc i y hi) (h y hy _)
  · have:=hc y.1 (hw.lt y hy)
    rw [Sl.get_of_mem hw.srt hy] at this
    exact absurd this (h y hy _)
theorem off_pair (hn:Node W B k x) (hne:x.ks≠[]) (h:∀ i p q,W.cell? ⟨r,i,none⟩ = some (.pointer p)→W.cell? ⟨r,i + 1,none⟩≠some (.pointer q)):Off W r S k x:=by
  obtain ⟨hw,h2⟩:=hn.kids_dense hne
  intro off
  refine ⟨fun hc => ?_,fun hd hc => ?_⟩
  · obtain ⟨y,hy⟩:∃ y,x.ks[0]? = some y:=get_lt (by omega)
    obtain ⟨z,hz⟩:∃ z,x.ks[1]? = some z:=get_lt (by omega)
    exact absurd (hc 1 z hz) (h _ _ _ (hc 0 y hy))
  · have hp:2≤2 ^ k:=by
      have:=hw.k1
      calc 2 = 2 ^ 1:=rfl
        _≤2 ^ k:=Nat.pow_le_pow_right (by omega) this
    exact absurd (hc 1 (by omega)) (h _ _ _ (hc 0 (by omega)))
theorem off_spare (hn:Node W B k x) (hne:x.ks≠[]) {n:Nat} (h:∀ i u,n * 5≤i→W.cell? ⟨r,i,none⟩ = some u→if i % 5 = 0 then (∃ m,u = .int .i64 m) else u = .pointer none):Off W r (fun i => n * 5≤i) k x:=by
  obtain ⟨hw,h2⟩:=hn.kids_dense hne
  intro off
  refine ⟨fun hc i hi hS => ?_,fun hd hc a ha hS => ?_⟩
  · obtain ⟨y,hy⟩:=get_lt hi
    have:=h _ _ hS (hc i y hy)
    split at this
    · obtain ⟨m,e⟩:=this;cases e
    · cases this
  · obtain ⟨y,hy⟩:=List.exists_mem_of_ne_nil _ hne
    have hy1:=hc y.1 (hw.lt y hy)
    rw [Sl.get_of_mem hw.srt hy] at hy1
    have hlt:off + y.1 < n * 5:=by
      rcases Nat.lt_or_ge (off + y.1) (n * 5) with c | c
      · exact c
      · have:=h _ _ c hy1
        split at this
        · obtain ⟨m,e⟩:=this;cases e
        · cases this
    have hmid:=hc (n * 5 - off) (by omega)
    rw [show off + (n * 5 - off) = n * 5 by omega] at hmid
    have:=h _ _ (Nat.le_refl _) hmid
    rw [if_pos (Nat.mul_mod_left n 5)] at this
    obtain ⟨m,e⟩:=this
    cases e
theorem off_fifth (hn:Node W B k x) (hne:x.ks≠[]) {j:Nat} {o a b:Option Addr} (h5:W.cell? ⟨r,j * 5 + 4,none⟩ = some (.pointer none)) (h1:W.cell? ⟨r,j * 5 + 1,none⟩ = some (.pointer o)) (h2:W.cell? ⟨r,j * 5 + 2,none⟩ = some (.pointer a)) (h3:W.cell? ⟨r,j * 5 + 3,none⟩ = some (.pointer b))
    (h0:∀ p,W.cell? ⟨r,j * 5,none⟩≠some (.pointer p)) (h6:∀ p,W.cell? ⟨r,j * 5 + 5,none⟩≠some (.pointer p))
    (hC:∀ y0 y1 y2:Nat × T,y0∈x.ks→y1∈x.ks→y2∈x.ks→y0.1≠y1.1→y0.1≠y2.1→o = some ⟨y0.2.blk,0,none⟩→a = some ⟨y1.2.blk,0,none⟩→b = some ⟨y2.2.blk,0,none⟩→False):Off W r (fun i => i = j * 5 + 4) k x:=by
  obtain ⟨hw,hl2⟩:=hn.kids_dense hne
  intro off
  refine ⟨fun hc i hi hS => ?_,fun hd hc c ha hS => ?_⟩
  · obtain ⟨y,hy⟩:=get_lt hi
    have:=hc i y hy
    rw [hS,h5] at this
    cases this
  · have hlow:j * 5 + 1≤off:=by
      rcases Nat.lt_or_ge off (j * 5 + 1) with d | d
      · have:=hc (j * 5 - off) (by omega)
        rw [show off + (j * 5 - off) = j * 5 by omega] at this
        exact absurd this (h0 _)
      · exact d
    have hhigh:off + 2 ^ k≤j * 5 + 5:=by
      rcases Nat.lt_or_ge (j * 5 + 5) (off + 2 ^ k) with d | d
      · have:=hc (j * 5 + 5 - off) (by omega)
        rw [show off + (j * 5 + 5 - off) = j * 5 + 5 by omega] at this
        exact absurd this (h6 _)
      · exact d
    have hcell:=hc c ha
    rw [hS,h5] at hcell
    have hgc:Sl.get x.ks (c:Int) = none:=by
      cases hg:Sl.get x.ks (c:Int) with
      | none => rfl
      | some y => rw [hg] at hcell;cases hcell
    have hm:=miss_one hw ha hgc
    have hk1:=hw.k1
    have hk2:k = 2:=by
      have hk3:¬ 3≤k:=fun h => by
        have:2 ^ 3≤2 ^ k:=Nat.pow_le_pow_right (by omega) h
        omega
      have hk4:k≠1:=fun h => by
        subst h
        omega
      omega
    subst hk2
    have hc3:off = j * 5 + 1:=by omega
    have hc4:c = 3:=by omega
    subst hc4
    have get:∀ i:Nat,i < 3→∃ y,Sl.get x.ks (i:Int) = some y:=fun i hi => by
      cases hg:Sl.get x.ks (i:Int) with
      | some y => exact ⟨y,rfl⟩
      | none =>
        exfalso
        obtain ⟨p,hp⟩:=List.exists_mem_of_ne_nil _ hne
        have hw':=hw.put p.2 (show i < 2 ^ 2 by omega)
        have hg3:Sl.get (Sl.put i p.2 x.ks) ((3:Nat):Int) = none:=by
          rw [Sl.get_put hw.srt,if_neg (by omega)]
          exact hgc
        have h8:=miss_one hw' (show 3 < 2 ^ 2 by omega) hg3
        rw [Sl.length_put hw.srt] at h8
        have:Sl.has x.ks (i:Int) = false:=by unfold Sl.has;rw [hg];rfl
        rw [this] at h8
        simp at h8
        omega
    obtain ⟨y0,g0⟩:=get 0 (by omega)
    obtain ⟨y1,g1⟩:=get 1 (by omega)
    obtain ⟨y2,g2⟩:=get 2 (by omega)
    have c0:=hc 0 (by omega)
    have c1:=hc 1 (by omega)
    have c2:=hc 2 (by omega)
    rw [g0,hc3,Nat.add_zero,h1] at c0
    rw [g1,hc3,h2] at c1
    rw [g2,hc3,h3] at c2
    simp only [rootP,Option.some.injEq,Value.pointer.injEq] at c0 c1 c2
    exact hC (0,y0) (1,y1) (2,y2) ((Sl.get_iff hw.srt).1 g0) ((Sl.get_iff hw.srt).1 g1) ((Sl.get_iff hw.srt).1 g2) (by simp) (by simp) c0 c1 c2
end
set_option maxRecDepth 1000000 in
theorem mFrom_c {w:World} {B k l:Nat} {c0:List Nat} {o:Option T} (h:NodeO w B k o) (hB:B≤w.heap.size) (hT:∀ w',Below w.heap.size w w'→Tz w') (hf:Tr.FitL k l c0 (Tr.sdL o l)) (n:Nat) (hn:n≤65536) (i:Nat) (u:Option T) (hi:Tr.hdA (Tr.dropF (Tr.sdL o l) n) = i) (hu:Tr.hdT (Tr.dropF (Tr.sdL o l) n) = u) :
    Calls Tryz.prog 154 #[sdV (rootP o) (sdK o l) (sdA o l),.int .i64 (n:Int)] w fun e w' => e = .returned (.tuple #[.int .i64 (i:Int),.pointer (rootP u)])∧Below w.heap.size w w':=by
  have hb0:=below_alloc w (.cells #[.pointer (rootP o),.bool (sdK o l),.int .i64 (sdA o l:Int)] 189)
  have hpn:=nptr_none
  have hn2:=nptr_no2
  cases o with
  | none =>
    have hd:Tr.dropF (Tr.sdL none l) n = []:=by simp [Tr.dropF,Tr.sdL]
    rw [hd] at hi hu
    have hi':65536 = i:=hi
    have hu':none = u:=hu
    subst hi' hu'
    simp only [rootP,sdK,sdA] at hb0 ⊢
    clear h hT hf hd
    go_enter Tryz.func154,Tryz.ntmps154
    go_wp2_with fail
    go_quiet (fail)
    have hb1:=below_drewN nq hb0
    go_wp2_with fail
    go_ret2
    exact ⟨rfl,hb1⟩
  | some t =>
    have hnt:=h t rfl
    by_cases c:t.lv = l + 1
    · have hs:Tr.sdL (some t) l = t.ks:=by simp [Tr.sdL,c]
      have hk:sdK (some t) l = true:=by simp [sdK,c]
      have ha:sdA (some t) l = 0:=by simp [sdA,c]
      rw [hs] at hi hu hf
      rw [hk,ha] at hb0 ⊢
      cases hd:t.ks[Sl.idx t.ks (n:Int)]? with
      | none =>
        have hd':Tr.dropF t.ks n = []:=by
          rw [Tr.dropF_head] at hd
          cases h0:Tr.dropF t.ks n with
          | nil => rfl
          | cons x xs => rw [h0] at hd;cases hd
        rw [hd'] at hi hu
        have hi':65536 = i:=hi
        have hu':none = u:=hu
        subst hi' hu'
        have HF:Hid (∀ w1,Below w.heap.size w w1→Calls Tryz.prog 143 #[.pointer (some ⟨t.blk,0,none⟩),.int .i64 (n:Int)] w1 fun e w' => e = .returned (atKid 0 none)∧Below w.heap.size w w'):=Lib.hid fun w1 hb =>
          (nFrom_c (hnt.below hb hB (Nat.le_refl _)).2 (hT w1 hb) (n:Int) (by omega) (by omega) (0,none) (by rw [hd];rfl)).mono fun e w' ⟨he,m,hw⟩ => ⟨he,by rw [hw];exact below_drewN _ hb⟩
        simp only [rootP] at hb0 ⊢
        clear h hT hf hd hd' hnt hs hk ha hi hu
        go_enter Tryz.func154,Tryz.ntmps154
        go_wp2_with fail
        go_quiet (fail)
        have hb1:=below_drewN nq hb0
        go_wp2_with (go_at_call 143;refine (HF.out _ hb1).mono ?_;rintro e w2 ⟨rfl,hb2⟩)
        go_ret2
        exact ⟨rfl,hb2⟩
      | some p =>
        obtain ⟨b,s⟩:=p
        have hd':∃ xs,Tr.dropF t.ks n = (b,s) :: xs:=by
          rw [Tr.dropF_head] at hd
          cases h0:Tr.dropF t.ks n with
          | nil => rw [h0] at hd;cases hd
          | cons x xs => rw [h0] at hd;cases hd;exact ⟨xs,rfl⟩
        obtain ⟨xs,hd'⟩:=hd'
        have hge:=Tr.dropF_ge hd'
        rw [hd'] at hi hu
        have hi':b = i:=hi
        have hu':some s = u:=hu
        subst hi' hu'
        have HF:Hid (∀ w1,Below w.heap.size w w1→Calls Tryz.prog 143 #[.pointer (some ⟨t.blk,0,none⟩),.int .i64 (n:Int)] w1 fun e w' => e = .returned (atKid b (some ⟨s.blk,0,none⟩))∧Below w.heap.size w w'):=Lib.hid fun w1 hb =>
          (nFrom_c (hnt.below hb hB (Nat.le_refl _)).2 (hT w1 hb) (n:Int) (by omega) (by omega) (b,some ⟨s.blk,0,none⟩) (by rw [hd];rfl)).mono fun e w' ⟨he,m,hw⟩ => ⟨he,by rw [hw];exact below_drewN _ hb⟩
        have d1:decide ((b:Int) < (n:Int)) = false:=decide_eq_false (by have:n≤b:=hge;omega)
        have d1':decide (b < n) = false:=decide_eq_false (by have:n≤b:=hge;omega)
        simp only [rootP] at hb0 ⊢
        clear h hT hf hd hd' hnt hs hk ha hi hu hge
        go_enter Tryz.func154,Tryz.ntmps154
        go_wp2_with fail
        go_quiet (fail)
        have hb1:=below_drewN nq hb0
        go_wp2_with (go_at_call 143;refine (HF.out _ hb1).mono ?_;rintro e w2 ⟨rfl,hb2⟩)
        go_ret2
        exact ⟨rfl,hb2⟩
    · have hs:Tr.sdL (some t) l = [(Z.addr t.pre l,t)]:=by simp [Tr.sdL,c]
      have hk:sdK (some t) l = false:=by simp [sdK,c]
      have ha:sdA (some t) l = Z.addr t.pre l:=by simp [sdA,c]
      rw [hs,idx_single] at hi hu
      rw [hk,ha] at hb0 ⊢
      generalize Z.addr t.pre l = ad at *
      have hlt:decide ((ad:Int) < (n:Int)) = decide (ad < n):=by simp
      obtain ⟨r,hr⟩:∃ r,decide (ad < n) = r:=⟨_,rfl⟩
      rw [hr] at hi hu hlt
      simp only [rootP] at hb0 ⊢
      clear h hT hf hs hk ha hnt
      cases r with
      | true =>
        have hi':65536 = i:=hi
        have hu':none = u:=hu
        subst hi' hu'
        go_enter Tryz.func154,Tryz.ntmps154
        go_wp2_with fail
        go_quiet (fail)
        have hb1:=below_drewN nq hb0
        go_wp2_with fail
        go_ret2
        exact ⟨rfl,hb1⟩
      | false =>
        have hi':ad = i:=hi
        have hu':some t = u:=hu
        subst hi' hu'
        go_enter Tryz.func154,Tryz.ntmps154
        go_wp2_with fail
        go_quiet (fail)
        have hb1:=below_drewN nq hb0
        go_wp2_with fail
        go_ret2
        exact ⟨rfl,hb1⟩
/-! ### places -/
structure Pl where
  a:Nat
  t:Tri
  m:Option T
def PlQ (f:Nat→Option Value) (x:Pl):Prop:=f 0 = some (.int .i64 (x.a:Int))∧f 1 = some (.pointer (rootP x.t.o))∧f 2 = some (.pointer (rootP x.t.a))∧f 3 = some (.pointer (rootP x.t.b))∧f 4 = some (.pointer (rootP x.m))
theorem plQ_ok:QOk 5 PlQ where
  ext:=by
    rintro f g s h ⟨h0,h1,h2,h3,h4⟩
    exact ⟨(h 0 (by omega)).symm.trans h0,(h 1 (by omega)).symm.trans h1,(h 2 (by omega)).symm.trans h2,(h 3 (by omega)).symm.trans h3,(h 4 (by omega)).symm.trans h4⟩
  has:=by
    rintro f s ⟨h0,h1,h2,h3,h4⟩ j hj
    match j,hj with
    | 0,_ => exact ⟨_,h0,rfl⟩
    | 1,_ => exact ⟨_,h1,rfl⟩
    | 2,_ => exact ⟨_,h2,rfl⟩
    | 3,_ => exact ⟨_,h3,rfl⟩
    | 4,_ => exact ⟨_,h4,rfl⟩
def ZPl (i:Nat) (c:Value):Prop:=if i = 0 then c = .int .i64 0 else c = .pointer none
abbrev pl0V:Value:=.agg #[.int .i64 0,.pointer none,.pointer none,.pointer none,.pointer none]
theorem zPl_ok:∀ i c,pl0V.cells[i]? = some c→ZPl i c:=by
  intro i c h
  have hlt:i < 5:=(Array.getElem?_eq_some_iff.1 h).1
  match i,hlt with
  | 0,_ => have h':some (Value.int .i64 0) = some c:=h;cases h';rfl
  | 1,_ => have h':some (Value.pointer none) = some c:=h;cases h';rfl
  | 2,_ => have h':some (Value.pointer none) = some c:=h;cases h';rfl
  | 3,_ => have h':some (Value.pointer none) = some c:=h;cases h';rfl
  | 4,_ => have h':some (Value.pointer none) = some c:=h;cases h';rfl
theorem infoPl:(Tryz.prog.info? 186).map (fun i => (i.zero,i.size,i.bytes)) = some (some pl0V,5,40):=by kernel_rfl
abbrev PRow (w:World) (base:Nat) (v:Value) (ps:List Pl):Prop:=RowZ 186 5 PlQ ZPl w base v ps
section
variable {w:World} {α:Type} {n:Nat} {Q:(Nat→Option Value)→α→Prop} {Z:Nat→Value→Prop}
theorem step_append_rowZ {ops:Array Oper} {o:Oper} {a:Act} {K:Act→World→Prop} {P:Exit→Act→World→Prop} {E:Prop} (t e:TypeId) (z:Value) (sz:Nat) (hu:Tryz.prog.underlying t = some (.slice e)) (hinfo:(Tryz.prog.info? e).map (fun i => (i.zero,i.size,i.bytes)) = some (some z,n,sz)) (hzc:z.cells.size = n) (hn0:0 < n) (hsz:sz≤1000) (hQ:QOk n Q) (hZ:∀ i c,z.cells[i]? = some c→Z i c)
    (hgd:o.guard = none) (s x:Operand) (ho:o.op = .call { callee:=.builtin .append,args:=#[s,x],argTypes:=#[t,t] }) (base:Nat) (v:Value) (L:List α) (m:Nat) (hm:L.length + 1 = m) (hs:a.eval s = v) (hown:RowZ e n Q Z w base v L)
    (y:α) (us:List Value) (hus:us.length = n) (hy:Q (fun j => us[j]?) y) (ad:Addr) (c:Nat) (hx:a.eval x = .slice (some ad) 1 c) (hnews:∀ j u,us[j]? = some u→w.cell? (ad.add j) = some u) (hlen:L.length≤1000000) (hbase:base≤w.heap.size)
    (h:∀ D d w',RowZ e n Q Z w' base (.slice D m d) (L ++ [y])→w.grownBy w' v.ownBlock→((Value.slice D m d).ownBlock = v.ownBlock∨(Value.slice D m d).ownBlock = some w.heap.size)→(∀ q i u,v.ownBlock = some q→w.cell? ⟨q,i,none⟩ = some u→w'.cell? ⟨q,i,none⟩ = some u∨L.length * n≤i)→K (a.put o.dst (.slice D m d)) w') :
    if Region.wanted o (yielded ops a.tmps) = true then Oper.wp Tryz.prog o a w K P else E:=by
  subst hm
  have hw:Region.wanted o (yielded ops a.tmps) = true:=by simp [Region.wanted,hgd]
  rw [if_pos hw]
  obtain ⟨D,d,w',hr,h2,h3,h4,h5⟩:=run_append_rowZ t o.type z sz hu hinfo hzc hn0 hsz hQ hZ hown y us hus hy ad c hnews hlen hbase
  unfold Oper.wp execOp
  simp only [ho,resolve,invoke,builtin,Sem.run_bind,Sem.run_pure,Result.andThen_ok,List.map_toArray,List.map_cons,List.map_nil,hs,hx,hr]
  exact h D d w' h2 h3 h4 h5
theorem wpList_append_rowZ {ops:Array Oper} {rest:List Oper} {o:Oper} {a:Act} {K:Exit→Act→World→Prop} (t e:TypeId) (z:Value) (sz:Nat) (hu:Tryz.prog.underlying t = some (.slice e)) (hinfo:(Tryz.prog.info? e).map (fun i => (i.zero,i.size,i.bytes)) = some (some z,n,sz)) (hzc:z.cells.size = n) (hn0:0 < n) (hsz:sz≤1000) (hQ:QOk n Q) (hZ:∀ i c,z.cells[i]? = some c→Z i c)
    (hgd:o.guard = none) (s x:Operand) (ho:o.op = .call { callee:=.builtin .append,args:=#[s,x],argTypes:=#[t,t] }) (base:Nat) (v:Value) (L:List α) (m:Nat) (hm:L.length + 1 = m) (hs:a.eval s = v) (hown:RowZ e n Q Z w base v L)
    (y:α) (us:List Value) (hus:us.length = n) (hy:Q (fun j => us[j]?) y) (ad:Addr) (c:Nat) (hx:a.eval x = .slice (some ad) 1 c) (hnews:∀ j u,us[j]? = some u→w.cell? (ad.add j) = some u) (hlen:L.length≤1000000) (hbase:base≤w.heap.size)
    (h:∀ D d w',RowZ e n Q Z w' base (.slice D m d) (L ++ [y])→w.grownBy w' v.ownBlock→((Value.slice D m d).ownBlock = v.ownBlock∨(Value.slice D m d).ownBlock = some w.heap.size)→(∀ q i u,v.ownBlock = some q→w.cell? ⟨q,i,none⟩ = some u→w'.cell? ⟨q,i,none⟩ = some u∨L.length * n≤i)→wpList Tryz.prog ops K rest (a.put o.dst (.slice D m d)) w') :
    wpList Tryz.prog ops K (o :: rest) a w:=by
  subst hm
  refine wpList_plain hgd fun K hK => ?_
  obtain ⟨D,d,w',hr,h2,h3,h4,h5⟩:=run_append_rowZ t o.type z sz hu hinfo hzc hn0 hsz hQ hZ hown y us hus hy ad c hnews hlen hbase
  unfold Oper.wp execOp
  simp only [ho,resolve,invoke,builtin,Sem.run_bind,Sem.run_pure,Result.andThen_ok,List.map_toArray,List.map_cons,List.map_nil,hs,hx,hr]
  exact hK _ _ (h D d w' h2 h3 h4 h5)
end
def Kp (k:Nat) (w w':World):Prop:=∀ B t,B≤w.heap.size→Node w B k t→Node w' B k t
theorem Kp.of_below {k:Nat} {w w':World} (h:Below w.heap.size w w'):Kp k w w':=fun _ _ hB hn => hn.below h hB (Nat.le_refl _)
theorem Kp.trans {k:Nat} {w w1 w2:World} (h:Kp k w w1) (h':Kp k w1 w2) (hs:w.heap.size≤w1.heap.size):Kp k w w2:=fun B t hB hn => h' B t (Nat.le_trans hB hs) (h B t hB hn)
def nextOf (ps:List Pl):Nat:=match ps.getLast? with
  | none => 0
  | some x => x.a + 1
theorem nextOf_snoc (ps:List Pl) (x:Pl):nextOf (ps ++ [x]) = x.a + 1:=by simp [nextOf]
section
variable {w w':World} {base k:Nat} {ps:List Pl}
theorem PRow.cells {g d:Nat} (h:PRow w base (.slice (some ⟨g,0,none⟩) ps.length d) ps):(∀ j x,ps[j]? = some x→w.cell? ⟨g,j * 5,none⟩ = some (.int .i64 (x.a:Int))∧w.cell? ⟨g,j * 5 + 1,none⟩ = some (.pointer (rootP x.t.o))∧w.cell? ⟨g,j * 5 + 2,none⟩ = some (.pointer (rootP x.t.a))∧w.cell? ⟨g,j * 5 + 3,none⟩ = some (.pointer (rootP x.t.b))∧w.cell? ⟨g,j * 5 + 4,none⟩ = some (.pointer (rootP x.m))) ∧
    (∀ i u,ps.length * 5≤i→w.cell? ⟨g,i,none⟩ = some u→if i % 5 = 0 then (∃ m,u = .int .i64 m) else u = .pointer none)∧NoU w g:=by
  rcases h with ⟨h,-⟩ | ⟨g',cap,cur,vs,hv,hg,hh,h1,h2,h3,h4,h5,h6⟩
  · simp at h
  · simp only [Value.slice.injEq,Option.some.injEq,Addr.mk.injEq,and_true,true_and] at hv
    obtain ⟨rfl,rfl⟩:=hv
    have hc:∀ i,w.cell? ⟨g,i,none⟩ = cur[i]?:=fun i => cell_of_row w g i cur _ (0,0) hh
    have hin:∀ i,i < ps.length * 5→cur[i]? = vs[i]?:=fun i hi => by
      rw [← h4,List.getElem?_take,if_pos hi]
      simp
    have A:∀ j x,ps[j]? = some x→w.cell? ⟨g,j * 5,none⟩ = some (.int .i64 (x.a:Int))∧w.cell? ⟨g,j * 5 + 1,none⟩ = some (.pointer (rootP x.t.o))∧w.cell? ⟨g,j * 5 + 2,none⟩ = some (.pointer (rootP x.t.a))∧w.cell? ⟨g,j * 5 + 3,none⟩ = some (.pointer (rootP x.t.b))∧w.cell? ⟨g,j * 5 + 4,none⟩ = some (.pointer (rootP x.m)):=fun j x hx => by
      obtain ⟨q0,q1,q2,q3,q4⟩:=h5.2 j x hx
      have hj:=(List.getElem?_eq_some_iff.1 hx).1
      exact ⟨(hc _).trans ((hin _ (by omega)).trans q0),(hc _).trans ((hin _ (by omega)).trans q1),(hc _).trans ((hin _ (by omega)).trans q2),(hc _).trans ((hin _ (by omega)).trans q3),(hc _).trans ((hin _ (by omega)).trans q4)⟩
    have Bq:∀ i u,ps.length * 5≤i→w.cell? ⟨g,i,none⟩ = some u→if i % 5 = 0 then (∃ m,u = .int .i64 m) else u = .pointer none:=fun i u hi hu => by
      rw [hc] at hu
      have:=h6 i u hi hu
      unfold ZPl at this
      split at this
      · rename_i e;rw [if_pos e];exact ⟨_,this⟩
      · rename_i e;rw [if_neg e];exact this
    refine ⟨A,Bq,fun i u hu => ?_⟩
    rcases Nat.lt_or_ge i (ps.length * 5) with hi | hi
    · have hj:i / 5 < ps.length:=by omega
      obtain ⟨x,hx⟩:=get_lt hj
      obtain ⟨c0,c1,c2,c3,c4⟩:=A _ x hx
      have hm:i % 5 = 0∨i % 5 = 1∨i % 5 = 2∨i % 5 = 3∨i % 5 = 4:=by omega
      rcases hm with e | e | e | e | e
      · rw [show i / 5 * 5 = i by omega,hu] at c0;cases c0;exact ⟨fun n e => (by cases e),fun n e => (by cases e)⟩
      · rw [show i / 5 * 5 + 1 = i by omega,hu] at c1;cases c1;exact ⟨fun n e => (by cases e),fun n e => (by cases e)⟩
      · rw [show i / 5 * 5 + 2 = i by omega,hu] at c2;cases c2;exact ⟨fun n e => (by cases e),fun n e => (by cases e)⟩
      · rw [show i / 5 * 5 + 3 = i by omega,hu] at c3;cases c3;exact ⟨fun n e => (by cases e),fun n e => (by cases e)⟩
      · rw [show i / 5 * 5 + 4 = i by omega,hu] at c4;cases c4;exact ⟨fun n e => (by cases e),fun n e => (by cases e)⟩
    · have:=Bq i u hi hu
      split at this
      · obtain ⟨m,rfl⟩:=this;exact ⟨fun n e => (by cases e),fun n e => (by cases e)⟩
      · subst this;exact ⟨fun n e => (by cases e),fun n e => (by cases e)⟩
theorem PRow.app_keeps {v:Value} (h:PRow w base v ps) (hgr:w.grownBy w' v.ownBlock) (hch:∀ q i u,v.ownBlock = some q→w.cell? ⟨q,i,none⟩ = some u→w'.cell? ⟨q,i,none⟩ = some u∨ps.length * 5≤i):Kp k w w':=by
  intro B t hB hn
  cases hv:v.ownBlock with
  | none =>
    rw [hv] at hgr
    exact hn.below (C:=B) ⟨hgr.os,hgr.tape,hgr.output,by exact hgr.size,fun b hb => hgr.block b (by omega) (by simp)⟩ (Nat.le_refl _) (Nat.le_refl _)
  | some g =>
    obtain ⟨D,d,rfl,-⟩:=h.slice
    cases D with
    | none => simp [Value.ownBlock] at hv
    | some ad =>
      have hD:ad = ⟨g,0,none⟩:=by
        rcases h with ⟨h,-⟩ | ⟨g',cap,cur,vs,h,-⟩
        · simp at h
        · simp only [Value.slice.injEq,Option.some.injEq] at h
          rw [h.1] at hv ⊢
          simp only [Value.ownBlock,Option.some.injEq] at hv
          rw [hv]
      subst hD
      obtain ⟨-,hsp,hu⟩:=h.cells
      have hlt:=(h.lt g rfl).2
      -- blocks made by the call lie behind all of the node's
      obtain ⟨W',hW'⟩:∃ W',W' = w':=⟨_,rfl⟩
      have hall:=Node.all _ (Nat.le_refl _) hn
      -- first within w's blocks
      have hk:∀ b,b≠g→b < w.heap.size→w'.heap[b]? = w.heap[b]?:=fun b hb hbl => hgr.block b hbl (by simp only [Value.ownBlock,ne_eq,Option.some.injEq];exact fun e => hb e)
      let wm:World:={ w with heap:=w'.heap.extract 0 w.heap.size }
      have hwm:∀ b,b < w.heap.size→wm.heap[b]? = w'.heap[b]?:=fun b hb => by
        show (w'.heap.extract 0 w.heap.size)[b]? = _
        rw [Array.getElem?_extract]
        have:=hgr.size
        rw [if_pos (by omega)]
        congr 1
        omega
      have hwn:∀ b,w.heap.size≤b→wm.heap[b]? = none:=fun b hb => by
        show (w'.heap.extract 0 w.heap.size)[b]? = _
        rw [Array.getElem?_extract]
        have:=hgr.size
        rw [if_neg (by omega)]
      have hkm:∀ b,b≠g→wm.heap[b]? = w.heap[b]?:=fun b hb => by
        rcases Nat.lt_or_ge b w.heap.size with c | c
        · rw [hwm b c,hk b hb c]
        · rw [hwn b c,Array.getElem?_eq_none c]
      have hnm:Node wm B k t:=by
        refine node_keep (r:=g) (S:=fun i => ps.length * 5≤i) hkm (fun i u hi hS => ?_) hu hn (fun x hx hne => off_spare (hall x hx) hne hsp)
        rcases hch g i u rfl hi with e | e
        · rw [World.cell?_of_block (w:=w') (a:=⟨g,i,none⟩) (hwm g hlt)]
          exact e
        · exact absurd e hS
      exact hnm.below (C:=w.heap.size) ⟨hgr.os,hgr.tape,hgr.output,by have:=hgr.size;show (w'.heap.extract 0 w.heap.size).size≤_;simp;omega,fun b hb => (hwm b hb).symm⟩ hB (Nat.le_refl _)
end
end Go.Proofs.YtmkejbfgdmbejaaGreatDoor
