import Derived.Test.YtkeepngaaleakaaGreatDoorMXr
namespace Go.Proofs.YtkeepngaaleakaaGreatDoor
open Go.ChangeShapes Go.WideShapes Go.ChangeAt Go.RowKit
open Tr (T S4 Ent Tri KL)
set_option maxRecDepth 1000000 in
set_option maxHeartbeats 4000000 in
theorem sTree_c {fk:Nat} {lk:Array Value} {fa:Nat} {la:Array Value} {fb:Nat} {lb:Array Value} {k:Nat} {kf:Tri→Bool} {g:G3} {I:World→Prop} {G:Nat→Prop} {w0 w:World} (h:MkS fk lk fa la fb lb w0.heap.size k kf g I G) (hI:I w) {b0 b1:Nat} {x y:Option T} (h0:TreeX w0 b0 k x) (h1:TreeX w0 b1 k y) (hb:Below w0.heap.size w0 w) (hT:∀ w',Below w0.heap.size w0 w'→Tz w') (hM:Tr.wgt3 (two x y)≤1000000) (hcn:cnt3 (two x y)≤1000000000) :
    Calls Tryz.prog 70 #[mkV fk lk fa la fb lb,.pointer (some ⟨b0,0,none⟩),.pointer (some ⟨b1,0,none⟩)] w fun e w' => ∃ (b:Nat) (N:Option T),e = .returned (.pointer (some ⟨b,0,none⟩))∧TreeX w' b k N∧Tr.entsO N = Tr.ppT g (two x y)∧Below w0.heap.size w0 w':=by
  obtain ⟨W1,hW1⟩:∃ W1,W1 = w.alloc (.cells #[.func (.func fk) #[] lk,.func (.func fa) #[] la,.func (.func fb) #[] lb] 102):=⟨_,rfl⟩
  have hb1:Below w.heap.size w W1:=by rw [hW1];exact below_alloc _ _
  have hm1:W1.heap[w.heap.size]? = some (.cells #[.func (.func fk) #[] lk,.func (.func fa) #[] la,.func (.func fb) #[] lb] 102 (0,0)):=by rw [hW1];exact heap_at w _ _ rfl
  have hbw1:Below w0.heap.size w0 W1:=hb.trans (hb1.mono hb.size)
  have HRo:∀ (b:Nat) (o:Option T),TreeX w0 b k o→Hid (∀ w',Below w0.heap.size w0 w'→Calls Tryz.prog 60 #[.pointer (some ⟨b,0,none⟩)] w' fun e w'' => e = .returned (.pointer (rootP o))∧w' = w''):=fun b o ho => Lib.hid fun w' hw => tRoot_c ((ho.below hw (Nat.le_refl _)).1.2.2.2.1)
  have HPr:Hid (∀ w1,Below w0.heap.size w0 w1→Below w.heap.size w w1→Calls Tryz.prog 131 #[mkV fk lk fa la fb lb,p2V (rootP x) (rootP y)] w1 fun e w' => ∃ X Y:Option T,e = .returned (p2V (rootP X) (rootP Y))∧NodeO w' w'.heap.size k X∧NodeO w' w'.heap.size k Y∧Tr.entsO X = Tr.ppT g (two x y)∧Tr.entsO Y = Tr.ppT g (two x y)∧Below w0.heap.size w1 w'∧Foot G w1 w'):=Lib.hid fun w1 hw hw1 =>
    sMkPair_c (u:=two x y) h (h.below hI hw1) ⟨fun _ e => (by cases e),h0.1.2.2.2.2.below hw (Nat.le_refl _) (Nat.le_refl _),h1.1.2.2.2.2.below hw (Nat.le_refl _) (Nat.le_refl _)⟩ rfl hw.size (fun v hv => hT v (hw.trans hv)) hM hcn
  have HGn:Hid (¬ G W1.heap.size):=Lib.hid fun hG => by have:=(h.inb w hI _ hG).1;have:=hb1.size;omega
  obtain ⟨y0,y1,y2⟩:=mk_cells hm1
  have e0:∀ ob,(W1.alloc ob).cell? ⟨w.heap.size,0,none⟩ = some (.func (.func fk) #[] lk):=fun ob => (mk_cells (heap_past ob hm1)).1
  have e1:∀ ob,(W1.alloc ob).cell? ⟨w.heap.size,1,none⟩ = some (.func (.func fa) #[] la):=fun ob => (mk_cells (heap_past ob hm1)).2.1
  have e2:∀ ob,(W1.alloc ob).cell? ⟨w.heap.size,2,none⟩ = some (.func (.func fb) #[] lb):=fun ob => (mk_cells (heap_past ob hm1)).2.2
  have HX:=Lib.hid (And.intro h0 (And.intro h1 (And.intro hbw1 hb1)))
  have HR0:=HRo b0 x h0
  have HR1:=HRo b1 y h1
  have HW:=Lib.hid hW1
  have h11:=Below.refl W1.heap.size W1
  clear h hI h0 h1 hb hT hM hcn hb1 hbw1 HRo hW1 hm1
  obtain ⟨pa,hpa⟩:∃ p,rootP x = p:=⟨_,rfl⟩
  obtain ⟨pb,hpb⟩:∃ p,rootP y = p:=⟨_,rfl⟩
  rw [hpa] at HR0 HPr
  rw [hpb] at HR1 HPr
  have HP:=Lib.hid (And.intro hpa hpb)
  clear hpa hpb
  go_enter Tryz.func70,Tryz.ntmps70
  go_upto_region 1 with fail
  rw [← HW.out]
  go_cut [7] from 10 (fun v wx => ∃ (gr:Nat) (X Y:Option T),v = Value.pointer (some ⟨gr,0,none⟩)∧wx.heap[gr]? = some (.cells #[.pointer (rootP X),.pointer (rootP Y)] 97 (0,0))∧NodeO wx wx.heap.size k X∧NodeO wx wx.heap.size k Y∧Tr.entsO X = Tr.ppT g (two x y)∧Tr.entsO Y = Tr.ppT g (two x y)∧Below w0.heap.size w0 wx)
  case first =>
    go_region_law ((first
      | (go_simp;go_at_call 60;with_reducible (refine (HR0.out _ ?hb0).mono ?_);(case hb0 => exact (HX.out.2.2.1.trans (Below.mono (show Below W1.heap.size W1 _ by ((repeat first | refine bD ?_ | with_reducible refine bN ?_ | refine bA ?_ | refine bS ?_);first | exact bR | assumption | exact bN bR | exact bN (bN bR))) HX.out.2.2.1.size)));rintro e w' ⟨rfl,rfl⟩)
      | (go_simp;go_at_call 60;with_reducible (refine (HR1.out _ ?hb1).mono ?_);(case hb1 => exact (HX.out.2.2.1.trans (Below.mono (show Below W1.heap.size W1 _ by ((repeat first | refine bD ?_ | with_reducible refine bN ?_ | refine bA ?_ | refine bS ?_);first | exact bR | assumption | exact bN bR | exact bN (bN bR))) HX.out.2.2.1.size)));rintro e w' ⟨rfl,rfl⟩)
      | (go_simp;go_at_call 131;refine (HPr.out _ (HX.out.2.2.1.trans (Below.mono (show Below W1.heap.size W1 _ by ((repeat first | refine bD ?_ | with_reducible refine bN ?_ | refine bA ?_ | refine bS ?_);first | exact bR | assumption | exact bN bR | exact bN (bN bR))) HX.out.2.2.1.size)) (Below.andThen HX.out.2.2.2 (show Below W1.heap.size W1 _ by ((repeat first | refine bD ?_ | with_reducible refine bN ?_ | refine bA ?_ | refine bS ?_);first | exact bR | assumption | exact bN bR | exact bN (bN bR))))).mono ?_;rintro e w3 ⟨X,Y,rfl,n1,n2,n3,n4,hb3,hf3⟩;have hbw3:=Below.trans (HX.out.2.2.1.trans (Below.mono (show Below W1.heap.size W1 _ by ((repeat first | refine bD ?_ | with_reducible refine bN ?_ | refine bA ?_ | refine bS ?_);first | exact bR | assumption | exact bN bR | exact bN (bN bR))) HX.out.2.2.1.size)) hb3;try (have hr3:=(hf3.block W1.heap.size (by simp) HGn.out).trans (heap_at W1 (.cells #[.pointer none,.pointer none] 97) _ rfl);obtain ⟨r0,r1,rf⟩:=pr_cells hr3;have rf0:=rf 0;have rf1:=rf 1))))
    all_goals go_wp2_with fail
    all_goals go_meet
    all_goals first
      | exact ⟨_,X,Y,rfl,heap_at w3 _ _ rfl,n1.below (below_alloc w3 _) (Nat.le_refl _) (below_alloc w3 _).size,n2.below (below_alloc w3 _) (Nat.le_refl _) (below_alloc w3 _).size,n3,n4,hbw3.trans ((below_alloc w3 _).mono hbw3.size)⟩
      | exact ⟨_,X,Y,rfl,set2 _ _ hr3,Kp.nodeO (pair_keeps hr3 (by decide) _ _) (by simp) n1,Kp.nodeO (pair_keeps hr3 (by decide) _ _) (by simp) n2,n3,n4,(hbw3.setCell (p:=⟨W1.heap.size,0,none⟩) HX.out.2.2.1.size _).setCell (p:=⟨W1.heap.size,1,none⟩) HX.out.2.2.1.size _⟩
  case rest =>
  obtain ⟨gr,X,Y,rfl,hgr,n1,n2,n3,n4,hbc⟩:=hcut
  obtain ⟨q0,q1,-⟩:=pr_cells hgr
  have ht0:∀ w',Below wc.heap.size wc w'→TreeX w' b0 k x:=fun w' hw => HX.out.1.below (hbc.trans (hw.mono hbc.size)) (Nat.le_refl _)
  have ht1:∀ w',Below wc.heap.size wc w'→TreeX w' b1 k y:=fun w' hw => HX.out.2.1.below (hbc.trans (hw.mono hbc.size)) (Nat.le_refl _)
  obtain ⟨px,hpx⟩:∃ p,rootP X = p:=⟨_,rfl⟩
  obtain ⟨py,hpy⟩:∃ p,rootP Y = p:=⟨_,rfl⟩
  obtain ⟨r0,hr0⟩:∃ r,decide (rootP X = rootP x) = r:=⟨_,rfl⟩
  obtain ⟨r1,hr1⟩:∃ r,decide (rootP Y = rootP y) = r:=⟨_,rfl⟩
  have E0:∀ w',Below wc.heap.size wc w'→(binOp .eql 81 (.pointer px) (.pointer pa)).run Tryz.prog w' = .ok (.bool r0) w':=fun w' hw => by
    have:=nodeP_dec (n1.below hw (Nat.le_refl _) hw.size) (ht0 w' hw).1.2.2.2.2
    rw [hr0,hpx,HP.out.1] at this
    exact this
  have E1:∀ w',Below wc.heap.size wc w'→(binOp .eql 81 (.pointer py) (.pointer pb)).run Tryz.prog w' = .ok (.bool r1) w':=fun w' hw => by
    have:=nodeP_dec (n2.below hw (Nat.le_refl _) hw.size) (ht1 w' hw).1.2.2.2.2
    rw [hr1,hpy,HP.out.2] at this
    exact this
  have e3:=E0 wc (Below.refl _ _)
  have e4:=E0 wc.drew (Below.refl _ _).drew
  have HE1:=Lib.hid E1
  have HR0c:Hid (∀ w',Below wc.heap.size wc w'→Calls Tryz.prog 60 #[.pointer (some ⟨b0,0,none⟩)] w' fun e w'' => e = .returned (.pointer pa)∧w' = w''):=Lib.hid fun w' hw => HR0.out w' (hbc.trans (hw.mono hbc.size))
  have HR1c:Hid (∀ w',Below wc.heap.size wc w'→Calls Tryz.prog 60 #[.pointer (some ⟨b1,0,none⟩)] w' fun e w'' => e = .returned (.pointer pb)∧w' = w''):=Lib.hid fun w' hw => HR1.out w' (hbc.trans (hw.mono hbc.size))
  have HK:Hid (∀ w',Below wc.heap.size wc w'→Calls Tryz.prog 57 #[.pointer (some ⟨b0,0,none⟩)] w' fun e w'' => e = .returned (.int .i64 (k:Int))∧w' = w''):=Lib.hid fun w' hw => tK_c (ht0 w' hw).1.2.2.2.1
  have HO:Hid (∀ w',Below wc.heap.size wc w'→Calls Tryz.prog 82 #[.int .i64 (k:Int),.pointer px] w' fun e w'' => e = .returned (.tuple #[.pointer (some ⟨w'.heap.size,0,none⟩),.int .i64 0])∧TreeX w'' w'.heap.size k X∧Below w'.heap.size w' w''):=Lib.hid fun w' hw => by
    rw [← hpx]
    exact tOf_c (n1.below hw (Nat.le_refl _) hw.size) (Nat.le_refl _) (ht0 w' hw).1.2.1 (ht0 w' hw).1.2.2.1
  have T0:r0 = true→Tr.entsO x = Tr.ppT g (two x y):=fun h => by
    rw [h] at hr0
    rw [← n3]
    exact (nodeO_same n1 (ht0 wc (Below.refl _ _)).1.2.2.2.2 (of_decide_eq_true hr0)).symm
  have T1:r1 = true→Tr.entsO y = Tr.ppT g (two x y):=fun h => by
    rw [h] at hr1
    rw [← n4]
    exact (nodeO_same n2 (ht1 wc (Below.refl _ _)).1.2.2.2.2 (of_decide_eq_true hr1)).symm
  have HT:=Lib.hid (And.intro ht0 (And.intro ht1 (And.intro T0 (And.intro T1 (And.intro hbc (And.intro n3 hgr))))))
  have hcc:=Below.refl wc.heap.size wc
  rw [hpx] at q0
  rw [hpy] at q1
  clear HR0 HR1 HPr HGn HX HW h11 y0 y1 y2 e0 e1 e2 ht0 ht1 hpx hpy hr0 hr1 E0 E1 n1 n2 n3 n4 hbc T0 T1 hgr HP
  go_upto_region 2 with fail
  go_region_law ((go_simp;go_at_call 60;refine (HR0c.out _ (by ((repeat first | refine bD ?_ | with_reducible refine bN ?_ | refine bA ?_ | refine bS ?_);first | exact bR | assumption | exact bN bR | exact bN (bN bR)))).mono ?_;rintro e w' ⟨rfl,rfl⟩))
  all_goals (
    clear e3 e4
    have e5:=HE1.out wc.drew (Below.refl _ _).drew
    have e6:=HE1.out wc.drew.drew (Below.refl _ _).drew.drew
    cases r0 with
    | true =>
      go_wp2_with fail
      go_ret
      exact ⟨b0,rfl,x,HT.out.1 _ (by ((repeat first | refine bD ?_ | with_reducible refine bN ?_ | refine bA ?_ | refine bS ?_);first | exact bR | assumption | exact bN bR | exact bN (bN bR))),HT.out.2.2.1 (by first | rfl | trivial),HT.out.2.2.2.2.1.trans (Below.mono (show Below wc.heap.size wc _ by ((repeat first | refine bD ?_ | with_reducible refine bN ?_ | refine bA ?_ | refine bS ?_);first | exact bR | assumption | exact bN bR | exact bN (bN bR))) HT.out.2.2.2.2.1.size)⟩
    | false =>
      go_upto_region 4 with fail
      go_region_law ((go_simp;go_at_call 60;refine (HR1c.out _ (by ((repeat first | refine bD ?_ | with_reducible refine bN ?_ | refine bA ?_ | refine bS ?_);first | exact bR | assumption | exact bN bR | exact bN (bN bR)))).mono ?_;rintro e w' ⟨rfl,rfl⟩))
      all_goals (
        clear e5 e6
        cases r1 with
        | true =>
          go_wp2_with fail
          go_ret
          exact ⟨b1,rfl,y,HT.out.2.1 _ (by ((repeat first | refine bD ?_ | with_reducible refine bN ?_ | refine bA ?_ | refine bS ?_);first | exact bR | assumption | exact bN bR | exact bN (bN bR))),HT.out.2.2.2.1 (by first | rfl | trivial),HT.out.2.2.2.2.1.trans (Below.mono (show Below wc.heap.size wc _ by ((repeat first | refine bD ?_ | with_reducible refine bN ?_ | refine bA ?_ | refine bS ?_);first | exact bR | assumption | exact bN bR | exact bN (bN bR))) HT.out.2.2.2.2.1.size)⟩
        | false =>
          go_upto_region 6 with fail
          go_region_law ((first
            | (go_simp;go_at_call 57;refine (HK.out _ (by ((repeat first | refine bD ?_ | with_reducible refine bN ?_ | refine bA ?_ | refine bS ?_);first | exact bR | assumption | exact bN bR | exact bN (bN bR)))).mono ?_;rintro e w' ⟨rfl,rfl⟩)
            | (go_simp;go_at_call 82;refine (HO.out _ (by ((repeat first | refine bD ?_ | with_reducible refine bN ?_ | refine bA ?_ | refine bS ?_);first | exact bR | assumption | exact bN bR | exact bN (bN bR)))).mono ?_;rintro e w9 ⟨rfl,hx9,hb9⟩;have H9:=Lib.hid (And.intro hx9 (Below.trans (HT.out.2.2.2.2.1.trans (Below.mono (show Below wc.heap.size wc _ by ((repeat first | refine bD ?_ | with_reducible refine bN ?_ | refine bA ?_ | refine bS ?_);first | exact bR | assumption | exact bN bR | exact bN (bN bR))) HT.out.2.2.2.2.1.size)) (Below.mono hb9 (Below.size (HT.out.2.2.2.2.1.trans (Below.mono (show Below wc.heap.size wc _ by ((repeat first | refine bD ?_ | with_reducible refine bN ?_ | refine bA ?_ | refine bS ?_);first | exact bR | assumption | exact bN bR | exact bN (bN bR))) HT.out.2.2.2.2.1.size))))));clear hx9 hb9)))
          all_goals (
            go_wp2_with fail
            go_ret
            exact ⟨_,X,rfl,H9.out.1,HT.out.2.2.2.2.2.1,H9.out.2⟩)))
end Go.Proofs.YtkeepngaaleakaaGreatDoor
