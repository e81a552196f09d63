import Derived.Test.YtmkejbfgdmbejaaGreatDoorMVb
namespace Go.Proofs.YtmkejbfgdmbejaaGreatDoor
open Go.ChangeShapes Go.WideShapes Go.ChangeAt Go.RowKit
open Tr (T S4 Ent Tri KL)
theorem mThree_dim {w:World} {b0 b1 b2 k0 k1 k2:Nat} {x0 x1 x2:Option T} (h0:TreeX w b0 k0 x0) (h1:TreeX w b1 k1 x1) (h2:TreeX w b2 k2 x2) (hne:k1≠k0∨k2≠k0∧k1 = k0):Calls Tryz.prog 22 #[.pointer (some ⟨b0,0,none⟩),.pointer (some ⟨b1,0,none⟩),.pointer (some ⟨b2,0,none⟩)] w fun e w' => e = .returned (.tuple #[.pointer none,.slice none 0 0,.int .i64 2])∧Below w.heap.size w w':=by
  have HR:=Lib.hid (mClashes_dim h0 h1 h2 hne)
  clear h0 h1 h2 hne
  go_enter Tryz.func22,Tryz.ntmps22
  go_wp2_with fail
  refine HR.out.mono ?_
  rintro e w1 ⟨rfl,hb1⟩
  have HB:=Lib.hid hb1
  clear hb1 HR
  go_wp2_with fail
  go_ret3
  exact ⟨rfl,HB.out⟩
theorem mBy_dim {w:World} {b0 b1 b2 k0 k1 k2:Nat} {x0 x1 x2:Option T} (r:Int) (h0:TreeX w b0 k0 x0) (h1:TreeX w b1 k1 x1) (h2:TreeX w b2 k2 x2) (hne:k1≠k0∨k2≠k0∧k1 = k0):Calls Tryz.prog 24 #[.pointer (some ⟨b0,0,none⟩),.pointer (some ⟨b1,0,none⟩),.pointer (some ⟨b2,0,none⟩),.int .i64 r] w fun e w' => e = .returned (.tuple #[.pointer none,.int .i64 0,.int .i64 2])∧Below w.heap.size w w':=by
  obtain ⟨W1,hW1⟩:∃ W1,W1 = w.alloc (.cells #[.int .i64 r] 3):=⟨_,rfl⟩
  have hbW:Below w.heap.size w W1:=by rw [hW1];exact below_alloc _ _
  have hru:W1.heap[w.heap.size]? = some (.cells #[.int .i64 r] 3 (0,0)):=by rw [hW1];exact heap_at w _ _ rfl
  have hbl:=below_alloc W1 (.cells #[.pointer (some ⟨b0,0,none⟩),.pointer (some ⟨b1,0,none⟩),.pointer (some ⟨b2,0,none⟩)] 29)
  have g0:=(h0.below hbW (Nat.le_refl _)).below hbl (Nat.le_refl _)
  have g1:=(h1.below hbW (Nat.le_refl _)).below hbl (Nat.le_refl _)
  have g2:=(h2.below hbW (Nat.le_refl _)).below hbl (Nat.le_refl _)
  have hp:=treP_at W1 (some ⟨b0,0,none⟩) (some ⟨b1,0,none⟩) (some ⟨b2,0,none⟩) 29
  have HR:Hid (∀ d,Calls Tryz.prog 53 #[.slice (some ⟨W1.heap.size,0,none⟩) 3 d] (W1.alloc (.cells #[.pointer (some ⟨b0,0,none⟩),.pointer (some ⟨b1,0,none⟩),.pointer (some ⟨b2,0,none⟩)] 29)) fun e w' => e = .returned (.int .i64 2)∧Below (W1.alloc (.cells #[.pointer (some ⟨b0,0,none⟩),.pointer (some ⟨b1,0,none⟩),.pointer (some ⟨b2,0,none⟩)] 29)).heap.size (W1.alloc (.cells #[.pointer (some ⟨b0,0,none⟩),.pointer (some ⟨b1,0,none⟩),.pointer (some ⟨b2,0,none⟩)] 29)) w'):=Lib.hid fun d => by
    rcases hne with c | ⟨c,rfl⟩
    · exact mRefusal_d1 hp g0.1.2.2.2.1 g1.1.2.2.2.1 g2.1.2.2.2.1 g0.1.1 g1.1.1 g2.1.1 c
    · exact mRefusal_d2 hp g0.1.2.2.2.1 g1.1.2.2.2.1 g2.1.2.2.2.1 g0.1.1 g1.1.1 g2.1.1 c
  have hb:=Lib.hid (Below.andThen hbW hbl)
  have HW:=Lib.hid hW1
  clear h0 h1 h2 g0 g1 g2 hp hne hbl hbW hW1 hru
  go_enter Tryz.func24,Tryz.ntmps24
  go_upto_region 1 with fail
  rw [← HW.out]
  go_wp2_with fail
  refine (HR.out _).mono ?_
  rintro e w1 ⟨rfl,hb1⟩
  have HB:=Lib.hid (Below.andThen hb.out hb1)
  clear hb1 HR
  go_wp2_with fail
  go_ret3
  exact ⟨rfl,HB.out⟩
theorem mBy_kind {w:World} {b0 b1 b2 k:Nat} {x0 x1 x2:Option T} (r:Int) (h0:TreeX w b0 k x0) (h1:TreeX w b1 k x1) (h2:TreeX w b2 k x2) (hr:r < 1∨5 < r):Calls Tryz.prog 24 #[.pointer (some ⟨b0,0,none⟩),.pointer (some ⟨b1,0,none⟩),.pointer (some ⟨b2,0,none⟩),.int .i64 r] w fun e w' => e = .returned (.tuple #[.pointer none,.int .i64 0,.int .i64 12])∧Below w.heap.size w w':=by
  obtain ⟨W1,hW1⟩:∃ W1,W1 = w.alloc (.cells #[.int .i64 r] 3):=⟨_,rfl⟩
  have hbW:Below w.heap.size w W1:=by rw [hW1];exact below_alloc _ _
  have hru:W1.heap[w.heap.size]? = some (.cells #[.int .i64 r] 3 (0,0)):=by rw [hW1];exact heap_at w _ _ rfl
  have hbl:=below_alloc W1 (.cells #[.pointer (some ⟨b0,0,none⟩),.pointer (some ⟨b1,0,none⟩),.pointer (some ⟨b2,0,none⟩)] 29)
  have g0:=(h0.below hbW (Nat.le_refl _)).below hbl (Nat.le_refl _)
  have g1:=(h1.below hbW (Nat.le_refl _)).below hbl (Nat.le_refl _)
  have g2:=(h2.below hbW (Nat.le_refl _)).below hbl (Nat.le_refl _)
  have hp:=treP_at W1 (some ⟨b0,0,none⟩) (some ⟨b1,0,none⟩) (some ⟨b2,0,none⟩) 29
  have HR:=Lib.hid fun (d:Nat) => mRefusal_ok (d:=d) hp g0.1.2.2.2.1 g1.1.2.2.2.1 g2.1.2.2.2.1 g0.1.1 g1.1.1 g2.1.1
  have hb:=Lib.hid (Below.andThen hbW hbl)
  have HW:=Lib.hid hW1
  have HRu:=Lib.hid (keepz hru hbl)
  clear h0 h1 h2 g0 g1 g2 hp hbl hbW hW1 hru
  by_cases c:r < 1
  · have d1:decide (r < 1) = true:=decide_eq_true c
    clear hr
    go_enter Tryz.func24,Tryz.ntmps24
    go_upto_region 1 with fail
    rw [← HW.out]
    go_wp2_with fail
    refine (HR.out _).mono ?_
    rintro e w1 ⟨rfl,hb1⟩
    have c7:w1.cell? ⟨w.heap.size,0,none⟩ = some (.int .i64 r):=by rw [cell_of_row w1 _ _ _ _ (0,0) (keepz HRu.out hb1)];rfl
    have HB:=Lib.hid (Below.andThen hb.out hb1)
    clear hb1 HR
    go_wp2_with fail
    go_ret3
    exact ⟨rfl,HB.out⟩
  · have d1:decide (r < 1) = false:=decide_eq_false c
    have d2:decide (5 < r) = true:=decide_eq_true (by omega)
    clear hr
    go_enter Tryz.func24,Tryz.ntmps24
    go_upto_region 1 with fail
    rw [← HW.out]
    go_wp2_with fail
    refine (HR.out _).mono ?_
    rintro e w1 ⟨rfl,hb1⟩
    have c7:w1.cell? ⟨w.heap.size,0,none⟩ = some (.int .i64 r):=by rw [cell_of_row w1 _ _ _ _ (0,0) (keepz HRu.out hb1)];rfl
    have HB:=Lib.hid (Below.andThen hb.out hb1)
    clear hb1 HR
    go_wp2_with fail
    go_ret3
    exact ⟨rfl,HB.out⟩
set_option maxRecDepth 1000000 in
set_option maxHeartbeats 4000000 in
theorem mByT_c {w:World} {b0 b1 b2 k:Nat} {t:Tri} {r:Int} (h0:TreeX w b0 k t.o) (h1:TreeX w b1 k t.a) (h2:TreeX w b2 k t.b) (hr1:1≤r) (hr5:r≤5) (hT:∀ w',Below w.heap.size w w'→Tz w') {C:List Cls} (hC:Tr.ppT Tr.clG t = C) (hM:C.length≤100000000) (hcn:cnt3 t≤1000000000) {n:Nat} (hn:C.length = n) :
    Calls Tryz.prog 24 #[.pointer (some ⟨b0,0,none⟩),.pointer (some ⟨b1,0,none⟩),.pointer (some ⟨b2,0,none⟩),.int .i64 r] w fun e w' => ∃ (b:Nat) (N:Option T),e = .returned (.tuple #[.pointer (some ⟨b,0,none⟩),.int .i64 (n:Int),.int .i64 0])∧TreeX w' b k N∧Tr.entsO N = Tr.ppT (Tr.mgG r) t∧Below w.heap.size w w':=by
  obtain ⟨W1,hW1⟩:∃ W1,W1 = w.alloc (.cells #[.int .i64 r] 3):=⟨_,rfl⟩
  have hbW:Below w.heap.size w W1:=by rw [hW1];exact below_alloc _ _
  have hru:W1.heap[w.heap.size]? = some (.cells #[.int .i64 r] 3 (0,0)):=by rw [hW1];exact heap_at w _ _ rfl
  have hbl:=below_alloc W1 (.cells #[.pointer (some ⟨b0,0,none⟩),.pointer (some ⟨b1,0,none⟩),.pointer (some ⟨b2,0,none⟩)] 29)
  have g0:=(h0.below hbW (Nat.le_refl _)).below hbl (Nat.le_refl _)
  have g1:=(h1.below hbW (Nat.le_refl _)).below hbl (Nat.le_refl _)
  have g2:=(h2.below hbW (Nat.le_refl _)).below hbl (Nat.le_refl _)
  have hp:=treP_at W1 (some ⟨b0,0,none⟩) (some ⟨b1,0,none⟩) (some ⟨b2,0,none⟩) 29
  have HR:=Lib.hid fun (d:Nat) => mRefusal_ok (d:=d) hp g0.1.2.2.2.1 g1.1.2.2.2.1 g2.1.2.2.2.1 g0.1.1 g1.1.1 g2.1.1
  have hb:=Lib.hid (Below.andThen hbW hbl)
  have HW:=Lib.hid hW1
  have HRu:=Lib.hid (keepz hru hbl)
  have HX:=Lib.hid (And.intro h0 (And.intro h1 (And.intro h2 (And.intro hT (And.intro hC (And.intro hM (And.intro hcn hn)))))))
  have d1:decide (r < 1) = false:=decide_eq_false (by omega)
  have d2:decide (5 < r) = false:=decide_eq_false (by omega)
  clear h0 h1 h2 g0 g1 g2 hp hbl hbW hW1 hru hT hC hM hcn hn hr1 hr5
  go_enter Tryz.func24,Tryz.ntmps24
  go_upto_region 1 with fail
  rw [← HW.out]
  go_wp2_with fail
  refine (HR.out _).mono ?_
  rintro e w1 ⟨rfl,hb1⟩
  have c7:w1.cell? ⟨w.heap.size,0,none⟩ = some (.int .i64 r):=by rw [cell_of_row w1 _ _ _ _ (0,0) (keepz HRu.out hb1)];rfl
  have HR1:=Lib.hid (keepz HRu.out hb1)
  have HB:=Lib.hid (Below.andThen hb.out hb1)
  have HBc:=Lib.hid (bcTr_c (HX.out.1.below HB.out (Nat.le_refl _)) (HX.out.2.1.below HB.out (Nat.le_refl _)) (HX.out.2.2.1.below HB.out (Nat.le_refl _)))
  clear hb1 HR
  go_wp2_with fail
  refine HBc.out.mono ?_
  rintro e w2 ⟨he,hb2⟩
  have HB2:=Lib.hid (Below.andThen HB.out hb2)
  have hru2:=keepz HR1.out hb2
  clear HBc c7 d1 d2 hb2 HR1 HRu hb
  rcases he with ⟨b,N,rfl,hx,hnn,hbe⟩ | rfl
  · have HN:=Lib.hid (And.intro hx (And.intro hnn hbe))
    clear hx hnn hbe hru2
    go_wp2_with fail
    go_ret3
    obtain ⟨h0,h1,h2,hT,hC,hM,hcn,hn⟩:=HX.out
    obtain ⟨q1,q2,-⟩:=becM (w:=w) (B:=w.heap.size) (k:=k) (u:=t) ⟨h0.1.2.2.2.2,h1.1.2.2.2.2,h2.1.2.2.2.2⟩ HN.out.2.1 HN.out.2.2 true r HB2.out HB2.out.size
    have hn0:n = 0:=by rw [← hn,← hC,q1];rfl
    subst hn0
    exact ⟨b,N,rfl,HN.out.1,q2.eq rfl,HB2.out⟩
  · obtain ⟨h0,h1,h2,hT,hC,hM,hcn,hn⟩:=HX.out
    obtain ⟨W2,hW2⟩:∃ W2,W2 = w2.alloc (.cells #[.int .i64 0] 3):=⟨_,rfl⟩
    have hBn:Below w2.heap.size w2 W2:=by rw [hW2];exact below_alloc _ _
    have hg2:W2.heap[w2.heap.size]? = some (.cells #[.int .i64 0] 3 (0,0)):=by rw [hW2];exact heap_at w2 _ _ rfl
    obtain ⟨W3,hW3⟩:∃ W3,W3 = W2.alloc (.cells #[.func (.func 59) #[] #[.pointer (some ⟨w2.heap.size,0,none⟩),.pointer (some ⟨w.heap.size,0,none⟩)],.func (.func 61) #[] #[]] 104):=⟨_,rfl⟩
    have hB3:Below W2.heap.size W2 W3:=by rw [hW3];exact below_alloc _ _
    have hbox:W3.heap[W2.heap.size]? = some (.cells #[.func (.func 59) #[] #[.pointer (some ⟨w2.heap.size,0,none⟩),.pointer (some ⟨w.heap.size,0,none⟩)],.func (.func 61) #[] #[]] 104 (0,0)):=by rw [hW3];exact heap_at W2 _ _ rfl
    have s0:=store_two0 W2 (.func 59) #[] #[.pointer (some ⟨w2.heap.size,0,none⟩),.pointer (some ⟨w.heap.size,0,none⟩)] .nilFunc .nilFunc 104
    have s1:=store_two1 W2 (.func 61) #[] #[] (.func (.func 59) #[] #[.pointer (some ⟨w2.heap.size,0,none⟩),.pointer (some ⟨w.heap.size,0,none⟩)]) .nilFunc 104
    have hg3:=keepz hg2 hB3
    have hs2:w2.heap.size + 1 = W2.heap.size:=by rw [hW2];simp
    have hB:=Below.andThen (Below.andThen HB2.out hBn) hB3
    have hru3:=keepz (keepz hru2 hBn) hB3
    have hrlt:=(Array.getElem?_eq_some_iff.1 hru2).1
    obtain ⟨l0,l1⟩:=lock_cells hbox
    have HRt:∀ (b:Nat) (o:Option T),TreeX w b k o→Hid (∀ w',Below W3.heap.size W3 w'→Calls Tryz.prog 48 #[.pointer (some ⟨b,0,none⟩)] w' fun e w'' => e = .returned (.pointer (rootP o))∧w' = w''):=fun b o ho => Lib.hid fun w' hw => tRoot_c ((ho.below (Below.andThen hB hw) (Nat.le_refl _)).1.2.2.2.1)
    have R0:=HRt b0 _ h0
    have R1:=HRt b1 _ h1
    have R2:=HRt b2 _ h2
    have HT:Hid (∀ w',Below W3.heap.size W3 w'→w'.heap.size = W3.heap.size→Calls Tryz.prog 57 #[.agg #[.func (.func 59) #[] #[.pointer (some ⟨w2.heap.size,0,none⟩),.pointer (some ⟨w.heap.size,0,none⟩)],.func (.func 61) #[] #[]],trV t] w' fun e w'' => ∃ R:Option T,e = .returned (.pointer (rootP R))∧w''.heap[w2.heap.size]? = some (.cells #[.int .i64 (n:Int)] 3 (0,0))∧NodeO w'' w''.heap.size k R∧Tr.entsO R = Tr.ppT (Tr.mgG r) t∧Below w.heap.size w w''∧w''.cell? ⟨W2.heap.size,0,none⟩ = some (.func (.func 59) #[] #[.pointer (some ⟨w2.heap.size,0,none⟩),.pointer (some ⟨w.heap.size,0,none⟩)])∧w''.cell? ⟨W2.heap.size,1,none⟩ = some (.func (.func 61) #[] #[])):=Lib.hid fun w' hw hs => by
      have hBw:=Below.andThen hB hw
      refine (mthrough_c (by_visit (B:=w.heap.size) (k:=k) (h:=w2.heap.size) (hr:=w.heap.size) (M:=C.length) (r:=r) HB2.out.size (Nat.le_refl _) (by omega) (by omega)) (w:=w') (F0:=fun b => b = w2.heap.size∨b = w.heap.size)
        ⟨keepz hg3 hw,keepz hru3 hw,rfl⟩ (t0:=t) ⟨h0.1.2.2.2.2.below hBw (Nat.le_refl _) (Nat.le_refl _),h1.1.2.2.2.2.below hBw (Nat.le_refl _) (Nat.le_refl _),h2.1.2.2.2.2.below hBw (Nat.le_refl _) (Nat.le_refl _)⟩ h0.1.2.2.1 hBw.size (fun v hv => hT v (hBw.trans hv)) (by rw [hC];exact Nat.le_refl _) hcn).mono ?_
      rintro e w'' ⟨R,F',rfl,⟨i1,i2,rfl⟩,hF,hfo,hmg⟩
      rw [hC,hn] at i1
      refine ⟨R,rfl,i1,hmg.nd,hmg.eq rfl,hBw.trans (hfo.below hBw.size (fun b hb => ?_)),?_⟩
      · rcases hb with e | e
        · rw [e];exact HB2.out.size
        · omega
      · have hbw:=keepz hbox hw
        have hlt:=(Array.getElem?_eq_some_iff.1 hbw).1
        have hb2:=(hfo.block W2.heap.size hlt (fun hb => by rcases hb with e | e <;> omega)).trans hbw
        exact lock_cells hb2
    have HW2:=Lib.hid (And.intro hW2 hW3)
    clear h0 h1 h2 hT hC hM hcn hn hBn hg2 hB3 hbox hg3 hs2 HRt hW2 hW3 hru2 hru3 hrlt
    obtain ⟨q0,hq0⟩:∃ q,rootP t.o = q:=⟨_,rfl⟩
    obtain ⟨q1,hq1⟩:∃ q,rootP t.a = q:=⟨_,rfl⟩
    obtain ⟨q2,hq2⟩:∃ q,rootP t.b = q:=⟨_,rfl⟩
    simp only [trV] at HT
    rw [hq0] at R0 HT
    rw [hq1] at R1 HT
    rw [hq2] at R2 HT
    clear hq0 hq1 hq2
    go_upto_region 10 with fail
    rw [← HW2.out.1]
    go_upto_region 11 with fail
    rw [← HW2.out.2]
    clear s0 s1
    have hbb0:Below W3.heap.size W3 W3:=Below.refl _ _
    have hbb1:Below W3.heap.size W3 W3.drew:=(Below.refl _ _).drew
    go_region_held3 (fun w' => Below w.heap.size w w'∧w'.cell? ⟨W2.heap.size,0,none⟩ = some (.func (.func 59) #[] #[.pointer (some ⟨w2.heap.size,0,none⟩),.pointer (some ⟨w.heap.size,0,none⟩)])∧w'.cell? ⟨W2.heap.size,1,none⟩ = some (.func (.func 61) #[] #[])) (first | exact ⟨hB,l0,l1⟩ | exact ⟨hB.drew,l0,l1⟩ | exact ⟨hb5,m5,k5⟩) ((first
      | (go_at_call 48;refine (R0.out _ (by first | exact hbb0 | exact hbb1)).mono ?_;rintro e w' ⟨rfl,rfl⟩)
      | (go_at_call 48;refine (R1.out _ (by first | exact hbb0 | exact hbb1)).mono ?_;rintro e w' ⟨rfl,rfl⟩)
      | (go_at_call 48;refine (R2.out _ (by first | exact hbb0 | exact hbb1)).mono ?_;rintro e w' ⟨rfl,rfl⟩)
      | (go_at_call 57;refine (HT.out _ (by first | exact hbb0 | exact hbb1) (by rfl)).mono ?_;rintro e w5 ⟨R,rfl,z5,hR5,hE5,hb5,m5,k5⟩)))
    have HR5:=Lib.hid (And.intro z5 (And.intro hR5 (And.intro hE5 hb5)))
    have HTo:Hid (∀ W,Below w5.heap.size w5 W→∀ g d,TreP W g (some ⟨b1,0,none⟩) (some ⟨b2,0,none⟩) (some ⟨b0,0,none⟩)→Calls Tryz.prog 62 #[.pointer (rootP R),.slice (some ⟨g,0,none⟩) 3 d] W fun e w' => TofE w' k R e∧Below w5.heap.size w5 w'):=Lib.hid fun W hw g d hp => by
      have hbW:=Below.andThen hb5 hw
      refine (mTreeOf_c (d:=d) hp.2.1 hp.2.2.1 hp.2.2.2 (HX.out.2.1.below hbW (Nat.le_refl _)) (HX.out.2.2.1.below hbW (Nat.le_refl _)) (HX.out.1.below hbW (Nat.le_refl _)) (hR5.below hw (Nat.le_refl _) hw.size)).mono ?_
      rintro e w' ⟨h1,h2⟩
      exact ⟨h1,Below.andThen hw h2⟩
    have zz:∀ w',Below w5.heap.size w5 w'→w'.cell? ⟨w2.heap.size,0,none⟩ = some (.int .i64 (n:Int)):=fun w' hw => by rw [cell_of_row w' _ _ _ _ (0,0) (keepz z5 hw)];rfl
    have b55:=Below.refl w5.heap.size w5
    clear z5 hR5 hE5 hb5 m5 k5 hbb0 hbb1 hB l0 l1 HT R0 R1 R2
    obtain ⟨pR,hpR⟩:∃ p,rootP R = p:=⟨_,rfl⟩
    rw [hpR] at HTo ⊢
    clear hpR
    go_upto_region 12 with fail
    go_region_held3 (fun w' => Below w5.heap.size w5 w'∧w'.cell? ⟨w2.heap.size,0,none⟩ = some (.int .i64 (n:Int))) (exact ⟨by ((repeat first | refine bD ?_ | with_reducible refine bN ?_ | refine bA ?_ | refine bS ?_);first | exact bR | assumption | exact bN bR | exact bN (bN bR)),zz _ (by ((repeat first | refine bD ?_ | with_reducible refine bN ?_ | refine bA ?_ | refine bS ?_);first | exact bR | assumption | exact bN bR | exact bN (bN bR)))⟩) ((go_at_call 62;refine (HTo.out _ (show Below w5.heap.size w5 _ by ((repeat first | refine bD ?_ | with_reducible refine bN ?_ | refine bA ?_ | refine bS ?_);first | exact bR | assumption | exact bN bR | exact bN (bN bR))) _ _ (by exact treP_at _ _ _ _ _)).mono ?_;rintro e w6 ⟨⟨b,N,rfl,hx6,he6⟩,hb6⟩))
    all_goals (
      have H6:=Lib.hid (And.intro hx6 (And.intro he6 hb6))
      clear hx6 he6 hb6
      go_wp2_with fail
      go_ret3
      exact ⟨b,N,rfl,H6.out.1,H6.out.2.1.trans HR5.out.2.2.1,Below.andThen HR5.out.2.2.2 H6.out.2.2⟩)
theorem mThree_c {w:World} {b0 b1 b2 k:Nat} {t:Tri} (h0:TreeX w b0 k t.o) (h1:TreeX w b1 k t.a) (h2:TreeX w b2 k t.b) (hT:∀ w',Below w.heap.size w w'→Tz w') (hC:Tr.ppT Tr.clG t = []) (hcn:cnt3 t≤1000000000) :
    Calls Tryz.prog 22 #[.pointer (some ⟨b0,0,none⟩),.pointer (some ⟨b1,0,none⟩),.pointer (some ⟨b2,0,none⟩)] w fun e w' => ∃ (b:Nat) (N:Option T),e = .returned (.tuple #[.pointer (some ⟨b,0,none⟩),.slice none 0 0,.int .i64 0])∧TreeX w' b k N∧Tr.entsO N = Tr.ppT (Tr.mgG 1) t∧Below w.heap.size w w':=by
  have HC:=Lib.hid (mClashes_c h0 h1 h2 hT hC (by simp) hcn (n:=0) rfl)
  have HBy:Hid (∀ w1,Below w.heap.size w w1→Calls Tryz.prog 24 #[.pointer (some ⟨b0,0,none⟩),.pointer (some ⟨b1,0,none⟩),.pointer (some ⟨b2,0,none⟩),.int .i64 1] w1 fun e w' => ∃ (b:Nat) (N:Option T),e = .returned (.tuple #[.pointer (some ⟨b,0,none⟩),.int .i64 0,.int .i64 0])∧TreeX w' b k N∧Tr.entsO N = Tr.ppT (Tr.mgG 1) t∧Below w.heap.size w w'):=Lib.hid fun w1 hb => by
    refine (mByT_c (h0.below hb (Nat.le_refl _)) (h1.below hb (Nat.le_refl _)) (h2.below hb (Nat.le_refl _)) (r:=1) (by omega) (by omega) (fun v hv => hT v (Below.andThen hb hv)) hC (by simp) hcn (n:=0) rfl).mono ?_
    rintro e w' ⟨b,N,rfl,hx,he,hb2⟩
    exact ⟨b,N,rfl,hx,he,Below.andThen hb hb2⟩
  clear h0 h1 h2 hT hC hcn
  go_enter Tryz.func22,Tryz.ntmps22
  go_wp2_with fail
  refine HC.out.mono ?_
  rintro e w1 ⟨D,d,rfl,-,hb1⟩
  have HB:=Lib.hid hb1
  clear HC hb1
  go_wp2_with fail
  refine (HBy.out _ HB.out).mono ?_
  rintro e w2 ⟨b,N,rfl,hx,he,hb2⟩
  have H2:=Lib.hid (And.intro hx (And.intro he hb2))
  clear hx he hb2 HBy
  go_wp2_with fail
  go_ret3
  exact ⟨b,N,rfl,H2.out.1,H2.out.2.1,H2.out.2.2⟩
theorem mThree_conflict {w:World} {b0 b1 b2 k:Nat} {t:Tri} (h0:TreeX w b0 k t.o) (h1:TreeX w b1 k t.a) (h2:TreeX w b2 k t.b) (hT:∀ w',Below w.heap.size w w'→Tz w') {C:List Cls} (hC:Tr.ppT Tr.clG t = C) (hM:C.length≤100000000) (hcn:cnt3 t≤1000000000) {n:Nat} (hn:C.length = n) (hne:1≤n) :
    Calls Tryz.prog 22 #[.pointer (some ⟨b0,0,none⟩),.pointer (some ⟨b1,0,none⟩),.pointer (some ⟨b2,0,none⟩)] w fun e w' => ∃ D d,e = .returned (.tuple #[.pointer none,.slice D n d,.int .i64 7])∧NewK w.heap.size w' D d C∧Below w.heap.size w w':=by
  have HC:=Lib.hid (mClashes_c h0 h1 h2 hT hC hM hcn hn)
  have d1:decide ((0:Int) < (n:Int)) = true:=decide_eq_true (by omega)
  have d2:decide (0 < n) = true:=decide_eq_true hne
  clear h0 h1 h2 hT hC hcn hM hn
  go_enter Tryz.func22,Tryz.ntmps22
  go_wp2_with fail
  refine HC.out.mono ?_
  rintro e w1 ⟨D,d,rfl,hk,hb1⟩
  have HB:=Lib.hid (And.intro hk hb1)
  clear HC hb1 hk
  go_wp2_with fail
  go_ret3
  exact ⟨D,d,rfl,HB.out.1,HB.out.2⟩
end Go.Proofs.YtmkejbfgdmbejaaGreatDoor
