import Derived.Test.YtmkejbfgdmbejaaGreatDoorMVa
namespace Go.Proofs.YtmkejbfgdmbejaaGreatDoor
open Go.ChangeShapes Go.WideShapes Go.ChangeAt Go.RowKit
open Tr (T S4 Ent Tri KL)
set_option maxRecDepth 1000000 in
set_option maxHeartbeats 4000000 in
theorem mClashes_c {w:World} {b0 b1 b2 k:Nat} {t:Tri} (h0:TreeX w b0 k t.o) (h1:TreeX w b1 k t.a) (h2:TreeX w b2 k t.b) (hT:∀ w',Below w.heap.size w w'→Tz w') {C:List Cls} (hC:Tr.ppT Tr.clG t = C) (hM:C.length≤100000000) (hcn:cnt3 t≤1000000000) {n:Nat} (hn:C.length = n) :
    Calls Tryz.prog 23 #[.pointer (some ⟨b0,0,none⟩),.pointer (some ⟨b1,0,none⟩),.pointer (some ⟨b2,0,none⟩)] w fun e w' => ∃ D d,e = .returned (.tuple #[.slice D n d,.int .i64 0])∧NewK w.heap.size w' D d C∧Below w.heap.size w w':=by
  have hbl:=below_alloc w (.cells #[.pointer (some ⟨b0,0,none⟩),.pointer (some ⟨b1,0,none⟩),.pointer (some ⟨b2,0,none⟩)] 29)
  have g0:=h0.below hbl (Nat.le_refl _)
  have g1:=h1.below hbl (Nat.le_refl _)
  have g2:=h2.below hbl (Nat.le_refl _)
  have hp:=treP_at w (some ⟨b0,0,none⟩) (some ⟨b1,0,none⟩) (some ⟨b2,0,none⟩) 29
  have HR:=Lib.hid fun (d:Nat) => mRefusal_ok (d:=d) hp g0.1.2.2.2.1 g1.1.2.2.2.1 g2.1.2.2.2.1 g0.1.1 g1.1.1 g2.1.1
  have HX:=Lib.hid (And.intro h0 (And.intro h1 (And.intro h2 (And.intro hT (And.intro hC (And.intro hM (And.intro hcn hn)))))))
  have hb:=Lib.hid hbl
  clear h0 h1 h2 g0 g1 g2 hp hbl hT hC hM hcn hn
  go_enter Tryz.func23,Tryz.ntmps23
  go_wp2_with fail
  refine (HR.out _).mono ?_
  rintro e w1 ⟨rfl,hb1⟩
  have hB1:Below w.heap.size w w1:=Below.andThen hb.out hb1
  obtain ⟨h0,h1,h2,hT,hC,hM,hcn,hn⟩:=HX.out
  obtain ⟨W2,hW2⟩:∃ W2,W2 = w1.alloc (.cells #[.slice none 0 0] 46):=⟨_,rfl⟩
  have hB2:Below w1.heap.size w1 W2:=by rw [hW2];exact below_alloc _ _
  have hg2:W2.heap[w1.heap.size]? = some (.cells #[.slice none 0 0] 46 (0,0)):=by rw [hW2];exact heap_at w1 _ _ rfl
  obtain ⟨W3,hW3⟩:∃ W3,W3 = W2.alloc (.cells #[.func (.func 54) #[] #[.pointer (some ⟨w1.heap.size,0,none⟩)],.func (.func 56) #[] #[]] 104):=⟨_,rfl⟩
  have hB3:Below W2.heap.size W2 W3:=by rw [hW3];exact below_alloc _ _
  have hbox:W3.heap[W2.heap.size]? = some (.cells #[.func (.func 54) #[] #[.pointer (some ⟨w1.heap.size,0,none⟩)],.func (.func 56) #[] #[]] 104 (0,0)):=by rw [hW3];exact heap_at W2 _ _ rfl
  have s0:=store_two0 W2 (.func 54) #[] #[.pointer (some ⟨w1.heap.size,0,none⟩)] .nilFunc .nilFunc 104
  have s1:=store_two1 W2 (.func 56) #[] #[] (.func (.func 54) #[] #[.pointer (some ⟨w1.heap.size,0,none⟩)]) .nilFunc 104
  have hg3:=keepz hg2 hB3
  have hs2:w1.heap.size + 1 = W2.heap.size:=by rw [hW2];simp
  have hB:=Below.andThen (Below.andThen hB1 hB2) hB3
  obtain ⟨l0,l1⟩:=lock_cells hbox
  have hBa:=Below.andThen hB2 hB3
  have HRt:∀ (b:Nat) (o:Option T),TreeX w b k o→Hid (∀ w',Below W3.heap.size W3 w'→Calls Tryz.prog 48 #[.pointer (some ⟨b,0,none⟩)] w' fun e w'' => e = .returned (.pointer (rootP o))∧w' = w''):=fun b o ho => Lib.hid fun w' hw => tRoot_c ((ho.below (Below.andThen hB hw) (Nat.le_refl _)).1.2.2.2.1)
  have R0:=HRt b0 _ h0
  have R1:=HRt b1 _ h1
  have R2:=HRt b2 _ h2
  have HT:Hid (∀ w',Below W3.heap.size W3 w'→w'.heap.size = W3.heap.size→Calls Tryz.prog 57 #[.agg #[.func (.func 54) #[] #[.pointer (some ⟨w1.heap.size,0,none⟩)],.func (.func 56) #[] #[]],trV t] w' fun e w'' => ∃ p V c,e = .returned (.pointer p)∧w''.cell? ⟨w1.heap.size,0,none⟩ = some (.slice V n c)∧NewK w.heap.size w'' V c C∧Below w.heap.size w w''∧Below w1.heap.size w1 w''∧w''.cell? ⟨W2.heap.size,0,none⟩ = some (.func (.func 54) #[] #[.pointer (some ⟨w1.heap.size,0,none⟩)])∧w''.cell? ⟨W2.heap.size,1,none⟩ = some (.func (.func 56) #[] #[])):=Lib.hid fun w' hw hs => by
    have hBw:=Below.andThen hB hw
    have hgw:=keepz hg3 hw
    refine (mthrough_c (clashes_visit (B:=w.heap.size) (k:=k) (h:=w1.heap.size) (base:=W2.heap.size) (M:=C.length) (r:=1) hB1.size (by omega) hM) (w:=w') (F0:=fun b => b = w1.heap.size∨(none:Option Addr).map (·.block) = some b∨False)
      ⟨none,0,fun _ => False,hgw,⟨ownL_none _ _ _,fun b hb => hb.elim⟩,by rw [hs];exact hB3.size,rfl⟩ (t0:=t) ⟨h0.1.2.2.2.2.below hBw (Nat.le_refl _) (Nat.le_refl _),h1.1.2.2.2.2.below hBw (Nat.le_refl _) (Nat.le_refl _),h2.1.2.2.2.2.below hBw (Nat.le_refl _) (Nat.le_refl _)⟩ h0.1.2.2.1 hBw.size (fun v hv => hT v (hBw.trans hv)) (by rw [hC];exact Nat.le_refl _) hcn).mono ?_
    rintro e w'' ⟨R,F',rfl,⟨V,c,D,i1,i2,i3,rfl⟩,hF,hfo,-⟩
    rw [hC] at i1 i2
    refine ⟨_,V,c,rfl,by rw [cell_of_row w'' _ _ _ _ (0,0) i1,← hn];rfl,(i2.row.imp (ClG.step (Nat.le_refl _) fun b _ hD => ⟨rfl,by have h5:=(i2.dom b hD).1;have h6:=hB1.size;omega⟩)).mono (by have h6:=hB1.size;omega),hBw.trans (hfo.below hBw.size (fun b hb => ?_)),(Below.andThen hBa hw).trans (hfo.below (by have h7:=hB2.size;have h8:=hB3.size;omega) (fun b hb => ?_)),?_⟩
    · rcases hb with e | e | e
      · rw [e];exact hB1.size
      · cases e
      · exact e.elim
    · rcases hb with e | e | e
      · rw [e];exact Nat.le_refl _
      · cases e
      · exact e.elim
    · have hbw:=keepz hbox hw
      have hlt:=(Array.getElem?_eq_some_iff.1 hbw).1
      have hb2:=(hfo.block W2.heap.size hlt (fun hb => by
        rcases hb with e | e | e
        · omega
        · cases e
        · exact e.elim)).trans hbw
      exact lock_cells hb2
  have HW:=Lib.hid (And.intro hW2 hW3)
  clear h0 h1 h2 hT hC hM hcn hn hb1 hB1 hB2 hg2 hB3 hbox hg3 hs2 hB HRt hW2 hW3 HR HX
  obtain ⟨q0,hq0⟩:∃ q,rootP t.o = q:=⟨_,rfl⟩
  obtain ⟨q1,hq1⟩:∃ q,rootP t.a = q:=⟨_,rfl⟩
  obtain ⟨q2,hq2⟩:∃ q,rootP t.b = q:=⟨_,rfl⟩
  simp only [trV] at HT
  rw [hq0] at R0 HT
  rw [hq1] at R1 HT
  rw [hq2] at R2 HT
  clear hq0 hq1 hq2
  go_upto_region 5 with fail
  rw [← HW.out.1]
  go_upto_region 6 with fail
  rw [← HW.out.2]
  clear s0 s1
  have hbb0:Below W3.heap.size W3 W3:=Below.refl _ _
  have hbb1:Below W3.heap.size W3 W3.drew:=(Below.refl _ _).drew
  go_region_held3 (fun w' => Below w1.heap.size w1 w'∧w'.cell? ⟨W2.heap.size,0,none⟩ = some (.func (.func 54) #[] #[.pointer (some ⟨w1.heap.size,0,none⟩)])∧w'.cell? ⟨W2.heap.size,1,none⟩ = some (.func (.func 56) #[] #[])) (first | exact ⟨hBa,l0,l1⟩ | exact ⟨hBa.drew,l0,l1⟩ | exact ⟨a5,m5,k5⟩) ((first
    | (go_at_call 48;refine (R0.out _ (by first | exact hbb0 | exact hbb1)).mono ?_;rintro e w' ⟨rfl,rfl⟩)
    | (go_at_call 48;refine (R1.out _ (by first | exact hbb0 | exact hbb1)).mono ?_;rintro e w' ⟨rfl,rfl⟩)
    | (go_at_call 48;refine (R2.out _ (by first | exact hbb0 | exact hbb1)).mono ?_;rintro e w' ⟨rfl,rfl⟩)
    | (go_at_call 57;refine (HT.out _ (by first | exact hbb0 | exact hbb1) (by rfl)).mono ?_;rintro e w5 ⟨p5,V5,c5,rfl,z5,n5,hb5,a5,m5,k5⟩)))
  all_goals (
    have HN:=Lib.hid (And.intro n5 hb5)
    clear n5 hb5 a5 m5 k5 hbb0 hbb1 hBa l0 l1 HT R0 R1 R2
    go_wp2_with fail
    go_ret2
    exact ⟨V5,c5,rfl,HN.out.1,HN.out.2⟩)
end Go.Proofs.YtmkejbfgdmbejaaGreatDoor
