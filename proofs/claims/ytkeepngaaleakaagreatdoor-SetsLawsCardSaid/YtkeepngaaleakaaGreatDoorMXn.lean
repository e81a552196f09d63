import Derived.Test.YtkeepngaaleakaaGreatDoorMXm
namespace Go.Proofs.YtkeepngaaleakaaGreatDoor
open Go.ChangeShapes Go.WideShapes Go.ChangeAt Go.RowKit
open Tr (T S4 Ent Tri KL)
abbrev G3:=Option Nat→Option Nat→Option Nat→Option Nat
def TwoE (k:Nat) (g:G3) (u:Tri) (w:World) (e:Ending) (w':World):Prop :=
  ∃ x y:Option T,e = .returned (p2V (rootP x) (rootP y))∧NodeO w' w'.heap.size k x∧NodeO w' w'.heap.size k y∧Tr.entsO x = Tr.ppT g u∧Tr.entsO y = Tr.ppT g u∧Below w.heap.size w w'
structure MkS (fk:Nat) (lk:Array Value) (fa:Nat) (la:Array Value) (fb:Nat) (lb:Array Value) (B k:Nat) (kf:Tri→Bool) (g:G3) (I:World→Prop) (G:Nat→Prop):Prop where
  entk:∀ args w,(callFunc fk args).run Tryz.prog w = .ok (.enter fk args) w
  enta:∀ args w,(callFunc fa args).run Tryz.prog w = .ok (.enter fa args) w
  entb:∀ args w,(callFunc fb args).run Tryz.prog w = .ok (.enter fb args) w
  stay:∀ w w',I w→w.heap.size≤w'.heap.size→(∀ b,G b→w'.heap[b]? = w.heap[b]?)→I w'
  inb:∀ w,I w→∀ b,G b→b < w.heap.size∧B≤b
  gn:g .none .none .none = .none
  known:∀ w u x y,I w→TriN w B k u→u.o = none→u.a = some x→u.b = some y→B≤w.heap.size→Calls Tryz.prog fk (#[prS u] ++ lk) w fun e w' => e = .returned (.bool (kf u))∧Below w.heap.size w w'
  alone:∀ w u,I w→TriN w B k u→u.o = none→((rootP u.a).isSome && (rootP u.b).isSome) = false→B≤w.heap.size→Calls Tryz.prog fa (#[prS u] ++ la) w fun e w' => ∃ x,e = .returned (.pointer (rootP x))∧NodeO w' w'.heap.size k x∧Tr.entsO x = Tr.ppT g u∧Below w.heap.size w w'
  both:∀ w u x y,I w→TriN w B k u→u.o = none→u.a = some x→u.b = some y→(kf u = true∨∃ p g v g' v',x = .ent g p v∧y = .ent g' p v')→B≤w.heap.size→Calls Tryz.prog fb (#[prS u] ++ lb) w (TwoE k g u w)
theorem Kp.nodeO {k:Nat} {w w':World} (h:Kp k w w') (hs:w.heap.size≤w'.heap.size) {x:Option T} (hn:NodeO w w.heap.size k x):NodeO w' w'.heap.size k x:=fun y hy => (h _ y (Nat.le_refl _) (hn y hy)).below (Below.refl w'.heap.size w') hs hs
abbrev mkV (fk:Nat) (lk:Array Value) (fa:Nat) (la:Array Value) (fb:Nat) (lb:Array Value):Value:=.agg #[.func (.func fk) #[] lk,.func (.func fa) #[] la,.func (.func fb) #[] lb]
theorem MkS.below {fk:Nat} {lk:Array Value} {fa:Nat} {la:Array Value} {fb:Nat} {lb:Array Value} {B k:Nat} {kf:Tri→Bool} {g:G3} {I:World→Prop} {G:Nat→Prop} (h:MkS fk lk fa la fb lb B k kf g I G) {w w':World} (hI:I w) (hb:Below w.heap.size w w'):I w':=h.stay w w' hI hb.size fun b hG => hb.block b (h.inb w hI b hG).1
set_option maxRecDepth 1000000 in
set_option maxHeartbeats 4000000 in
theorem sEnd_c {fk:Nat} {lk:Array Value} {fa:Nat} {la:Array Value} {fb:Nat} {lb:Array Value} {B k:Nat} {kf:Tri→Bool} {g:G3} {I:World→Prop} {G:Nat→Prop} (h:MkS fk lk fa la fb lb B k kf g I G) {w:World} {u:Tri} (hI:I w) (hu:TriN w B k u) (ho:u.o = none) (ht:TermS kf u) (hB:B≤w.heap.size) :
    Calls Tryz.prog 178 #[mkV fk lk fa la fb lb,prS u] w (TwoE k g u w):=by
  obtain ⟨W0,hW0⟩:∃ W0,W0 = ((w.alloc (.cells #[.func (.func fk) #[] lk,.func (.func fa) #[] la,.func (.func fb) #[] lb] 102)).alloc (.cells #[.pointer (rootP u.a),.pointer (rootP u.b)] 97)).alloc (.cells #[.pointer none,.pointer none] 97):=⟨_,rfl⟩
  have hb0:Below w.heap.size w W0:=by rw [hW0];exact Below.andThen (Below.andThen (below_alloc _ _) (below_alloc _ _)) (below_alloc _ _)
  have hm0:W0.heap[w.heap.size]? = some (.cells #[.func (.func fk) #[] lk,.func (.func fa) #[] la,.func (.func fb) #[] lb] 102 (0,0)):=by
    rw [hW0]
    exact keepz (keepz (heap_at w _ _ rfl) (below_alloc _ _)) (below_alloc _ _)
  have ha0:W0.heap[w.heap.size + 1]? = some (.cells #[.pointer (rootP u.a),.pointer (rootP u.b)] 97 (0,0)):=by
    rw [hW0]
    refine keepz ?_ (below_alloc _ _)
    have h:=heap_at (w.alloc (.cells #[.func (.func fk) #[] lk,.func (.func fa) #[] la,.func (.func fb) #[] lb] 102)) (.cells #[.pointer (rootP u.a),.pointer (rootP u.b)] 97) _ rfl
    rw [World.size_alloc] at h
    exact h
  have hr0:W0.heap[w.heap.size + 1 + 1]? = some (.cells #[.pointer none,.pointer none] 97 (0,0)):=by
    rw [hW0]
    have h:=heap_at ((w.alloc (.cells #[.func (.func fk) #[] lk,.func (.func fa) #[] la,.func (.func fb) #[] lb] 102)).alloc (.cells #[.pointer (rootP u.a),.pointer (rootP u.b)] 97)) (.cells #[.pointer none,.pointer none] 97) _ rfl
    rw [World.size_alloc,World.size_alloc] at h
    exact h
  have henta:=h.enta
  have hentb:=h.entb
  have HBo:=Lib.hid fun (w1:World) => sBoth_c (rootP u.a) (rootP u.b) w1
  have HTw:=Lib.hid fun (a:Option Addr) (w1:World) => sTwice_c a w1
  have HX:=Lib.hid (And.intro h (And.intro hI (And.intro hu (And.intro ho (And.intro ht hB)))))
  have HW:=Lib.hid hW0
  have HM:=Lib.hid (And.intro hb0 (And.intro hm0 (And.intro ha0 hr0)))
  clear h hI hu ho ht hB hW0 hb0 hm0 ha0 hr0
  obtain ⟨bb,hab⟩:∃ b,((rootP u.a).isSome && (rootP u.b).isSome) = b:=⟨_,rfl⟩
  rw [hab] at HBo
  have HAb:=Lib.hid hab
  clear hab
  go_enter Tryz.func178,Tryz.ntmps178
  go_wp2_with fail
  rw [← HW.out]
  refine (HBo.out _).mono ?_
  rintro e w1 ⟨rfl,hb1⟩
  clear HBo HW
  obtain ⟨hb0,hm0,ha0,hr0⟩:=HM.out
  have hm1:=keepz hm0 hb1
  have ha1:=keepz ha0 hb1
  have q0:w1.cell? ⟨w.heap.size,1,none⟩ = some (.func (.func fa) #[] la):=by rw [cell_of_row w1 _ _ _ _ (0,0) hm1];rfl
  have q1:w1.cell? ⟨w.heap.size,2,none⟩ = some (.func (.func fb) #[] lb):=by rw [cell_of_row w1 _ _ _ _ (0,0) hm1];rfl
  obtain ⟨p0,p1,-⟩:=atS_cells ha1
  have HB1:=Lib.hid (Below.andThen hb0 hb1)
  have HR1:=Lib.hid (keepz hr0 hb1)
  clear hb0 hm0 ha0 hr0 hm1 ha1 hb1 HM
  clear W0
  obtain ⟨h,hI,hu,ho,ht,hB⟩:=HX.out
  cases bb with
  | false =>
    have HAl:=Lib.hid (h.alone w1 u (h.below hI HB1.out) (hu.below HB1.out hB (Nat.le_refl _)) ho HAb.out (Nat.le_trans hB HB1.out.size))
    clear h hI hu ho ht hB HX HAb
    go_wp2_with fail
    go_at_fn fa
    refine HAl.out.mono ?_
    rintro e w2 ⟨x,rfl,h1,h2,hb2⟩
    have H2:=Lib.hid (And.intro h1 (And.intro h2 (Below.andThen HB1.out hb2)))
    have HR2:=Lib.hid (keepz HR1.out hb2)
    clear h1 h2 hb2 HAl q0 q1 p0 p1 HR1
    go_wp2_with fail
    refine (HTw.out _ _).mono ?_
    rintro e w3 ⟨rfl,hb3⟩
    have hr3:=keepz HR2.out hb3
    obtain ⟨z0,z1,f0⟩:=pr_cells hr3
    have f1:=f0 1
    have f0:=f0 0
    obtain ⟨px,hpx⟩:∃ p,rootP x = p:=⟨_,rfl⟩
    rw [hpx]
    have r2:=set2 (.pointer px) (.pointer px) hr3
    obtain ⟨t0,t1,-⟩:=pr_cells r2
    have H3:=Lib.hid (And.intro hb3 (And.intro (pair_keeps (k:=k) hr3 (by decide) px px) (And.intro ((((Below.andThen H2.out.2.2 hb3).setCell (p:=⟨w.heap.size + 1 + 1,0,none⟩) (by show w.heap.size≤w.heap.size + 1 + 1;omega) (.pointer px)).setCell (p:=⟨w.heap.size + 1 + 1,1,none⟩) (by show w.heap.size≤w.heap.size + 1 + 1;omega) (.pointer px))) hpx)))
    clear hb3 hr3 HTw r2 hpx
    go_wp2_with fail
    refine bodyPost_ret (v:=p2V px px) (by simp [results,Tryz.results178,go_sem,t0,t1]) rfl ?_
    obtain ⟨hb3,hkp,hb9,hpx⟩:=H3.out
    have hn3:=H2.out.1.below hb3 (Nat.le_refl _) hb3.size
    have hn9:=Kp.nodeO hkp (by simp) hn3
    exact ⟨x,x,by rw [hpx],hn9,hn9,H2.out.2.1,H2.out.2.1,hb9⟩
  | true =>
    obtain ⟨x,hxa⟩:∃ x,u.a = some x:=by
      have hab:=HAb.out
      cases ha:u.a with
      | none => rw [ha] at hab;cases hab
      | some x => exact ⟨x,rfl⟩
    obtain ⟨y,hyb⟩:∃ y,u.b = some y:=by
      have hab:=HAb.out
      cases hb:u.b with
      | none => rw [hb,Bool.and_comm] at hab;cases hab
      | some x => exact ⟨x,rfl⟩
    have HBt:=Lib.hid (h.both w1 u x y (h.below hI HB1.out) (hu.below HB1.out hB (Nat.le_refl _)) ho hxa hyb (by
      rcases ht with e | e | e | ⟨p,g1,v,g2,v',e1,e2⟩
      · rw [e] at hxa;cases hxa
      · rw [e] at hyb;cases hyb
      · exact .inl e
      · rw [e1] at hxa;rw [e2] at hyb
        cases hxa;cases hyb
        exact .inr ⟨p,g1,v,g2,v',rfl,rfl⟩) (Nat.le_trans hB HB1.out.size))
    clear h hI hu ho ht hB HX HAb hxa hyb
    go_wp2_with fail
    go_at_fn fb
    refine HBt.out.mono ?_
    rintro e w2 ⟨x',y',rfl,h1,h2,h3,h4,hb2⟩
    have hr3:=keepz HR1.out hb2
    obtain ⟨z0,z1,f0⟩:=pr_cells hr3
    have f1:=f0 1
    have f0:=f0 0
    obtain ⟨px,hpx⟩:∃ p,rootP x' = p:=⟨_,rfl⟩
    obtain ⟨py,hpy⟩:∃ p,rootP y' = p:=⟨_,rfl⟩
    rw [hpx,hpy]
    have r2:=set2 (.pointer px) (.pointer py) hr3
    obtain ⟨t0,t1,-⟩:=pr_cells r2
    have H3:=Lib.hid (And.intro h1 (And.intro h2 (And.intro h3 (And.intro h4 (And.intro (pair_keeps (k:=k) hr3 (by decide) px py) (And.intro ((((Below.andThen HB1.out hb2).setCell (p:=⟨w.heap.size + 1 + 1,0,none⟩) (by show w.heap.size≤w.heap.size + 1 + 1;omega) (.pointer px)).setCell (p:=⟨w.heap.size + 1 + 1,1,none⟩) (by show w.heap.size≤w.heap.size + 1 + 1;omega) (.pointer py))) (And.intro hpx hpy)))))))
    clear h1 h2 h3 h4 hb2 hr3 HBt q0 q1 p0 p1 r2 hpx hpy
    go_wp2_with fail
    refine bodyPost_ret (v:=p2V px py) (by simp [results,Tryz.results178,go_sem,t0,t1]) rfl ?_
    obtain ⟨h1,h2,h3,h4,hkp,hb9,hpx,hpy⟩:=H3.out
    exact ⟨x',y',by rw [hpx,hpy],Kp.nodeO hkp (by simp) h1,Kp.nodeO hkp (by simp) h2,h3,h4,hb9⟩
end Go.Proofs.YtkeepngaaleakaaGreatDoor
