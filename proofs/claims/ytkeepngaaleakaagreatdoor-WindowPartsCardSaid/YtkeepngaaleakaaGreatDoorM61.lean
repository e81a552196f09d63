import Derived.Test.YtkeepngaaleakaaGreatDoorM60
namespace Go.Proofs.YtkeepngaaleakaaGreatDoor
open Go.ChangeShapes Go.WideShapes Go.ChangeAt Go.RowKit
open Tr (T S4 Ent)
structure MeetW (fm:Nat) (args:Value→Array Value) (B k:Nat) (W:List T) (go:List T→Bool) (Inv:List T→World→(Nat→Prop)→Prop):Prop where
  ent:∀ args w,(callFunc fm args).run Tryz.prog w = .ok (.enter fm args) w
  frame:∀ us w w' F,Inv us w F→w.heap.size≤w'.heap.size→(∀ b,F b→w'.heap[b]? = w.heap[b]?)→Inv us w' F
  inb:∀ us w F,Inv us w F→∀ b,F b→b < w.heap.size∧B≤b
  call:∀ us w F t r on,Inv us w F→Node w B k t→B≤w.heap.size→(∀ w',Below B w w'→Tz w')→W = us ++ t :: r→go us = true→go (us ++ [t]) = on→Calls Tryz.prog fm (args (.pointer (some ⟨t.blk,0,none⟩))) w fun e w' =>
    e = .returned (.bool on)∧∃ F',Inv (us ++ [t]) w' F'∧(∀ b,F' b→F b∨w.heap.size≤b)∧Foot F w w'
def InvH (h:Nat) (fv:Value) (Inv:List T→World→(Nat→Prop)→Prop) (us:List T) (w:World) (F:Nat→Prop):Prop :=
  ∃ (F0:Nat→Prop),Inv us w F0∧w.heap[h]? = some (.cells #[fv] 217 (0,0))∧¬ F0 h∧(∀ b,F b↔F0 b∨b = h)
theorem visit_each {fm h B k:Nat} {args:Value→Array Value} {W:List T} {go:List T→Bool} {Inv:List T→World→(Nat→Prop)→Prop} {fv:Value} (hm:MeetW fm args B k W go Inv) (hh:B≤h)
    (h1:∀ (w:World) (x:Option Addr) (on:Bool) (R:World→Prop),w.cell? ⟨h,0,none⟩ = some fv→Calls Tryz.prog fm (args (.pointer x)) w (fun e w' => e = .returned (.bool on)∧R w')→Calls Tryz.prog 211 #[.pointer x,.pointer (some ⟨h,0,none⟩)] w fun e w' => e = .returned (.tuple #[.pointer x,.bool on])∧R w') :
    VisitW 211 h B k W go (InvH h fv Inv) where
  ent:=enters_of Tryz.func211 (by kernel_rfl) rfl
  frame:=by
    rintro us w w' F ⟨F0,hI,hc,hn,hF⟩ hs hk
    exact ⟨F0,hm.frame us w w' F0 hI hs fun b hb => hk b ((hF b).2 (.inl hb)),(hk h ((hF h).2 (.inr rfl))).trans hc,hn,hF⟩
  inb:=by
    rintro us w F ⟨F0,hI,hc,hn,hF⟩ b hb
    rcases (hF b).1 hb with hb | rfl
    · exact hm.inb us w F0 hI b hb
    · exact ⟨(Array.getElem?_eq_some_iff.1 hc).1,hh⟩
  call:=by
    rintro us w F t r on ⟨F0,hI,hc,hn,hF⟩ hN hB hT hW hgo hon
    refine h1 w _ on (fun w' => ∃ F',InvH h fv Inv (us ++ [t]) w' F'∧(∀ b,F' b→F b∨w.heap.size≤b)∧Foot F w w') (by rw [cell_of_row w h _ _ _ (0,0) hc];rfl) ((hm.call us w F0 t r on hI hN hB hT hW hgo hon).mono ?_)
    rintro e w' ⟨rfl,F1,hI1,hF1,hf1⟩
    have hlt:=(Array.getElem?_eq_some_iff.1 hc).1
    refine ⟨rfl,fun b => F1 b∨b = h,⟨F1,hI1,(hf1.block h hlt hn).trans hc,fun hb => ?_,fun b => Iff.rfl⟩,?_,hf1.os,hf1.tape,hf1.output,hf1.size,fun b hb hnb => hf1.block b hb fun h0 => hnb ((hF b).2 (.inl h0))⟩
    · rcases hF1 h hb with hb | hb
      · exact hn hb
      · omega
    · rintro b (hb | rfl)
      · rcases hF1 b hb with hb | hb
        · exact .inl ((hF b).2 (.inl hb))
        · exact .inr hb
      · exact .inl ((hF b).2 (.inr rfl))
set_option maxRecDepth 1000000 in
set_option maxHeartbeats 4000000 in
theorem weach_one {fm B k b n n':Nat} {g:Nat} {W:List T} {go:List T→Bool} {Inv:List T→World→(Nat→Prop)→Prop} (hm:MeetW fm (fun x => #[x,.pointer (some ⟨g,0,none⟩)]) B k W go Inv) {w:World} {F:Nat→Prop} (hI:Inv [] w F) (hgo:go [] = true) {o:Option T} (hc:TreC w b k (rootP o)) (hb:b < w.heap.size) (hn:NodeO w B k o) (hB:B≤w.heap.size)
    (hT:∀ w',Below B w w'→Tz w') {lo hi:List Nat} {C C':Option Addr} (hX:BoxP w B k C lo C' hi) (hW:W = wholesO lo hi o) (hlen:lvO o≤64) :
    Calls Tryz.prog 157 #[.pointer (some ⟨b,0,none⟩),boxV C lo.length n C' hi.length n',.func (.func fm) #[] #[.pointer (some ⟨g,0,none⟩)]] w fun e w' =>
      e = .returned (.tuple #[])∧∃ F',Inv (metTo go [] W) w' F'∧(∀ b,F' b→F b∨w.heap.size≤b)∧Foot F w w':=by
  obtain ⟨W2,hW2⟩:∃ W2,W2 = (w.alloc (.cells #[.slice C lo.length n,.slice C' hi.length n'] 25)).alloc (.cells #[.func (.func fm) #[] #[.pointer (some ⟨g,0,none⟩)]] 217):=⟨_,rfl⟩
  have hb2:Below w.heap.size w W2:=by rw [hW2];((repeat first | refine bD ?_ | with_reducible refine bN ?_ | refine bA ?_ | refine bS ?_);first | exact bR | assumption | exact bN bR | exact bN (bN bR))
  have hs2:W2.heap.size = w.heap.size + 2:=by rw [hW2];simp
  have hcell:W2.heap[w.heap.size + 1]? = some (.cells #[.func (.func fm) #[] #[.pointer (some ⟨g,0,none⟩)]] 217 (0,0)):=by rw [hW2];exact heap_at _ _ _ (by simp)
  have hinb:=hm.inb _ _ _ hI
  have hv:VisitW 211 (w.heap.size + 1) B k W go (InvH (w.heap.size + 1) (.func (.func fm) #[] #[.pointer (some ⟨g,0,none⟩)]) Inv) :=
    visit_each hm (by omega) fun w1 x on R h1 h2 => weach1_one x on hm.ent h1 h2
  have hI2:InvH (w.heap.size + 1) (.func (.func fm) #[] #[.pointer (some ⟨g,0,none⟩)]) Inv [] W2 (fun b => F b∨b = w.heap.size + 1) :=
    ⟨F,hm.frame _ _ _ _ hI hb2.size fun b hb => hb2.block b (hinb b hb).1,hcell,fun h => by have:=(hinb _ h).1;omega,fun b => Iff.rfl⟩
  have HV:Hid (∀ w1,Below W2.heap.size W2 w1→Calls Tryz.prog 108 #[gdV C lo.length n C' hi.length n' (.func (.func 211) #[] #[.pointer (some ⟨w.heap.size + 1,0,none⟩)]) (.func (.func 212) #[] #[]),.pointer (rootP o)] w1 fun e w' =>
      (∃ z,e = .returned (.pointer z))∧∃ F',Inv (metTo go [] W) w' F'∧(∀ b,F' b→F b∨w.heap.size≤b)∧Foot F w w'):=Lib.hid fun w1 hd => by
    have hbd:Below w.heap.size w w1:=hb2.trans (hd.mono hb2.size)
    refine (wthrough_c hv (hv.frame _ _ w1 _ hI2 hd.size fun b hb => hd.block b (hv.inb _ _ _ hI2 b hb).1) hgo (hn.below hbd hB (Nat.le_refl _)) (Nat.le_trans hB hbd.size) (fun w9 h9 => hT w9 ((hbd.mono hB).trans h9)) (hX.below hbd hB (Nat.le_refl _)) hW hlen).mono ?_
    rintro e w' ⟨hz,F',⟨F1,hI1,-,-,hF1⟩,hF',hf⟩
    have hs1:=hd.size
    refine ⟨hz,F1,hI1,fun b hb => ?_,(Foot.of_below (F:=F) hbd).trans hf ?_⟩
    · rcases hF' b ((hF1 b).2 (.inl hb)) with (h | h) | h
      · exact .inl h
      · exact .inr (by omega)
      · exact .inr (by omega)
    · rintro b (h | h)
      · exact .inl h
      · exact .inr (by omega)
  have HR:Hid (∀ w1,Below W2.heap.size W2 w1→Calls Tryz.prog 60 #[.pointer (some ⟨b,0,none⟩)] w1 fun e w' => e = .returned (.pointer (rootP o))∧w1 = w'):=Lib.hid fun w1 h1 => tRoot_c ((hc.below hb2 hb).below h1 (by omega))
  have hbx:W2.heap[w.heap.size]? = some (.cells #[.slice C lo.length n,.slice C' hi.length n'] 25 (0,0)):=by rw [hW2];(first | (refine heap_at _ _ _ ?_;simp;done) | (refine heap_past _ (heap_at _ _ _ ?_);simp;done) | (refine heap_past _ (heap_past _ (heap_at _ _ _ ?_));simp;done) | (refine heap_past _ (heap_past _ (heap_past _ (heap_at _ _ _ ?_)));simp;done))
  obtain ⟨c0,c1,-,-⟩:=box_cells hbx
  have hbb:=Below.refl W2.heap.size W2
  have H2:=Lib.hid hW2
  clear hm hI hgo hc hn hT hX hW hlen hv hI2 hW2 hcell hinb hbx
  go_enter Tryz.func157,Tryz.ntmps157
  go_upto_region 1 with fail
  rw [← H2.out]
  go_region_with (first
    | (go_at_call 60;refine (HR.out _ (by ((repeat first | refine bD ?_ | with_reducible refine bN ?_ | refine bA ?_ | refine bS ?_);first | exact bR | assumption | exact bN bR | exact bN (bN bR)))).mono ?_;rintro e w1 ⟨rfl,rfl⟩)
    | (go_at_call 108;refine (HV.out _ (by ((repeat first | refine bD ?_ | with_reducible refine bN ?_ | refine bA ?_ | refine bS ?_);first | exact bR | assumption | exact bN bR | exact bN (bN bR)))).mono ?_;rintro e w3 ⟨⟨z,rfl⟩,F',hI3,hF3,hf3⟩))
  all_goals go_wp2_with fail
  all_goals (
    go_end0
    exact ⟨rfl,F',hI3,hF3,hf3⟩)
set_option maxRecDepth 1000000 in
set_option maxHeartbeats 4000000 in
theorem weach_three {fm B k b n n':Nat} {g1 g2 g3:Nat} {W:List T} {go:List T→Bool} {Inv:List T→World→(Nat→Prop)→Prop} (hm:MeetW fm (fun x => #[x,.pointer (some ⟨g1,0,none⟩),.pointer (some ⟨g2,0,none⟩),.pointer (some ⟨g3,0,none⟩)]) B k W go Inv) {w:World} {F:Nat→Prop} (hI:Inv [] w F) (hgo:go [] = true) {o:Option T} (hc:TreC w b k (rootP o)) (hb:b < w.heap.size) (hn:NodeO w B k o) (hB:B≤w.heap.size)
    (hT:∀ w',Below B w w'→Tz w') {lo hi:List Nat} {C C':Option Addr} (hX:BoxP w B k C lo C' hi) (hW:W = wholesO lo hi o) (hlen:lvO o≤64) :
    Calls Tryz.prog 157 #[.pointer (some ⟨b,0,none⟩),boxV C lo.length n C' hi.length n',.func (.func fm) #[] #[.pointer (some ⟨g1,0,none⟩),.pointer (some ⟨g2,0,none⟩),.pointer (some ⟨g3,0,none⟩)]] w fun e w' =>
      e = .returned (.tuple #[])∧∃ F',Inv (metTo go [] W) w' F'∧(∀ b,F' b→F b∨w.heap.size≤b)∧Foot F w w':=by
  obtain ⟨W2,hW2⟩:∃ W2,W2 = (w.alloc (.cells #[.slice C lo.length n,.slice C' hi.length n'] 25)).alloc (.cells #[.func (.func fm) #[] #[.pointer (some ⟨g1,0,none⟩),.pointer (some ⟨g2,0,none⟩),.pointer (some ⟨g3,0,none⟩)]] 217):=⟨_,rfl⟩
  have hb2:Below w.heap.size w W2:=by rw [hW2];((repeat first | refine bD ?_ | with_reducible refine bN ?_ | refine bA ?_ | refine bS ?_);first | exact bR | assumption | exact bN bR | exact bN (bN bR))
  have hs2:W2.heap.size = w.heap.size + 2:=by rw [hW2];simp
  have hcell:W2.heap[w.heap.size + 1]? = some (.cells #[.func (.func fm) #[] #[.pointer (some ⟨g1,0,none⟩),.pointer (some ⟨g2,0,none⟩),.pointer (some ⟨g3,0,none⟩)]] 217 (0,0)):=by rw [hW2];exact heap_at _ _ _ (by simp)
  have hinb:=hm.inb _ _ _ hI
  have hv:VisitW 211 (w.heap.size + 1) B k W go (InvH (w.heap.size + 1) (.func (.func fm) #[] #[.pointer (some ⟨g1,0,none⟩),.pointer (some ⟨g2,0,none⟩),.pointer (some ⟨g3,0,none⟩)]) Inv) :=
    visit_each hm (by omega) fun w1 x on R h1 h2 => weach1_three x on hm.ent h1 h2
  have hI2:InvH (w.heap.size + 1) (.func (.func fm) #[] #[.pointer (some ⟨g1,0,none⟩),.pointer (some ⟨g2,0,none⟩),.pointer (some ⟨g3,0,none⟩)]) Inv [] W2 (fun b => F b∨b = w.heap.size + 1) :=
    ⟨F,hm.frame _ _ _ _ hI hb2.size fun b hb => hb2.block b (hinb b hb).1,hcell,fun h => by have:=(hinb _ h).1;omega,fun b => Iff.rfl⟩
  have HV:Hid (∀ w1,Below W2.heap.size W2 w1→Calls Tryz.prog 108 #[gdV C lo.length n C' hi.length n' (.func (.func 211) #[] #[.pointer (some ⟨w.heap.size + 1,0,none⟩)]) (.func (.func 212) #[] #[]),.pointer (rootP o)] w1 fun e w' =>
      (∃ z,e = .returned (.pointer z))∧∃ F',Inv (metTo go [] W) w' F'∧(∀ b,F' b→F b∨w.heap.size≤b)∧Foot F w w'):=Lib.hid fun w1 hd => by
    have hbd:Below w.heap.size w w1:=hb2.trans (hd.mono hb2.size)
    refine (wthrough_c hv (hv.frame _ _ w1 _ hI2 hd.size fun b hb => hd.block b (hv.inb _ _ _ hI2 b hb).1) hgo (hn.below hbd hB (Nat.le_refl _)) (Nat.le_trans hB hbd.size) (fun w9 h9 => hT w9 ((hbd.mono hB).trans h9)) (hX.below hbd hB (Nat.le_refl _)) hW hlen).mono ?_
    rintro e w' ⟨hz,F',⟨F1,hI1,-,-,hF1⟩,hF',hf⟩
    have hs1:=hd.size
    refine ⟨hz,F1,hI1,fun b hb => ?_,(Foot.of_below (F:=F) hbd).trans hf ?_⟩
    · rcases hF' b ((hF1 b).2 (.inl hb)) with (h | h) | h
      · exact .inl h
      · exact .inr (by omega)
      · exact .inr (by omega)
    · rintro b (h | h)
      · exact .inl h
      · exact .inr (by omega)
  have HR:Hid (∀ w1,Below W2.heap.size W2 w1→Calls Tryz.prog 60 #[.pointer (some ⟨b,0,none⟩)] w1 fun e w' => e = .returned (.pointer (rootP o))∧w1 = w'):=Lib.hid fun w1 h1 => tRoot_c ((hc.below hb2 hb).below h1 (by omega))
  have hbx:W2.heap[w.heap.size]? = some (.cells #[.slice C lo.length n,.slice C' hi.length n'] 25 (0,0)):=by rw [hW2];(first | (refine heap_at _ _ _ ?_;simp;done) | (refine heap_past _ (heap_at _ _ _ ?_);simp;done) | (refine heap_past _ (heap_past _ (heap_at _ _ _ ?_));simp;done) | (refine heap_past _ (heap_past _ (heap_past _ (heap_at _ _ _ ?_)));simp;done))
  obtain ⟨c0,c1,-,-⟩:=box_cells hbx
  have hbb:=Below.refl W2.heap.size W2
  have H2:=Lib.hid hW2
  clear hm hI hgo hc hn hT hX hW hlen hv hI2 hW2 hcell hinb hbx
  go_enter Tryz.func157,Tryz.ntmps157
  go_upto_region 1 with fail
  rw [← H2.out]
  go_region_with (first
    | (go_at_call 60;refine (HR.out _ (by ((repeat first | refine bD ?_ | with_reducible refine bN ?_ | refine bA ?_ | refine bS ?_);first | exact bR | assumption | exact bN bR | exact bN (bN bR)))).mono ?_;rintro e w1 ⟨rfl,rfl⟩)
    | (go_at_call 108;refine (HV.out _ (by ((repeat first | refine bD ?_ | with_reducible refine bN ?_ | refine bA ?_ | refine bS ?_);first | exact bR | assumption | exact bN bR | exact bN (bN bR)))).mono ?_;rintro e w3 ⟨⟨z,rfl⟩,F',hI3,hF3,hf3⟩))
  all_goals go_wp2_with fail
  all_goals (
    go_end0
    exact ⟨rfl,F',hI3,hF3,hf3⟩)
end Go.Proofs.YtkeepngaaleakaaGreatDoor
