import Derived.Test.YtkeepngaaleakaaGreatDoorM61
import Derived.Test.YtkeepngaaleakaaGreatDoorM33
namespace Go.Proofs.YtkeepngaaleakaaGreatDoor
open Go.ChangeShapes Go.WideShapes Go.ChangeAt Go.RowKit
open Tr (T S4 Ent)
theorem wholesO_ents {w:World} {B k:Nat} {o:Option T} (h:NodeO w B k o) (lo hi:List Nat):(wholesO lo hi o).flatMap T.ents = (Tr.entsO o).filter (Tr.inB lo hi):=by
  cases o with
  | none => rfl
  | some t => exact Tr.wholes_ents (h t rfl).1
theorem lvO_le {w:World} {B k:Nat} {o:Option T} (h:NodeO w B k o):lvO o≤64:=by
  cases o with
  | none => exact Nat.zero_le _
  | some t => exact (h t rfl).1.lv64
theorem refd_ok {w:World} {b k:Nat} {r:Option Addr} (h:TreC w b k r) (hb:b < w.heap.size) (A:Option Addr) (n c:Nat) (A':Option Addr) (n' c':Nat) (h1:1≤n) (h16:n≤16) (hn:n = n') (hk:n = k):Refd w (some ⟨b,0,none⟩) A n c A' n' c' 0:=fun w1 hw => by
  have:=wrefusal_yes (w:=w1) (h.below hw hb) (Nat.lt_of_lt_of_le hb hw.size) A A' n c n' c' h1 h16 hn false (by rw [bne_eq_false_iff_eq];omega)
  simpa using this
/-! ### Sums -/
theorem Q4.blk {w w':World} {g:Nat} {s:S4} (h:Q4 w g s) (hs:w.heap.size≤w'.heap.size) (hb:w'.heap[g]? = w.heap[g]?):Q4 w' g s:=by
  obtain ⟨⟨h0,h1,h2,h3⟩,⟨f0,f1,f2,f3⟩,hg⟩:=h
  have e:∀ i,w'.cell? ⟨g,i,none⟩ = w.cell? ⟨g,i,none⟩:=fun i => World.cell?_of_block (a:=⟨g,i,none⟩) hb
  have f:∀ i,w'.frozen? ⟨g,i,none⟩ = w.frozen? ⟨g,i,none⟩:=fun i => World.frozen?_of_block (a:=⟨g,i,none⟩) hb
  exact ⟨⟨(e 0).trans h0,(e 1).trans h1,(e 2).trans h2,(e 3).trans h3⟩,⟨(f 0).trans f0,(f 1).trans f1,(f 2).trans f2,(f 3).trans f3⟩,by omega⟩
abbrev entsW (us:List T):List Ent:=us.flatMap T.ents
def goS (mx:Nat) (us:List T):Bool:=!(decide (mx < (entsW us).length))
theorem metTo_some (mx:Nat):∀ (L us:List T),goS mx us = true→∃ r,entsW (us ++ L) = entsW (metTo (goS mx) us L) ++ r∧(r = []∨mx < (entsW (metTo (goS mx) us L)).length)
  | [],us,_ => ⟨[],by simp [metTo],.inl rfl⟩
  | t :: L,us,h => by
    by_cases hg:goS mx (us ++ [t]) = true
    · rw [metTo_on hg]
      obtain ⟨r,h1,h2⟩:=metTo_some mx L (us ++ [t]) hg
      exact ⟨r,by rw [← h1];simp,h2⟩
    · have hg:goS mx (us ++ [t]) = false:=by simpa using hg
      rw [metTo_off hg]
      refine ⟨entsW L,by simp [entsW],.inr ?_⟩
      unfold goS at hg
      simpa using hg
theorem met_take {mx:Nat} {W:List T}:(entsW (metTo (goS mx) [] W)).take mx = (entsW W).take mx∧decide (mx < (entsW (metTo (goS mx) [] W)).length) = decide (mx < (entsW W).length):=by
  obtain ⟨r,h1,h2⟩:=metTo_some mx W [] (by simp [goS,entsW])
  rw [List.nil_append] at h1
  rw [h1]
  rcases h2 with rfl | h2
  · simp
  · refine ⟨by rw [List.take_append_of_le_length (by omega)],?_⟩
    rw [List.length_append]
    simp only [decide_eq_decide]
    omega
def SomI (B g1 g2 g3:Nat) (most:Int) (mx:Nat) (us:List T) (w:World) (F:Nat→Prop):Prop :=
  ∃ v D,SomC B g1 g2 g3 most ((entsW us).take mx) (decide (mx < (entsW us).length)) w v D∧∀ b,F b↔somF g1 g2 g3 v D b
theorem meet_some {B g1 g2 g3 k:Nat} {most:Int} {mx:Nat} (hmx:max most 0 = (mx:Int)) (hm63:mx < 9223372036854775808) {W:List T} (hW:(entsW W).length≤100000000) :
    MeetW 158 (fun x => #[x,.pointer (some ⟨g1,0,none⟩),.pointer (some ⟨g2,0,none⟩),.pointer (some ⟨g3,0,none⟩)]) B k W (goS mx) (SomI B g1 g2 g3 most mx) where
  ent:=enters_of Tryz.func158 (by kernel_rfl) rfl
  frame:=by
    rintro us w w' F ⟨v,D,h,hF⟩ hs hk
    exact ⟨v,D,h.frame hs fun b hb => hk b ((hF b).2 hb),hF⟩
  inb:=by
    rintro us w F ⟨v,D,h,hF⟩ b hb
    exact h.inb b ((hF b).1 hb)
  call:=by
    rintro us w F t r on ⟨v,D,h,hF⟩ hn hB hT hWe hgo rfl
    have hle:(entsW us).length≤mx:=by
      unfold goS at hgo
      simpa using hgo
    have hall:(entsW us).take mx = entsW us:=List.take_of_length_le hle
    have hd:decide (mx < (entsW us).length) = false:=decide_eq_false (by omega)
    rw [hall,hd] at h
    have hlen:(entsW us).length + t.ents.length≤100000000:=by
      rw [hWe] at hW
      simp only [entsW,List.flatMap_append,List.flatMap_cons,List.length_append] at hW ⊢
      omega
    have hsnoc:entsW (us ++ [t]) = entsW us ++ t.ents:=by simp [entsW]
    have htake:entsW us ++ t.ents.take (mx - (entsW us).length) = (entsW (us ++ [t])).take mx:=by
      rw [hsnoc,List.take_append,hall]
    have hdec:decide (mx - (entsW us).length < t.ents.length) = decide (mx < (entsW (us ++ [t])).length):=by
      rw [hsnoc,List.length_append]
      simp only [decide_eq_decide]
      omega
    refine (wsome1_c h hn hB hT (by omega) (by omega) hmx hle hm63).mono ?_
    rintro e w' ⟨rfl,v',D',h',hin,hf⟩
    rw [htake,hdec] at h'
    rw [hdec]
    refine ⟨rfl,somF g1 g2 g3 v' D',⟨v',D',h',fun b => Iff.rfl⟩,?_,hf.os,hf.tape,hf.output,hf.size,fun b hb hnb => hf.block b hb ?_⟩
    · rintro b (h1 | h1 | h1 | h1 | h1)
      · exact .inl ((hF b).2 (.inl h1))
      · exact .inl ((hF b).2 (.inr (.inl h1)))
      · exact .inl ((hF b).2 (.inr (.inr (.inl h1))))
      · rcases hin b (.inl h1) with h2 | h2 | h2
        · exact .inl ((hF b).2 (.inr (.inr (.inr (.inl h2)))))
        · exact .inl ((hF b).2 (.inr (.inr (.inr (.inr h2)))))
        · exact .inr h2
      · rcases hin b (.inr h1) with h2 | h2 | h2
        · exact .inl ((hF b).2 (.inr (.inr (.inr (.inl h2)))))
        · exact .inl ((hF b).2 (.inr (.inr (.inr (.inr h2)))))
        · exact .inr h2
    · rintro (h1 | h1 | h1)
      · exact hnb ((hF b).2 (.inr (.inl h1)))
      · exact hnb ((hF b).2 (.inr (.inr (.inl h1))))
      · exact hnb ((hF b).2 (.inr (.inr (.inr (.inl h1)))))
theorem som_new {w1:World} {B g1:Nat} {most:Int} (hg:w1.heap[g1]? = some (.cells #[.int .i64 most] 3 (0,0))) (hB:B≤g1) :
    SomC B g1 w1.heap.size (w1.heap.size + 1) most [] false ((w1.alloc (.cells #[.slice none 0 0] 30)).alloc (.cells #[.bool false] 4)) (.slice none 0 0) (fun _ => False) where
  c1:=by
    have hl:=(Array.getElem?_eq_some_iff.1 hg).1
    rw [Below.heap_alloc _ _ _ (by simp;omega),Below.heap_alloc _ _ _ hl]
    exact hg
  c2:=by (first | (refine heap_at _ _ _ ?_;simp;done) | (refine heap_past _ (heap_at _ _ _ ?_);simp;done) | (refine heap_past _ (heap_past _ (heap_at _ _ _ ?_));simp;done) | (refine heap_past _ (heap_past _ (heap_past _ (heap_at _ _ _ ?_)));simp;done))
  c3:=by (first | (refine heap_at _ _ _ ?_;simp;done) | (refine heap_past _ (heap_at _ _ _ ?_);simp;done) | (refine heap_past _ (heap_past _ (heap_at _ _ _ ?_));simp;done) | (refine heap_past _ (heap_past _ (heap_past _ (heap_at _ _ _ ?_)));simp;done))
  ne:=by have hl:=(Array.getElem?_eq_some_iff.1 hg).1;omega
  ge:=by have hl:=(Array.getElem?_eq_some_iff.1 hg).1;omega
  row:=ownL_none _ _ _
  vne:=by simp [Value.ownBlock]
  dom:=fun _ h => h.elim
theorem SomC.newE {B g1 g2 g3:Nat} {most:Int} {L:List Ent} {more:Bool} {w:World} {A:Option Addr} {c:Nat} {D:Nat→Prop} (h:SomC B g1 g2 g3 most L more w (.slice A L.length c) D):NewE B w A c L :=
  h.row.imp (EntG.step (Nat.le_refl _) fun b _ hD => ⟨rfl,(h.dom b hD).1,by have:=(h.dom b hD).2.2.2.2.2;rwa [own_block] at this⟩)
set_option maxRecDepth 1000000 in
set_option maxHeartbeats 4000000 in
theorem wsome_c {w:World} {B b k n n':Nat} {o:Option T} (ht:TreeAt w B b k o) (hB:B≤w.heap.size) (hT:∀ w',Below B w w'→Tz w') {lo hi:List Nat} {C C':Option Addr} (hX:BoxP w B k C lo C' hi) (hN:(Tr.entsO o).length≤100000000) {most:Int} {mx:Nat} (hmx:max most 0 = (mx:Int)) (hm63:mx < 9223372036854775808)
    {R:List Ent} (hR:(Tr.entsO o).filter (Tr.inB lo hi) = R) :
    Calls Tryz.prog 104 #[.pointer (some ⟨b,0,none⟩),boxV C lo.length n C' hi.length n',.int .i64 most] w fun e w' => ∃ A c,e = .returned (.tuple #[.slice A (R.take mx).length c,.bool (decide (mx < R.length)),.int .i64 0])∧NewE w.heap.size w' A c (R.take mx)∧Below w.heap.size w w':=by
  obtain ⟨hb,k1,k16,hc,hn⟩:=ht
  have hbw:b < w.heap.size:=by omega
  have hWe:=wholesO_ents hn lo hi
  rw [hR] at hWe
  have hRl:R.length≤100000000:=by rw [← hR];exact Nat.le_trans (List.length_filter_le _ _) hN
  have HR:=Lib.hid (refd_ok hc hbw C lo.length n C' hi.length n' (by rw [hX.el];exact k1) (by rw [hX.el];exact k16) (by rw [hX.el,hX.eh]) hX.el)
  obtain ⟨r,hr⟩:∃ r,decide (mx < R.length) = r:=⟨_,rfl⟩
  obtain ⟨L,hL⟩:∃ L,R.take mx = L:=⟨_,rfl⟩
  rw [hr,hL]
  have HE:Hid (∀ (g1 g2 g3:Nat) (w1:World) (v:Value) (D:Nat→Prop),Below w.heap.size w w1→SomC w.heap.size g1 g2 g3 most [] false w1 v D→Calls Tryz.prog 157 #[.pointer (some ⟨b,0,none⟩),boxV C lo.length n C' hi.length n',.func (.func 158) #[] #[.pointer (some ⟨g1,0,none⟩),.pointer (some ⟨g2,0,none⟩),.pointer (some ⟨g3,0,none⟩)]] w1 fun e w' =>
      e = .returned (.tuple #[])∧∃ v' D',SomC w.heap.size g1 g2 g3 most L r w' v' D'∧Below w.heap.size w w'):=Lib.hid fun g1 g2 g3 w1 v D hb1 hs => by
    have hm:MeetW 158 (fun x => #[x,.pointer (some ⟨g1,0,none⟩),.pointer (some ⟨g2,0,none⟩),.pointer (some ⟨g3,0,none⟩)]) w.heap.size k (wholesO lo hi o) (goS mx) (SomI w.heap.size g1 g2 g3 most mx) :=
      meet_some hmx hm63 (by unfold entsW;rw [hWe];exact hRl)
    have hnn:NodeO w1 w.heap.size k o:=hn.below hb1 hB hB
    refine (weach_three hm (F:=somF g1 g2 g3 v D) ⟨v,D,by simpa [entsW] using hs,fun b => Iff.rfl⟩ (by simp [goS,entsW]) (hc.below hb1 hbw) (Nat.lt_of_lt_of_le hbw hb1.size) hnn hb1.size (fun w9 h9 => hT w9 ((hb1.trans h9).mono hB)) (hX.below hb1 hB hB) rfl (lvO_le hn)).mono ?_
    rintro e w' ⟨rfl,F',⟨v',D',hs',hF'⟩,hin,hf⟩
    rw [met_take.1,met_take.2,show entsW (wholesO lo hi o) = R from hWe,hL,hr] at hs'
    exact ⟨rfl,v',D',hs',hb1.trans (hf.below hb1.size fun b hb => (hs.inb b hb).2)⟩
  clear hb k1 k16 hc hn hbw hWe hT hX hN hB hmx hm63 hR hRl hr hL
  go_enter Tryz.func104,Tryz.ntmps104
  obtain ⟨W0,hW0⟩:∃ W0,W0 = (w.alloc (.cells #[.slice C lo.length n,.slice C' hi.length n'] 25)).alloc (.cells #[.int .i64 most] 3):=⟨_,rfl⟩
  have hg1:W0.heap[w.heap.size + 1]? = some (.cells #[.int .i64 most] 3 (0,0)):=by rw [hW0];(first | (refine heap_at _ _ _ ?_;simp;done) | (refine heap_past _ (heap_at _ _ _ ?_);simp;done) | (refine heap_past _ (heap_past _ (heap_at _ _ _ ?_));simp;done) | (refine heap_past _ (heap_past _ (heap_past _ (heap_at _ _ _ ?_)));simp;done))
  have hbx:W0.heap[w.heap.size]? = some (.cells #[.slice C lo.length n,.slice C' hi.length n'] 25 (0,0)):=by rw [hW0];(first | (refine heap_at _ _ _ ?_;simp;done) | (refine heap_past _ (heap_at _ _ _ ?_);simp;done) | (refine heap_past _ (heap_past _ (heap_at _ _ _ ?_));simp;done) | (refine heap_past _ (heap_past _ (heap_past _ (heap_at _ _ _ ?_)));simp;done))
  have hbw:Below w.heap.size w W0:=by rw [hW0];((repeat first | refine bD ?_ | with_reducible refine bN ?_ | refine bA ?_ | refine bS ?_);first | exact bR | assumption | exact bN bR | exact bN (bN bR))
  have hs0:W0.heap.size = w.heap.size + 2:=by rw [hW0];simp
  obtain ⟨a0,a1,-,-⟩:=box_cells hbx
  go_upto_region 1 with fail
  rw [← hW0]
  have H0:=Lib.hid (And.intro hg1 (And.intro hbx (And.intro hbw hs0)))
  clear hW0 hg1 hbx hbw hs0
  go_wp2_with fail
  refine (HR.out _ H0.out.2.2.1).mono ?_
  rintro e w1 ⟨rfl,hb1⟩
  have hs1:=hb1.size
  have hs0:=H0.out.2.2.2
  have hbx1:=(hb1.block w.heap.size (by omega)).trans H0.out.2.1
  have hg1:=(hb1.block (w.heap.size + 1) (by omega)).trans H0.out.1
  have hbw1:Below w.heap.size w w1:=H0.out.2.2.1.trans (hb1.mono H0.out.2.2.1.size)
  have hs:=som_new hg1 (Nat.le_succ w.heap.size)
  have hW:=(hbw1.alloc hbw1.size (.cells #[.slice none 0 0] 30)).alloc (by simp;omega) (.cells #[.bool false] 4)
  have hbx2:((w1.alloc (.cells #[.slice none 0 0] 30)).alloc (.cells #[.bool false] 4)).heap[w.heap.size]? = some (.cells #[.slice C lo.length n,.slice C' hi.length n'] 25 (0,0)):=by
    rw [Below.heap_alloc _ _ _ (by simp;omega),Below.heap_alloc _ _ _ (by omega)]
    exact hbx1
  have H1:=Lib.hid (And.intro hs (And.intro hW hbx2))
  clear hb1 hs1 hs0 hbx1 hg1 hbw1 hs hW hbx2 HR a0 a1
  go_upto_region 6 with fail
  have h1:=H1.out
  clear H1 H0
  revert h1
  generalize w1.heap.size = g2
  generalize World.alloc _ _ = W3
  rintro ⟨hs,hW,hbx⟩
  obtain ⟨a0,a1,-,-⟩:=box_cells hbx
  have HC:=Lib.hid (HE.out _ _ _ _ _ _ hW hs)
  clear hs hW hbx HE
  go_wp2_with fail
  refine HC.out.mono ?_
  rintro e w4 ⟨rfl,v,D,hs,hb4⟩
  obtain ⟨A,c,rfl,hc⟩:=hs.row.slice
  have c2:w4.cell? ⟨g2,0,none⟩ = some (.slice A L.length c):=by rw [cell_of_row w4 g2 _ _ _ (0,0) hs.c2];rfl
  have c3:w4.cell? ⟨g2 + 1,0,none⟩ = some (.bool r):=by rw [cell_of_row w4 (g2 + 1) _ _ _ (0,0) hs.c3];rfl
  have HS:=Lib.hid (And.intro hs hb4)
  clear hs hb4 hc HC a0 a1
  go_wp2_with fail
  go_quiet (fail)
  go_wp2_with fail
  go_ret3
  have hd:=below_drewN nq (Below.refl w4.heap.size w4)
  exact ⟨A,c,rfl,(HS.out.1.below hd).newE,HS.out.2.trans (hd.mono HS.out.2.size)⟩
set_option maxRecDepth 1000000 in
set_option maxHeartbeats 4000000 in
theorem wfind_c {w:World} {B b k n n':Nat} {o:Option T} (ht:TreeAt w B b k o) (hB:B≤w.heap.size) (hT:∀ w',Below B w w'→Tz w') {lo hi:List Nat} {C C':Option Addr} (hX:BoxP w B k C lo C' hi) (hN:(Tr.entsO o).length≤100000000)
    {R:List Ent} (hR:(Tr.entsO o).filter (Tr.inB lo hi) = R) :
    Calls Tryz.prog 47 #[.pointer (some ⟨b,0,none⟩),boxV C lo.length n C' hi.length n'] w fun e w' => ∃ A c,e = .returned (.tuple #[.slice A R.length c,.int .i64 0])∧NewE w.heap.size w' A c R∧Below w.heap.size w w':=by
  have hRl:R.length≤100000000:=by rw [← hR];exact Nat.le_trans (List.length_filter_le _ _) hN
  have htk:R.take 9223372036854775807 = R:=List.take_of_length_le (by omega)
  have HS:Hid (∀ w1,Below w.heap.size w w1→Calls Tryz.prog 104 #[.pointer (some ⟨b,0,none⟩),boxV C lo.length n C' hi.length n',.int .i64 9223372036854775807] w1 fun e w' => ∃ (A:Option Addr) (c:Nat) (r:Bool),e = .returned (.tuple #[.slice A R.length c,.bool r,.int .i64 0])∧NewE w.heap.size w' A c R∧Below w.heap.size w w'):=Lib.hid fun w1 hb1 => by
    refine (wsome_c (mx:=9223372036854775807) (ht.below hb1 hB (Nat.le_refl _)) (Nat.le_trans hB hb1.size) (fun w9 h9 => hT w9 ((hb1.mono hB).trans h9)) (hX.below hb1 hB (Nat.le_refl _)) hN (by decide) (by decide) hR).mono ?_
    rintro e w' ⟨A,c,rfl,h1,h2⟩
    rw [htk] at h1
    rw [htk]
    exact ⟨A,c,_,rfl,h1.mono hb1.size,hb1.trans (h2.mono hb1.size)⟩
  clear ht hB hT hX hN hR hRl htk
  go_enter Tryz.func47,Tryz.ntmps47
  go_wp2_with fail
  refine (HS.out _ (by ((repeat first | refine bD ?_ | with_reducible refine bN ?_ | refine bA ?_ | refine bS ?_);first | exact bR | assumption | exact bN bR | exact bN (bN bR)))).mono ?_
  rintro e w1 ⟨A,c,r,rfl,h1,h2⟩
  have H:=Lib.hid (And.intro h1 h2)
  clear h1 h2
  go_wp2_with fail
  go_ret2
  exact ⟨A,c,rfl,H.out.1,H.out.2⟩
end Go.Proofs.YtkeepngaaleakaaGreatDoor
namespace Go.Proofs.YtkeepngaaleakaaGreatDoor
open Go.ChangeShapes Go.WideShapes Go.ChangeAt Go.RowKit
open Tr (T S4 Ent Shp)
theorem ents_two {W:World} {b c0 c1:Nat} {A0 A1:Option Addr} {e0 e1:Ent}
    (h:W.heap[b]? = some (.cells #[.slice A0 e0.1.length c0,.int .u64 (e0.2:Int),.slice A1 e1.1.length c1,.int .u64 (e1.2:Int)] 57 (0,0)))
    (p0:Pts W W.heap.size A0 e0.1) (p1:Pts W W.heap.size A1 e1.1) (hl:e0.1.length≤maxLen∧e1.1.length≤maxLen) (hv:e0.2 < 18446744073709551616∧e1.2 < 18446744073709551616) :
    Ents W W.heap.size (some ⟨b,0,none⟩) [e0,e1]:=by
  intro _
  refine ⟨b,0,rfl,(Array.getElem?_eq_some_iff.1 h).1,fun i e he => ?_⟩
  match i with
  | 0 =>
    simp only [List.getElem?_cons_zero,Option.some.injEq] at he
    subst he
    refine ⟨A0,c0,?_,?_,p0,hl.1,hv.1⟩
    · show W.cell? ⟨b,0,none⟩ = _
      rw [cell_of_row W b _ _ _ (0,0) h];rfl
    · show W.cell? ⟨b,1,none⟩ = _
      rw [cell_of_row W b _ _ _ (0,0) h];rfl
  | 1 =>
    simp only [List.getElem?_cons_succ,List.getElem?_cons_zero,Option.some.injEq] at he
    subst he
    refine ⟨A1,c1,?_,?_,p1,hl.2,hv.2⟩
    · show W.cell? ⟨b,2,none⟩ = _
      rw [cell_of_row W b _ _ _ (0,0) h];rfl
    · show W.cell? ⟨b,3,none⟩ = _
      rw [cell_of_row W b _ _ _ (0,0) h];rfl
  | i + 2 => simp at he
def ex9L:List Ent:=[([4,0],3),([7,3],1)]
theorem ex9_row (w:World):∃ W,W = (((w.alloc (.cells #[.int .u64 4,.int .u64 0] 55)).alloc (.cells #[.int .u64 7,.int .u64 3] 55)).alloc (.cells #[.slice (some ⟨w.heap.size,0,none⟩) 2 2,.int .u64 3,.slice (some ⟨w.heap.size + 1,0,none⟩) 2 2,.int .u64 1] 57)) ∧
    Ents W W.heap.size (some ⟨w.heap.size + 1 + 1,0,none⟩) ex9L∧Below w.heap.size w W:=by
  refine ⟨_,rfl,?_,by ((repeat first | refine bD ?_ | with_reducible refine bN ?_ | refine bA ?_ | refine bS ?_);first | exact bR | assumption | exact bN bR | exact bN (bN bR))⟩
  refine ents_two (e0:=([4,0],3)) (e1:=([7,3],1)) (heap_at _ _ _ (by simp)) ?_ ?_ (by decide) (by decide)
  · exact pts_two' 4 0 (by decide) (by decide) (by ((repeat first | refine bD ?_ | with_reducible refine bN ?_ | refine bA ?_ | refine bS ?_);first | exact bR | assumption | exact bN bR | exact bN (bN bR)))
  · have:=pts_two' (w:=w.alloc (.cells #[.int .u64 4,.int .u64 0] 55)) 7 3 (by decide) (by decide) (W:=(((w.alloc (.cells #[.int .u64 4,.int .u64 0] 55)).alloc (.cells #[.int .u64 7,.int .u64 3] 55)).alloc (.cells #[.slice (some ⟨w.heap.size,0,none⟩) 2 2,.int .u64 3,.slice (some ⟨w.heap.size + 1,0,none⟩) 2 2,.int .u64 1] 57))) (by ((repeat first | refine bD ?_ | with_reducible refine bN ?_ | refine bA ?_ | refine bS ?_);first | exact bR | assumption | exact bN bR | exact bN (bN bR)))
    simpa using this
theorem ex9_filter:exL.filter (Tr.inB [4,0] [9,3]) = ex9L:=by decide +kernel
set_option maxRecDepth 100000 in
set_option maxHeartbeats 1000000 in
theorem awake9_c (w:World) (hT:Tz w):Calls Tryz.prog 13 #[] w fun e w' => e = .returned (.bool true)∧Below w.heap.size w w':=by
  have HT:=Lib.hid hT
  clear hT
  go_enter Tryz.func13,Tryz.ntmps13
  go_wp2_with fail
  refine (tNew_c 2 w (by decide) (by decide)).mono ?_
  rintro e w1 ⟨rfl,ht1,hb1⟩
  have T1:=Lib.hid ht1
  have B1:=Lib.hid hb1
  clear ht1 hb1
  go_wp2_with fail
  refine (tPut_new (T1.out.below (below_alloc w1 _) (Nat.le_refl _)) (pts_two w1 7 3 (by decide) (by decide)) rfl (c:=2) 1 (by decide) (by simp [Tr.entsO]) (by decide +kernel)).mono ?_
  rintro e w2 ⟨n2,t2,rfl,ht2,he2,hb2⟩
  have T2:=Lib.hid ht2
  have E2:=Lib.hid he2
  have B2:=Lib.hid (Below.andThen B1.out (Below.andThen (below_alloc w1 _) hb2))
  clear ht2 he2 hb2 T1
  go_wp2_with fail
  refine (tPut_new (T2.out.below (below_alloc w2 _) (Nat.le_refl _)) (pts_two w2 0 8 (by decide) (by decide)) rfl (c:=2) 2 (by decide) (by rw [show Tr.entsO (some t2) = t2.ents from rfl,E2.out];decide +kernel) (by rw [show Tr.entsO (some t2) = t2.ents from rfl,E2.out];decide +kernel)).mono ?_
  rintro e w3 ⟨n3,t3,rfl,ht3,he3,hb3⟩
  have T3:=Lib.hid ht3
  have E3:=Lib.hid (he3.trans (by rw [show Tr.entsO (some t2) = t2.ents from rfl,E2.out]))
  have B3:=Lib.hid (Below.andThen B2.out (Below.andThen (below_alloc w2 _) hb3))
  clear ht3 he3 hb3 T2
  go_wp2_with fail
  refine (tPut_new (T3.out.below (below_alloc w3 _) (Nat.le_refl _)) (pts_two w3 4 0 (by decide) (by decide)) rfl (c:=2) 3 (by decide) (by rw [show Tr.entsO (some t3) = t3.ents from rfl,E3.out];decide +kernel) (by rw [show Tr.entsO (some t3) = t3.ents from rfl,E3.out];decide +kernel)).mono ?_
  rintro e w4 ⟨n4,t4,rfl,ht4,he4,hb4⟩
  have T4:=Lib.hid ht4
  have E4:Hid (Tr.entsO (some t4) = exL):=Lib.hid (by rw [show Tr.entsO (some t4) = t4.ents from rfl,he4,show Tr.entsO (some t3) = t3.ents from rfl,E3.out];exact exL_put)
  have B4:=Lib.hid (Below.andThen B3.out (Below.andThen (below_alloc w3 _) hb4))
  clear ht4 he4 hb4 T3
  go_wp2_with fail
  obtain ⟨W5,hW5⟩:∃ W5,W5 = (w4.alloc (.cells #[.int .u64 4,.int .u64 0] 55)).alloc (.cells #[.int .u64 9,.int .u64 3] 55):=⟨_,rfl⟩
  have hb5:Below w4.heap.size w4 W5:=by rw [hW5];((repeat first | refine bD ?_ | with_reducible refine bN ?_ | refine bA ?_ | refine bS ?_);first | exact bR | assumption | exact bN bR | exact bN (bN bR))
  have hX:BoxP W5 W5.heap.size 2 (some ⟨w4.heap.size,0,none⟩) [4,0] (some ⟨w4.heap.size + 1,0,none⟩) [9,3]:=by
    refine ⟨?_,?_,by decide,by decide,rfl,rfl⟩
    · rw [hW5];exact pts_two' 4 0 (by decide) (by decide) (below_alloc _ _)
    · have:=pts_two' (w:=w4.alloc (.cells #[.int .u64 4,.int .u64 0] 55)) 9 3 (by decide) (by decide) (W:=(w4.alloc (.cells #[.int .u64 4,.int .u64 0] 55)).alloc (.cells #[.int .u64 9,.int .u64 3] 55)) (Below.refl _ _)
      rw [hW5]
      simpa using this
  have HF:=Lib.hid (wfind_c (R:=ex9L) (n:=2) (n':=2) (T4.out.below hb5 (Nat.le_refl _)).1 (Nat.le_refl _) (fun w' hb => ((HT.out.on B4.out).on hb5).on hb) hX (by rw [E4.out];decide) (by rw [E4.out];exact ex9_filter))
  rw [← hW5]
  have H5:=Lib.hid (Below.andThen B4.out hb5)
  clear hX hb5 hW5
  refine HF.out.mono ?_
  rintro e w6 ⟨A6,c6,rfl,hE6,hb6⟩
  have H6:=Lib.hid (And.intro hE6.ents hb6)
  obtain ⟨W7,hW7,hE7,hb7⟩:=ex9_row w6
  have H7:=Lib.hid (And.intro hE7 hb7)
  clear hE6 hb6 hE7 hb7 HF
  go_wp2_with (rw [← hW7];go_at_call 48;refine (rsameEnts_c (H6.out.1.below H7.out.2 (Nat.le_refl _) H7.out.2.size) H7.out.1 (by decide)).mono ?_;rintro e w8 ⟨rfl,hb8⟩)
  go_ret
  exact ⟨rfl,Below.andThen H5.out (Below.andThen H6.out.2 (Below.andThen H7.out.2 hb8))⟩
end Go.Proofs.YtkeepngaaleakaaGreatDoor
namespace Go.Proofs.YtkeepngaaleakaaGreatDoor
open Go.ChangeShapes Go.WideShapes Go.ChangeAt Go.RowKit
open Tr (T S4 Ent)
theorem filter_take_succ {α:Type} (f:α→Bool) {L:List α} {j:Nat} {x:α} (h:L[j]? = some x):(L.take (j + 1)).filter f = (L.take j).filter f ++ (if f x = true then [x] else []):=by
  rw [List.take_add_one,h,List.filter_append]
  simp only [Option.toList,List.filter_cons,List.filter_nil]
def lenN:Value→Nat
  | .int _ n => n.toNat
  | _ => 0
set_option maxRecDepth 100000 in
set_option maxHeartbeats 4000000 in
theorem r9find_c {w:World} {B k c n n':Nat} {A:Option Addr} {L:List Ent} (h:Ents w B A L) (hB:B≤w.heap.size) {lo hi:List Nat} {C C':Option Addr} (hX:BoxP w B k C lo C' hi) (hd:∀ e∈L,e.1.length = k) (hl:L.length≤1000000) (yes:Bool) {R:List Ent} (hR:L.filter (fun e => Tr.inB lo hi e == yes) = R) :
    Calls Tryz.prog 20 #[.slice A L.length c,boxV C lo.length n C' hi.length n',.bool yes] w fun e w' => ∃ A' c',e = .returned (.slice A' R.length c')∧OwnE w' B w.heap.size (.slice A' R.length c') R∧Below w.heap.size w w':=by
  obtain ⟨W,hW⟩:∃ W,W = w.alloc (.cells #[.slice C lo.length n,.slice C' hi.length n'] 25):=⟨_,rfl⟩
  have hbw:Below w.heap.size w W:=by rw [hW];exact below_alloc _ _
  have hWs:W.heap.size = w.heap.size + 1:=by rw [hW];simp
  have HC:Hid (∀ w1,Below W.heap.size W w1→w1.heap[w.heap.size]? = some (.cells #[.slice C lo.length n,.slice C' hi.length n'] 25 (0,0))):=Lib.hid fun w1 hb => (hb.block w.heap.size (by omega)).trans (by rw [hW];exact heap_at w _ _ rfl)
  have HX:=Lib.hid (And.intro h (And.intro hB (And.intro hX (And.intro hd hbw))))
  have HW:=Lib.hid (And.intro hW hWs)
  have HRR:=Lib.hid hR
  have hWs':w.heap.size≤W.heap.size:=by omega
  have HS:=Lib.hid hWs'
  clear h hB hX hd hbw hW hWs hR hWs'
  go_enter Tryz.func20,Tryz.ntmps20
  go_upto_region 1 with fail
  rw [← HW.out.1]
  go_upto_region 3 with fail
  have HO:Hid (OwnL 57 2 (EntQ w B) (W.alloc (.cells #[] 57)) W.heap.size (.slice (some ⟨W.heap.size,0,none⟩) 0 0) []):=Lib.hid (ownL_nil _ _)
  have hb1:=Lib.hid (below_alloc W (.cells #[] 57))
  go_loopw [7,8] (fun l i wr => ∃ (j:Nat) (D:Option Addr) (d:Nat) (M:List Ent),l = .slice D M.length d∧i = .int .i64 (j:Int)∧j≤L.length∧M = (L.take j).filter (fun e => Tr.inB lo hi e == yes)∧OwnL 57 2 (EntQ w B) wr W.heap.size (.slice D M.length d) M∧Below W.heap.size W wr) (fun _ i _ => L.length - lenN i)
  case atStart => exact ⟨0,_,0,[],rfl,rfl,Nat.zero_le _,by simp,HO.out,hb1.out⟩
  case round =>
    obtain ⟨j,D,d,M,rfl,rfl,hj,hM,hown,hbe⟩:=hrel
    clear HO hb1
    by_cases hlt:j < L.length
    · have dl:decide ((j:Int) < (L.length:Int)) = true:=decide_eq_true (by omega)
      obtain ⟨e,he⟩:∃ e,L[j]? = some e:=⟨_,List.getElem?_eq_getElem hlt⟩
      obtain ⟨b,off,P,dp,hA,hbB,p0,p1,hp,hpm,hv⟩:=HX.out.1.entL.at he
      subst hA
      have hek:=HX.out.2.2.2.1 e (List.mem_of_getElem? he)
      have hbwr:Below w.heap.size w wr:=HX.out.2.2.2.2.trans (hbe.mono HS.out)
      have hbB':b < w.heap.size:=Nat.lt_of_lt_of_le hbB HX.out.2.1
      have m0:∀ w2,Below wr.heap.size wr w2→w2.cell? ⟨b,off + j * 2,none⟩ = some (.slice P e.1.length dp):=fun w2 h2 => ((hbwr.trans (h2.mono hbwr.size)).cell (p:=⟨b,_,none⟩) hbB').trans p0
      have m1:∀ w2,Below wr.heap.size wr w2→w2.cell? ⟨b,off + j * 2 + 1,none⟩ = some (.int .u64 (e.2:Int)):=fun w2 h2 => ((hbwr.trans (h2.mono hbwr.size)).cell (p:=⟨b,_,none⟩) hbB').trans p1
      have m2:∀ w2,Below wr.heap.size wr w2→w2.cell? ⟨w.heap.size,0,none⟩ = some (.slice C lo.length n):=fun w2 h2 => (box_cells (HC.out w2 (hbe.trans (h2.mono hbe.size)))).1
      have m3:∀ w2,Below wr.heap.size wr w2→w2.cell? ⟨w.heap.size,1,none⟩ = some (.slice C' hi.length n'):=fun w2 h2 => (box_cells (HC.out w2 (hbe.trans (h2.mono hbe.size)))).2.1
      obtain ⟨r,hr⟩:∃ r,Tr.inB lo hi e = r:=⟨_,rfl⟩
      obtain ⟨rr,hrr⟩:∃ rr,(r == yes) = rr:=⟨_,rfl⟩
      have HIn:Hid (∀ w2,Below wr.heap.size wr w2→Calls Tryz.prog 56 #[boxV C lo.length n C' hi.length n',.slice P e.1.length dp] w2 fun e w' => e = .returned (.bool r)∧Below w2.heap.size w2 w'):=Lib.hid fun w2 h2 => by
        have hX:=HX.out.2.2.1
        have hbb:Below w.heap.size w w2:=hbwr.trans (h2.mono hbwr.size)
        exact r3in_c C C' P n n' dp lo hi e.1 B w2 r (by rw [← hr,Tr.inB,hX.el,hek]) (hX.pl.below' hbb HX.out.2.1) (hX.ph.below' hbb HX.out.2.1) (hp.below' hbb HX.out.2.1) (Nat.le_trans HX.out.2.1 hbb.size) (by rw [hX.el];exact hX.k1) (by rw [hX.el];exact hX.k16) (by rw [hX.el,hX.eh]) (by rw [hX.el,hek])
      have i1:(0:Int)≤(j:Int):=by omega
      have i2:(j:Int) < (L.length:Int):=by omega
      have hf:=filter_take_succ (fun e => Tr.inB lo hi e == yes) he
      rw [hr,hrr] at hf
      have hbb0:=Below.refl wr.heap.size wr
      have HE:=Lib.hid (And.intro hp (And.intro hpm (And.intro hv (And.intro hM (And.intro hown (And.intro hbe (And.intro hbwr hf)))))))
      clear p0 p1 hp hpm hv hr hM hown hbe hbwr hf he hek hlt hj
      go_wp2_with fail
      go_region_held3 (fun w2 => Below wr.heap.size wr w2) (((repeat first | refine bD ?_ | with_reducible refine bN ?_ | refine bA ?_ | refine bS ?_);first | exact bR | assumption | exact bN bR | exact bN (bN bR)))
        ((go_at_call 56;refine (HIn.out _ (by ((repeat first | refine bD ?_ | with_reducible refine bN ?_ | refine bA ?_ | refine bS ?_);first | exact bR | assumption | exact bN bR | exact bN (bN bR)))).mono ?_;rintro e w3 ⟨rfl,hb3⟩;have hB3:=Below.trans (show Below wr.heap.size wr _ by ((repeat first | refine bD ?_ | with_reducible refine bN ?_ | refine bA ?_ | refine bS ?_);first | exact bR | assumption | exact bN bR | exact bN (bN bR))) (hb3.mono (Below.size (show Below wr.heap.size wr _ by ((repeat first | refine bD ?_ | with_reducible refine bN ?_ | refine bA ?_ | refine bS ?_);first | exact bR | assumption | exact bN bR | exact bN (bN bR)))));clear hb3))
      clear m2 m3 HIn
      have hj1:j + 1≤1000000:=by omega
      have hjl:j < L.length:=by omega
      cases rr with
      | false =>
        clear m0 m1
        go_wp2_with fail
        go_roundw
        all_goals (first
          | exact ⟨j + 1,D,d,M,rfl,by push_cast;rfl,hjl,by rw [HE.out.2.2.2.2.2.2.2];simp [HE.out.2.2.2.1],HE.out.2.2.2.2.1.below hB3 (Nat.le_refl _),HE.out.2.2.2.2.2.1.trans (hB3.mono HE.out.2.2.2.2.2.1.size)⟩
          | (simp only [lenN];omega))
      | true =>
        have p0:=m0 w3 hB3
        have p1:=m1 w3 hB3
        have hMl:M.length≤1000000:=by
          rw [HE.out.2.2.2.1]
          have:=List.length_filter_le (fun e => Tr.inB lo hi e == yes) (L.take j)
          rw [List.length_take] at this
          omega
        have hWw:W.heap.size≤w3.heap.size:=Nat.le_trans HE.out.2.2.2.2.2.1.size hB3.size
        have HM:=Lib.hid (And.intro hMl hWw)
        clear m0 m1 hMl hWw
        go_wp2_with (at_builtin;refine wpList_append_list (Q:=EntQ w B) 30 57 (.agg #[.slice none 0 0,.int .u64 0]) 32 Tryz.underlying30 infoE2 (by rfl) (by omega) (by omega) (entQ_ok w B) (by rfl) _ _ (by rfl) W.heap.size (.slice D M.length d) M [e] (M.length + 1) (by simp) (by rfl) (by exact (HE.out.2.2.2.2.1.below hB3 (Nat.le_refl _)).below (below_alloc _ _) (Nat.le_refl _)) _ _ 1 1 (by rfl) (by rfl) (by exact lst_one HE.out.1 HE.out.2.1 HE.out.2.2.1) (by have:=HM.out.1;omega) (by have:=HM.out.2;simp;omega) ?_;intro D5 d5 w5 hown5 hgrow5 hat5;have hg5:Below W.heap.size W w5:=Below.grown ((HE.out.2.2.2.2.2.1.trans (hB3.mono HE.out.2.2.2.2.2.1.size)).trans ((below_alloc w3 _).mono HM.out.2)) hgrow5 (by have:=HM.out.2;simp;omega) (fun q hq => (HE.out.2.2.2.2.1.lt q hq).1);clear hgrow5 hat5)
        go_roundw
        all_goals (first
          | exact ⟨j + 1,D5,d5,M ++ [e],by simp,by push_cast;rfl,hjl,by rw [HE.out.2.2.2.2.2.2.2];simp [HE.out.2.2.2.1],by simpa using hown5,hg5⟩
          | (simp only [lenN];omega))
    · have dl:decide ((j:Int) < (L.length:Int)) = false:=decide_eq_false (by omega)
      have hjl:j = L.length:=by omega
      subst hjl
      rw [List.take_length,HRR.out] at hM
      subst hM
      have HE:=Lib.hid (And.intro hown hbe)
      clear hown hbe hlt hj
      go_wp2_with fail
      go_ret
      have hb:=HX.out.2.2.2.2.trans (HE.out.2.mono HS.out)
      exact ⟨D,d,rfl,(HE.out.1.mono HS.out).imp (entQ_mono fun _ hp => hb.cell (Nat.lt_of_lt_of_le hp HX.out.2.1)),hb⟩
end Go.Proofs.YtkeepngaaleakaaGreatDoor
