import Derived.Lib.SliceRun
import Derived.Test.YtkeepngaaleakaaGreatDoorM08
namespace Go.Proofs.YtkeepngaaleakaaGreatDoor.Sn
open Go.ChangeShapes Go.WideShapes Go.ChangeAt Go.RowKit
theorem gam_new {w:World} {B g p k:Nat} (b:B≤g∧B≤p∧g≠p) (hg:w.heap[g]? = some (.cells #[.pointer (some ⟨p,0,none⟩)] 199 (0,0)))
    (hp:w.heap[p]? = some (.cells #[.int .i64 (k:Int),.int .u64 0,.slice none 0 0,.slice none 0 0] 277 (0,0))):Gam w B g p k (.slice none 0 0) (.slice none 0 0) [] []:=by
  refine ⟨⟨b.1,b.2.1,b.2.2,(Array.getElem?_eq_some_iff.1 hg).1,(Array.getElem?_eq_some_iff.1 hp).1⟩,?_,?_,?_,?_,?_,?_,?_,ownV_none _ _ _,ownV_none _ _ _,⟨by simp [Value.ownBlock],by simp [Value.ownBlock],by simp [Value.ownBlock],by simp [Value.ownBlock]⟩,.inl rfl⟩
  · rw [cell_of_row w g _ _ _ (0,0) hg];rfl
  · rw [cell_of_row w p _ _ _ (0,0) hp];rfl
  · rw [cell_of_row w p _ _ _ (0,0) hp];rfl
  · rw [cell_of_row w p _ _ _ (0,0) hp];rfl
  · rw [cell_of_row w p _ _ _ (0,0) hp];rfl
  · exact frozen_of_row w p _ _ _ hp
  · exact frozen_of_row w p _ _ _ hp
theorem keys_next {L:Al} {j:Nat} {p:Nat × Option Addr} (hp:L[j]? = some p):u16V ((Sl.keys L).take j) ++ [Value.int .u16 (p.1:Int)] = u16V ((Sl.keys L).take (j + 1)):=by
  have hk:=Sl.keys_get hp
  obtain ⟨hk1,hk2⟩:=List.getElem?_eq_some_iff.1 hk
  rw [List.take_succ_eq_append_getElem hk1,hk2]
  simp [u16V]
theorem things_next {L:Al} {j:Nat} {p:Nat × Option Addr} (hp:L[j]? = some p):elV ((Sl.things L).take j) ++ [(Value.pointer (p.2))] = elV ((Sl.things L).take (j + 1)):=by
  have hk:=Sl.things_get hp
  obtain ⟨hk1,hk2⟩:=List.getElem?_eq_some_iff.1 hk
  rw [List.take_succ_eq_append_getElem hk1,hk2]
  simp [elV]
set_option maxRecDepth 100000 in
theorem sGathered_c {w:World} {B b k:Nat} {L:Al} {d:Bool} (wf:Sl.Wf k L) (h:Rp w B b k L d) (hB:B≤w.heap.size) :
    Calls Tryz.prog 260 #[.pointer (some ⟨b,0,none⟩)] w fun e w' => ∃ p,e = .returned (.pointer (some ⟨p,0,none⟩))∧Sp w' w'.heap.size p k L∧Below w.heap.size w w':=by
  have h1:=rp_k h
  have Hw:=Lib.hid (And.intro wf h)
  clear wf h
  go_enter Tryz.func260,Tryz.ntmps260
  go_wp2_with fail
  have hbw:=((Below.refl w.heap.size w).alloc (Nat.le_refl _) (.cells #[.int .i64 (k:Int),.int .u64 0,.slice none 0 0,.slice none 0 0] 277)).alloc (by simp) (.cells #[.pointer (some ⟨w.heap.size,0,none⟩)] 199)
  have hini:Gam ((w.alloc (.cells #[.int .i64 (k:Int),.int .u64 0,.slice none 0 0,.slice none 0 0] 277)).alloc (.cells #[.pointer (some ⟨w.heap.size,0,none⟩)] 199)) w.heap.size (w.heap.size + 1) w.heap.size k (.slice none 0 0) (.slice none 0 0) [] [] :=
    gam_new ⟨by omega,by omega,by omega⟩ (by (first | (refine heap_at _ _ _ ?_;simp;done) | (refine heap_past _ (heap_at _ _ _ ?_);simp;done) | (refine heap_past _ (heap_past _ (heap_at _ _ _ ?_));simp;done) | (refine heap_past _ (heap_past _ (heap_past _ (heap_at _ _ _ ?_)));simp;done))) (by (first | (refine heap_at _ _ _ ?_;simp;done) | (refine heap_past _ (heap_at _ _ _ ?_);simp;done) | (refine heap_past _ (heap_past _ (heap_at _ _ _ ?_));simp;done) | (refine heap_past _ (heap_past _ (heap_past _ (heap_at _ _ _ ?_)));simp;done)))
  generalize (w.alloc (.cells #[.int .i64 (k:Int),.int .u64 0,.slice none 0 0,.slice none 0 0] 277)).alloc (.cells #[.pointer (some ⟨w.heap.size,0,none⟩)] 199) = W at *
  have Hb:=Lib.hid hbw
  refine (sEach_c Hw.out.1 (Hw.out.2.below hbw hB (Nat.le_refl _)) 269 (w.heap.size + 1) (fun j wr => (∃ v u,Gam wr w.heap.size (w.heap.size + 1) w.heap.size k v u (u16V ((Sl.keys L).take j)) (elV ((Sl.things L).take j)))∧Below w.heap.size W wr)
    (enters_at Tryz.func269 (by kernel_rfl) rfl) ⟨⟨_,_,hini⟩,Below.refl _ _⟩ (fun j wr h => h.2.mono hB) ?_).mono ?_
  · rintro j q wr hq ⟨⟨v,u,hl⟩,hb⟩
    have hlt:=lt_get hq
    have hl16:=Hw.out.1.len16
    refine (gathered1_c (a:=q.1) q.2 hl (Hw.out.1.lt16 q (List.mem_of_getElem? hq)) (by rw [u16V_length,List.length_take];omega) (by rw [elV_length,List.length_take];omega)).mono ?_
    rintro e w2 ⟨rfl,⟨v2,u2,hl2⟩,hb2⟩
    rw [keys_next hq,things_next hq] at hl2
    exact ⟨rfl,⟨v2,u2,hl2⟩,hb.trans hb2⟩
  · rintro e w2 ⟨rfl,⟨v,u,hl2⟩,hb2⟩
    rw [List.take_of_length_le (by rw [Sl.keys_length];exact Nat.le_refl _),List.take_of_length_le (by rw [Sl.things_length];exact Nat.le_refl _)] at hl2
    obtain ⟨⟨_,_,_,_,r0⟩,r1,r2,r3,r4,r5,_,_,r6,r7,_,_⟩:=hl2
    obtain ⟨A,c,hv,k1,s1⟩:=r6.rd
    obtain ⟨C,c',hu,k2,s2⟩:=r7.rdE
    rw [u16V_length,Sl.keys_length] at hv k1
    rw [elV_length,Sl.things_length] at hu k2
    subst hv hu
    have Hfin:Hid (Sp w2 w2.heap.size w.heap.size k L∧Below w.heap.size w w2):=Lib.hid ⟨⟨r0,A,c,C,c',r2,r3,r4,r5,k1,k2,s1,s2⟩,Hb.out.trans hb2⟩
    clear r0 r2 r3 r4 r5 r6 r7 hb2 k1 k2 s1 s2 hini
    go_wp2_with fail
    go_ret
    exact ⟨w.heap.size,rfl,Hfin.out⟩
/-! ### kept -/
set_option maxRecDepth 100000 in
theorem sKept_c {w:World} {B b k:Nat} {L:Al} {d:Bool} (wf:Sl.Wf k L) (h:Rp w B b k L d) (hB:B≤w.heap.size) :
    Calls Tryz.prog 225 #[.pointer (some ⟨b,0,none⟩)] w fun e w' => ∃ p,e = .returned (.pointer (some ⟨p,0,none⟩))∧Rp w' w'.heap.size p k L (Sl.dense k L)∧Below w.heap.size w w':=by
  have h1:=rp_k h
  have k16:=wf.k16
  have hlen:=wf.len16
  have hp2:=wf.pow
  have hp0:=Nat.two_pow_pos k
  have hw:IntKind.i64.wrap (2 ^ k) = ((2 ^ k:Nat):Int):=by
    rw [show (2:Int) ^ k = ((2 ^ k:Nat):Int) by simp];exact IntWalk.i64_in _ (by omega)
  have hLn:=fun n => sLen_c (w:=w.drewN n) (d:=d) wf (by cases d;exact h;exact h)
  have hDn:=fun n => sDense_c (w:=w.drewN n) (d:=d) (L:=L) (k:=k) (B:=B) (b:=b) (by cases d;exact h;exact h)
  obtain ⟨r,hr⟩:∃ r,Sl.dense k L = r:=⟨_,rfl⟩
  have hr2:=hr
  unfold Sl.dense at hr2
  have hne:r = true→L≠[]:=fun e => by
    rw [e] at hr
    have:=(Sl.dense_k hr).2
    rintro rfl
    simp at this
  have hk6:r = true→k≤6:=fun e => (Sl.dense_k (by rw [hr,e])).1
  obtain ⟨n,hn⟩:∃ n,L.length = n:=⟨_,rfl⟩
  obtain ⟨P,hP⟩:∃ P,2 ^ k = P:=⟨_,rfl⟩
  rw [hn] at hLn hlen
  rw [hP] at hw hp2 hp0
  rw [hn,hP] at hr2
  have HLn:=Lib.hid (And.intro hLn hDn)
  have Hw:=Lib.hid (And.intro wf (And.intro h (And.intro hne hk6)))
  have Hr:=Lib.hid hr
  have hw2:IntKind.i64.wrap (2 * (n:Int)) = 2 * (n:Int):=IntWalk.i64_in _ (by omega)
  by_cases c1:k≤6
  · have e1:decide ((k:Int)≤6) = true:=decide_eq_true (by omega)
    have e1':decide (k≤6) = true:=decide_eq_true c1
    rw [e1',Bool.true_and] at hr2
    have e2:decide ((P:Int) < 2 * (n:Int)) = r:=by rw [← hr2,Bool.eq_iff_iff,decide_eq_true_eq,decide_eq_true_eq];omega
    clear hLn hDn hne hk6 hn hP wf h hr2 c1 e1' hr
    rcases r with _ | _ <;> rcases d with _ | _
    all_goals
      go_enter Tryz.func225,Tryz.ntmps225
      go_wp2_with fail
      go_quiet ((go_at_call 200;exact Calls.quiet_of_same ((HLn.out.1 _).mono fun e w' h => ⟨h.1,h.2.symm⟩)))
      go_wp2_with (first
        | (go_at_call 148;refine (HLn.out.2 _).mono ?_;rintro e w' ⟨rfl,rfl⟩)
        | (go_at_call 259;refine (sSpread_c (w:=w.drewN nq) (d:=false) Hw.out.1 Hw.out.2.1 hB (Hw.out.2.2.2 (by simp)) (Hw.out.2.2.1 (by simp))).mono ?_;rintro e w2 ⟨p,rfl,hp,hb⟩;have HP:=Lib.hid (And.intro hp hb);clear hp hb)
        | (go_at_call 260;refine (sGathered_c (w:=w.drewN nq) (d:=true) Hw.out.1 Hw.out.2.1 hB).mono ?_;rintro e w2 ⟨p,rfl,hp,hb⟩;have HP:=Lib.hid (And.intro hp hb);clear hp hb))
      go_ret
      rw [Hr.out]
      first
        | exact ⟨b,rfl,Rp.below (w:=w) (d:=false) Hw.out.2.1 (below_drewN nq (Below.refl B w)) (Nat.le_refl _) hB,below_drewN nq (Below.refl _ w)⟩
        | exact ⟨b,rfl,Rp.below (w:=w) (d:=true) Hw.out.2.1 (below_drewN nq (Below.refl B w)) (Nat.le_refl _) hB,below_drewN nq (Below.refl _ w)⟩
        | exact ⟨p,rfl,HP.out.1,Below.trans (below_drewN nq (Below.refl _ w)) HP.out.2⟩
  · have hr0:r = false:=by
      rcases r with _ | _
      · rfl
      · exact absurd (hk6 rfl) c1
    subst hr0
    have hd0:d = false:=by
      rcases d with _ | _
      · rfl
      · exact absurd h.2.1 c1
    subst hd0
    have e1:decide ((k:Int)≤6) = false:=decide_eq_false (by omega)
    clear hLn hDn hne hk6 hn hP wf h hr2 c1 hr
    go_enter Tryz.func225,Tryz.ntmps225
    go_wp2_with fail
    go_quiet ((go_at_call 200;exact Calls.quiet_of_same ((HLn.out.1 _).mono fun e w' h => ⟨h.1,h.2.symm⟩)))
    go_wp2_with (go_at_call 148;refine (HLn.out.2 _).mono ?_;rintro e w' ⟨rfl,rfl⟩)
    go_ret
    rw [Hr.out]
    exact ⟨b,rfl,Rp.below (w:=w) (d:=false) Hw.out.2.1 (below_drewN nq (Below.refl B w)) (Nat.le_refl _) hB,below_drewN nq (Below.refl _ w)⟩
set_option maxRecDepth 100000 in
theorem clone_c (xs:List (Option Addr)) (A:Option Addr) (c B:Nat) (w:World) (hB:B≤w.heap.size) (hA:RdV w B A (elV xs)) (hne:xs≠[]) (hl:xs.length≤1000000) :
    Calls Tryz.prog 224 #[.slice A xs.length c] w fun e w' => ∃ g d,e = .returned (.slice (some ⟨g,0,none⟩) xs.length d)∧OwnV 81 w' w.heap.size (.slice (some ⟨g,0,none⟩) xs.length d) (elV xs)∧Below w.heap.size w w':=by
  have Hne:Hid (elV xs≠[]):=Lib.hid (by intro h;apply hne;simpa [elV] using h)
  obtain ⟨b,off,hAA,hb,_⟩:=hA (by intro h;apply hne;simpa [elV] using h)
  subst hAA
  have Hh:=Lib.hid hA
  have Hl:=Lib.hid hl
  have Ho:=Lib.hid (ownV_nil 81 w)
  have hq:∀ (w:World) (a:Option Addr) (n c n' c':Nat),(binOp .eql 144 (.slice a n c) (.slice none n' c')).run Tryz.prog w = .ok (.bool a.isNone) w:=fun w a n c n' c' => Lib.run_eql_slice_nil w _ _ a n c n' c' Cn.und
  clear hA hl hne
  go_enter Tryz.func224,Tryz.ntmps224
  go_wp2_with (at_builtin;refine wpList_append_vals 144 81 (Value.pointer none) 8 Cn.und Cn.info rfl (by omega) rfl (.tmp 5) (.tmp 6) rfl w.heap.size _ [] (elV xs) rfl Ho.out B _ _ c (elV_length xs) rfl (Hh.out.below (below_alloc _ _) hB (Nat.le_refl _)) (elV_one xs) (by have:=Hl.out;rw [elV_length];simp;omega) (by simp) ?_;intro v2 w2 hown2 hgrow2 _)
  go_ret
  rw [List.nil_append] at hown2
  obtain ⟨g,d,hv⟩:=hown2.row Hne.out
  rw [elV_length] at hv
  subst hv
  exact ⟨g,d,rfl,hown2,((Below.refl w.heap.size w).alloc (Nat.le_refl _) _).grown hgrow2 (by simp) (fun q hq => (Ho.out.lt q hq).1)⟩
theorem sp_make (w:World) (k base base':Nat) (v1 v2:Value) (L:Al) (o1:OwnV 307 w base v1 (u16V (Sl.keys L))) (o2:OwnV 81 w base' v2 (elV (Sl.things L))) :
    Sp (w.alloc (.cells #[.int .i64 (k:Int),.int .u64 0,v1,v2] 277)) (w.heap.size + 1) w.heap.size k L:=by
  obtain ⟨A,c,hv1,l1,r1⟩:=o1.rd
  obtain ⟨C,c',hv2,l2,r2⟩:=o2.rdE
  rw [u16V_length,Sl.keys_length] at hv1 l1
  rw [elV_length,Sl.things_length] at hv2 l2
  subst hv1 hv2
  obtain ⟨h0,h1,h2,h3⟩:=cells4 w (.int .i64 (k:Int)) (.int .u64 0) (.slice A L.length c) (.slice C L.length c') 277
  have hb:=below_alloc w (.cells #[.int .i64 (k:Int),.int .u64 0,.slice A L.length c,.slice C L.length c'] 277)
  exact ⟨by omega,A,c,C,c',h0,h1,h2,h3,l1,l2,r1.below hb (Nat.le_refl _) (by omega),r2.below hb (Nat.le_refl _) (by omega)⟩
theorem keys_cut (L:Al) (i:Nat):(u16V (Sl.keys L)).take i ++ (u16V (Sl.keys L)).drop (i + 1) = u16V (Sl.keys (L.take i ++ L.drop (i + 1))):=by
  simp [u16V,Sl.keys,List.map_append,List.map_take,List.map_drop]
theorem things_cut (L:Al) (i:Nat):(elV (Sl.things L)).take i ++ (elV (Sl.things L)).drop (i + 1) = elV (Sl.things (L.take i ++ L.drop (i + 1))):=by
  simp [elV,Sl.things,List.map_append,List.map_take,List.map_drop]
set_option maxRecDepth 100000 in
set_option maxHeartbeats 2000000 in
theorem sWithoutCell_c {w:World} {B b k:Nat} {L:Al} (wf:Sl.Wf k L) (h:Sp w B b k L) (hB:B≤w.heap.size) (i:Nat) (hi:i < L.length) :
    Calls Tryz.prog 223 #[.pointer (some ⟨b,0,none⟩),.int .i64 (i:Int)] w fun e w' => ∃ g,e = .returned (.pointer (some ⟨g,0,none⟩))∧Sp w' w'.heap.size g k (L.take i ++ L.drop (i + 1))∧Below w.heap.size w w':=by
  obtain ⟨hbB,A,c,C,c',h0,h1,h2,h3,h4,h5,hA,hC⟩:=h
  have hlen:=wf.len16
  obtain ⟨A1,ea1,ra1⟩:=cut_hi 275 307 Ch.und Ch.info A L.length c i (by omega) h4
  obtain ⟨A2,ea2,ra2⟩:=cut_lo 275 307 Ch.und Ch.info A L.length c (i + 1) (by omega) h4
  obtain ⟨C1,ec1,rc1⟩:=cut_hi 144 81 Cn.und Cn.info C L.length c' i (by omega) h5
  obtain ⟨C2,ec2,rc2⟩:=cut_lo 144 81 Cn.und Cn.info C L.length c' (i + 1) (by omega) h5
  have ea2':∀ w,(Instr.sliceAt 275 (.slice A L.length c) (some (.int .i64 ((i:Int) + 1))) none none).run Tryz.prog w = .ok (.slice A2 (L.length - (i + 1)) (c - (i + 1))) w:=ea2
  have ec2':∀ w,(Instr.sliceAt 144 (.slice C L.length c') (some (.int .i64 ((i:Int) + 1))) none none).run Tryz.prog w = .ok (.slice C2 (L.length - (i + 1)) (c' - (i + 1))) w:=ec2
  have kA:=u16V_length (Sl.keys L)
  have kC:=elV_length (Sl.things L)
  rw [Sl.keys_length] at kA
  rw [Sl.things_length] at kC
  have HP:Hid (Ch.Part w B (.slice A1 i c,(u16V (Sl.keys L)).take i)∧Ch.Part w B (.slice A2 (L.length - (i + 1)) (c - (i + 1)),(u16V (Sl.keys L)).drop (i + 1))∧Cn.Part w B (.slice C1 i c',(elV (Sl.things L)).take i)∧Cn.Part w B (.slice C2 (L.length - (i + 1)) (c' - (i + 1)),(elV (Sl.things L)).drop (i + 1))):=Lib.hid
    ⟨⟨A1,c,by simp [kA];omega,ra1 w B _ kA hA,fun x hx => u16V_one _ x (List.mem_of_mem_take hx)⟩,⟨A2,c - (i + 1),by simp [kA],ra2 w B _ kA hA,fun x hx => u16V_one _ x (List.mem_of_mem_drop hx)⟩,
     ⟨C1,c',by simp [kC];omega,rc1 w B _ kC hC.rd,fun x hx => elV_one _ x (List.mem_of_mem_take hx)⟩,⟨C2,c' - (i + 1),by simp [kC],rc2 w B _ kC hC.rd,fun x hx => elV_one _ x (List.mem_of_mem_drop hx)⟩⟩
  have Hlen:Hid (((u16V (Sl.keys L)).take i).length + ((u16V (Sl.keys L)).drop (i + 1)).length≤1000000∧((elV (Sl.things L)).take i).length + ((elV (Sl.things L)).drop (i + 1)).length≤1000000):=Lib.hid ⟨by simp [kA];omega,by simp [kC];omega⟩
  have hwr:IntKind.i64.wrap ((i:Int) + 1) = (i:Int) + 1:=IntWalk.i64_in _ (by omega)
  have q0:∀ w',Below w.heap.size w w'→w'.cell? ⟨b,0,none⟩ = some (.int .i64 (k:Int)):=fun w' hb => (hb.cell (p:=⟨b,0,none⟩) (by show b < _;omega)).trans h0
  have q2:∀ w',Below w.heap.size w w'→w'.cell? ⟨b,2,none⟩ = some (.slice A L.length c):=fun w' hb => (hb.cell (p:=⟨b,2,none⟩) (by show b < _;omega)).trans h2
  have q3:∀ w',Below w.heap.size w w'→w'.cell? ⟨b,3,none⟩ = some (.slice C L.length c'):=fun w' hb => (hb.cell (p:=⟨b,3,none⟩) (by show b < _;omega)).trans h3
  have Hk:=Lib.hid (And.intro (keys_cut L i) (things_cut L i))
  obtain ⟨n1,hn1⟩:∃ n,((u16V (Sl.keys L)).take i ++ (u16V (Sl.keys L)).drop (i + 1)).length = n:=⟨_,rfl⟩
  obtain ⟨n2,hn2⟩:∃ n,((elV (Sl.things L)).take i ++ (elV (Sl.things L)).drop (i + 1)).length = n:=⟨_,rfl⟩
  have Hn:=Lib.hid (And.intro hn1 hn2)
  clear ra1 ra2 rc1 rc2 hA hC ea2 ec2 wf kA kC h0 h1 h2 h3 hn1 hn2
  go_enter Tryz.func223,Tryz.ntmps223
  go_wp2_with fail
  go_region_held (fun w' => Below w.heap.size w w') (((repeat (first | refine Below.drew ?_ | refine Below.alloc ?_ (by first | omega | (simp;done) | (simp;omega)) _ | refine Below.setCell ?_ (by first | omega | (simp;done) | (simp;omega)) _));first | exact Below.refl _ _ | assumption | exact below_drewN _ (Below.refl _ _)))
    (first
      | (go_at_call 257
         refine (Ch.concat2_c _ 2 _ _ _ _ 275 B _ (by first | omega | (simp;done) | (simp;omega)) (by (first | (refine heap_at _ _ _ ?_;simp;done) | (refine heap_past _ (heap_at _ _ _ ?_);simp;done) | (refine heap_past _ (heap_past _ (heap_at _ _ _ ?_));simp;done) | (refine heap_past _ (heap_past _ (heap_past _ (heap_at _ _ _ ?_)));simp;done))) (HP.out.1.below (by ((repeat (first | refine Below.drew ?_ | refine Below.alloc ?_ (by first | omega | (simp;done) | (simp;omega)) _ | refine Below.setCell ?_ (by first | omega | (simp;done) | (simp;omega)) _));first | exact Below.refl _ _ | assumption | exact below_drewN _ (Below.refl _ _))) hB) (HP.out.2.1.below (by ((repeat (first | refine Below.drew ?_ | refine Below.alloc ?_ (by first | omega | (simp;done) | (simp;omega)) _ | refine Below.setCell ?_ (by first | omega | (simp;done) | (simp;omega)) _));first | exact Below.refl _ _ | assumption | exact below_drewN _ (Below.refl _ _))) hB) Hlen.out.1).mono ?_
         rintro e w2 ⟨v1,rfl,hown1,hb1⟩
         obtain ⟨D1,d1,hv1,-,-⟩:=hown1.rd
         rw [Hn.out.1] at hv1
         subst hv1
         have O1:=Lib.hid hown1
         clear hown1
         have hB1:=Below.andThen (show Below w.heap.size w _ by ((repeat (first | refine Below.drew ?_ | refine Below.alloc ?_ (by first | omega | (simp;done) | (simp;omega)) _ | refine Below.setCell ?_ (by first | omega | (simp;done) | (simp;omega)) _));first | exact Below.refl _ _ | assumption | exact below_drewN _ (Below.refl _ _))) hb1
         have hs1:=hB1.size)
      | (go_at_call 258
         refine (Cn.concat2_c _ 2 _ _ _ _ 144 B _ (by first | omega | (simp;done) | (simp;omega)) (by first | (first | (refine heap_at _ _ _ ?_;simp;done) | (refine heap_past _ (heap_at _ _ _ ?_);simp;done) | (refine heap_past _ (heap_past _ (heap_at _ _ _ ?_));simp;done) | (refine heap_past _ (heap_past _ (heap_past _ (heap_at _ _ _ ?_)));simp;done)) | exact (hb1.block _ (by first | omega | (simp;done) | (simp;omega))).trans (by (first | (refine heap_at _ _ _ ?_;simp;done) | (refine heap_past _ (heap_at _ _ _ ?_);simp;done) | (refine heap_past _ (heap_past _ (heap_at _ _ _ ?_));simp;done) | (refine heap_past _ (heap_past _ (heap_past _ (heap_at _ _ _ ?_)));simp;done)))) (HP.out.2.2.1.below (by ((repeat (first | refine Below.drew ?_ | refine Below.alloc ?_ (by first | omega | (simp;done) | (simp;omega)) _ | refine Below.setCell ?_ (by first | omega | (simp;done) | (simp;omega)) _));first | exact Below.refl _ _ | assumption | exact below_drewN _ (Below.refl _ _))) hB) (HP.out.2.2.2.below (by ((repeat (first | refine Below.drew ?_ | refine Below.alloc ?_ (by first | omega | (simp;done) | (simp;omega)) _ | refine Below.setCell ?_ (by first | omega | (simp;done) | (simp;omega)) _));first | exact Below.refl _ _ | assumption | exact below_drewN _ (Below.refl _ _))) hB) Hlen.out.2).mono ?_
         rintro e w3 ⟨v2,rfl,hown2,hb2⟩
         obtain ⟨D2,d2,hv2,-,-⟩:=hown2.rd
         rw [Hn.out.2] at hv2
         subst hv2
         have O2:=Lib.hid hown2
         clear hown2
         have hB2:=Below.andThen (show Below w.heap.size w _ by ((repeat (first | refine Below.drew ?_ | refine Below.alloc ?_ (by first | omega | (simp;done) | (simp;omega)) _ | refine Below.setCell ?_ (by first | omega | (simp;done) | (simp;omega)) _));first | exact Below.refl _ _ | assumption | exact below_drewN _ (Below.refl _ _))) hb2
         have hB12:=Below.andThen (show Below w2.heap.size w2 _ by ((repeat (first | refine Below.drew ?_ | refine Below.alloc ?_ (by first | omega | (simp;done) | (simp;omega)) _ | refine Below.setCell ?_ (by first | omega | (simp;done) | (simp;omega)) _));first | exact Below.refl _ _ | assumption | exact below_drewN _ (Below.refl _ _))) hb2
         have hs2:=hB2.size))
  all_goals (
    go_wp2
    go_ret
    have o1:=O1.out.below hB12 (Nat.le_refl _)
    have o2:=O2.out
    rw [Hk.out.1] at o1
    rw [Hk.out.2] at o2
    refine ⟨_,rfl,?_,by ((repeat (first | refine Below.drew ?_ | refine Below.alloc ?_ (by first | omega | (simp;done) | (simp;omega)) _ | refine Below.setCell ?_ (by first | omega | (simp;done) | (simp;omega)) _));first | exact Below.refl _ _ | assumption | exact below_drewN _ (Below.refl _ _))⟩
    rw [World.size_alloc]
    exact sp_make w3 k _ _ _ _ _ o1 o2)
end Go.Proofs.YtkeepngaaleakaaGreatDoor.Sn
