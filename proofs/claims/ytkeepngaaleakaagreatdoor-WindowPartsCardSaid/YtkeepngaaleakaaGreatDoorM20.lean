import Derived.StillTailTactics
import Derived.Test.YtkeepngaaleakaaGreatDoorM19
namespace Go.Proofs.YtkeepngaaleakaaGreatDoor
open Go.ChangeShapes Go.WideShapes Go.ChangeAt Go.RowKit
open Tr (T S4 Ent)
theorem wpList_append_wide {w:World} {ops:Array Oper} {rest:List Oper} {o:Oper} {a:Act} {Q:Exit→Act→World→Prop} (t e:TypeId) (z:Value) (sz:Nat) (hu:Tryz.prog.underlying t = some (.slice e)) (hinfo:(Tryz.prog.info? e).map (fun i => (i.zero,i.size,i.bytes)) = some (some z,1,sz)) (hzc:z.cells.size = 1) (hsz:sz≤1000)
    (hgd:o.guard = none) (s x:Operand) (ho:o.op = .call { callee:=.builtin .append,args:=#[s,x],argTypes:=#[t,t] }) (base:Nat) (v:Value) (vs:List Value) (y:Value) (hs:a.eval s = v) (hown:OwnV e w base v vs)
    (B b:Nat) (hx:a.eval x = .slice (some ⟨b,0,none⟩) 1 1) (hp:RdV w B (some ⟨b,0,none⟩) [y]) (h1:y.oneCell' = true) (hlen:vs.length≤8000000000) (hbase:base≤w.heap.size)
    (h:∀ v' w',OwnV e w' base v' (vs ++ [y])→w.grownBy w' v.ownBlock→(v'.ownBlock = v.ownBlock∨v'.ownBlock = some w.heap.size)→wpList Tryz.prog ops Q rest (a.put o.dst v') w'):wpList Tryz.prog ops Q (o :: rest) a w:=by
  obtain ⟨i0,hi0,hz0,hz1,hz2⟩:=info_parts hinfo
  have hb:(vs.length + 1) * sz≤140737488355328:=Nat.le_trans (Nat.mul_le_mul (show vs.length + 1≤8000000001 by omega) hsz) (by omega)
  have hall:∀ u∈vs ++ [y],u.oneCell' = true:=fun u hu => by
    rcases List.mem_append.1 hu with h2 | h2
    · exact hown.1 u h2
    · rw [List.mem_singleton] at h2;rw [h2];exact h1
  have hl:(vs ++ [y]).length = vs.length + 1:=by simp
  refine wpList_append_own_at w hgd s x t ho base e i0 z 1 sz hu hi0 hz0 hz1 hz2 hzc (by decide) v vs.length vs hs hown.2 ⟨b,0,none⟩ 1 1 [y] hx (by simp) ?_ (fun u hu => by rw [List.mem_singleton] at hu;rw [hu];exact h1) (by unfold maxLen;omega) hb hbase ?_
  · intro j u hj
    obtain ⟨b',off,hA,_,hc⟩:=hp (by simp)
    cases hA
    rw [Go.WideShapes.add_plain]
    exact hc j u hj
  · intro v' w' g1 g2 _ g4
    exact h v' w' ⟨hall,by rw [hl];exact g1⟩ g2 g4
theorem infoE:(Tryz.prog.info? 30).map (fun i => (i.zero,i.size,i.bytes)) = some (some (.slice none 0 0),1,24):=by kernel_rfl
def kidV (b off c:Nat) (ks:List (Nat × T)) (m:Nat):Value:=.slice (some ⟨b,off + Tr.offK ks m * 2,none⟩) ((ks[m]?.map fun x => x.2.ents.length).getD 0) (c - Tr.offK ks m)
def kidsV (b off c:Nat) (ks:List (Nat × T)) (m:Nat):List Value:=(List.range m).map (kidV b off c ks)
theorem kidsV_succ (b off c:Nat) (ks:List (Nat × T)) (m:Nat):kidsV b off c ks (m + 1) = kidsV b off c ks m ++ [kidV b off c ks m]:=by simp [kidsV,List.range_succ]
theorem kidsV_length (b off c:Nat) (ks:List (Nat × T)) (m:Nat):(kidsV b off c ks m).length = m:=by simp [kidsV]
theorem kidsV_get (b off c:Nat) (ks:List (Nat × T)) {m i:Nat} (hi:i < m):(kidsV b off c ks m)[i]? = some (kidV b off c ks i):=by simp [kidsV,hi]
theorem kidV_at (b off c:Nat) {ks:List (Nat × T)} {m:Nat} {x:Nat × T} (h:ks[m]? = some x):kidV b off c ks m = .slice (some ⟨b,off + Tr.offK ks m * 2,none⟩) x.2.ents.length (c - Tr.offK ks m):=by simp [kidV,h]
theorem slice_lh (w:World) (b off n c i h:Nat) (h1:i < h) (h2:h≤n) (h3:n≤c) :
    (Instr.sliceAt 30 (.slice (some ⟨b,off,none⟩) n c) (some (.int .i64 (i:Int))) (some (.int .i64 (h:Int))) none).run Tryz.prog w = .ok (.slice (some ⟨b,off + i * 2,none⟩) (h - i) (c - i)) w:=by
  have ht:Tryz.prog.underlying 30 = some (.slice 57):=Tryz.underlying30
  have hel:Tryz.prog.elem 30 = 57:=by simp [Program.elem,ht]
  have hs:Tryz.prog.underlying 30 = some (.slice (Tryz.prog.elem 30)):=by rw [hel];exact ht
  have hsz:∀ w,(sizeOf 57).run Tryz.prog w = .ok 2 w:=fun w => by
    have h:(Tryz.prog.info? 57).map (·.size) = some 2:=by kernel_rfl
    obtain ⟨i0,hi0,hz⟩:=Option.map_eq_some_iff.1 h
    simp [sizeOf,typeInfo,hi0,hz]
  rw [run_sliceAt_slice w _ _ _ _ _ hs,run_slice_lh w _ _ _ _ hs .i64 .i64 (i:Int) (h:Int) (by omega) (by omega) (by omega),hel,hsz]
  simp [Result.andThen,sliced]
  rw [if_neg (by omega),Go.WideShapes.add_plain]
set_option maxRecDepth 100000 in
set_option maxHeartbeats 4000000 in
theorem rkids_c {w:World} {B b off c k g l:Nat} {pre:List Nat} {ks:List (Nat × T)} (wf:Tr.Wf k (.br g l pre ks)) (h:Ents w B (some ⟨b,off,none⟩) (Tr.entsL ks)) (hB:B≤w.heap.size) (hc:(Tr.entsL ks).length≤c) (hl:(Tr.entsL ks).length≤1000000) :
    Calls Tryz.prog 117 #[.slice (some ⟨b,off,none⟩) (Tr.entsL ks).length c] w fun e w' => ∃ A d,e = .returned (.slice A ks.length d)∧(∀ x,A = some x→w.heap.size≤x.block)∧RdV w' w'.heap.size A (kidsV b off c ks ks.length)∧Below w.heap.size w w':=by
  obtain ⟨e0,e1,i0,i1,k0,k1,o0,o1,hpart,-,hlen2⟩:=Tr.ends_part wf
  have HL:=Lib.hid (rlevel_c (c:=c) (h.below (below_alloc w (.cells #[] 30)) hB (Nat.le_refl _)) hl i0 i1 (by have:=wf.k1;omega) (by have:=wf.k16;omega) (by omega) (l:Int) hpart)
  have HX:=Lib.hid (And.intro wf (And.intro h (And.intro hB (And.intro hc (And.intro wf.k1 wf.k16)))))
  have h63:l≤63:=by cases wf with | br _ _ _ _ h63 => exact h63
  have HO:=Lib.hid (ownV_nil 30 w)
  have Hks:Hid (ks.length≤65536):=Lib.hid (by cases wf with | br _ _ _ _ _ hw => exact hw.len16)
  obtain ⟨N,hN⟩:∃ N,(Tr.entsL ks).length = N:=⟨_,rfl⟩
  have HN:=Lib.hid hN
  rw [hN] at hc hl hlen2 HL ⊢
  clear wf h hB hN i0 i1 k0 k1 o0 o1 hpart
  go_enter Tryz.func117,Tryz.ntmps117
  go_wp2_with fail
  refine HL.out.mono ?_
  rintro e w' ⟨rfl,nq,rfl⟩
  go_wp2_with fail
  go_loopw [3,5,6] (fun v fr i wr => ∃ m j:Nat,m≤ks.length∧fr = .int .i64 (Tr.offK ks m:Int)∧i = .int .i64 ((Tr.offK ks m + j:Nat):Int)∧(∀ x,ks[m]? = some x→1≤j∧j≤x.2.ents.length)∧(m = ks.length→j = 1)∧OwnV 30 wr w.heap.size v (kidsV b off c ks m)∧Below w.heap.size w wr) (fun _ _ i _ => N + 2 - (intOf i).toNat)
  case atStart => exact ⟨0,1,Nat.zero_le _,by rw [Tr.offK_zero];rfl,by rw [Tr.offK_zero];rfl,fun x hx => ⟨Nat.le_refl _,Tr.ents_pos' (HX.out.1.kid (List.mem_of_getElem? hx))⟩,fun _ => rfl,HO.out.below (below_drewN _ (Below.refl _ _)) (Nat.le_refl _),below_drewN _ (below_alloc _ _)⟩
  case round =>
    obtain ⟨m,j,hm,rfl,rfl,hj,hjl,hown,hbe⟩:=hrel
    have hsw:=hbe.size
    obtain ⟨o,ho⟩:∃ o,Tr.offK ks m = o:=⟨_,rfl⟩
    obtain ⟨I,hI⟩:∃ I,o + j = I:=⟨_,rfl⟩
    rw [ho,hI]
    by_cases hlt:m < ks.length
    · obtain ⟨x,hx⟩:=get_lt hlt
      obtain ⟨hj1,hj2⟩:=hj x hx
      have hmem:=List.mem_of_getElem? hx
      have hole:=Tr.offK_le hx
      rw [HN.out,ho] at hole
      have hpos:=Tr.ents_pos' (HX.out.1.kid hmem)
      obtain ⟨e0,he0⟩:=get_lt hpos
      have i0:=Tr.ents_at hx hpos
      rw [ho,he0,Nat.add_zero] at i0
      obtain ⟨b',off',A0,c0,hA,hb,x0,-,p0,-,-⟩:=HX.out.2.1.at i0
      simp only [Option.some.injEq,Addr.mk.injEq,and_true] at hA
      obtain ⟨rfl,rfl⟩:=hA
      have hent0:=(HX.out.1.kid hmem).entry (List.mem_of_getElem? he0)
      have a0:=Tr.kid_addr HX.out.1 hmem (List.mem_of_getElem? he0)
      have y0:wr.cell? ⟨b,off + o * 2,none⟩ = some (.slice A0 e0.1.length c0):=(hbe.cell (p:=⟨b,off + o * 2,none⟩) (Nat.lt_of_lt_of_le hb HX.out.2.2.1)).trans x0
      have HA0:Hid (∀ n,Calls Tryz.prog 123 #[.slice A0 e0.1.length c0,.int .i64 (l:Int)] (wr.drewN n) fun e w' => e = .returned (.int .i64 (x.1:Int))∧wr.drewN n = w'):=Lib.hid fun n => by
        rw [← a0];exact raddr_c A0 c0 e0.1 l B (wr.drewN n) (p0.below' (below_drewN n hbe) HX.out.2.2.1) (by rw [hent0.1];exact HX.out.2.2.2.2.1) (by rw [hent0.1];exact HX.out.2.2.2.2.2) h63
      have g1:decide (I≤N) = true:=decide_eq_true (by omega)
      have g1':decide ((I:Int)≤(N:Int)) = true:=decide_eq_true (by omega)
      have m1:(0:Int)≤(I:Int):=by omega
      have m2:(0:Int)≤(o:Int):=by omega
      have m3:(o:Int) < (N:Int):=by omega
      have hsl:∀ w,(Instr.sliceAt 30 (.slice (some ⟨b,off,none⟩) N c) (some (.int .i64 (o:Int))) (some (.int .i64 (I:Int))) none).run Tryz.prog w = .ok (.slice (some ⟨b,off + o * 2,none⟩) (I - o) (c - o)) w:=fun w => slice_lh w b off N c o I (by omega) (by omega) (by omega)
      clear hj hjl x0 p0 a0 hent0 he0 i0 hpos hm
      by_cases hje:j = x.2.ents.length
      · have hnx:=Tr.offK_succ hx
        rw [ho,← hje,hI] at hnx
        have hIo:I - o = x.2.ents.length:=by omega
        rw [hIo] at hsl
        have HS:=Lib.hid (And.intro hnx (And.intro hx ho))
        have HR:=Lib.hid (And.intro hown hbe)
        by_cases hla:m + 1 = ks.length
        · have hIN:I = N:=by
            have:=Tr.offK_all ks
            rw [← hla,hnx,HN.out] at this
            exact this
          subst hIN
          have g2:((I:Int) == (I:Int)) = true:=by simp
          have Hsl:=Lib.hid hsl
          clear hnx hx hown hbe ho hI hje hIo hole hj1 hj2 hsl
          have hsl:=Hsl.out
          go_wp2_with fail
          go_quiet (fail)
          go_wp2_with (at_builtin;refine wpList_append_wide 170 30 (.slice none 0 0) 24 Tryz.underlying170 infoE rfl (by omega) rfl (.tmp 37) (.tmp 42) rfl w.heap.size u3 (kidsV b off c ks m) _ rfl (HR.out.1.below (show Below wr.heap.size wr _ by ((repeat first | refine bD ?_ | with_reducible refine bN ?_ | refine bA ?_ | refine bS ?_);first | exact bR | assumption | exact bN bR | exact bN (bN bR))) (Nat.le_refl _)) _ _ rfl (rdV_one _ _ _) rfl (by rw [kidsV_length];have:=Hks.out;omega) (by have:=hsw;first | omega | (simp;omega)) ?_;intro v1 w1 hown1 hgrow1 _;have hb1:=Below.grown (HR.out.2.trans (Below.mono (show Below wr.heap.size wr _ by ((repeat first | refine bD ?_ | with_reducible refine bN ?_ | refine bA ?_ | refine bS ?_);first | exact bR | assumption | exact bN bR | exact bN (bN bR))) hsw)) hgrow1 (by have:=hsw;first | omega | (simp;omega)) (fun q hq => (HR.out.1.lt q hq).1))
          go_roundw
          case rel => exact ⟨m + 1,1,by omega,by rw [HS.out.1],by rw [HS.out.1];go_num,fun y hy => ⟨Nat.le_refl _,Tr.ents_pos' (HX.out.1.kid (List.mem_of_getElem? hy))⟩,fun _ => rfl,by rw [kidsV_succ,kidV_at b off c HS.out.2.1,HS.out.2.2];exact hown1,hb1⟩
          case measure => first | (simp [intOf];done) | (simp [intOf];omega)
        · have hlt2:m + 1 < ks.length:=by omega
          obtain ⟨y,hy⟩:=get_lt hlt2
          have hmy:=List.mem_of_getElem? hy
          have hpos:=Tr.ents_pos' (HX.out.1.kid hmy)
          obtain ⟨e1,he1⟩:=get_lt hpos
          have i1:=Tr.ents_at hy hpos
          rw [hnx,he1,Nat.add_zero] at i1
          have hIlt:I < N:=by have:=lt_get i1;rw [HN.out] at this;exact this
          obtain ⟨b',off',A1,c1,hA,-,x1,-,p1,-,-⟩:=HX.out.2.1.at i1
          simp only [Option.some.injEq,Addr.mk.injEq,and_true] at hA
          obtain ⟨rfl,rfl⟩:=hA
          have hent1:=(HX.out.1.kid hmy).entry (List.mem_of_getElem? he1)
          have a1:=Tr.kid_addr HX.out.1 hmy (List.mem_of_getElem? he1)
          have y1:wr.cell? ⟨b,off + I * 2,none⟩ = some (.slice A1 e1.1.length c1):=(HR.out.2.cell (p:=⟨b,off + I * 2,none⟩) (Nat.lt_of_lt_of_le hb HX.out.2.2.1)).trans x1
          have HA1:Hid (∀ n,Calls Tryz.prog 123 #[.slice A1 e1.1.length c1,.int .i64 (l:Int)] (wr.drewN n) fun e w' => e = .returned (.int .i64 (y.1:Int))∧wr.drewN n = w'):=Lib.hid fun n => by
            rw [← a1];exact raddr_c A1 c1 e1.1 l B (wr.drewN n) (p1.below' (below_drewN n HR.out.2) HX.out.2.2.1) (by rw [hent1.1];exact HX.out.2.2.2.2.1) (by rw [hent1.1];exact HX.out.2.2.2.2.2) h63
          have hne:x.1 < y.1:=by
            have hsrt:Sl.Srt ks:=by cases HX.out.1 with | br _ _ _ _ _ hw => exact hw.srt
            exact Sl.srt_get hsrt hx hy (by omega)
          have g2:((I:Int) == (N:Int)) = false:=by rw [beq_eq_false_iff_ne];omega
          have g3:((y.1:Int) != (x.1:Int)) = true:=by rw [bne_iff_ne];omega
          have m4:(I:Int) < (N:Int):=by omega
          have Hsl:=Lib.hid hsl
          clear hnx hx hown hbe ho hI hje hIo hole hj1 hj2 hsl hy hmy hpos he1 i1 x1 p1 hent1 a1 hne
          have hsl:=Hsl.out
          go_wp2_with fail
          go_quiet ((first
            | (go_at_call 123;with_reducible (exact Calls.quiet_of_same ((HA1.out _).mono fun e w' h => ⟨h.1,h.2.symm⟩)))
            | (go_at_call 123;with_reducible (exact Calls.quiet_of_same ((HA0.out _).mono fun e w' h => ⟨h.1,h.2.symm⟩)))))
          go_wp2_with (at_builtin;refine wpList_append_wide 170 30 (.slice none 0 0) 24 Tryz.underlying170 infoE rfl (by omega) rfl (.tmp 37) (.tmp 42) rfl w.heap.size u3 (kidsV b off c ks m) _ rfl (HR.out.1.below (show Below wr.heap.size wr _ by ((repeat first | refine bD ?_ | with_reducible refine bN ?_ | refine bA ?_ | refine bS ?_);first | exact bR | assumption | exact bN bR | exact bN (bN bR))) (Nat.le_refl _)) _ _ rfl (rdV_one _ _ _) rfl (by rw [kidsV_length];have:=Hks.out;omega) (by have:=hsw;first | omega | (simp;omega)) ?_;intro v1 w1 hown1 hgrow1 _;have hb1:=Below.grown (HR.out.2.trans (Below.mono (show Below wr.heap.size wr _ by ((repeat first | refine bD ?_ | with_reducible refine bN ?_ | refine bA ?_ | refine bS ?_);first | exact bR | assumption | exact bN bR | exact bN (bN bR))) hsw)) hgrow1 (by have:=hsw;first | omega | (simp;omega)) (fun q hq => (HR.out.1.lt q hq).1))
          go_roundw
          case rel => exact ⟨m + 1,1,by omega,by rw [HS.out.1],by rw [HS.out.1];go_num,fun y hy => ⟨Nat.le_refl _,Tr.ents_pos' (HX.out.1.kid (List.mem_of_getElem? hy))⟩,fun _ => rfl,by rw [kidsV_succ,kidV_at b off c HS.out.2.1,HS.out.2.2];exact hown1,hb1⟩
          case measure => first | (simp [intOf];done) | (simp [intOf];omega)
      · have hjlt:j < x.2.ents.length:=by omega
        obtain ⟨e1,he1⟩:=get_lt hjlt
        have i1:=Tr.ents_at hx hjlt
        rw [ho,hI,he1] at i1
        have hIlt:I < N:=by have:=lt_get i1;rw [HN.out] at this;exact this
        obtain ⟨b',off',A1,c1,hA,-,x1,-,p1,-,-⟩:=HX.out.2.1.at i1
        simp only [Option.some.injEq,Addr.mk.injEq,and_true] at hA
        obtain ⟨rfl,rfl⟩:=hA
        have hent1:=(HX.out.1.kid hmem).entry (List.mem_of_getElem? he1)
        have a1:=Tr.kid_addr HX.out.1 hmem (List.mem_of_getElem? he1)
        have y1:wr.cell? ⟨b,off + I * 2,none⟩ = some (.slice A1 e1.1.length c1):=(hbe.cell (p:=⟨b,off + I * 2,none⟩) (Nat.lt_of_lt_of_le hb HX.out.2.2.1)).trans x1
        have HA1:Hid (∀ n,Calls Tryz.prog 123 #[.slice A1 e1.1.length c1,.int .i64 (l:Int)] (wr.drewN n) fun e w' => e = .returned (.int .i64 (x.1:Int))∧wr.drewN n = w'):=Lib.hid fun n => by
          rw [← a1];exact raddr_c A1 c1 e1.1 l B (wr.drewN n) (p1.below' (below_drewN n hbe) HX.out.2.2.1) (by rw [hent1.1];exact HX.out.2.2.2.2.1) (by rw [hent1.1];exact HX.out.2.2.2.2.2) h63
        have g2:((I:Int) == (N:Int)) = false:=by rw [beq_eq_false_iff_ne];omega
        have g3:((x.1:Int) != (x.1:Int)) = false:=by simp
        have m4:(I:Int) < (N:Int):=by omega
        have HR:=Lib.hid (And.intro hown (And.intro hbe (And.intro ho (And.intro hI (And.intro hx (And.intro hj1 hjlt))))))
        clear hx hown hbe ho hI hje hole hj1 hj2 hsl he1 i1 x1 p1 hent1 a1 hjlt
        go_wp2_with fail
        go_quiet ((first
          | (go_at_call 123;with_reducible (exact Calls.quiet_of_same ((HA1.out _).mono fun e w' h => ⟨h.1,h.2.symm⟩)))
          | (go_at_call 123;with_reducible (exact Calls.quiet_of_same ((HA0.out _).mono fun e w' h => ⟨h.1,h.2.symm⟩)))))
        go_wp2_with fail
        go_roundw
        case rel => exact ⟨m,j + 1,by omega,by rw [HR.out.2.2.1],by rw [HR.out.2.2.1,show o + (j + 1) = I + 1 by have:=HR.out.2.2.2.1;omega];go_num,fun z hz => by rw [HR.out.2.2.2.2.1] at hz;cases hz;have:=HR.out.2.2.2.2.2;omega,fun hh => by omega,HR.out.1.below (below_drewN _ (Below.refl _ _)) (Nat.le_refl _),below_drewN _ HR.out.2.1⟩
        case measure => first | (simp [intOf];done) | (simp [intOf];omega)
    · have hme:m = ks.length:=by omega
      subst hme
      have hj1:=hjl rfl
      subst hj1
      have hoN:o = N:=by rw [← ho,Tr.offK_all,HN.out]
      subst hoN
      obtain ⟨Av,dv,hv,-,hrd⟩:=hown.rd
      rw [kidsV_length] at hv
      subst hv
      have hlo:∀ x,Av = some x→w.heap.size≤x.block:=fun x hx => (hown.lt x.block (by subst hx;rfl)).1
      have HR:=Lib.hid (And.intro hrd (And.intro hbe hlo))
      clear hlo
      have g1:decide (I≤o) = false:=decide_eq_false (by omega)
      have g1':decide ((I:Int)≤(o:Int)) = false:=decide_eq_false (by omega)
      clear hown hrd hbe hj hjl ho hI
      go_wp2_with fail
      go_ret
      exact ⟨Av,dv,rfl,HR.out.2.2,HR.out.1,HR.out.2.1⟩
set_option maxRecDepth 100000 in
set_option maxHeartbeats 1000000 in
theorem rshape_one_in {w:World} {B:Nat} {A:Option Addr} {c:Nat} {p:List Nat} {v:Nat} (h:Ents w B A [(p,v)]) (hB:B≤w.heap.size) :
    Calls Tryz.prog 116 #[.slice A 1 c] w fun e w' => (∃ A1 c1,e = .returned (shapeV (-1) A1 p.length c1 none 0 0 false v)∧Pts w' w'.heap.size A1 p∧(p≠[]→∀ x,A1 = some x→x.block < B))∧Below w.heap.size w w':=by
  obtain ⟨b,off,A1,c1,hA,hb,x0,x1,hp,-,-⟩:=h.at (i:=0) (e:=(p,v)) rfl
  subst hA
  rw [Nat.zero_mul,Nat.add_zero] at x0 x1
  have hbw:b < w.heap.size:=by omega
  have hbel:=below_alloc w (.cells #[.int .i64 0,.slice none 0 0,.slice none 0 0,.bool false,.int .u64 0] 138)
  have HQ:=Lib.hid (q5_at (heap_at w (.cells #[.int .i64 0,.slice none 0 0,.slice none 0 0,.bool false,.int .u64 0] 138) _ rfl))
  have hsz:(w.alloc (.cells #[.int .i64 0,.slice none 0 0,.slice none 0 0,.bool false,.int .u64 0] 138)).heap.size = w.heap.size + 1:=by simp
  have HP:=Lib.hid (And.intro hp (And.intro hbel hsz))
  clear h hp hsz
  go_enter Tryz.func116,Tryz.ntmps116
  go_wp2_with fail
  have y0:(w.alloc (.cells #[.int .i64 0,.slice none 0 0,.slice none 0 0,.bool false,.int .u64 0] 138)).cell? ⟨b,off,none⟩ = some (.slice A1 p.length c1):=(hbel.cell (p:=⟨b,off,none⟩) hbw).trans x0
  have y1:(w.alloc (.cells #[.int .i64 0,.slice none 0 0,.slice none 0 0,.bool false,.int .u64 0] 138)).cell? ⟨b,off + 1,none⟩ = some (.int .u64 (v:Int)):=(hbel.cell (p:=⟨b,off + 1,none⟩) hbw).trans x1
  clear x0 x1 hbel
  obtain ⟨⟨k0,k1,k2,k3,k4⟩,⟨f0,f1,f2,f3,f4⟩⟩:=HQ.out
  generalize w.alloc _ = W at *
  go_region
  all_goals go_wp2_with fail
  all_goals (
    obtain ⟨⟨z0,z1,z2,z3,z4⟩,-⟩:=(HQ.out.set (.int .i64 (-1)) (.slice A1 p.length c1) (.slice none 0 0) (.bool false) (.int .u64 (v:Int))).drew
    refine bodyPost_ret (v:=shapeV (-1) A1 p.length c1 none 0 0 false v) (by simp [results,Tryz.results116,go_sem,z0,z1,z2,z3,z4]) rfl ?_
    have hb:=HP.out.2.1
    have hs:=HP.out.2.2
    refine ⟨⟨_,_,rfl,?_,fun hne x hx => ?_⟩,by ((repeat first | refine bD ?_ | with_reducible refine bN ?_ | refine bA ?_ | refine bS ?_);first | exact bR | assumption | exact bN bR | exact bN (bN bR))⟩
    · exact (HP.out.1.below' (show Below w.heap.size w _ by ((repeat first | refine bD ?_ | with_reducible refine bN ?_ | refine bA ?_ | refine bS ?_);first | exact bR | assumption | exact bN bR | exact bN (bN bR))) hB).keep (by simp;omega) (fun _ _ => rfl)
    · obtain ⟨b1,o1,h1,h2,-⟩:=HP.out.1.2 hne
      rw [h1] at hx
      cases hx
      exact h2)
theorem rshape_one {w:World} {B:Nat} {A:Option Addr} {c:Nat} {p:List Nat} {v:Nat} (h:Ents w B A [(p,v)]) (hB:B≤w.heap.size) :
    Calls Tryz.prog 116 #[.slice A 1 c] w fun e w' => ShapeAt w' e (-1) p [] false v∧Below w.heap.size w w' :=
  (rshape_one_in h hB).mono fun _ _ ⟨⟨A1,c1,h1,h2,_⟩,h3⟩ => ⟨⟨A1,c1,none,0,h1,h2,RdV.nil _ _ _⟩,h3⟩
theorem Q5.other {w:World} {b:Nat} {x0 x1 x2 x3 x4:Value} (h:Q5 w b x0 x1 x2 x3 x4) (a:Addr) (v:Value) (ha:a.block≠b):Q5 (w.setCell a v) b x0 x1 x2 x3 x4:=by
  have e:∀ i,(w.setCell a v).cell? ⟨b,i,none⟩ = w.cell? ⟨b,i,none⟩:=fun i => World.cell?_setCell_other _ _ _ _ (by rintro rfl;exact ha rfl)
  have f:∀ i,(w.setCell a v).frozen? ⟨b,i,none⟩ = w.frozen? ⟨b,i,none⟩:=fun i => World.frozen?_setCell _ _ _ _
  exact ⟨⟨(e 0).trans h.1.1,(e 1).trans h.1.2.1,(e 2).trans h.1.2.2.1,(e 3).trans h.1.2.2.2.1,(e 4).trans h.1.2.2.2.2⟩,⟨(f 0).trans h.2.1,(f 1).trans h.2.2.1,(f 2).trans h.2.2.2.1,(f 3).trans h.2.2.2.2.1,(f 4).trans h.2.2.2.2.2⟩⟩
def Lay6 (w wx:World) (g3 l n:Nat) (pre:List Nat) (V:Value) (ps:List Value):Prop :=
  w.heap.size < g3∧g3 < wx.heap.size∧(∃ A1 c1,Q5 wx g3 (.int .i64 (l:Int)) (.slice A1 pre.length c1) V (.bool false) (.int .u64 0)∧Pts wx wx.heap.size A1 pre∧(∀ x,A1 = some x→x.block≠g3∧w.heap.size < x.block∧∀ q,V.ownBlock = some q→x.block≠q)) ∧
    ps.length = n∧OwnV 3 wx (w.heap.size + 1) V ps∧(∀ q,V.ownBlock = some q→q≠g3)∧Q5 wx w.heap.size (.int .i64 0) (.slice none 0 0) (.slice none 0 0) (.bool false) (.int .u64 0)∧Below w.heap.size w wx
theorem lay6_set {w w2:World} {g3 l base:Nat} {pre:List Nat} {A1:Option Addr} {c1:Nat} (hg:w.heap.size < g3) (hg2:g3 < w2.heap.size) (h3:Q5 w2 g3 (.int .i64 0) (.slice none 0 0) (.slice none 0 0) (.bool false) (.int .u64 0)) (hp:Pts w2 w2.heap.size A1 pre)
    (ho:Own w2 base (.slice A1 pre.length c1) pre) (hb:g3 < base) (h0:Q5 w2 w.heap.size (.int .i64 0) (.slice none 0 0) (.slice none 0 0) (.bool false) (.int .u64 0)) (hbe:Below w.heap.size w w2) :
    Lay6 w (((((w2.setCell ⟨g3,0,none⟩ (.int .i64 (l:Int))).setCell ⟨g3,1,none⟩ (.slice A1 pre.length c1)).setCell ⟨g3,2,none⟩ (.slice none 0 0)).setCell ⟨g3,3,none⟩ (.bool false)).setCell ⟨g3,4,none⟩ (.int .u64 0)) g3 l 0 pre (.slice none 0 0) []:=by
  have hA:∀ x,A1 = some x→x.block≠g3:=fun x hx => by subst hx;have:=(ho.2.lt x.block rfl).1;omega
  have hA2:∀ x,A1 = some x→w.heap.size < x.block:=fun x hx => by subst hx;have:=(ho.2.lt x.block rfl).1;omega
  have hno:∀ q,(Value.slice none 0 0).ownBlock = some q→False:=fun q hq => by simp [Value.ownBlock] at hq
  have hne:g3≠w.heap.size:=by omega
  have p5:=(pts_set (pts_set (pts_set (pts_set (pts_set (a:=⟨g3,0,none⟩) hp hA (.int .i64 (l:Int))) (a:=⟨g3,1,none⟩) hA (.slice A1 pre.length c1)) (a:=⟨g3,2,none⟩) hA (.slice none 0 0)) (a:=⟨g3,3,none⟩) hA (.bool false)) (a:=⟨g3,4,none⟩) hA (.int .u64 0))
  have q5:=((((h0.other ⟨g3,0,none⟩ (.int .i64 (l:Int)) hne).other ⟨g3,1,none⟩ (.slice A1 pre.length c1) hne).other ⟨g3,2,none⟩ (.slice none 0 0) hne).other ⟨g3,3,none⟩ (.bool false) hne).other ⟨g3,4,none⟩ (.int .u64 0) hne
  have s5:=h3.set (.int .i64 (l:Int)) (.slice A1 pre.length c1) (.slice none 0 0) (.bool false) (.int .u64 0)
  have b5:Below w.heap.size w (((((w2.setCell ⟨g3,0,none⟩ (.int .i64 (l:Int))).setCell ⟨g3,1,none⟩ (.slice A1 pre.length c1)).setCell ⟨g3,2,none⟩ (.slice none 0 0)).setCell ⟨g3,3,none⟩ (.bool false)).setCell ⟨g3,4,none⟩ (.int .u64 0)):=((((hbe.setCell (p:=⟨g3,0,none⟩) (Nat.le_of_lt hg) _).setCell (p:=⟨g3,1,none⟩) (Nat.le_of_lt hg) _).setCell (p:=⟨g3,2,none⟩) (Nat.le_of_lt hg) _).setCell (p:=⟨g3,3,none⟩) (Nat.le_of_lt hg) _).setCell (p:=⟨g3,4,none⟩) (Nat.le_of_lt hg) _
  have hsz:(((((w2.setCell ⟨g3,0,none⟩ (.int .i64 (l:Int))).setCell ⟨g3,1,none⟩ (.slice A1 pre.length c1)).setCell ⟨g3,2,none⟩ (.slice none 0 0)).setCell ⟨g3,3,none⟩ (.bool false)).setCell ⟨g3,4,none⟩ (.int .u64 0)).heap.size = w2.heap.size:=by simp
  generalize ((((w2.setCell ⟨g3,0,none⟩ (.int .i64 (l:Int))).setCell ⟨g3,1,none⟩ (.slice A1 pre.length c1)).setCell ⟨g3,2,none⟩ (.slice none 0 0)).setCell ⟨g3,3,none⟩ (.bool false)).setCell ⟨g3,4,none⟩ (.int .u64 0) = W at *
  exact ⟨hg,by omega,⟨A1,c1,s5,p5.keep (by omega) (fun _ _ => rfl),fun x hx => ⟨hA x hx,hA2 x hx,fun q hq => (hno q hq).elim⟩⟩,rfl,ownV_none _ _ _,fun q hq => (hno q hq).elim,q5,b5⟩
theorem lay6_new {w w2:World} {l base t:Nat} {pre:List Nat} {A1:Option Addr} {c1:Nat} (hg:w.heap.size < w2.heap.size) (hp:Pts w2 w2.heap.size A1 pre)
    (ho:Own w2 base (.slice A1 pre.length c1) pre) (hb:w.heap.size < base) (h0:Q5 w2 w.heap.size (.int .i64 0) (.slice none 0 0) (.slice none 0 0) (.bool false) (.int .u64 0)) (hbe:Below w.heap.size w w2) :
    Lay6 w (w2.alloc (.cells #[.int .i64 (l:Int),.slice A1 pre.length c1,.slice none 0 0,.bool false,.int .u64 0] t)) w2.heap.size l 0 pre (.slice none 0 0) []:=by
  have hA:∀ x,A1 = some x→w.heap.size < x.block∧x.block < w2.heap.size:=fun x hx => by subst hx;have:=(ho.2.lt x.block rfl);omega
  have hal:=below_alloc w2 (.cells #[.int .i64 (l:Int),.slice A1 pre.length c1,.slice none 0 0,.bool false,.int .u64 0] t)
  exact ⟨hg,by simp,⟨A1,c1,q5_at (heap_at w2 _ _ rfl),(hp.below' hal (Nat.le_refl _)).keep hal.size (fun _ _ => rfl),fun x hx => ⟨by have:=hA x hx;omega,(hA x hx).1,fun q hq => by simp [Value.ownBlock] at hq⟩⟩,rfl,ownV_none _ _ _,fun q hq => by simp [Value.ownBlock] at hq,h0.below hal hg,hbe.trans (hal.mono (by omega))⟩
theorem Q5.grown {w w1:World} {b:Nat} {row:Option Nat} {x0 x1 x2 x3 x4:Value} (h:Q5 w b x0 x1 x2 x3 x4) (hg:w.grownBy w1 row) (hb:b < w.heap.size) (hne:row≠some b):Q5 w1 b x0 x1 x2 x3 x4:=by
  have hk:w1.heap[b]? = w.heap[b]?:=hg.block b hb (fun e => hne e.symm)
  have e:∀ i,w1.cell? ⟨b,i,none⟩ = w.cell? ⟨b,i,none⟩:=fun i => World.cell?_of_block (w:=w) (a:=⟨b,i,none⟩) hk
  have f:∀ i,w1.frozen? ⟨b,i,none⟩ = w.frozen? ⟨b,i,none⟩:=fun i => World.frozen?_of_block (w:=w) (a:=⟨b,i,none⟩) hk
  exact ⟨⟨(e 0).trans h.1.1,(e 1).trans h.1.2.1,(e 2).trans h.1.2.2.1,(e 3).trans h.1.2.2.2.1,(e 4).trans h.1.2.2.2.2⟩,⟨(f 0).trans h.2.1,(f 1).trans h.2.2.1,(f 2).trans h.2.2.2.1,(f 3).trans h.2.2.2.2.1,(f 4).trans h.2.2.2.2.2⟩⟩
theorem pts_grown {w w1:World} {B:Nat} {A:Option Addr} {us:List Nat} {row:Option Nat} (h:Pts w B A us) (hg:w.grownBy w1 row) (hB:B≤w.heap.size) (hne:∀ x,A = some x→row≠some x.block):Pts w1 B A us:=by
  refine ⟨h.1,fun hn => ?_⟩
  obtain ⟨b,off,hA,hb,hc⟩:=h.2 hn
  exact ⟨b,off,hA,hb,fun i u hi => (World.cell?_of_block (w:=w) (a:=⟨b,off + i,none⟩) (hg.block b (by omega) (Ne.symm (hne _ hA)))).trans (hc i u hi)⟩
theorem rdV_grown {w w1:World} {B:Nat} {A:Option Addr} {xs:List Value} {row:Option Nat} (h:RdV w B A xs) (hg:w.grownBy w1 row) (hB:B≤w.heap.size) (hne:∀ x,A = some x→row≠some x.block):RdV w1 B A xs:=by
  intro hn
  obtain ⟨b,off,hA,hb,hc⟩:=h hn
  exact ⟨b,off,hA,hb,fun i u hi => (World.cell?_of_block (w:=w) (a:=⟨b,off + i,none⟩) (hg.block b (by omega) (Ne.symm (hne _ hA)))).trans (hc i u hi)⟩
theorem Lay6.below {w wx w':World} {g3 l n:Nat} {pre:List Nat} {V:Value} {ps:List Value} (h:Lay6 w wx g3 l n pre V ps) (hb:Below wx.heap.size wx w'):Lay6 w w' g3 l n pre V ps:=by
  obtain ⟨h1,h2,⟨A1,c1,h3,h4,h5⟩,h6,h7,h8,h9,h10⟩:=h
  exact ⟨h1,Nat.lt_of_lt_of_le h2 hb.size,⟨A1,c1,h3.below hb h2,(h4.below' hb (Nat.le_refl _)).keep hb.size (fun _ _ => rfl),h5⟩,h6,h7.below hb (Nat.le_refl _),h8,h9.below hb (by omega),h10.trans (hb.mono h10.size)⟩
theorem lay6_step {w wr w1:World} {g3 l n:Nat} {pre:List Nat} {V V1 y:Value} {ps:List Value} (h:Lay6 w wr g3 l n pre V ps) (hpre:pre≠[]) (o:Obj) (hown:OwnV 3 w1 (w.heap.size + 1) V1 (ps ++ [y])) (hg:(wr.alloc o).grownBy w1 V.ownBlock) (hat:V1.ownBlock = V.ownBlock∨V1.ownBlock = some (wr.alloc o).heap.size) :
    (∃ A1 c1,Q5 w1 g3 (.int .i64 (l:Int)) (.slice A1 pre.length c1) V (.bool false) (.int .u64 0))∧Lay6 w (w1.setCell ⟨g3,2,none⟩ V1) g3 l (n + 1) pre V1 (ps ++ [y]):=by
  have hal:=below_alloc wr o
  have hsz:(wr.alloc o).heap.size = wr.heap.size + 1:=by simp
  obtain ⟨h1,h2,⟨A1,c1,h3,h4,h5⟩,h6,h7,h8,h9,h10⟩:=h
  have r3:V.ownBlock≠some g3:=fun e => h8 g3 e rfl
  have r0:V.ownBlock≠some w.heap.size:=fun e => by have:=(h7.lt _ e).1;omega
  have q3:=(h3.below hal h2).grown hg (by omega) r3
  have q0:=(h9.below hal (by omega)).grown hg (by omega) r0
  have rA:∀ x,A1 = some x→V.ownBlock≠some x.block:=fun x hx e => (h5 x hx).2.2 _ e rfl
  have p1:=pts_grown (h4.below' hal (Nat.le_refl _)) hg (by omega) rA
  have v3:∀ q,V1.ownBlock = some q→q≠g3:=fun q hq => by
    rcases hat with e | e
    · rw [e] at hq;exact h8 q hq
    · rw [e] at hq;simp only [Option.some.injEq] at hq;omega
  obtain ⟨b,off,hA1,hbB,_⟩:=h4.2 hpre
  have vA:∀ x,A1 = some x→∀ q,V1.ownBlock = some q→x.block≠q:=fun x hx q hq => by
    rcases hat with e | e
    · rw [e] at hq;exact (h5 x hx).2.2 q hq
    · rw [e] at hq;simp only [Option.some.injEq] at hq
      rw [hA1] at hx
      cases hx
      show b≠q
      omega
  have hA3:∀ x,A1 = some x→x.block≠(⟨g3,2,none⟩:Addr).block:=fun x hx => (h5 x hx).1
  have hb1:Below w.heap.size w w1:=(h10.trans (hal.mono h10.size)).grown hg (by have:=h10.size;omega) (fun q hq => by have:=(h7.lt q hq).1;omega)
  have hs1:wr.heap.size + 1≤w1.heap.size:=by rw [← hsz];exact hg.size
  refine ⟨⟨A1,c1,q3⟩,h1,by simp;omega,⟨A1,c1,?_,(pts_set p1 hA3 _).keep (by simp;omega) (fun _ _ => rfl),fun x hx => ⟨(h5 x hx).1,(h5 x hx).2.1,vA x hx⟩⟩,by simp [h6],ownV_store hown (fun e => v3 _ e rfl) _,v3,q0.other _ _ (by show g3≠_;omega),hb1.setCell (p:=⟨g3,2,none⟩) (Nat.le_of_lt h1) _⟩
  obtain ⟨⟨a0,a1,a2,a3,a4⟩,f⟩:=q3
  have e:∀ j,2≠j→(w1.setCell ⟨g3,2,none⟩ V1).cell? ⟨g3,j,none⟩ = w1.cell? ⟨g3,j,none⟩:=fun j hj => World.cell?_setCell_other _ _ _ _ (by first | (simp;done) | (simp;omega))
  exact ⟨⟨(e 0 (by omega)).trans a0,(e 1 (by omega)).trans a1,World.cell?_setCell_same _ _ _ a2,(e 3 (by omega)).trans a3,(e 4 (by omega)).trans a4⟩,⟨(World.frozen?_setCell _ _ _ _).trans f.1,(World.frozen?_setCell _ _ _ _).trans f.2.1,(World.frozen?_setCell _ _ _ _).trans f.2.2.1,(World.frozen?_setCell _ _ _ _).trans f.2.2.2.1,(World.frozen?_setCell _ _ _ _).trans f.2.2.2.2⟩⟩
theorem kids_grown {wr w1:World} {o:Obj} {row:Option Nat} {B:Nat} {A:Option Addr} {xs:List Value} {V:Value} (h:RdV wr B A xs) (hB:B≤wr.heap.size) (hg:(wr.alloc o).grownBy w1 row) (hne:∀ x,A = some x→∀ q,row = some q→x.block≠q)
    (hat:V.ownBlock = row∨V.ownBlock = some (wr.alloc o).heap.size) (hlt:∀ x,A = some x→x.block < B):RdV w1 B A xs∧B≤w1.heap.size∧∀ x,A = some x→∀ q,V.ownBlock = some q→x.block≠q:=by
  have hs:(wr.alloc o).heap.size = wr.heap.size + 1:=by simp
  have hg1:=hg.size
  refine ⟨rdV_grown (h.below (below_alloc wr o) hB (Nat.le_refl _)) hg (by omega) (fun x hx e => hne x hx _ e rfl),by omega,fun x hx q hq => ?_⟩
  rcases hat with e | e
  · exact hne x hx q (by rw [← e];exact hq)
  · rw [e] at hq
    have:=hlt x hx
    simp only [Option.some.injEq] at hq
    omega
set_option maxRecDepth 100000 in
set_option maxHeartbeats 4000000 in
theorem rshape_br_new {w:World} {B b off c k g l:Nat} {pre:List Nat} {ks:List (Nat × T)} (wf:Tr.Wf k (.br g l pre ks)) (h:Ents w B (some ⟨b,off,none⟩) (Tr.entsL ks)) (hB:B≤w.heap.size) (hc:(Tr.entsL ks).length≤c) (hl:(Tr.entsL ks).length≤1000000) :
    Calls Tryz.prog 116 #[.slice (some ⟨b,off,none⟩) (Tr.entsL ks).length c] w fun e w' => ShapeNew w.heap.size w' e (l:Int) pre (Sl.keys (kidL ks)) (denseT k (.br g l pre ks)) 0∧Below w.heap.size w w':=by
  obtain ⟨e0,e1,i0,i1,k0,k1,o0,o1,hpart,hcut,hlen2⟩:=Tr.ends_part wf
  have h63:l≤63:=by cases wf with | br _ _ _ _ h63 => exact h63
  obtain ⟨b',off',A0,c0,hA,hb,x0,-,p0,-,-⟩:=h.at i0
  simp only [Option.some.injEq,Addr.mk.injEq,and_true] at hA
  obtain ⟨rfl,rfl⟩:=hA
  rw [Nat.zero_mul,Nat.add_zero] at x0
  have hbw:b < w.heap.size:=by omega
  have HL:Hid (∀ w1,Below w.heap.size w w1→Calls Tryz.prog 169 #[.slice (some ⟨b,off,none⟩) (Tr.entsL ks).length c] w1 fun e w' => e = .returned (.int .i64 (l:Int))∧∃ n,w' = w1.drewN n):=Lib.hid fun w1 hb1 =>
    rlevel_c (h.below hb1 hB (Nat.le_refl _)) hl i0 i1 (by have:=wf.k1;omega) (by have:=wf.k16;omega) (by omega) (l:Int) hpart
  have HC:Hid (∀ w1,Below w.heap.size w w1→Calls Tryz.prog 170 #[.slice A0 e0.1.length c0,.int .i64 (l:Int)] w1 fun e w' => ∃ v,e = .returned v∧Own w' w1.heap.size v pre∧Below w1.heap.size w1 w'):=Lib.hid fun w1 hb1 => by
    rw [← hcut]
    exact rcut_lev A0 c0 e0.1 l B w1 (p0.below' hb1 hB) (Nat.le_trans hB hb1.size) (by have:=wf.k1;omega) (by have:=wf.k16;omega) h63
  have HX:=Lib.hid (And.intro wf (And.intro h (And.intro hB (And.intro hc (And.intro hl (And.intro p0 k0))))))
  have hpl:Hid (pre.length = k):=Lib.hid wf.len
  obtain ⟨N,hN⟩:∃ N,(Tr.entsL ks).length = N:=⟨_,rfl⟩
  have HN:=Lib.hid hN
  have n1:((N:Int) == 1) = false:=by rw [beq_eq_false_iff_ne];omega
  rw [hN] at hc hl hlen2 HL ⊢
  have hN0:(0:Int) < (N:Int):=by omega
  have hN1:0 < N:=by omega
  have hbel:=below_alloc w (.cells #[.int .i64 0,.slice none 0 0,.slice none 0 0,.bool false,.int .u64 0] 138)
  have HQ:=Lib.hid (q5_at (heap_at w (.cells #[.int .i64 0,.slice none 0 0,.slice none 0 0,.bool false,.int .u64 0] 138) _ rfl))
  have hsz:(w.alloc (.cells #[.int .i64 0,.slice none 0 0,.slice none 0 0,.bool false,.int .u64 0] 138)).heap.size = w.heap.size + 1:=by simp
  have wfk:1≤k∧k≤16:=⟨wf.k1,wf.k16⟩
  have q0:∀ w',Below w.heap.size w w'→w'.cell? ⟨b,off,none⟩ = some (.slice A0 e0.1.length c0):=fun w' hb => (hb.cell (p:=⟨b,off,none⟩) hbw).trans x0
  clear wf h hB hN i0 i1 k0 k1 o0 o1 hpart hcut x0 p0
  go_enter Tryz.func116,Tryz.ntmps116
  go_upto_region 3 with fail
  generalize w.alloc _ = W at *
  go_cut [3] from 28 (fun s wx => ∃ g3,s = Value.pointer (some ⟨g3,0,none⟩)∧Lay6 w wx g3 l 0 pre (.slice none 0 0) [])
  case first =>
    have hsW:w.heap.size + 1≤W.heap.size:=Nat.le_of_eq hsz.symm
    go_region_held3 (fun w' => Below w.heap.size w w') (((repeat first | refine bD ?_ | with_reducible refine bN ?_ | refine bA ?_ | refine bS ?_);first | exact bR | assumption | exact bN bR | exact bN (bN bR)))
      ((first
        | (go_at_call 169;refine (HL.out _ (show Below w.heap.size w _ by ((repeat first | refine bD ?_ | with_reducible refine bN ?_ | refine bA ?_ | refine bS ?_);first | exact bR | assumption | exact bN bR | exact bN (bN bR)))).mono ?_;rintro e w' ⟨rfl,n,rfl⟩)
        | (go_at_call 170;refine (HC.out _ (show Below w.heap.size w _ by ((repeat first | refine bD ?_ | with_reducible refine bN ?_ | refine bA ?_ | refine bS ?_);first | exact bR | assumption | exact bN bR | exact bN (bN bR)))).mono ?_;rintro e w2 ⟨v,rfl,ho,hb2⟩;obtain ⟨A1,c1,hv,hp⟩:=ho.pts;subst hv;have hb2':=Below.trans (show Below w.heap.size w _ by ((repeat first | refine bD ?_ | with_reducible refine bN ?_ | refine bA ?_ | refine bS ?_);first | exact bR | assumption | exact bN bR | exact bN (bN bR))) (hb2.mono (Below.size (show Below w.heap.size w _ by ((repeat first | refine bD ?_ | with_reducible refine bN ?_ | refine bA ?_ | refine bS ?_);first | exact bR | assumption | exact bN bR | exact bN (bN bR)))));have hz2:=hb2'.size;have hz3:w.heap.size + 1≤w2.heap.size:=Nat.le_trans (by first | omega | (simp;omega)) hb2.size;have HP2:=Lib.hid (And.intro hp ho);(try (have G3:=Lib.hid (Q5.below (b:=w.heap.size + 1) (q5_at (x0:=.int .i64 0) (x1:=.slice none 0 0) (x2:=.slice none 0 0) (x3:=.bool false) (x4:=.int .u64 0) (t:=138) (by first | (refine heap_at _ _ _ ?_;simp;omega) | (refine heap_at _ _ _ ?_;omega))) hb2 (by first | omega | (simp;omega)));obtain ⟨⟨k0,k1,k2,k3,k4⟩,⟨f0,f1,f2,f3,f4⟩⟩:=G3.out;have hz4:w.heap.size + 2≤w2.heap.size:=Nat.le_trans (by first | omega | (simp;omega)) hb2.size));have Q2:=Lib.hid (Q5.below HQ.out (show Below W.heap.size W _ from (Below.trans (by ((repeat first | refine bD ?_ | with_reducible refine bN ?_ | refine bA ?_ | refine bS ?_);first | exact bR | assumption | exact bN bR | exact bN (bN bR))) (hb2.mono (by first | exact Nat.le_refl _ | (simp;done) | (simp;omega))))) (by omega));clear hp ho hb2)))
    all_goals go_wp2_with fail
    all_goals go_meet
    all_goals (first
      | ((with_reducible refine ⟨w.heap.size + 1,rfl,lay6_set (by omega) (by omega) G3.out HP2.out.1 HP2.out.2 ?_ Q2.out hb2'⟩);first | omega | (simp;omega))
      | ((with_reducible refine ⟨w2.heap.size,rfl,lay6_new (by omega) HP2.out.1 HP2.out.2 ?_ Q2.out hb2'⟩);first | omega | (simp;omega)))
  case rest =>
  obtain ⟨g3,rfl,hL3⟩:=hcut
  have L3:=Lib.hid hL3
  have HB3:=Lib.hid hL3.2.2.2.2.2.2.2
  have HQ0:=Lib.hid (And.intro q0 (And.intro HX.out.2.2.2.2.2.2 wfk))
  clear hL3 q0 wfk
  have HKd:=rkids_c HX.out.1 (HX.out.2.1.below HB3.out HX.out.2.2.1 (Nat.le_refl _)) (Nat.le_trans HX.out.2.2.1 HB3.out.size) HX.out.2.2.2.1 HX.out.2.2.2.2.1
  rw [HN.out] at HKd
  have HKd:=Lib.hid HKd
  go_wp2_with fail
  refine HKd.out.mono ?_
  rintro e w4 ⟨A4,d4,rfl,hlo4,hr4,hb4⟩
  have L4:=Lib.hid (L3.out.below hb4)
  have HR4:=Lib.hid hr4
  have hA4:∀ x,A4 = some x→x.block≠g3:=fun x hx => by have h1:=hlo4 x hx;have h2:=L3.out.2.1;omega
  have HA4:=Lib.hid hA4
  have hpne:pre≠[]:=by intro e;have h1:=HX.out.1.len;have h2:=HX.out.1.k1;simp [T.pre,e] at h1;omega
  have Hpne:=Lib.hid hpne
  have Hks:Hid (ks.length≤65536):=Lib.hid (by cases HX.out.1 with | br _ _ _ _ _ hw => exact hw.len16)
  have hks:=Hks.out
  clear hr4 hb4 hlo4 hA4 hpne HKd
  go_wp2_with fail
  go_loopw [5] (fun i wr => ∃ (j:Nat) (V:Value),j≤ks.length∧i = .int .i64 j∧Lay6 w wr g3 l j pre V (Sn.intV (Sl.keys (kidL (ks.take j))))∧RdV wr w4.heap.size A4 (kidsV b off c ks ks.length)∧w4.heap.size≤wr.heap.size∧∀ x,A4 = some x→∀ q,V.ownBlock = some q→x.block≠q) (fun i _ => ks.length - (intOf i).toNat)
  case atStart => exact ⟨0,.slice none 0 0,Nat.zero_le _,rfl,L4.out,HR4.out,Nat.le_refl _,fun x hx q hq => by simp [Value.ownBlock] at hq⟩
  case round =>
    clear L3 L4 HR4
    obtain ⟨j,V,hj,rfl,hlay,hrd,hs4,hVA⟩:=hrel
    by_cases hlt:j < ks.length
    · obtain ⟨x,hx⟩:=get_lt hlt
      have hmem:=List.mem_of_getElem? hx
      have hpos:=Tr.ents_pos' (HX.out.1.kid hmem)
      obtain ⟨e,he⟩:=get_lt hpos
      have i0:=Tr.ents_at hx hpos
      rw [he,Nat.add_zero] at i0
      obtain ⟨b',off',Ax,cx,hA,-,x0,-,px,-,-⟩:=HX.out.2.1.at i0
      simp only [Option.some.injEq,Addr.mk.injEq,and_true] at hA
      obtain ⟨rfl,rfl⟩:=hA
      have hent:=(HX.out.1.kid hmem).entry (List.mem_of_getElem? he)
      have ha:=Tr.kid_addr HX.out.1 hmem (List.mem_of_getElem? he)
      obtain ⟨pb,po,hA4,hpb,hcell⟩:=hrd.at (kidsV_get b off c ks hlt)
      have HP:Hid (∀ x,A4 = some x→x.block < w4.heap.size):=Lib.hid (fun x hx => by rw [hA4] at hx;cases hx;exact hpb)
      have hbW:=0
      rw [kidV_at b off c hx] at hcell
      subst hA4
      have hbe:=hlay.2.2.2.2.2.2.2
      have y0:wr.cell? ⟨b,off + Tr.offK ks j * 2,none⟩ = some (.slice Ax e.1.length cx):=(hbe.cell (p:=⟨b,off + Tr.offK ks j * 2,none⟩) hbw).trans x0
      have HA:Hid (∀ w1,Below wr.heap.size wr w1→Calls Tryz.prog 123 #[.slice Ax e.1.length cx,.int .i64 (l:Int)] w1 fun e w' => e = .returned (.int .i64 (x.1:Int))∧w1 = w'):=Lib.hid fun w1 hb1 => by
        rw [← ha];exact raddr_c Ax cx e.1 l B w1 (px.below' (hbe.trans (hb1.mono hbe.size)) HX.out.2.2.1) (by rw [hent.1];exact HQ0.out.2.2.1) (by rw [hent.1];exact HQ0.out.2.2.2) h63
      have hps:Hid (Sn.intV (Sl.keys (kidL (ks.take (j + 1)))) = Sn.intV (Sl.keys (kidL (ks.take j))) ++ [.int .i64 (x.1:Int)]):=Lib.hid (by
        obtain ⟨hj',rfl⟩:=List.getElem?_eq_some_iff.1 hx
        rw [List.take_succ_eq_append_getElem hj']
        simp only [Sn.intV,Sl.keys,kidL,List.map_append,List.map_cons,List.map_nil])
      obtain ⟨o,ho⟩:∃ o,Tr.offK ks j = o:=⟨_,rfl⟩
      rw [ho] at y0 hcell
      obtain ⟨M,hM⟩:∃ M,x.2.ents.length = M:=⟨_,rfl⟩
      rw [hM] at hcell hpos
      have HY:=Lib.hid (And.intro hlay (And.intro hrd (And.intro hs4 hVA)))
      obtain ⟨g1,g2,⟨A1,c1,q3,-,-⟩,hnn,hown,-,-,-⟩:=hlay
      obtain ⟨⟨k0,k1,k2,k3,k4⟩,⟨f0,f1,f2,f3,f4⟩⟩:=q3
      have O1:=Lib.hid (And.intro hown hnn)
      have m1:(0:Int)≤(j:Int):=by omega
      have m2:(j:Int) < (ks.length:Int):=by omega
      have m3:(0:Int) < (M:Int):=by omega
      have hb0:Below wr.heap.size wr wr:=Below.refl _ _
      have hb1:Below wr.heap.size wr wr.drew:=(Below.refl _ _).drew
      have hszr:=hbe.size
      have hbe0:=Lib.hid hbe
      clear hx hmem he i0 x0 px hent ha hbe ho hM hown hnn hrd hs4 hVA
      go_wp2_with fail
      go_region_law ((first
        | (go_simp;go_at_call 123;refine (HA.out _ (by ((repeat first | refine bD ?_ | with_reducible refine bN ?_ | refine bA ?_ | refine bS ?_);first | exact bR | assumption | exact bN bR | exact bN (bN bR)))).mono ?_;rintro e w' ⟨rfl,rfl⟩)
        | (refine step_append_sl 136 3 (.int .i64 0) 8 Tryz.underlying136 Sn.infoI (by rfl) (by omega) (by rfl) _ _ (by rfl) (w.heap.size + 1) V (Sn.intV (Sl.keys (kidL (ks.take j)))) [.int .i64 (x.1:Int)] (j + 1) (by rw [List.length_append,O1.out.2];rfl) (by rfl) (by exact ⟨O1.out.1.1,O1.out.1.2.alloc _⟩) _ _ 1 1 (by rfl) (by rfl) (by exact rdV_one _ _ _) (fun y hy => by simp at hy;subst hy;rfl) (by have:=Hks.out;omega) (by (first | omega | (simp;done) | (simp;omega))) ?_;intro D d w1 hown1 hgrow1 hat1;have HLS:=Lib.hid (by first | exact lay6_step (HY.out.1.below hb1) Hpne.out _ hown1 hgrow1 hat1 | exact lay6_step HY.out.1 Hpne.out _ hown1 hgrow1 hat1 | exact lay6_step HY.out.1 Hpne.out _ hown1 (Sn.grown_undrew hgrow1) hat1:(∃ A1 c1,Q5 w1 g3 (.int .i64 (l:Int)) (.slice A1 pre.length c1) V (.bool false) (.int .u64 0))∧Lay6 w (w1.setCell ⟨g3,2,none⟩ _) g3 l (j + 1) pre _ (Sn.intV (Sl.keys (kidL (ks.take j))) ++ [.int .i64 (x.1:Int)]));have HRK:=Lib.hid (by first | exact kids_grown HY.out.2.1 HY.out.2.2.1 hgrow1 HY.out.2.2.2 hat1 HP.out | exact kids_grown HY.out.2.1 HY.out.2.2.1 (Sn.grown_undrew hgrow1) HY.out.2.2.2 hat1 HP.out | exact kids_grown (wr:=wr.drew) HY.out.2.1 HY.out.2.2.1 hgrow1 HY.out.2.2.2 hat1 HP.out:RdV w1 w4.heap.size (some ⟨pb,po,none⟩) (kidsV b off c ks ks.length)∧w4.heap.size≤w1.heap.size∧∀ y,some (⟨pb,po,none⟩:Addr) = some y→∀ q,(Value.slice D (j + 1) d).ownBlock = some q→y.block≠q);obtain ⟨A9,c9,⟨⟨z0,z1,z2,z3,z4⟩,⟨v0,v1,v2,v3,v4⟩⟩⟩:=HLS.out.1;clear hgrow1 hat1 hown1)))
      all_goals (clear k0 k1 k2 k3 k4 f0 f1 f2 f3 f4 y0 hcell hb0 hb1)
      all_goals go_wp2_with fail
      all_goals go_roundw
      all_goals (first
        | (simp [intOf];omega;done)
        | (refine ⟨j + 1,_,hlt,rfl,by rw [hps.out];exact HLS.out.2,rdV_set HRK.out.1 HA4.out _,?_,HRK.out.2.2⟩;rw [World.size_setCell];exact HRK.out.2.1))
    · have hjk:j = ks.length:=by omega
      subst hjk
      rw [List.take_of_length_le (Nat.le_refl _)] at hlay
      obtain ⟨h1,h2,⟨A1,c1,q3,p1,hA1⟩,-,hown,h8,qw,hbe⟩:=hlay
      obtain ⟨AV,cV,hV,-,-⟩:=hown.rd
      have hkl:(Sn.intV (Sl.keys (kidL ks))).length = (Sl.keys (kidL ks)).length:=Sn.intV_length _
      rw [hkl] at hV
      subst hV
      have y0:=HQ0.out.1 wr hbe
      have hk0:=HQ0.out.2.1
      rw [hk0] at y0
      obtain ⟨d,hd⟩:∃ d,Sl.dense k (kidL ks) = d:=⟨_,rfl⟩
      have HD:=Lib.hid (rdense6_c k ks.length wr HQ0.out.2.2.2 hks d (by rw [← hd,Sl.dense,show (kidL ks).length = ks.length by simp [kidL]]))
      have HE:=Lib.hid (And.intro p1 (And.intro hA1 (And.intro hown (And.intro h8 (And.intro qw (And.intro hbe (And.intro q3 hd)))))))
      obtain ⟨⟨k0,k1,k2,k3,k4⟩,⟨f0,f1,f2,f3,f4⟩⟩:=q3
      obtain ⟨⟨j0,j1,j2,j3,j4⟩,⟨u0,u1,u2,u3',u4'⟩⟩:=qw
      have hgw:g3≠w.heap.size:=by omega
      have hgw':w.heap.size≠g3:=by omega
      clear p1 hA1 hown h8 hbe hd hkl hk0 hrd hVA hj hlt
      go_wp2_with (go_at_call 171;refine HD.out.mono ?_;rintro e w' ⟨rfl,rfl⟩)
      have qw':=(HE.out.2.2.2.2.1.other ⟨g3,3,none⟩ (.bool d) hgw)
      have qf:=qw'.set (.int .i64 (l:Int)) (.slice A1 pre.length c1) (.slice AV (Sl.keys (kidL ks)).length cV) (.bool d) (.int .u64 0)
      obtain ⟨⟨z0,z1,z2,z3,z4⟩,-⟩:=qf
      refine bodyPost_ret (v:=shapeV (l:Int) A1 pre.length c1 AV (Sl.keys (kidL ks)).length cV d 0) (by simp [results,Tryz.results116,go_sem,z0,z1,z2,z3,z4]) rfl ?_
      have hb:=HE.out.2.2.2.2.2.1
      have hd:=HE.out.2.2.2.2.2.2.2
      have a3:∀ x,A1 = some x→x.block≠(⟨g3,3,none⟩:Addr).block:=fun x hx => (HE.out.2.1 x hx).1
      have aw:∀ i,∀ x,A1 = some x→x.block≠(⟨w.heap.size,i,none⟩:Addr).block:=fun i x hx => by have:=(HE.out.2.1 x hx).2.1;show x.block≠w.heap.size;omega
      have v3:∀ x,AV = some x→x.block≠(⟨g3,3,none⟩:Addr).block:=fun x hx => HE.out.2.2.2.1 x.block (by subst hx;rfl)
      have vw:∀ i,∀ x,AV = some x→x.block≠(⟨w.heap.size,i,none⟩:Addr).block:=fun i x hx => by have:=(HE.out.2.2.1.lt x.block (by subst hx;rfl)).1;show x.block≠w.heap.size;omega
      have pp:=pts_set (pts_set (pts_set (pts_set (pts_set (pts_set HE.out.1 a3 (.bool d)) (aw 0) (.int .i64 (l:Int))) (aw 1) (.slice A1 pre.length c1)) (aw 2) (.slice AV (Sl.keys (kidL ks)).length cV)) (aw 3) (.bool d)) (aw 4) (.int .u64 0)
      have rr:=rdV_set (rdV_set (rdV_set (rdV_set (rdV_set (rdV_set HE.out.2.2.1.rd_at v3 (.bool d)) (vw 0) (.int .i64 (l:Int))) (vw 1) (.slice A1 pre.length c1)) (vw 2) (.slice AV (Sl.keys (kidL ks)).length cV)) (vw 3) (.bool d)) (vw 4) (.int .u64 0)
      refine ⟨⟨A1,c1,AV,cV,?_,pp.keep (by simp) (fun _ _ => rfl),rr.keep (by simp) (fun _ _ => rfl),fun x hx => Nat.le_of_lt (HE.out.2.1 x hx).2.1,fun _ x hx => by have:=(HE.out.2.2.1.lt x.block (by subst hx;rfl)).1;omega⟩,?_⟩
      · rw [show denseT k (.br g l pre ks) = d from hd]
      · exact (((((hb.setCell (p:=⟨g3,3,none⟩) (Nat.le_of_lt h1) _).setCell (p:=⟨w.heap.size,0,none⟩) (Nat.le_refl _) _).setCell (p:=⟨w.heap.size,1,none⟩) (Nat.le_refl _) _).setCell (p:=⟨w.heap.size,2,none⟩) (Nat.le_refl _) _).setCell (p:=⟨w.heap.size,3,none⟩) (Nat.le_refl _) _).setCell (p:=⟨w.heap.size,4,none⟩) (Nat.le_refl _) _
theorem rshape_br {w:World} {B b off c k g l:Nat} {pre:List Nat} {ks:List (Nat × T)} (wf:Tr.Wf k (.br g l pre ks)) (h:Ents w B (some ⟨b,off,none⟩) (Tr.entsL ks)) (hB:B≤w.heap.size) (hc:(Tr.entsL ks).length≤c) (hl:(Tr.entsL ks).length≤1000000) :
    Calls Tryz.prog 116 #[.slice (some ⟨b,off,none⟩) (Tr.entsL ks).length c] w fun e w' => ShapeAt w' e (l:Int) pre (Sl.keys (kidL ks)) (denseT k (.br g l pre ks)) 0∧Below w.heap.size w w' :=
  (rshape_br_new wf h hB hc hl).mono fun _ _ h => ⟨h.1.at,h.2⟩
end Go.Proofs.YtkeepngaaleakaaGreatDoor
