import Derived.Test.YtkeepngaaleakaaGreatDoorMXb
namespace Go.Proofs.YtkeepngaaleakaaGreatDoor
open Go.ChangeShapes Go.WideShapes Go.ChangeAt Go.RowKit
open Tr (T S4 Ent Tri KL)
abbrev PlS:=Nat × Tri
def PsQ (f:Nat→Option Value) (x:PlS):Prop:=f 0 = some (.int .i64 (x.1:Int))∧f 1 = some (.pointer (rootP x.2.a))∧f 2 = some (.pointer (rootP x.2.b))
theorem psQ_ok:QOk 3 PsQ where
  ext:=by
    rintro f g s h ⟨h0,h1,h2⟩
    exact ⟨(h 0 (by omega)).symm.trans h0,(h 1 (by omega)).symm.trans h1,(h 2 (by omega)).symm.trans h2⟩
  has:=by
    rintro f s ⟨h0,h1,h2⟩ j hj
    match j,hj with
    | 0,_ => exact ⟨_,h0,rfl⟩
    | 1,_ => exact ⟨_,h1,rfl⟩
    | 2,_ => exact ⟨_,h2,rfl⟩
def NZ (_:Nat) (c:Value):Prop:=NU c
theorem psQ_nu:∀ f x,PsQ f x→∀ j c,j < 3→f j = some c→NU c:=by
  rintro f x ⟨h0,h1,h2⟩ j c hj hc
  match j,hj with
  | 0,_ => rw [h0] at hc;cases hc;exact nu_int _
  | 1,_ => rw [h1] at hc;cases hc;exact nu_ptr _
  | 2,_ => rw [h2] at hc;cases hc;exact nu_ptr _
abbrev pl0S:Value:=.agg #[.int .i64 0,.pointer none,.pointer none]
theorem nz_pl:∀ i c,pl0S.cells[i]? = some c→NZ i c:=by
  intro i c h
  have hlt:i < 3:=(Array.getElem?_eq_some_iff.1 h).1
  match i,hlt with
  | 0,_ => have h':some (Value.int .i64 0) = some c:=h;cases h';exact nu_int _
  | 1,_ => have h':some (Value.pointer none) = some c:=h;cases h';exact nu_ptr _
  | 2,_ => have h':some (Value.pointer none) = some c:=h;cases h';exact nu_ptr _
theorem infoPs:(Tryz.prog.info? 249).map (fun i => (i.zero,i.size,i.bytes)) = some (some pl0S,3,24):=by kernel_rfl
abbrev PsRow (w:World) (base:Nat) (v:Value) (ps:List PlS):Prop:=RowZ 249 3 PsQ NZ w base v ps
theorem PsRow.keeps {k:Nat} {w w':World} {base:Nat} {v:Value} {ps:List PlS} (h:PsRow w base v ps) (hgr:w.grownBy w' v.ownBlock):Kp k w w' :=
  RowZ.keeps h (by omega) psQ_nu (fun _ _ h => h) (by decide) hgr
def nextP (ps:List PlS):Nat:=match ps.getLast? with
  | none => 0
  | some x => x.1 + 1
theorem nextP_snoc (ps:List PlS) (x:PlS):nextP (ps ++ [x]) = x.1 + 1:=by simp [nextP]
theorem stS_cells {W:World} {q l:Nat} {t:Tri} {v:Value} (h:W.heap[q]? = some (.cells (stS t l v) 245 (0,0))):W.cell? ⟨q,0,none⟩ = some (.pointer (rootP t.a))∧W.cell? ⟨q,1,none⟩ = some (.bool (sdK t.a l))∧W.cell? ⟨q,2,none⟩ = some (.int .i64 (sdB t.a l:Int))∧W.cell? ⟨q,3,none⟩ = some (.pointer (rootP t.b))∧W.cell? ⟨q,4,none⟩ = some (.bool (sdK t.b l))∧W.cell? ⟨q,5,none⟩ = some (.int .i64 (sdB t.b l:Int))∧W.cell? ⟨q,6,none⟩ = some v:=by
  refine ⟨?_,?_,?_,?_,?_,?_,?_⟩
  all_goals rw [cell_of_row W _ _ _ _ (0,0) h];rfl
theorem stS_noU {W:World} {q l:Nat} {t:Tri} {A:Option Addr} {n c:Nat} (h:W.heap[q]? = some (.cells (stS t l (.slice A n c)) 245 (0,0))):NoU W q:=fun i u hu => by
  rw [cell_of_row W q _ _ _ (0,0) h] at hu
  have hi:i < 7:=(Array.getElem?_eq_some_iff.1 hu).1
  match i,hi with
  | 0,_ => have e:some (Value.pointer (rootP t.a)) = some u:=hu;cases e;exact nu_ptr _
  | 1,_ => have e:some (Value.bool (sdK t.a l)) = some u:=hu;cases e;exact nu_bool _
  | 2,_ => have e:some (Value.int .i64 (sdB t.a l:Int)) = some u:=hu;cases e;exact nu_int _
  | 3,_ => have e:some (Value.pointer (rootP t.b)) = some u:=hu;cases e;exact nu_ptr _
  | 4,_ => have e:some (Value.bool (sdK t.b l)) = some u:=hu;cases e;exact nu_bool _
  | 5,_ => have e:some (Value.int .i64 (sdB t.b l:Int)) = some u:=hu;cases e;exact nu_int _
  | 6,_ => have e:some (Value.slice A n c) = some u:=hu;cases e;exact nu_slice _ _ _
theorem stepS_set {k:Nat} {W:World} {q l:Nat} {t:Tri} {A A':Option Addr} {n c n' c':Nat} (h:W.heap[q]? = some (.cells (stS t l (.slice A n c)) 245 (0,0))):(W.setCell ⟨q,6,none⟩ (.slice A' n' c')).heap[q]? = some (.cells (stS t l (.slice A' n' c')) 245 (0,0))∧Kp k W (W.setCell ⟨q,6,none⟩ (.slice A' n' c')):=by
  have h2:=heap_setCell_same _ q 6 _ _ (.slice A' n' c') h
  rw [show (stS t l (.slice A n c)).setIfInBounds 6 (.slice A' n' c') = stS t l (.slice A' n' c') by simp [stS]] at h2
  exact ⟨h2,kp_cell h (by decide) (stS_noU h) _⟩
theorem appS_all {k:Nat} {w wr X w5:World} {base:Nat} {v:Value} {ps:List PlS} (hbw:Below w.heap.size w wr) (hBX:Below wr.heap.size wr X) (hrow:PsRow w base v ps) (hgr:X.grownBy w5 v.ownBlock) :
    (∀ b,b < wr.heap.size→v.ownBlock≠some b→w5.heap[b]? = wr.heap[b]?)∧Kp k w w5∧Foot (fun b => v.ownBlock = some b) w w5∧wr.heap.size≤w5.heap.size:=by
  have hb:=Below.andThen hbw hBX
  refine ⟨fun b hb1 hne => (hgr.block b (Nat.lt_of_lt_of_le hb1 hBX.size) (fun e => hne e.symm)).trans (hBX.block b hb1),Kp.trans (Kp.of_below hb) (PsRow.keeps (hrow.below hb (Nat.le_refl _)) hgr) hb.size,(Foot.of_below hb).trans (Foot.grown (F:=fun b => v.ownBlock = some b) hgr (fun q hq => hq)) (fun b hb => .inl hb),Nat.le_trans hBX.size hgr.size⟩
theorem onS_end {k l m n c d5 q base XS:Nat} {w wr w5:World} {t:Tri} {A:Option Addr} {D5:Option Addr} {L:List PlS} {p0 p1:Value} (hlt:w.heap.size < wr.heap.size) (hq:q < w.heap.size) (hv:∀ b,(Value.slice A n c).ownBlock = some b→b < w.heap.size) (hvq:(Value.slice A n c).ownBlock≠some q) (hown:PsRow w5 base (.slice D5 m d5) L) (hat:(Value.slice D5 m d5).ownBlock = (Value.slice A n c).ownBlock∨(Value.slice D5 m d5).ownBlock = some XS) (hXS:wr.heap.size≤XS)
    (hall:(∀ b,b < wr.heap.size→(Value.slice A n c).ownBlock≠some b→w5.heap[b]? = wr.heap[b]?)∧Kp k w w5∧Foot (fun b => (Value.slice A n c).ownBlock = some b) w w5∧wr.heap.size≤w5.heap.size) (h5q:w5.heap[q]? = some (.cells (stS t l (.slice A n c)) 245 (0,0))) {W9:World} (hW:W9 = (((w5.setCell ⟨q,6,none⟩ (.slice D5 m d5)).setCell ⟨w.heap.size,0,none⟩ p0).setCell ⟨w.heap.size,1,none⟩ p1)) :
    W9.heap[q]? = some (.cells (stS t l (.slice D5 m d5)) 245 (0,0))∧PsRow W9 base (.slice D5 m d5) L∧((Value.slice D5 m d5).ownBlock = (Value.slice A n c).ownBlock∨∃ b,(Value.slice D5 m d5).ownBlock = some b∧w.heap.size≤b)∧Foot (fun b => b = q∨(Value.slice A n c).ownBlock = some b) w W9∧Kp k w W9:=by
  obtain ⟨h6,hk6⟩:=stepS_set (k:=k) (A':=D5) (n':=m) (c':=d5) h5q
  have hfar:∀ b,b≠w.heap.size→W9.heap[b]? = (w5.setCell ⟨q,6,none⟩ (.slice D5 m d5)).heap[b]?:=fun b hb => by
    rw [hW,Below.heap_setCell _ ⟨w.heap.size,1,none⟩ _ b hb,Below.heap_setCell _ ⟨w.heap.size,0,none⟩ _ b hb]
  have hbel:Below w.heap.size (w5.setCell ⟨q,6,none⟩ (.slice D5 m d5)) W9:=by
    rw [hW]
    exact ((Below.refl w.heap.size (w5.setCell ⟨q,6,none⟩ (.slice D5 m d5))).setCell (p:=⟨w.heap.size,0,none⟩) (Nat.le_refl _) _).setCell (p:=⟨w.heap.size,1,none⟩) (Nat.le_refl _) _
  have hob:∀ b,(Value.slice D5 m d5).ownBlock = some b→b≠q∧b≠w.heap.size:=fun b hb => by
    rcases hat with e | e
    · rw [e] at hb
      exact ⟨fun e' => hvq (e' ▸ hb),fun e' => by have:=hv b hb;omega⟩
    · rw [e] at hb
      cases hb
      exact ⟨by omega,by omega⟩
  refine ⟨(hfar q (by omega)).trans h6,hown.block fun b hb => ?_,hat.imp id (fun e => ⟨_,e,by omega⟩),?_,fun B x hB hn => ?_⟩
  · rw [hfar b (hob b hb).2,Below.heap_setCell _ ⟨q,6,none⟩ _ b (hob b hb).1]
  · have hf0:Foot (fun b => b = q∨(Value.slice A n c).ownBlock = some b) w w5:=⟨hall.2.2.1.os,hall.2.2.1.tape,hall.2.2.1.output,hall.2.2.1.size,fun b hb hn => hall.2.2.1.block b hb (fun e => hn (.inr e))⟩
    refine (hf0.trans (F1:=fun b => b = q∨b = w.heap.size) ?_ (fun b hb => ?_))
    · exact (((Foot.setCell w5 (F:=fun b => b = q∨b = w.heap.size) (a:=⟨q,6,none⟩) (.inl rfl) _).trans (F1:=fun b => b = q∨b = w.heap.size) (Foot.of_below' hbel (fun b _ _ => by
        by_cases e:b = w.heap.size
        · exact .inr (.inr e)
        · exact .inl (hfar b e))) (fun b hb => .inl hb)))
    · rcases hb with e | e
      · exact .inl (.inl e)
      · exact .inr (by omega)
  · exact (hk6 B x (Nat.le_trans hB (Nat.le_trans (Nat.le_of_lt hlt) hall.2.2.2)) (hall.2.1 B x hB hn)).below hbel hB (Nat.le_refl _)
def OnS (k l:Nat) (t:Tri) (q base n:Nat) (v:Value) (ps:List PlS) (w:World) (e:Ending) (w':World):Prop :=
  (t.rem l n = []∧e = .returned (.tuple #[p2V none none,.bool false])∧Below w.heap.size w w') ∨
  ∃ a u D d,t.rem l n = (a,u) :: t.rem l (a + 1)∧a < 65536∧e = .returned (.tuple #[prS u,.bool true])∧w'.heap[q]? = some (.cells (stS t l (.slice D (ps.length + 1) d)) 245 (0,0))∧PsRow w' base (.slice D (ps.length + 1) d) (ps ++ [(a,u)]) ∧
    ((Value.slice D (ps.length + 1) d).ownBlock = v.ownBlock∨∃ b,(Value.slice D (ps.length + 1) d).ownBlock = some b∧w.heap.size≤b)∧Foot (fun b => b = q∨v.ownBlock = some b) w w'∧Kp k w w'
theorem rem_two {k l n i x1 x2:Nat} {c0:List Nat} {t:Tri} {u1 u2:Option T} (ho:t.o = none) (fa:Tr.FitL k l c0 (Tr.sdL t.a l)) (fb:Tr.FitL k l c0 (Tr.sdL t.b l)) (hn:n≤65536) (hx1:Tr.hdA (Tr.dropF (Tr.sdL t.a l) n) = x1) (hx2:Tr.hdA (Tr.dropF (Tr.sdL t.b l) n) = x2) (hu1:Tr.hdT (Tr.dropF (Tr.sdL t.a l) n) = u1) (hu2:Tr.hdT (Tr.dropF (Tr.sdL t.b l) n) = u2) (hi:min x1 x2 = i) :
    i≤65536∧((i = 65536∧t.rem l n = [])∨(i < 65536∧t.rem l n = (i,two (if x1 = i then u1 else none) (if x2 = i then u2 else none)) :: t.rem l (i + 1))):=by
  have h0:Tr.sdL t.o l = []:=by rw [ho];rfl
  have hd0:Tr.dropF ([]:KL) n = []:=by simp [Tr.dropF]
  obtain ⟨-,l1,-⟩:=Tr.hd_get fa.1 fa.lt5 n hn
  obtain ⟨-,l2,-⟩:=Tr.hd_get fb.1 fb.lt5 n hn
  rw [hx1] at l1
  rw [hx2] at l2
  have hh:=Tr.rem3_step (Lo:=[]) Sl.srt_nil fa.1 fb.1 (fun x h => by cases h) fa.lt5 fb.lt5 n hn (i:=i) (by
    rw [hx1,hx2,hd0]
    show min (min 65536 x1) x2 = i
    omega)
  rw [hx1,hx2,hu1,hu2,hd0] at hh
  have hr:∀ m,t.rem l m = Tr.rem3 [] (Tr.sdL t.a l) (Tr.sdL t.b l) m:=fun m => by unfold Tr.Tri.rem;rw [h0]
  rw [hr n,hr (i + 1)]
  refine ⟨by omega,?_⟩
  rcases hh with ⟨c,h⟩ | ⟨c,-,h⟩
  · exact .inl ⟨c,h⟩
  · refine .inr ⟨c,?_⟩
    rw [h,if_neg (show ¬ Tr.hdA ([]:KL) = i by show ¬ 65536 = i;omega)]
set_option maxRecDepth 1000000 in
set_option maxHeartbeats 8000000 in
theorem sOn_c {w:World} {B k l:Nat} {t:Tri} (ho:t.o = none) (hna:NodeO w B k t.a) (hnb:NodeO w B k t.b) (hB:B≤w.heap.size) (hT:∀ w',Below w.heap.size w w'→Tz w') {c0:List Nat} (fa:Tr.FitL k l c0 (Tr.sdL t.a l)) (fb:Tr.FitL k l c0 (Tr.sdL t.b l)) {q base d:Nat} {D:Option Addr} {ps:List PlS} (hq:w.heap[q]? = some (.cells (stS t l (.slice D ps.length d)) 245 (0,0)))
    (hv:PsRow w base (.slice D ps.length d) ps) (hvq:(Value.slice D ps.length d).ownBlock≠some q) (hbase:base≤w.heap.size) (hl:ps.length≤65536) {n:Nat} (hn:nextP ps = n) (hn5:n≤65536) :
    Calls Tryz.prog 133 #[.pointer (some ⟨q,0,none⟩)] w fun e w' => OnS k l t q base n (.slice D ps.length d) ps w e w':=by
  have hqs:q < w.heap.size:=(Array.getElem?_eq_some_iff.1 hq).1
  obtain ⟨W0,hW0⟩:∃ W0,W0 = w.alloc (.cells #[.pointer none,.pointer none] 97):=⟨_,rfl⟩
  have hb0:Below w.heap.size w W0:=by rw [hW0];exact below_alloc _ _
  have hr0:W0.heap[w.heap.size]? = some (.cells #[.pointer none,.pointer none] 97 (0,0)):=by rw [hW0];exact heap_at w _ _ rfl
  have hq0:=keepz hq hb0
  have hv0:=hv.below hb0 (Nat.le_refl _)
  obtain ⟨x1,hx1⟩:∃ x,Tr.hdA (Tr.dropF (Tr.sdL t.a l) n) = x:=⟨_,rfl⟩
  obtain ⟨x2,hx2⟩:∃ x,Tr.hdA (Tr.dropF (Tr.sdL t.b l) n) = x:=⟨_,rfl⟩
  obtain ⟨u1,hu1⟩:∃ x,Tr.hdT (Tr.dropF (Tr.sdL t.a l) n) = x:=⟨_,rfl⟩
  obtain ⟨u2,hu2⟩:∃ x,Tr.hdT (Tr.dropF (Tr.sdL t.b l) n) = x:=⟨_,rfl⟩
  have HA:=Lib.hid fun (w1:World) (hb:Below w.heap.size w w1) => sFrom_c (l:=l) (hna.below hb hB (Nat.le_refl B)) (Nat.le_trans hB hb.size) (fun w' h' => hT w' (Below.andThen hb h')) fa n hn5 x1 u1 hx1 hu1
  have HBb:=Lib.hid fun (w1:World) (hb:Below w.heap.size w w1) => sFrom_c (l:=l) (hnb.below hb hB (Nat.le_refl B)) (Nat.le_trans hB hb.size) (fun w' h' => hT w' (Below.andThen hb h')) fb n hn5 x2 u2 hx2 hu2
  obtain ⟨i,hi⟩:∃ i,min x1 x2 = i:=⟨_,rfl⟩
  obtain ⟨hi6,hrem⟩:=rem_two ho fa fb hn5 hx1 hx2 hu1 hu2 hi
  have hw0:w.heap.size < W0.heap.size:=(Array.getElem?_eq_some_iff.1 hr0).1
  have HW:=Lib.hid (And.intro hW0 (And.intro hb0 (And.intro hr0 (And.intro hq0 (And.intro hqs hw0)))))
  have HH:=Lib.hid (And.intro hv (And.intro hvq (And.intro hbase (And.intro hl (And.intro hn5 hrem)))))
  have HI:=Lib.hid hi
  obtain ⟨k0,k1,k2,k3,k4,k5,k6⟩:=stS_cells hq0
  have hZ:∀ ps' x,ps = ps' ++ [x]→n = x.1 + 1∧∃ g,D = some ⟨g,0,none⟩∧W0.cell? ⟨g,ps'.length * 3,none⟩ = some (.int .i64 (x.1:Int)):=by
    rintro ps' x rfl
    obtain ⟨g,d',cur,hv',-,-,hh,hc0⟩:=RowZ.at psQ_ok hv0 (i:=ps'.length) (x:=x) (by simp)
    simp only [Value.slice.injEq,true_and] at hv'
    exact ⟨by rw [← hn];simp [nextP],g,hv'.1,by rw [cell_of_row W0 _ _ _ _ (0,0) hh];exact hc0.1⟩
  have hZ0:ps = []→n = 0:=by rintro rfl;exact hn.symm
  have HZ:=Lib.hid (And.intro hZ hZ0)
  have hl9:(ps.length:Int)≤65536:=by omega
  have HN9:=Lib.hid hn5
  clear hna hnb hB hT fa fb hq hv hW0 hb0 hr0 hq0 hqs hx1 hx2 hu1 hu2 hrem hvq hbase ho hw0 hv0 hZ hZ0 hn hl hn5 hi
  obtain ⟨pa,hpa⟩:∃ v,rootP t.a = v:=⟨_,rfl⟩
  obtain ⟨pb,hpb⟩:∃ v,rootP t.b = v:=⟨_,rfl⟩
  obtain ⟨ka,hka⟩:∃ v,sdK t.a l = v:=⟨_,rfl⟩
  obtain ⟨kb,hkb⟩:∃ v,sdK t.b l = v:=⟨_,rfl⟩
  obtain ⟨aa,haa⟩:∃ v,sdB t.a l = v:=⟨_,rfl⟩
  obtain ⟨ab,hab⟩:∃ v,sdB t.b l = v:=⟨_,rfl⟩
  rw [hpa] at k0 HA
  rw [hpb] at k3 HBb
  rw [hka] at k1 HA
  rw [hkb] at k4 HBb
  rw [haa] at k2 HA
  rw [hab] at k5 HBb
  have HQ:=Lib.hid (And.intro hpb (And.intro hkb hab))
  clear hpa hpb hka hkb haa hab
  obtain ⟨pn,hpn⟩:∃ v,ps.length = v:=⟨_,rfl⟩
  rw [hpn] at k6 hl9
  have HPN:=Lib.hid hpn
  go_enter Tryz.func133,Tryz.ntmps133
  go_upto_region 1 with fail
  rw [← HW.out.1]
  go_upto_if 18 with fail
  go_cut [4] from 5 (fun v wx => v = Value.int .i64 (n:Int)∧wx = W0)
  case first =>
    rcases List.eq_nil_or_concat ps with hps | ⟨ps',x,hps⟩
    · have hn0:=HZ.out.2 hps
      have hp0:pn = 0:=by rw [← HPN.out,hps];rfl
      subst hn0 hp0
      clear hps
      simp only [show ((0:Nat):Int) = 0 from rfl] at *
      go_wp2_with fail
      go_meet
      exact ⟨rfl,rfl⟩
    · rw [List.concat_eq_append] at hps
      obtain ⟨hn1,g,rfl,hc⟩:=HZ.out.1 ps' x hps
      have hp1:pn = ps'.length + 1:=by rw [← HPN.out,hps];simp
      subst hn1 hp1
      have hx9:x.1 + 1≤65536:=HN9.out
      generalize ps'.length = pl at *
      generalize x.1 = xa at *
      have e4:((pl + 1:Nat):Int) - 1 = (pl:Int):=by omega
      have m1:(0:Int)≤(pl:Int):=by omega
      have m2:(pl:Int) < ((pl + 1:Nat):Int):=by omega
      have m3:(pl:Int)≤65536:=by omega
      have m4:(xa:Int)≤65535:=by omega
      have m5:(0:Int)≤(xa:Int):=by omega
      clear hps HPN HN9 hx9 hl9
      go_wp2_with fail
      go_meet
      exact ⟨rfl,rfl⟩
  case rest =>
  obtain ⟨rfl,rfl⟩:=hcut
  clear HZ HN9
  go_upto_region 6 with ((with_reducible refine (HA.out _ HW.out.2.1).mono ?_);rintro e w1 ⟨rfl,hb1⟩)
  clear HA k0 k1 k2 k3 k4 k5 k6
  obtain ⟨-,-,-,k3,k4,k5,-⟩:=stS_cells (keepz HW.out.2.2.2.1 hb1)
  rw [HQ.out.1] at k3
  rw [HQ.out.2.1] at k4
  rw [HQ.out.2.2] at k5
  have HB1:=Lib.hid hb1
  clear hb1
  go_upto_region 7 with ((with_reducible refine (HBb.out _ (Below.andThen HW.out.2.1 HB1.out)).mono ?_);rintro e w2 ⟨rfl,hb2⟩)
  clear HBb k3 k4 k5
  have hb0w:=Below.andThen HB1.out hb2
  have hbw:Below w.heap.size w w2:=Below.andThen HW.out.2.1 hb0w
  have rr:=keepz HW.out.2.2.1 hb0w
  have qq:=keepz HW.out.2.2.2.1 hb0w
  have hsz0:w.heap.size < w2.heap.size:=Nat.lt_of_lt_of_le HW.out.2.2.2.2.2 hb0w.size
  have HB:=Lib.hid (And.intro hbw (And.intro rr (And.intro qq hsz0)))
  have hmI:min (x1:Int) (x2:Int) = (i:Int):=by have:=HI.out;omega
  clear hb2 hb0w HB1 hbw
  rcases HH.out.2.2.2.2.2 with ⟨hi5,hr⟩ | ⟨hi5,hr⟩
  · have zf':∀ i,w2.frozen? ⟨w.heap.size,i,none⟩ = false:=fun i => frozen_of_row _ _ i _ _ rr
    have z0:w2.cell? ⟨w.heap.size,0,none⟩ = some (.pointer none):=by rw [cell_of_row _ _ _ _ _ (0,0) rr];rfl
    have z1:w2.cell? ⟨w.heap.size,1,none⟩ = some (.pointer none):=by rw [cell_of_row _ _ _ _ _ (0,0) rr];rfl
    have r1:=heap_setCell_same w2 w.heap.size 0 _ _ (.pointer none) rr
    have r2:=heap_setCell_same _ w.heap.size 1 _ _ (.pointer none) r1
    have t0:∀ ob,(((w2.setCell ⟨w.heap.size,0,none⟩ (.pointer none)).setCell ⟨w.heap.size,1,none⟩ (.pointer none)).alloc ob).cell? ⟨w.heap.size,0,none⟩ = some (.pointer none):=fun ob => by rw [cell_of_row _ _ _ _ _ (0,0) (heap_past ob r2)];rfl
    have t1:∀ ob,(((w2.setCell ⟨w.heap.size,0,none⟩ (.pointer none)).setCell ⟨w.heap.size,1,none⟩ (.pointer none)).alloc ob).cell? ⟨w.heap.size,1,none⟩ = some (.pointer none):=fun ob => by rw [cell_of_row _ _ _ _ _ (0,0) (heap_past ob r2)];rfl
    have d1:((i:Int) == 65536) = true:=by rw [beq_iff_eq];omega
    have Hr:=Lib.hid hr
    clear hr rr qq hi5 r1 r2
    go_wp2_with fail
    refine bodyPost_ret (v:=.tuple #[p2V none none,.bool false]) (by simp [results,Tryz.results133,go_sem,t0,t1]) rfl ?_
    refine .inl ⟨Hr.out,rfl,?_⟩
    exact Below.andThen ((HB.out.1.setCell (p:=⟨w.heap.size,0,none⟩) (Nat.le_refl _) _).setCell (p:=⟨w.heap.size,1,none⟩) (Nat.le_refl _) _) (below_alloc _ _)
  · have d1:((i:Int) == 65536) = false:=beq_eq_false_iff_ne.2 (by omega)
    have HR:=Lib.hid (And.intro hi5 hr)
    clear hr rr qq hi5
    rcases Nat.lt_trichotomy x1 x2 with c | c | c
    · have e1:((i:Int) == (x1:Int)) = true:=by rw [beq_iff_eq];have:=HI.out;omega
      have e2:((i:Int) == (x2:Int)) = false:=by rw [beq_eq_false_iff_ne];have:=HI.out;omega
      have g1:(if x1 = i then u1 else none) = u1:=by rw [if_pos (by have:=HI.out;omega)]
      have g2:(if x2 = i then u2 else none) = none:=by rw [if_neg (by have:=HI.out;omega)]
      have hr:=HR.out.2
      rw [g1,g2] at hr
      have HR2:=Lib.hid hr
      clear hr g1 g2 c
      obtain ⟨v1,hv1⟩:∃ v,rootP u1 = v:=⟨_,rfl⟩
      obtain ⟨v2,hv2⟩:∃ v,rootP u2 = v:=⟨_,rfl⟩
      rw [hv1,hv2]
      have hpq:PsQ (fun j => [Value.int .i64 (i:Int),.pointer v1,.pointer none][j]?) (i,two u1 none):=⟨rfl,by rw [← hv1];rfl,by rfl⟩
      have HV:=Lib.hid (And.intro hv1 (And.intro hv2 hpq))
      clear hv1 hv2 hpq
      go_upto_region 14 with fail
      clear hmI e1 e2 d1
      obtain ⟨W3,hW3⟩:∃ W3,W3 = w2.alloc (.cells #[.int .i64 (i:Int),.pointer v1,.pointer none] 249):=⟨_,rfl⟩
      have hb3:Below w2.heap.size w2 W3:=by rw [hW3];exact below_alloc _ _
      have hh3:W3.heap[w2.heap.size]? = some (.cells #[.int .i64 (i:Int),.pointer v1,.pointer none] 249 (0,0)):=by rw [hW3];exact heap_at w2 _ _ rfl
      rw [← hW3]
      have y0:W3.cell? ⟨w2.heap.size,0,none⟩ = some (.int .i64 (i:Int)):=by rw [cell_of_row W3 _ _ _ _ (0,0) hh3];rfl
      have y1:W3.cell? ⟨w2.heap.size,1,none⟩ = some (.pointer v1):=by rw [cell_of_row W3 _ _ _ _ (0,0) hh3];rfl
      have y2:W3.cell? ⟨w2.heap.size,2,none⟩ = some (.pointer none):=by rw [cell_of_row W3 _ _ _ _ (0,0) hh3];rfl
      have qq3:=keepz HB.out.2.2.1 hb3
      have c9:W3.cell? ⟨q,6,none⟩ = some (.slice D pn d):=by rw [← HPN.out,cell_of_row W3 _ _ _ _ (0,0) qq3];rfl
      have c9a:∀ ob,(W3.alloc ob).cell? ⟨q,6,none⟩ = some (.slice D pn d):=fun ob => by rw [← HPN.out,cell_of_row _ _ _ _ _ (0,0) (heap_past ob qq3)];rfl
      have hbw3:=Below.andThen HB.out.1 hb3
      have hs3:w2.heap.size < W3.heap.size:=(Array.getElem?_eq_some_iff.1 hh3).1
      have rr3:=keepz HB.out.2.1 hb3
      have HB3:=Lib.hid (And.intro hbw3 (And.intro qq3 (And.intro rr3 (And.intro hh3 hs3))))
      have hrow:PsRow w base (.slice D pn d) ps:=by rw [← HPN.out];exact HH.out.1
      have hnq:(Value.slice D pn d).ownBlock≠some q:=by rw [← HPN.out];exact HH.out.2.1
      have HRw:=Lib.hid (And.intro hrow hnq)
      have HS3:=Lib.hid (show w.heap.size < W3.heap.size by have:=HB.out.2.2.2;omega)
      clear hb3 hh3 qq3 hbw3 rr3 hrow hnq hs3 hW3
      go_region_law ((refine step_append_rowZ (Q:=PsQ) (Z:=NZ) 243 249 pl0S 24 Tryz.underlying243 infoPs (by rfl) (by omega) (by omega) psQ_ok nz_pl (by rfl) _ _ (by rfl) base (.slice D pn d) ps (pn + 1) (by rw [HPN.out]) (by rfl) (RowZ.below (C:=w.heap.size) HRw.out.1 (show Below w.heap.size w _ from Below.andThen HB3.out.1 (show Below W3.heap.size W3 _ by ((repeat first | refine bD ?_ | with_reducible refine bN ?_ | refine bA ?_ | refine bS ?_);first | exact bR | assumption | exact bN bR | exact bN (bN bR)))) (Nat.le_refl _)) (i,two u1 none) [.int .i64 (i:Int),.pointer v1,.pointer none] (by rfl) HV.out.2.2 ⟨W3.heap.size,0,none⟩ 1 (by rfl) (by exact news_at _ _ _) (by have:=HH.out.2.2.2.1;omega) (by have:=HH.out.2.2.1;have:=HB3.out.1.size;simp;omega) ?_;intro D5 d5 w5 hown5 hgrow5 hat5 hch5;have hall:=appS_all (k:=k) HB3.out.1 (show Below W3.heap.size W3 _ by ((repeat first | refine bD ?_ | with_reducible refine bN ?_ | refine bA ?_ | refine bS ?_);first | exact bR | assumption | exact bN bR | exact bN (bN bR))) HRw.out.1 hgrow5;have hz5:=hall.2.2.2;have h5q:=(hall.1 q (Nat.lt_trans HW.out.2.2.2.2.1 HS3.out) HRw.out.2).trans HB3.out.2.1;have c5:w5.cell? ⟨q,6,none⟩ = some (.slice D pn d):=(by rw [← HPN.out,cell_of_row w5 _ _ _ _ (0,0) h5q];rfl);have f5:w5.frozen? ⟨q,6,none⟩ = false:=frozen_of_row w5 _ 6 _ _ h5q;have HG:=Lib.hid (And.intro hown5 (And.intro hat5 (And.intro hall h5q)));clear hown5 hgrow5 hat5 hch5 hall h5q))
      all_goals (
        obtain ⟨hown5,hat5,hall,h5q⟩:=HG.out
        have hvl:∀ b,(Value.slice D pn d).ownBlock = some b→b < w.heap.size:=fun b hb => (RowZ.lt HRw.out.1 b hb).2
        have hn1:(Value.slice D pn d).ownBlock≠some w2.heap.size:=fun e => by have:=hvl _ e;have:=HB.out.2.2.2;omega
        have hn2:(Value.slice D pn d).ownBlock≠some w.heap.size:=fun e => by have:=hvl _ e;omega
        have hh5:=(hall.1 w2.heap.size HB3.out.2.2.2.2 hn1).trans HB3.out.2.2.2.1
        have hr5:=(hall.1 w.heap.size HS3.out hn2).trans HB3.out.2.2.1
        obtain ⟨W6,hW6⟩:∃ W6,W6 = w5.setCell ⟨q,6,none⟩ (.slice D5 (pn + 1) d5):=⟨_,rfl⟩
        have hb6:∀ b,b≠q→W6.heap[b]? = w5.heap[b]?:=fun b hb => by rw [hW6];exact Below.heap_setCell w5 ⟨q,6,none⟩ _ b hb
        have hq9:=HW.out.2.2.2.2.1
        have hh6:=(hb6 w2.heap.size (by have:=HB.out.2.2.2;omega)).trans hh5
        have hr6:=(hb6 w.heap.size (by omega)).trans hr5
        have t1:W6.cell? ⟨w2.heap.size,1,none⟩ = some (.pointer v1):=by rw [cell_of_row W6 _ _ _ _ (0,0) hh6];rfl
        have t2:W6.cell? ⟨w2.heap.size,2,none⟩ = some (.pointer none):=by rw [cell_of_row W6 _ _ _ _ (0,0) hh6];rfl
        have s0:W6.cell? ⟨w.heap.size,0,none⟩ = some (.pointer none):=by rw [cell_of_row W6 _ _ _ _ (0,0) hr6];rfl
        have s1:W6.cell? ⟨w.heap.size,1,none⟩ = some (.pointer none):=by rw [cell_of_row W6 _ _ _ _ (0,0) hr6];rfl
        have sf:∀ i,W6.frozen? ⟨w.heap.size,i,none⟩ = false:=fun i => frozen_of_row W6 _ i _ _ hr6
        have HE:=Lib.hid (And.intro hown5 (And.intro hat5 (And.intro hall (And.intro h5q (And.intro hW6 hvl)))))
        rw [← hW6]
        clear hown5 hat5 hall h5q hW6 hvl hn1 hn2 hh5 hr5 hb6 hh6 hr6 HG c5 f5 hz5 y0 y1 y2 c9 c9a hq9
        go_wp2_with fail
        refine bodyPost_ret (v:=.tuple #[p2V v1 none,.bool true]) (by simp [results,Tryz.results133,go_sem,s0,s1]) rfl ?_
        obtain ⟨hown5,hat5,hall,h5q,hW6,hvl⟩:=HE.out
        have hfin:=onS_end (k:=k) (L:=ps ++ [(i,two u1 none)]) (p0:=.pointer v1) (p1:=.pointer none) HS3.out HW.out.2.2.2.2.1 hvl HRw.out.2 hown5 hat5 (by simp) hall (by rw [← HPN.out];rw [← HPN.out] at hat5;exact h5q) rfl
        rw [← hW6] at hfin
        refine .inr ⟨i,two u1 none,D5,d5,HR2.out,HR.out.1,?_,?_⟩
        · rw [← HV.out.1];rfl
        · rw [HPN.out];exact hfin)
    · have e1:((i:Int) == (x1:Int)) = true:=by rw [beq_iff_eq];have:=HI.out;omega
      have e2:((i:Int) == (x2:Int)) = true:=by rw [beq_iff_eq];have:=HI.out;omega
      have g1:(if x1 = i then u1 else none) = u1:=by rw [if_pos (by have:=HI.out;omega)]
      have g2:(if x2 = i then u2 else none) = u2:=by rw [if_pos (by have:=HI.out;omega)]
      have hr:=HR.out.2
      rw [g1,g2] at hr
      have HR2:=Lib.hid hr
      clear hr g1 g2 c
      obtain ⟨v1,hv1⟩:∃ v,rootP u1 = v:=⟨_,rfl⟩
      obtain ⟨v2,hv2⟩:∃ v,rootP u2 = v:=⟨_,rfl⟩
      rw [hv1,hv2]
      have hpq:PsQ (fun j => [Value.int .i64 (i:Int),.pointer v1,.pointer v2][j]?) (i,two u1 u2):=⟨rfl,by rw [← hv1];rfl,by rw [← hv2];rfl⟩
      have HV:=Lib.hid (And.intro hv1 (And.intro hv2 hpq))
      clear hv1 hv2 hpq
      go_upto_region 14 with fail
      clear hmI e1 e2 d1
      obtain ⟨W3,hW3⟩:∃ W3,W3 = w2.alloc (.cells #[.int .i64 (i:Int),.pointer v1,.pointer v2] 249):=⟨_,rfl⟩
      have hb3:Below w2.heap.size w2 W3:=by rw [hW3];exact below_alloc _ _
      have hh3:W3.heap[w2.heap.size]? = some (.cells #[.int .i64 (i:Int),.pointer v1,.pointer v2] 249 (0,0)):=by rw [hW3];exact heap_at w2 _ _ rfl
      rw [← hW3]
      have y0:W3.cell? ⟨w2.heap.size,0,none⟩ = some (.int .i64 (i:Int)):=by rw [cell_of_row W3 _ _ _ _ (0,0) hh3];rfl
      have y1:W3.cell? ⟨w2.heap.size,1,none⟩ = some (.pointer v1):=by rw [cell_of_row W3 _ _ _ _ (0,0) hh3];rfl
      have y2:W3.cell? ⟨w2.heap.size,2,none⟩ = some (.pointer v2):=by rw [cell_of_row W3 _ _ _ _ (0,0) hh3];rfl
      have qq3:=keepz HB.out.2.2.1 hb3
      have c9:W3.cell? ⟨q,6,none⟩ = some (.slice D pn d):=by rw [← HPN.out,cell_of_row W3 _ _ _ _ (0,0) qq3];rfl
      have c9a:∀ ob,(W3.alloc ob).cell? ⟨q,6,none⟩ = some (.slice D pn d):=fun ob => by rw [← HPN.out,cell_of_row _ _ _ _ _ (0,0) (heap_past ob qq3)];rfl
      have hbw3:=Below.andThen HB.out.1 hb3
      have hs3:w2.heap.size < W3.heap.size:=(Array.getElem?_eq_some_iff.1 hh3).1
      have rr3:=keepz HB.out.2.1 hb3
      have HB3:=Lib.hid (And.intro hbw3 (And.intro qq3 (And.intro rr3 (And.intro hh3 hs3))))
      have hrow:PsRow w base (.slice D pn d) ps:=by rw [← HPN.out];exact HH.out.1
      have hnq:(Value.slice D pn d).ownBlock≠some q:=by rw [← HPN.out];exact HH.out.2.1
      have HRw:=Lib.hid (And.intro hrow hnq)
      have HS3:=Lib.hid (show w.heap.size < W3.heap.size by have:=HB.out.2.2.2;omega)
      clear hb3 hh3 qq3 hbw3 rr3 hrow hnq hs3 hW3
      go_region_law ((refine step_append_rowZ (Q:=PsQ) (Z:=NZ) 243 249 pl0S 24 Tryz.underlying243 infoPs (by rfl) (by omega) (by omega) psQ_ok nz_pl (by rfl) _ _ (by rfl) base (.slice D pn d) ps (pn + 1) (by rw [HPN.out]) (by rfl) (RowZ.below (C:=w.heap.size) HRw.out.1 (show Below w.heap.size w _ from Below.andThen HB3.out.1 (show Below W3.heap.size W3 _ by ((repeat first | refine bD ?_ | with_reducible refine bN ?_ | refine bA ?_ | refine bS ?_);first | exact bR | assumption | exact bN bR | exact bN (bN bR)))) (Nat.le_refl _)) (i,two u1 u2) [.int .i64 (i:Int),.pointer v1,.pointer v2] (by rfl) HV.out.2.2 ⟨W3.heap.size,0,none⟩ 1 (by rfl) (by exact news_at _ _ _) (by have:=HH.out.2.2.2.1;omega) (by have:=HH.out.2.2.1;have:=HB3.out.1.size;simp;omega) ?_;intro D5 d5 w5 hown5 hgrow5 hat5 hch5;have hall:=appS_all (k:=k) HB3.out.1 (show Below W3.heap.size W3 _ by ((repeat first | refine bD ?_ | with_reducible refine bN ?_ | refine bA ?_ | refine bS ?_);first | exact bR | assumption | exact bN bR | exact bN (bN bR))) HRw.out.1 hgrow5;have hz5:=hall.2.2.2;have h5q:=(hall.1 q (Nat.lt_trans HW.out.2.2.2.2.1 HS3.out) HRw.out.2).trans HB3.out.2.1;have c5:w5.cell? ⟨q,6,none⟩ = some (.slice D pn d):=(by rw [← HPN.out,cell_of_row w5 _ _ _ _ (0,0) h5q];rfl);have f5:w5.frozen? ⟨q,6,none⟩ = false:=frozen_of_row w5 _ 6 _ _ h5q;have HG:=Lib.hid (And.intro hown5 (And.intro hat5 (And.intro hall h5q)));clear hown5 hgrow5 hat5 hch5 hall h5q))
      all_goals (
        obtain ⟨hown5,hat5,hall,h5q⟩:=HG.out
        have hvl:∀ b,(Value.slice D pn d).ownBlock = some b→b < w.heap.size:=fun b hb => (RowZ.lt HRw.out.1 b hb).2
        have hn1:(Value.slice D pn d).ownBlock≠some w2.heap.size:=fun e => by have:=hvl _ e;have:=HB.out.2.2.2;omega
        have hn2:(Value.slice D pn d).ownBlock≠some w.heap.size:=fun e => by have:=hvl _ e;omega
        have hh5:=(hall.1 w2.heap.size HB3.out.2.2.2.2 hn1).trans HB3.out.2.2.2.1
        have hr5:=(hall.1 w.heap.size HS3.out hn2).trans HB3.out.2.2.1
        obtain ⟨W6,hW6⟩:∃ W6,W6 = w5.setCell ⟨q,6,none⟩ (.slice D5 (pn + 1) d5):=⟨_,rfl⟩
        have hb6:∀ b,b≠q→W6.heap[b]? = w5.heap[b]?:=fun b hb => by rw [hW6];exact Below.heap_setCell w5 ⟨q,6,none⟩ _ b hb
        have hq9:=HW.out.2.2.2.2.1
        have hh6:=(hb6 w2.heap.size (by have:=HB.out.2.2.2;omega)).trans hh5
        have hr6:=(hb6 w.heap.size (by omega)).trans hr5
        have t1:W6.cell? ⟨w2.heap.size,1,none⟩ = some (.pointer v1):=by rw [cell_of_row W6 _ _ _ _ (0,0) hh6];rfl
        have t2:W6.cell? ⟨w2.heap.size,2,none⟩ = some (.pointer v2):=by rw [cell_of_row W6 _ _ _ _ (0,0) hh6];rfl
        have s0:W6.cell? ⟨w.heap.size,0,none⟩ = some (.pointer none):=by rw [cell_of_row W6 _ _ _ _ (0,0) hr6];rfl
        have s1:W6.cell? ⟨w.heap.size,1,none⟩ = some (.pointer none):=by rw [cell_of_row W6 _ _ _ _ (0,0) hr6];rfl
        have sf:∀ i,W6.frozen? ⟨w.heap.size,i,none⟩ = false:=fun i => frozen_of_row W6 _ i _ _ hr6
        have HE:=Lib.hid (And.intro hown5 (And.intro hat5 (And.intro hall (And.intro h5q (And.intro hW6 hvl)))))
        rw [← hW6]
        clear hown5 hat5 hall h5q hW6 hvl hn1 hn2 hh5 hr5 hb6 hh6 hr6 HG c5 f5 hz5 y0 y1 y2 c9 c9a hq9
        go_wp2_with fail
        refine bodyPost_ret (v:=.tuple #[p2V v1 v2,.bool true]) (by simp [results,Tryz.results133,go_sem,s0,s1]) rfl ?_
        obtain ⟨hown5,hat5,hall,h5q,hW6,hvl⟩:=HE.out
        have hfin:=onS_end (k:=k) (L:=ps ++ [(i,two u1 u2)]) (p0:=.pointer v1) (p1:=.pointer v2) HS3.out HW.out.2.2.2.2.1 hvl HRw.out.2 hown5 hat5 (by simp) hall (by rw [← HPN.out];rw [← HPN.out] at hat5;exact h5q) rfl
        rw [← hW6] at hfin
        refine .inr ⟨i,two u1 u2,D5,d5,HR2.out,HR.out.1,?_,?_⟩
        · rw [← HV.out.1,← HV.out.2.1]
        · rw [HPN.out];exact hfin)
    · have e1:((i:Int) == (x1:Int)) = false:=by rw [beq_eq_false_iff_ne];have:=HI.out;omega
      have e2:((i:Int) == (x2:Int)) = true:=by rw [beq_iff_eq];have:=HI.out;omega
      have g1:(if x1 = i then u1 else none) = none:=by rw [if_neg (by have:=HI.out;omega)]
      have g2:(if x2 = i then u2 else none) = u2:=by rw [if_pos (by have:=HI.out;omega)]
      have hr:=HR.out.2
      rw [g1,g2] at hr
      have HR2:=Lib.hid hr
      clear hr g1 g2 c
      obtain ⟨v1,hv1⟩:∃ v,rootP u1 = v:=⟨_,rfl⟩
      obtain ⟨v2,hv2⟩:∃ v,rootP u2 = v:=⟨_,rfl⟩
      rw [hv1,hv2]
      have hpq:PsQ (fun j => [Value.int .i64 (i:Int),.pointer none,.pointer v2][j]?) (i,two none u2):=⟨rfl,by rfl,by rw [← hv2];rfl⟩
      have HV:=Lib.hid (And.intro hv1 (And.intro hv2 hpq))
      clear hv1 hv2 hpq
      go_upto_region 14 with fail
      clear hmI e1 e2 d1
      obtain ⟨W3,hW3⟩:∃ W3,W3 = w2.alloc (.cells #[.int .i64 (i:Int),.pointer none,.pointer v2] 249):=⟨_,rfl⟩
      have hb3:Below w2.heap.size w2 W3:=by rw [hW3];exact below_alloc _ _
      have hh3:W3.heap[w2.heap.size]? = some (.cells #[.int .i64 (i:Int),.pointer none,.pointer v2] 249 (0,0)):=by rw [hW3];exact heap_at w2 _ _ rfl
      rw [← hW3]
      have y0:W3.cell? ⟨w2.heap.size,0,none⟩ = some (.int .i64 (i:Int)):=by rw [cell_of_row W3 _ _ _ _ (0,0) hh3];rfl
      have y1:W3.cell? ⟨w2.heap.size,1,none⟩ = some (.pointer none):=by rw [cell_of_row W3 _ _ _ _ (0,0) hh3];rfl
      have y2:W3.cell? ⟨w2.heap.size,2,none⟩ = some (.pointer v2):=by rw [cell_of_row W3 _ _ _ _ (0,0) hh3];rfl
      have qq3:=keepz HB.out.2.2.1 hb3
      have c9:W3.cell? ⟨q,6,none⟩ = some (.slice D pn d):=by rw [← HPN.out,cell_of_row W3 _ _ _ _ (0,0) qq3];rfl
      have c9a:∀ ob,(W3.alloc ob).cell? ⟨q,6,none⟩ = some (.slice D pn d):=fun ob => by rw [← HPN.out,cell_of_row _ _ _ _ _ (0,0) (heap_past ob qq3)];rfl
      have hbw3:=Below.andThen HB.out.1 hb3
      have hs3:w2.heap.size < W3.heap.size:=(Array.getElem?_eq_some_iff.1 hh3).1
      have rr3:=keepz HB.out.2.1 hb3
      have HB3:=Lib.hid (And.intro hbw3 (And.intro qq3 (And.intro rr3 (And.intro hh3 hs3))))
      have hrow:PsRow w base (.slice D pn d) ps:=by rw [← HPN.out];exact HH.out.1
      have hnq:(Value.slice D pn d).ownBlock≠some q:=by rw [← HPN.out];exact HH.out.2.1
      have HRw:=Lib.hid (And.intro hrow hnq)
      have HS3:=Lib.hid (show w.heap.size < W3.heap.size by have:=HB.out.2.2.2;omega)
      clear hb3 hh3 qq3 hbw3 rr3 hrow hnq hs3 hW3
      go_region_law ((refine step_append_rowZ (Q:=PsQ) (Z:=NZ) 243 249 pl0S 24 Tryz.underlying243 infoPs (by rfl) (by omega) (by omega) psQ_ok nz_pl (by rfl) _ _ (by rfl) base (.slice D pn d) ps (pn + 1) (by rw [HPN.out]) (by rfl) (RowZ.below (C:=w.heap.size) HRw.out.1 (show Below w.heap.size w _ from Below.andThen HB3.out.1 (show Below W3.heap.size W3 _ by ((repeat first | refine bD ?_ | with_reducible refine bN ?_ | refine bA ?_ | refine bS ?_);first | exact bR | assumption | exact bN bR | exact bN (bN bR)))) (Nat.le_refl _)) (i,two none u2) [.int .i64 (i:Int),.pointer none,.pointer v2] (by rfl) HV.out.2.2 ⟨W3.heap.size,0,none⟩ 1 (by rfl) (by exact news_at _ _ _) (by have:=HH.out.2.2.2.1;omega) (by have:=HH.out.2.2.1;have:=HB3.out.1.size;simp;omega) ?_;intro D5 d5 w5 hown5 hgrow5 hat5 hch5;have hall:=appS_all (k:=k) HB3.out.1 (show Below W3.heap.size W3 _ by ((repeat first | refine bD ?_ | with_reducible refine bN ?_ | refine bA ?_ | refine bS ?_);first | exact bR | assumption | exact bN bR | exact bN (bN bR))) HRw.out.1 hgrow5;have hz5:=hall.2.2.2;have h5q:=(hall.1 q (Nat.lt_trans HW.out.2.2.2.2.1 HS3.out) HRw.out.2).trans HB3.out.2.1;have c5:w5.cell? ⟨q,6,none⟩ = some (.slice D pn d):=(by rw [← HPN.out,cell_of_row w5 _ _ _ _ (0,0) h5q];rfl);have f5:w5.frozen? ⟨q,6,none⟩ = false:=frozen_of_row w5 _ 6 _ _ h5q;have HG:=Lib.hid (And.intro hown5 (And.intro hat5 (And.intro hall h5q)));clear hown5 hgrow5 hat5 hch5 hall h5q))
      all_goals (
        obtain ⟨hown5,hat5,hall,h5q⟩:=HG.out
        have hvl:∀ b,(Value.slice D pn d).ownBlock = some b→b < w.heap.size:=fun b hb => (RowZ.lt HRw.out.1 b hb).2
        have hn1:(Value.slice D pn d).ownBlock≠some w2.heap.size:=fun e => by have:=hvl _ e;have:=HB.out.2.2.2;omega
        have hn2:(Value.slice D pn d).ownBlock≠some w.heap.size:=fun e => by have:=hvl _ e;omega
        have hh5:=(hall.1 w2.heap.size HB3.out.2.2.2.2 hn1).trans HB3.out.2.2.2.1
        have hr5:=(hall.1 w.heap.size HS3.out hn2).trans HB3.out.2.2.1
        obtain ⟨W6,hW6⟩:∃ W6,W6 = w5.setCell ⟨q,6,none⟩ (.slice D5 (pn + 1) d5):=⟨_,rfl⟩
        have hb6:∀ b,b≠q→W6.heap[b]? = w5.heap[b]?:=fun b hb => by rw [hW6];exact Below.heap_setCell w5 ⟨q,6,none⟩ _ b hb
        have hq9:=HW.out.2.2.2.2.1
        have hh6:=(hb6 w2.heap.size (by have:=HB.out.2.2.2;omega)).trans hh5
        have hr6:=(hb6 w.heap.size (by omega)).trans hr5
        have t1:W6.cell? ⟨w2.heap.size,1,none⟩ = some (.pointer none):=by rw [cell_of_row W6 _ _ _ _ (0,0) hh6];rfl
        have t2:W6.cell? ⟨w2.heap.size,2,none⟩ = some (.pointer v2):=by rw [cell_of_row W6 _ _ _ _ (0,0) hh6];rfl
        have s0:W6.cell? ⟨w.heap.size,0,none⟩ = some (.pointer none):=by rw [cell_of_row W6 _ _ _ _ (0,0) hr6];rfl
        have s1:W6.cell? ⟨w.heap.size,1,none⟩ = some (.pointer none):=by rw [cell_of_row W6 _ _ _ _ (0,0) hr6];rfl
        have sf:∀ i,W6.frozen? ⟨w.heap.size,i,none⟩ = false:=fun i => frozen_of_row W6 _ i _ _ hr6
        have HE:=Lib.hid (And.intro hown5 (And.intro hat5 (And.intro hall (And.intro h5q (And.intro hW6 hvl)))))
        rw [← hW6]
        clear hown5 hat5 hall h5q hW6 hvl hn1 hn2 hh5 hr5 hb6 hh6 hr6 HG c5 f5 hz5 y0 y1 y2 c9 c9a hq9
        go_wp2_with fail
        refine bodyPost_ret (v:=.tuple #[p2V none v2,.bool true]) (by simp [results,Tryz.results133,go_sem,s0,s1]) rfl ?_
        obtain ⟨hown5,hat5,hall,h5q,hW6,hvl⟩:=HE.out
        have hfin:=onS_end (k:=k) (L:=ps ++ [(i,two none u2)]) (p0:=.pointer none) (p1:=.pointer v2) HS3.out HW.out.2.2.2.2.1 hvl HRw.out.2 hown5 hat5 (by simp) hall (by rw [← HPN.out];rw [← HPN.out] at hat5;exact h5q) rfl
        rw [← hW6] at hfin
        refine .inr ⟨i,two none u2,D5,d5,HR2.out,HR.out.1,?_,?_⟩
        · rw [← HV.out.2.1];rfl
        · rw [HPN.out];exact hfin)
end Go.Proofs.YtkeepngaaleakaaGreatDoor
