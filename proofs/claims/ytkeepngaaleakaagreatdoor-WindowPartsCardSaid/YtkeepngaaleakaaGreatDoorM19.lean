import Derived.Test.YtkeepngaaleakaaGreatDoorM16
namespace Go.Proofs.YtkeepngaaleakaaGreatDoor
open Go.ChangeShapes Go.WideShapes Go.ChangeAt Go.RowKit
open Tr (T S4 Ent)
theorem rdense6_c (k n:Nat) (w:World) (hk:k≤16) (hn:n≤65536) (r:Bool) (hr:(decide (k≤6) && decide (2 ^ k < 2 * n)) = r) :
    Calls Tryz.prog 171 #[.int .i64 (k:Int),.int .i64 (n:Int)] w fun e w' => e = .returned (.bool r)∧w = w':=by
  obtain ⟨P,hP⟩:∃ P,2 ^ k = P:=⟨_,rfl⟩
  have H:=Lib.hid (rpower_P k P w (by omega) hP)
  by_cases c0:k≤6
  · have e1:decide (k≤6) = true:=decide_eq_true c0
    have e1':decide ((k:Int)≤6) = true:=decide_eq_true (by omega)
    rw [e1,Bool.true_and,hP] at hr
    have hP64:P≤64:=by rw [← hP];exact Nat.pow_le_pow_right (n:=2) (by omega) c0
    have H2:Hid (decide ((P:Int) < 2 * (n:Int)) = r):=Lib.hid (by rw [← hr,Bool.eq_iff_iff,decide_eq_true_eq,decide_eq_true_eq];omega)
    clear hr c0 e1 hP
    go_enter Tryz.func171,Tryz.ntmps171
    go_wp2_with (go_at_call 227;refine H.out.mono ?_;rintro e w' ⟨rfl,rfl⟩)
    go_ret
    exact ⟨by rw [← H2.out];rfl,rfl⟩
  · have e1:decide (k≤6) = false:=decide_eq_false c0
    have e1':decide ((k:Int)≤6) = false:=decide_eq_false (by omega)
    rw [e1,Bool.false_and] at hr
    have H2:=Lib.hid hr
    clear hr c0 e1 hP
    go_enter Tryz.func171,Tryz.ntmps171
    go_wp2_with fail
    go_ret
    exact ⟨by rw [← H2.out];rfl,rfl⟩
set_option maxRecDepth 100000 in
theorem rlevel_c {w:World} {B:Nat} {A:Option Addr} {c:Nat} {L:List Ent} (h:Ents w B A L) (hl:L.length≤1000000) {e0 e1:Ent} (h0:L[0]? = some e0) (h1:L[L.length - 1]? = some e1) (k1:1≤e0.1.length) (k16:e0.1.length≤16) (hk:e0.1.length = e1.1.length)
    (m:Int) (hm:Z.part e0.1 e1.1 = m) :
    Calls Tryz.prog 169 #[.slice A L.length c] w fun e w' => e = .returned (.int .i64 m)∧∃ n,w' = w.drewN n:=by
  have hlen:0 < L.length:=lt_get h0
  obtain ⟨b,off,A0,c0,hA,hb,x0,-,p0,-,-⟩:=h.at h0
  subst hA
  obtain ⟨b',off',A1,c1,hA',hb',x1,-,p1,-,-⟩:=h.at h1
  simp only [Option.some.injEq,Addr.mk.injEq,and_true] at hA'
  obtain ⟨rfl,rfl⟩:=hA'
  have H:Hid (∀ n,Calls Tryz.prog 194 #[.slice A0 e0.1.length c0,.slice A1 e1.1.length c1] (w.drewN n) fun e w' => e = .returned (.int .i64 m)∧w.drewN n = w'):=Lib.hid fun n => by rw [← hm];exact rpart_c A0 A1 c0 c1 e0.1 e1.1 B (w.drewN n) p0 p1 k1 k16 hk
  obtain ⟨N,hN⟩:∃ N,L.length = N + 1:=⟨L.length - 1,by omega⟩
  rw [hN] at x1 hl ⊢
  rw [Nat.zero_mul,Nat.add_zero] at x0
  rw [Nat.add_sub_cancel] at x1
  have i1:IntKind.i64.wrap (((N + 1:Nat):Int) - 1) = (N:Int):=by rw [IntKind.wrap_i64];omega
  have i2:(0:Int) < ((N + 1:Nat):Int):=by omega
  have i3:(0:Int)≤(N:Int):=by omega
  have i4:(N:Int) < ((N + 1:Nat):Int):=by omega
  have i5:((N + 1:Nat):Int) - 1 = (N:Int):=by omega
  clear h h0 h1 p0 p1 k1 k16 hk hm hN hlen
  go_enter Tryz.func169,Tryz.ntmps169
  go_wp2_with fail
  go_quiet ((go_at_call 194;exact Calls.quiet_of_same ((H.out _).mono fun e w' h => ⟨h.1,h.2.symm⟩)))
  go_wp2_with fail
  go_ret
  exact ⟨rfl,_,rfl⟩
/-! ### Sums -/
theorem Q4.one {w:World} {g:Nat} {s:S4} (h:Q4 w g s) (i a:Nat) (hi:i < 4):Q4 (w.setCell ⟨g,i,none⟩ (.int .u64 (a:Int))) g ⟨if i = 0 then a else s.c,if i = 1 then a else s.s,if i = 2 then a else s.lo,if i = 3 then a else s.hi⟩:=by
  obtain ⟨⟨h0,h1,h2,h3⟩,⟨f0,f1,f2,f3⟩,hs⟩:=h
  have e:∀ j,i≠j→(w.setCell ⟨g,i,none⟩ (.int .u64 (a:Int))).cell? ⟨g,j,none⟩ = w.cell? ⟨g,j,none⟩:=fun j hij => World.cell?_setCell_other _ _ _ _ (by first | (simp;done) | (simp;omega))
  have f:∀ j,(w.setCell ⟨g,i,none⟩ (.int .u64 (a:Int))).frozen? ⟨g,j,none⟩ = w.frozen? ⟨g,j,none⟩:=fun j => World.frozen?_setCell _ _ _ _
  have s:∀ v,w.cell? ⟨g,i,none⟩ = some v→(w.setCell ⟨g,i,none⟩ (.int .u64 (a:Int))).cell? ⟨g,i,none⟩ = some (.int .u64 (a:Int)):=fun v hv => World.cell?_setCell_same _ _ _ hv
  refine ⟨⟨?_,?_,?_,?_⟩,⟨(f 0).trans f0,(f 1).trans f1,(f 2).trans f2,(f 3).trans f3⟩,by simpa using hs⟩
  · by_cases c:i = 0
    · subst c;exact s _ h0
    · rw [e 0 c,h0];simp only [if_neg c]
  · by_cases c:i = 1
    · subst c;exact s _ h1
    · rw [e 1 c,h1];simp only [if_neg c]
  · by_cases c:i = 2
    · subst c;exact s _ h2
    · rw [e 2 c,h2];simp only [if_neg c]
  · by_cases c:i = 3
    · subst c;exact s _ h3
    · rw [e 3 c,h3];simp only [if_neg c]
theorem Q4.eq {w:World} {g:Nat} {s s':S4} (h:Q4 w g s) (e:s = s'):Q4 w g s':=e ▸ h
theorem ents_vals {w:World} {B:Nat} {A:Option Addr} {L:List Ent} (h:Ents w B A L):∀ e∈L,e.2 < 18446744073709551616:=by
  intro e he
  obtain ⟨i,hi⟩:=List.mem_iff_getElem?.1 he
  obtain ⟨_,_,_,_,_,_,_,_,_,_,hv⟩:=h.at hi
  exact hv
set_option maxRecDepth 100000 in
set_option maxHeartbeats 4000000 in
theorem rsums_c {w:World} {B:Nat} {A:Option Addr} {c:Nat} {L:List Ent} (h:Ents w B A L) (hB:B≤w.heap.size) (hl:L.length≤1000000) :
    Calls Tryz.prog 119 #[.slice A L.length c] w fun e w' => e = .returned (sumsV (Tr.sums L))∧Below w.heap.size w w':=by
  have HE:=Lib.hid h
  clear h
  go_enter Tryz.func119,Tryz.ntmps119
  go_wp2_with fail
  have B0:Hid (Below w.heap.size w ((w.alloc (.cells #[.int .u64 0,.int .u64 0,.int .u64 0,.int .u64 0] 133)).alloc (.cells #[.int .u64 0,.int .u64 0,.int .u64 0,.int .u64 0] 133))):=Lib.hid (by ((repeat first | refine bD ?_ | with_reducible refine bN ?_ | refine bA ?_ | refine bS ?_);first | exact bR | assumption | exact bN bR | exact bN (bN bR)))
  have G0:=Lib.hid (q4_at (w:=((w.alloc (.cells #[.int .u64 0,.int .u64 0,.int .u64 0,.int .u64 0] 133)).alloc (.cells #[.int .u64 0,.int .u64 0,.int .u64 0,.int .u64 0] 133))) (g:=w.heap.size) (a:=0) (b:=0) (c:=0) (d:=0) (t:=133) (by (first | (refine heap_at _ _ _ ?_;simp;done) | (refine heap_past _ (heap_at _ _ _ ?_);simp;done) | (refine heap_past _ (heap_past _ (heap_at _ _ _ ?_));simp;done) | (refine heap_past _ (heap_past _ (heap_past _ (heap_at _ _ _ ?_)));simp;done))))
  have G1:=Lib.hid (q4_at (w:=((w.alloc (.cells #[.int .u64 0,.int .u64 0,.int .u64 0,.int .u64 0] 133)).alloc (.cells #[.int .u64 0,.int .u64 0,.int .u64 0,.int .u64 0] 133))) (g:=w.heap.size + 1) (a:=0) (b:=0) (c:=0) (d:=0) (t:=133) (by (first | (refine heap_at _ _ _ ?_;simp;done) | (refine heap_past _ (heap_at _ _ _ ?_);simp;done) | (refine heap_past _ (heap_past _ (heap_at _ _ _ ?_));simp;done) | (refine heap_past _ (heap_past _ (heap_past _ (heap_at _ _ _ ?_)));simp;done))))
  go_loopw [4] (fun i wr => ∃ j:Nat,j≤L.length∧i = .int .i64 j∧Q4 wr w.heap.size Tr.s0∧Q4 wr (w.heap.size + 1) (Tr.sums (L.take j))∧Below w.heap.size w wr) (fun i _ => L.length - (intOf i).toNat)
  case atStart => exact ⟨0,Nat.zero_le _,rfl,G0.out,G1.out,B0.out⟩
  case round =>
    clear B0 G0 G1
    obtain ⟨j,hj,rfl,hr0,hr1,hrb⟩:=hrel
    by_cases hlt:j < L.length
    · obtain ⟨e,he⟩:=get_lt hlt
      obtain ⟨b,off,A1,c1,hA,hb,-,x1,-,-,hv⟩:=HE.out.at he
      subst hA
      have hcr:wr.cell? ⟨b,off + j * 2 + 1,none⟩ = some (.int .u64 (e.2:Int)):=(hrb.cell (p:=⟨b,off + j * 2 + 1,none⟩) (by show b < _;omega)).trans x1
      have hT:Tr.sums (L.take (j + 1)) = Tr.tog (Tr.sums (L.take j)) (Tr.s1 e.2):=by
        obtain ⟨hj',rfl⟩:=List.getElem?_eq_some_iff.1 he
        rw [List.take_succ_eq_append_getElem hj',Tr.sums_snoc]
      have hsc:(Tr.sums (L.take j)).c = j:=by rw [Tr.sums_c];simp;omega
      have hbd:=Tr.sums_bd (L:=L.take j) fun x hx => ents_vals HE.out x (List.mem_of_mem_take hx)
      have hval:=Tr.sums_val (L.take j)
      obtain ⟨S,hS⟩:∃ S,Tr.sums (L.take j) = S:=⟨_,rfl⟩
      rw [hS] at hT hsc hbd hr1 hval
      obtain ⟨sc,su,slo,shi⟩:=S
      obtain rfl:sc = j:=hsc
      obtain ⟨v,hv'⟩:∃ v,e.2 = v:=⟨_,rfl⟩
      rw [hv'] at hT hcr hv
      have hw:IntKind.u64.wrap ((su:Int) + (v:Int)) = (((su + v) % 18446744073709551616:Nat):Int):=by rw [IntKind.wrap_u64];omega
      obtain ⟨⟨k0,k1,k2,k3⟩,⟨f0,f1,f2,f3⟩,-⟩:=id hr1
      have HR:=Lib.hid (And.intro hr0 (And.intro hr1 hrb))
      have HT:=Lib.hid hT
      have HW:=Lib.hid hw
      have m1:(0:Int)≤(sc:Int):=by omega
      have m2:(sc:Int) < (L.length:Int):=by omega
      have m3:(sc:Int) + 1≤1000001:=by omega
      clear hr0 hr1 hrb hT hw he hv' hS x1
      by_cases hj0:sc = 0
      · have hz:=hval hj0
        simp only [Tr.s0,Tr.S4.mk.injEq] at hz
        obtain ⟨-,rfl,rfl,rfl⟩:=hz
        subst hj0
        have d1:(((0:Nat):Int) == 0) = true:=rfl
        by_cases hv0:0 < v
        · have d2:decide (((0:Nat):Int) < (v:Int)) = true:=decide_eq_true (by omega)
          have d2':decide ((0:Int) < (v:Int)) = true:=decide_eq_true (by omega)
          clear hval hbd
          go_wp2_with fail
          go_roundw
          case rel =>
            try rw [HW.out]
            have hb:=HR.out.2.2
            refine ⟨0 + 1,by omega,by go_num,?_,?_,by ((repeat first | refine bD ?_ | with_reducible refine bN ?_ | refine bA ?_ | refine bS ?_);first | exact bR | assumption | exact bN bR | exact bN (bN bR))⟩
            · repeat (first | exact HR.out.1 | refine Q4.other ?_ _ _ (by simp))
            · rw [HT.out]
              exact ((((HR.out.2.1.one 2 (v) (by omega)).one 3 (v) (by omega)).one 0 (1) (by omega)).one 1 (v) (by omega)).eq (by simp [Tr.tog,Tr.s1])
          case measure => simp [intOf];omega
        · have d2:decide (((0:Nat):Int) < (v:Int)) = false:=decide_eq_false (by omega)
          have d2':decide ((0:Int) < (v:Int)) = false:=decide_eq_false (by omega)
          have hv1:Hid (v = 0):=Lib.hid (by omega)
          clear hval hbd
          go_wp2_with fail
          go_roundw
          case rel =>
            try rw [HW.out]
            have hb:=HR.out.2.2
            refine ⟨0 + 1,by omega,by go_num,?_,?_,by ((repeat first | refine bD ?_ | with_reducible refine bN ?_ | refine bA ?_ | refine bS ?_);first | exact bR | assumption | exact bN bR | exact bN (bN bR))⟩
            · repeat (first | exact HR.out.1 | refine Q4.other ?_ _ _ (by simp))
            · rw [HT.out]
              exact (((HR.out.2.1.one 2 (v) (by omega)).one 0 (1) (by omega)).one 1 (v) (by omega)).eq (by simp [Tr.tog,Tr.s1,hv1.out])
          case measure => simp [intOf];omega
      · have d1:((sc:Int) == 0) = false:=by rw [beq_eq_false_iff_ne];omega
        have hj1:=Lib.hid hj0
        clear hval hbd hj0
        by_cases hlo:v < slo
        · have d2:decide ((v:Int) < (slo:Int)) = true:=decide_eq_true (by omega)
          by_cases hhi:shi < v
          · have d3:decide ((shi:Int) < (v:Int)) = true:=decide_eq_true (by omega)
            go_wp2_with fail
            go_roundw
            case rel =>
              try rw [HW.out]
              have hb:=HR.out.2.2
              refine ⟨sc + 1,by omega,by go_num,?_,?_,by ((repeat first | refine bD ?_ | with_reducible refine bN ?_ | refine bA ?_ | refine bS ?_);first | exact bR | assumption | exact bN bR | exact bN (bN bR))⟩
              · repeat (first | exact HR.out.1 | refine Q4.other ?_ _ _ (by simp))
              · rw [HT.out]
                exact ((((HR.out.2.1.one 2 (v) (by omega)).one 3 (v) (by omega)).one 0 (sc + 1) (by omega)).one 1 ((su + v) % 18446744073709551616) (by omega)).eq (by have:=hj1.out;simp [Tr.tog,Tr.s1,this];try omega)
            case measure => simp [intOf];omega
          · have d3:decide ((shi:Int) < (v:Int)) = false:=decide_eq_false (by omega)
            go_wp2_with fail
            go_roundw
            case rel =>
              try rw [HW.out]
              have hb:=HR.out.2.2
              refine ⟨sc + 1,by omega,by go_num,?_,?_,by ((repeat first | refine bD ?_ | with_reducible refine bN ?_ | refine bA ?_ | refine bS ?_);first | exact bR | assumption | exact bN bR | exact bN (bN bR))⟩
              · repeat (first | exact HR.out.1 | refine Q4.other ?_ _ _ (by simp))
              · rw [HT.out]
                exact (((HR.out.2.1.one 2 (v) (by omega)).one 0 (sc + 1) (by omega)).one 1 ((su + v) % 18446744073709551616) (by omega)).eq (by have:=hj1.out;simp [Tr.tog,Tr.s1,this];try omega)
            case measure => simp [intOf];omega
        · have d2:decide ((v:Int) < (slo:Int)) = false:=decide_eq_false (by omega)
          by_cases hhi:shi < v
          · have d3:decide ((shi:Int) < (v:Int)) = true:=decide_eq_true (by omega)
            go_wp2_with fail
            go_roundw
            case rel =>
              try rw [HW.out]
              have hb:=HR.out.2.2
              refine ⟨sc + 1,by omega,by go_num,?_,?_,by ((repeat first | refine bD ?_ | with_reducible refine bN ?_ | refine bA ?_ | refine bS ?_);first | exact bR | assumption | exact bN bR | exact bN (bN bR))⟩
              · repeat (first | exact HR.out.1 | refine Q4.other ?_ _ _ (by simp))
              · rw [HT.out]
                exact (((HR.out.2.1.one 3 (v) (by omega)).one 0 (sc + 1) (by omega)).one 1 ((su + v) % 18446744073709551616) (by omega)).eq (by have:=hj1.out;simp [Tr.tog,Tr.s1,this];try omega)
            case measure => simp [intOf];omega
          · have d3:decide ((shi:Int) < (v:Int)) = false:=decide_eq_false (by omega)
            go_wp2_with fail
            go_roundw
            case rel =>
              try rw [HW.out]
              have hb:=HR.out.2.2
              refine ⟨sc + 1,by omega,by go_num,?_,?_,by ((repeat first | refine bD ?_ | with_reducible refine bN ?_ | refine bA ?_ | refine bS ?_);first | exact bR | assumption | exact bN bR | exact bN (bN bR))⟩
              · repeat (first | exact HR.out.1 | refine Q4.other ?_ _ _ (by simp))
              · rw [HT.out]
                exact ((HR.out.2.1.one 0 (sc + 1) (by omega)).one 1 ((su + v) % 18446744073709551616) (by omega)).eq (by have:=hj1.out;simp [Tr.tog,Tr.s1,this];try omega)
            case measure => simp [intOf];omega
    · have hjl:j = L.length:=by omega
      subst hjl
      rw [List.take_of_length_le (Nat.le_refl _)] at hr1
      obtain ⟨⟨q0,q1,q2,q3⟩,-⟩:=hr1
      obtain ⟨⟨r0,r1,r2,r3⟩,⟨f0,f1,f2,f3⟩,hz⟩:=hr0
      have HR:=Lib.hid (And.intro hrb (show Q4 wr w.heap.size Tr.s0 from ⟨⟨r0,r1,r2,r3⟩,⟨f0,f1,f2,f3⟩,hz⟩))
      clear hrb
      go_wp2_with fail
      have hq:=(HR.out.2.set (Tr.sums L).c (Tr.sums L).s (Tr.sums L).lo (Tr.sums L).hi).1
      obtain ⟨k0,k1,k2,k3⟩:=hq
      refine bodyPost_ret (v:=sumsV (Tr.sums L)) (by simp [results,Tryz.results119,go_sem,k0,k1,k2,k3]) rfl ?_
      have hb:=HR.out.1
      exact ⟨rfl,by ((repeat first | refine bD ?_ | with_reducible refine bN ?_ | refine bA ?_ | refine bS ?_);first | exact bR | assumption | exact bN bR | exact bN (bN bR))⟩
end Go.Proofs.YtkeepngaaleakaaGreatDoor
