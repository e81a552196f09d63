import Derived.LaidEqlPtr
import Derived.Test.YtkeepngaaleakaaGreatDoorM13
import Derived.Test.YtkeepngaaleakaaGreatDoorM20
namespace Go.Proofs.YtkeepngaaleakaaGreatDoor
open Go.ChangeShapes Go.WideShapes Go.ChangeAt Go.RowKit
open Tr (T S4 Ent)
theorem ptr_eq (w:World) (a:Addr):(binOp .eql 81 (.pointer (some a)) (.pointer (some a))).run Tryz.prog w = .ok (.bool true) w:=by
  have h:(Tryz.prog.info? 201).isSome = true:=by kernel_rfl
  obtain ⟨j,hj⟩:=Option.isSome_iff_exists.1 h
  exact run_eql_ptr_same w a Tryz.underlying81 hj
theorem pts_list {w:World} {g:Nat} {t:TypeId} {us:List Nat} (ho:Z.Ok us) (h:w.heap[g]? = some (.cells (vals us).toArray t (0,0))):Pts w w.heap.size (some ⟨g,0,none⟩) us:=by
  refine ⟨ho,fun _ => ⟨g,0,rfl,(Array.getElem?_eq_some_iff.1 h).1,fun i u hu => ?_⟩⟩
  rw [Nat.zero_add,cell_of_row w g _ _ t (0,0) h]
  simpa using vals_get hu
theorem shape_level (w:World) (a b c d e:Value):(Instr.field 138 (.agg #[a,b,c,d,e]) 0).run Tryz.prog w = .ok a w:=by kernel_rfl
theorem shape_prefix (w:World) (a b c d e:Value):(Instr.field 138 (.agg #[a,b,c,d,e]) 1).run Tryz.prog w = .ok b w:=by kernel_rfl
set_option maxRecDepth 100000 in
set_option maxHeartbeats 4000000 in
theorem is_ent {w:World} {B k g:Nat} {p:List Nat} {v:Nat} {A:Option Addr} {c:Nat} (hn:Node w B k (.ent g p v)) (h:Ents w B A [(p,v)]) (hB:B≤w.heap.size) :
    Calls Tryz.prog 61 #[.pointer (some ⟨g,0,none⟩),.slice A 1 c] w fun e w' => e = .returned (.bool true)∧Below w.heap.size w w':=by
  obtain ⟨b,off,A1,c1,hA,hb,x0,x1,hp,-,hv64⟩:=h.at (i:=0) (e:=(p,v)) rfl
  subst hA
  rw [Nat.zero_mul,Nat.add_zero] at x0 x1
  have hbw:b < w.heap.size:=by omega
  have hk1:=hn.1.k1
  have hk16:=hn.1.k16
  have hpl:p.length = k:=hn.1.len
  have hne:p≠[]:=by intro e;subst e;simp at hpl;omega
  have hnd:NdAt w B g (-1) p v none (Tr.s1 v):=by cases hn.2 with | ent _ _ _ h => exact h
  have HX:Hid (Node w B k (.ent g p v)∧Ents w B (some ⟨b,off,none⟩) [(p,v)]∧NdAt w B g (-1) p v none (Tr.s1 v)∧Pts w B A1 p∧p≠[]∧p.length≤16∧B≤w.heap.size):=Lib.hid ⟨hn,h,hnd,hp,hne,by omega,hB⟩
  clear hn h hnd hp hne hk1 hk16 hpl hv64
  have f0:=shape_level
  have f1:=shape_prefix
  go_enter Tryz.func61,Tryz.ntmps61
  go_wp2_with fail
  refine (nEntry_ent HX.out.2.2.1 HX.out.2.2.2.2.2.2 HX.out.2.2.2.2.1 (by have:=HX.out.2.2.2.2.2.1;omega)).mono ?_
  rintro e w1 ⟨h1,d1,rfl,ho1,hb1⟩
  have B1:=Lib.hid hb1
  have O1:=Lib.hid ho1
  clear ho1 hb1
  go_wp2_with fail
  have b2:=below_alloc w1 (.cells #[.slice (some ⟨h1,0,none⟩) p.length d1,.int .u64 (v:Int)] 57)
  have B2:=Lib.hid (Below.andThen B1.out b2)
  have E2:=Lib.hid (heap_at w1 (.cells #[.slice (some ⟨h1,0,none⟩) p.length d1,.int .u64 (v:Int)] 57) _ rfl)
  have O2:=Lib.hid (O1.out.below b2 (Nat.le_refl _))
  have hs2:(w1.alloc (.cells #[.slice (some ⟨h1,0,none⟩) p.length d1,.int .u64 (v:Int)] 57)).heap.size = w1.heap.size + 1:=by simp
  have hs1:=B1.out.size
  clear b2
  generalize w1.alloc _ = W2 at *
  have HB:=HX.out.2.2.2.2.2.2
  refine (nK_c (HX.out.2.2.1.below B2.out HB (Nat.le_refl _))).mono ?_
  rintro e w' ⟨rfl,rfl⟩
  have n1:((p.length:Int) != (p.length:Int)) = false:=by simp
  go_wp2_with fail
  refine (nShape_ent (HX.out.2.2.1.below B2.out HB (Nat.le_refl _)) (Nat.le_trans HB B2.out.size) HX.out.2.2.2.2.1 (by have:=HX.out.2.2.2.2.2.1;omega)).mono ?_
  rintro e w3 ⟨⟨A3,c3,A3',c3',rfl,hp3,hr3⟩,hb3⟩
  have B3:=Lib.hid (Below.andThen B2.out hb3)
  have C3:=Lib.hid hb3
  have P3:=Lib.hid hp3
  clear hp3 hr3 hb3
  go_wp2_with fail
  refine (rshape_one (HX.out.2.1.below B3.out HB (Nat.le_refl _)) (Nat.le_trans HB B3.out.size)).mono ?_
  rintro e w4 ⟨⟨A4,c4,A4',c4',rfl,hp4,hr4⟩,hb4⟩
  have B4:=Lib.hid (Below.andThen B3.out hb4)
  have C4:=Lib.hid (Below.andThen C3.out hb4)
  have P4:=Lib.hid hp4
  have P3:=Lib.hid ((P3.out.below' hb4 (Nat.le_refl _)).keep hb4.size (fun _ _ => rfl))
  clear hp4 hr4 hb4
  go_wp2_with fail
  refine (rsameShape_c (-1) A3 c3 A3' c3' A4 c4 A4' c4' p [] false v P3.out P4.out (RdV.nil _ _ _) (RdV.nil _ _ _) (Nat.le_refl _) (by have:=HX.out.2.2.2.2.2.1;omega) (by decide)).mono ?_
  rintro e w5 ⟨rfl,hb5⟩
  have B5:=Lib.hid (Below.andThen B4.out hb5)
  have C5:=Lib.hid (Below.andThen C4.out hb5)
  clear hb5 P3 P4 B3 B4 C3 C4
  go_wp2_with fail
  refine (nSums_c (HX.out.2.2.1.below B5.out HB (Nat.le_refl _)) (Nat.le_trans HB B5.out.size)).mono ?_
  rintro e w6 ⟨rfl,hb6⟩
  have B6:=Lib.hid (Below.andThen B5.out hb6)
  have C6:=Lib.hid (Below.andThen C5.out hb6)
  clear hb6 B5 C5
  go_wp2_with fail
  have HS:=rsums_c (HX.out.2.1.below B6.out HB (Nat.le_refl _)) (Nat.le_trans HB B6.out.size) (by simp) (c:=c)
  rw [Tr.sums_one] at HS
  refine HS.mono ?_
  clear HS
  rintro e w7 ⟨rfl,hb7⟩
  have B7:=Lib.hid (Below.andThen B6.out hb7)
  have C7:=Lib.hid (Below.andThen C6.out hb7)
  clear hb7 B6 C6
  go_wp2_with fail
  refine (nLevel_c (HX.out.2.2.1.below B7.out HB (Nat.le_refl _))).mono ?_
  rintro e w' ⟨rfl,rfl⟩
  go_wp2_with fail
  refine (rshape_one (HX.out.2.1.below B7.out HB (Nat.le_refl _)) (Nat.le_trans HB B7.out.size)).mono ?_
  rintro e w8 ⟨⟨A8,c8,A8',c8',rfl,hp8,hr8⟩,hb8⟩
  have B8:=Lib.hid (Below.andThen B7.out hb8)
  have C8:=Lib.hid (Below.andThen C7.out hb8)
  clear hp8 hr8 hb8 B7 C7
  go_wp2_with fail
  refine (nPrefix_c (HX.out.2.2.1.below B8.out HB (Nat.le_refl _)) (Nat.le_trans HB B8.out.size) HX.out.2.2.2.2.1 (by have:=HX.out.2.2.2.2.2.1;omega)).mono ?_
  rintro e w9 ⟨h9,d9,rfl,ho9,hb9⟩
  have B9:=Lib.hid (Below.andThen B8.out hb9)
  have C9:=Lib.hid (Below.andThen C8.out hb9)
  have O9:=Lib.hid ho9
  clear ho9 hb9 B8 C8
  go_wp2_with fail
  refine (rshape_one (HX.out.2.1.below B9.out HB (Nat.le_refl _)) (Nat.le_trans HB B9.out.size)).mono ?_
  rintro e wa ⟨⟨Aa,ca,Aa',ca',rfl,hpa,hra⟩,hba⟩
  have Ba:=Lib.hid (Below.andThen B9.out hba)
  have Ca:=Lib.hid (Below.andThen C9.out hba)
  have O9:=Lib.hid (O9.out.below hba (Nat.le_refl _))
  have Pa:=Lib.hid hpa
  clear hpa hra hba B9 C9
  obtain ⟨A9,c9,hv9,hp9⟩:=O9.out.pts
  cases hv9
  have P9:=Lib.hid hp9
  clear hp9
  go_wp2_with fail
  refine (rsame_self (some ⟨h9,0,none⟩) Aa d9 ca p _ _ P9.out Pa.out (Nat.le_refl _) (by have:=HX.out.2.2.2.2.2.1;unfold maxLen;omega)).mono ?_
  rintro e wb ⟨rfl,hbb⟩
  have Bb:=Lib.hid (Below.andThen Ba.out hbb)
  have Cb:=Lib.hid (Below.andThen Ca.out hbb)
  clear hbb Ba Ca O9 Pa P9
  go_wp2_with fail
  have c0:W2.cell? ⟨w1.heap.size,0,none⟩ = some (.slice (some ⟨h1,0,none⟩) p.length d1):=by rw [cell_of_row _ _ _ _ _ (0,0) E2.out];rfl
  have c1':W2.cell? ⟨w1.heap.size,1,none⟩ = some (.int .u64 (v:Int)):=by rw [cell_of_row _ _ _ _ _ (0,0) E2.out];rfl
  have hsb:=Bb.out.size
  have hsc:=Cb.out.size
  have m0:∀ w',Below wb.heap.size wb w'→w'.cell? ⟨w1.heap.size,0,none⟩ = some (.slice (some ⟨h1,0,none⟩) p.length d1):=fun w' hb => ((Cb.out.trans (hb.mono hsc)).cell (p:=⟨w1.heap.size,0,none⟩) (by show w1.heap.size < _;omega)).trans c0
  have m1:∀ w',Below wb.heap.size wb w'→w'.cell? ⟨w1.heap.size,1,none⟩ = some (.int .u64 (v:Int)):=fun w' hb => ((Cb.out.trans (hb.mono hsc)).cell (p:=⟨w1.heap.size,1,none⟩) (by show w1.heap.size < _;omega)).trans c1'
  have m2:∀ w',Below wb.heap.size wb w'→w'.cell? ⟨b,off,none⟩ = some (.slice A1 p.length c1):=fun w' hb => ((Bb.out.trans (hb.mono hsb)).cell (p:=⟨b,off,none⟩) hbw).trans x0
  have m3:∀ w',Below wb.heap.size wb w'→w'.cell? ⟨b,off + 1,none⟩ = some (.int .u64 (v:Int)):=fun w' hb => ((Bb.out.trans (hb.mono hsb)).cell (p:=⟨b,off + 1,none⟩) hbw).trans x1
  obtain ⟨Ax,cx,hvx,hpx⟩:=O2.out.pts
  cases hvx
  have Px:=Lib.hid (hpx.below' Cb.out (Nat.le_refl _))
  have n2:((v:Int) == (v:Int)) = true:=by simp
  have hbb:=Below.refl wb.heap.size wb
  clear c0 c1' x0 x1 hpx f0 f1
  go_region_held3 (fun w' => Below wb.heap.size wb w') (((repeat first | refine bD ?_ | with_reducible refine bN ?_ | refine bA ?_ | refine bS ?_);first | exact bR | assumption | exact bN bR | exact bN (bN bR)))
    ((go_at_call 105;refine (rsame_self (some ⟨h1,0,none⟩) A1 d1 c1 p wb.heap.size _ ((Px.out.keep hsc (fun _ _ => rfl)).below' (show Below wb.heap.size wb _ by ((repeat first | refine bD ?_ | with_reducible refine bN ?_ | refine bA ?_ | refine bS ?_);first | exact bR | assumption | exact bN bR | exact bN (bN bR))) (Nat.le_refl _)) (((HX.out.2.2.2.1.below' Bb.out HB).keep (Nat.le_trans HB hsb) (fun _ _ => rfl)).below' (show Below wb.heap.size wb _ by ((repeat first | refine bD ?_ | with_reducible refine bN ?_ | refine bA ?_ | refine bS ?_);first | exact bR | assumption | exact bN bR | exact bN (bN bR))) (Nat.le_refl _)) (Below.size (show Below wb.heap.size wb _ by ((repeat first | refine bD ?_ | with_reducible refine bN ?_ | refine bA ?_ | refine bS ?_);first | exact bR | assumption | exact bN bR | exact bN (bN bR)))) (by have:=HX.out.2.2.2.2.2.1;unfold maxLen;omega)).mono ?_;rintro e wc ⟨rfl,hbc⟩;have hBc:=Below.trans (show Below wb.heap.size wb _ by ((repeat first | refine bD ?_ | with_reducible refine bN ?_ | refine bA ?_ | refine bS ?_);first | exact bR | assumption | exact bN bR | exact bN (bN bR))) (hbc.mono (Below.size (show Below wb.heap.size wb _ by ((repeat first | refine bD ?_ | with_reducible refine bN ?_ | refine bA ?_ | refine bS ?_);first | exact bR | assumption | exact bN bR | exact bN (bN bR)))));clear hbc))
  clear m0 m1 m2 m3
  go_wp2_with fail
  go_ret
  exact ⟨rfl,Bb.out.trans (hBc.mono hsb)⟩
def IsTold (k:Nat) (t:T):Prop:=∀ (w:World) (B b off c:Nat),Node w B k t→Ents w B (some ⟨b,off,none⟩) t.ents→B≤w.heap.size→t.ents.length≤c→t.ents.length≤1000000 →
  Calls Tryz.prog 61 #[.pointer (some ⟨t.blk,0,none⟩),.slice (some ⟨b,off,none⟩) t.ents.length c] w fun e w' => e = .returned (.bool true)∧Below w.heap.size w w'
set_option maxRecDepth 100000 in
set_option maxHeartbeats 4000000 in
theorem is_br {w:World} {B k g l:Nat} {pre:List Nat} {ks:List (Nat × T)} {b off c:Nat} (hn:Node w B k (.br g l pre ks)) (h:Ents w B (some ⟨b,off,none⟩) (Tr.entsL ks)) (hB:B≤w.heap.size) (hc:(Tr.entsL ks).length≤c) (hl:(Tr.entsL ks).length≤1000000)
    (ih:∀ x∈ks,IsTold k x.2) :
    Calls Tryz.prog 61 #[.pointer (some ⟨g,0,none⟩),.slice (some ⟨b,off,none⟩) (Tr.entsL ks).length c] w fun e w' => e = .returned (.bool true)∧Below w.heap.size w w':=by
  obtain ⟨e0,e1,i0,-,k0,-,-,-,-,-,hlen2⟩:=Tr.ends_part hn.1
  obtain ⟨b',off',A1,c1,hA,hb,x0,-,-,-,-⟩:=h.at i0
  simp only [Option.some.injEq,Addr.mk.injEq,and_true] at hA
  obtain ⟨rfl,rfl⟩:=hA
  rw [Nat.zero_mul,Nat.add_zero,k0] at x0
  have hpl:pre.length = k:=hn.1.len
  have hk1:=hn.1.k1
  have hk16:=hn.1.k16
  have hne:pre≠[]:=by intro e;rw [e] at hpl;simp at hpl;omega
  have h63:l≤63:=by cases hn.1 with | br _ _ _ _ h63 => exact h63
  have hks:ks.length≤65536:=by cases hn.1 with | br _ _ _ _ _ hw => exact hw.len16
  obtain ⟨bq,hnd,hat⟩:∃ bq,NdAt w B g (l:Int) pre 0 (some ⟨bq,0,none⟩) (Tr.sums (Tr.entsL ks))∧Sn.At w B bq k (kidL ks):=by cases hn.2 with | br _ _ _ _ q h1 h2 => exact ⟨q,h1,h2⟩
  obtain ⟨N,hN⟩:∃ N,(Tr.entsL ks).length = N:=⟨_,rfl⟩
  have HN:=Lib.hid hN
  have hKl:=Lib.hid (show (Sl.keys (kidL ks)).length = ks.length by simp [Sl.keys,kidL])
  have HX:=Lib.hid (And.intro hn (And.intro h (And.intro hB (And.intro hc (And.intro hl (And.intro hnd (And.intro hat (And.intro hne (And.intro hpl (And.intro hk16 (And.intro ih (And.intro h63 (And.intro hks hk1)))))))))))))
  have hN2:((N:Int) == 1) = false:=by rw [beq_eq_false_iff_ne];omega
  have hN0:(0:Int) < (N:Int):=by omega
  rw [hN]
  clear hn h hnd hne hk1 hk16 hpl ih hat hN h63 hks hlen2 i0 k0
  have f0:=shape_level
  have f1:=shape_prefix
  have HB:=HX.out.2.2.1
  have HSH:Hid (∀ w1,Below w.heap.size w w1→Calls Tryz.prog 116 #[.slice (some ⟨b,off,none⟩) N c] w1 fun e w' => ShapeAt w' e (l:Int) pre (Sl.keys (kidL ks)) (denseT k (.br g l pre ks)) 0∧Below w1.heap.size w1 w'):=Lib.hid fun w1 hb1 => by
    rw [← HN.out]
    exact rshape_br HX.out.1.1 (HX.out.2.1.below hb1 HB (Nat.le_refl _)) (Nat.le_trans HB hb1.size) HX.out.2.2.2.1 HX.out.2.2.2.2.1
  go_enter Tryz.func61,Tryz.ntmps61
  go_wp2_with fail
  refine (nEntry_br HX.out.2.2.2.2.2.1 HB).mono ?_
  rintro e w1 ⟨rfl,hb1⟩
  have B1:=Lib.hid hb1
  clear hb1
  go_wp2_with fail
  have b2:=below_alloc w1 (.cells #[.slice none 0 0,.int .u64 0] 57)
  have B2:=Lib.hid (Below.andThen B1.out b2)
  clear b2
  generalize w1.alloc _ = W2 at *
  have HK:=nK_c (HX.out.2.2.2.2.2.1.below B2.out HB (Nat.le_refl _))
  rw [HX.out.2.2.2.2.2.2.2.2.1] at HK
  refine HK.mono ?_
  clear HK
  rintro e w' ⟨rfl,rfl⟩
  have n1:((k:Int) != (k:Int)) = false:=by simp
  go_wp2_with fail
  refine (nShape_br (HX.out.2.2.2.2.2.1.below B2.out HB (Nat.le_refl _)) (HX.out.2.2.2.2.2.2.1.below B2.out HB (Nat.le_refl _)) (Nat.le_trans HB B2.out.size) HX.out.2.2.2.2.2.2.2.1 (by have h1:=HX.out.2.2.2.2.2.2.2.2.1;have h2:=HX.out.2.2.2.2.2.2.2.2.2.1;omega) (denseT k (.br g l pre ks)) rfl).mono ?_
  rintro e w3 ⟨⟨A3,c3,A3',c3',rfl,hp3,hr3⟩,hb3⟩
  have B3:=Lib.hid (Below.andThen B2.out hb3)
  have P3:=Lib.hid hp3
  have R3:=Lib.hid hr3
  clear hp3 hr3 hb3
  go_wp2_with fail
  refine (HSH.out w3 B3.out).mono ?_
  rintro e w4 ⟨⟨A4,c4,A4',c4',rfl,hp4,hr4⟩,hb4⟩
  have B4:=Lib.hid (Below.andThen B3.out hb4)
  have P4:=Lib.hid hp4
  have R4:=Lib.hid hr4
  have P3:=Lib.hid ((P3.out.below' hb4 (Nat.le_refl _)).keep hb4.size (fun _ _ => rfl))
  have R3:=Lib.hid (R3.out.below hb4 (Nat.le_refl _) hb4.size)
  clear hp4 hr4 hb4
  go_wp2_with fail
  have hp16:pre.length≤16:=by have h1:=HX.out.2.2.2.2.2.2.2.2.1;have h2:=HX.out.2.2.2.2.2.2.2.2.2.1;omega
  have HP16:=Lib.hid hp16
  have HKl:=Lib.hid (show (Sl.keys (kidL ks)).length≤65536 by have:=HX.out.2.2.2.2.2.2.2.2.2.2.2.2.1;rw [hKl.out];exact this)
  clear hp16 hKl
  refine (rsameShape_c (l:Int) A3 c3 A3' c3' A4 c4 A4' c4' pre (Sl.keys (kidL ks)) (denseT k (.br g l pre ks)) 0 P3.out P4.out R3.out R4.out (Nat.le_refl _) (by have:=HP16.out;omega) HKl.out).mono ?_
  rintro e w5 ⟨rfl,hb5⟩
  have B5:=Lib.hid (Below.andThen B4.out hb5)
  clear hb5 P3 P4 R3 R4 B3 B4
  go_wp2_with fail
  refine (nSums_c (HX.out.2.2.2.2.2.1.below B5.out HB (Nat.le_refl _)) (Nat.le_trans HB B5.out.size)).mono ?_
  rintro e w6 ⟨rfl,hb6⟩
  have B6:=Lib.hid (Below.andThen B5.out hb6)
  clear hb6 B5
  go_wp2_with fail
  have HS:=rsums_c (HX.out.2.1.below B6.out HB (Nat.le_refl _)) (Nat.le_trans HB B6.out.size) HX.out.2.2.2.2.1 (c:=c)
  rw [HN.out] at HS
  refine HS.mono ?_
  clear HS
  rintro e w7 ⟨rfl,hb7⟩
  have B7:=Lib.hid (Below.andThen B6.out hb7)
  clear hb7 B6
  go_wp2_with fail
  refine (nLevel_c (HX.out.2.2.2.2.2.1.below B7.out HB (Nat.le_refl _))).mono ?_
  rintro e w' ⟨rfl,rfl⟩
  go_wp2_with fail
  refine (HSH.out w7 B7.out).mono ?_
  rintro e w8 ⟨⟨A8,c8,A8',c8',rfl,hp8,hr8⟩,hb8⟩
  have B8:=Lib.hid (Below.andThen B7.out hb8)
  have n2:((l:Int) != (l:Int)) = false:=by simp
  clear hp8 hr8 hb8 B7
  go_wp2_with fail
  refine (nPrefix_c (HX.out.2.2.2.2.2.1.below B8.out HB (Nat.le_refl _)) (Nat.le_trans HB B8.out.size) HX.out.2.2.2.2.2.2.2.1 (by have:=HP16.out;omega)).mono ?_
  rintro e w9 ⟨h9,d9,rfl,ho9,hb9⟩
  have B9:=Lib.hid (Below.andThen B8.out hb9)
  have O9:=Lib.hid ho9
  clear ho9 hb9 B8
  go_wp2_with fail
  refine (HSH.out w9 B9.out).mono ?_
  rintro e wa ⟨⟨Aa,ca,Aa',ca',rfl,hpa,hra⟩,hba⟩
  have Ba:=Lib.hid (Below.andThen B9.out hba)
  have O9:=Lib.hid (O9.out.below hba (Nat.le_refl _))
  have Pa:=Lib.hid hpa
  clear hpa hra hba B9
  obtain ⟨A9,c9,hv9,hp9⟩:=O9.out.pts
  cases hv9
  have P9:=Lib.hid hp9
  clear hp9
  go_wp2_with fail
  refine (rsame_self (some ⟨h9,0,none⟩) Aa d9 ca pre _ _ P9.out Pa.out (Nat.le_refl _) (by have:=HP16.out;unfold maxLen;omega)).mono ?_
  rintro e wb ⟨rfl,hbb⟩
  have Bb:=Lib.hid (Below.andThen Ba.out hbb)
  clear hbb Ba O9 Pa P9 HSH f0 f1
  go_wp2_with fail
  have HKd:=rkids_c HX.out.1.1 (HX.out.2.1.below Bb.out HB (Nat.le_refl _)) (Nat.le_trans HB Bb.out.size) HX.out.2.2.2.1 HX.out.2.2.2.2.1
  rw [HN.out] at HKd
  refine HKd.mono ?_
  clear HKd
  rintro e wc ⟨A5,d5,rfl,-,hr5,hbc⟩
  have Bc:=Lib.hid (Below.andThen Bb.out hbc)
  have R5:=Lib.hid hr5
  have hks:=HX.out.2.2.2.2.2.2.2.2.2.2.2.2.1
  clear hr5 hbc Bb
  go_wp2_with fail
  go_loopw [9] (fun i wr => ∃ j:Nat,j≤ks.length∧i = .int .i64 j∧Below wc.heap.size wc wr) (fun i _ => ks.length - (intOf i).toNat)
  case atStart => exact ⟨0,Nat.zero_le _,rfl,Below.refl _ _⟩
  case round =>
    obtain ⟨j,hj,rfl,hbr⟩:=hrel
    by_cases hlt:j < ks.length
    · obtain ⟨x,hx⟩:=get_lt hlt
      have hmem:=List.mem_of_getElem? hx
      have wfk:=HX.out.1.1.kid hmem
      have hpos:=Tr.ents_pos' wfk
      obtain ⟨e,he⟩:=get_lt hpos
      have i0:=Tr.ents_at hx hpos
      rw [he,Nat.add_zero] at i0
      obtain ⟨b',off',Ax,cx,hA,-,x0,-,px,-,-⟩:=HX.out.2.1.at i0
      simp only [Option.some.injEq,Addr.mk.injEq,and_true] at hA
      obtain ⟨rfl,rfl⟩:=hA
      have hent:=wfk.entry (List.mem_of_getElem? he)
      have ha:=Tr.kid_addr HX.out.1.1 hmem (List.mem_of_getElem? he)
      obtain ⟨pb,po,hA5,hpb,hcell⟩:=R5.out.at (kidsV_get b off c ks hlt)
      rw [kidV_at b off c hx] at hcell
      subst hA5
      have hbw:=hb
      have hbwr:=Below.andThen Bc.out hbr
      have hsz:=hbwr.size
      have hszc:=Bc.out.size
      have hszr:=hbr.size
      have y0:∀ w',Below wr.heap.size wr w'→w'.cell? ⟨b,off + Tr.offK ks j * 2,none⟩ = some (.slice Ax e.1.length cx):=fun w' hb' => ((hbwr.trans (hb'.mono hsz)).cell (p:=⟨b,off + Tr.offK ks j * 2,none⟩) (Nat.lt_of_lt_of_le hbw HB)).trans x0
      have y1:∀ w',Below wr.heap.size wr w'→w'.cell? ⟨pb,po + j,none⟩ = some (.slice (some ⟨b,off + Tr.offK ks j * 2,none⟩) x.2.ents.length (c - Tr.offK ks j)):=fun w' hb' => ((hbr.trans (hb'.mono hszr)).cell (p:=⟨pb,po + j,none⟩) hpb).trans hcell
      have HY:=Lib.hid (And.intro hbwr (And.intro hmem (And.intro hx (And.intro px (And.intro hent ha)))))
      have m1:(0:Int)≤(j:Int):=by omega
      have m2:(j:Int) < (ks.length:Int):=by omega
      have m3:(0:Int) < (x.2.ents.length:Int):=by omega
      have hb0:Below wr.heap.size wr wr:=Below.refl _ _
      have HL:Hid (∀ w1,Below wr.heap.size wr w1→Calls Tryz.prog 120 #[.pointer (some ⟨g,0,none⟩)] w1 fun e w' => e = .returned (.int .i64 (l:Int))∧w1 = w'):=Lib.hid fun w1 hb1 => nLevel_c (HX.out.2.2.2.2.2.1.below (hbwr.trans (hb1.mono hsz)) HB (Nat.le_refl _))
      have HA:Hid (∀ w1,Below wr.heap.size wr w1→Calls Tryz.prog 123 #[.slice Ax e.1.length cx,.int .i64 (l:Int)] w1 fun e w' => e = .returned (.int .i64 (x.1:Int))∧w1 = w'):=Lib.hid fun w1 hb1 => by
        rw [← ha];exact raddr_c Ax cx e.1 l B w1 (px.below' (hbwr.trans (hb1.mono hsz)) HB) (by rw [hent.1];exact HX.out.2.2.2.2.2.2.2.2.2.2.2.2.2) (by rw [hent.1];exact HX.out.2.2.2.2.2.2.2.2.2.1) HX.out.2.2.2.2.2.2.2.2.2.2.2.1
      have HKK:Hid (∀ w1,Below wr.heap.size wr w1→Calls Tryz.prog 122 #[.pointer (some ⟨g,0,none⟩),.int .i64 (x.1:Int)] w1 fun e w' => e = .returned (.pointer (some ⟨x.2.blk,0,none⟩))∧∃ n,w' = w1.drewN n):=Lib.hid fun w1 hb1 => by
        have hw:Sl.Wf k ks:=by cases HX.out.1.1 with | br _ _ _ _ _ hw => exact hw
        refine nKid_br (HX.out.2.2.2.2.2.1.below (hbwr.trans (hb1.mono hsz)) HB (Nat.le_refl _)) (HX.out.2.2.2.2.2.2.1.below (hbwr.trans (hb1.mono hsz)) HB (Nat.le_refl _)) (x.1:Int) _ ?_
        rw [rootP_kid,(Sl.get_iff hw.srt).2 hmem]
        rfl
      have HI:Hid (∀ w1,Below wr.heap.size wr w1→Calls Tryz.prog 61 #[.pointer (some ⟨x.2.blk,0,none⟩),.slice (some ⟨b,off + Tr.offK ks j * 2,none⟩) x.2.ents.length (c - Tr.offK ks j)] w1 fun e w' => e = .returned (.bool true)∧Below w1.heap.size w1 w'):=Lib.hid fun w1 hb1 => by
        have hle:=Tr.offK_le hx
        have hpart:=(HX.out.2.1.part (Tr.offK ks j) x.2.ents.length hle).below (hbwr.trans (hb1.mono hsz)) HB (Nat.le_refl _)
        rw [Tr.ents_part hx] at hpart
        have hNN:=HN.out
        exact HX.out.2.2.2.2.2.2.2.2.2.2.1 x hmem w1 B b (off + Tr.offK ks j * 2) (c - Tr.offK ks j) ((HX.out.1.kid hmem).below (hbwr.trans (hb1.mono hsz)) HB (Nat.le_refl _)) hpart (Nat.le_trans HB (Nat.le_trans hsz hb1.size)) (by have:=HX.out.2.2.2.1;omega) (by have:=HX.out.2.2.2.2.1;omega)
      clear hmem wfk i0 x0 px hent ha hcell hx he hbwr
      go_wp2_with fail
      go_region_held3 (fun w' => Below wr.heap.size wr w') (((repeat first | refine bD ?_ | with_reducible refine bN ?_ | refine bA ?_ | refine bS ?_);first | exact bR | assumption | exact bN bR | exact bN (bN bR)))
        ((first
          | (go_at_call 120;refine (HL.out _ (show Below wr.heap.size wr _ by ((repeat first | refine bD ?_ | with_reducible refine bN ?_ | refine bA ?_ | refine bS ?_);first | exact bR | assumption | exact bN bR | exact bN (bN bR)))).mono ?_;rintro e w' ⟨rfl,rfl⟩)
          | (go_at_call 123;refine (HA.out _ (show Below wr.heap.size wr _ by ((repeat first | refine bD ?_ | with_reducible refine bN ?_ | refine bA ?_ | refine bS ?_);first | exact bR | assumption | exact bN bR | exact bN (bN bR)))).mono ?_;rintro e w' ⟨rfl,rfl⟩)
          | (go_at_call 122;refine (HKK.out _ (show Below wr.heap.size wr _ by ((repeat first | refine bD ?_ | with_reducible refine bN ?_ | refine bA ?_ | refine bS ?_);first | exact bR | assumption | exact bN bR | exact bN (bN bR)))).mono ?_;rintro e w' ⟨rfl,n,rfl⟩)
          | (go_at_call 61;refine (HI.out _ (show Below wr.heap.size wr _ by ((repeat first | refine bD ?_ | with_reducible refine bN ?_ | refine bA ?_ | refine bS ?_);first | exact bR | assumption | exact bN bR | exact bN (bN bR)))).mono ?_;rintro e wd ⟨rfl,hbd⟩;have hbD:=Below.trans (show Below wr.heap.size wr _ by ((repeat first | refine bD ?_ | with_reducible refine bN ?_ | refine bA ?_ | refine bS ?_);first | exact bR | assumption | exact bN bR | exact bN (bN bR))) (hbd.mono (Below.size (show Below wr.heap.size wr _ by ((repeat first | refine bD ?_ | with_reducible refine bN ?_ | refine bA ?_ | refine bS ?_);first | exact bR | assumption | exact bN bR | exact bN (bN bR)))));clear hbd)))
      clear y0 y1
      go_wp2_with fail
      go_roundw
      case rel => exact ⟨j + 1,by omega,by go_num,hbr.trans (hbD.mono hszr)⟩
      case measure => simp [intOf];omega
    · go_wp2_with fail
      go_ret
      exact ⟨rfl,Below.andThen Bc.out hbr⟩
theorem is_upto (k:Nat):∀ (n:Nat) (t:T),SizeOf.sizeOf t < n→IsTold k t
  | 0,_,hs => by omega
  | n + 1,t,hs => by
    intro w B b off c hn h hB hc hl
    cases t with
    | ent g p v =>
      rw [Tr.ents_ent] at h ⊢
      exact is_ent hn h hB
    | br g l pre ks =>
      have he:(T.br g l pre ks).ents = Tr.entsL ks:=Tr.ents_br _ _ _ _
      rw [he] at h hc hl ⊢
      exact is_br hn h hB hc hl fun x hx => is_upto k n x.2 (by have:=Tr.kid_lt hx g l pre;omega)
theorem is_all (k:Nat) (t:T):IsTold k t:=is_upto k _ t (Nat.lt_succ_self _)
end Go.Proofs.YtkeepngaaleakaaGreatDoor
