import Derived.Test.YtkeepngaaleakaaGreatDoorM25
import Derived.Test.YtkeepngaaleakaaGreatDoorM26
import Derived.Test.YtkeepngaaleakaaGreatDoorM18
namespace Go.Proofs.YtkeepngaaleakaaGreatDoor
open Go.ChangeShapes Go.WideShapes Go.ChangeAt Go.RowKit
open Tr (T S4 Ent Shp)
theorem all_wf {k:Nat} {t:T} (h:Tr.Wf k t):∀ s∈t.all,Tr.Wf k s:=by
  induction h with
  | ent g p v k1 k16 hl ho hv =>
    intro s hs
    rw [Tr.all_ent] at hs
    simp only [List.mem_singleton] at hs
    subst hs
    exact .ent g p v k1 k16 hl ho hv
  | br g l pre ks h63 hw h2 hl ho hk hc ih =>
    intro s hs
    rw [Tr.all_br] at hs
    simp only [List.mem_cons,Tr.allK,List.mem_flatMap] at hs
    rcases hs with rfl | ⟨x,hx,hs⟩
    · exact .br g l pre ks h63 hw h2 hl ho hk hc
    · exact ih x hx s hs
theorem shapesO_small {k:Nat} {o:Option T} (h:∀ t,o = some t→Tr.Wf k t):∀ s∈Tr.shapesO k o,s.pre.length≤65536∧s.ks.length≤65536:=by
  intro s hs
  cases o with
  | none => simp [Tr.shapesO,Tr.allO] at hs
  | some t =>
    simp only [Tr.shapesO,Tr.allO,List.mem_map] at hs
    obtain ⟨u,hu,rfl⟩:=hs
    have hw:=all_wf (h t rfl) u hu
    refine ⟨by simp only [Tr.shT];rw [hw.len];have:=hw.k16;omega,?_⟩
    simp only [Tr.shT,Sl.keys_length]
    cases hw with
    | ent => simp [T.ks,kidL]
    | br _ _ _ _ _ hw => rw [show ∀ ks:List (Nat × T),(kidL ks).length = ks.length from fun ks => by simp [kidL]];exact hw.len16
theorem ShRow.shps {base B:Nat} {w:World} {D:Option Addr} {d:Nat} {L:List Shp} (h:ShRow base B w (.slice D L.length d) L):Shps w D L:=by
  obtain ⟨F,h1,-⟩:=h
  obtain ⟨A,c,hv,-,hl⟩:=OwnL.rd (shQ_ok w F) h1
  simp only [Value.slice.injEq] at hv
  obtain ⟨rfl,-,-⟩:=hv
  exact ⟨F,_,hl,Nat.le_refl _⟩
theorem Shps.below {w w':World} {A:Option Addr} {L:List Shp} (h:Shps w A L) (hb:Below w.heap.size w w'):Shps w' A L:=by
  obtain ⟨D,R,h1,h2⟩:=h
  refine ⟨fun _ => True,R,fun hn => ?_,Nat.le_trans h2 hb.size⟩
  obtain ⟨b,off,hA,hlt,hq⟩:=h1 hn
  refine ⟨b,off,hA,hlt,fun i s hs => ?_⟩
  obtain ⟨C,c,C',c',e0,e1,e2,e3,e4,⟨B1,p⟩,⟨B2,r⟩,-,-⟩:=hq i s hs
  have hbw:b < w.heap.size:=by omega
  exact ⟨C,c,C',c',(hb.cell (p:=⟨b,off + i * 5 + 0,none⟩) hbw).trans e0,(hb.cell (p:=⟨b,off + i * 5 + 1,none⟩) hbw).trans e1,(hb.cell (p:=⟨b,off + i * 5 + 2,none⟩) hbw).trans e2,(hb.cell (p:=⟨b,off + i * 5 + 3,none⟩) hbw).trans e3,(hb.cell (p:=⟨b,off + i * 5 + 4,none⟩) hbw).trans e4,
    ⟨_,(ptsW p).below' hb (Nat.le_refl _)⟩,⟨_,(rdVW r).below hb (Nat.le_refl _) (Nat.le_refl _)⟩,fun _ _ _ => trivial,fun _ _ _ => trivial⟩
theorem rshapes_o {w:World} {k:Nat} {o:Option T} {A:Option Addr} {c:Nat} (wf:∀ t,o = some t→Tr.Wf k t) (h:Ents w w.heap.size A (Tr.entsO o)) (hc:(Tr.entsO o).length≤c) (hl:(Tr.entsO o).length≤1000000) :
    Calls Tryz.prog 59 #[.slice A (Tr.entsO o).length c] w fun e w' => ∃ D d,e = .returned (.slice D (Tr.shapesO k o).length d)∧Shps w' D (Tr.shapesO k o)∧Below w.heap.size w w':=by
  cases o with
  | none =>
    refine (rshapes_nil A c w).mono ?_
    rintro e w' ⟨rfl,rfl⟩
    exact ⟨none,0,rfl,⟨fun _ => True,0,fun hn => absurd rfl hn,Nat.zero_le _⟩,Below.refl _ _⟩
  | some t =>
    have hpos:=Tr.ents_pos' (wf t rfl)
    obtain ⟨b,off,hA,-⟩:=h (by intro e;have e':t.ents = []:=e;rw [e'] at hpos;simp at hpos)
    subst hA
    refine (rshapes_all k t w w.heap.size b off c (wf t rfl) h (Nat.le_refl _) hc hl).mono ?_
    rintro e w' ⟨D,d,F,rfl,h1,h2,h3⟩
    exact ⟨D,d,rfl,ShRow.shps (base:=w.heap.size) (B:=w.heap.size) ⟨F,h1,h2⟩,h3⟩
set_option maxRecDepth 100000 in
theorem is7_c {w:World} {b k:Nat} {o:Option T} {A:Option Addr} {c:Nat} (h:TreeAt w w.heap.size b k o) (hT:∀ w',Below w.heap.size w w'→Tz w') (hL:Ents w w.heap.size A (Tr.entsO o)) (hc:(Tr.entsO o).length≤c) (hl:(Tr.entsO o).length≤1000000) :
    Calls Tryz.prog 21 #[.pointer (some ⟨b,0,none⟩),.int .i64 (k:Int),.slice A (Tr.entsO o).length c] w fun e w' => e = .returned (.bool true)∧Below w.heap.size w w':=by
  have hwf:∀ t,o = some t→Tr.Wf k t:=fun t e => (h.2.2.2.2 t e).1
  have hall:=Tr.allO_len hwf
  have HX:=Lib.hid (And.intro h (And.intro hT (And.intro hL (And.intro hc (And.intro hl (And.intro hwf hall))))))
  have HSm:=Lib.hid (shapesO_small hwf)
  have hSl:Hid ((Tr.shapesO k o).length≤2000000):=Lib.hid (by rw [Tr.shapesO,List.length_map];omega)
  obtain ⟨N,hN⟩:∃ N,(Tr.entsO o).length = N:=⟨_,rfl⟩
  have HN:=Lib.hid hN
  rw [hN] at hc hl ⊢
  have n1:((k:Int) != (k:Int)) = false:=by simp
  have n2:((N:Int) != (N:Int)) = false:=by simp
  clear h hT hL hwf hall hN
  go_enter Tryz.func21,Tryz.ntmps21
  go_wp2_with fail
  refine (tK_c HX.out.1.2.2.2.1).mono ?_
  rintro e w' ⟨rfl,rfl⟩
  go_wp2_with fail
  have HLn:=tLen_c HX.out.1 (Nat.le_refl _) (by have:=HX.out.2.2.2.2.1;omega)
  rw [HN.out] at HLn
  refine HLn.mono ?_
  clear HLn
  rintro e w1 ⟨rfl,hb1⟩
  have B1:=Lib.hid hb1
  clear hb1
  go_wp2_with fail
  refine (tShapes_c (HX.out.1.below B1.out (Nat.le_refl _) B1.out.size) (Nat.le_refl _) (fun w' hb => HX.out.2.1 w' (Below.andThen B1.out hb)) (by have:=HX.out.2.2.2.2.2.2;have:=HX.out.2.2.2.2.1;omega)).mono ?_
  rintro e w2 ⟨D2,d2,rfl,hs2,hb2⟩
  have B2:=Lib.hid (Below.andThen B1.out hb2)
  have S2:=Lib.hid hs2.shps
  clear hs2 hb2
  go_wp2_with fail
  have HR:=rshapes_o (A:=A) (c:=c) HX.out.2.2.2.2.2.1 (HX.out.2.2.1.below B2.out (Nat.le_refl _) B2.out.size) HX.out.2.2.2.1 HX.out.2.2.2.2.1
  rw [HN.out] at HR
  refine HR.mono ?_
  clear HR
  rintro e w3 ⟨D3,d3,rfl,hs3,hb3⟩
  have S2:=Lib.hid (S2.out.below hb3)
  have B3:=Lib.hid (Below.andThen B2.out hb3)
  have S3:=Lib.hid hs3
  clear hs3 hb3
  go_wp2_with fail
  refine (rsameShapes_c S2.out S3.out HSm.out (by have:=hSl.out;omega)).mono ?_
  rintro e w4 ⟨rfl,hb4⟩
  have B4:=Lib.hid (Below.andThen B3.out hb4)
  clear hb4 S2 S3
  cases o with
  | none =>
    have hN0:N = 0:=HN.out.symm
    subst hN0
    go_wp2_with (go_at_call 60;refine (tRoot_c (HX.out.1.2.2.2.1.below B4.out HX.out.1.1)).mono ?_;rintro e w' ⟨rfl,rfl⟩)
    go_ret
    exact ⟨rfl,B4.out⟩
  | some t =>
    have hpos:=Tr.ents_pos' (HX.out.2.2.2.2.2.1 t rfl)
    have hN0:0 < N:=by have:=HN.out;simp only [Tr.entsO] at this;omega
    have n3:((N:Int) == 0) = false:=by rw [beq_eq_false_iff_ne];omega
    obtain ⟨pb,po,hA,-⟩:=HX.out.2.2.1 (by intro e;have e':t.ents = []:=e;rw [e'] at hpos;simp at hpos)
    subst hA
    have HI:=is_all k t w4 w4.heap.size pb po c (((HX.out.1.2.2.2.2 t rfl).below B4.out (Nat.le_refl _) B4.out.size)) (HX.out.2.2.1.below B4.out (Nat.le_refl _) B4.out.size) (Nat.le_refl _) HX.out.2.2.2.1 HX.out.2.2.2.2.1
    rw [show t.ents.length = N from HN.out] at HI
    have HI:=Lib.hid HI
    have HRt:=Lib.hid (tRoot_c (HX.out.1.2.2.2.1.below B4.out HX.out.1.1))
    simp only [rootP] at HRt
    clear hpos
    go_wp2_with (first
      | (go_at_call 60;refine HRt.out.mono ?_;rintro e w' ⟨rfl,rfl⟩)
      | (go_at_call 61;refine HI.out.mono ?_;rintro e w5 ⟨rfl,hb5⟩))
    go_ret
    exact ⟨rfl,Below.andThen B4.out hb5⟩
theorem tPut_new {w:World} {b k:Nat} {o:Option T} (h:TreeX w b k o) {p:List Nat} {A:Option Addr} {c:Nat} (hp:Pts w w.heap.size A p) (hl:p.length = k) (v:Nat) (hv:v < 18446744073709551616) (hN:(Tr.entsO o).length≤1000) (hg:Tr.getE (Tr.entsO o) p≠some v) :
    Calls Tryz.prog 46 #[.pointer (some ⟨b,0,none⟩),.slice A p.length c,.int .u64 (v:Int)] w fun e w' => ∃ n t,e = .returned (.tuple #[.pointer (some ⟨n,0,none⟩),.int .i64 0])∧TreeX w' n k (some t)∧t.ents = Tr.putE p v (Tr.entsO o)∧Below w.heap.size w w':=by
  refine (tPut_c h.1 (Nat.le_refl _) hp hl v hv (by omega)).mono ?_
  rintro e w' (⟨h1,-⟩ | ⟨-,n,t,rfl,⟨h1,-,h2,-,-⟩,h3⟩)
  · exact absurd h1 hg
  · exact ⟨n,t,rfl,h1,h2,h3⟩
theorem pts_two (w:World) (a b:Nat) (ha:a < 1000) (hb:b < 1000):Pts (w.alloc (.cells #[.int .u64 (a:Int),.int .u64 (b:Int)] 55)) (w.alloc (.cells #[.int .u64 (a:Int),.int .u64 (b:Int)] 55)).heap.size (some ⟨w.heap.size,0,none⟩) [a,b] :=
  pts_list (t:=55) (by intro u hu;simp at hu;omega) (heap_at w _ _ rfl)
end Go.Proofs.YtkeepngaaleakaaGreatDoor
namespace Go.Proofs.YtkeepngaaleakaaGreatDoor
open Go.ChangeShapes Go.WideShapes Go.ChangeAt Go.RowKit
open Tr (T S4 Ent)
set_option maxRecDepth 100000 in
theorem rheavy7_c {w:World} {B:Nat} {A:Option Addr} {c:Nat} {L:List ActT} (h:ActsT w B A L) (hl:L.length≤maxLen) (m:Nat) (r:Bool) (hr:decide (m < L.length∨∃ e∈L,40 < e.p.length) = r) :
    Calls Tryz.prog 14 #[.slice A L.length c,.int .i64 (m:Int)] w fun e w' => e = .returned (.bool r)∧w = w':=by
  have HX:=Lib.hid (And.intro h hr)
  have hm:L.length≤9223372036854775807:=by unfold maxLen at hl;omega
  clear h hr hl
  by_cases hbig:m < L.length
  · have d1:decide ((m:Int) < (L.length:Int)) = true:=decide_eq_true (by omega)
    have hrt:Hid (r = true):=Lib.hid (by rw [← HX.out.2];exact decide_eq_true (.inl hbig))
    have d1':decide (m < L.length) = true:=decide_eq_true hbig
    go_enter Tryz.func14,Tryz.ntmps14
    go_wp2
    go_ret
    exact ⟨by rw [hrt.out];rfl,rfl⟩
  · have d1:decide ((m:Int) < (L.length:Int)) = false:=decide_eq_false (by omega)
    have d1':decide (m < L.length) = false:=decide_eq_false hbig
    have HB:=Lib.hid hbig
    go_enter Tryz.func14,Tryz.ntmps14
    go_wp2
    go_loopw [5] (fun i wr => ∃ j:Nat,j≤L.length∧i = .int .i64 j∧wr = w∧∀ q e,q < j→L[q]? = some e→¬ 40 < e.p.length) (fun i _ => L.length - (intOf i).toNat)
    case atStart => exact ⟨0,Nat.zero_le _,(by first | rfl | trivial),(by first | rfl | trivial),fun m e hm => by omega⟩
    case round =>
      obtain ⟨j,hj,rfl,rfl,hbe⟩:=hrel
      by_cases hlt:j < L.length
      · obtain ⟨e,he⟩:=get_lt hlt
        obtain ⟨b,off,A1,c1,hA,-,-,x0,-,-,-,-⟩:=HX.out.1.at he
        subst hA
        have m1:(0:Int)≤(j:Int):=by omega
        have m2:(j:Int) < (L.length:Int):=by omega
        have HY:=Lib.hid (And.intro he hbe)
        by_cases hc:40 < e.p.length
        · have d2:decide ((40:Int) < (e.p.length:Int)) = true:=decide_eq_true (by omega)
          have hrt:Hid (r = true):=Lib.hid (by rw [← HX.out.2];exact decide_eq_true (.inr ⟨e,List.mem_of_getElem? he,hc⟩))
          clear he hbe hc
          go_wp2_with fail
          go_ret
          exact ⟨by rw [hrt.out];rfl,rfl⟩
        · have d2:decide ((40:Int) < (e.p.length:Int)) = false:=decide_eq_false (by omega)
          have hc:=Lib.hid hc
          clear he hbe
          go_wp2_with fail
          go_roundw
          case rel =>
            refine ⟨j + 1,by omega,by go_num,(by first | rfl | trivial),fun q e' hq he' => ?_⟩
            by_cases c:q < j
            · exact HY.out.2 q e' c he'
            · have:q = j:=by omega
              subst this
              rw [HY.out.1] at he'
              cases he'
              exact hc.out
          case measure => simp [intOf];omega
      · have hrf:Hid (r = false):=Lib.hid (by
          rw [← HX.out.2]
          refine decide_eq_false ?_
          rintro (h | ⟨e,he,h40⟩)
          · exact HB.out h
          · obtain ⟨q,hq⟩:=List.mem_iff_getElem?.1 he
            exact hbe q e (by have:=lt_get hq;omega) hq h40)
        clear hbe
        go_wp2_with fail
        go_ret
        exact ⟨by rw [hrf.out];rfl,rfl⟩
def heavyA (m:Nat) (L:List ActT):Bool:=decide (m < L.length∨∃ a∈L,40 < a.p.length)
theorem heavyA_few {m:Nat} {L:List ActT} (h:heavyA m L = false):L.length≤m:=by
  simp only [heavyA,decide_eq_false_iff_not,not_or] at h
  omega
theorem dim_o {w:World} {k b:Nat} {o:Option T} (h:TreeX w b k o):Tr.Dim k (Tr.entsO o)∧Tr.ZS (Tr.entsO o):=by
  cases o with
  | none => exact ⟨fun e he => (by cases he),List.Pairwise.nil⟩
  | some t => exact ⟨(h.1.2.2.2.2 t rfl).1.dim,(h.1.2.2.2.2 t rfl).1.zs⟩
theorem is7_n {w:World} {b k n c:Nat} {o:Option T} {A:Option Addr} {L:List Ent} (h:TreeX w b k o) (hT:∀ w',Below w.heap.size w w'→Tz w') (hL:Ents w w.heap.size A L) (he:Tr.entsO o = L) (hn:L.length = n) (hc:n≤c) (hl:n≤1000000) :
    Calls Tryz.prog 21 #[.pointer (some ⟨b,0,none⟩),.int .i64 (k:Int),.slice A n c] w fun e w' => e = .returned (.bool true)∧Below w.heap.size w w':=by
  subst he
  subst hn
  exact is7_c h.1 hT hL hc hl
end Go.Proofs.YtkeepngaaleakaaGreatDoor
