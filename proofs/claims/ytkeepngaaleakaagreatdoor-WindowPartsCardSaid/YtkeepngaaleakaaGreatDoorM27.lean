import Derived.Test.YtkeepngaaleakaaGreatDoorM25
import Derived.Test.YtkeepngaaleakaaGreatDoorM26
namespace Go.Proofs.YtkeepngaaleakaaGreatDoor
open Go.ChangeShapes Go.WideShapes Go.ChangeAt Go.RowKit
open Tr (T S4 Ent Shp)
theorem all_wf {k:Nat} {t:T} (h:Tr.Wf k t):∀ s∈t.all,Tr.Wf k s:=by
  induction h with
  | ent g p v k1 k16 hl ho hv =>
    intro s hs
    rw [Tr.all_ent] at hs
    simp only [List.mem_singleton] at hs
    subst hs
    exact .ent g p v k1 k16 hl ho hv
  | br g l pre ks h63 hw h2 hl ho hk hc ih =>
    intro s hs
    rw [Tr.all_br] at hs
    simp only [List.mem_cons,Tr.allK,List.mem_flatMap] at hs
    rcases hs with rfl | ⟨x,hx,hs⟩
    · exact .br g l pre ks h63 hw h2 hl ho hk hc
    · exact ih x hx s hs
theorem shapesO_small {k:Nat} {o:Option T} (h:∀ t,o = some t→Tr.Wf k t):∀ s∈Tr.shapesO k o,s.pre.length≤65536∧s.ks.length≤65536:=by
  intro s hs
  cases o with
  | none => simp [Tr.shapesO,Tr.allO] at hs
  | some t =>
    simp only [Tr.shapesO,Tr.allO,List.mem_map] at hs
    obtain ⟨u,hu,rfl⟩:=hs
    have hw:=all_wf (h t rfl) u hu
    refine ⟨by simp only [Tr.shT];rw [hw.len];have:=hw.k16;omega,?_⟩
    simp only [Tr.shT,Sl.keys_length]
    cases hw with
    | ent => simp [T.ks,kidL]
    | br _ _ _ _ _ hw => rw [show ∀ ks:List (Nat × T),(kidL ks).length = ks.length from fun ks => by simp [kidL]];exact hw.len16
theorem ShRow.shps {base B:Nat} {w:World} {D:Option Addr} {d:Nat} {L:List Shp} (h:ShRow base B w (.slice D L.length d) L):Shps w D L:=by
  obtain ⟨F,h1,-⟩:=h
  obtain ⟨A,c,hv,-,hl⟩:=OwnL.rd (shQ_ok w F) h1
  simp only [Value.slice.injEq] at hv
  obtain ⟨rfl,-,-⟩:=hv
  exact ⟨F,_,hl,Nat.le_refl _⟩
theorem Shps.below {w w':World} {A:Option Addr} {L:List Shp} (h:Shps w A L) (hb:Below w.heap.size w w'):Shps w' A L:=by
  obtain ⟨D,R,h1,h2⟩:=h
  refine ⟨fun _ => True,R,fun hn => ?_,Nat.le_trans h2 hb.size⟩
  obtain ⟨b,off,hA,hlt,hq⟩:=h1 hn
  refine ⟨b,off,hA,hlt,fun i s hs => ?_⟩
  obtain ⟨C,c,C',c',e0,e1,e2,e3,e4,⟨B1,p⟩,⟨B2,r⟩,-,-⟩:=hq i s hs
  have hbw:b < w.heap.size:=by omega
  exact ⟨C,c,C',c',(hb.cell (p:=⟨b,off + i * 5 + 0,none⟩) hbw).trans e0,(hb.cell (p:=⟨b,off + i * 5 + 1,none⟩) hbw).trans e1,(hb.cell (p:=⟨b,off + i * 5 + 2,none⟩) hbw).trans e2,(hb.cell (p:=⟨b,off + i * 5 + 3,none⟩) hbw).trans e3,(hb.cell (p:=⟨b,off + i * 5 + 4,none⟩) hbw).trans e4,
    ⟨_,(ptsW p).below' hb (Nat.le_refl _)⟩,⟨_,(rdVW r).below hb (Nat.le_refl _) (Nat.le_refl _)⟩,fun _ _ _ => trivial,fun _ _ _ => trivial⟩
theorem rshapes_o {w:World} {k:Nat} {o:Option T} {A:Option Addr} {c:Nat} (wf:∀ t,o = some t→Tr.Wf k t) (h:Ents w w.heap.size A (Tr.entsO o)) (hc:(Tr.entsO o).length≤c) (hl:(Tr.entsO o).length≤1000000) :
    Calls Tryz.prog 59 #[.slice A (Tr.entsO o).length c] w fun e w' => ∃ D d,e = .returned (.slice D (Tr.shapesO k o).length d)∧Shps w' D (Tr.shapesO k o)∧Below w.heap.size w w':=by
  cases o with
  | none =>
    refine (rshapes_nil A c w).mono ?_
    rintro e w' ⟨rfl,rfl⟩
    exact ⟨none,0,rfl,⟨fun _ => True,0,fun hn => absurd rfl hn,Nat.zero_le _⟩,Below.refl _ _⟩
  | some t =>
    have hpos:=Tr.ents_pos' (wf t rfl)
    obtain ⟨b,off,hA,-⟩:=h (by intro e;have e':t.ents = []:=e;rw [e'] at hpos;simp at hpos)
    subst hA
    refine (rshapes_all k t w w.heap.size b off c (wf t rfl) h (Nat.le_refl _) hc hl).mono ?_
    rintro e w' ⟨D,d,F,rfl,h1,h2,h3⟩
    exact ⟨D,d,rfl,ShRow.shps (base:=w.heap.size) (B:=w.heap.size) ⟨F,h1,h2⟩,h3⟩
set_option maxRecDepth 100000 in
theorem is7_c {w:World} {b k:Nat} {o:Option T} {A:Option Addr} {c:Nat} (h:TreeAt w w.heap.size b k o) (hT:∀ w',Below w.heap.size w w'→Tz w') (hL:Ents w w.heap.size A (Tr.entsO o)) (hc:(Tr.entsO o).length≤c) (hl:(Tr.entsO o).length≤1000000) :
    Calls Tryz.prog 21 #[.pointer (some ⟨b,0,none⟩),.int .i64 (k:Int),.slice A (Tr.entsO o).length c] w fun e w' => e = .returned (.bool true)∧Below w.heap.size w w':=by
  have hwf:∀ t,o = some t→Tr.Wf k t:=fun t e => (h.2.2.2.2 t e).1
  have hall:=Tr.allO_len hwf
  have HX:=Lib.hid (And.intro h (And.intro hT (And.intro hL (And.intro hc (And.intro hl (And.intro hwf hall))))))
  have HSm:=Lib.hid (shapesO_small hwf)
  have hSl:Hid ((Tr.shapesO k o).length≤2000000):=Lib.hid (by rw [Tr.shapesO,List.length_map];omega)
  obtain ⟨N,hN⟩:∃ N,(Tr.entsO o).length = N:=⟨_,rfl⟩
  have HN:=Lib.hid hN
  rw [hN] at hc hl ⊢
  have n1:((k:Int) != (k:Int)) = false:=by simp
  have n2:((N:Int) != (N:Int)) = false:=by simp
  clear h hT hL hwf hall hN
  go_enter Tryz.func21,Tryz.ntmps21
  go_wp2_with fail
  refine (tK_c HX.out.1.2.2.2.1).mono ?_
  rintro e w' ⟨rfl,rfl⟩
  go_wp2_with fail
  have HLn:=tLen_c HX.out.1 (Nat.le_refl _) (by have:=HX.out.2.2.2.2.1;omega)
  rw [HN.out] at HLn
  refine HLn.mono ?_
  clear HLn
  rintro e w1 ⟨rfl,hb1⟩
  have B1:=Lib.hid hb1
  clear hb1
  go_wp2_with fail
  refine (tShapes_c (HX.out.1.below B1.out (Nat.le_refl _) B1.out.size) (Nat.le_refl _) (fun w' hb => HX.out.2.1 w' (Below.andThen B1.out hb)) (by have:=HX.out.2.2.2.2.2.2;have:=HX.out.2.2.2.2.1;omega)).mono ?_
  rintro e w2 ⟨D2,d2,rfl,hs2,hb2⟩
  have B2:=Lib.hid (Below.andThen B1.out hb2)
  have S2:=Lib.hid hs2.shps
  clear hs2 hb2
  go_wp2_with fail
  have HR:=rshapes_o (A:=A) (c:=c) HX.out.2.2.2.2.2.1 (HX.out.2.2.1.below B2.out (Nat.le_refl _) B2.out.size) HX.out.2.2.2.1 HX.out.2.2.2.2.1
  rw [HN.out] at HR
  refine HR.mono ?_
  clear HR
  rintro e w3 ⟨D3,d3,rfl,hs3,hb3⟩
  have S2:=Lib.hid (S2.out.below hb3)
  have B3:=Lib.hid (Below.andThen B2.out hb3)
  have S3:=Lib.hid hs3
  clear hs3 hb3
  go_wp2_with fail
  refine (rsameShapes_c S2.out S3.out HSm.out (by have:=hSl.out;omega)).mono ?_
  rintro e w4 ⟨rfl,hb4⟩
  have B4:=Lib.hid (Below.andThen B3.out hb4)
  clear hb4 S2 S3
  cases o with
  | none =>
    have hN0:N = 0:=HN.out.symm
    subst hN0
    go_wp2_with (go_at_call 60;refine (tRoot_c (HX.out.1.2.2.2.1.below B4.out HX.out.1.1)).mono ?_;rintro e w' ⟨rfl,rfl⟩)
    go_ret
    exact ⟨rfl,B4.out⟩
  | some t =>
    have hpos:=Tr.ents_pos' (HX.out.2.2.2.2.2.1 t rfl)
    have hN0:0 < N:=by have:=HN.out;simp only [Tr.entsO] at this;omega
    have n3:((N:Int) == 0) = false:=by rw [beq_eq_false_iff_ne];omega
    obtain ⟨pb,po,hA,-⟩:=HX.out.2.2.1 (by intro e;have e':t.ents = []:=e;rw [e'] at hpos;simp at hpos)
    subst hA
    have HI:=is_all k t w4 w4.heap.size pb po c (((HX.out.1.2.2.2.2 t rfl).below B4.out (Nat.le_refl _) B4.out.size)) (HX.out.2.2.1.below B4.out (Nat.le_refl _) B4.out.size) (Nat.le_refl _) HX.out.2.2.2.1 HX.out.2.2.2.2.1
    rw [show t.ents.length = N from HN.out] at HI
    have HI:=Lib.hid HI
    have HRt:=Lib.hid (tRoot_c (HX.out.1.2.2.2.1.below B4.out HX.out.1.1))
    simp only [rootP] at HRt
    clear hpos
    go_wp2_with (first
      | (go_at_call 60;refine HRt.out.mono ?_;rintro e w' ⟨rfl,rfl⟩)
      | (go_at_call 61;refine HI.out.mono ?_;rintro e w5 ⟨rfl,hb5⟩))
    go_ret
    exact ⟨rfl,Below.andThen B4.out hb5⟩
def exL:List Ent:=[([4,0],3),([7,3],1),([0,8],2)]
theorem exL_put:Tr.putE [4,0] 3 (Tr.putE [0,8] 2 (Tr.putE [7,3] 1 [])) = exL:=by decide +kernel
theorem tPut_new {w:World} {b k:Nat} {o:Option T} (h:TreeX w b k o) {p:List Nat} {A:Option Addr} {c:Nat} (hp:Pts w w.heap.size A p) (hl:p.length = k) (v:Nat) (hv:v < 18446744073709551616) (hN:(Tr.entsO o).length≤1000) (hg:Tr.getE (Tr.entsO o) p≠some v) :
    Calls Tryz.prog 46 #[.pointer (some ⟨b,0,none⟩),.slice A p.length c,.int .u64 (v:Int)] w fun e w' => ∃ n t,e = .returned (.tuple #[.pointer (some ⟨n,0,none⟩),.int .i64 0])∧TreeX w' n k (some t)∧t.ents = Tr.putE p v (Tr.entsO o)∧Below w.heap.size w w':=by
  refine (tPut_c h.1 (Nat.le_refl _) hp hl v hv (by omega)).mono ?_
  rintro e w' (⟨h1,-⟩ | ⟨-,n,t,rfl,⟨h1,-,h2,-,-⟩,h3⟩)
  · exact absurd h1 hg
  · exact ⟨n,t,rfl,h1,h2,h3⟩
theorem pts_two (w:World) (a b:Nat) (ha:a < 1000) (hb:b < 1000):Pts (w.alloc (.cells #[.int .u64 (a:Int),.int .u64 (b:Int)] 55)) (w.alloc (.cells #[.int .u64 (a:Int),.int .u64 (b:Int)] 55)).heap.size (some ⟨w.heap.size,0,none⟩) [a,b] :=
  pts_list (t:=55) (by intro u hu;simp at hu;omega) (heap_at w _ _ rfl)
end Go.Proofs.YtkeepngaaleakaaGreatDoor
