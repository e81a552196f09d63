import Derived.Test.YtkeepngaaleakaaGreatDoorM09
namespace Go.Proofs.YtkeepngaaleakaaGreatDoor.Sn
open Go.ChangeShapes Go.WideShapes Go.ChangeAt Go.RowKit
theorem keys_with (L:Al) (i a:Nat) (x:Option Addr):(u16V (Sl.keys L)).take i ++ [Value.int .u16 (a:Int)] ++ (u16V (Sl.keys L)).drop i = u16V (Sl.keys (L.take i ++ (a,x) :: L.drop i)):=by
  simp [u16V,Sl.keys,List.map_append,List.map_take,List.map_drop]
theorem things_with (L:Al) (i a:Nat) (x:Option Addr):(elV (Sl.things L)).take i ++ [(Value.pointer (x))] ++ (elV (Sl.things L)).drop i = elV (Sl.things (L.take i ++ (a,x) :: L.drop i)):=by
  simp [elV,Sl.things,List.map_append,List.map_take,List.map_drop]
set_option maxRecDepth 100000 in
set_option maxHeartbeats 8000000 in
theorem sWithCell_c {w:World} {B b k:Nat} {L:Al} (wf:Sl.Wf k L) (h:Sp w B b k L) (hB:B≤w.heap.size) (i a:Nat) (x:Option Addr) (hi:i≤L.length) (ha:a < 65536) :
    Calls Tryz.prog 247 #[.pointer (some ⟨b,0,none⟩),.int .i64 (i:Int),.int .i64 (a:Int),(Value.pointer (x))] w fun e w' => ∃ g,e = .returned (.pointer (some ⟨g,0,none⟩))∧Sp w' w'.heap.size g k (L.take i ++ (a,x) :: L.drop i)∧Below w.heap.size w w':=by
  obtain ⟨hbB,A,c,C,c',h0,h1,h2,h3,h4,h5,hA,hC⟩:=h
  have hlen:=wf.len16
  obtain ⟨A1,ea1,ra1⟩:=cut_hi 275 307 Ch.und Ch.info A L.length c i (by omega) h4
  obtain ⟨A2,ea2,ra2⟩:=cut_lo 275 307 Ch.und Ch.info A L.length c i (by omega) h4
  obtain ⟨C1,ec1,rc1⟩:=cut_hi 144 81 Cn.und Cn.info C L.length c' i (by omega) h5
  obtain ⟨C2,ec2,rc2⟩:=cut_lo 144 81 Cn.und Cn.info C L.length c' i (by omega) h5
  have kA:=u16V_length (Sl.keys L)
  have kC:=elV_length (Sl.things L)
  rw [Sl.keys_length] at kA
  rw [Sl.things_length] at kC
  have HP:Hid (Ch.Part w B (.slice A1 i c,(u16V (Sl.keys L)).take i)∧Ch.Part w B (.slice A2 (L.length - i) (c - i),(u16V (Sl.keys L)).drop i)∧Cn.Part w B (.slice C1 i c',(elV (Sl.things L)).take i)∧Cn.Part w B (.slice C2 (L.length - i) (c' - i),(elV (Sl.things L)).drop i)):=Lib.hid
    ⟨⟨A1,c,by simp [kA];omega,ra1 w B _ kA hA,fun x hx => u16V_one _ x (List.mem_of_mem_take hx)⟩,⟨A2,c - i,by simp [kA],ra2 w B _ kA hA,fun x hx => u16V_one _ x (List.mem_of_mem_drop hx)⟩,
     ⟨C1,c',by simp [kC];omega,rc1 w B _ kC hC.rd,fun x hx => elV_one _ x (List.mem_of_mem_take hx)⟩,⟨C2,c' - i,by simp [kC],rc2 w B _ kC hC.rd,fun x hx => elV_one _ x (List.mem_of_mem_drop hx)⟩⟩
  have Hlen:Hid (((u16V (Sl.keys L)).take i).length + [Value.int .u16 (a:Int)].length + ((u16V (Sl.keys L)).drop i).length≤1000000∧((elV (Sl.things L)).take i).length + [(Value.pointer (x))].length + ((elV (Sl.things L)).drop i).length≤1000000):=Lib.hid ⟨by simp [kA];omega,by simp [kC];omega⟩
  have hwr:IntKind.u16.wrap (a:Int) = (a:Int):=by simp [IntKind.wrap,IntKind.signed,IntKind.bits];omega
  have q0:∀ w',Below w.heap.size w w'→w'.cell? ⟨b,0,none⟩ = some (.int .i64 (k:Int)):=fun w' hb => (hb.cell (p:=⟨b,0,none⟩) (by show b < _;omega)).trans h0
  have q2:∀ w',Below w.heap.size w w'→w'.cell? ⟨b,2,none⟩ = some (.slice A L.length c):=fun w' hb => (hb.cell (p:=⟨b,2,none⟩) (by show b < _;omega)).trans h2
  have q3:∀ w',Below w.heap.size w w'→w'.cell? ⟨b,3,none⟩ = some (.slice C L.length c'):=fun w' hb => (hb.cell (p:=⟨b,3,none⟩) (by show b < _;omega)).trans h3
  have Hk:=Lib.hid (And.intro (keys_with L i a x) (things_with L i a x))
  obtain ⟨n1,hn1⟩:∃ n,((u16V (Sl.keys L)).take i ++ [Value.int .u16 (a:Int)] ++ (u16V (Sl.keys L)).drop i).length = n:=⟨_,rfl⟩
  obtain ⟨n2,hn2⟩:∃ n,((elV (Sl.things L)).take i ++ [(Value.pointer (x))] ++ (elV (Sl.things L)).drop i).length = n:=⟨_,rfl⟩
  have Hn:=Lib.hid (And.intro hn1 hn2)
  clear ra1 ra2 rc1 rc2 hA hC wf kA kC h0 h1 h2 h3 hn1 hn2
  go_enter Tryz.func247,Tryz.ntmps247
  go_wp2_with fail
  go_region_held (fun w' => Below w.heap.size w w') (((repeat (first | refine Below.drew ?_ | refine Below.alloc ?_ (by first | omega | (simp;done) | (simp;omega)) _ | refine Below.setCell ?_ (by first | omega | (simp;done) | (simp;omega)) _));first | exact Below.refl _ _ | assumption | exact below_drewN _ (Below.refl _ _)))
    (first
      | (go_at_call 257
         refine (Ch.concat3_c _ 3 _ _ _ _ [Value.int .u16 (a:Int)] _ 275 _ _ (Nat.le_refl _) (by (first | (refine heap_at _ _ _ ?_;simp;done) | (refine heap_past _ (heap_at _ _ _ ?_);simp;done) | (refine heap_past _ (heap_past _ (heap_at _ _ _ ?_));simp;done) | (refine heap_past _ (heap_past _ (heap_past _ (heap_at _ _ _ ?_)));simp;done))) ((HP.out.1.below (by ((repeat (first | refine Below.drew ?_ | refine Below.alloc ?_ (by first | omega | (simp;done) | (simp;omega)) _ | refine Below.setCell ?_ (by first | omega | (simp;done) | (simp;omega)) _));first | exact Below.refl _ _ | assumption | exact below_drewN _ (Below.refl _ _))) hB).up (by first | omega | (simp;omega))) (Ch.part_one (ty:=307) (by (first | (refine heap_at _ _ _ ?_;simp;done) | (refine heap_past _ (heap_at _ _ _ ?_);simp;done) | (refine heap_past _ (heap_past _ (heap_at _ _ _ ?_));simp;done) | (refine heap_past _ (heap_past _ (heap_past _ (heap_at _ _ _ ?_)));simp;done))) (by first | omega | (simp;done) | (simp;omega)) rfl) ((HP.out.2.1.below (by ((repeat (first | refine Below.drew ?_ | refine Below.alloc ?_ (by first | omega | (simp;done) | (simp;omega)) _ | refine Below.setCell ?_ (by first | omega | (simp;done) | (simp;omega)) _));first | exact Below.refl _ _ | assumption | exact below_drewN _ (Below.refl _ _))) hB).up (by first | omega | (simp;omega))) Hlen.out.1).mono ?_
         rintro e w2 ⟨v1,rfl,hown1,hb1⟩
         obtain ⟨D1,d1,hv1,-,-⟩:=hown1.rd
         rw [Hn.out.1] at hv1
         subst hv1
         have O1:=Lib.hid hown1
         clear hown1
         have hB1:=Below.andThen (show Below w.heap.size w _ by ((repeat (first | refine Below.drew ?_ | refine Below.alloc ?_ (by first | omega | (simp;done) | (simp;omega)) _ | refine Below.setCell ?_ (by first | omega | (simp;done) | (simp;omega)) _));first | exact Below.refl _ _ | assumption | exact below_drewN _ (Below.refl _ _))) hb1
         have hs0:=hb1.size
         have hs1:=hB1.size)
      | (go_at_call 258
         refine (Cn.concat3_c _ 3 _ _ _ _ [(Value.pointer (x))] _ 144 _ _ (Nat.le_refl _) (by first | (first | (refine heap_at _ _ _ ?_;simp;done) | (refine heap_past _ (heap_at _ _ _ ?_);simp;done) | (refine heap_past _ (heap_past _ (heap_at _ _ _ ?_));simp;done) | (refine heap_past _ (heap_past _ (heap_past _ (heap_at _ _ _ ?_)));simp;done)) | exact (hb1.block _ (by first | omega | (simp;done) | (simp;omega))).trans (by (first | (refine heap_at _ _ _ ?_;simp;done) | (refine heap_past _ (heap_at _ _ _ ?_);simp;done) | (refine heap_past _ (heap_past _ (heap_at _ _ _ ?_));simp;done) | (refine heap_past _ (heap_past _ (heap_past _ (heap_at _ _ _ ?_)));simp;done)))) ((HP.out.2.2.1.below (by ((repeat (first | refine Below.drew ?_ | refine Below.alloc ?_ (by first | omega | (simp;done) | (simp;omega)) _ | refine Below.setCell ?_ (by first | omega | (simp;done) | (simp;omega)) _));first | exact Below.refl _ _ | assumption | exact below_drewN _ (Below.refl _ _))) hB).up (by first | omega | (simp;omega))) (Cn.part_one (ty:=81) (by first | (first | (refine heap_at _ _ _ ?_;simp;done) | (refine heap_past _ (heap_at _ _ _ ?_);simp;done) | (refine heap_past _ (heap_past _ (heap_at _ _ _ ?_));simp;done) | (refine heap_past _ (heap_past _ (heap_past _ (heap_at _ _ _ ?_)));simp;done)) | exact (hb1.block _ (by first | omega | (simp;done) | (simp;omega))).trans (by (first | (refine heap_at _ _ _ ?_;simp;done) | (refine heap_past _ (heap_at _ _ _ ?_);simp;done) | (refine heap_past _ (heap_past _ (heap_at _ _ _ ?_));simp;done) | (refine heap_past _ (heap_past _ (heap_past _ (heap_at _ _ _ ?_)));simp;done))) | exact heap_past _ ((hb1.block _ (by first | omega | (simp;done) | (simp;omega))).trans (by (first | (refine heap_at _ _ _ ?_;simp;done) | (refine heap_past _ (heap_at _ _ _ ?_);simp;done) | (refine heap_past _ (heap_past _ (heap_at _ _ _ ?_));simp;done) | (refine heap_past _ (heap_past _ (heap_past _ (heap_at _ _ _ ?_)));simp;done))))) (by first | omega | (simp;done) | (simp at hs0 ⊢;omega)) rfl) ((HP.out.2.2.2.below (by ((repeat (first | refine Below.drew ?_ | refine Below.alloc ?_ (by first | omega | (simp;done) | (simp;omega)) _ | refine Below.setCell ?_ (by first | omega | (simp;done) | (simp;omega)) _));first | exact Below.refl _ _ | assumption | exact below_drewN _ (Below.refl _ _))) hB).up (by first | omega | (simp;omega))) Hlen.out.2).mono ?_
         rintro e w3 ⟨v2,rfl,hown2,hb2⟩
         obtain ⟨D2,d2,hv2,-,-⟩:=hown2.rd
         rw [Hn.out.2] at hv2
         subst hv2
         have O2:=Lib.hid hown2
         clear hown2
         have hB2:=Below.andThen (show Below w.heap.size w _ by ((repeat (first | refine Below.drew ?_ | refine Below.alloc ?_ (by first | omega | (simp;done) | (simp;omega)) _ | refine Below.setCell ?_ (by first | omega | (simp;done) | (simp;omega)) _));first | exact Below.refl _ _ | assumption | exact below_drewN _ (Below.refl _ _))) hb2
         have hB12:=Below.andThen (show Below w2.heap.size w2 _ by ((repeat (first | refine Below.drew ?_ | refine Below.alloc ?_ (by first | omega | (simp;done) | (simp;omega)) _ | refine Below.setCell ?_ (by first | omega | (simp;done) | (simp;omega)) _));first | exact Below.refl _ _ | assumption | exact below_drewN _ (Below.refl _ _))) hb2
         have hs2:=hB2.size))
  all_goals (
    go_wp2
    go_ret
    have o1:=O1.out.below hB12 (Nat.le_refl _)
    have o2:=O2.out
    rw [Hk.out.1] at o1
    rw [Hk.out.2] at o2
    refine ⟨_,rfl,?_,by ((repeat (first | refine Below.drew ?_ | refine Below.alloc ?_ (by first | omega | (simp;done) | (simp;omega)) _ | refine Below.setCell ?_ (by first | omega | (simp;done) | (simp;omega)) _));first | exact Below.refl _ _ | assumption | exact below_drewN _ (Below.refl _ _))⟩
    rw [World.size_alloc]
    exact sp_make w3 k _ _ _ _ _ o1 o2)
end Go.Proofs.YtkeepngaaleakaaGreatDoor.Sn
