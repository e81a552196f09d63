import Derived.Test.YtkeepngaaleakaaGreatDoorM10
import Derived.Test.YtkeepngaaleakaaGreatDoorM05
namespace Go.Proofs.YtkeepngaaleakaaGreatDoor.Sn
open Go.ChangeShapes Go.WideShapes Go.ChangeAt Go.RowKit
def Outm (w:World) (B p g k hs n d:Nat) (P:Value) (xs:List (Option Addr)):Prop :=
  (B≤p∧B≤g∧g≠p∧p < w.heap.size)∧w.cell? ⟨p,0,none⟩ = some (.int .i64 (k:Int))∧w.cell? ⟨p,1,none⟩ = some (.int .u64 (hs:Int))∧w.cell? ⟨p,2,none⟩ = some P∧w.cell? ⟨p,3,none⟩ = some (.slice (some ⟨g,0,none⟩) n d) ∧
    w.frozen? ⟨p,1,none⟩ = false∧OwnV 81 w B (.slice (some ⟨g,0,none⟩) n d) (elV xs)∧xs.length = n
theorem outm_new {w:World} {B g k hs n d:Nat} {P:Value} {xs:List (Option Addr)} (hB:B≤w.heap.size) (ho:OwnV 81 w B (.slice (some ⟨g,0,none⟩) n d) (elV xs)) (hn:xs.length = n) :
    Outm (w.alloc (.cells #[.int .i64 (k:Int),.int .u64 (hs:Int),P,.slice (some ⟨g,0,none⟩) n d] 277)) B w.heap.size g k hs n d P xs:=by
  obtain ⟨h0,h1,h2,h3⟩:=cells4 w (.int .i64 (k:Int)) (.int .u64 (hs:Int)) P (.slice (some ⟨g,0,none⟩) n d) 277
  have hl:=ho.lt g rfl
  exact ⟨⟨hB,hl.1,by omega,by simp⟩,h0,h1,h2,h3,World.frozen?_alloc_at _ _ _ _ rfl,ho.below (below_alloc _ _) (Nat.le_refl _),hn⟩
theorem outm_put {w:World} {B p g k hs n d i:Nat} {P:Value} {xs:List (Option Addr)} (x:Option Addr) (h:Outm w B p g k hs n d P xs) :
    Outm (w.setCell ⟨g,i,none⟩ (Value.pointer (x))) B p g k hs n d P (xs.set i x)∧Below B w (w.setCell ⟨g,i,none⟩ (Value.pointer (x))):=by
  obtain ⟨⟨b1,b2,b3,b4⟩,h0,h1,h2,h3,h4,h5,h6⟩:=h
  have o:=h5.2
  rw [elV_length,h6] at o
  have o3:=(o.stored i (Value.pointer (x))).1
  have hr:(elV xs).set i (Value.pointer (x)) = elV (xs.set i x):=by simp [elV,List.map_set]
  rw [hr] at o3
  refine ⟨⟨⟨b1,b2,b3,by simpa using b4⟩,?_,?_,?_,?_,?_,⟨elV_one _,?_⟩,by rw [List.length_set];exact h6⟩,(Below.refl B w).setCell (p:=⟨g,i,none⟩) b2 _⟩
  · rw [World.cell?_setCell_other _ _ _ _ (by simp)];exact h0
  · rw [World.cell?_setCell_other _ _ _ _ (by simp)];exact h1
  · rw [World.cell?_setCell_other _ _ _ _ (by simp)];exact h2
  · rw [World.cell?_setCell_other _ _ _ _ (by simp)];exact h3
  · rw [frozen_set];exact h4
  · rw [elV_length,List.length_set,h6];exact o3
theorem outm_has {w:World} {B p g k hs n d:Nat} {P:Value} {xs:List (Option Addr)} (hs':Nat) (h:Outm w B p g k hs n d P xs) :
    Outm (w.setCell ⟨p,1,none⟩ (.int .u64 (hs':Int))) B p g k hs' n d P xs∧Below B w (w.setCell ⟨p,1,none⟩ (.int .u64 (hs':Int))):=by
  obtain ⟨⟨b1,b2,b3,b4⟩,h0,h1,h2,h3,h4,h5,h6⟩:=h
  refine ⟨⟨⟨b1,b2,b3,by simpa using b4⟩,?_,World.cell?_setCell_same _ _ _ h1,?_,?_,?_,ownV_store h5 (by simpa [Value.ownBlock] using b3) _,h6⟩,(Below.refl B w).setCell (p:=⟨p,1,none⟩) b1 _⟩
  · rw [World.cell?_setCell_other _ _ _ _ (by simp)];exact h0
  · rw [World.cell?_setCell_other _ _ _ _ (by simp)];exact h2
  · rw [World.cell?_setCell_other _ _ _ _ (by simp)];exact h3
  · rw [frozen_set];exact h4
theorem outm_cell {w:World} {B p g k hs n d i:Nat} {P:Value} {xs:List (Option Addr)} (h:Outm w B p g k hs n d P xs) (hi:i < n):(∃ y,w.cell? ⟨g,i,none⟩ = some y)∧w.frozen? ⟨g,i,none⟩ = false:=by
  obtain ⟨_,_,_,_,_,_,h5,h6⟩:=h
  have o:=h5.2
  rw [elV_length,h6] at o
  refine ⟨?_,o.frozenAt i⟩
  rw [o.cellAt i (by omega)]
  exact get_lt (by rw [elV_length,h6];exact hi)
theorem Outm.drew {w:World} {B p g k hs n d:Nat} {P:Value} {xs:List (Option Addr)} (h:Outm w B p g k hs n d P xs):Outm w.drew B p g k hs n d P xs:=h
theorem clone_n (xs:List (Option Addr)) (A:Option Addr) (n c B:Nat) (w:World) (hn:xs.length = n) (hB:B≤w.heap.size) (hA:RdV w B A (elV xs)) (hne:xs≠[]) (hl:xs.length≤1000000) :
    Calls Tryz.prog 224 #[.slice A n c] w fun e w' => ∃ g d,e = .returned (.slice (some ⟨g,0,none⟩) n d)∧OwnV 81 w' w.heap.size (.slice (some ⟨g,0,none⟩) n d) (elV xs)∧Below w.heap.size w w':=by
  subst hn
  exact clone_c xs A c B w hB hA hne hl
set_option maxRecDepth 100000 in
theorem sPut_new {w:World} {B b k:Nat} {L:Al} (wf:Sl.Wf k L) (h:Sp w B b k L) (hB:B≤w.heap.size) (a:Nat) (ha:a < 2 ^ k) (x:Option Addr) (hg:Sl.get L (a:Int) = none) :
    Calls Tryz.prog 208 #[.pointer (some ⟨b,0,none⟩),.int .i64 (a:Int),(Value.pointer (x))] w fun e w' => ∃ p,e = .returned (.tuple #[.pointer (some ⟨p,0,none⟩),.int .i64 0])∧At w' w'.heap.size p k (Sl.put a x L)∧Below w.heap.size w w':=by
  have hh:Sl.has L (a:Int) = false:=by simp [Sl.has,hg]
  have Hp:Hid (Sl.put a x L = L.take (Sl.idx L (a:Int)) ++ (a,x) :: L.drop (Sl.idx L (a:Int))):=Lib.hid (Sl.put_none wf.srt x hg)
  have h16:a < 65536:=Nat.lt_of_lt_of_le ha wf.pow
  have Hwf:=Lib.hid (wf.put x ha)
  have hle:=Sl.idx_le L (a:Int)
  obtain ⟨i,hi⟩:∃ i,Sl.idx L (a:Int) = i:=⟨_,rfl⟩
  rw [hi] at Hp hle
  have H1:=Lib.hid (sIsAddr_c (d:=false) wf.k1 wf.k16 h (a:Int) true (isA_nat ha))
  have H2:=Lib.hid (sFind_sp wf h (a:Int) i false hi hh)
  have H3:=Lib.hid (fun n => sDense_c (w:=w.drewN n) (d:=false) (L:=L) (k:=k) (B:=B) (b:=b) h)
  have H4:=Lib.hid (fun n => sWithCell_c (w:=w.drewN n) wf h hB i a x hle h16)
  clear wf h ha hg hh hi hle
  go_enter Tryz.func208,Tryz.ntmps208
  go_wp2_with (first
    | (go_at_call 221;refine H1.out.mono ?_;rintro e w' ⟨rfl,rfl⟩)
    | (go_at_call 222;refine H2.out.mono ?_;rintro e w' ⟨rfl,n,rfl⟩)
    | (go_at_call 148;refine (H3.out n).mono ?_;rintro e w' ⟨rfl,rfl⟩)
    | (go_at_call 247;refine (H4.out n).mono ?_;rintro e w2 ⟨g,rfl,hsp,hb2⟩;have HS:=Lib.hid (And.intro hsp hb2);clear hsp hb2)
    | (go_at_call 225;refine (sKept_c (d:=false) (by rw [← Hp.out];exact Hwf.out) HS.out.1 (Nat.le_refl _)).mono ?_;rintro e w3 ⟨p,rfl,hrp,hb3⟩;have HK:=Lib.hid (And.intro hrp hb3);clear hrp hb3))
  go_ret2
  refine ⟨p,rfl,⟨Hwf.out,?_⟩,Below.andThen (Below.trans (below_drewN n (Below.refl _ w)) HS.out.2) HK.out.2⟩
  rw [Hp.out]
  exact HK.out.1
set_option maxRecDepth 100000 in
set_option maxHeartbeats 1000000 in
theorem sPut_old {w:World} {B b k:Nat} {L:Al} (wf:Sl.Wf k L) (hd:Sl.dense k L = false) (h:Sp w B b k L) (hB:B≤w.heap.size) (a:Nat) (ha:a < 2 ^ k) (x u:Option Addr) (hg:Sl.get L (a:Int) = some u) :
    Calls Tryz.prog 208 #[.pointer (some ⟨b,0,none⟩),.int .i64 (a:Int),(Value.pointer (x))] w fun e w' => ∃ p,e = .returned (.tuple #[.pointer (some ⟨p,0,none⟩),.int .i64 0])∧At w' w'.heap.size p k (Sl.put a x L)∧Below w.heap.size w w':=by
  have hh:Sl.has L (a:Int) = true:=by simp [Sl.has,hg]
  obtain ⟨m,hm,hat⟩:=Sl.get_at wf.srt hg
  have hlt:=lt_get hat
  have hma:m = a:=by omega
  subst hma
  have Hp:Hid (Sl.put m x L = L.set (Sl.idx L (m:Int)) (m,x)):=Lib.hid (Sl.put_some wf.srt x hg)
  have Hwf:=Lib.hid (wf.put x ha)
  have hlen:=wf.len16
  obtain ⟨i,hi⟩:∃ i,Sl.idx L (m:Int) = i:=⟨_,rfl⟩
  rw [hi] at Hp hlt hat
  have H1:=Lib.hid (sIsAddr_c (d:=false) wf.k1 wf.k16 h (m:Int) true (isA_nat ha))
  have H2:=Lib.hid (sFind_sp wf h (m:Int) i true hi hh)
  have H3:=Lib.hid (fun n => sDense_c (w:=w.drewN n) (d:=false) (L:=L) (k:=k) (B:=B) (b:=b) h)
  have Hs:=Lib.hid h
  have Hd:Hid (Sl.dense k (Sl.put m x L) = false):=Lib.hid (by
    have:=Sl.length_put wf.srt m x
    rw [hh] at this
    unfold Sl.dense at hd ⊢
    rw [this]
    exact hd)
  obtain ⟨hbB,A,c,C,c',c0,c1,c2,c3,k1,k2,hA,hC⟩:=h
  have HA:=Lib.hid (And.intro hA hC)
  have hne:Sl.things L≠[]:=by intro e;rw [← Sl.things_length,e] at hlt;simp at hlt
  have Hne:=Lib.hid (And.intro hne hat)
  have q0:∀ w',Below w.heap.size w w'→w'.cell? ⟨b,0,none⟩ = some (.int .i64 (k:Int)):=fun w' hb => (hb.cell (p:=⟨b,0,none⟩) (by show b < _;omega)).trans c0
  have q1:∀ w',Below w.heap.size w w'→w'.cell? ⟨b,1,none⟩ = some (.int .u64 0):=fun w' hb => (hb.cell (p:=⟨b,1,none⟩) (by show b < _;omega)).trans c1
  have q2:∀ w',Below w.heap.size w w'→w'.cell? ⟨b,2,none⟩ = some (.slice A L.length c):=fun w' hb => (hb.cell (p:=⟨b,2,none⟩) (by show b < _;omega)).trans c2
  have q3:∀ w',Below w.heap.size w w'→w'.cell? ⟨b,3,none⟩ = some (.slice C L.length c'):=fun w' hb => (hb.cell (p:=⟨b,3,none⟩) (by show b < _;omega)).trans c3
  have i1:(0:Int)≤(i:Int):=by omega
  have i2:(i:Int) < (L.length:Int):=by omega
  clear wf ha hg hh hi hat hd hne hA hC c0 c1 c2 c3 hm
  go_enter Tryz.func208,Tryz.ntmps208
  go_wp2_with (first
    | (go_at_call 221;refine H1.out.mono ?_;rintro e w' ⟨rfl,rfl⟩)
    | (go_at_call 222;refine H2.out.mono ?_;rintro e w' ⟨rfl,n,rfl⟩)
    | (go_at_call 148;refine (H3.out n).mono ?_;rintro e w' ⟨rfl,rfl⟩))
  go_region_held (fun w' => Below w.heap.size w w') (((repeat (first | refine Below.drew ?_ | refine Below.alloc ?_ (by first | omega | (simp;done) | (simp;omega)) _ | refine Below.setCell ?_ (by first | omega | (simp;done) | (simp;omega)) _));first | exact Below.refl _ _ | assumption | exact below_drewN _ (Below.refl _ _)))
    (first
      | (go_at_call 224
         refine (clone_n (Sl.things L) _ L.length _ B _ (Sl.things_length L) (by first | omega | (simp;done) | (simp;omega)) (HA.out.2.below (by ((repeat (first | refine Below.drew ?_ | refine Below.alloc ?_ (by first | omega | (simp;done) | (simp;omega)) _ | refine Below.setCell ?_ (by first | omega | (simp;done) | (simp;omega)) _));first | exact Below.refl _ _ | assumption | exact below_drewN _ (Below.refl _ _))) hB (Nat.le_refl _)).rd Hne.out.1 (by rw [Sl.things_length];omega)).mono ?_
         rintro e w2 ⟨g,d,rfl,hown,hb1⟩
         have hB1:=Below.andThen (show Below w.heap.size w _ by ((repeat (first | refine Below.drew ?_ | refine Below.alloc ?_ (by first | omega | (simp;done) | (simp;omega)) _ | refine Below.setCell ?_ (by first | omega | (simp;done) | (simp;omega)) _));first | exact Below.refl _ _ | assumption | exact below_drewN _ (Below.refl _ _))) hb1
         have HO:=Lib.hid (hown.mono (show w.heap.size≤_ by first | omega | (simp;done) | (simp;omega)))
         have hs1:=hB1.size
         clear hown))
  have hO:Outm (w2.alloc (.cells #[.int .i64 (k:Int),.int .u64 0,.slice A L.length c,.slice (some ⟨g,0,none⟩) L.length d] 277)) w.heap.size w2.heap.size g k 0 L.length d (.slice A L.length c) (Sl.things L):=outm_new (hs:=0) hs1 HO.out (Sl.things_length L)
  have hBw:=(hB1.alloc hs1 (.cells #[.int .i64 (k:Int),.int .u64 0,.slice A L.length c,.slice (some ⟨g,0,none⟩) L.length d] 277))
  generalize (w2.alloc (.cells #[.int .i64 (k:Int),.int .u64 0,.slice A L.length c,.slice (some ⟨g,0,none⟩) L.length d] 277)) = W at *
  generalize w2.heap.size = p at *
  obtain ⟨⟨y,hy⟩,hf⟩:=outm_cell (i:=i) hO hlt
  have hO2:=outm_put (i:=i) x hO
  have hc3:=hO.2.2.2.2.1
  have HF:=Lib.hid (And.intro hO2.1 (Below.trans hBw (hO2.2.mono (Nat.le_refl _))))
  clear hO2 hO hBw hB1 hb1
  go_wp2_with (go_at_call 148;refine (sDense_c (d:=false) (Hs.out.below HF.out.2 hB (Nat.le_refl _))).mono ?_;rintro e w' ⟨rfl,rfl⟩)
  go_ret2
  refine ⟨p,rfl,⟨Hwf.out,?_⟩,HF.out.2⟩
  rw [Hd.out,Hp.out]
  obtain ⟨⟨b1,b2,b3,b4⟩,z0,z1,z2,z3,z4,z5,z6⟩:=HF.out.1
  have ek:Sl.keys (L.set i (m,x)) = Sl.keys L:=by
    have:=Sl.keys_get Hne.out.2
    obtain ⟨r1,r2⟩:=List.getElem?_eq_some_iff.1 this
    unfold Sl.keys at *
    rw [List.map_set]
    simp only at r2
    conv => lhs;rw [show (m:Nat) = (L.map (·.1))[i] from r2.symm]
    exact List.set_getElem_self r1
  have et:Sl.things (L.set i (m,x)) = (Sl.things L).set i x:=by simp [Sl.things,List.map_set]
  have hr:=z5.rdE_at
  have hdl:L.length≤d:=by
    obtain ⟨_,_,hv,hle,_⟩:=z5.rd
    injection hv with _ e2 e3
    rw [← e2,← e3] at hle
    exact hle
  refine ⟨b4,A,c,some ⟨g,0,none⟩,d,z0,z1,by rw [List.length_set];exact z2,by rw [List.length_set];exact z3,by rw [List.length_set];exact k1,by rw [List.length_set];exact hdl,?_,?_⟩
  · rw [ek]
    exact HA.out.1.below HF.out.2 hB (Nat.le_trans hB HF.out.2.size)
  · rw [et]
    exact hr
theorem put_ne {L:Al} (h:Sl.Srt L) (a:Nat) (x:Option Addr):Sl.put a x L≠[]:=by
  intro e
  have:=Sl.get_put h a x (a:Int)
  rw [e,if_pos rfl] at this
  simp [Sl.get] at this
set_option maxRecDepth 100000 in
set_option maxHeartbeats 2000000 in
theorem sPut_de {w:World} {B b k:Nat} {L:Al} (wf:Sl.Wf k L) (hd:Sl.dense k L = true) (h:De w B b k L) (hB:B≤w.heap.size) (a:Nat) (ha:a < 2 ^ k) (x:Option Addr) :
    Calls Tryz.prog 208 #[.pointer (some ⟨b,0,none⟩),.int .i64 (a:Int),(Value.pointer (x))] w fun e w' => ∃ p,e = .returned (.tuple #[.pointer (some ⟨p,0,none⟩),.int .i64 0])∧At w' w'.heap.size p k (Sl.put a x L)∧Below w.heap.size w w':=by
  have Hwf:=Lib.hid (wf.put x ha)
  have Hsr:=Lib.hid wf.srt
  have Hne:=Lib.hid (put_ne wf.srt a x)
  have Hd:Hid (Sl.dense k (Sl.put a x L) = true):=Lib.hid (Sl.dense_more hd (by rw [Sl.length_put wf.srt];omega))
  have H1:=Lib.hid (sIsAddr_c (d:=true) wf.k1 wf.k16 h (a:Int) true (isA_nat ha))
  have H2:=fun r hr => sFind_de wf h a ha r hr
  have H3:=Lib.hid (fun n => sDense_c (w:=w.drewN n) (d:=true) (L:=L) (k:=k) (B:=B) (b:=b) h)
  have Hs:=Lib.hid h
  obtain ⟨hbB,hk,hL,P,C,c',c0,c1,c2,c3,k2,⟨Ap,np,cp,hP⟩,hC⟩:=h
  subst hP
  have hm:=Sl.mask_lt (wf.lt64 hk)
  have hp2:2 ^ k≤2 ^ 6:=Nat.pow_le_pow_right (n:=2) (by omega) hk
  have hpa:2 ^ a < 18446744073709551616:=Nat.lt_of_lt_of_le (Nat.pow_lt_pow_right (by omega) (show a < 64 by omega)) (by omega)
  have hw:IntKind.u64.wrap (2 ^ a) = ((2 ^ a:Nat):Int):=by
    rw [show (2:Int) ^ a = ((2 ^ a:Nat):Int) by simp]
    generalize 2 ^ a = P at *
    rw [IntKind.wrap_u64];omega
  have hor:=bits_or_u64_nat (Sl.mask L) (2 ^ a) (by omega) hpa
  have Hm:Hid (Sl.mask (Sl.put a x L) = Sl.mask L ||| 2 ^ a):=Lib.hid (Sl.mask_put wf.srt a x)
  obtain ⟨m,hmm⟩:∃ m,2 ^ k = m:=⟨_,rfl⟩
  have Hmm:=Lib.hid hmm
  rw [hmm] at c3 hp2 hC k2 ha
  have hrl:=Sl.row_length none m L
  have hrne:Sl.row none m L≠[]:=by intro e;rw [e] at hrl;simp at hrl;omega
  have HA:=Lib.hid (And.intro hC (And.intro hrl hrne))
  have q0:∀ w',Below w.heap.size w w'→w'.cell? ⟨b,0,none⟩ = some (.int .i64 (k:Int)):=fun w' hb => (hb.cell (p:=⟨b,0,none⟩) (by show b < _;omega)).trans c0
  have q1:∀ w',Below w.heap.size w w'→w'.cell? ⟨b,1,none⟩ = some (.int .u64 (Sl.mask L:Int)):=fun w' hb => (hb.cell (p:=⟨b,1,none⟩) (by show b < _;omega)).trans c1
  have q2:∀ w',Below w.heap.size w w'→w'.cell? ⟨b,2,none⟩ = some (.slice Ap np cp):=fun w' hb => (hb.cell (p:=⟨b,2,none⟩) (by show b < _;omega)).trans c2
  have q3:∀ w',Below w.heap.size w w'→w'.cell? ⟨b,3,none⟩ = some (.slice C m c'):=fun w' hb => (hb.cell (p:=⟨b,3,none⟩) (by show b < _;omega)).trans c3
  have i1:(0:Int)≤(a:Int):=by omega
  have i2:(a:Int) < (m:Int):=by omega
  have ha64:a < 64:=by omega
  obtain ⟨r,hr⟩:∃ r,Sl.has L (a:Int) = r:=⟨_,rfl⟩
  have H2:=Lib.hid (H2 r hr)
  have hk7:Hid (k≤6):=Lib.hid hk
  generalize Sl.mask L ||| 2 ^ a = q at *
  generalize 2 ^ a = P at *
  generalize Sl.mask L = hs at *
  clear wf hd hL hC c0 c1 c2 c3 hmm hrl hrne hpa hm hr k2 hk
  cases r
  all_goals
    go_enter Tryz.func208,Tryz.ntmps208
    go_wp2_with (first
      | (go_at_call 221;refine H1.out.mono ?_;rintro e w' ⟨rfl,rfl⟩)
      | (go_at_call 222;refine H2.out.mono ?_;rintro e w' ⟨rfl,n,rfl⟩)
      | (go_at_call 148;refine (H3.out n).mono ?_;rintro e w' ⟨rfl,rfl⟩))
    go_region_held (fun w' => Below w.heap.size w w') (((repeat (first | refine Below.drew ?_ | refine Below.alloc ?_ (by first | omega | (simp;done) | (simp;omega)) _ | refine Below.setCell ?_ (by first | omega | (simp;done) | (simp;omega)) _));first | exact Below.refl _ _ | assumption | exact below_drewN _ (Below.refl _ _)))
      (first
        | (go_at_call 224
           refine (clone_n (Sl.row none m L) _ m _ B _ HA.out.2.1 (by first | omega | (simp;done) | (simp;omega)) (HA.out.1.below (by ((repeat (first | refine Below.drew ?_ | refine Below.alloc ?_ (by first | omega | (simp;done) | (simp;omega)) _ | refine Below.setCell ?_ (by first | omega | (simp;done) | (simp;omega)) _));first | exact Below.refl _ _ | assumption | exact below_drewN _ (Below.refl _ _))) hB (Nat.le_refl _)).rd HA.out.2.2 (by rw [HA.out.2.1];omega)).mono ?_
           rintro e w2 ⟨g,d,rfl,hown,hb1⟩
           have hB1:=Below.andThen (show Below w.heap.size w _ by ((repeat (first | refine Below.drew ?_ | refine Below.alloc ?_ (by first | omega | (simp;done) | (simp;omega)) _ | refine Below.setCell ?_ (by first | omega | (simp;done) | (simp;omega)) _));first | exact Below.refl _ _ | assumption | exact below_drewN _ (Below.refl _ _))) hb1
           have HO:=Lib.hid (hown.mono (show w.heap.size≤_ by first | omega | (simp;done) | (simp;omega)))
           have hs1:=hB1.size
           clear hown))
    have hO:Outm (w2.alloc (.cells #[.int .i64 (k:Int),.int .u64 (hs:Int),.slice Ap np cp,.slice (some ⟨g,0,none⟩) m d] 277)) w.heap.size w2.heap.size g k hs m d (.slice Ap np cp) (Sl.row none m L):=outm_new hs1 HO.out HA.out.2.1
    have hBw:=(hB1.alloc hs1 (.cells #[.int .i64 (k:Int),.int .u64 (hs:Int),.slice Ap np cp,.slice (some ⟨g,0,none⟩) m d] 277))
    generalize (w2.alloc (.cells #[.int .i64 (k:Int),.int .u64 (hs:Int),.slice Ap np cp,.slice (some ⟨g,0,none⟩) m d] 277)) = W at *
    generalize w2.heap.size = p at *
    obtain ⟨⟨y,hy⟩,hf⟩:=outm_cell (i:=a) hO ha
    have hO2:=outm_put (i:=a) x hO
    have hc3:=hO.2.2.2.2.1
    have HF:=Lib.hid (And.intro hO2.1 (Below.trans hBw (hO2.2.mono (Nat.le_refl _))))
    clear hO2 hO hBw hB1 hb1
    go_wp2_with (go_at_call 148;refine (sDense_c (d:=true) (Hs.out.below HF.out.2 hB (Nat.le_refl _))).mono ?_;rintro e w' ⟨rfl,rfl⟩)
    have hO3:=outm_has q HF.out.1
    have z1:=HF.out.1.2.2.1
    have z2:=HF.out.1.2.2.2.2.2.1
    have HG:=Lib.hid (And.intro hO3.1 (Below.trans HF.out.2 (hO3.2.mono (Nat.le_refl _))))
    clear hO3 hy hf hc3
    generalize W.setCell ⟨g,a,none⟩ (Value.pointer (x)) = W1 at *
    go_region
    go_wp2_with fail
    go_ret2
    refine ⟨p,rfl,⟨Hwf.out,?_⟩,HG.out.2.drew⟩
    rw [Hd.out]
    obtain ⟨⟨b1,b2,b3,b4⟩,y0,y1,y2,y3,y4,y5,y6⟩:=HG.out.1
    have hr:=y5.rdE_at
    have hdl:m≤d:=by
      obtain ⟨_,_,hv,hle,_⟩:=y5.rd
      injection hv with _ e2 e3
      rw [← e2,← e3] at hle
      exact hle
    refine ⟨b4,hk7.out,Hne.out,.slice Ap np cp,some ⟨g,0,none⟩,d,y0,by rw [Hm.out];exact y1,y2,by rw [Hmm.out];exact y3,by rw [Hmm.out];exact hdl,⟨Ap,np,cp,rfl⟩,?_⟩
    rw [Hmm.out,Sl.row_put Hsr.out]
    exact hr
theorem sPut_c {w:World} {B b k:Nat} {L:Al} (h:At w B b k L) (hB:B≤w.heap.size) (a:Nat) (ha:a < 2 ^ k) (x:Option Addr) :
    Calls Tryz.prog 208 #[.pointer (some ⟨b,0,none⟩),.int .i64 (a:Int),(Value.pointer (x))] w fun e w' => ∃ p,e = .returned (.tuple #[.pointer (some ⟨p,0,none⟩),.int .i64 0])∧At w' w'.heap.size p k (Sl.put a x L)∧Below w.heap.size w w':=by
  obtain ⟨wf,hr⟩:=h
  rcases hd:Sl.dense k L with _ | _
  · rw [hd] at hr
    cases hg:Sl.get L (a:Int) with
    | none => exact sPut_new wf hr hB a ha x hg
    | some u => exact sPut_old wf hd hr hB a ha x u hg
  · rw [hd] at hr
    exact sPut_de wf hd hr hB a ha x
end Go.Proofs.YtkeepngaaleakaaGreatDoor.Sn
namespace Go.Proofs.YtkeepngaaleakaaGreatDoor
open Go.ChangeShapes Go.WideShapes Go.ChangeAt Go.RowKit
open Tr (T S4)
theorem sAll_n {w:World} {B b k:Nat} {L:Sn.Al} {d:Bool} (wf:Sl.Wf k L) (h:Sn.Rp w B b k L d) (hB:B≤w.heap.size) :
    Calls Tryz.prog 166 #[.pointer (some ⟨b,0,none⟩)] w fun e w' => ∃ A c,e = .returned (.slice A (Sl.things L).length c)∧RdV w' w'.heap.size A (Sn.elV (Sl.things L))∧Below w.heap.size w w':=by
  refine (Sn.sAll_c wf h hB).mono ?_
  rintro e w' ⟨v,rfl,ho,hb⟩
  obtain ⟨A,c,hv,-,hr⟩:=ho.rd
  rw [Sn.elV_length] at hv
  subst hv
  exact ⟨A,c,rfl,hr,hb⟩
set_option maxRecDepth 100000 in
set_option maxHeartbeats 2000000 in
theorem nput_new {w:World} {B g b h l k:Nat} {pre prek:List Nat} {v vk:Nat} {s sk:S4} {levk:Int} {kpk:Option Addr} {L:Sn.Al} (hn:NdAt w B g (l:Int) pre v (some ⟨b,0,none⟩) s) (ha:Sn.At w B b k L)
    (hk:NdAt w B h levk prek vk kpk sk) (hB:B≤w.heap.size) (hlen:prek.length = k) (hl:l≤63) (hg:Sl.get L (Z.addr prek l:Int) = none) (hs:sk.c≠0) (hc:s.c + sk.c < 18446744073709551616) :
    Calls Tryz.prog 155 #[.pointer (some ⟨g,0,none⟩),.pointer (some ⟨h,0,none⟩)] w fun e w' =>
      ∃ g' b',e = .returned (.pointer (some ⟨g',0,none⟩))∧NdN w' w'.heap.size g' (l:Int) pre 0 (some ⟨b',0,none⟩) (Tr.tog s sk)∧Sn.At w' w'.heap.size b' k (Sl.put (Z.addr prek l) (some ⟨h,0,none⟩) L)∧w.heap.size≤g'∧Below w.heap.size w w':=by
  have hgw:g < w.heap.size:=Nat.lt_of_lt_of_le hn.1 hB
  have hhw:h < w.heap.size:=Nat.lt_of_lt_of_le hk.1 hB
  obtain ⟨-,-,n0,-,n3,n4,n5,n6,n7⟩:=id hn
  obtain ⟨-,⟨Ak,ck,hpk,k1⟩,-,-,-,k4,k5,k6,k7⟩:=id hk
  obtain ⟨a,hadr⟩:∃ a,Z.addr prek l = a:=⟨_,rfl⟩
  have hak:a < 2 ^ k:=by rw [← hadr,← hlen];exact Z.addr_bound prek l
  have HA:Hid (∀ n,Calls Tryz.prog 160 #[.slice Ak prek.length ck,.int .i64 (l:Int)] (w.drewN n) fun e w' => e = .returned (.tuple #[.int .i64 (a:Int),.int .i64 0])∧w.drewN n = w'):=Lib.hid fun n => by rw [← hadr];exact addr_yes Ak ck prek l B (w.drewN n) hpk (by have:=ha.1.k1;omega) (by have:=ha.1.k16;omega) hl
  rw [hadr] at hg ⊢
  have HN:=Lib.hid (And.intro hn (And.intro ha (And.intro hg (And.intro hak hs))))
  have HC:=Lib.hid hc
  have HL:Hid ((Sl.put a (some ⟨h,0,none⟩) L).length = L.length + 1):=Lib.hid (by rw [Sl.length_put ha.1.srt];simp [Sl.has,hg])
  have hLl:=ha.1.len16
  clear hn ha hk hg hpk hadr hak hs hc hlen
  go_enter Tryz.func155,Tryz.ntmps155
  go_wp2_with fail
  go_quiet ((go_at_call 160;exact Calls.quiet_of_same ((HA.out _).mono fun e w' h => ⟨h.1,h.2.symm⟩)))
  go_wp2_with fail
  refine (Sn.sPut_c (HN.out.2.1.below (below_drewN _ (Below.refl w.heap.size w)) hB (Nat.le_refl _)) (show B≤_ from hB) a HN.out.2.2.2.1 (some ⟨h,0,none⟩)).mono ?_
  rintro e w2 ⟨b2,rfl,hat2,hb2⟩
  have hb2':Below w.heap.size w w2:=Below.trans (below_drewN _ (Below.refl w.heap.size w)) hb2
  have m3:∀ w',Below w.heap.size w w'→w'.cell? ⟨g,3,none⟩ = some (.pointer (some ⟨b,0,none⟩)):=fun w' hb => (hb.cell (p:=⟨g,3,none⟩) hgw).trans n3
  have e3:=m3 w2 hb2'
  have H2:=Lib.hid hat2
  have HB2:=Lib.hid hb2'
  have hs2:=hb2'.size
  have HLn:Hid (∀ n,Calls Tryz.prog 200 #[.pointer (some ⟨b2,0,none⟩)] (w2.drewN n) fun e w' => e = .returned (.int .i64 ((L.length:Int) + 1))∧w2.drewN n = w'):=Lib.hid fun n => by
    have h1:=Sn.sLen_c (w:=w2.drewN n) hat2.1 (hat2.2.below (below_drewN n (Below.refl _ _)) (Nat.le_refl _) (Nat.le_refl _))
    rw [HL.out] at h1
    exact h1
  have HLo:Hid (∀ n,Calls Tryz.prog 200 #[.pointer (some ⟨b,0,none⟩)] (w2.drewN n) fun e w' => e = .returned (.int .i64 (L.length:Int))∧w2.drewN n = w'):=Lib.hid fun n =>
    Sn.sLen_c (w:=w2.drewN n) HN.out.2.1.1 (HN.out.2.1.2.below (below_drewN n hb2') hB (Nat.le_refl _))
  clear hat2 hb2 hb2' m3 n3 n0 k1
  go_wp2_with fail
  go_quiet ((first
    | (go_at_call 200;with_reducible (exact Calls.quiet_of_same ((HLn.out _).mono fun e w' h => ⟨h.1,h.2.symm⟩)))
    | (go_at_call 200;with_reducible (exact Calls.quiet_of_same ((HLo.out _).mono fun e w' h => ⟨h.1,h.2.symm⟩)))))
  have q4:∀ w',Below w2.heap.size w2 w'→w'.cell? ⟨g,4,none⟩ = some (.int .u64 (s.c:Int)):=fun w' hb => ((HB2.out.trans (hb.mono hs2)).cell (p:=⟨g,4,none⟩) hgw).trans n4
  have q5:∀ w',Below w2.heap.size w2 w'→w'.cell? ⟨g,5,none⟩ = some (.int .u64 (s.s:Int)):=fun w' hb => ((HB2.out.trans (hb.mono hs2)).cell (p:=⟨g,5,none⟩) hgw).trans n5
  have q6:∀ w',Below w2.heap.size w2 w'→w'.cell? ⟨g,6,none⟩ = some (.int .u64 (s.lo:Int)):=fun w' hb => ((HB2.out.trans (hb.mono hs2)).cell (p:=⟨g,6,none⟩) hgw).trans n6
  have q7:∀ w',Below w2.heap.size w2 w'→w'.cell? ⟨g,7,none⟩ = some (.int .u64 (s.hi:Int)):=fun w' hb => ((HB2.out.trans (hb.mono hs2)).cell (p:=⟨g,7,none⟩) hgw).trans n7
  have r4:∀ w',Below w2.heap.size w2 w'→w'.cell? ⟨h,4,none⟩ = some (.int .u64 (sk.c:Int)):=fun w' hb => ((HB2.out.trans (hb.mono hs2)).cell (p:=⟨h,4,none⟩) hhw).trans k4
  have r5:∀ w',Below w2.heap.size w2 w'→w'.cell? ⟨h,5,none⟩ = some (.int .u64 (sk.s:Int)):=fun w' hb => ((HB2.out.trans (hb.mono hs2)).cell (p:=⟨h,5,none⟩) hhw).trans k5
  have r6:∀ w',Below w2.heap.size w2 w'→w'.cell? ⟨h,6,none⟩ = some (.int .u64 (sk.lo:Int)):=fun w' hb => ((HB2.out.trans (hb.mono hs2)).cell (p:=⟨h,6,none⟩) hhw).trans k6
  have r7:∀ w',Below w2.heap.size w2 w'→w'.cell? ⟨h,7,none⟩ = some (.int .u64 (sk.hi:Int)):=fun w' hb => ((HB2.out.trans (hb.mono hs2)).cell (p:=⟨h,7,none⟩) hhw).trans k7
  clear n4 n5 n6 n7 k4 k5 k6 k7 e3
  have d1:decide ((L.length:Int) < (L.length:Int) + 1) = true:=decide_eq_true (by omega)
  go_wp2_with fail
  clear d1
  have hbq:Below w2.heap.size w2 (w2.drewN nq):=below_drewN nq (Below.refl _ _)
  go_region_held3 (fun w' => Below w2.heap.size w2 w') (((repeat first | refine bD ?_ | with_reducible refine bN ?_ | refine bA ?_ | refine bS ?_);first | exact bR | assumption | exact bN bR | exact bN (bN bR)))
    ((first
      | (go_at_call 209;refine (together_c s sk _ HN.out.2.2.2.2 HC.out).mono ?_;rintro e w3 ⟨rfl,hb3⟩;have hB3:=Below.trans (show Below w2.heap.size w2 _ by ((repeat first | refine bD ?_ | with_reducible refine bN ?_ | refine bA ?_ | refine bS ?_);first | exact bR | assumption | exact bN bR | exact bN (bN bR))) (hb3.mono (Below.size (show Below w2.heap.size w2 _ by ((repeat first | refine bD ?_ | with_reducible refine bN ?_ | refine bA ?_ | refine bS ?_);first | exact bR | assumption | exact bN bR | exact bN (bN bR)))));clear hb3)
      | (go_at_call 167;refine (having_c (HN.out.1.below (HB2.out.trans (Below.mono (show Below w2.heap.size w2 _ by ((repeat first | refine bD ?_ | with_reducible refine bN ?_ | refine bA ?_ | refine bS ?_);first | exact bR | assumption | exact bN bR | exact bN (bN bR))) hs2)) hB (Nat.le_refl _)) (Nat.le_trans hB (Below.size (HB2.out.trans (Below.mono (show Below w2.heap.size w2 _ by ((repeat first | refine bD ?_ | with_reducible refine bN ?_ | refine bA ?_ | refine bS ?_);first | exact bR | assumption | exact bN bR | exact bN (bN bR))) hs2)))) (some ⟨b2,0,none⟩) (Tr.tog s sk)).mono ?_;rintro e w4 ⟨g',rfl,hnd,hg4,hb4⟩;have hg4:=Nat.le_trans (Nat.le_trans hs2 (Below.size (show Below w2.heap.size w2 _ by ((repeat first | refine bD ?_ | with_reducible refine bN ?_ | refine bA ?_ | refine bS ?_);first | exact bR | assumption | exact bN bR | exact bN (bN bR))))) hg4;have hB4:=Below.trans (show Below w2.heap.size w2 _ by ((repeat first | refine bD ?_ | with_reducible refine bN ?_ | refine bA ?_ | refine bS ?_);first | exact bR | assumption | exact bN bR | exact bN (bN bR))) (hb4.mono (Below.size (show Below w2.heap.size w2 _ by ((repeat first | refine bD ?_ | with_reducible refine bN ?_ | refine bA ?_ | refine bS ?_);first | exact bR | assumption | exact bN bR | exact bN (bN bR)))));clear hb4;have HG:=Lib.hid hnd;clear hnd)))
  clear q4 q5 q6 q7 r4 r5 r6 r7
  go_wp2_with fail
  go_ret
  exact ⟨g',b2,rfl,HG.out,H2.out.below hB4 (Nat.le_refl _) hB4.size,hg4,HB2.out.trans (hB4.mono hs2)⟩
theorem SumsAt.up {w:World} {B B':Nat} {xs:List (Option Addr)} {ss:List S4} (h:SumsAt w B xs ss) (hB:B≤B'):SumsAt w B' xs ss :=
  ⟨h.1,fun i s hs => by obtain ⟨h0,g,h1,h2,h3⟩:=h.2 i s hs;exact ⟨h0,g,h1,by omega,h3⟩⟩
set_option maxRecDepth 100000 in
set_option maxHeartbeats 2000000 in
theorem nput_old {w:World} {B g b h l k:Nat} {pre prek:List Nat} {v vk:Nat} {s sk:S4} {ss:List S4} {u:Option Addr} {levk:Int} {kpk:Option Addr} {L:Sn.Al} (hn:NdAt w B g (l:Int) pre v (some ⟨b,0,none⟩) s) (ha:Sn.At w B b k L)
    (hk:NdAt w B h levk prek vk kpk sk) (hB:B≤w.heap.size) (hlen:prek.length = k) (hl:l≤63) (hg:Sl.get L (Z.addr prek l:Int) = some u) (hs:SumsAt w B (Sl.things (Sl.put (Z.addr prek l) (some ⟨h,0,none⟩) L)) ss) (hc:(togF ss).c < 18446744073709551616) :
    Calls Tryz.prog 155 #[.pointer (some ⟨g,0,none⟩),.pointer (some ⟨h,0,none⟩)] w fun e w' =>
      ∃ g' b',e = .returned (.pointer (some ⟨g',0,none⟩))∧NdN w' w'.heap.size g' (l:Int) pre 0 (some ⟨b',0,none⟩) (togF ss)∧Sn.At w' w'.heap.size b' k (Sl.put (Z.addr prek l) (some ⟨h,0,none⟩) L)∧w.heap.size≤g'∧Below w.heap.size w w':=by
  have hgw:g < w.heap.size:=Nat.lt_of_lt_of_le hn.1 hB
  have hhw:h < w.heap.size:=Nat.lt_of_lt_of_le hk.1 hB
  obtain ⟨-,-,n0,-,n3,n4,n5,n6,n7⟩:=id hn
  obtain ⟨-,⟨Ak,ck,hpk,k1⟩,-,-,-,k4,k5,k6,k7⟩:=id hk
  obtain ⟨a,hadr⟩:∃ a,Z.addr prek l = a:=⟨_,rfl⟩
  have hak:a < 2 ^ k:=by rw [← hadr,← hlen];exact Z.addr_bound prek l
  have HA:Hid (∀ n,Calls Tryz.prog 160 #[.slice Ak prek.length ck,.int .i64 (l:Int)] (w.drewN n) fun e w' => e = .returned (.tuple #[.int .i64 (a:Int),.int .i64 0])∧w.drewN n = w'):=Lib.hid fun n => by rw [← hadr];exact addr_yes Ak ck prek l B (w.drewN n) hpk (by have:=ha.1.k1;omega) (by have:=ha.1.k16;omega) hl
  rw [hadr] at hg hs ⊢
  have HN:=Lib.hid (And.intro hn (And.intro ha (And.intro hg (And.intro hak hs))))
  have HC:=Lib.hid hc
  have HL:Hid ((Sl.put a (some ⟨h,0,none⟩) L).length = L.length):=Lib.hid (by rw [Sl.length_put ha.1.srt];simp [Sl.has,hg])
  have hLl:=ha.1.len16
  clear hn ha hk hg hpk hadr hak hs hc hlen
  go_enter Tryz.func155,Tryz.ntmps155
  go_wp2_with fail
  go_quiet ((go_at_call 160;exact Calls.quiet_of_same ((HA.out _).mono fun e w' h => ⟨h.1,h.2.symm⟩)))
  go_wp2_with fail
  refine (Sn.sPut_c (HN.out.2.1.below (below_drewN _ (Below.refl w.heap.size w)) hB (Nat.le_refl _)) (show B≤_ from hB) a HN.out.2.2.2.1 (some ⟨h,0,none⟩)).mono ?_
  rintro e w2 ⟨b2,rfl,hat2,hb2⟩
  have hb2':Below w.heap.size w w2:=Below.trans (below_drewN _ (Below.refl w.heap.size w)) hb2
  have m3:∀ w',Below w.heap.size w w'→w'.cell? ⟨g,3,none⟩ = some (.pointer (some ⟨b,0,none⟩)):=fun w' hb => (hb.cell (p:=⟨g,3,none⟩) hgw).trans n3
  have e3:=m3 w2 hb2'
  have H2:=Lib.hid hat2
  have HB2:=Lib.hid hb2'
  have hs2:=hb2'.size
  have HLn:Hid (∀ n,Calls Tryz.prog 200 #[.pointer (some ⟨b2,0,none⟩)] (w2.drewN n) fun e w' => e = .returned (.int .i64 (L.length:Int))∧w2.drewN n = w'):=Lib.hid fun n => by
    have h1:=Sn.sLen_c (w:=w2.drewN n) hat2.1 (hat2.2.below (below_drewN n (Below.refl _ _)) (Nat.le_refl _) (Nat.le_refl _))
    rw [HL.out] at h1
    exact h1
  have HLo:Hid (∀ n,Calls Tryz.prog 200 #[.pointer (some ⟨b,0,none⟩)] (w2.drewN n) fun e w' => e = .returned (.int .i64 (L.length:Int))∧w2.drewN n = w'):=Lib.hid fun n =>
    Sn.sLen_c (w:=w2.drewN n) HN.out.2.1.1 (HN.out.2.1.2.below (below_drewN n hb2') hB (Nat.le_refl _))
  clear hat2 hb2 hb2' m3 n3 n0 k1
  go_wp2_with fail
  go_quiet ((first
    | (go_at_call 200;with_reducible (exact Calls.quiet_of_same ((HLn.out _).mono fun e w' h => ⟨h.1,h.2.symm⟩)))
    | (go_at_call 200;with_reducible (exact Calls.quiet_of_same ((HLo.out _).mono fun e w' h => ⟨h.1,h.2.symm⟩)))))
  clear n4 n5 n6 n7 k4 k5 k6 k7 e3
  have d1:decide ((L.length:Int) < (L.length:Int)) = false:=decide_eq_false (by omega)
  have hbq:Below w2.heap.size w2 (w2.drewN nq):=below_drewN nq (Below.refl _ _)
  have HBq:=Lib.hid hbq
  clear hbq
  go_wp2_with fail
  refine (sAll_n H2.out.1 (H2.out.2.below HBq.out (Nat.le_refl _) (Nat.le_refl _)) (show w2.heap.size≤_ from HBq.out.size)).mono ?_
  rintro e w3 ⟨A3,c3,rfl,hr3,hb3⟩
  have HB3:=Lib.hid (HBq.out.trans (hb3.mono HBq.out.size))
  have H3:=Lib.hid hr3
  clear hr3 hb3
  go_wp2_with fail
  refine (sumsOf_c (ss:=ss) H3.out ((HN.out.2.2.2.2.below (HB2.out.trans (HB3.out.mono hs2)) hB).up (Nat.le_trans hB (HB2.out.trans (HB3.out.mono hs2)).size)) (Nat.le_refl _) HC.out (by rw [Sl.things_length,HL.out];unfold maxLen;omega)).mono ?_
  rintro e w4 ⟨rfl,hb4⟩
  have HB4:=Lib.hid (HB3.out.trans (hb4.mono HB3.out.size))
  clear hb4
  go_wp2_with fail
  refine (having_c (HN.out.1.below (HB2.out.trans (HB4.out.mono hs2)) hB (Nat.le_refl _)) (Nat.le_trans hB (Below.size (HB2.out.trans (HB4.out.mono hs2)))) (some ⟨b2,0,none⟩) (togF ss)).mono ?_
  rintro e w5 ⟨g',rfl,hnd,hg5,hb5⟩
  have hg5:=Nat.le_trans (HB2.out.trans (HB4.out.mono hs2)).size hg5
  have HG:=Lib.hid hnd
  have HB5:=Lib.hid (HB4.out.trans (hb5.mono HB4.out.size))
  clear hnd hb5
  go_wp2_with fail
  go_ret
  exact ⟨g',b2,rfl,HG.out,H2.out.below HB5.out (Nat.le_refl _) HB5.out.size,hg5,HB2.out.trans (HB5.out.mono hs2)⟩
end Go.Proofs.YtkeepngaaleakaaGreatDoor
