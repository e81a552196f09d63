import Derived.Test.YtkeepngaaleakaaGreatDoorM05
namespace Go.Proofs.YtkeepngaaleakaaGreatDoor.Sn
open Go.ChangeShapes Go.WideShapes Go.ChangeAt Go.RowKit
def tell (o:Option (Nat × Option Addr)):Value:=match o with
  | some p => .tuple #[.int .i64 (p.1:Int),(Value.pointer (p.2)),.bool true]
  | none => none3
theorem sAt_any {w:World} {B b k:Nat} {L:Al} (wf:Sl.Wf k L) (h:Sp w B b k L) (i:Nat) :
    Calls Tryz.prog 243 #[.pointer (some ⟨b,0,none⟩),.int .i64 (i:Int)] w fun e w' => e = .returned (tell L[i]?)∧∃ n,w' = w.drewN n:=by
  rcases hp:L[i]? with _ | p
  · obtain ⟨_,A,c,C,c',_,_,_,h3,_⟩:=id h
    refine (sAt_high h3 i (List.getElem?_eq_none_iff.1 hp)).mono ?_
    rintro e w' ⟨rfl,rfl⟩
    exact ⟨rfl,0,rfl⟩
  · exact sAt_sp wf h i p hp
theorem sFrom_nil (a:Int) (w:World):Calls Tryz.prog 203 #[.pointer none,.int .i64 a] w fun e w' => e = .returned none3∧w = w':=by
  go_enter Tryz.func203,Tryz.ntmps203
  go_wp2_with (first
    | (go_at_call 148;refine (sDense_nil _).mono ?_;rintro e w' ⟨rfl,rfl⟩)
    | (go_at_call 245;refine (sSearch_nil _ _).mono ?_;rintro e w' ⟨rfl,rfl⟩)
    | (go_at_call 243;refine (sAt_nil _ _).mono ?_;rintro e w' ⟨rfl,rfl⟩))
  go_ret3
  exact ⟨rfl,rfl⟩
theorem tell_form (o:Option (Nat × Option Addr)):∃ x y z,tell o = .tuple #[.int .i64 x,(Value.pointer (y)),.bool z]:=by
  cases o with
  | none => exact ⟨0,none,false,rfl⟩
  | some p => exact ⟨_,p.2,true,rfl⟩
theorem sFrom_sp {w:World} {B b k:Nat} {L:Al} (wf:Sl.Wf k L) (h:Sp w B b k L) (a:Int) :
    Calls Tryz.prog 203 #[.pointer (some ⟨b,0,none⟩),.int .i64 a] w fun e w' => e = .returned (tell L[Sl.idx L a]?)∧∃ n,w' = w.drewN n:=by
  obtain ⟨x,y,z,hT⟩:=tell_form L[Sl.idx L a]?
  have H1:=Lib.hid (sDense_c (d:=false) h)
  have H2:=Lib.hid (sSearch_c wf h a)
  have H3:=Lib.hid (fun n => sAt_any (w:=w.drewN n) wf h (Sl.idx L a))
  rw [hT] at H3
  have HT:=Lib.hid hT
  clear wf h hT
  go_enter Tryz.func203,Tryz.ntmps203
  go_wp2_with (first
    | (go_at_call 148;refine H1.out.mono ?_;rintro e w' ⟨rfl,rfl⟩)
    | (go_at_call 245;refine H2.out.mono ?_;rintro e w' ⟨rfl,n,rfl⟩)
    | (go_at_call 243;refine (H3.out n).mono ?_;rintro e w' ⟨rfl,m,rfl⟩))
  go_ret3
  exact ⟨by rw [HT.out];rfl,_,rfl⟩
/-! ### dense -/
theorem sAt_row {w:World} {B b k:Nat} {L:Al} (wf:Sl.Wf k L) (h:De w B b k L) (p:Nat × Option Addr) (hp:p∈L) :
    Calls Tryz.prog 243 #[.pointer (some ⟨b,0,none⟩),.int .i64 (p.1:Int)] w fun e w' => e = .returned (tell (some p))∧∃ n,w' = w.drewN n :=
  sAt_de h p.1 p.2 (Sl.row_some (wf.lt p hp) (Sl.get_of_mem wf.srt hp))
theorem from_at {w:World} {B b k:Nat} {L:Al} (wf:Sl.Wf k L) (h:De w B b k L) (f t:Nat) (ht:Lib.ctz 64 (Z.cutN (Sl.mask L) f) = t) :
    Calls Tryz.prog 243 #[.pointer (some ⟨b,0,none⟩),.int .i64 (t:Int)] w fun e w' => e = .returned (tell L[Sl.idx L (f:Int)]?)∧∃ n,w' = w.drewN n:=by
  have h64:=wf.lt64 h.2.1
  rcases hp:L[Sl.idx L (f:Int)]? with _ | p
  · obtain ⟨_,hk,_,P,C,c',_,_,_,h3,_⟩:=id h
    have hle:L.length≤Sl.idx L (f:Int):=List.getElem?_eq_none_iff.1 hp
    rw [Sl.from_none wf.srt hle] at ht
    have e64:t = 64:=by rw [← ht];rfl
    subst e64
    have hp2:2 ^ k≤2 ^ 6:=Nat.pow_le_pow_right (n:=2) (by omega) hk
    refine (sAt_high h3 64 (by omega)).mono ?_
    rintro e w' ⟨rfl,rfl⟩
    exact ⟨rfl,0,rfl⟩
  · rw [Sl.from_some wf.srt h64 hp] at ht
    subst ht
    exact sAt_row wf h p (List.mem_of_getElem? hp)
set_option maxRecDepth 100000 in
theorem sFrom_de {w:World} {B b k:Nat} {L:Al} (wf:Sl.Wf k L) (h:De w B b k L) (hT:Tz w) (a:Int) (hlo:-9223372036854775808≤a) (hhi:a≤9223372036854775807) :
    Calls Tryz.prog 203 #[.pointer (some ⟨b,0,none⟩),.int .i64 a] w fun e w' => e = .returned (tell L[Sl.idx L a]?)∧∃ n,w' = w.drewN n:=by
  have H1:=Lib.hid (sDense_c (d:=true) h)
  have hm:=Sl.mask_lt (wf.lt64 h.2.1)
  obtain ⟨_,hk,_,P,C,c',_,c1,_,_,_⟩:=id h
  by_cases ha:a < 64
  · -- the shift is less than the word
    obtain ⟨f,hf⟩:∃ f:Nat,max a 0 = (f:Int):=⟨(max a 0).toNat,by omega⟩
    have hidx:Sl.idx L a = Sl.idx L (f:Int):=by
      by_cases hn:a < 0
      · have e0:f = 0:=by omega
        subst e0
        rw [show ((0:Nat):Int) = 0 from rfl,Sl.idx_zero]
        refine Sl.idx_uniq _ _ _ (Nat.zero_le _) (fun j p hj => absurd hj (by omega)) (fun p _ => by omega)
      · rw [show a = (f:Int) by omega]
    have hf64:f < 64:=by omega
    obtain ⟨t,ht⟩:∃ t,Lib.ctz 64 (Z.cutN (Sl.mask L) f) = t:=⟨_,rfl⟩
    obtain ⟨x,y,z,hTl⟩:=tell_form L[Sl.idx L (f:Int)]?
    have H3:=Lib.hid (fun n => from_at (w:=w.drewN n) wf h f t ht)
    rw [hTl] at H3
    have hcl:=Nat.lt_of_le_of_lt (Z.cutN_le (Sl.mask L) f) hm
    have H2:=Lib.hid (fun n => tz64_c (Z.cutN (Sl.mask L) f) hcl (w.drewN n) hT t ht)
    have hcut:IntKind.u64.wrap ((Sl.mask L:Int) / 2 ^ f * 2 ^ f) = (Z.cutN (Sl.mask L) f:Int):=by
      have e:((Sl.mask L:Int) / 2 ^ f * 2 ^ f) = ((Z.cutN (Sl.mask L) f:Nat):Int):=by
        unfold Z.cutN
        simp
      rw [e,IntKind.wrap_u64]
      omega
    have HT:=Lib.hid (And.intro hidx hTl)
    clear wf h hT ht hTl hidx hcl hk
    go_enter Tryz.func203,Tryz.ntmps203
    go_wp2_with (first
      | (go_at_call 148;refine H1.out.mono ?_;rintro e w' ⟨rfl,rfl⟩))
    refine (H2.out 0).mono ?_
    rintro e w' ⟨rfl,rfl⟩
    go_wp2_with fail
    refine (H3.out 0).mono ?_
    rintro e w' ⟨rfl,m,rfl⟩
    go_wp2_with fail
    go_ret3
    exact ⟨by rw [HT.out.1,HT.out.2];rfl,_,rfl⟩
  · have hmax:max a 0 = a:=by omega
    have hmin:min a.toNat 64 = 64:=by omega
    have h0a:0≤a:=by omega
    have hz:(Sl.mask L:Int) / 18446744073709551616 = 0:=by omega
    have hz2:(Sl.mask L:Int) / 2 ^ 64 = 0:=by omega
    have hend:L.length≤Sl.idx L a:=by rw [Sl.idx_all (fun p hp => by have:=wf.lt64 hk p hp;omega)];exact Nat.le_refl _
    have hTl:Hid (L[Sl.idx L a]? = none):=Lib.hid (List.getElem?_eq_none hend)
    have hp2:2 ^ k≤2 ^ 6:=Nat.pow_le_pow_right (n:=2) (by omega) hk
    have H3:Hid (∀ n,Calls Tryz.prog 243 #[.pointer (some ⟨b,0,none⟩),.int .i64 64] (w.drewN n) fun e w' => e = .returned none3∧w.drewN n = w'):=Lib.hid (fun n => by
      obtain ⟨_,_,_,P,C,c',_,_,_,h3,_⟩:=id h
      exact sAt_high (w:=w.drewN n) h3 64 (by omega))
    clear wf h hT hend hk hp2
    go_enter Tryz.func203,Tryz.ntmps203
    go_wp2_with (first
      | (go_at_call 148;refine H1.out.mono ?_;rintro e w' ⟨rfl,rfl⟩))
    refine (tz64_zero _).mono ?_
    rintro e w' ⟨rfl,rfl⟩
    go_wp2_with fail
    refine (H3.out 0).mono ?_
    rintro e w' ⟨rfl,rfl⟩
    go_wp2_with fail
    go_ret3
    exact ⟨by rw [hTl.out];rfl,0,rfl⟩
theorem sFrom_c {w:World} {B b k:Nat} {L:Al} {d:Bool} (wf:Sl.Wf k L) (h:Rp w B b k L d) (hT:Tz w) (a:Int) (hlo:-9223372036854775808≤a) (hhi:a≤9223372036854775807) :
    Calls Tryz.prog 203 #[.pointer (some ⟨b,0,none⟩),.int .i64 a] w fun e w' => e = .returned (tell L[Sl.idx L a]?)∧∃ n,w' = w.drewN n:=by
  cases d
  · exact sFrom_sp wf h a
  · exact sFrom_de wf h hT a hlo hhi
/-! ### UpTo -/
end Go.Proofs.YtkeepngaaleakaaGreatDoor.Sn
namespace Go.Proofs.YtkeepngaaleakaaGreatDoor
open Go.ChangeShapes Go.WideShapes Go.ChangeAt Go.RowKit
open Tr (T S4)
abbrev atKid (n:Nat) (p:Option Addr):Value:=.tuple #[.int .i64 (n:Int),.pointer p]
theorem nFrom_ent {w:World} {B g:Nat} {lev:Int} {pre:List Nat} {v:Nat} {s:S4} (h:NdAt w B g lev pre v none s) (a:Int) :
    Calls Tryz.prog 149 #[.pointer (some ⟨g,0,none⟩),.int .i64 a] w fun e w' => e = .returned (atKid 0 none)∧w = w':=by
  obtain ⟨-,-,-,-,h3,-⟩:=h
  go_enter Tryz.func149,Tryz.ntmps149
  go_wp2_with (go_at_call 203;refine (Sn.sFrom_nil a _).mono ?_;rintro e w' ⟨rfl,rfl⟩)
  go_ret2
  exact ⟨rfl,rfl⟩
theorem nFrom_br {w:World} {B B' g b k:Nat} {lev:Int} {pre:List Nat} {v:Nat} {s:S4} {L:Sn.Al} (h:NdAt w B g lev pre v (some ⟨b,0,none⟩) s) (ha:Sn.At w B' b k L) (hT:Tz w) (a:Int) (hlo:-9223372036854775808≤a) (hhi:a≤9223372036854775807) (p:Nat × Option Addr) (hp:(L[Sl.idx L a]?).getD (0,none) = p) :
    Calls Tryz.prog 149 #[.pointer (some ⟨g,0,none⟩),.int .i64 a] w fun e w' => e = .returned (atKid p.1 p.2)∧∃ n,w' = w.drewN n:=by
  obtain ⟨-,-,-,-,h3,-⟩:=h
  have H0:=Sn.sFrom_c ha.1 ha.2 hT a hlo hhi
  obtain ⟨r,hr⟩:∃ r,Sn.tell L[Sl.idx L a]? = .tuple #[.int .i64 (p.1:Int),.pointer p.2,.bool r]:=by
    cases hx:L[Sl.idx L a]? with
    | none => rw [hx] at hp;subst hp;exact ⟨false,rfl⟩
    | some q => rw [hx] at hp;subst hp;exact ⟨true,rfl⟩
  rw [hr] at H0
  have H:=Lib.hid H0
  clear ha hp hr H0 hT
  go_enter Tryz.func149,Tryz.ntmps149
  go_wp2_with (go_at_call 203;refine H.out.mono ?_;rintro e w' ⟨rfl,n,rfl⟩)
  go_ret2
  exact ⟨rfl,_,rfl⟩
end Go.Proofs.YtkeepngaaleakaaGreatDoor
