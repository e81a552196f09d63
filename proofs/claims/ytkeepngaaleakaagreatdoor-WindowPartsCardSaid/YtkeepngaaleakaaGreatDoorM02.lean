import Derived.Shelf.Spec.TrailingZeros
import Derived.Test.YtkeepngaaleakaaGreatDoorTie
import Derived.LaidMore
import Derived.Lay
import Derived.SevenTiedAt
import Derived.HandedShaped
import Derived.FnData
import Derived.Lib.LaidTab
import Derived.Lib.TrailingZeros
import Derived.Maps.AppendAt
import Derived.Test.YtkeepngaaleakaaGreatDoorM01
namespace Go.Proofs.YtkeepngaaleakaaGreatDoor
open Go.ChangeShapes Go.WideShapes Go.ChangeAt Go.RowKit
theorem iq1 {x:Nat} (h:x < 18446744073709551616):IntKind.u64.wrap (bits .and .u64 ((x:Int) / 2) 6148914691236517205 + bits .and .u64 (x:Int) 6148914691236517205) = ((Pc.p1 x:Nat):Int):=by
  have hb:=Pc.p1_lt (x:=x)
  have e1:=bits_and_u64_nat (x / 2) 6148914691236517205 (by omega) (by omega)
  have e2:=bits_and_u64_nat x 6148914691236517205 (by omega) (by omega)
  rw [show ((6148914691236517205:Nat):Int) = 6148914691236517205 from rfl] at e1 e2
  rw [show (x:Int) / 2 = ((x / 2:Nat):Int) by omega,e1,e2,IntKind.wrap_u64]
  unfold Pc.p1 at *
  omega
theorem iq2 {x:Nat} (h:x < 18446744073709551616):IntKind.u64.wrap (bits .and .u64 ((x:Int) / 4) 3689348814741910323 + bits .and .u64 (x:Int) 3689348814741910323) = ((Pc.p2 x:Nat):Int):=by
  have hb:=Pc.p2_lt (x:=x)
  have e1:=bits_and_u64_nat (x / 4) 3689348814741910323 (by omega) (by omega)
  have e2:=bits_and_u64_nat x 3689348814741910323 (by omega) (by omega)
  rw [show ((3689348814741910323:Nat):Int) = 3689348814741910323 from rfl] at e1 e2
  rw [show (x:Int) / 4 = ((x / 4:Nat):Int) by omega,e1,e2,IntKind.wrap_u64]
  unfold Pc.p2 at *
  omega
theorem iq3 {x:Nat} (h:x < 8000000000000000000):bits .and .u64 (IntKind.u64.wrap ((x:Int) / 16 + (x:Int))) 1085102592571150095 = ((Pc.p3 x:Nat):Int):=by
  have e1:=bits_and_u64_nat (x / 16 + x) 1085102592571150095 (by omega) (by omega)
  rw [show ((1085102592571150095:Nat):Int) = 1085102592571150095 from rfl] at e1
  rw [show IntKind.u64.wrap ((x:Int) / 16 + (x:Int)) = ((x / 16 + x:Nat):Int) by rw [IntKind.wrap_u64];omega,e1]
  rfl
theorem iq4 {x:Nat} (h:x < 2000000000000000000):IntKind.u64.wrap ((x:Int) + (x:Int) / 256) = ((Pc.p4 x:Nat):Int):=by rw [IntKind.wrap_u64];unfold Pc.p4;omega
theorem iq5 {x:Nat} (h:x < 2000000000000000000):IntKind.u64.wrap ((x:Int) + (x:Int) / 65536) = ((Pc.p5 x:Nat):Int):=by rw [IntKind.wrap_u64];unfold Pc.p5;omega
theorem iq6 {x:Nat} (h:x < 2000000000000000000):IntKind.u64.wrap ((x:Int) + (x:Int) / 4294967296) = ((Pc.p6 x:Nat):Int):=by rw [IntKind.wrap_u64];unfold Pc.p6;omega
theorem iq7 {x:Nat} (h:x < 2000000000000000000):bits .and .i64 (wrap64 (x:Int)) 127 = ((Pc.p7 x:Nat):Int):=by
  have e1:=Mk.and_i64 x 127 (by omega) (by omega)
  rw [show ((127:Nat):Int) = 127 from rfl] at e1
  rw [IntWalk.wrap64_in _ (by omega),e1]
  rfl
theorem ones64_any (x:Nat) (w:World) (hx:x < 18446744073709551616) :
    Calls Tryz.prog 242 #[.int .u64 (x:Int)] w fun e w' => e = .returned (.int .i64 (Pc.ones 64 x:Int))∧w = w':=by
  go_enter Tryz.func242,Tryz.ntmps242
  go_wp2
  go_ret
  refine ⟨ret_int ?_,rfl⟩
  have h2:=Pc.p2_lt (x:=Pc.p1 x)
  have h3:=Pc.p3_lt (x:=Pc.p2 (Pc.p1 x))
  have h1:=Pc.p1_lt (x:=x)
  rw [iq1 hx,iq2 h1,iq3 h2]
  have h4:Pc.p4 (Pc.p3 (Pc.p2 (Pc.p1 x))) < 1200000000000000000:=by unfold Pc.p4;omega
  have h5:Pc.p5 (Pc.p4 (Pc.p3 (Pc.p2 (Pc.p1 x)))) < 1300000000000000000:=by unfold Pc.p5;omega
  have h6:Pc.p6 (Pc.p5 (Pc.p4 (Pc.p3 (Pc.p2 (Pc.p1 x))))) < 1400000000000000000:=by unfold Pc.p6;omega
  rw [iq4 (by omega),iq5 (by omega),iq6 (by omega),iq7 (by omega),Pc.ones_all hx]
def Tz (w:World):Prop:=TabAt 0 Lib.deBruijn64tab w
theorem Tz.on {w w':World} (h:Tz w) (hb:Below w.heap.size w w'):Tz w':=fun j hj => by
  have:=h j hj
  exact (hb.cell (p:=⟨0,j,none⟩) (World.block_lt_of_cell? w _ this)).trans this
theorem Tz.drew {w:World} (h:Tz w):Tz w.drew:=h
set_option maxHeartbeats 1000000 in
theorem tz64_core (x k j:Nat) (w:World) (hx0:((x:Int) == 0) = false)
    (key:IntKind.u64.wrap (bits BinOp.and IntKind.u64 (x:Int) (IntKind.u64.wrap (-(x:Int))) * 285870213051353865) / 288230376151711744 = (j:Int))
    (hi:j < 64) (hk:k < 64) (hcell:w.cell? ⟨0,j,none⟩ = some (.int .u8 k)) :
    Calls Tryz.prog 244 #[.int .u64 x] w fun e w' => e = .returned (.int .i64 k)∧w = w':=by
  go_enter Tryz.func244,Tryz.ntmps244
  go_wp2_with (simp only [key])
  go_ret
  exact ⟨rfl,rfl⟩
theorem tz64_zero (w:World):Calls Tryz.prog 244 #[.int .u64 0] w fun e w' => e = .returned (.int .i64 64)∧w = w':=by
  go_enter Tryz.func244,Tryz.ntmps244
  go_wp2
  go_ret
  exact ⟨rfl,rfl⟩
theorem tz64_c (x:Nat) (hx:x < 18446744073709551616) (w:World) (hT:Tz w) (n:Nat) (hn:Lib.ctz 64 x = n) :
    Calls Tryz.prog 244 #[.int .u64 (x:Int)] w fun e w' => e = .returned (.int .i64 (n:Int))∧w = w':=by
  subst hn
  by_cases hx0:x = 0
  · subst hx0
    exact tz64_zero w
  · obtain ⟨hlow,hk⟩:=Lib.lowest_bit 64 x hx0 hx
    obtain ⟨hi,htab⟩:=Lib.deBruijn64_at _ hk
    have hcell:=hT _ hi
    rw [htab] at hcell
    exact tz64_core x _ _ w (by simp;omega) (tz64_key x _ hx hx0 hlow) hi hk hcell
theorem gTz:Tryz.prog.globalNamed "math/bits.deBruijn64tab" = some 0:=by kernel_rfl
theorem tTz:(Tryz.prog.globals[0]?).map (·.type) = some 334:=by kernel_rfl
theorem cellsU8:Tryz.prog.cellsOf 5 = 1:=by kernel_rfl
theorem cellsTz:Tryz.prog.cellsOf 334 = 64:=by kernel_rfl
abbrev Ready (w:World):Prop:=Tz w
theorem ready_of {W:World} (h:laidMetH Tryz.prog [("math/bits.deBruijn64tab",Rows.laid_math_bits_deBruijn64tab)] W) (_hs:W.ShapedOpen Tryz.prog):Ready W:=by
  rw [MakeChecks.laidMetH_plain _ _ _ (by kernel_rfl)] at h
  have ht:=Lib.tabIs_of_head (zs:=Lib.deBruijn64tab.map fun (n:Nat) => (n:Int)) (k:=.u8) gTz tTz Tryz.underlying334 Tryz.underlying5 cellsU8 cellsTz h
  intro j hj
  rw [World.var?_cell gTz ht j]
  simp [List.getD_eq_getElem?_getD,List.getElem?_eq_getElem hj]
theorem lift_both {H:Type} {enc:TypeId × Value→H} {C:Checked} {os:Os} {f:FuncId} {fn:Func} {s:ChangeSpec} {conds:List PathCond} {laid:List (String × DataW Unit)}
    (own:ownKnob C.prog.godebug = none) (started:os.Started) (noInit:C.prog.inits.idxOf? f = none) (hfn:C.prog.funcs[f]? = some fn)
    (witness:∃ (w:World) (tape:Tape) (i:Input),w.os = os∧(w.forCall tape i).Shaped C.prog∧i.vars = []∧Input.okWide C.prog (w.forCall tape i) .any w.heap.size f i ∧
      ((s.pre enc C.prog fn conds false (w.forCall tape i).memory i.args∧laidMetH C.prog laid (w.forCall tape i).memory)∧sizedMet enc C.prog fn (OpenSpec.ofChange s) false (w.forCall tape i).memory i.args) ∧
      Assume.holds {} C.prog (lone (Frame.enter C.prog f i.args .normal) [] (w.forCall tape i)))
    (contract:∀ (W:World) (base:Nat) (args:Array Value) (ds gs:List (DataW H)) (before:List MemPlace),
      (∀ (j:Nat) t v,fn.params[j]? = some t→args[j]? = some v→Value.okWide C.prog W .any base t v) →
      DataW.Whole enc C.prog fn.params.toList s.vars false W args.toList ds gs before→laidMetH C.prog laid W→W.ShapedOpen C.prog →
      Calls C.prog f args W fun e W' => ∃ v,e = .returned v∧s.post enc C.prog fn false true false false W args v W') :
    ReturnsInHanded {} C os f .any (fun w args => (s.pre enc C.prog fn conds false w args∧laidMetH C.prog laid w)∧sizedMet enc C.prog fn (OpenSpec.ofChange s) false w args) (s.post enc C.prog fn false true false false):=by
  refine returnsInHanded_of_calls own started noInit witness fun w tape i _ hsh _ hok hpre _ => ?_
  obtain ⟨_,_,_,fn',hfn',_,_,_,_,hval⟩:=hok
  obtain rfl:fn' = fn:=Option.some.inj (hfn'.symm.trans hfn)
  obtain ⟨⟨⟨ds,gs,before,hw,_⟩,hx⟩,_⟩:=hpre
  refine (contract (w.forCall tape i) w.heap.size i.args ds gs before hval (DataW.Whole.of_heap (by rfl) hw) (hx.of_heap (by rfl)) hsh).mono ?_
  rintro e W' ⟨v,rfl,hp⟩
  exact ChangeSpec.post_blind hp
end Go.Proofs.YtkeepngaaleakaaGreatDoor
namespace Go.Proofs.YtkeepngaaleakaaGreatDoor.Sl
open Go.Proofs.YtkeepngaaleakaaGreatDoor.Z Go.Proofs.YtkeepngaaleakaaGreatDoor.Mk
variable {V:Type}
def Srt (L:List (Nat × V)):Prop:=L.Pairwise (fun p q => p.1 < q.1)
def idx:List (Nat × V)→Int→Nat
  | [],_ => 0
  | p :: L,a => if (p.1:Int) < a then idx L a + 1 else 0
def get:List (Nat × V)→Int→Option V
  | [],_ => none
  | p :: L,a => if (p.1:Int) = a then some p.2 else get L a
def del (a:Nat):List (Nat × V)→List (Nat × V)
  | [] => []
  | p :: L => if p.1 = a then L else p :: del a L
def put (a:Nat) (v:V):List (Nat × V)→List (Nat × V)
  | [] => [(a,v)]
  | p :: L => if p.1 < a then p :: put a v L else if p.1 = a then (a,v) :: L else (a,v) :: p :: L
def keys (L:List (Nat × V)):List Nat:=L.map (·.1)
def things (L:List (Nat × V)):List V:=L.map (·.2)
theorem keys_length (L:List (Nat × V)):(keys L).length = L.length:=by simp [keys]
theorem things_length (L:List (Nat × V)):(things L).length = L.length:=by simp [things]
theorem keys_get {L:List (Nat × V)} {i:Nat} {p:Nat × V} (h:L[i]? = some p):(keys L)[i]? = some p.1:=by simp [keys,h]
theorem things_get {L:List (Nat × V)} {i:Nat} {p:Nat × V} (h:L[i]? = some p):(things L)[i]? = some p.2:=by simp [things,h]
theorem srt_nil:Srt ([]:List (Nat × V)):=List.Pairwise.nil
theorem Srt.tail {p:Nat × V} {L:List (Nat × V)} (h:Srt (p :: L)):Srt L:=(List.pairwise_cons.1 h).2
theorem Srt.head {p:Nat × V} {L:List (Nat × V)} (h:Srt (p :: L)):∀ q∈L,p.1 < q.1:=(List.pairwise_cons.1 h).1
theorem srt_get {L:List (Nat × V)} (h:Srt L) {i j:Nat} {p q:Nat × V} (hp:L[i]? = some p) (hq:L[j]? = some q) (hij:i < j):p.1 < q.1:=by
  obtain ⟨a1,rfl⟩:=List.getElem?_eq_some_iff.1 hp
  obtain ⟨a2,rfl⟩:=List.getElem?_eq_some_iff.1 hq
  exact List.pairwise_iff_getElem.1 h i j a1 a2 hij
theorem idx_le:∀ (L:List (Nat × V)) (a:Int),idx L a≤L.length
  | [],_ => Nat.le_refl _
  | p :: L,a => by
    have:=idx_le L a
    simp only [idx,List.length_cons]
    split <;> omega
theorem idx_below:∀ (L:List (Nat × V)) (a:Int) (j:Nat) (p:Nat × V),j < idx L a→L[j]? = some p→(p.1:Int) < a
  | [],_,j,p,h,_ => by simp [idx] at h
  | q :: L,a,j,p,h,hp => by
    simp only [idx] at h
    split at h
    · rename_i hq
      cases j with
      | zero => simp at hp;subst hp;exact hq
      | succ j => exact idx_below L a j p (by omega) (by simpa using hp)
    · omega
theorem idx_uniq:∀ (L:List (Nat × V)) (a:Int) (i:Nat),i≤L.length→(∀ j p,j < i→L[j]? = some p→(p.1:Int) < a)→(∀ p,L[i]? = some p→a≤(p.1:Int))→idx L a = i
  | [],a,i,h,_,_ => by simp at h;subst h;rfl
  | q :: L,a,i,h,h1,h2 => by
    simp only [idx]
    cases i with
    | zero =>
      have:=h2 q (by simp)
      rw [if_neg (by omega)]
    | succ i =>
      have:=h1 0 q (by omega) (by simp)
      rw [if_pos this]
      have:=idx_uniq L a i (by simpa using h) (fun j p hj hp => h1 (j + 1) p (by omega) (by simpa using hp)) (fun p hp => h2 p (by simpa using hp))
      rw [this]
theorem idx_at:∀ (L:List (Nat × V)) (a:Int) (p:Nat × V),L[idx L a]? = some p→a≤(p.1:Int)
  | [],_,p,h => by simp [idx] at h
  | q :: L,a,p,h => by
    simp only [idx] at h
    split at h
    · exact idx_at L a p (by simpa using h)
    · rename_i hq
      simp at h
      subst h
      omega
theorem idx_above {L:List (Nat × V)} (h:Srt L) (a:Int) {j:Nat} {p:Nat × V} (hj:idx L a≤j) (hp:L[j]? = some p):a≤(p.1:Int):=by
  have hlt:=(List.getElem?_eq_some_iff.1 hp).1
  obtain ⟨q,hq⟩:∃ q,L[idx L a]? = some q:=⟨_,List.getElem?_eq_getElem (by omega)⟩
  have h1:=idx_at L a q hq
  rcases Nat.lt_or_eq_of_le hj with h2 | h2
  · have:=srt_get h hq hp h2
    omega
  · subst h2
    rw [hq] at hp
    cases hp
    exact h1
theorem get_mem:∀ (L:List (Nat × V)) (a:Int) (v:V),get L a = some v→∃ n:Nat,a = (n:Int)∧(n,v)∈L
  | [],_,_,h => by simp [get] at h
  | q :: L,a,v,h => by
    simp only [get] at h
    split at h
    · rename_i e
      simp at h
      subst h
      exact ⟨q.1,e.symm,by simp⟩
    · obtain ⟨n,h1,h2⟩:=get_mem L a v h
      exact ⟨n,h1,by simp [h2]⟩
theorem get_none:∀ {L:List (Nat × V)} {a:Int},get L a = none→∀ p∈L,(p.1:Int)≠a
  | [],_,_,p,hp => by simp at hp
  | q :: L,a,h,p,hp => by
    simp only [get] at h
    split at h
    · simp at h
    · rename_i e
      rcases List.mem_cons.1 hp with rfl | hp
      · exact e
      · exact get_none h p hp
theorem get_of_mem:∀ {L:List (Nat × V)} (_:Srt L) {p:Nat × V},p∈L→get L (p.1:Int) = some p.2
  | [],_,p,hp => by simp at hp
  | q :: L,h,p,hp => by
    simp only [get]
    rcases List.mem_cons.1 hp with rfl | hp
    · simp
    · have:=h.head p hp
      rw [if_neg (by omega)]
      exact get_of_mem h.tail hp
theorem get_iff {L:List (Nat × V)} (h:Srt L) {a:Nat} {v:V}:get L (a:Int) = some v↔(a,v)∈L:=by
  constructor
  · intro e
    obtain ⟨n,hn,hm⟩:=get_mem L _ _ e
    have:a = n:=by omega
    subst this
    exact hm
  · intro hm
    exact get_of_mem h hm
theorem idx_of {L:List (Nat × V)} (h:Srt L) {i:Nat} {p:Nat × V} (hp:L[i]? = some p):idx L (p.1:Int) = i:=by
  have hlt:=(List.getElem?_eq_some_iff.1 hp).1
  refine idx_uniq L _ i (by omega) (fun j q hj hq => ?_) (fun q hq => ?_)
  · have:=srt_get h hq hp hj
    omega
  · rw [hp] at hq
    cases hq
    omega
theorem get_at {L:List (Nat × V)} (h:Srt L) {a:Int} {v:V} (e:get L a = some v):∃ n:Nat,a = (n:Int)∧L[idx L a]? = some (n,v):=by
  obtain ⟨n,hn,hm⟩:=get_mem L _ _ e
  obtain ⟨i,hi⟩:=List.mem_iff_getElem?.1 hm
  refine ⟨n,hn,?_⟩
  have:=idx_of h hi
  rw [hn]
  rw [show ((n,v):Nat × V).1 = n from rfl] at this
  rw [this]
  exact hi
theorem get_idx {L:List (Nat × V)} (h:Srt L) {a:Int} {p:Nat × V} (hp:L[idx L a]? = some p):get L a = if (p.1:Int) = a then some p.2 else none:=by
  split
  · rename_i e
    rw [← e]
    exact get_of_mem h (List.mem_of_getElem? hp)
  · rename_i e
    cases hg:get L a with
    | none => rfl
    | some v =>
      obtain ⟨n,hn,hm⟩:=get_at h hg
      rw [hp] at hm
      cases hm
      exact absurd hn.symm e
theorem get_end {L:List (Nat × V)} (h:Srt L) {a:Int} (hp:L.length≤idx L a):get L a = none:=by
  cases hg:get L a with
  | none => rfl
  | some v =>
    obtain ⟨n,hn,hm⟩:=get_at h hg
    have:=(List.getElem?_eq_some_iff.1 hm).1
    omega
def has (L:List (Nat × V)) (a:Int):Bool:=(get L a).isSome
theorem has_idx {L:List (Nat × V)} (h:Srt L) {a:Int} {p:Nat × V} (hp:L[idx L a]? = some p):has L a = decide ((p.1:Int) = a):=by
  unfold has
  rw [get_idx h hp]
  split <;> simp [*]
theorem has_end {L:List (Nat × V)} (h:Srt L) {a:Int} (hp:L.length≤idx L a):has L a = false:=by
  unfold has
  rw [get_end h hp]
  rfl
theorem idx_succ {L:List (Nat × V)} (h:Srt L) (a:Int):idx L (a + 1) = idx L a + (if has L a = true then 1 else 0):=by
  have hle:=idx_le L a
  cases hg:get L a with
  | none =>
    have hn:=get_none hg
    rw [show has L a = false by simp [has,hg]]
    refine idx_uniq L _ _ (by simpa using hle) (fun j p hj hp => ?_) (fun p hp => ?_)
    · have:=idx_below L a j p (by simpa using hj) hp
      omega
    · have:=idx_at L a p (by simpa using hp)
      have:=hn p (List.mem_of_getElem? hp)
      omega
  | some v =>
    obtain ⟨n,hn,hm⟩:=get_at h hg
    have hlt:=(List.getElem?_eq_some_iff.1 hm).1
    rw [show has L a = true by simp [has,hg]]
    refine idx_uniq L _ _ (by simp;omega) (fun j p hj hp => ?_) (fun p hp => ?_)
    · simp at hj
      rcases Nat.lt_or_ge j (idx L a) with c | c
      · have:=idx_below L a j p c hp
        omega
      · have:j = idx L a:=by omega
        subst this
        rw [hm] at hp
        cases hp
        simp
        omega
    · simp at hp
      have:=srt_get h hm hp (by omega)
      simp at this
      omega
/-! ### put and del -/
theorem del_none:∀ {L:List (Nat × V)} {a:Nat},get L (a:Int) = none→del a L = L
  | [],_,_ => rfl
  | p :: L,a,h => by
    simp only [get] at h
    split at h
    · simp at h
    · rename_i e
      simp only [del]
      rw [if_neg (by omega),del_none h]
theorem del_some:∀ {L:List (Nat × V)} (_:Srt L) {a:Nat} {v:V},get L (a:Int) = some v→del a L = L.take (idx L a) ++ L.drop (idx L a + 1)
  | [],_,_,_,h => by simp [get] at h
  | p :: L,hs,a,v,h => by
    simp only [get] at h
    simp only [del,idx]
    split at h
    · rename_i e
      rw [if_pos (by omega),if_neg (by omega)]
      simp
    · rename_i e
      obtain ⟨n,hn,hm⟩:=get_mem L _ _ h
      have:=hs.head _ hm
      rw [if_neg (by omega),if_pos (by simp at this;omega),del_some hs.tail h]
      simp
theorem put_none:∀ {L:List (Nat × V)} (_:Srt L) {a:Nat} (v:V),get L (a:Int) = none→put a v L = L.take (idx L a) ++ (a,v) :: L.drop (idx L a)
  | [],_,_,_,_ => rfl
  | p :: L,hs,a,v,h => by
    simp only [get] at h
    simp only [put,idx]
    split at h
    · simp at h
    · rename_i e
      by_cases c:p.1 < a
      · rw [if_pos c,if_pos (by omega),put_none hs.tail v h]
        simp
      · rw [if_neg c,if_neg (by omega),if_neg (by omega)]
        simp
theorem put_some:∀ {L:List (Nat × V)} (_:Srt L) {a:Nat} (v:V) {u:V},get L (a:Int) = some u→put a v L = L.set (idx L a) (a,v)
  | [],_,_,_,_,h => by simp [get] at h
  | p :: L,hs,a,v,u,h => by
    simp only [get] at h
    simp only [put,idx]
    split at h
    · rename_i e
      rw [if_neg (by omega),if_pos (by omega),if_neg (by omega)]
      simp
    · rename_i e
      obtain ⟨n,hn,hm⟩:=get_mem L _ _ h
      have:=hs.head _ hm
      have hlt:p.1 < a:=by simp at this;omega
      rw [if_pos hlt,if_pos (by omega),put_some hs.tail v h]
      simp
theorem mem_del:∀ {L:List (Nat × V)} {a:Nat} {p:Nat × V},p∈del a L→p∈L
  | [],_,_,h => by simp [del] at h
  | q :: L,a,p,h => by
    simp only [del] at h
    split at h
    · simp [h]
    · rcases List.mem_cons.1 h with rfl | h
      · simp
      · simp [mem_del h]
theorem mem_put:∀ {L:List (Nat × V)} {a:Nat} {v:V} {p:Nat × V},p∈put a v L→p = (a,v)∨p∈L
  | [],_,_,_,h => by simp [put] at h;simp [h]
  | q :: L,a,v,p,h => by
    simp only [put] at h
    split at h
    · rcases List.mem_cons.1 h with rfl | h
      · simp
      · rcases mem_put h with h | h
        · exact .inl h
        · simp [h]
    · split at h
      · rcases List.mem_cons.1 h with rfl | h
        · simp
        · simp [h]
      · rcases List.mem_cons.1 h with rfl | h
        · simp
        · exact .inr h
theorem srt_del:∀ {L:List (Nat × V)} (a:Nat),Srt L→Srt (del a L)
  | [],_,h => h
  | p :: L,a,h => by
    simp only [del]
    split
    · exact h.tail
    · exact List.pairwise_cons.2 ⟨fun q hq => h.head q (mem_del hq),srt_del a h.tail⟩
theorem srt_put:∀ {L:List (Nat × V)} (a:Nat) (v:V),Srt L→Srt (put a v L)
  | [],_,_,_ => List.pairwise_singleton _ _
  | p :: L,a,v,h => by
    simp only [put]
    split
    · rename_i c
      refine List.pairwise_cons.2 ⟨fun q hq => ?_,srt_put a v h.tail⟩
      rcases mem_put hq with rfl | hq
      · exact c
      · exact h.head q hq
    · split
      · rename_i c e
        exact List.pairwise_cons.2 ⟨fun q hq => by have:=h.head q hq;simp;omega,h.tail⟩
      · rename_i c e
        refine List.pairwise_cons.2 ⟨fun q hq => ?_,h⟩
        rcases List.mem_cons.1 hq with rfl | hq
        · simp;omega
        · have:=h.head q hq
          simp;omega
theorem get_put:∀ {L:List (Nat × V)} (_:Srt L) (a:Nat) (v:V) (b:Int),get (put a v L) b = if b = (a:Int) then some v else get L b
  | [],_,a,v,b => by simp only [put,get];split <;> split <;> (try rfl) <;> omega
  | p :: L,h,a,v,b => by
    simp only [put]
    split
    · rename_i c
      simp only [get,get_put h.tail a v b]
      split
      · rename_i e
        rw [if_neg (by omega)]
      · rfl
    · split
      · rename_i c e
        simp only [get]
        split
        · rename_i e2;rw [if_pos (by omega)]
        · rename_i e2;rw [if_neg (by omega),if_neg (by omega)]
      · simp only [get]
        split
        · rename_i e2;rw [if_pos (by omega)]
        · rename_i e2;rw [if_neg (show ¬ b = (a:Int) by omega)]
theorem get_del:∀ {L:List (Nat × V)} (_:Srt L) (a:Nat) (b:Int),get (del a L) b = if b = (a:Int) then none else get L b
  | [],_,a,b => by simp [del,get]
  | p :: L,h,a,b => by
    simp only [del]
    split
    · rename_i e
      simp only [get]
      by_cases hb:b = (a:Int)
      · rw [if_pos hb]
        cases hg:get L b with
        | none => rfl
        | some v =>
          obtain ⟨n,hn,hm⟩:=get_mem L _ _ hg
          have:=h.head _ hm
          simp at this
          omega
      · rw [if_neg hb,if_neg (by omega)]
    · rename_i e
      simp only [get,get_del h.tail a b]
      split
      · rename_i e2;rw [if_neg (by omega)]
      · rfl
theorem idx_del {L:List (Nat × V)} (h:Srt L) (a:Nat):idx (del a L) (a:Int) = idx L (a:Int):=by
  cases hg:get L (a:Int) with
  | none => rw [del_none hg]
  | some v =>
    rw [del_some h hg]
    obtain ⟨n,hn,hm⟩:=get_at h hg
    have hlt:=(List.getElem?_eq_some_iff.1 hm).1
    have hle:=idx_le L (a:Int)
    have hl:(L.take (idx L (a:Int))).length = idx L (a:Int):=by simp;omega
    refine idx_uniq _ _ _ (by simp;omega) (fun j p hj hp => ?_) (fun p hp => ?_)
    · rw [List.getElem?_append_left (by omega),List.getElem?_take_of_lt hj] at hp
      exact idx_below L _ j p hj hp
    · rw [List.getElem?_append_right (by omega),hl,Nat.sub_self,List.getElem?_drop] at hp
      have:=srt_get h hm hp (by omega)
      simp at this
      omega
theorem put_del {L:List (Nat × V)} (h:Srt L) (a:Nat) (v:V):put a v L = (del a L).take (idx L (a:Int)) ++ (a,v) :: (del a L).drop (idx L (a:Int)):=by
  cases hg:get L (a:Int) with
  | none => rw [del_none hg,put_none h v hg]
  | some u =>
    rw [del_some h hg,put_some h v hg]
    obtain ⟨n,hn,hm⟩:=get_at h hg
    have hlt:=(List.getElem?_eq_some_iff.1 hm).1
    have hl:(L.take (idx L (a:Int))).length = idx L (a:Int):=by simp;omega
    rw [List.take_left' hl,List.drop_left' hl,List.set_eq_take_append_cons_drop,if_pos hlt]
theorem length_del {L:List (Nat × V)} (h:Srt L) {a:Nat} {v:V} (e:get L (a:Int) = some v):(del a L).length + 1 = L.length:=by
  obtain ⟨n,hn,hm⟩:=get_at h e
  have hlt:=(List.getElem?_eq_some_iff.1 hm).1
  rw [del_some h e]
  simp
  omega
theorem length_put {L:List (Nat × V)} (h:Srt L) (a:Nat) (v:V):(put a v L).length = L.length + (if has L (a:Int) = true then 0 else 1):=by
  have hle:=idx_le L (a:Int)
  cases hg:get L (a:Int) with
  | none => rw [put_none h v hg,show has L (a:Int) = false by simp [has,hg]];simp;omega
  | some u => rw [put_some h v hg,show has L (a:Int) = true by simp [has,hg]];simp
/-! ### the word of bits,the cells -/
def mask:List (Nat × V)→Nat
  | [] => 0
  | p :: L => 2 ^ p.1 ||| mask L
theorem mask_testBit:∀ (L:List (Nat × V)) (j:Nat),(mask L).testBit j = has L (j:Int)
  | [],j => by simp [mask,has,get]
  | p :: L,j => by
    rw [mask,Nat.testBit_or,Nat.testBit_two_pow,mask_testBit L j]
    unfold has
    simp only [get]
    by_cases e:p.1 = j
    · rw [if_pos (by omega)];simp [e]
    · rw [if_neg (by omega)];simp [e]
theorem mask_lt {L:List (Nat × V)} {n:Nat} (h:∀ p∈L,p.1 < n):mask L < 2 ^ n:=by
  refine lt_two_pow_of fun i hi => ?_
  rw [mask_testBit]
  unfold has
  cases hg:get L (i:Int) with
  | none => rfl
  | some v =>
    obtain ⟨m,hm,hin⟩:=get_mem L _ _ hg
    have:=h _ hin
    simp at this
    omega
theorem mask_put {L:List (Nat × V)} (h:Srt L) (a:Nat) (v:V):mask (put a v L) = mask L ||| 2 ^ a:=by
  apply Nat.eq_of_testBit_eq
  intro i
  rw [mask_testBit,Nat.testBit_or,mask_testBit,Nat.testBit_two_pow]
  unfold has
  rw [get_put h]
  by_cases e:i = a
  · subst e;simp
  · rw [if_neg (by omega)];simp [show a≠i by omega]
theorem mask_del {L:List (Nat × V)} (h:Srt L) (a:Nat):mask (del a L) = less (mask L) (2 ^ a):=by
  apply Nat.eq_of_testBit_eq
  intro i
  rw [mask_testBit,less_testBit,mask_testBit,Nat.testBit_two_pow]
  unfold has
  rw [get_del h]
  by_cases e:i = a
  · subst e;simp
  · rw [if_neg (by omega)];simp [show a≠i by omega]
theorem mask_pos {L:List (Nat × V)} (h:L≠[]):mask L≠0:=by
  cases L with
  | nil => exact absurd rfl h
  | cons p L =>
    intro e
    have:=mask_testBit (p :: L) p.1
    rw [e] at this
    simp [has,get] at this
def row (z:V) (n:Nat) (L:List (Nat × V)):List V:=(List.range n).map fun (a:Nat) => (get L (a:Int)).getD z
theorem row_length (z:V) (n:Nat) (L:List (Nat × V)):(row z n L).length = n:=by simp [row]
theorem row_get (z:V) {n:Nat} (L:List (Nat × V)) {i:Nat} (h:i < n):(row z n L)[i]? = some ((get L (i:Int)).getD z):=by simp [row,h]
theorem row_some {z:V} {n:Nat} {L:List (Nat × V)} {i:Nat} {v:V} (h:i < n) (e:get L (i:Int) = some v):(row z n L)[i]? = some v:=by rw [row_get z L h,e];rfl
theorem row_put {z:V} {n:Nat} {L:List (Nat × V)} (h:Srt L) {a:Nat} (v:V):row z n (put a v L) = (row z n L).set a v:=by
  apply List.ext_getElem?
  intro i
  by_cases hi:i < n
  · rw [row_get z _ hi,List.getElem?_set,row_length,get_put h]
    by_cases e:a = i
    · subst e;simp [hi]
    · rw [if_neg (by omega),if_neg e,row_get z L hi]
  · rw [List.getElem?_eq_none (by rw [row_length];omega),List.getElem?_eq_none (by rw [List.length_set,row_length];omega)]
theorem row_del {z:V} {n:Nat} {L:List (Nat × V)} (h:Srt L) {a:Nat}:row z n (del a L) = (row z n L).set a z:=by
  apply List.ext_getElem?
  intro i
  by_cases hi:i < n
  · rw [row_get z _ hi,List.getElem?_set,row_length,get_del h]
    by_cases e:a = i
    · subst e;simp [hi]
    · rw [if_neg (by omega),if_neg e,row_get z L hi]
  · rw [List.getElem?_eq_none (by rw [row_length];omega),List.getElem?_eq_none (by rw [List.length_set,row_length];omega)]
theorem idx_zero (L:List (Nat × V)):idx L 0 = 0:=by
  cases L with
  | nil => rfl
  | cons p L => simp only [idx];rw [if_neg (by omega)]
theorem ones_idx {L:List (Nat × V)} (h:Srt L):∀ n:Nat,Pc.ones n (mask L) = idx L (n:Int)
  | 0 => by rw [show ((0:Nat):Int) = 0 from rfl,idx_zero];rfl
  | n + 1 => by
    have:=idx_succ h (n:Int)
    rw [show ((n:Int) + 1) = ((n + 1:Nat):Int) by omega] at this
    rw [this,Pc.ones,ones_idx h n,mask_testBit]
theorem idx_all {L:List (Nat × V)} {a:Int} (h:∀ p∈L,(p.1:Int) < a):idx L a = L.length:=by
  refine idx_uniq _ _ _ (Nat.le_refl _) (fun j p _ hp => h p (List.mem_of_getElem? hp)) (fun p hp => ?_)
  rw [List.getElem?_eq_none (Nat.le_refl _)] at hp
  cases hp
theorem length_le {L:List (Nat × V)} (hs:Srt L) {n:Nat} (h:∀ p∈L,p.1 < n):L.length≤n:=by
  have h1:=ones_idx hs n
  rw [idx_all (fun p hp => by have:=h p hp;omega)] at h1
  have:=Pc.ones_le n (mask L)
  omega
theorem ones_len {L:List (Nat × V)} (hs:Srt L) (h:∀ p∈L,p.1 < 64):Pc.ones 64 (mask L) = L.length:=by
  rw [ones_idx hs 64]
  exact idx_all (fun p hp => by have:=h p hp;omega)
/-! ### the lowest and the highest bit -/
theorem ctzFrom_at:∀ (f x k:Nat),x < 2 ^ f→x.testBit k = true→(∀ j,j < k→x.testBit j = false)→Lib.ctzFrom f x = k
  | 0,x,k,h,hk,_ => by
    have:x = 0:=by simpa using h
    subst this
    simp at hk
  | f + 1,x,k,h,hk,hlow => by
    simp only [Lib.ctzFrom]
    split
    · rename_i e
      cases k with
      | zero => rfl
      | succ k =>
        have:=hlow 0 (by omega)
        rw [Nat.testBit_zero] at this
        simp [e] at this
    · rename_i e
      cases k with
      | zero =>
        rw [Nat.testBit_zero] at hk
        simp at hk
        exact absurd hk e
      | succ k =>
        rw [ctzFrom_at f (x / 2) k (by rw [Nat.pow_succ] at h;omega) (by rw [← Nat.testBit_succ];exact hk) (fun j hj => by rw [← Nat.testBit_succ];exact hlow (j + 1) (by omega))]
        omega
theorem ctz_at {x k:Nat} (h:x < 2 ^ 64) (hk:x.testBit k = true) (hlow:∀ j,j < k→x.testBit j = false):Lib.ctz 64 x = k:=by
  unfold Lib.ctz
  rw [if_neg (by rintro rfl;simp at hk)]
  exact ctzFrom_at 64 x k h hk hlow
theorem from_some {L:List (Nat × V)} (hs:Srt L) (h:∀ p∈L,p.1 < 64) {f:Nat} {p:Nat × V} (hp:L[idx L (f:Int)]? = some p):Lib.ctz 64 (cutN (mask L) f) = p.1:=by
  have hge:=idx_at L _ p hp
  have hg:=get_of_mem hs (List.mem_of_getElem? hp)
  have hlt:=mask_lt h
  refine ctz_at (Nat.lt_of_le_of_lt (cutN_le _ _) hlt) ?_ fun j hj => ?_
  · rw [cutN_testBit,mask_testBit]
    simp [has,hg]
    omega
  · rw [cutN_testBit,mask_testBit]
    rcases Nat.lt_or_ge j f with c | c
    · simp [show ¬ f≤j by omega]
    · have:has L (j:Int) = false:=by
        unfold has
        cases e:get L (j:Int) with
        | none => rfl
        | some v =>
          obtain ⟨n,hn,hm⟩:=get_at hs e
          have hnj:n = j:=by omega
          subst hnj
          have h2:idx L (f:Int)≤idx L (n:Int):=by
            rcases Nat.lt_or_ge (idx L (n:Int)) (idx L (f:Int)) with d | d
            · have:=idx_below L _ _ _ d hm
              simp at this
              omega
            · exact d
          rcases Nat.lt_or_eq_of_le h2 with d | d
          · have:=srt_get hs hp hm d
            simp at this
            omega
          · rw [← d,hp] at hm
            cases hm
            omega
      simp [this]
theorem from_none {L:List (Nat × V)} (hs:Srt L) {f:Nat} (hp:L.length≤idx L (f:Int)):cutN (mask L) f = 0:=by
  apply Nat.eq_of_testBit_eq
  intro j
  rw [cutN_testBit,mask_testBit,Nat.zero_testBit]
  rcases Nat.lt_or_ge j f with c | c
  · simp [show ¬ f≤j by omega]
  · have:has L (j:Int) = false:=by
      unfold has
      cases e:get L (j:Int) with
      | none => rfl
      | some v =>
        obtain ⟨n,hn,hm⟩:=get_at hs e
        have hlt:=(List.getElem?_eq_some_iff.1 hm).1
        have:=idx_below L (f:Int) _ _ (by omega) hm
        simp at this
        omega
    simp [this]
/-! ### slots -/
structure Wf (k:Nat) (L:List (Nat × V)):Prop where
  k1:1≤k
  k16:k≤16
  srt:Srt L
  lt:∀ p∈L,p.1 < 2 ^ k
theorem Wf.nil {k:Nat} (h1:1≤k) (h2:k≤16):Wf k ([]:List (Nat × V)):=⟨h1,h2,srt_nil,fun p h => by simp at h⟩
theorem Wf.put {k:Nat} {L:List (Nat × V)} (h:Wf k L) {a:Nat} (v:V) (ha:a < 2 ^ k):Wf k (put a v L) :=
  ⟨h.k1,h.k16,srt_put a v h.srt,fun p hp => by rcases mem_put hp with rfl | hp;exact ha;exact h.lt p hp⟩
theorem Wf.del {k:Nat} {L:List (Nat × V)} (h:Wf k L) (a:Nat):Wf k (del a L):=⟨h.k1,h.k16,srt_del a h.srt,fun p hp => h.lt p (mem_del hp)⟩
theorem Wf.len {k:Nat} {L:List (Nat × V)} (h:Wf k L):L.length≤2 ^ k:=length_le h.srt h.lt
theorem Wf.len16 {k:Nat} {L:List (Nat × V)} (h:Wf k L):L.length≤65536:=Nat.le_trans h.len (Nat.pow_le_pow_right (n:=2) (by omega) h.k16)
theorem Wf.pow {k:Nat} {L:List (Nat × V)} (h:Wf k L):2 ^ k≤65536:=Nat.pow_le_pow_right (n:=2) (by omega) h.k16
theorem Wf.lt16 {k:Nat} {L:List (Nat × V)} (h:Wf k L):∀ p∈L,p.1 < 65536:=fun p hp => Nat.lt_of_lt_of_le (h.lt p hp) h.pow
theorem Wf.lt64 {k:Nat} {L:List (Nat × V)} (h:Wf k L) (hk:k≤6):∀ p∈L,p.1 < 64:=fun p hp => Nat.lt_of_lt_of_le (h.lt p hp) (Nat.pow_le_pow_right (n:=2) (by omega) hk)
def dense (k:Nat) (L:List (Nat × V)):Bool:=decide (k≤6) && decide (2 ^ k < 2 * L.length)
theorem dense_k {k:Nat} {L:List (Nat × V)} (h:dense k L = true):k≤6∧2 ^ k < 2 * L.length:=by simpa [dense] using h
theorem dense_more {k:Nat} {L M:List (Nat × V)} (h:dense k L = true) (hl:L.length≤M.length):dense k M = true:=by
  have:=dense_k h
  simp [dense]
  omega
end Go.Proofs.YtkeepngaaleakaaGreatDoor.Sl
namespace Go.Proofs.YtkeepngaaleakaaGreatDoor.Tr
open Go.Proofs.YtkeepngaaleakaaGreatDoor.Z
abbrev Ent:=List Nat × Nat
/-! ### sums -/
structure S4 where
  c:Nat
  s:Nat
  lo:Nat
  hi:Nat
def s0:S4:=⟨0,0,0,0⟩
def s1 (v:Nat):S4:=⟨1,v,v,v⟩
def tog (a b:S4):S4:=if a.c = 0 then b else if b.c = 0 then a else ⟨a.c + b.c,(a.s + b.s) % 18446744073709551616,min a.lo b.lo,max a.hi b.hi⟩
theorem tog_c (a b:S4):(tog a b).c = a.c + b.c:=by
  unfold tog
  split
  · omega
  · split
    · omega
    · rfl
theorem tog_assoc (a b d:S4):tog (tog a b) d = tog a (tog b d):=by
  by_cases ha:a.c = 0
  · simp [tog,ha]
  · by_cases hb:b.c = 0
    · simp [tog,ha,hb]
    · by_cases hd:d.c = 0
      · have:(tog a b).c≠0:=by rw [tog_c];omega
        rw [show tog (tog a b) d = tog a b by simp [tog,ha,hb,hd],show tog b d = b by simp [tog,hb,hd]]
      · have h1:tog a b = ⟨a.c + b.c,(a.s + b.s) % 18446744073709551616,min a.lo b.lo,max a.hi b.hi⟩:=by simp [tog,ha,hb]
        have h2:tog b d = ⟨b.c + d.c,(b.s + d.s) % 18446744073709551616,min b.lo d.lo,max b.hi d.hi⟩:=by simp [tog,hb,hd]
        rw [h1,h2]
        unfold tog
        rw [if_neg (by simp only;omega),if_neg hd,if_neg ha,if_neg (by simp only;omega)]
        simp only [S4.mk.injEq]
        refine ⟨by omega,by omega,by omega,by omega⟩
theorem tog_one (x y:Nat):tog (s1 x) (s1 y) = tog (s1 y) (s1 x):=by
  simp [tog,s1,Nat.add_comm,Nat.min_comm,Nat.max_comm]
theorem tog_zero {a:S4} (h:a.c = 0→a = s0):tog a s0 = a:=by
  unfold tog
  split
  · rename_i c;exact (h c).symm
  · simp [s0]
theorem zero_tog (a:S4):tog s0 a = a:=by simp [tog,s0]
def sumsF (a:S4) (L:List Ent):S4:=L.foldl (fun a e => tog a (s1 e.2)) a
def sums (L:List Ent):S4:=sumsF s0 L
theorem sumsF_c:∀ (L:List Ent) (a:S4),(sumsF a L).c = a.c + L.length
  | [],a => by simp [sumsF]
  | e :: L,a => by
    have:=sumsF_c L (tog a (s1 e.2))
    simp only [sumsF,List.foldl_cons,List.length_cons] at this ⊢
    rw [this,tog_c]
    simp [s1]
    omega
theorem sums_c (L:List Ent):(sums L).c = L.length:=by rw [sums,sumsF_c];simp [s0]
theorem sums_nil:sums [] = s0:=rfl
theorem sums_val (L:List Ent):(sums L).c = 0→sums L = s0:=by
  rw [sums_c]
  intro h
  rw [List.eq_nil_of_length_eq_zero h]
  rfl
theorem sumsF_eq:∀ (L:List Ent) (a:S4),(a.c = 0→a = s0)→sumsF a L = tog a (sums L)
  | [],a,h => by simp [sumsF,sums_nil,tog_zero h]
  | e :: L,a,h => by
    have h1:∀ b:S4,(tog b (s1 e.2)).c = 0→tog b (s1 e.2) = s0:=fun b hb => by rw [tog_c] at hb;simp [s1] at hb
    have h2:=sumsF_eq L (tog a (s1 e.2)) (h1 a)
    have h3:=sumsF_eq L (tog s0 (s1 e.2)) (h1 s0)
    simp only [sumsF,sums,List.foldl_cons] at h2 h3 ⊢
    rw [h2,h3,zero_tog,tog_assoc]
theorem sums_append (L M:List Ent):sums (L ++ M) = tog (sums L) (sums M):=by
  rw [← sumsF_eq M (sums L) (sums_val L)]
  simp [sums,sumsF,List.foldl_append]
theorem sums_one (e:Ent):sums [e] = s1 e.2:=by simp [sums,sumsF,zero_tog]
theorem sums_cons (e:Ent) (L:List Ent):sums (e :: L) = tog (s1 e.2) (sums L):=by
  rw [show e :: L = [e] ++ L from rfl,sums_append,sums_one]
theorem sums_snoc (e:Ent) (L:List Ent):sums (L ++ [e]) = tog (sums L) (s1 e.2):=by rw [sums_append,sums_one]
theorem sums_perm {L M:List Ent} (h:L.Perm M):sums L = sums M:=by
  induction h with
  | nil => rfl
  | cons e _ ih => rw [sums_cons,sums_cons,ih]
  | swap x y L => rw [sums_cons,sums_cons,sums_cons,sums_cons,← tog_assoc,← tog_assoc,tog_one]
  | trans _ _ h1 h2 => rw [h1,h2]
theorem sums_bd {L:List Ent} (h:∀ e∈L,e.2 < 18446744073709551616):(sums L).s < 18446744073709551616∧(sums L).lo < 18446744073709551616∧(sums L).hi < 18446744073709551616:=by
  induction L with
  | nil => simp [sums_nil,s0]
  | cons e L ih =>
    obtain ⟨h1,h2,h3⟩:=ih fun x hx => h x (List.mem_cons_of_mem _ hx)
    have he:=h e (List.mem_cons_self)
    rw [sums_cons]
    unfold tog
    rw [if_neg (by simp [s1])]
    split
    · exact ⟨he,he,he⟩
    · simp only [s1]
      omega
/-! ### trees -/
inductive T where
  | ent (g:Nat) (p:List Nat) (v:Nat)
  | br (g l:Nat) (pre:List Nat) (ks:List (Nat × T))
def T.blk:T→Nat
  | .ent g _ _ => g
  | .br g _ _ _ => g
def T.lv:T→Nat
  | .ent _ _ _ => 0
  | .br _ l _ _ => l + 1
def T.pre:T→List Nat
  | .ent _ p _ => p
  | .br _ _ pre _ => pre
def T.val:T→Nat
  | .ent _ _ v => v
  | .br _ _ _ _ => 0
def T.ks:T→List (Nat × T)
  | .ent _ _ _ => []
  | .br _ _ _ ks => ks
theorem kid_lt {x:Nat × T} {ks:List (Nat × T)} (hx:x∈ks) (g l:Nat) (pre:List Nat):SizeOf.sizeOf x.2 < SizeOf.sizeOf (T.br g l pre ks):=by
  have h1:=List.sizeOf_lt_of_mem hx
  have h2:SizeOf.sizeOf x.2 < SizeOf.sizeOf x:=by cases x;simp;omega
  simp only [T.br.sizeOf_spec]
  omega
def T.ents (t:T):List Ent :=
  match t with
  | .ent _ p v => [(p,v)]
  | .br _ _ _ ks => ks.attach.flatMap fun x => T.ents x.1.2
termination_by SizeOf.sizeOf t
decreasing_by
  rename_i g l pre
  have:=kid_lt x.2 g l pre
  simpa using this
def entsL (ks:List (Nat × T)):List Ent:=ks.flatMap fun x => x.2.ents
theorem ents_ent (g:Nat) (p:List Nat) (v:Nat):(T.ent g p v).ents = [(p,v)]:=by rw [T.ents]
theorem ents_br (g l:Nat) (pre:List Nat) (ks:List (Nat × T)):(T.br g l pre ks).ents = entsL ks:=by
  rw [T.ents,entsL]
  conv => rhs;rw [← List.attach_map_subtype_val ks]
  rw [List.flatMap_map]
theorem entsL_nil:entsL [] = []:=rfl
theorem entsL_cons (x:Nat × T) (ks:List (Nat × T)):entsL (x :: ks) = x.2.ents ++ entsL ks:=by simp [entsL]
theorem entsL_append (a b:List (Nat × T)):entsL (a ++ b) = entsL a ++ entsL b:=by simp [entsL]
theorem mem_entsL {e:Ent} {ks:List (Nat × T)}:e∈entsL ks↔∃ x∈ks,e∈x.2.ents:=by simp [entsL]
inductive Wf (k:Nat):T→Prop
  | ent (g:Nat) (p:List Nat) (v:Nat) (k1:1≤k) (k16:k≤16) (hl:p.length = k) (ho:Ok p) (hv:v < 18446744073709551616):Wf k (.ent g p v)
  | br (g l:Nat) (pre:List Nat) (ks:List (Nat × T)) (h63:l≤63) (hw:Sl.Wf k ks) (h2:2≤ks.length) (hl:pre.length = k) (ho:Ok pre)
      (hk:∀ x∈ks,Wf k x.2) (hc:∀ x∈ks,x.2.lv≤l∧cut x.2.pre (l + 1) = pre∧addr x.2.pre l = x.1):Wf k (.br g l pre ks)
theorem cutN_zero (u:Nat):cutN u 0 = u:=by simp [cutN]
theorem cut_zero (us:List Nat):cut us 0 = us:=by simp [cut,cutN_zero]
theorem cutN_cutN (u a b:Nat) (h:a≤b):cutN (cutN u a) b = cutN u b:=by
  apply Nat.eq_of_testBit_eq
  intro m
  rw [cutN_testBit,cutN_testBit,cutN_testBit]
  by_cases hb:b≤m
  · have:a≤m:=by omega
    simp [hb,this]
  · simp [hb]
theorem cut_cut (us:List Nat) (a b:Nat) (h:a≤b):cut (cut us a) b = cut us b:=by
  simp only [cut,List.map_map]
  congr 1
  funext u
  exact cutN_cutN u a b h
theorem Wf.k1 {k:Nat} {t:T} (h:Wf k t):1≤k:=by
  cases h with
  | ent _ _ _ k1 => exact k1
  | br _ _ _ _ _ hw => exact hw.k1
theorem Wf.k16 {k:Nat} {t:T} (h:Wf k t):k≤16:=by
  cases h with
  | ent _ _ _ _ k16 => exact k16
  | br _ _ _ _ _ hw => exact hw.k16
theorem Wf.len {k:Nat} {t:T} (h:Wf k t):t.pre.length = k:=by
  cases h with
  | ent _ _ _ _ _ hl => exact hl
  | br _ _ _ _ _ _ _ hl => exact hl
theorem Wf.ok {k:Nat} {t:T} (h:Wf k t):Ok t.pre:=by
  cases h with
  | ent _ _ _ _ _ _ ho => exact ho
  | br _ _ _ _ _ _ _ _ ho => exact ho
theorem Wf.lv64 {k:Nat} {t:T} (h:Wf k t):t.lv≤64:=by
  cases h with
  | ent _ _ _ _ _ _ ho => simp [T.lv]
  | br _ _ _ _ h63 _ _ _ ho => simp only [T.lv];omega
theorem Wf.each {k:Nat} {t:T} (h:Wf k t):∀ e∈t.ents,e.1.length = k∧Ok e.1∧e.2 < 18446744073709551616∧cut e.1 t.lv = t.pre:=by
  induction h with
  | ent g p v k1 k16 hl ho hv =>
    intro e he
    rw [ents_ent] at he
    simp only [List.mem_singleton] at he
    subst he
    exact ⟨hl,ho,hv,cut_zero p⟩
  | br g l pre ks h63 hw h2 hl ho hk hc ih =>
    intro e he
    rw [ents_br,mem_entsL] at he
    obtain ⟨x,hx,he⟩:=he
    obtain ⟨a1,a2,a3,a4⟩:=ih x hx e he
    obtain ⟨c1,c2,c3⟩:=hc x hx
    refine ⟨a1,a2,a3,?_⟩
    show cut e.1 (l + 1) = pre
    rw [← cut_cut e.1 x.2.lv (l + 1) (by omega),a4,c2]
theorem Wf.ne {k:Nat} {t:T} (h:Wf k t):t.ents≠[]:=by
  induction h with
  | ent g p v => rw [ents_ent];simp
  | br g l pre ks h63 hw h2 hl ho hk hc ih =>
    rw [ents_br]
    match ks,h2 with
    | x :: r,_ =>
      rw [entsL_cons]
      have:=ih x (List.mem_cons_self)
      intro h
      exact this (List.append_eq_nil_iff.1 h).1
theorem Wf.addr_at {k:Nat} {t:T} (h:Wf k t) {e:Ent} (he:e∈t.ents) {m:Nat} (hm:t.lv≤m):addr e.1 m = addr t.pre m:=by
  have h1:=(h.each e he).2.2.2
  have h2:=cut_addr e.1 t.lv m
  rw [if_pos hm,h1] at h2
  exact h2.symm
theorem Wf.cut_pre {k:Nat} {t:T} (h:Wf k t):cut t.pre t.lv = t.pre:=by
  obtain ⟨e,he⟩:=List.exists_mem_of_ne_nil _ h.ne
  have h1:=(h.each e he).2.2.2
  rw [← h1,cut_cut _ _ _ (Nat.le_refl _)]
theorem Wf.cut_at {k:Nat} {t:T} (h:Wf k t) {e:Ent} (he:e∈t.ents) {m:Nat} (hm:t.lv≤m):cut e.1 m = cut t.pre m:=by
  rw [← (h.each e he).2.2.2,cut_cut _ _ _ hm]
theorem br_part {k g l:Nat} {pre:List Nat} {ks:List (Nat × T)} (h:Wf k (.br g l pre ks)) {x y:Nat × T} (hx:x∈ks) (hy:y∈ks) (hne:x.1≠y.1) {a b:List Nat}
    (ha:a.length = k∧Ok a∧cut a x.2.lv = x.2.pre) (hb:b.length = k∧Ok b∧cut b y.2.lv = y.2.pre):Z.part a b = (l:Int):=by
  cases h with
  | br _ _ _ _ h63 hw h2 hl ho hk hc =>
    obtain ⟨x1,x2,x3⟩:=hc x hx
    obtain ⟨y1,y2,y3⟩:=hc y hy
    have ax:addr a l = x.1:=by
      have:=cut_addr a x.2.lv l
      rw [if_pos x1,ha.2.2,x3] at this
      exact this.symm
    have ay:addr b l = y.1:=by
      have:=cut_addr b y.2.lv l
      rw [if_pos y1,hb.2.2,y3] at this
      exact this.symm
    refine part_eq (by rw [ha.1,hb.1]) ha.2.1 hb.2.1 l (by rw [ax,ay];exact hne) fun m hm _ => ?_
    have p1:=cut_addr a (l + 1) m
    have p2:=cut_addr b (l + 1) m
    rw [if_pos (by omega)] at p1 p2
    rw [← p1,← p2,← cut_cut a x.2.lv (l + 1) (by omega),← cut_cut b y.2.lv (l + 1) (by omega),ha.2.2,hb.2.2,x2,y2]
theorem Wf.own {k:Nat} {t:T} (h:Wf k t):t.pre.length = k∧Ok t.pre∧cut t.pre t.lv = t.pre:=⟨h.len,h.ok,h.cut_pre⟩
theorem Wf.entry {k:Nat} {t:T} (h:Wf k t) {e:Ent} (he:e∈t.ents):e.1.length = k∧Ok e.1∧cut e.1 t.lv = t.pre :=
  ⟨(h.each e he).1,(h.each e he).2.1,(h.each e he).2.2.2⟩
theorem Wf.kid {k g l:Nat} {pre:List Nat} {ks:List (Nat × T)} (h:Wf k (.br g l pre ks)) {x:Nat × T} (hx:x∈ks):Wf k x.2:=by
  cases h with
  | br _ _ _ _ _ _ _ _ _ hk _ => exact hk x hx
end Go.Proofs.YtkeepngaaleakaaGreatDoor.Tr
namespace Go.Proofs.YtkeepngaaleakaaGreatDoor
open Go.ChangeShapes Go.WideShapes Go.ChangeAt Go.RowKit
def RdV (w:World) (B:Nat) (A:Option Addr) (xs:List Value):Prop :=
  xs≠[]→∃ b off,A = some ⟨b,off,none⟩∧b < B∧∀ (i:Nat) (v:Value),xs[i]? = some v→w.cell? ⟨b,off + i,none⟩ = some v
theorem RdV.nil (w:World) (B:Nat) (A:Option Addr):RdV w B A []:=fun h => absurd rfl h
theorem RdV.keep {w w':World} {B B':Nat} {A:Option Addr} {xs:List Value} (h:RdV w B A xs) (hB:B≤B') (hw:∀ p:Addr,p.block < B→w'.cell? p = w.cell? p):RdV w' B' A xs:=by
  intro hn
  obtain ⟨b,off,rfl,hb,hc⟩:=h hn
  exact ⟨b,off,rfl,by omega,fun i u hi => (hw _ hb).trans (hc i u hi)⟩
theorem RdV.below {w w':World} {B B' C:Nat} {A:Option Addr} {xs:List Value} (h:RdV w B A xs) (hb:Below C w w') (hC:B≤C) (hB:B≤B'):RdV w' B' A xs:=h.keep hB fun _ hp => hb.cell (Nat.lt_of_lt_of_le hp hC)
theorem RdV.drew {w:World} {B:Nat} {A:Option Addr} {xs:List Value} (h:RdV w B A xs):RdV w.drew B A xs:=h
theorem RdV.at {w:World} {B:Nat} {A:Option Addr} {xs:List Value} (h:RdV w B A xs) {i:Nat} {v:Value} (hi:xs[i]? = some v):∃ b off,A = some ⟨b,off,none⟩∧b < B∧w.cell? ⟨b,off + i,none⟩ = some v:=by
  obtain ⟨b,off,hA,hb,hc⟩:=h (by rintro rfl;simp at hi)
  exact ⟨b,off,hA,hb,hc i v hi⟩
theorem pts_rdV {w:World} {B:Nat} {A:Option Addr} {us:List Nat} (h:Pts w B A us):RdV w B A (vals us):=by
  intro hn
  obtain ⟨b,off,hA,hb,hc⟩:=h.2 (by rintro rfl;exact hn rfl)
  refine ⟨b,off,hA,hb,fun i v hi => ?_⟩
  simp only [vals,List.getElem?_map,Option.map_eq_some_iff] at hi
  obtain ⟨u,hu,rfl⟩:=hi
  exact hc i u hu
theorem rdV_pts {w:World} {B:Nat} {A:Option Addr} {us:List Nat} (ho:Z.Ok us) (h:RdV w B A (vals us)):Pts w B A us:=by
  refine ⟨ho,fun hn => ?_⟩
  obtain ⟨b,off,hA,hb,hc⟩:=h (by cases us with | nil => exact absurd rfl hn | cons a l => simp [vals])
  exact ⟨b,off,hA,hb,fun i u hi => hc i _ (vals_get hi)⟩
theorem cut_lo (t e:TypeId) {z:Value} {by':Nat} (ht:Tryz.prog.underlying t = some (.slice e)) (hi:(Tryz.prog.info? e).map (fun i => (i.zero,i.size,i.bytes)) = some (some z,1,by')) (A:Option Addr) (n c i:Nat) (hin:i≤n) (hnc:n≤c) :
    ∃ A',(∀ w,(Instr.sliceAt t (.slice A n c) (some (.int .i64 (i:Int))) none none).run Tryz.prog w = .ok (.slice A' (n - i) (c - i)) w)∧∀ w B xs,xs.length = n→RdV w B A xs→RdV w B A' (xs.drop i):=by
  obtain ⟨i0,hi0,hz0,hz1,hz2⟩:=info_parts hi
  have hel:Tryz.prog.elem t = e:=by simp [Program.elem,ht]
  refine ⟨if c = i then A else A.map (·.add (i * 1)),fun w => ?_,fun w B xs hx h hne => ?_⟩
  · have hs:Tryz.prog.underlying t = some (.slice (Tryz.prog.elem t)):=by rw [hel];exact ht
    rw [run_sliceAt_slice w t _ _ _ _ hs,run_slice_l w t A n c hs .i64 (i:Int) (by omega) (by omega),hel]
    simp [sizeOf,typeInfo,hi0,hz1,sliced,Result.andThen]
  · have hlt:i < xs.length:=by
      rcases Nat.lt_or_ge i xs.length with d | d
      · exact d
      · exact absurd (List.drop_of_length_le d) hne
    obtain ⟨b,off,rfl,hb,hc⟩:=h (by rintro rfl;simp at hlt)
    rw [if_neg (by omega)]
    refine ⟨b,off + i,by simp [Go.WideShapes.add_plain],hb,fun j v hj => ?_⟩
    rw [List.getElem?_drop] at hj
    rw [Nat.add_assoc]
    exact hc (i + j) v hj
theorem cut_hi (t e:TypeId) {z:Value} {by':Nat} (ht:Tryz.prog.underlying t = some (.slice e)) (hi:(Tryz.prog.info? e).map (fun i => (i.zero,i.size,i.bytes)) = some (some z,1,by')) (A:Option Addr) (n c i:Nat) (hin:i≤n) (hnc:n≤c) :
    ∃ A',(∀ w,(Instr.sliceAt t (.slice A n c) none (some (.int .i64 (i:Int))) none).run Tryz.prog w = .ok (.slice A' i c) w)∧∀ w B xs,xs.length = n→RdV w B A xs→RdV w B A' (xs.take i):=by
  obtain ⟨i0,hi0,hz0,hz1,hz2⟩:=info_parts hi
  have hel:Tryz.prog.elem t = e:=by simp [Program.elem,ht]
  refine ⟨if c = 0 then A else A.map (·.add (0 * 1)),fun w => ?_,fun w B xs hx h hne => ?_⟩
  · have hs:Tryz.prog.underlying t = some (.slice (Tryz.prog.elem t)):=by rw [hel];exact ht
    rw [run_sliceAt_slice w t _ _ _ _ hs,run_slice_h w t A n c hs .i64 (i:Int) (by omega) (by omega),hel]
    simp [sizeOf,typeInfo,hi0,hz1,sliced,Result.andThen]
  · obtain ⟨b,off,rfl,hb,hc⟩:=h (by rintro rfl;simp at hne)
    have hlt:0 < i:=by
      rcases Nat.eq_zero_or_pos i with d | d
      · subst d;simp at hne
      · exact d
    rw [if_neg (by omega)]
    refine ⟨b,off,by simp [Go.WideShapes.add_plain],hb,fun j v hj => ?_⟩
    rw [List.getElem?_take] at hj
    split at hj
    · exact hc j v hj
    · cases hj
def OwnV (e:TypeId) (w:World) (base:Nat) (v:Value) (xs:List Value):Prop:=(∀ x∈xs,x.oneCell' = true)∧w.ownsRow base e 1 v xs.length xs
theorem OwnV.below {e:TypeId} {w w':World} {base C:Nat} {v:Value} {xs:List Value} (h:OwnV e w base v xs) (hb:Below C w w') (hC:w.heap.size≤C):OwnV e w' base v xs:=by
  refine ⟨h.1,h.2.1,?_⟩
  rcases h.2.2 with h2 | ⟨g,cap,cur,hv,hg,hh,r⟩
  · exact .inl h2
  · exact .inr ⟨g,cap,cur,hv,hg,(hb.block g (by have:=(Array.getElem?_eq_some_iff.1 hh).1;omega)).trans hh,r⟩
theorem OwnV.drew {e:TypeId} {w:World} {base:Nat} {v:Value} {xs:List Value} (h:OwnV e w base v xs):OwnV e w.drew base v xs:=h
theorem OwnV.mono {e:TypeId} {w:World} {base base':Nat} {v:Value} {xs:List Value} (h:OwnV e w base v xs) (hb:base'≤base):OwnV e w base' v xs:=by
  refine ⟨h.1,h.2.1,?_⟩
  rcases h.2.2 with h2 | ⟨g,cap,cur,hv,hg,r⟩
  · exact .inl h2
  · exact .inr ⟨g,cap,cur,hv,by omega,r⟩
theorem OwnV.rd {e:TypeId} {w:World} {base:Nat} {v:Value} {xs:List Value} (h:OwnV e w base v xs):∃ A c,v = .slice A xs.length c∧xs.length≤c∧RdV w w.heap.size A xs:=by
  rcases h.2.2 with ⟨hv,hn⟩ | ⟨g,cap,cur,hv,hg,hh,r⟩
  · have:xs = []:=List.eq_nil_of_length_eq_zero hn
    subst this
    exact ⟨none,0,hv,Nat.le_refl _,RdV.nil _ _ _⟩
  · refine ⟨_,cap,hv,r.1,fun _ => ⟨g,0,rfl,(Array.getElem?_eq_some_iff.1 hh).1,fun i u hi => ?_⟩⟩
    subst hv
    rw [Nat.zero_add,World.ownsRow.cellAt h.2 i (by have:=lt_get hi;omega)]
    exact hi
theorem OwnV.rd_at {e:TypeId} {w:World} {base n c:Nat} {A:Option Addr} {xs:List Value} (h:OwnV e w base (.slice A n c) xs):RdV w w.heap.size A xs:=by
  obtain ⟨A',c',hv,_,hr⟩:=h.rd
  cases hv
  exact hr
theorem OwnV.cap {e:TypeId} {w:World} {base n c:Nat} {A:Option Addr} {xs:List Value} (h:OwnV e w base (.slice A n c) xs):n≤c:=by
  obtain ⟨A',c',hv,hle,_⟩:=h.rd
  injection hv with _ e2 e3
  omega
theorem OwnV.row {e:TypeId} {w:World} {base:Nat} {v:Value} {xs:List Value} (h:OwnV e w base v xs) (hn:xs≠[]):∃ g d,v = .slice (some ⟨g,0,none⟩) xs.length d:=by
  rcases h.2.2 with ⟨hv,h0⟩ | ⟨g,cap,cur,hv,_⟩
  · exact absurd (List.eq_nil_of_length_eq_zero h0) hn
  · exact ⟨g,cap,hv⟩
theorem OwnV.lt {e:TypeId} {w:World} {base:Nat} {v:Value} {xs:List Value} (h:OwnV e w base v xs):∀ q,v.ownBlock = some q→base≤q∧q < w.heap.size:=h.2.lt
theorem ownV_none (e:TypeId) (w:World) (base:Nat):OwnV e w base (.slice none 0 0) []:=⟨fun x h => by simp at h,World.ownsRow_nil w base e 1⟩
theorem ownV_nil (e:TypeId) (w:World):OwnV e (w.alloc (.cells #[] e)) w.heap.size (.slice (some ⟨w.heap.size,0,none⟩) 0 0) [] :=
  ⟨fun x h => by simp at h,World.ownsRow_made w #[] 0 (Nat.le_refl _) (by unfold maxLen;omega) (by simp)⟩
theorem rdV_one (w:World) (e:TypeId) (x:Value):RdV (w.alloc (.cells #[x] e)) (w.heap.size + 1) (some ⟨w.heap.size,0,none⟩) [x]:=by
  intro _
  refine ⟨w.heap.size,0,rfl,by omega,fun i u hi => ?_⟩
  cases i with
  | zero =>
    simp at hi
    subst hi
    rw [World.cell?_alloc_new];rfl
  | succ i => simp at hi
def RdE (e:TypeId) (w:World) (B:Nat) (A:Option Addr) (xs:List Value):Prop :=
  RdV w B A xs∧(xs≠[]→∀ ad,A = some ad→∃ c,w.heap[ad.block]? = some (.cells c e (0,0)))
theorem RdE.rd {e:TypeId} {w:World} {B:Nat} {A:Option Addr} {xs:List Value} (h:RdE e w B A xs):RdV w B A xs:=h.1
theorem RdE.ty {e:TypeId} {w:World} {B:Nat} {A:Option Addr} {xs:List Value} (h:RdE e w B A xs):xs≠[]→∀ ad,A = some ad→∃ c,w.heap[ad.block]? = some (.cells c e (0,0)):=h.2
theorem RdE.nil (e:TypeId) (w:World) (B:Nat) (A:Option Addr):RdE e w B A []:=⟨RdV.nil w B A,fun h => absurd rfl h⟩
theorem RdE.below {e:TypeId} {w w':World} {B B' C:Nat} {A:Option Addr} {xs:List Value} (h:RdE e w B A xs) (hb:Below C w w') (hC:B≤C) (hB:B≤B'):RdE e w' B' A xs :=
  ⟨h.rd.below hb hC hB,fun hn ad hA => by
    obtain ⟨c,hc⟩:=h.ty hn ad hA
    obtain ⟨b,off,hA',hb',-⟩:=h.rd hn
    rw [hA] at hA'
    cases hA'
    exact ⟨c,(hb.block b (Nat.lt_of_lt_of_le hb' hC)).trans hc⟩⟩
theorem RdE.at {e:TypeId} {w:World} {B:Nat} {A:Option Addr} {xs:List Value} (h:RdE e w B A xs) {i:Nat} {v:Value} (hi:xs[i]? = some v):∃ b off,A = some ⟨b,off,none⟩∧b < B∧w.cell? ⟨b,off + i,none⟩ = some v:=h.rd.at hi
theorem OwnV.rdE {e:TypeId} {w:World} {base:Nat} {v:Value} {xs:List Value} (h:OwnV e w base v xs):∃ A c,v = .slice A xs.length c∧xs.length≤c∧RdE e w w.heap.size A xs:=by
  obtain ⟨A,c,hv,hl,hr⟩:=h.rd
  refine ⟨A,c,hv,hl,hr,fun hn ad hA => ?_⟩
  rcases h.2.2 with ⟨hv',h0⟩ | ⟨g,cap,cur,hv',hg,hh,-⟩
  · exact absurd (List.eq_nil_of_length_eq_zero h0) hn
  · rw [hv] at hv'
    injection hv' with e1 e2 e3
    rw [hA] at e1
    cases e1
    exact ⟨cur,hh⟩
theorem OwnV.rdE_at {e:TypeId} {w:World} {base n c:Nat} {A:Option Addr} {xs:List Value} (h:OwnV e w base (.slice A n c) xs):RdE e w w.heap.size A xs:=by
  obtain ⟨A',c',hv,_,hr⟩:=h.rdE
  cases hv
  exact hr
theorem wpList_append_vals {w:World} {ops:Array Oper} {rest:List Oper} {o:Oper} {a:Act} {Q:Exit→Act→World→Prop} (t e:TypeId) (z:Value) (sz:Nat) (hu:Tryz.prog.underlying t = some (.slice e)) (hinfo:(Tryz.prog.info? e).map (fun i => (i.zero,i.size,i.bytes)) = some (some z,1,sz)) (hzc:z.cells.size = 1) (hsz:sz≤16)
    (hgd:o.guard = none) (s x:Operand) (ho:o.op = .call { callee:=.builtin .append,args:=#[s,x],argTypes:=#[t,t] }) (base:Nat) (v:Value) (vs xs:List Value) (hs:a.eval s = v) (hown:OwnV e w base v vs)
    (B:Nat) (A:Option Addr) (n c:Nat) (hn:xs.length = n) (hx:a.eval x = .slice A n c) (hp:RdV w B A xs) (h1:∀ u∈xs,u.oneCell' = true) (hlen:vs.length + xs.length≤8000000000) (hbase:base≤w.heap.size)
    (h:∀ v' w',OwnV e w' base v' (vs ++ xs)→w.grownBy w' v.ownBlock→(v'.ownBlock = v.ownBlock∨v'.ownBlock = some w.heap.size)→wpList Tryz.prog ops Q rest (a.put o.dst v') w'):wpList Tryz.prog ops Q (o :: rest) a w:=by
  obtain ⟨i0,hi0,hz0,hz1,hz2⟩:=info_parts hinfo
  subst hn
  have hb:(vs.length + xs.length) * sz≤140737488355328:=Nat.le_trans (Nat.mul_le_mul hlen hsz) (by omega)
  have hall:∀ u∈vs ++ xs,u.oneCell' = true:=fun u hu => by
    rcases List.mem_append.1 hu with h2 | h2
    · exact hown.1 u h2
    · exact h1 u h2
  have hl:(vs ++ xs).length = vs.length + xs.length:=by simp
  rcases A with _ | ad
  · have hn:xs = []:=by
      rcases Classical.em (xs = []) with h0 | h0
      · exact h0
      · obtain ⟨b,off,hA,_⟩:=hp h0
        cases hA
    subst hn
    refine wpList_plain hgd fun K hK => ?_
    have hrun:=run_append_nil (P:=Tryz.prog) w base t o.type e i0 1 hu hi0 v vs.length vs hown.2 c
    unfold Oper.wp
    simp [execOp,ho,resolve,invoke,builtin,hs,hx,hrun,Result.andThen]
    exact hK _ _ (h v w (by simpa using hown) (World.grownBy.refl w _) (.inl rfl))
  · refine wpList_append_own_at w hgd s x t ho base e i0 z 1 sz hu hi0 hz0 hz1 hz2 hzc (by decide) v vs.length vs hs hown.2 ad xs.length c xs hx (by omega) ?_ h1 (by unfold maxLen;omega) hb hbase ?_
    · intro j u hj
      obtain ⟨b,off,hA,_,hc⟩:=hp (by rintro rfl;simp at hj)
      cases hA
      rw [Go.WideShapes.add_plain]
      exact hc j u hj
    · intro v' w' g1 g2 _ g4
      exact h v' w' ⟨hall,by rw [hl];exact g1⟩ g2 g4
theorem OwnV.grown {e:TypeId} {w w':World} {base:Nat} {v:Value} {xs:List Value} {row:Option Nat} (h:OwnV e w base v xs) (hg:w.grownBy w' row) (hne:v.ownBlock = none∨v.ownBlock≠row):OwnV e w' base v xs:=⟨h.1,h.2.kept hg hne⟩
theorem ownV_store {e:TypeId} {w:World} {base:Nat} {v:Value} {xs:List Value} (h:OwnV e w base v xs) {a:Addr} (ha:v.ownBlock≠some a.block) (u:Value):OwnV e (w.setCell a u) base v xs :=
  ⟨h.1,ownsRow_setCell_other h.2 ha u⟩
theorem step_append_vals {w:World} {ops:Array Oper} {o:Oper} {a:Act} {K:Act→World→Prop} {Q:Exit→Act→World→Prop} {E:Prop} (t e:TypeId) (z:Value) (sz:Nat) (hu:Tryz.prog.underlying t = some (.slice e)) (hinfo:(Tryz.prog.info? e).map (fun i => (i.zero,i.size,i.bytes)) = some (some z,1,sz)) (hzc:z.cells.size = 1) (hsz:sz≤16)
    (hgd:o.guard = none) (s x:Operand) (ho:o.op = .call { callee:=.builtin .append,args:=#[s,x],argTypes:=#[t,t] }) (base:Nat) (v:Value) (vs xs:List Value) (hs:a.eval s = v) (hown:OwnV e w base v vs)
    (B:Nat) (A:Option Addr) (n c:Nat) (hn:xs.length = n) (hx:a.eval x = .slice A n c) (hp:RdV w B A xs) (h1:∀ u∈xs,u.oneCell' = true) (hlen:vs.length + xs.length≤8000000000) (hbase:base≤w.heap.size)
    (h:∀ D d w',OwnV e w' base (.slice D (vs ++ xs).length d) (vs ++ xs)→w.grownBy w' v.ownBlock→((Value.slice D (vs ++ xs).length d).ownBlock = v.ownBlock∨(Value.slice D (vs ++ xs).length d).ownBlock = some w.heap.size)→K (a.put o.dst (.slice D (vs ++ xs).length d)) w') :
    if Region.wanted o (yielded ops a.tmps) = true then Oper.wp Tryz.prog o a w K Q else E:=by
  have hw:Region.wanted o (yielded ops a.tmps) = true:=by simp [Region.wanted,hgd]
  rw [if_pos hw]
  obtain ⟨i0,hi0,hz0,hz1,hz2⟩:=info_parts hinfo
  subst hn
  have hb:(vs.length + xs.length) * sz≤140737488355328:=Nat.le_trans (Nat.mul_le_mul hlen hsz) (by omega)
  have hall:∀ u∈vs ++ xs,u.oneCell' = true:=fun u hu => by
    rcases List.mem_append.1 hu with h2 | h2
    · exact hown.1 u h2
    · exact h1 u h2
  have hl:(vs ++ xs).length = vs.length + xs.length:=by simp
  rcases A with _ | ad
  · have hn:xs = []:=by
      rcases Classical.em (xs = []) with h0 | h0
      · exact h0
      · obtain ⟨b,off,hA,_⟩:=hp h0
        cases hA
    subst hn
    rw [List.append_nil] at h
    obtain ⟨D,d,hv,_,_⟩:=hown.rd
    subst hv
    have hrun:=run_append_nil (P:=Tryz.prog) w base t o.type e i0 1 hu hi0 (.slice D vs.length d) vs.length vs hown.2 c
    unfold Oper.wp execOp
    simp only [ho,resolve,invoke,builtin,Sem.run_bind,Sem.run_pure,Result.andThen_ok,List.map_toArray,List.map_cons,List.map_nil,hs,hx,List.length_nil,hrun]
    exact h D d w hown (World.grownBy.refl w _) (.inl rfl)
  · obtain ⟨v',w',hr,g1,g2,g3,g4⟩:=run_append_own_at (P:=Tryz.prog) w base t o.type e i0 z 1 sz hu hi0 hz0 hz1 hz2 hzc (by decide) v vs.length vs hown.2 ad xs.length c xs (by omega) (fun j u hj => by
      obtain ⟨b,off,hA,_,hc⟩:=hp (by rintro rfl;simp at hj)
      cases hA
      rw [Go.WideShapes.add_plain]
      exact hc j u hj) h1 (by unfold maxLen;omega) hb hbase
    have hov:OwnV e w' base v' (vs ++ xs):=⟨hall,by rw [hl];exact g1⟩
    obtain ⟨D,d,hv,_,_⟩:=hov.rd
    subst hv
    unfold Oper.wp execOp
    simp only [ho,resolve,invoke,builtin,Sem.run_bind,Sem.run_pure,Result.andThen_ok,List.map_toArray,List.map_cons,List.map_nil,hs,hx,hr]
    exact h D d w' hov g2 g4
theorem wpList_append_sl {w:World} {ops:Array Oper} {rest:List Oper} {o:Oper} {a:Act} {Q:Exit→Act→World→Prop} (t e:TypeId) (z:Value) (sz:Nat) (hu:Tryz.prog.underlying t = some (.slice e)) (hinfo:(Tryz.prog.info? e).map (fun i => (i.zero,i.size,i.bytes)) = some (some z,1,sz)) (hzc:z.cells.size = 1) (hsz:sz≤16)
    (hgd:o.guard = none) (s x:Operand) (ho:o.op = .call { callee:=.builtin .append,args:=#[s,x],argTypes:=#[t,t] }) (base:Nat) (v:Value) (vs xs:List Value) (m:Nat) (hm:(vs ++ xs).length = m) (hs:a.eval s = v) (hown:OwnV e w base v vs)
    (B:Nat) (A:Option Addr) (n c:Nat) (hn:xs.length = n) (hx:a.eval x = .slice A n c) (hp:RdV w B A xs) (h1:∀ u∈xs,u.oneCell' = true) (hlen:m≤8000000000) (hbase:base≤w.heap.size)
    (h:∀ D d w',OwnV e w' base (.slice D m d) (vs ++ xs)→w.grownBy w' v.ownBlock→((Value.slice D m d).ownBlock = v.ownBlock∨(Value.slice D m d).ownBlock = some w.heap.size)→wpList Tryz.prog ops Q rest (a.put o.dst (.slice D m d)) w'):wpList Tryz.prog ops Q (o :: rest) a w:=by
  subst hm
  refine wpList_append_vals t e z sz hu hinfo hzc hsz hgd s x ho base v vs xs hs hown B A n c hn hx hp h1 (by rw [← List.length_append];exact hlen) hbase ?_
  intro v' w' g1 g2 g3
  obtain ⟨D,d,hv,_,_⟩:=g1.rd
  subst hv
  exact h D d w' g1 g2 g3
theorem step_append_sl {w:World} {ops:Array Oper} {o:Oper} {a:Act} {K:Act→World→Prop} {Q:Exit→Act→World→Prop} {E:Prop} (t e:TypeId) (z:Value) (sz:Nat) (hu:Tryz.prog.underlying t = some (.slice e)) (hinfo:(Tryz.prog.info? e).map (fun i => (i.zero,i.size,i.bytes)) = some (some z,1,sz)) (hzc:z.cells.size = 1) (hsz:sz≤16)
    (hgd:o.guard = none) (s x:Operand) (ho:o.op = .call { callee:=.builtin .append,args:=#[s,x],argTypes:=#[t,t] }) (base:Nat) (v:Value) (vs xs:List Value) (m:Nat) (hm:(vs ++ xs).length = m) (hs:a.eval s = v) (hown:OwnV e w base v vs)
    (B:Nat) (A:Option Addr) (n c:Nat) (hn:xs.length = n) (hx:a.eval x = .slice A n c) (hp:RdV w B A xs) (h1:∀ u∈xs,u.oneCell' = true) (hlen:m≤8000000000) (hbase:base≤w.heap.size)
    (h:∀ D d w',OwnV e w' base (.slice D m d) (vs ++ xs)→w.grownBy w' v.ownBlock→((Value.slice D m d).ownBlock = v.ownBlock∨(Value.slice D m d).ownBlock = some w.heap.size)→K (a.put o.dst (.slice D m d)) w') :
    if Region.wanted o (yielded ops a.tmps) = true then Oper.wp Tryz.prog o a w K Q else E:=by
  subst hm
  exact step_append_vals t e z sz hu hinfo hzc hsz hgd s x ho base v vs xs hs hown B A n c hn hx hp h1 (by rw [← List.length_append];exact hlen) hbase h
end Go.Proofs.YtkeepngaaleakaaGreatDoor
