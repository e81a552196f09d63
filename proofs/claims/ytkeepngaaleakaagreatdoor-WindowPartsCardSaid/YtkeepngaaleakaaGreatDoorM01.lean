import Derived.Lib.BitFns
import Derived.Test.YtkeepngaaleakaaGreatDoorRows
import Derived.WalkKit
import Derived.ProofKit
import Derived.OpenShut
import Derived.Below
import Derived.Lib.Hide
import Derived.WalkSpells
import Derived.WalkSmall
import Derived.WalkLawsBesides
import Derived.Laws.Bits64b
namespace Go.Proofs.YtkeepngaaleakaaGreatDoor.Z
def bit (u l:Nat):Nat:=u / 2 ^ l % 2
def addr (us:List Nat) (l:Nat):Nat:=us.foldl (fun a u => 2 * a + bit u l) 0
def Ok (us:List Nat):Prop:=∀ u∈us,u < 18446744073709551616
theorem bit_lt (u l:Nat):bit u l < 2:=Nat.mod_lt _ (by omega)
theorem bit_testBit (u l:Nat):bit u l = if u.testBit l then 1 else 0:=by
  unfold bit
  have h:u.testBit l = decide (u / 2 ^ l % 2 = 1):=Nat.testBit_eq_decide_div_mod_eq
  have:=Nat.mod_lt (u / 2 ^ l) (show 0 < 2 by omega)
  rw [h]
  by_cases e:u / 2 ^ l % 2 = 1 <;> simp [e]
  omega
theorem bit_eq_iff (u v l:Nat):bit u l = bit v l↔u.testBit l = v.testBit l:=by
  rw [bit_testBit,bit_testBit]
  cases u.testBit l <;> cases v.testBit l <;> simp
theorem addr_snoc (us:List Nat) (u l:Nat):addr (us ++ [u]) l = 2 * addr us l + bit u l:=by
  simp [addr,List.foldl_append]
theorem take_snoc {α:Type} (us:List α) (k:Nat) (h:k < us.length):us.take (k + 1) = us.take k ++ [us[k]]:=by
  rw [List.take_succ_eq_append_getElem h]
theorem addr_take (us:List Nat) (l k:Nat) (h:k < us.length):addr (us.take (k + 1)) l = 2 * addr (us.take k) l + bit us[k] l:=by
  rw [take_snoc us k h,addr_snoc]
theorem addr_bound (us:List Nat) (l:Nat):addr us l < 2 ^ us.length:=by
  have h:∀ (vs:List Nat) (a n:Nat),a < 2 ^ n→vs.foldl (fun a u => 2 * a + bit u l) a < 2 ^ (n + vs.length):=by
    intro vs
    induction vs with
    | nil => intro a n h;simpa using h
    | cons v vs ih =>
      intro a n h
      have:=bit_lt v l
      have h1:2 * a + bit v l < 2 ^ (n + 1):=by rw [Nat.pow_succ];omega
      have h2:=ih _ _ h1
      simp only [List.foldl_cons,List.length_cons]
      rw [show n + (vs.length + 1) = n + 1 + vs.length by omega]
      exact h2
  have:=h us 0 0 (by simp)
  simpa [addr] using this
theorem addr_le (us:List Nat) (l k:Nat) (hk:us.length≤k):addr us l < 2 ^ k :=
  Nat.lt_of_lt_of_le (addr_bound us l) (Nat.pow_le_pow_right (by omega) hk)
theorem addr_eq_iff (us vs:List Nat) (l:Nat) (h:us.length = vs.length):addr us l = addr vs l↔us.map (bit · l) = vs.map (bit · l):=by
  have H:∀ (us vs:List Nat) (a b:Nat),us.length = vs.length →
      (us.foldl (fun a u => 2 * a + bit u l) a = vs.foldl (fun a u => 2 * a + bit u l) b↔a = b∧us.map (bit · l) = vs.map (bit · l)):=by
    intro us
    induction us with
    | nil => intro vs a b h;cases vs <;> simp at h ⊢
    | cons u us ih =>
      intro vs a b h
      cases vs with
      | nil => simp at h
      | cons v vs =>
        have h':us.length = vs.length:=by simpa using h
        simp only [List.foldl_cons,List.map_cons,List.cons.injEq]
        rw [ih vs _ _ h']
        have:=bit_lt u l
        have:=bit_lt v l
        constructor
        · rintro ⟨e,r⟩;exact ⟨by omega,by omega,r⟩
        · rintro ⟨e,e2,r⟩;exact ⟨by omega,r⟩
  have:=H us vs 0 0 h
  simpa [addr] using this
theorem points_eq {us vs:List Nat} (h:us.length = vs.length) (hu:Ok us) (hv:Ok vs) (he:∀ l,l < 64→addr us l = addr vs l):us = vs:=by
  apply List.ext_getElem h
  intro i h1 h2
  apply Nat.eq_of_testBit_eq
  intro l
  by_cases hl:l < 64
  · have e:=(addr_eq_iff us vs l h).1 (he l hl)
    have e2:(us.map (bit · l))[i]? = (vs.map (bit · l))[i]?:=by rw [e]
    simp [h1,h2] at e2
    exact (bit_eq_iff _ _ _).1 e2
  · have a1:=hu us[i] (List.getElem_mem h1)
    have a2:=hv vs[i] (List.getElem_mem h2)
    have p:2 ^ 64≤2 ^ l:=Nat.pow_le_pow_right (by omega) (by omega)
    rw [Nat.testBit_lt_two_pow (by omega),Nat.testBit_lt_two_pow (by omega)]
theorem addr_high {us:List Nat} (hu:Ok us) (l:Nat) (hl:64≤l):addr us l = 0:=by
  have H:∀ (us:List Nat),Ok us→us.foldl (fun a u => 2 * a + bit u l) 0 = 0:=by
    intro us
    induction us with
    | nil => intro _;rfl
    | cons u us ih =>
      intro h
      have a1:=h u (by simp)
      have p:2 ^ 64≤2 ^ l:=Nat.pow_le_pow_right (by omega) (by omega)
      have b:bit u l = 0:=by
        unfold bit
        rw [Nat.div_eq_of_lt (by omega)]
      simp only [List.foldl_cons,b]
      exact ih (fun v hv => h v (by simp [hv]))
  exact H us hu
/-! ### where two points part -/
def orx (us vs:List Nat):Nat:=(us.zip vs).foldl (fun a p => a ||| (p.1 ^^^ p.2)) 0
def part (us vs:List Nat):Int:=(Lib.bitLen (orx us vs):Int) - 1
def cmp (us vs:List Nat):Int:=if part us vs < 0 then 0 else if addr us (part us vs).toNat < addr vs (part us vs).toNat then -1 else 1
theorem orx_take (us vs:List Nat) (h:us.length = vs.length) (k:Nat) (hk:k < us.length) (hk':k < vs.length) :
    orx (us.take (k + 1)) (vs.take (k + 1)) = orx (us.take k) (vs.take k) ||| (us[k] ^^^ vs[k]):=by
  have e:∀ j,(us.take j).zip (vs.take j) = (us.zip vs).take j:=fun j => (List.take_zipWith (f:=Prod.mk) (l:=us) (l':=vs)).symm
  unfold orx
  rw [e,e,take_snoc (us.zip vs) k (by simp;omega),List.foldl_append]
  simp
theorem orx_lt {us vs:List Nat} (hu:Ok us) (hv:Ok vs):orx us vs < 18446744073709551616:=by
  have H:∀ (ps:List (Nat × Nat)) (a:Nat),a < 2 ^ 64→(∀ p∈ps,p.1 < 2 ^ 64∧p.2 < 2 ^ 64)→ps.foldl (fun a p => a ||| (p.1 ^^^ p.2)) a < 2 ^ 64:=by
    intro ps
    induction ps with
    | nil => intro a h _;exact h
    | cons p ps ih =>
      intro a h hp
      have:=hp p (by simp)
      exact ih _ (Nat.or_lt_two_pow h (Nat.xor_lt_two_pow this.1 this.2)) (fun q hq => hp q (by simp [hq]))
  exact H _ 0 (by omega) (fun p hp => ⟨by have:=hu _ (List.of_mem_zip hp).1;omega,by have:=hv _ (List.of_mem_zip hp).2;omega⟩)
theorem orx_testBit (us vs:List Nat) (l:Nat) (h:us.length = vs.length):(orx us vs).testBit l = true↔addr us l≠addr vs l:=by
  have H:∀ (us vs:List Nat) (a:Nat),us.length = vs.length →
      (((us.zip vs).foldl (fun a p => a ||| (p.1 ^^^ p.2)) a).testBit l = true↔a.testBit l = true∨us.map (bit · l)≠vs.map (bit · l)):=by
    intro us
    induction us with
    | nil => intro vs a h;cases vs <;> simp at h ⊢
    | cons u us ih =>
      intro vs a h
      cases vs with
      | nil => simp at h
      | cons v vs =>
        have h':us.length = vs.length:=by simpa using h
        simp only [List.zip_cons_cons,List.foldl_cons,List.map_cons,ne_eq,List.cons.injEq,bit_eq_iff]
        rw [ih vs _ h']
        simp only [Nat.testBit_or,Nat.testBit_xor,ne_eq,Bool.or_eq_true]
        cases u.testBit l <;> cases v.testBit l <;> cases a.testBit l <;> simp
  have:=H us vs 0 h
  rw [addr_ne_iff us vs l h]
  simpa [orx] using this
where addr_ne_iff (us vs:List Nat) (l:Nat) (h:us.length = vs.length):addr us l≠addr vs l↔us.map (bit · l)≠vs.map (bit · l):=not_congr (addr_eq_iff us vs l h)
theorem bitLen_zero:Lib.bitLen 0 = 0:=by decide +kernel
theorem bitLen_top:∀ (x:Nat),x < 2 ^ 64→x≠0→∃ l,Lib.bitLen x = l + 1∧l < 64∧x.testBit l = true∧∀ m,l < m→x.testBit m = false:=by
  have H:∀ (n x:Nat),n≤64→x < 2 ^ n→x≠0→∃ l,Lib.bitLen x = l + 1∧l < n∧x.testBit l = true∧∀ m,l < m→x.testBit m = false:=by
    intro n
    induction n with
    | zero => intro x _ h h0;simp at h;exact absurd h h0
    | succ n ih =>
      intro x hn h h0
      have h64:x < 2 ^ 64:=Nat.lt_of_lt_of_le h (Nat.pow_le_pow_right (by omega) hn)
      have e:=Lib.bitLen_half x h0 h64
      by_cases hz:x / 2 = 0
      · have hx1:x = 1:=by omega
        subst hx1
        refine ⟨0,by rw [e,hz,bitLen_zero],by omega,by decide,?_⟩
        intro m hm
        exact Nat.testBit_lt_two_pow (by have:=Nat.pow_le_pow_right (n:=2) (by omega) (show 1≤m by omega);omega)
      · obtain ⟨l,h1,h2,h3,h4⟩:=ih (x / 2) (by omega) (by rw [Nat.pow_succ] at h;omega) hz
        refine ⟨l + 1,by rw [e,h1];omega,by omega,by rw [Nat.testBit_succ];exact h3,?_⟩
        intro m hm
        cases m with
        | zero => omega
        | succ m => rw [Nat.testBit_succ];exact h4 m (by omega)
  intro x hx h0
  exact H 64 x (by omega) hx h0
theorem part_spec {us vs:List Nat} (h:us.length = vs.length) (hu:Ok us) (hv:Ok vs) :
    (part us vs = -1∧us = vs)∨∃ l:Nat,l < 64∧part us vs = (l:Int)∧addr us l≠addr vs l∧∀ m,l < m→addr us m = addr vs m:=by
  have hx:=orx_lt hu hv
  by_cases h0:orx us vs = 0
  · left
    refine ⟨by unfold part;rw [h0,bitLen_zero];rfl,points_eq h hu hv fun l _ => ?_⟩
    have:=mt (orx_testBit us vs l h).2
    simp only [ne_eq,Decidable.not_not] at this
    exact this (by rw [h0];simp)
  · right
    obtain ⟨l,h1,h2,h3,h4⟩:=bitLen_top _ (by omega) h0
    refine ⟨l,h2,by unfold part;rw [h1];omega,(orx_testBit us vs l h).1 h3,fun m hm => ?_⟩
    have:=mt (orx_testBit us vs m h).2
    simp only [ne_eq,Decidable.not_not] at this
    exact this (by rw [h4 m hm];simp)
theorem part_eq {us vs:List Nat} (h:us.length = vs.length) (hu:Ok us) (hv:Ok vs) (l:Nat) (hd:addr us l≠addr vs l) (hs:∀ m,l < m→m < 64→addr us m = addr vs m):part us vs = (l:Int):=by
  rcases part_spec h hu hv with ⟨_,rfl⟩ | ⟨m,hm,e,hd',hs'⟩
  · exact absurd rfl hd
  · have:m = l:=by
      rcases Nat.lt_trichotomy l m with c | c | c
      · exact absurd (hs m c hm) hd'
      · exact c.symm
      · exact absurd (hs' l c) hd
    rw [e,this]
theorem part_same (us:List Nat) (hu:Ok us):part us us = -1:=by
  rcases part_spec rfl hu hu with ⟨e,_⟩ | ⟨l,_,_,hd,_⟩
  · exact e
  · exact absurd rfl hd
theorem part_bd {us vs:List Nat} (h:us.length = vs.length) (hu:Ok us) (hv:Ok vs):-1≤part us vs∧part us vs≤63:=by
  rcases part_spec h hu hv with ⟨e,_⟩ | ⟨l,hl,e,_⟩ <;> omega
theorem cmp_same (us:List Nat) (hu:Ok us):cmp us us = 0:=by
  unfold cmp;rw [part_same us hu];simp
theorem cmp_at {us vs:List Nat} {l:Nat} (h:part us vs = (l:Int)):cmp us vs = if addr us l < addr vs l then -1 else 1:=by
  unfold cmp
  rw [h,if_neg (by omega)]
  simp
theorem cmp_vals {us vs:List Nat} (h:us.length = vs.length) (hu:Ok us) (hv:Ok vs) :
    (us = vs∧cmp us vs = 0)∨∃ l:Nat,l < 64∧part us vs = (l:Int)∧(∀ m,l < m→addr us m = addr vs m)∧((addr us l < addr vs l∧cmp us vs = -1)∨(addr vs l < addr us l∧cmp us vs = 1)):=by
  rcases part_spec h hu hv with ⟨e,r⟩ | ⟨l,hl,e,hd,hs⟩
  · subst r;exact .inl ⟨rfl,cmp_same us hu⟩
  · refine .inr ⟨l,hl,e,hs,?_⟩
    rw [cmp_at e]
    rcases Nat.lt_or_gt_of_ne hd with c | c
    · exact .inl ⟨c,by rw [if_pos c]⟩
    · exact .inr ⟨c,by rw [if_neg (by omega)]⟩
theorem cmp_zero {us vs:List Nat} (h:us.length = vs.length) (hu:Ok us) (hv:Ok vs):cmp us vs = 0↔us = vs:=by
  rcases cmp_vals h hu hv with ⟨r,e⟩ | ⟨l,hl,e,hs,hc⟩
  · exact ⟨fun _ => r,fun _ => e⟩
  · constructor
    · intro h0;rcases hc with ⟨_,c⟩ | ⟨_,c⟩ <;> omega
    · intro r;subst r;rcases hc with ⟨c,_⟩ | ⟨c,_⟩ <;> omega
/-! ### cuts and places -/
def cutN (u k:Nat):Nat:=u / 2 ^ k * 2 ^ k
def cut (us:List Nat) (k:Nat):List Nat:=us.map (cutN · k)
def place (us:List Nat) (l a:Nat):List Nat:=us.mapIdx fun i u => cutN u (l + 1) + bit a (us.length - 1 - i) * 2 ^ l
theorem cut_length (us:List Nat) (k:Nat):(cut us k).length = us.length:=by simp [cut]
theorem place_length (us:List Nat) (l a:Nat):(place us l a).length = us.length:=by simp [place]
theorem cutN_le (u k:Nat):cutN u k≤u:=Nat.div_mul_le_self _ _
theorem cut_ok {us:List Nat} (h:Ok us) (k:Nat):Ok (cut us k):=by
  intro v hv
  simp only [cut,List.mem_map] at hv
  obtain ⟨u,hu,rfl⟩:=hv
  exact Nat.lt_of_le_of_lt (cutN_le _ _) (h u hu)
theorem cutN_testBit (u k m:Nat):(cutN u k).testBit m = (decide (k≤m) && u.testBit m):=by
  have e:cutN u k = (u >>> k) <<< k:=by rw [Nat.shiftLeft_eq,Nat.shiftRight_eq_div_pow];rfl
  rw [e,Nat.testBit_shiftLeft,Nat.testBit_shiftRight]
  by_cases h:k≤m
  · simp [h]
  · simp [h]
theorem cutN_bit (u k m:Nat):bit (cutN u k) m = if k≤m then bit u m else 0:=by
  rw [bit_testBit,bit_testBit,cutN_testBit]
  by_cases h:k≤m <;> simp [h]
theorem cutN_high (u k:Nat) (hu:u < 2 ^ k):cutN u k = 0:=by unfold cutN;rw [Nat.div_eq_of_lt hu];simp
theorem cutN_succ (u k:Nat):cutN u k = cutN u (k + 1) + bit u k * 2 ^ k:=by
  unfold cutN bit
  have e:u / 2 ^ (k + 1) = u / 2 ^ k / 2:=by rw [Nat.pow_succ,Nat.div_div_eq_div_mul]
  rw [e,Nat.pow_succ]
  generalize u / 2 ^ k = x
  have h:=Nat.div_add_mod x 2
  calc x * 2 ^ k = (2 * (x / 2) + x % 2) * 2 ^ k:=by rw [h]
    _ = x / 2 * (2 ^ k * 2) + x % 2 * 2 ^ k:=by rw [Nat.add_mul,Nat.mul_comm 2,Nat.mul_assoc,Nat.mul_comm 2]
theorem cut_addr (us:List Nat) (k m:Nat):addr (cut us k) m = if k≤m then addr us m else 0:=by
  have H:∀ (us:List Nat) (a:Nat),(k≤m∨a = 0)→(us.map (cutN · k)).foldl (fun a u => 2 * a + bit u m) a = if k≤m then us.foldl (fun a u => 2 * a + bit u m) a else 0:=by
    intro us
    induction us with
    | nil => intro a h;by_cases c:k≤m <;> simp [c];omega
    | cons u us ih =>
      intro a h
      simp only [List.map_cons,List.foldl_cons,cutN_bit]
      rw [ih _ (by by_cases c:k≤m <;> simp [c];omega)]
      by_cases c:k≤m <;> simp [c]
  exact H us 0 (by omega)
theorem cut_eq_iff {us vs:List Nat} (h:us.length = vs.length) (hu:Ok us) (hv:Ok vs) (k:Nat):cut us k = cut vs k↔part us vs < (k:Int):=by
  have hl:(cut us k).length = (cut vs k).length:=by rw [cut_length,cut_length,h]
  rcases part_spec h hu hv with ⟨e,r⟩ | ⟨l,hl64,e,hd,hs⟩
  · subst r;exact ⟨fun _ => by omega,fun _ => rfl⟩
  · constructor
    · intro c
      rw [e]
      have a1:=cut_addr us k l
      have a2:=cut_addr vs k l
      rw [c] at a1
      by_cases hk:k≤l
      · rw [if_pos hk] at a1 a2;exact absurd (a1.symm.trans a2) hd
      · omega
    · intro c
      apply points_eq hl (cut_ok hu k) (cut_ok hv k)
      intro m _
      rw [cut_addr,cut_addr]
      by_cases hk:k≤m
      · rw [if_pos hk,if_pos hk];exact hs m (by omega)
      · rw [if_neg hk,if_neg hk]
theorem place_get (us:List Nat) (l a i:Nat) (h:i < (place us l a).length) (h':i < us.length):(place us l a)[i] = cutN us[i] (l + 1) + bit a (us.length - 1 - i) * 2 ^ l:=by
  simp [place]
theorem placeN_lt (u l b:Nat) (hu:u < 18446744073709551616) (hl:l < 64) (hb:b < 2):cutN u (l + 1) + b * 2 ^ l < 18446744073709551616:=by
  have h1:=Nat.div_mul_le_self u (2 ^ (l + 1))
  unfold cutN
  have e:(18446744073709551616:Nat) = 2 ^ (64 - (l + 1)) * 2 ^ (l + 1):=by
    rw [← Nat.pow_add,show 64 - (l + 1) + (l + 1) = 64 by omega]
  have hq:u / 2 ^ (l + 1) < 2 ^ (64 - (l + 1)):=by
    apply Nat.div_lt_of_lt_mul
    rw [Nat.mul_comm,← e];exact hu
  have hb2:b * 2 ^ l < 2 ^ (l + 1):=by
    rw [Nat.pow_succ,Nat.mul_comm (2 ^ l) 2]
    exact Nat.mul_lt_mul_of_pos_right hb (Nat.two_pow_pos l)
  calc u / 2 ^ (l + 1) * 2 ^ (l + 1) + b * 2 ^ l < u / 2 ^ (l + 1) * 2 ^ (l + 1) + 2 ^ (l + 1):=by omega
    _ = (u / 2 ^ (l + 1) + 1) * 2 ^ (l + 1):=by rw [Nat.add_mul,Nat.one_mul]
    _≤2 ^ (64 - (l + 1)) * 2 ^ (l + 1):=Nat.mul_le_mul_right _ hq
    _ = 18446744073709551616:=e.symm
/-! ### lists that are written from the front,or from the back -/
theorem mix_get {α:Type} (P C:List α) (k:Nat) (hk:k≤P.length) (i:Nat):(P.take k ++ C.drop k)[i]? = if i < k then P[i]? else C[i]?:=by
  rw [List.getElem?_append,List.length_take,Nat.min_eq_left hk,List.getElem?_take,List.getElem?_drop]
  by_cases c:i < k
  · simp [c]
  · rw [if_neg c,if_neg c,show k + (i - k) = i by omega]
theorem set_front {α:Type} (P C:List α) (h:P.length = C.length) (k:Nat) (hk:k < P.length):(P.take k ++ C.drop k).set k P[k] = P.take (k + 1) ++ C.drop (k + 1):=by
  apply List.ext_getElem?
  intro i
  rw [List.getElem?_set,mix_get P C k (by omega),mix_get P C (k + 1) (by omega)]
  have hl:(P.take k ++ C.drop k).length = C.length:=by simp;omega
  by_cases e:k = i
  · subst e
    rw [if_pos rfl,hl,if_pos (by omega),if_pos (by omega)]
    simp
  · rw [if_neg e]
    by_cases c:i < k
    · rw [if_pos c,if_pos (by omega)]
    · rw [if_neg c,if_neg (by omega)]
theorem set_front' {α:Type} (P C:List α) (h:P.length = C.length) (k:Nat) (x:α) (hx:P[k]? = some x):(P.take k ++ C.drop k).set k x = P.take (k + 1) ++ C.drop (k + 1):=by
  obtain ⟨hk,rfl⟩:=List.getElem?_eq_some_iff.1 hx
  exact set_front P C h k hk
end Go.Proofs.YtkeepngaaleakaaGreatDoor.Z
namespace Go.Proofs.YtkeepngaaleakaaGreatDoor
open Go.RowKit
theorem ret_int {k:IntKind} {a b:Int} (h:a = b):Ending.returned (.int k a) = .returned (.int k b):=by rw [h]
theorem ret_bool {a b:Bool} (h:a = b):Ending.returned (.bool a) = .returned (.bool b):=by rw [h]
theorem heap_at (w:World) (o:Obj) (k:Nat) (h:k = w.heap.size):(w.alloc o).heap[k]? = some o:=by rw [h];exact heap_alloc_new w o
theorem heap_past {w:World} (o:Obj) {k:Nat} {x:Obj} (h:w.heap[k]? = some x):(w.alloc o).heap[k]? = some x:=by
  rw [Below.heap_alloc w o k (Array.getElem?_eq_some_iff.1 h).1];exact h
theorem below_drewN {B:Nat} {a w:World} (n:Nat) (h:Below B a w):Below B a (w.drewN n):=⟨h.os,h.tape,h.output,h.size,h.block⟩
theorem bD {B:Nat} {a w:World} (h:Below B a w):Below B a w.drew:=h.drew
theorem bN {B n:Nat} {a w:World} (h:Below B a w):Below B a (w.drewN n):=below_drewN n h
theorem bA {B:Nat} {a w:World} {o:Obj} (h:Below B a w) (hs:B≤w.heap.size:=by first | omega | (simp;done) | (simp;omega)):Below B a (w.alloc o):=h.alloc hs o
theorem bS {B:Nat} {a w:World} {p:Addr} {u:Value} (h:Below B a w) (hs:B≤p.block:=by first | omega | (simp;done) | (simp;omega)):Below B a (w.setCell p u):=h.setCell hs u
theorem bR {B:Nat} {w:World}:Below B w w:=Below.refl _ _
theorem below_alloc (w:World) (o:Obj):Below w.heap.size w (w.alloc o):=(Below.refl _ _).alloc (Nat.le_refl _) o
theorem Below.andThen {w a b:World} (h:Below w.heap.size w a) (k:Below a.heap.size a b):Below w.heap.size w b:=h.trans (k.mono h.size)
def vals (us:List Nat):List Value:=us.map fun (u:Nat) => Value.int .u64 (u:Int)
theorem vals_length (us:List Nat):(vals us).length = us.length:=by simp [vals]
theorem vals_get {us:List Nat} {k u:Nat} (h:us[k]? = some u):(vals us)[k]? = some (.int .u64 (u:Int)):=by simp [vals,h]
theorem vals_one (us:List Nat):∀ u∈vals us,u.oneCell' = true:=by
  intro u hu
  simp only [vals,List.mem_map] at hu
  obtain ⟨n,_,rfl⟩:=hu
  rfl
def Pts (w:World) (B:Nat) (A:Option Addr) (us:List Nat):Prop :=
  Z.Ok us∧(us≠[]→∃ b off,A = some ⟨b,off,none⟩∧b < B∧∀ (i u:Nat),us[i]? = some u→w.cell? ⟨b,off + i,none⟩ = some (.int .u64 (u:Int)))
theorem Pts.ok {w:World} {B:Nat} {A:Option Addr} {us:List Nat} (h:Pts w B A us):Z.Ok us:=h.1
theorem Pts.open_ {w:World} {B:Nat} {A:Option Addr} {us:List Nat} (h:Pts w B A us) (hn:us≠[]) :
    ∃ b off,A = some ⟨b,off,none⟩∧b < B∧∀ (i u:Nat),us[i]? = some u→w.cell? ⟨b,off + i,none⟩ = some (.int .u64 (u:Int)):=h.2 hn
theorem Pts.keep {w w':World} {B B':Nat} {A:Option Addr} {us:List Nat} (h:Pts w B A us) (hB:B≤B') (hw:∀ p:Addr,p.block < B→w'.cell? p = w.cell? p):Pts w' B' A us:=by
  refine ⟨h.1,fun hn => ?_⟩
  obtain ⟨b,off,rfl,hb,hc⟩:=h.2 hn
  exact ⟨b,off,rfl,by omega,fun i u hi => (hw _ hb).trans (hc i u hi)⟩
theorem Pts.below {w w':World} {B B':Nat} {A:Option Addr} {us:List Nat} (h:Pts w B A us) (hb:Below B w w') (hB:B≤B'):Pts w' B' A us:=h.keep hB fun _ hp => hb.cell hp
theorem Pts.below' {w w':World} {B C:Nat} {A:Option Addr} {us:List Nat} (h:Pts w B A us) (hb:Below C w w') (hC:B≤C):Pts w' B A us:=h.keep (Nat.le_refl _) fun _ hp => hb.cell (Nat.lt_of_lt_of_le hp hC)
theorem Pts.drew {w:World} {B:Nat} {A:Option Addr} {us:List Nat} (h:Pts w B A us):Pts w.drew B A us:=h
theorem Pts.nil (w:World) (B:Nat) (A:Option Addr):Pts w B A []:=⟨fun _ h => by simp at h,fun h => absurd rfl h⟩
theorem get_lt {α:Type} {us:List α} {k:Nat} (h:k < us.length):∃ u,us[k]? = some u:=⟨us[k],List.getElem?_eq_getElem h⟩
theorem lt_get {α:Type} {us:List α} {k:Nat} {u:α} (h:us[k]? = some u):k < us.length:=(List.getElem?_eq_some_iff.1 h).1
def Own (w:World) (base:Nat) (v:Value) (us:List Nat):Prop:=Z.Ok us∧w.ownsRow base 55 1 v us.length (vals us)
theorem Own.ok {w:World} {base:Nat} {v:Value} {us:List Nat} (h:Own w base v us):Z.Ok us:=h.1
theorem Own.below {w w':World} {base C:Nat} {v:Value} {us:List Nat} (h:Own w base v us) (hb:Below C w w') (hC:w.heap.size≤C):Own w' base v us:=by
  refine ⟨h.1,h.2.1,?_⟩
  rcases h.2.2 with h2 | ⟨g,cap,cur,hv,hg,hh,r⟩
  · exact .inl h2
  · exact .inr ⟨g,cap,cur,hv,hg,(hb.block g (by have:=(Array.getElem?_eq_some_iff.1 hh).1;omega)).trans hh,r⟩
theorem Own.drew {w:World} {base:Nat} {v:Value} {us:List Nat} (h:Own w base v us):Own w.drew base v us:=h
theorem Own.mono {w:World} {base base':Nat} {v:Value} {us:List Nat} (h:Own w base v us) (hb:base'≤base):Own w base' v us:=by
  refine ⟨h.1,h.2.1,?_⟩
  rcases h.2.2 with h2 | ⟨g,cap,cur,hv,hg,r⟩
  · exact .inl h2
  · exact .inr ⟨g,cap,cur,hv,by omega,r⟩
theorem Own.pts {w:World} {base:Nat} {v:Value} {us:List Nat} (h:Own w base v us):∃ A c,v = .slice A us.length c∧Pts w w.heap.size A us:=by
  rcases h.2.2 with ⟨hv,hn⟩ | ⟨g,cap,cur,hv,hg,hh,r⟩
  · have:us = []:=List.eq_nil_of_length_eq_zero hn
    subst this
    exact ⟨none,0,hv,Pts.nil _ _ _⟩
  · refine ⟨_,cap,hv,h.1,fun _ => ⟨g,0,rfl,(Array.getElem?_eq_some_iff.1 hh).1,fun i u hi => ?_⟩⟩
    subst hv
    rw [Nat.zero_add,World.ownsRow.cellAt h.2 i (by have:=lt_get hi;omega)]
    exact vals_get hi
theorem Own.row {w:World} {base:Nat} {v:Value} {us:List Nat} (h:Own w base v us) (hn:us≠[]) :
    ∃ g cap,v = .slice (some ⟨g,0,none⟩) us.length cap∧base≤g∧g < w.heap.size∧w.ownsRow base 55 1 (.slice (some ⟨g,0,none⟩) us.length cap) us.length (vals us):=by
  have h2:=h.2
  rcases h.2.2 with ⟨hv,h0⟩ | ⟨g,cap,cur,hv,hg,hh,r⟩
  · exact absurd (List.eq_nil_of_length_eq_zero h0) hn
  · subst hv
    exact ⟨g,cap,rfl,hg,(Array.getElem?_eq_some_iff.1 hh).1,h2⟩
theorem info_u64:(Tryz.prog.info? 55).map (fun i => (i.zero,i.size,i.bytes)) = some (some (.int .u64 0),1,8):=by kernel_rfl
theorem pts_of_row {w:World} {a:Option Addr} {len cap:Nat} {zs:List Int}
    (h:(a = none∧len = 0∧cap = 0∧zs = [])∨∃ x,a = some x∧len≤cap∧cap≤maxLen∧zs.length = cap∧(∀ i,i < zs.length→w.cell? (x.add i) = some (.int .u64 (zs.getD i 0)))∧∀ n∈zs,(Lit.int .u64 n).wf = true) :
    ∃ us:List Nat,us.length = len∧len≤maxLen∧Pts w w.heap.size a us:=by
  rcases h with ⟨rfl,rfl,_,_⟩ | ⟨x,rfl,hlc,hcm,hz,hcell,hwf⟩
  · exact ⟨[],rfl,Nat.zero_le _,Pts.nil _ _ _⟩
  · have hb:∀ n∈zs,0≤n∧n < 18446744073709551616:=fun n hn => by
      have:=bounds_u64 (hwf n hn)
      omega
    refine ⟨(zs.take len).map Int.toNat,by simp;omega,by omega,?_,?_⟩
    · intro u hu
      simp only [List.mem_map] at hu
      obtain ⟨n,hn,rfl⟩:=hu
      have:=hb n (List.mem_of_mem_take hn)
      omega
    · intro hne
      have hp:0 < zs.length:=by
        rcases Nat.eq_zero_or_pos zs.length with h0 | h0
        · have:zs = []:=List.eq_nil_of_length_eq_zero h0
          subst this
          simp at hne
        · exact h0
      obtain ⟨b,off,rfl,hc⟩:=ints_at hcell hp
      refine ⟨b,off,rfl,?_,fun i u hi => ?_⟩
      · have:=World.block_lt_of_cell? w _ (hc 0 hp)
        exact this
      · simp only [List.getElem?_map,Option.map_eq_some_iff] at hi
        obtain ⟨n,hn,rfl⟩:=hi
        rw [List.getElem?_take] at hn
        split at hn
        · obtain ⟨hlt,e⟩:=List.getElem?_eq_some_iff.1 hn
          rw [hc i hlt]
          have hb':=hb n (List.mem_of_getElem? hn)
          rw [List.getD_eq_getElem?_getD,hn]
          simp
          omega
        · cases hn
theorem run_append_nil {P:Program} (w:World) (base:Nat) (t ty e:TypeId) (i:TypeInfo) (size:Nat) (ht:P.underlying t = some (.slice e)) (hi:P.info? e = some i)
    (v:Value) (n:Nat) (xs:List Value) (hown:w.ownsRow base e size v n xs) (c:Nat):(Builtin.append_ #[t,t] ty #[v,.slice none 0 c]).run P w = .ok v w:=by
  rcases hown.2 with ⟨rfl,rfl⟩ | ⟨g,cap,cur,rfl,_,_,hnc,_⟩
  · simp [Builtin.append_,run_underlying ht,sizeOf,typeInfo,hi,Builtin.lenOf,Builtin.firstCells]
  · simp [Builtin.append_,run_underlying ht,sizeOf,typeInfo,hi,Builtin.lenOf,Builtin.firstCells,hnc,storeCells]
end Go.Proofs.YtkeepngaaleakaaGreatDoor
namespace Go.Proofs.YtkeepngaaleakaaGreatDoor.Pc
def ones:Nat→Nat→Nat
  | 0,_ => 0
  | n + 1,x => ones n x + (if x.testBit n = true then 1 else 0)
theorem ones_le (n x:Nat):ones n x≤n:=by
  induction n with
  | zero => simp [ones]
  | succ n ih => simp only [ones];split <;> omega
def p1 (x:Nat):Nat:=(x / 2 &&& 6148914691236517205) + (x &&& 6148914691236517205)
def p2 (x:Nat):Nat:=(x / 4 &&& 3689348814741910323) + (x &&& 3689348814741910323)
def p3 (x:Nat):Nat:=x / 16 + x &&& 1085102592571150095
def p4 (x:Nat):Nat:=x + x / 256
def p5 (x:Nat):Nat:=x + x / 65536
def p6 (x:Nat):Nat:=x + x / 4294967296
def p7 (x:Nat):Nat:=x &&& 127
def rep (m:Nat):Nat→Nat
  | 0 => 0
  | n + 1 => m + 256 * rep m n
theorem rep_55:rep 85 8 = 6148914691236517205:=by decide
theorem rep_33:rep 51 8 = 3689348814741910323:=by decide
theorem rep_0f:rep 15 8 = 1085102592571150095:=by decide
theorem testBit_split {a b:Nat} (ha:a < 256) (i:Nat):(a + 256 * b).testBit i = if i < 8 then a.testBit i else b.testBit (i - 8):=by
  have h:=Nat.testBit_two_pow_mul_add b (b:=a) (i:=8) (by simpa using ha) i
  rw [show 2 ^ 8 * b + a = a + 256 * b by omega] at h
  exact h
theorem and_split {a b m M:Nat} (ha:a < 256) (hm:m < 256):(a + 256 * b) &&& (m + 256 * M) = (a &&& m) + 256 * (b &&& M):=by
  have hl:a &&& m < 256:=Nat.lt_of_le_of_lt Nat.and_le_left ha
  apply Nat.eq_of_testBit_eq
  intro i
  rw [Nat.testBit_and,testBit_split ha,testBit_split hm,testBit_split hl]
  split
  · rw [Nat.testBit_and]
  · rw [Nat.testBit_and]
theorem and_low {a t m s:Nat} (hm:m < 2 ^ s) (ha:a < 2 ^ s):(a + 2 ^ s * t) &&& m = a &&& m:=by
  apply Nat.eq_of_testBit_eq
  intro i
  have h:=Nat.testBit_two_pow_mul_add t (b:=a) (i:=s) ha i
  rw [Nat.add_comm] at h
  rw [Nat.testBit_and,Nat.testBit_and,h]
  split
  · rfl
  · rename_i hi
    have:m.testBit i = false:=Nat.testBit_lt_two_pow (Nat.lt_of_lt_of_le hm (Nat.pow_le_pow_right (by omega) (by omega)))
    simp [this]
def s1 (n x:Nat):Nat:=(x / 2 &&& rep 85 n) + (x &&& rep 85 n)
def s2 (n x:Nat):Nat:=(x / 4 &&& rep 51 n) + (x &&& rep 51 n)
def s3 (n x:Nat):Nat:=x / 16 + x &&& rep 15 n
theorem s1_step {a b n:Nat} (ha:a < 256):s1 (n + 1) (a + 256 * b) = ((a / 2 &&& 85) + (a &&& 85)) + 256 * s1 n b:=by
  unfold s1
  have e:(a + 256 * b) / 2 = (a / 2 + 2 ^ 7 * (b % 2)) + 256 * (b / 2):=by omega
  rw [e,rep,and_split (by omega) (by omega),and_split ha (by omega),and_low (by omega) (by omega)]
  omega
theorem s2_step {a b n:Nat} (ha:a < 256):s2 (n + 1) (a + 256 * b) = ((a / 4 &&& 51) + (a &&& 51)) + 256 * s2 n b:=by
  unfold s2
  have e:(a + 256 * b) / 4 = (a / 4 + 2 ^ 6 * (b % 4)) + 256 * (b / 4):=by omega
  rw [e,rep,and_split (by omega) (by omega),and_split ha (by omega),and_low (by omega) (by omega)]
  omega
theorem s3_step {a b n:Nat} (ha:a / 16≤4) (ha':a % 16≤4) (hb:b % 16≤4):s3 (n + 1) (a + 256 * b) = (a / 16 + a % 16) + 256 * s3 n b:=by
  unfold s3
  have e:(a + 256 * b) / 16 + (a + 256 * b) = ((a / 16 + a % 16) + 2 ^ 4 * (b % 16 + a / 16)) + 256 * (b / 16 + b):=by omega
  rw [e,rep,and_split (by omega) (by omega),and_low (by omega) (by omega)]
  have:(a / 16 + a % 16) &&& 15 = a / 16 + a % 16:=by
    have:=Nat.and_two_pow_sub_one_eq_mod (a / 16 + a % 16) 4
    rw [show 2 ^ 4 - 1 = 15 from rfl] at this
    rw [this]
    omega
  rw [this]
def b1 (a:Nat):Nat:=(a / 2 &&& 85) + (a &&& 85)
def b2 (a:Nat):Nat:=(a / 4 &&& 51) + (a &&& 51)
theorem byte_all:∀ a:Fin 256,b1 a.val < 256∧b2 (b1 a.val) / 16≤4∧b2 (b1 a.val) % 16≤4∧b2 (b1 a.val) < 256∧b2 (b1 a.val) / 16 + b2 (b1 a.val) % 16 = ones 8 a.val∧ones 8 a.val≤8:=by decide +kernel
theorem byte_one {a:Nat} (h:a < 256):b1 a < 256∧b2 (b1 a) / 16≤4∧b2 (b1 a) % 16≤4∧b2 (b1 a) < 256∧b2 (b1 a) / 16 + b2 (b1 a) % 16 = ones 8 a∧ones 8 a≤8:=byte_all ⟨a,h⟩
def cat:List Nat→Nat
  | [] => 0
  | a :: l => a + 256 * cat l
theorem s_cat:∀ (l:List Nat),(∀ a∈l,a < 256)→s3 l.length (s2 l.length (s1 l.length (cat l))) = cat (l.map (ones 8))∧s2 l.length (s1 l.length (cat l)) % 16≤4
  | [],_ => by simp [cat,s1,s2,s3,rep]
  | a :: l,h => by
    obtain ⟨h1,h2,h3,h4,h5,h6⟩:=byte_one (h a (by simp))
    obtain ⟨i1,i2⟩:=s_cat l (fun x hx => h x (by simp [hx]))
    have e1:s1 (l.length + 1) (cat (a :: l)) = b1 a + 256 * s1 l.length (cat l):=s1_step (h a (by simp))
    have e2:s2 (l.length + 1) (b1 a + 256 * s1 l.length (cat l)) = b2 (b1 a) + 256 * s2 l.length (s1 l.length (cat l)):=s2_step h1
    have e3:=s3_step (n:=l.length) h2 h3 i2
    rw [List.length_cons,e1,e2]
    refine ⟨?_,by omega⟩
    rw [e3,i1,List.map_cons,cat,h5]
theorem ones_split (n:Nat) {a b:Nat} (ha:a < 256):ones (8 + n) (a + 256 * b) = ones 8 a + ones n b:=by
  induction n with
  | zero =>
    have:∀ k,k≤8→ones k (a + 256 * b) = ones k a:=by
      intro k
      induction k with
      | zero => intro _;rfl
      | succ k ih =>
        intro hk
        simp only [ones]
        rw [ih (by omega),testBit_split ha,if_pos (show k < 8 by omega)]
    simpa [ones] using this 8 (by omega)
  | succ n ih =>
    rw [← Nat.add_assoc]
    simp only [ones]
    have ht:=testBit_split (b:=b) ha (8 + n)
    rw [if_neg (by omega),show 8 + n - 8 = n by omega] at ht
    rw [ht]
    have:ones (8 + n) (a + 256 * b) = ones 8 a + ones n b:=ih
    simp only [ones] at this ⊢
    omega
theorem sum8 {a b c d e f g h:Nat} (ha:a≤8) (hb:b≤8) (hc:c≤8) (hd:d≤8) (he:e≤8) (hf:f≤8) (hg:g≤8) (hh:h≤8) :
    p7 (p6 (p5 (p4 (cat [a,b,c,d,e,f,g,h])))) = a + b + c + d + e + f + g + h:=by
  have e4:p4 (cat [a,b,c,d,e,f,g,h]) = cat [a + b,b + c,c + d,d + e,e + f,f + g,g + h,h]:=by
    simp only [p4,cat];omega
  have e5:p5 (cat [a + b,b + c,c + d,d + e,e + f,f + g,g + h,h]) = cat [a + b + c + d,b + c + d + e,c + d + e + f,d + e + f + g,e + f + g + h,f + g + h,g + h,h]:=by
    simp only [p5,cat];omega
  have e6:p6 (cat [a + b + c + d,b + c + d + e,c + d + e + f,d + e + f + g,e + f + g + h,f + g + h,g + h,h]) = cat [a + b + c + d + e + f + g + h,b + c + d + e + f + g + h,c + d + e + f + g + h,d + e + f + g + h,e + f + g + h,f + g + h,g + h,h]:=by
    simp only [p6,cat];omega
  rw [e4,e5,e6]
  have h7:=Nat.and_two_pow_sub_one_eq_mod (cat [a + b + c + d + e + f + g + h,b + c + d + e + f + g + h,c + d + e + f + g + h,d + e + f + g + h,e + f + g + h,f + g + h,g + h,h]) 7
  rw [show 2 ^ 7 - 1 = 127 from rfl] at h7
  rw [p7,h7]
  simp only [cat]
  omega
theorem cat_of (x:Nat) (h:x < 18446744073709551616):x = cat [x % 256,x / 256 % 256,x / 65536 % 256,x / 16777216 % 256,x / 4294967296 % 256,x / 1099511627776 % 256,x / 281474976710656 % 256,x / 72057594037927936]:=by
  simp only [cat];omega
theorem ones_all {x:Nat} (h:x < 18446744073709551616):p7 (p6 (p5 (p4 (p3 (p2 (p1 x)))))) = ones 64 x:=by
  have hx:=cat_of x h
  have hl:∀ a∈[x % 256,x / 256 % 256,x / 65536 % 256,x / 16777216 % 256,x / 4294967296 % 256,x / 1099511627776 % 256,x / 281474976710656 % 256,x / 72057594037927936],a < 256:=by
    intro a ha
    simp only [List.mem_cons,List.not_mem_nil,or_false] at ha
    omega
  generalize x % 256 = a0 at *
  generalize x / 256 % 256 = a1 at *
  generalize x / 65536 % 256 = a2 at *
  generalize x / 16777216 % 256 = a3 at *
  generalize x / 4294967296 % 256 = a4 at *
  generalize x / 1099511627776 % 256 = a5 at *
  generalize x / 281474976710656 % 256 = a6 at *
  generalize x / 72057594037927936 = a7 at *
  have g:∀ {a},a∈[a0,a1,a2,a3,a4,a5,a6,a7]→ones 8 a≤8:=fun ha => (byte_one (hl _ ha)).2.2.2.2.2
  have hs:=(s_cat _ hl).1
  rw [show [a0,a1,a2,a3,a4,a5,a6,a7].length = 8 from rfl] at hs
  have e:p3 (p2 (p1 x)) = s3 8 (s2 8 (s1 8 x)):=by
    unfold p1 p2 p3 s1 s2 s3
    rw [rep_55,rep_33,rep_0f]
  rw [e,hx,hs]
  simp only [List.map_cons,List.map_nil]
  rw [sum8 (g (by simp)) (g (by simp)) (g (by simp)) (g (by simp)) (g (by simp)) (g (by simp)) (g (by simp)) (g (by simp))]
  have l0:=hl a0 (by simp)
  have l1:=hl a1 (by simp)
  have l2:=hl a2 (by simp)
  have l3:=hl a3 (by simp)
  have l4:=hl a4 (by simp)
  have l5:=hl a5 (by simp)
  have l6:=hl a6 (by simp)
  have l7:=hl a7 (by simp)
  have o0:=ones_split 56 (b:=cat [a1,a2,a3,a4,a5,a6,a7]) l0
  have o1:=ones_split 48 (b:=cat [a2,a3,a4,a5,a6,a7]) l1
  have o2:=ones_split 40 (b:=cat [a3,a4,a5,a6,a7]) l2
  have o3:=ones_split 32 (b:=cat [a4,a5,a6,a7]) l3
  have o4:=ones_split 24 (b:=cat [a5,a6,a7]) l4
  have o5:=ones_split 16 (b:=cat [a6,a7]) l5
  have o6:=ones_split 8 (b:=cat [a7]) l6
  have o7:=ones_split 0 (b:=0) l7
  have z:ones 0 0 = 0:=rfl
  show _ = ones 64 (a0 + 256 * cat [a1,a2,a3,a4,a5,a6,a7])
  rw [show (64:Nat) = 8 + 56 from rfl,o0]
  rw [show cat [a1,a2,a3,a4,a5,a6,a7] = a1 + 256 * cat [a2,a3,a4,a5,a6,a7] from rfl,show (56:Nat) = 8 + 48 from rfl,o1]
  rw [show cat [a2,a3,a4,a5,a6,a7] = a2 + 256 * cat [a3,a4,a5,a6,a7] from rfl,show (48:Nat) = 8 + 40 from rfl,o2]
  rw [show cat [a3,a4,a5,a6,a7] = a3 + 256 * cat [a4,a5,a6,a7] from rfl,show (40:Nat) = 8 + 32 from rfl,o3]
  rw [show cat [a4,a5,a6,a7] = a4 + 256 * cat [a5,a6,a7] from rfl,show (32:Nat) = 8 + 24 from rfl,o4]
  rw [show cat [a5,a6,a7] = a5 + 256 * cat [a6,a7] from rfl,show (24:Nat) = 8 + 16 from rfl,o5]
  rw [show cat [a6,a7] = a6 + 256 * cat [a7] from rfl,show (16:Nat) = 8 + 8 from rfl,o6]
  rw [show cat [a7] = a7 + 256 * 0 from rfl,show ones 8 (a7 + 256 * 0) = ones (8 + 0) (a7 + 256 * 0) from rfl,o7]
  omega
theorem p1_lt {x:Nat}:p1 x < 18446744073709551616:=by
  have:=Nat.and_le_right (n:=x / 2) (m:=6148914691236517205)
  have:=Nat.and_le_right (n:=x) (m:=6148914691236517205)
  unfold p1;omega
theorem p2_lt {x:Nat}:p2 x < 8000000000000000000:=by
  have:=Nat.and_le_right (n:=x / 4) (m:=3689348814741910323)
  have:=Nat.and_le_right (n:=x) (m:=3689348814741910323)
  unfold p2;omega
theorem p3_lt {x:Nat}:p3 x < 1100000000000000000:=by
  have:=Nat.and_le_right (n:=x / 16 + x) (m:=1085102592571150095)
  unfold p3;omega
end Go.Proofs.YtkeepngaaleakaaGreatDoor.Pc
namespace Go.Proofs.YtkeepngaaleakaaGreatDoor.Bx
open Go.Proofs.YtkeepngaaleakaaGreatDoor.Z (Ok cutN cut part)
def g (us:List Nat) (i:Nat):Nat:=us.getD i 0
theorem g_of {us:List Nat} {i u:Nat} (h:us[i]? = some u):g us i = u:=by simp [g,List.getD_eq_getElem?_getD,h]
theorem g_get {us:List Nat} {i:Nat} (h:i < us.length):us[i]? = some (g us i):=by
  rw [List.getElem?_eq_getElem h];simp [g,h]
theorem g_lt {us:List Nat} (h:Ok us) (i:Nat):g us i < 18446744073709551616:=by
  unfold g
  rw [List.getD_eq_getElem?_getD]
  cases e:us[i]? with
  | none => simp
  | some u => simpa using h u (List.mem_of_getElem? e)
def tab (k:Nat) (f:Nat→Nat):List Nat:=(List.range k).map f
theorem tab_get {k i:Nat} (f:Nat→Nat) (h:i < k):(tab k f)[i]? = some (f i):=by simp [tab,h]
theorem g_tab {k i:Nat} (f:Nat→Nat) (h:i < k):g (tab k f) i = f i:=g_of (tab_get f h)
def emp (lo hi:List Nat):Nat→Bool
  | 0 => false
  | k + 1 => emp lo hi k || decide (g hi k < g lo k)
theorem emp_false {lo hi:List Nat} {k:Nat}:emp lo hi k = false↔∀ i,i < k→g lo i≤g hi i:=by
  induction k with
  | zero => simp [emp]
  | succ k ih =>
    simp only [emp,Bool.or_eq_false_iff,ih,decide_eq_false_iff_not,Nat.not_lt]
    constructor
    · rintro ⟨h1,h2⟩ i hi
      rcases Nat.lt_succ_iff_lt_or_eq.1 hi with c | rfl
      · exact h1 i c
      · exact h2
    · exact fun h => ⟨fun i hi => h i (by omega),h k (by omega)⟩
def isin (lo hi p:List Nat):Nat→Bool
  | 0 => true
  | k + 1 => isin lo hi p k && (decide (g lo k≤g p k) && decide (g p k≤g hi k))
theorem isin_true {lo hi p:List Nat} {k:Nat}:isin lo hi p k = true↔∀ i,i < k→g lo i≤g p i∧g p i≤g hi i:=by
  induction k with
  | zero => simp [isin]
  | succ k ih =>
    simp only [isin,Bool.and_eq_true,ih,decide_eq_true_eq]
    constructor
    · rintro ⟨h1,h2⟩ i hi
      rcases Nat.lt_succ_iff_lt_or_eq.1 hi with c | rfl
      · exact h1 i c
      · exact h2
    · exact fun h => ⟨fun i hi => h i (by omega),h k (by omega)⟩
theorem isin_at {lo hi p:List Nat} {j k:Nat} (h:isin lo hi p j = false) (hk:j≤k):isin lo hi p k = false:=by
  rw [Bool.eq_false_iff] at h ⊢
  intro h2
  exact h (isin_true.2 fun i hi => isin_true.1 h2 i (by omega))
def dif (a b:Nat):Nat:=max a b - min a b
def far (p q:List Nat):Nat→Nat
  | 0 => 0
  | k + 1 => max (far p q k) (dif (g p k) (g q k))
/-! ### what is in both -/
/-! ### what is around -/
/-! ### cells -/
def cellHi (p:List Nat) (k:Nat):List Nat:=tab p.length fun i => cutN (g p i) k + (2 ^ k - 1)
theorem g_cut {p:List Nat} {i:Nat} (k:Nat) (h:i < p.length):g (cut p k) i = cutN (g p i) k:=by
  apply g_of
  simp [Z.cut,g_get h]
theorem pow_le_64 {k:Nat} (hk:k≤64):2 ^ k≤18446744073709551616:=by
  have:=Nat.pow_le_pow_right (n:=2) (by omega) hk
  omega
theorem cell_lt {u k:Nat} (hu:u < 18446744073709551616) (hk:k≤64):cutN u k + (2 ^ k - 1) < 18446744073709551616:=by
  have hp:=Nat.two_pow_pos k
  have h1:cutN u k + 2 ^ k≤2 ^ 64:=by
    have e:(2:Nat) ^ 64 = 2 ^ (64 - k) * 2 ^ k:=by rw [← Nat.pow_add];congr 1;omega
    have hd:u / 2 ^ k < 2 ^ (64 - k):=by
      rw [Nat.div_lt_iff_lt_mul hp,← e];exact hu
    unfold Z.cutN
    rw [e,← Nat.succ_mul]
    exact Nat.mul_le_mul_right _ hd
  omega
end Go.Proofs.YtkeepngaaleakaaGreatDoor.Bx
namespace Go.Proofs.YtkeepngaaleakaaGreatDoor.Mk
open Go.Proofs.YtkeepngaaleakaaGreatDoor.Z Go.Proofs.YtkeepngaaleakaaGreatDoor.Bx
def less (a b:Nat):Nat:=a ^^^ (a &&& b)
theorem less_testBit (a b i:Nat):(less a b).testBit i = (a.testBit i && !b.testBit i):=by
  unfold less
  rw [Nat.testBit_xor,Nat.testBit_and]
  cases a.testBit i <;> cases b.testBit i <;> rfl
theorem sub_iff (a b:Nat):a &&& b = a↔∀ i,a.testBit i = true→b.testBit i = true:=by
  constructor
  · intro h i hi
    have:=congrArg (fun x => Nat.testBit x i) h
    simp only [Nat.testBit_and] at this
    rw [hi] at this
    simpa using this
  · intro h
    apply Nat.eq_of_testBit_eq
    intro i
    rw [Nat.testBit_and]
    cases e:a.testBit i
    · rfl
    · rw [h i e];rfl
theorem sub_le {a b:Nat} (h:a &&& b = a):a≤b:=by rw [← h];exact Nat.and_le_right
theorem less_le (a b:Nat):less a b≤a:=by
  refine sub_le ((sub_iff _ _).2 fun i hi => ?_)
  rw [less_testBit] at hi
  cases h:a.testBit i
  · rw [h] at hi;simp at hi
  · rfl
theorem less_zero (a b:Nat):less a b = 0↔a &&& b = a:=by
  rw [sub_iff]
  constructor
  · intro h i hi
    have:=less_testBit a b i
    rw [h,Nat.zero_testBit,hi] at this
    simpa using this.symm
  · intro h
    apply Nat.eq_of_testBit_eq
    intro i
    rw [less_testBit,Nat.zero_testBit]
    cases e:a.testBit i
    · rfl
    · rw [h i e];rfl
def has (k lo hi a:Nat):Bool:=decide (a < 2 ^ k) && (decide (lo &&& a = lo) && decide (a &&& hi = a))
theorem has_iff {k lo hi a:Nat}:has k lo hi a = true↔a < 2 ^ k∧lo &&& a = lo∧a &&& hi = a:=by
  simp [has]
def left (k lo hi:Nat):List Nat:=(List.range (2 ^ k)).filter (has k lo hi)
theorem mem_left {k lo hi a:Nat}:a∈left k lo hi↔has k lo hi a = true:=by
  simp only [left,List.mem_filter,List.mem_range]
  exact ⟨fun h => h.2,fun h => ⟨(has_iff.1 h).1,h⟩⟩
theorem left_sorted (k lo hi:Nat):(left k lo hi).Pairwise (· < ·):=List.Pairwise.filter _ List.pairwise_lt_range
def nothing (lo hi:Nat):Bool:=decide (¬ lo &&& hi = lo)
theorem has_low {k lo hi:Nat} (h:lo < 2 ^ k):has k lo hi lo = !nothing lo hi:=by
  rw [Bool.eq_iff_iff,has_iff]
  simp [nothing,h]
theorem left_nil_iff {k lo hi:Nat} (h:lo < 2 ^ k):left k lo hi = []↔nothing lo hi = true:=by
  constructor
  · intro e
    rcases hn:nothing lo hi with _ | _
    · have:lo∈left k lo hi:=mem_left.2 (by rw [has_low h,hn];rfl)
      rw [e] at this
      simp at this
    · rfl
  · intro hn
    rw [List.eq_nil_iff_forall_not_mem]
    intro a ha
    obtain ⟨_,h1,h2⟩:=has_iff.1 (mem_left.1 ha)
    simp only [nothing,decide_eq_true_eq] at hn
    refine hn ((sub_iff _ _).2 fun i hi => (sub_iff _ _).1 h2 i ((sub_iff _ _).1 h1 i hi))
theorem sorted_head {L:List Nat} {x:Nat} (hs:L.Pairwise (· < ·)) (hx:x∈L) (hle:∀ y∈L,x≤y):L[0]? = some x:=by
  cases L with
  | nil => simp at hx
  | cons y ys =>
    have h1:=hle y (by simp)
    rcases List.mem_cons.1 hx with e | e
    · simp [e]
    · have:=(List.pairwise_cons.1 hs).1 x e
      omega
theorem left_head {k lo hi:Nat} (h:lo < 2 ^ k) (hn:nothing lo hi = false):(left k lo hi)[0]? = some lo:=by
  refine sorted_head (left_sorted k lo hi) (mem_left.2 (by rw [has_low h,hn];rfl)) fun y hy => ?_
  exact sub_le (has_iff.1 (mem_left.1 hy)).2.1
/-! ### the next one -/
def next (k lo hi n:Nat):Option Nat:=(left k lo hi).find? (fun a => decide (n < a))
theorem next_some {k lo hi n x:Nat} (hx:has k lo hi x = true) (hn:n < x) (hle:∀ y,has k lo hi y = true→n < y→x≤y):next k lo hi n = some x:=by
  have H:∀ (L:List Nat),L.Pairwise (· < ·)→x∈L→(∀ y∈L,n < y→x≤y)→L.find? (fun a => decide (n < a)) = some x:=by
    intro L
    induction L with
    | nil => intro _ h;simp at h
    | cons y ys ih =>
      intro hs hm hl
      rw [List.find?_cons]
      by_cases c:n < y
      · rw [decide_eq_true c]
        have h1:=hl y (by simp) c
        rcases List.mem_cons.1 hm with e | e
        · simp [e]
        · have:=(List.pairwise_cons.1 hs).1 x e
          omega
      · rw [decide_eq_false c]
        refine ih (List.pairwise_cons.1 hs).2 ?_ (fun z hz => hl z (by simp [hz]))
        rcases List.mem_cons.1 hm with e | e
        · subst e;exact absurd hn c
        · exact e
  exact H _ (left_sorted k lo hi) (mem_left.2 hx) (fun y hy => hle y (mem_left.1 hy))
theorem next_none {k lo hi n:Nat} (h:∀ y,has k lo hi y = true→¬ n < y):next k lo hi n = none:=by
  unfold next
  rw [List.find?_eq_none]
  intro y hy
  simpa using h y (mem_left.1 hy)
theorem testBit_low (p i:Nat):(2 ^ p - 1).testBit i = decide (i < p):=Nat.testBit_two_pow_sub_one p i
theorem lt_two_pow_of {x k:Nat} (h:∀ i,k≤i→x.testBit i = false):x < 2 ^ k:=Nat.lt_pow_two_of_testBit x h
theorem testBit_ge {x k i:Nat} (h:x < 2 ^ k) (hi:k≤i):x.testBit i = false :=
  Nat.testBit_lt_two_pow (Nat.lt_of_lt_of_le h (Nat.pow_le_pow_right (by omega) hi))
theorem lt_of_bit {n m:Nat} (i:Nat) (hn:n.testBit i = false) (hm:m.testBit i = true) (h:∀ j,i < j→n.testBit j = m.testBit j):n < m:=by
  have e:n / 2 ^ (i + 1) = m / 2 ^ (i + 1):=by
    apply Nat.eq_of_testBit_eq
    intro j
    rw [Nat.testBit_div_two_pow,Nat.testBit_div_two_pow]
    exact h _ (by omega)
  have b1:n / 2 ^ i % 2 = 0:=by
    rw [Nat.testBit_eq_decide_div_mod_eq] at hn
    have:=Nat.mod_lt (n / 2 ^ i) (show 0 < 2 by omega)
    have h2:¬ (n / 2 ^ i % 2 = 1):=by simpa using hn
    omega
  have b2:m / 2 ^ i % 2 = 1:=by
    rw [Nat.testBit_eq_decide_div_mod_eq] at hm
    simpa using hm
  rw [Nat.pow_succ,← Nat.div_div_eq_div_mul,← Nat.div_div_eq_div_mul] at e
  have hlt:n / 2 ^ i < m / 2 ^ i:=by omega
  rcases Nat.lt_or_ge n m with c | c
  · exact c
  · have:=Nat.div_le_div_right (c:=2 ^ i) c
    omega
def cand (lo n p:Nat):Nat:=(less n (2 ^ p - 1) ||| 2 ^ p) ||| (lo &&& (2 ^ p - 1))
theorem cand_testBit (lo n p i:Nat):(cand lo n p).testBit i = if i < p then lo.testBit i else if i = p then true else n.testBit i:=by
  unfold cand
  rw [Nat.testBit_or,Nat.testBit_or,Nat.testBit_and,less_testBit,testBit_low,Nat.testBit_two_pow]
  by_cases c:i < p
  · rw [if_pos c,decide_eq_true c,decide_eq_false (by omega)]
    simp
  · rw [if_neg c,decide_eq_false c]
    by_cases e:i = p
    · rw [if_pos e,decide_eq_true e.symm];simp
    · rw [if_neg e,decide_eq_false (by omega)];simp
theorem cand_gt {lo n p:Nat} (h:n.testBit p = false):n < cand lo n p:=by
  refine lt_of_bit p h ?_ fun j hj => ?_
  · rw [cand_testBit,if_neg (by omega),if_pos rfl]
  · rw [cand_testBit,if_neg (by omega),if_neg (by omega)]
theorem part_at {n a:Nat} (h:n < a) (ha:a < 2 ^ 64):∃ q,n.testBit q = false∧a.testBit q = true∧∀ j,q < j→n.testBit j = a.testBit j:=by
  have hx:a ^^^ n < 2 ^ 64:=Nat.xor_lt_two_pow ha (by omega)
  have h0:a ^^^ n≠0:=by
    intro e
    have:a = n:=by
      apply Nat.eq_of_testBit_eq
      intro i
      have:=congrArg (fun x => Nat.testBit x i) e
      simp only [Nat.testBit_xor,Nat.zero_testBit] at this
      revert this
      cases a.testBit i <;> cases n.testBit i <;> simp
    omega
  obtain ⟨l,_,_,h3,h4⟩:=Z.bitLen_top _ hx h0
  have hab:∀ j,l < j→n.testBit j = a.testBit j:=fun j hj => by
    have:=h4 j hj
    rw [Nat.testBit_xor] at this
    revert this
    cases a.testBit j <;> cases n.testBit j <;> simp
  rw [Nat.testBit_xor] at h3
  rcases e:n.testBit l with _ | _
  · rw [e] at h3
    exact ⟨l,e,by simpa using h3,hab⟩
  · rw [e] at h3
    have h5:a.testBit l = false:=by simpa using h3
    have:=lt_of_bit l h5 e (fun j hj => (hab j hj).symm)
    omega
theorem cand_has {k lo hi n a q:Nat} (ha:has k lo hi a = true) (hq:n.testBit q = false) (haq:a.testBit q = true) (hab:∀ j,q < j→n.testBit j = a.testBit j):q < k∧has k lo hi (cand lo n q) = true:=by
  obtain ⟨h1,h2,h3⟩:=has_iff.1 ha
  rw [sub_iff] at h2 h3
  have hqk:q < k:=by
    rcases Nat.lt_or_ge q k with c | c
    · exact c
    · rw [testBit_ge h1 c] at haq;simp at haq
  refine ⟨hqk,has_iff.2 ⟨lt_two_pow_of fun i hi => ?_,(sub_iff _ _).2 fun i hi => ?_,(sub_iff _ _).2 fun i hi => ?_⟩⟩
  · rw [cand_testBit,if_neg (by omega),if_neg (by omega),hab i (by omega),testBit_ge h1 hi]
  · rw [cand_testBit]
    by_cases c:i < q
    · rw [if_pos c,hi]
    · rw [if_neg c]
      by_cases e:i = q
      · rw [if_pos e]
      · rw [if_neg e,hab i (by omega)];exact h2 i hi
  · rw [cand_testBit] at hi
    by_cases c:i < q
    · rw [if_pos c] at hi;exact h3 i (h2 i hi)
    · rw [if_neg c] at hi
      by_cases e:i = q
      · subst e;exact h3 _ haq
      · rw [if_neg e,hab i (by omega)] at hi;exact h3 i hi
theorem next_found {k lo hi n p:Nat} (hk:k≤16) (hp:n.testBit p = false) (hh:has k lo hi (cand lo n p) = true) (hno:∀ q,q < p→n.testBit q = false→has k lo hi (cand lo n q) = false):next k lo hi n = some (cand lo n p):=by
  refine next_some hh (cand_gt hp) fun a ha hna => ?_
  have h1:=(has_iff.1 ha).1
  have hpw:2 ^ k≤2 ^ 16:=Nat.pow_le_pow_right (by omega) hk
  obtain ⟨q,e1,e2,e3⟩:=part_at hna (by omega)
  obtain ⟨_,h2⟩:=cand_has ha e1 e2 e3
  have h3:=(sub_iff _ _).1 (has_iff.1 ha).2.1
  rcases Nat.lt_trichotomy q p with c | c | c
  · rw [hno q c e1] at h2;simp at h2
  · subst c
    refine sub_le ((sub_iff _ _).2 fun i hi => ?_)
    rw [cand_testBit] at hi
    by_cases c:i < q
    · rw [if_pos c] at hi;exact h3 i hi
    · rw [if_neg c] at hi
      by_cases e:i = q
      · rw [e];exact e2
      · rw [if_neg e,e3 i (by omega)] at hi;exact hi
  · refine Nat.le_of_lt (lt_of_bit q ?_ e2 fun j hj => ?_)
    · rw [cand_testBit,if_neg (by omega),if_neg (by omega)];exact e1
    · rw [cand_testBit,if_neg (by omega),if_neg (by omega)];exact e3 j hj
theorem next_not {k lo hi n:Nat} (hk:k≤16) (hno:∀ q,q < k→n.testBit q = false→has k lo hi (cand lo n q) = false):next k lo hi n = none:=by
  refine next_none fun a ha hna => ?_
  have h1:=(has_iff.1 ha).1
  have hpw:2 ^ k≤2 ^ 16:=Nat.pow_le_pow_right (by omega) hk
  obtain ⟨q,e1,e2,e3⟩:=part_at hna (by omega)
  obtain ⟨hqk,h2⟩:=cand_has ha e1 e2 e3
  rw [hno q hqk e1] at h2
  simp at h2
theorem or_lt {a b k:Nat} (ha:a < 2 ^ k) (hb:b < 2 ^ k):a ||| b < 2 ^ k:=Nat.or_lt_two_pow ha hb
theorem cand_lt {lo n p:Nat} (hn:n < 9223372036854775808) (hl:lo < 65536) (hp:p < 16):cand lo n p < 9223372036854775808:=by
  have h1:=less_le n (2 ^ p - 1)
  have h2:2 ^ p < 2 ^ 63:=Nat.pow_lt_pow_right (by omega) (by omega)
  have h3:lo &&& (2 ^ p - 1)≤lo:=Nat.and_le_left
  have:cand lo n p < 2 ^ 63:=or_lt (or_lt (by omega) h2) (by omega)
  omega
/-! ### how many -/
/-! ### bits,coordinate by coordinate -/
def num (f:Nat→Bool):Nat→Nat
  | 0 => 0
  | i + 1 => 2 * num f i + (if f i = true then 1 else 0)
theorem num_lt (f:Nat→Bool):∀ k,num f k < 2 ^ k
  | 0 => by simp [num]
  | k + 1 => by
    have:=num_lt f k
    simp only [num]
    rw [Nat.pow_succ]
    split <;> omega
theorem num_testBit (f:Nat→Bool):∀ k i,i < k→(num f k).testBit (k - 1 - i) = f i
  | 0,i,h => absurd h (by omega)
  | k + 1,i,h => by
    simp only [num]
    by_cases e:i = k
    · subst e
      rw [show i + 1 - 1 - i = 0 by omega,Nat.testBit_zero,Nat.mul_add_mod]
      cases f i <;> rfl
    · have ih:=num_testBit f k i (by omega)
      rw [show k + 1 - 1 - i = (k - 1 - i) + 1 by omega,Nat.testBit_succ,← ih]
      congr 1
      split <;> omega
theorem has_all {k a:Nat} {f h:Nat→Bool} (ha:a < 2 ^ k):has k (num f k) (num h k) a = true↔∀ i,i < k→(f i = true→a.testBit (k - 1 - i) = true)∧(a.testBit (k - 1 - i) = true→h i = true):=by
  rw [has_iff,sub_iff,sub_iff]
  constructor
  · rintro ⟨_,h1,h2⟩ i hi
    have e1:=h1 (k - 1 - i)
    have e2:=h2 (k - 1 - i)
    rw [num_testBit f k i hi] at e1
    rw [num_testBit h k i hi] at e2
    exact ⟨e1,e2⟩
  · intro H
    refine ⟨ha,fun j hj => ?_,fun j hj => ?_⟩
    · by_cases c:j < k
      · have e:=H (k - 1 - j) (by omega)
        have n1:=num_testBit f k (k - 1 - j) (by omega)
        rw [show k - 1 - (k - 1 - j) = j by omega] at e n1
        exact e.1 (by rw [← n1];exact hj)
      · rw [testBit_ge (num_lt f k) (by omega)] at hj;simp at hj
    · by_cases c:j < k
      · have e:=H (k - 1 - j) (by omega)
        have n1:=num_testBit h k (k - 1 - j) (by omega)
        rw [show k - 1 - (k - 1 - j) = j by omega] at e n1
        rw [n1]
        exact e.2 hj
      · rw [testBit_ge ha (by omega)] at hj;simp at hj
theorem or_add {i a b:Nat} (hb:b < 2 ^ i):a * 2 ^ i ||| b = a * 2 ^ i + b:=by
  rw [Nat.mul_comm]
  exact (Nat.two_pow_add_eq_or_of_lt hb a).symm
theorem num_or {f:Nat→Bool} {i k:Nat} (h:i < k) (hf:f i = true):num f i * 2 ^ (k - i) ||| 2 ^ (k - 1 - i) = num f (i + 1) * 2 ^ (k - (i + 1)):=by
  have hp:=Nat.two_pow_pos (k - (i + 1))
  rw [show k - i = k - (i + 1) + 1 by omega,show k - 1 - i = k - (i + 1) by omega,or_add (by rw [Nat.pow_succ];omega),Nat.pow_succ]
  simp only [num,hf,if_true]
  rw [Nat.mul_comm _ 2,← Nat.mul_assoc,Nat.mul_comm _ 2,Nat.add_mul,Nat.one_mul]
theorem num_same {f:Nat→Bool} {i k:Nat} (h:i < k) (hf:f i = false):num f i * 2 ^ (k - i) = num f (i + 1) * 2 ^ (k - (i + 1)):=by
  rw [show k - i = k - (i + 1) + 1 by omega,Nat.pow_succ]
  simp only [num,hf]
  rw [Nat.mul_comm _ 2,← Nat.mul_assoc,Nat.mul_comm _ 2]
  simp
theorem num_shift_lt (f:Nat→Bool) {i k:Nat} (h:i≤k):num f i * 2 ^ (k - i) < 2 ^ k:=by
  have h1:=num_lt f i
  have e:2 ^ k = 2 ^ i * 2 ^ (k - i):=by rw [← Nat.pow_add,show i + (k - i) = k by omega]
  rw [e]
  exact Nat.mul_lt_mul_of_pos_right h1 (Nat.two_pow_pos _)
/-! ### which halves are left -/
def halfAt (c l h:Nat):Nat:=cutN c (l + 1) + h * 2 ^ l
def leaves (c l h lo hi:Nat):Bool:=decide (lo≤hi) && (decide (halfAt c l h≤hi) && decide (lo≤halfAt c l h + (2 ^ l - 1)))
theorem leaves_max (c l h lo hi:Nat):leaves c l h lo hi = decide (max (halfAt c l h) lo≤min (halfAt c l h + (2 ^ l - 1)) hi):=by
  rw [Bool.eq_iff_iff]
  simp only [leaves,Bool.and_eq_true,decide_eq_true_eq]
  omega
def lowF (p:List Nat) (l:Nat) (lo hi:List Nat) (i:Nat):Bool:=!leaves (g p i) l 0 (g lo i) (g hi i)
def highF (p:List Nat) (l:Nat) (lo hi:List Nat) (i:Nat):Bool:=leaves (g p i) l 1 (g lo i) (g hi i)
def lowM (p:List Nat) (l:Nat) (lo hi:List Nat):Nat:=num (lowF p l lo hi) p.length
def highM (p:List Nat) (l:Nat) (lo hi:List Nat):Nat:=num (highF p l lo hi) p.length
theorem lowM_lt (p:List Nat) (l:Nat) (lo hi:List Nat):lowM p l lo hi < 2 ^ p.length:=num_lt _ _
theorem highM_lt (p:List Nat) (l:Nat) (lo hi:List Nat):highM p l lo hi < 2 ^ p.length:=num_lt _ _
def touch (cl ch lo hi:List Nat):Nat→Bool
  | 0 => true
  | k + 1 => touch cl ch lo hi k && (decide (g cl k≤g hi k) && decide (g lo k≤g ch k))
theorem touch_true {cl ch lo hi:List Nat} {k:Nat}:touch cl ch lo hi k = true↔∀ i,i < k→g cl i≤g hi i∧g lo i≤g ch i:=by
  induction k with
  | zero => simp [touch]
  | succ k ih =>
    simp only [touch,Bool.and_eq_true,ih,decide_eq_true_eq]
    constructor
    · rintro ⟨h1,h2⟩ i hi
      rcases Nat.lt_succ_iff_lt_or_eq.1 hi with c | rfl
      · exact h1 i c
      · exact h2
    · exact fun h => ⟨fun i hi => h i (by omega),h k (by omega)⟩
theorem g_place {p:List Nat} {l a i:Nat} (hi:i < p.length):g (place p l a) i = halfAt (g p i) l (Z.bit a (p.length - 1 - i)):=by
  have h':i < (place p l a).length:=by rw [place_length];exact hi
  rw [g_of (List.getElem?_eq_getElem h'),place_get p l a i h' hi]
  unfold halfAt
  rw [g_of (List.getElem?_eq_getElem hi)]
theorem half_cut (c l b:Nat):cutN (halfAt c l b) l = halfAt c l b:=by
  unfold halfAt cutN
  rw [Nat.pow_succ,Nat.mul_comm (2 ^ l) 2,← Nat.mul_assoc,← Nat.add_mul,Nat.mul_div_cancel _ (Nat.two_pow_pos l)]
theorem mask_touch {p lo hi:List Nat} {l a:Nat} (ha:a < 2 ^ p.length) (he:emp lo hi p.length = false) :
    has p.length (lowM p l lo hi) (highM p l lo hi) a = touch (cut (place p l a) l) (cellHi (place p l a) l) lo hi p.length:=by
  have hle:=emp_false.1 he
  rw [Bool.eq_iff_iff,touch_true]
  unfold lowM highM
  rw [has_all ha]
  have key:∀ i,i < p.length→(((lowF p l lo hi i = true→a.testBit (p.length - 1 - i) = true)∧(a.testBit (p.length - 1 - i) = true→highF p l lo hi i = true)) ↔
      (g (cut (place p l a) l) i≤g hi i∧g lo i≤g (cellHi (place p l a) l) i)):=by
    intro i hi'
    have e1:g (cut (place p l a) l) i = halfAt (g p i) l (Z.bit a (p.length - 1 - i)):=by
      rw [g_cut l (by rw [place_length];exact hi'),g_place hi',half_cut]
    have e2:g (cellHi (place p l a) l) i = halfAt (g p i) l (Z.bit a (p.length - 1 - i)) + (2 ^ l - 1):=by
      unfold cellHi
      rw [g_tab _ (by rw [place_length];exact hi'),g_place hi',half_cut]
    rw [e1,e2]
    have h1:=hle i hi'
    have hb:=bit_testBit a (p.length - 1 - i)
    rcases e:a.testBit (p.length - 1 - i) with _ | _
    · rw [e] at hb
      have hb0:Z.bit a (p.length - 1 - i) = 0:=by rw [hb];rfl
      rw [hb0]
      simp [lowF,leaves,h1]
    · rw [e] at hb
      have hb1:Z.bit a (p.length - 1 - i) = 1:=by rw [hb];rfl
      rw [hb1]
      simp [highF,leaves,h1]
  exact ⟨fun h i hi => (key i hi).1 (h i hi),fun h i hi => (key i hi).2 (h i hi)⟩
def whole (p:List Nat) (K:Nat) (lo hi:List Nat):Nat→Bool
  | 0 => true
  | k + 1 => whole p K lo hi k && (decide (g lo k≤cutN (g p k) K) && decide (cutN (g p k) K + (2 ^ K - 1)≤g hi k))
theorem whole_true {p lo hi:List Nat} {K k:Nat}:whole p K lo hi k = true↔∀ i,i < k→g lo i≤cutN (g p i) K∧cutN (g p i) K + (2 ^ K - 1)≤g hi i:=by
  induction k with
  | zero => simp [whole]
  | succ k ih =>
    simp only [whole,Bool.and_eq_true,ih,decide_eq_true_eq]
    constructor
    · rintro ⟨h1,h2⟩ i hi
      rcases Nat.lt_succ_iff_lt_or_eq.1 hi with c | rfl
      · exact h1 i c
      · exact h2
    · exact fun h => ⟨fun i hi => h i (by omega),h k (by omega)⟩
theorem whole_at {p lo hi:List Nat} {K j k:Nat} (h:whole p K lo hi j = false) (hk:j≤k):whole p K lo hi k = false:=by
  rcases e:whole p K lo hi k with _ | _
  · rfl
  · rw [whole_true.2 (fun i hi => whole_true.1 e i (by omega))] at h
    simp at h
/-! ### operations on whole numbers -/
theorem less_cut (c k:Nat):less c (2 ^ k - 1) = cutN c k:=by
  apply Nat.eq_of_testBit_eq
  intro i
  rw [less_testBit,testBit_low,cutN_testBit]
  by_cases h:i < k
  · simp [h,show ¬ k≤i by omega]
  · simp [h,show k≤i by omega]
theorem or_low (c k:Nat):c ||| (2 ^ k - 1) = cutN c k + (2 ^ k - 1):=by
  have hp:=Nat.two_pow_pos k
  have e:c ||| (2 ^ k - 1) = cutN c k ||| (2 ^ k - 1):=by
    apply Nat.eq_of_testBit_eq
    intro i
    rw [Nat.testBit_or,Nat.testBit_or,testBit_low,cutN_testBit]
    by_cases h:i < k
    · simp [h]
    · simp [h,show k≤i by omega]
  rw [e]
  exact or_add (by omega)
theorem pow_or (l:Nat):2 ^ l ||| (2 ^ l - 1) = 2 ^ (l + 1) - 1:=by
  have hp:=Nat.two_pow_pos l
  have:=or_add (i:=l) (a:=1) (b:=2 ^ l - 1) (by omega)
  rw [Nat.one_mul] at this
  rw [this,Nat.pow_succ]
  omega
theorem cut_or (c l:Nat):cutN c (l + 1) ||| 2 ^ l = cutN c (l + 1) + 2 ^ l:=by
  refine or_add ?_
  have hp:=Nat.two_pow_pos l
  rw [Nat.pow_succ]
  omega
theorem half_or (c l h:Nat):halfAt c l h ||| (2 ^ l - 1) = halfAt c l h + (2 ^ l - 1):=by
  have e:halfAt c l h = (halfAt c l h / 2 ^ l) * 2 ^ l:=(half_cut c l h).symm
  rw [e]
  have hp:=Nat.two_pow_pos l
  exact or_add (by omega)
theorem half_zero (c l:Nat):halfAt c l 0 = cutN c (l + 1):=by simp [halfAt]
theorem half_one (c l:Nat):halfAt c l 1 = cutN c (l + 1) + 2 ^ l:=by simp [halfAt]
theorem half_lt {c l h:Nat} (hc:c < 18446744073709551616) (hl:l < 64) (hh:h < 2):halfAt c l h + (2 ^ l - 1) < 18446744073709551616:=by
  have h1:=placeN_lt c l h hc hl hh
  have h2:cutN (halfAt c l h) l + (2 ^ l - 1) < 18446744073709551616:=cell_lt h1 (by omega)
  rwa [half_cut] at h2
theorem toNat_u {a:Nat} (ha:a < 18446744073709551616):(BitVec.ofInt 64 (a:Int)).toNat = a:=by
  rw [BitVec.ofInt_natCast,BitVec.toNat_ofNat];exact Nat.mod_eq_of_lt (by omega)
theorem toNat_andNot (x y:BitVec 64):(x &&& ~~~y).toNat = less x.toNat y.toNat:=by
  apply Nat.eq_of_testBit_eq
  intro i
  rw [less_testBit,BitVec.testBit_toNat,BitVec.testBit_toNat,BitVec.testBit_toNat,BitVec.getLsbD_and,BitVec.getLsbD_not]
  by_cases h:i < 64
  · simp [h]
  · have e:x.getLsbD i = false:=BitVec.getLsbD_of_ge x i (by omega)
    simp [e]
theorem andNot_u64 (a b:Nat) (ha:a < 18446744073709551616) (hb:b < 18446744073709551616):bits .andNot .u64 (a:Int) (b:Int) = ((less a b:Nat):Int):=by
  show IntKind.u64.wrap ((BitVec.ofInt 64 (a:Int) &&& ~~~BitVec.ofInt 64 (b:Int)).toNat:Int) = _
  rw [toNat_andNot,toNat_u ha,toNat_u hb,IntKind.wrap_u64]
  have:=less_le a b
  omega
theorem andNot_i64 (a b:Nat) (ha:a < 9223372036854775808) (hb:b < 9223372036854775808):bits .andNot .i64 (a:Int) (b:Int) = ((less a b:Nat):Int):=by
  show IntKind.i64.wrap ((BitVec.ofInt 64 (a:Int) &&& ~~~BitVec.ofInt 64 (b:Int)).toNat:Int) = _
  rw [toNat_andNot,toNat_u (by omega),toNat_u (by omega),IntKind.wrap_i64]
  have:=less_le a b
  omega
theorem and_i64 (a b:Nat) (ha:a < 9223372036854775808) (hb:b < 9223372036854775808):bits .and .i64 (a:Int) (b:Int) = ((a &&& b:Nat):Int):=by
  show IntKind.i64.wrap ((BitVec.ofInt 64 (a:Int) &&& BitVec.ofInt 64 (b:Int)).toNat:Int) = _
  rw [BitVec.toNat_and,toNat_u (by omega),toNat_u (by omega),IntKind.wrap_i64]
  have:a &&& b≤a:=Nat.and_le_left
  omega
def un (x:Int):Nat:=(BitVec.ofInt 64 x).toNat
theorem un_eq (x:Int):un x = (x % 18446744073709551616).toNat:=by
  unfold un
  rw [BitVec.toNat_ofInt]
  rfl
theorem un_small {x:Int} {k:Nat} (h1:-9223372036854775808≤x) (h2:x≤9223372036854775807) (hk:k≤9223372036854775808):un x < k↔0≤x∧x < (k:Int):=by
  rw [un_eq];omega
theorem un_nat {a:Nat} (ha:a < 18446744073709551616):un (a:Int) = a:=toNat_u ha
theorem wrap_zero {n:Nat} (h:n < 18446744073709551616):IntKind.i64.wrap (n:Int) = 0↔n = 0:=by
  rw [IntKind.wrap_i64];omega
theorem andNot_zero (x y:Int):bits .andNot .i64 x y = 0↔un x &&& un y = un x:=by
  show IntKind.i64.wrap ((BitVec.ofInt 64 x &&& ~~~BitVec.ofInt 64 y).toNat:Int) = 0↔_
  rw [wrap_zero (BitVec.isLt _),toNat_andNot]
  exact less_zero _ _
theorem un_wrap (n:Nat) (h:n < 18446744073709551616):un (IntKind.i64.wrap (n:Int)) = n:=by
  rw [un_eq,IntKind.wrap_i64];omega
theorem un_or (x y:Int):un (bits .or .i64 x y) = un x ||| un y:=by
  show un (IntKind.i64.wrap ((BitVec.ofInt 64 x ||| BitVec.ofInt 64 y).toNat:Int)) = _
  rw [un_wrap _ (BitVec.isLt _),BitVec.toNat_or]
  rfl
theorem sub_low {n k:Nat}:n &&& (2 ^ k - 1) = n↔n < 2 ^ k:=by
  have hp:=Nat.two_pow_pos k
  constructor
  · intro h;have:=sub_le h;omega
  · intro h
    rw [sub_iff]
    intro i hi
    rw [testBit_low,decide_eq_true_eq]
    rcases Nat.lt_or_ge i k with c | c
    · exact c
    · rw [testBit_ge h c] at hi;simp at hi
theorem or_lt_iff {a b k:Nat}:a ||| b < 2 ^ k↔a < 2 ^ k∧b < 2 ^ k:=by
  constructor
  · intro h
    refine ⟨lt_two_pow_of fun i hi => ?_,lt_two_pow_of fun i hi => ?_⟩
    · have:=testBit_ge h hi
      rw [Nat.testBit_or,Bool.or_eq_false_iff] at this
      exact this.1
    · have:=testBit_ge h hi
      rw [Nat.testBit_or,Bool.or_eq_false_iff] at this
      exact this.2
  · exact fun h => or_lt h.1 h.2
theorem right_bits {x y:Int} {k:Nat} (hk:k≤16) (h1:-9223372036854775808≤x) (h2:x≤9223372036854775807) (h3:-9223372036854775808≤y) (h4:y≤9223372036854775807) :
    bits .andNot .i64 (bits .or .i64 x y) ((2 ^ k - 1:Nat):Int) = 0↔(0≤x∧x < ((2 ^ k:Nat):Int))∧(0≤y∧y < ((2 ^ k:Nat):Int)):=by
  have hp:2 ^ k≤2 ^ 16:=Nat.pow_le_pow_right (by omega) hk
  rw [andNot_zero,un_nat (a:=2 ^ k - 1) (by omega),un_or,sub_low,or_lt_iff,un_small h1 h2 (by omega),un_small h3 h4 (by omega)]
def hasI (k lo hi:Nat) (a:Int):Bool:=decide (0≤a) && has k lo hi a.toNat
theorem hasI_nat (k lo hi a:Nat):hasI k lo hi (a:Int) = has k lo hi a:=by simp [hasI]
theorem has_bits {k lo hi:Nat} {a:Int} (hk:k≤16) (hl:lo < 2 ^ k) (hh:hi < 2 ^ k) (h1:-9223372036854775808≤a) (h2:a≤9223372036854775807) :
    (decide (bits .andNot .i64 (lo:Int) a = 0) && decide (bits .andNot .i64 a (hi:Int) = 0)) = hasI k lo hi a:=by
  have hp:2 ^ k≤2 ^ 16:=Nat.pow_le_pow_right (by omega) hk
  rw [Bool.eq_iff_iff,Bool.and_eq_true,decide_eq_true_eq,decide_eq_true_eq,andNot_zero,andNot_zero,un_nat (by omega),un_nat (by omega)]
  simp only [hasI,Bool.and_eq_true,decide_eq_true_eq,has_iff]
  constructor
  · rintro ⟨e1,e2⟩
    have hle:=sub_le e2
    obtain ⟨h0,hlt⟩:=(un_small h1 h2 (k:=2 ^ k) (by omega)).1 (by omega)
    have:un a = a.toNat:=by rw [un_eq];omega
    rw [this] at e1 e2
    exact ⟨h0,by omega,e1,e2⟩
  · rintro ⟨h0,h3,e1,e2⟩
    have:un a = a.toNat:=by rw [un_eq];omega
    rw [this]
    exact ⟨e1,e2⟩
end Go.Proofs.YtkeepngaaleakaaGreatDoor.Mk
