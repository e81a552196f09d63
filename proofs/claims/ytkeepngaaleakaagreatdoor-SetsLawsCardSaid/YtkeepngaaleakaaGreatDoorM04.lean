import Derived.BigQuiet
import Derived.Lib.Mul64
import Derived.Deep.Cut
import Derived.Deep.RegionHeld
import Derived.Shelf.Abstract
import Derived.BigRegion
import Derived.Test.YtkeepngaaleakaaGreatDoorM01
import Derived.Test.YtkeepngaaleakaaGreatDoorMLen
namespace Go.Proofs.YtkeepngaaleakaaGreatDoor
open Go.ChangeShapes Go.WideShapes Go.ChangeAt Go.RowKit
theorem and_one (x:Nat) (hx:x < 18446744073709551616):bits .and .u64 (x:Int) 1 = ((x % 2:Nat):Int):=by
  have h:=bits_and_u64_nat x 1 hx (by omega)
  rw [Nat.and_one_is_mod] at h
  exact h
theorem or_i64 (a b:Nat) (ha:a < 9223372036854775808) (hb:b < 9223372036854775808):bits .or .i64 (a:Int) (b:Int) = ((a ||| b:Nat):Int):=by
  have hx:a ||| b < 2 ^ 63:=Nat.or_lt_two_pow (by omega) (by omega)
  have h1:(BitVec.ofInt 64 (a:Int)).toNat = a:=by
    rw [BitVec.ofInt_natCast,BitVec.toNat_ofNat];exact Nat.mod_eq_of_lt (by omega)
  have h2:(BitVec.ofInt 64 (b:Int)).toNat = b:=by
    rw [BitVec.ofInt_natCast,BitVec.toNat_ofNat];exact Nat.mod_eq_of_lt (by omega)
  show IntKind.i64.wrap ((BitVec.ofInt 64 (a:Int) ||| BitVec.ofInt 64 (b:Int)).toNat:Int) = _
  rw [BitVec.toNat_or,h1,h2,IntKind.wrap_i64]
  omega
theorem shr_cast (u l:Nat):(u:Int) / 2 ^ l = ((u / 2 ^ l:Nat):Int):=by simp
theorem bit_and (u l:Nat) (hu:u < 18446744073709551616):bits .and .u64 ((u:Int) / 2 ^ l) 1 = (Z.bit u l:Int):=by
  rw [shr_cast,and_one _ (Nat.lt_of_le_of_lt (Nat.div_le_self _ _) hu)];rfl
theorem addr_step (a u l:Nat) (ha:a < 65536) (hu:u < 18446744073709551616) :
    bits .or .i64 ((a:Int) * 2) (wrap64 (bits .and .u64 ((u:Int) / 2 ^ l) 1)) = ((2 * a + Z.bit u l:Nat):Int):=by
  have hb:=Z.bit_lt u l
  rw [bit_and u l hu,IntWalk.wrap64_in _ (by omega),show (a:Int) * 2 = ((2 * a:Nat):Int) by omega,or_i64 _ _ (by omega) (by omega)]
  congr 1
  have e:2 * a ||| Z.bit u l = 2 * a + Z.bit u l:=by
    have:=Nat.two_pow_add_eq_or_of_lt (i:=1) (b:=Z.bit u l) (by simpa using hb) a
    simpa using this.symm
  exact e
theorem right_c (A:Option Addr) (n c:Nat) (w:World) (hn:n≤maxLen) :
    Calls Tryz.prog 150 #[.slice A n c] w fun e w' => e = .returned (.bool (decide (1≤n∧n≤16)))∧w = w':=by
  unfold maxLen at hn
  go_enter Tryz.func150,Tryz.ntmps150
  go_wp2
  all_goals go_ret
  all_goals refine ⟨ret_bool ?_,rfl⟩
  all_goals rw [Bool.eq_iff_iff]
  all_goals simp
  all_goals omega
theorem right_yes (A:Option Addr) (n c:Nat) (w:World) (h1:1≤n) (h16:n≤16) :
    Calls Tryz.prog 150 #[.slice A n c] w fun e w' => e = .returned (.bool true)∧w = w' :=
  (right_c A n c w (by unfold maxLen;omega)).mono fun _ _ ⟨he,hw⟩ => ⟨by rw [he,decide_eq_true ⟨h1,h16⟩],hw⟩
theorem right_no (A:Option Addr) (n c:Nat) (w:World) (hn:n≤maxLen) (h:¬ (1≤n∧n≤16)) :
    Calls Tryz.prog 150 #[.slice A n c] w fun e w' => e = .returned (.bool false)∧w = w' :=
  (right_c A n c w hn).mono fun _ _ ⟨he,hw⟩ => ⟨by rw [he,decide_eq_false h],hw⟩
theorem isLevel_c (l:Int) (w:World) :
    Calls Tryz.prog 206 #[.int .i64 l] w fun e w' => e = .returned (.bool (decide (0≤l∧l≤63)))∧w = w':=by
  go_enter Tryz.func206,Tryz.ntmps206
  go_wp2
  all_goals go_ret
  all_goals refine ⟨ret_bool ?_,rfl⟩
  all_goals simp
  all_goals omega
theorem isLevel_yes (l:Int) (w:World) (h0:0≤l) (h1:l≤63) :
    Calls Tryz.prog 206 #[.int .i64 l] w fun e w' => e = .returned (.bool true)∧w = w' :=
  (isLevel_c l w).mono fun _ _ ⟨he,hw⟩ => ⟨by rw [he,decide_eq_true ⟨h0,h1⟩],hw⟩
theorem isLevel_no (l:Int) (w:World) (h:¬ (0≤l∧l≤63)) :
    Calls Tryz.prog 206 #[.int .i64 l] w fun e w' => e = .returned (.bool false)∧w = w' :=
  (isLevel_c l w).mono fun _ _ ⟨he,hw⟩ => ⟨by rw [he,decide_eq_false h],hw⟩
theorem addrAt_c (A:Option Addr) (c:Nat) (us:List Nat) (l B:Nat) (w:World) (hp:Pts w B A us) (h1:1≤us.length) (h16:us.length≤16) (hl:l≤63) :
    Calls Tryz.prog 215 #[.slice A us.length c,.int .i64 (l:Int)] w fun e w' => e = .returned (.int .i64 (Z.addr us l:Int))∧w = w':=by
  obtain ⟨b,off,rfl,hb,hc⟩:=hp.open_ (by intro h;simp [h] at h1)
  have hok:=hp.ok
  clear hp
  go_enter Tryz.func215,Tryz.ntmps215
  go_wp2
  go_loop [5,7,10] (fun a _ i => ∃ k:Nat,k≤us.length∧i = .int .i64 k∧a = .int .i64 (Z.addr (us.take k) l:Int)) (fun _ _ i => us.length - (intOf i).toNat)
  case atStart => exact ⟨0,Nat.zero_le _,rfl,rfl⟩
  case round =>
    obtain ⟨k,hk,rfl,rfl⟩:=hrel
    have hbd:=Z.addr_le (us.take k) l 16 (by simp;omega)
    by_cases hlt:k < us.length
    · obtain ⟨u,hu⟩:=get_lt hlt
      have hcell:=hc k u hu
      have hu64:=hok u (List.mem_of_getElem? hu)
      have hst:Hid (bits .or .i64 ((Z.addr (us.take k) l:Int) * 2) (wrap64 (bits .and .u64 ((u:Int) / 2 ^ l) 1)) = (Z.addr (us.take (k + 1)) l:Int)):=by
        show _ = _
        rw [addr_step _ _ _ (by omega) hu64,Z.addr_take us l k hlt]
        rw [(List.getElem?_eq_some_iff.1 hu).2]
      clear hc hu hok
      go_wp2
      go_round
      case rel => exact ⟨k + 1,by omega,by go_num,by rw [hst.out]⟩
      case measure => simp [intOf];omega
    · go_wp2
      go_ret
      exact ⟨ret_int (by rw [List.take_of_length_le (by omega)]),rfl⟩
theorem xor_step (x u v:Nat) (hx:x < 18446744073709551616) (hu:u < 18446744073709551616) (hv:v < 18446744073709551616) :
    bits .or .u64 (x:Int) (bits .xor .u64 (u:Int) (v:Int)) = ((x ||| (u ^^^ v):Nat):Int):=by
  rw [bits_xor_u64_nat u v hu hv]
  have h:u ^^^ v < 2 ^ 64:=Nat.xor_lt_two_pow (by omega) (by omega)
  exact bits_or_u64_nat x _ hx (by omega)
theorem partLevel_c (A A':Option Addr) (c c':Nat) (us vs:List Nat) (B:Nat) (w:World) (hp:Pts w B A us) (hq:Pts w B A' vs) (h1:1≤us.length) (h16:us.length≤16) (hlen:us.length = vs.length) :
    Calls Tryz.prog 205 #[.slice A us.length c,.slice A' vs.length c'] w fun e w' => e = .returned (.int .i64 (Z.part us vs))∧w = w':=by
  obtain ⟨b,off,rfl,hb,hc⟩:=hp.open_ (by intro h;simp [h] at h1)
  obtain ⟨b',off',rfl,hb',hc'⟩:=hq.open_ (by rintro rfl;simp at hlen;simp [hlen] at h1)
  have hok:=hp.ok
  have hok':=hq.ok
  have h2:vs.length≤16:=by omega
  have Hlen:=Lib.hid hlen
  clear hp hq hlen
  go_enter Tryz.func205,Tryz.ntmps205
  go_wp2
  go_loop [5,6,7,10] (fun a _ _ i => ∃ k:Nat,k≤us.length∧i = .int .i64 k∧a = .int .u64 (Z.orx (us.take k) (vs.take k):Int)) (fun _ _ _ i => us.length - (intOf i).toNat)
  case atStart => exact ⟨0,Nat.zero_le _,rfl,rfl⟩
  case round =>
    obtain ⟨k,hk,rfl,rfl⟩:=hrel
    by_cases hlt:k < us.length
    · have hlt':k < vs.length:=by have:=Hlen.out;omega
      obtain ⟨u,hu⟩:=get_lt hlt
      obtain ⟨v,hv⟩:=get_lt hlt'
      have hcell:=hc k u hu
      have hcell':=hc' k v hv
      have hst:Hid (bits .or .u64 (Z.orx (us.take k) (vs.take k):Int) (bits .xor .u64 (u:Int) (v:Int)) = (Z.orx (us.take (k + 1)) (vs.take (k + 1)):Int)):=by
        show _ = _
        have hb1:Z.orx (us.take k) (vs.take k) < 18446744073709551616:=Z.orx_lt (fun x hx => hok x (List.mem_of_mem_take hx)) (fun x hx => hok' x (List.mem_of_mem_take hx))
        rw [xor_step _ _ _ hb1 (hok u (List.mem_of_getElem? hu)) (hok' v (List.mem_of_getElem? hv)),Z.orx_take us vs Hlen.out k hlt hlt',(List.getElem?_eq_some_iff.1 hu).2,(List.getElem?_eq_some_iff.1 hv).2]
      clear hc hu hok hc' hv hok'
      go_wp2
      go_round
      case rel => exact ⟨k + 1,by omega,by go_num,by rw [hst.out]⟩
      case measure => simp [intOf];omega
    · have hx:=Z.orx_lt hok hok'
      have he:Z.orx (us.take k) (vs.take k) = Z.orx us vs:=by
        rw [List.take_of_length_le (by omega),List.take_of_length_le (by have:=Hlen.out;omega)]
      have hpt:Z.part us vs = (Lib.bitLen (Z.orx us vs):Int) - 1:=rfl
      have hbl:=Lib.bitLen_le (Z.orx us vs) 64 (by omega) (by omega)
      rw [← he] at hpt hbl hx
      generalize Z.orx (us.take k) (vs.take k) = X at *
      clear he hc hok hc' hok'
      have Hpt:=Lib.hid hpt
      clear hpt
      go_wp2_with (go_at_call 246;refine (len64_c _ _ (by omega) (by omega)).mono ?_;rintro e w' ⟨rfl,rfl⟩)
      go_ret
      exact ⟨ret_int (by rw [Hpt.out]),rfl⟩
theorem alike_c (A A':Option Addr) (n c n' c':Nat) (w:World) (hn:n≤maxLen) (_hn':n'≤maxLen) :
    Calls Tryz.prog 204 #[.slice A n c,.slice A' n' c'] w fun e w' => e = .returned (.bool (decide ((1≤n∧n≤16)∧n = n')))∧w = w':=by
  by_cases h:1≤n∧n≤16
  · obtain ⟨h1,h2⟩:=h
    unfold maxLen at hn
    go_enter Tryz.func204,Tryz.ntmps204
    go_wp2_with (go_at_call 150;refine (right_yes _ _ _ _ h1 h2).mono ?_;rintro e w' ⟨rfl,rfl⟩)
    all_goals go_ret
    all_goals refine ⟨ret_bool ?_,rfl⟩
    all_goals rw [Bool.eq_iff_iff]
    all_goals simp
    all_goals omega
  · have Hn:=Lib.hid hn
    have H:=Lib.hid h
    clear h
    unfold maxLen at hn
    go_enter Tryz.func204,Tryz.ntmps204
    go_wp2_with (go_at_call 150;refine (right_no _ _ _ _ Hn.out H.out).mono ?_;rintro e w' ⟨rfl,rfl⟩)
    all_goals go_ret
    all_goals refine ⟨ret_bool ?_,rfl⟩
    have:=H.out
    rw [Bool.eq_iff_iff]
    simp
    omega
theorem alike_yes (A A':Option Addr) (n c n' c':Nat) (w:World) (h1:1≤n) (h16:n≤16) (h:n = n') :
    Calls Tryz.prog 204 #[.slice A n c,.slice A' n' c'] w fun e w' => e = .returned (.bool true)∧w = w' :=
  (alike_c A A' n c n' c' w (by unfold maxLen;omega) (by unfold maxLen;omega)).mono fun _ _ ⟨he,hw⟩ => ⟨by rw [he,decide_eq_true ⟨⟨h1,h16⟩,h⟩],hw⟩
theorem part_yes (A A':Option Addr) (c c':Nat) (us vs:List Nat) (B:Nat) (w:World) (hp:Pts w B A us) (hq:Pts w B A' vs) (h1:1≤us.length) (h16:us.length≤16) (hlen:us.length = vs.length) :
    Calls Tryz.prog 152 #[.slice A us.length c,.slice A' vs.length c'] w fun e w' => e = .returned (.tuple #[.int .i64 (Z.part us vs),.int .i64 0])∧w = w':=by
  have H:=Lib.hid hlen
  clear hlen
  go_enter Tryz.func152,Tryz.ntmps152
  go_wp2_with (first | (go_at_call 204;refine (alike_yes _ _ _ _ _ _ _ h1 h16 H.out).mono ?_;rintro e w' ⟨rfl,rfl⟩) | (go_at_call 205;refine (partLevel_c _ _ _ _ us vs B _ hp hq h1 h16 H.out).mono ?_;rintro e w' ⟨rfl,rfl⟩))
  go_ret2
  exact ⟨rfl,rfl⟩
/-! ### Addr -/
theorem addr_arg (A:Option Addr) (n c:Nat) (l:Int) (w:World) (h1:1≤n) (h16:n≤16) (h:¬ (0≤l∧l≤63)) :
    Calls Tryz.prog 160 #[.slice A n c,.int .i64 l] w fun e w' => e = .returned (.tuple #[.int .i64 0,.int .i64 3])∧w = w':=by
  have H:=Lib.hid h
  clear h
  go_enter Tryz.func160,Tryz.ntmps160
  go_wp2_with (first | (go_at_call 150;refine (right_yes _ _ _ _ h1 h16).mono ?_;rintro e w' ⟨rfl,rfl⟩) | (go_at_call 206;refine (isLevel_no _ _ H.out).mono ?_;rintro e w' ⟨rfl,rfl⟩))
  go_ret2
  exact ⟨rfl,rfl⟩
theorem addr_yes (A:Option Addr) (c:Nat) (us:List Nat) (l B:Nat) (w:World) (hp:Pts w B A us) (h1:1≤us.length) (h16:us.length≤16) (hl:l≤63) :
    Calls Tryz.prog 160 #[.slice A us.length c,.int .i64 (l:Int)] w fun e w' => e = .returned (.tuple #[.int .i64 (Z.addr us l:Int),.int .i64 0])∧w = w':=by
  go_enter Tryz.func160,Tryz.ntmps160
  go_wp2_with (first | (go_at_call 150;refine (right_yes _ _ _ _ h1 h16).mono ?_;rintro e w' ⟨rfl,rfl⟩) | (go_at_call 206;refine (isLevel_yes _ _ (by omega) (by omega)).mono ?_;rintro e w' ⟨rfl,rfl⟩) | (go_at_call 215;refine (addrAt_c _ _ us l B _ hp h1 h16 hl).mono ?_;rintro e w' ⟨rfl,rfl⟩))
  go_ret2
  exact ⟨rfl,rfl⟩
/-! ### Cut -/
theorem keep_nat (k:Nat) (hk:k≤64):IntKind.u64.wrap (18446744073709551615 * 2 ^ k) = ((18446744073709551616 - 2 ^ k:Nat):Int):=by
  have hp:2 ^ k≤2 ^ 64:=Nat.pow_le_pow_right (by omega) hk
  have e:(18446744073709551615:Int) * 2 ^ k = ((18446744073709551615 * 2 ^ k:Nat):Int):=by simp
  rw [e,IntKind.wrap_u64]
  have h1:0 < 2 ^ k:=Nat.two_pow_pos k
  generalize 2 ^ k = p at *
  omega
theorem cut_and (u k:Nat) (hu:u < 18446744073709551616) (hk:k≤64):u &&& (18446744073709551616 - 2 ^ k) = Z.cutN u k:=by
  apply Nat.eq_of_testBit_eq
  intro m
  rw [Z.cutN_testBit,Nat.testBit_and,show (18446744073709551616:Nat) = 2 ^ 64 from rfl]
  by_cases hm:m < 64
  · have e:2 ^ 64 - 2 ^ k = 2 ^ 64 - (2 ^ k - 1 + 1):=by have:=Nat.two_pow_pos k;omega
    rw [e,Nat.testBit_two_pow_sub_succ (by have:=Nat.two_pow_pos k;have:=Nat.pow_le_pow_right (n:=2) (by omega) hk;omega),Nat.testBit_two_pow_sub_one]
    by_cases h:k≤m
    · simp [hm,h,show ¬ m < k by omega]
    · simp [h,show m < k by omega]
  · have:u.testBit m = false:=Nat.testBit_lt_two_pow (Nat.lt_of_lt_of_le hu (by have:=Nat.pow_le_pow_right (n:=2) (by omega) (show 64≤m by omega);omega))
    simp [this]
theorem cut_bits (u k:Nat) (hu:u < 18446744073709551616) (hk:k≤64):bits .and .u64 (u:Int) (IntKind.u64.wrap (18446744073709551615 * 2 ^ k)) = (Z.cutN u k:Int):=by
  rw [keep_nat k hk,bits_and_u64_nat u _ hu (by have:=Nat.two_pow_pos k;omega),cut_and u k hu hk]
theorem cutAt_c (A:Option Addr) (c:Nat) (us:List Nat) (k B:Nat) (w:World) (hp:Pts w B A us) (hB:B≤w.heap.size) (h1:1≤us.length) (h16:us.length≤16) (hk:k≤64) :
    Calls Tryz.prog 207 #[.slice A us.length c,.int .i64 ((k:Int) - 1)] w fun e w' => ∃ v,e = .returned v∧Own w' w.heap.size v (Z.cut us k)∧Below w.heap.size w w':=by
  obtain ⟨b,off,rfl,hb,hc⟩:=hp.open_ (by intro h;simp [h] at h1)
  have hok:=hp.ok
  clear hp
  obtain ⟨i0,hi0,hz0,hz1,hz2⟩:=info_parts info_u64
  go_enter Tryz.func207,Tryz.ntmps207
  go_wp2_with (at_make;refine wpList_make_full _ rfl (.tmp 13) (.tmp 13) 23 rfl w.heap.size 55 i0 _ 1 Tryz.underlying23 hi0 hz0 hz1 .i64 .i64 _ _ us.length rfl rfl rfl rfl (by rw [hz2];omega) (by unfold maxLen;omega) (Nat.le_refl _) ?_;intro w1 hown hg)
  have hb1:Below w.heap.size w w1:=(Below.refl _ _).grown hg (Nat.le_refl _) (by simp)
  have hgl:w.heap.size < w1.heap.size:=(hown.lt w.heap.size rfl).2
  generalize hZ:(madeCells (Value.int IntKind.u64 0).cells (us.length * 1)).toList = Z0 at *
  clear hZ hg
  have HZ:Hid (Z0.length = us.length):=Lib.hid (by simpa using hown.1)
  go_loopw [7,8,17] (fun _ _ i wr => ∃ j:Nat,j≤us.length∧i = .int .i64 j∧wr.ownsRow w.heap.size 55 1 (.slice (some ⟨w.heap.size,0,none⟩) us.length us.length) us.length ((vals (Z.cut us k)).take j ++ Z0.drop j)∧Below w.heap.size w wr∧w.heap.size < wr.heap.size) (fun _ _ i _ => us.length - (intOf i).toNat)
  case atStart => exact ⟨0,Nat.zero_le _,rfl,by simpa using hown,hb1,hgl⟩
  case round =>
    obtain ⟨j,hj,rfl,hrow,hbw,hlw⟩:=hrel
    clear hown hb1 hgl
    by_cases hlt:j < us.length
    · obtain ⟨u,hu⟩:=get_lt hlt
      have hcell:=(hbw.cell (p:=⟨b,off + j,none⟩) (Nat.lt_of_lt_of_le hb hB)).trans (hc j u hu)
      obtain ⟨x,hx⟩:∃ x,wr.cell? ⟨w.heap.size,j,none⟩ = some x:=by
        rw [hrow.cellAt j (by omega)]
        exact get_lt (by simp [vals_length,Z.cut_length];have:=HZ.out;omega)
      have hfr:=hrow.frozenAt j
      have hcut:=Lib.hid (cut_bits u k (hok u (List.mem_of_getElem? hu)) hk)
      have hst:=Lib.hid (hrow.stored j (.int .u64 (Z.cutN u k:Int)))
      have hget:Hid ((vals (Z.cut us k))[j]? = some (.int .u64 (Z.cutN u k:Int))):=Lib.hid (vals_get (by simp [Z.cut,hu]))
      clear hc hok hrow hu
      go_wp2
      go_roundw
      case rel =>
        rw [hcut.out]
        refine ⟨j + 1,by omega,by go_num,?_,hbw.setCell (by simp) _,by simpa using hlw⟩
        rw [← Z.set_front' _ _ (by rw [vals_length,Z.cut_length,HZ.out]) j _ hget.out]
        exact hst.out.1
      case measure => simp [intOf];omega
    · have hkeep:Hid (Own wr w.heap.size (.slice (some ⟨w.heap.size,0,none⟩) us.length us.length) (Z.cut us k)):=by
        refine ⟨Z.cut_ok hok k,?_⟩
        rw [Z.cut_length]
        rw [List.take_of_length_le (by rw [vals_length,Z.cut_length];omega),List.drop_of_length_le (by have:=HZ.out;omega),List.append_nil] at hrow
        exact hrow
      clear hc hok hrow
      go_wp2
      go_ret
      exact ⟨_,rfl,hkeep.out,hbw⟩
theorem cutAt_lev (A:Option Addr) (c:Nat) (us:List Nat) (l B:Nat) (w:World) (hp:Pts w B A us) (hB:B≤w.heap.size) (h1:1≤us.length) (h16:us.length≤16) (hl:l≤63) :
    Calls Tryz.prog 207 #[.slice A us.length c,.int .i64 (l:Int)] w fun e w' => ∃ v,e = .returned v∧Own w' w.heap.size v (Z.cut us (l + 1))∧Below w.heap.size w w':=by
  have h:=cutAt_c A c us (l + 1) B w hp hB h1 h16 (by omega)
  rw [show ((l + 1:Nat):Int) - 1 = (l:Int) by omega] at h
  exact h
/-! ### Cut -/
theorem cut_yes (A:Option Addr) (c:Nat) (us:List Nat) (l B:Nat) (w:World) (hp:Pts w B A us) (hB:B≤w.heap.size) (h1:1≤us.length) (h16:us.length≤16) (hl:l≤63) :
    Calls Tryz.prog 153 #[.slice A us.length c,.int .i64 (l:Int)] w fun e w' => ∃ v,e = .returned (.tuple #[v,.int .i64 0])∧Own w' w.heap.size v (Z.cut us (l + 1))∧Below w.heap.size w w':=by
  have hb:((l:Int) != -1) = true:=by rw [bne_iff_ne];omega
  go_enter Tryz.func153,Tryz.ntmps153
  go_wp2_with (first | (go_at_call 150;refine (right_yes _ _ _ _ h1 h16).mono ?_;rintro e w' ⟨rfl,rfl⟩) | (go_at_call 206;refine (isLevel_yes _ _ (by omega) (by omega)).mono ?_;rintro e w' ⟨rfl,rfl⟩) | (go_at_call 207;refine (cutAt_lev _ _ us l B _ hp hB h1 h16 hl).mono ?_;rintro e w1 ⟨v,rfl,hown,hbel⟩))
  go_ret2
  exact ⟨_,rfl,hown,hbel⟩
theorem rbit_c (u l:Nat) (w:World) (_hu:u < 18446744073709551616) (hl:l≤63) :
    Calls Tryz.prog 173 #[.int .u64 (u:Int),.int .i64 (l:Int)] w fun e w' => e = .returned (.int .i64 (Z.bit u l:Int))∧w = w':=by
  have hb:=Z.bit_lt u l
  have hfin:Hid (wrap64 (((u:Int) / 2 ^ l).tmod 2) = (Z.bit u l:Int)):=by
    show _ = _
    rw [show (u:Int) / 2 ^ l = ((u / 2 ^ l:Nat):Int) by simp,Int.tmod_eq_emod_of_nonneg (Int.natCast_nonneg _),show ((u / 2 ^ l:Nat):Int) % 2 = (Z.bit u l:Int) by unfold Z.bit;simp]
    exact IntWalk.wrap64_in _ (by omega)
  go_enter Tryz.func173,Tryz.ntmps173
  go_wp2
  go_ret
  exact ⟨ret_int (by rw [hfin.out]),rfl⟩
theorem raddr_c (A:Option Addr) (c:Nat) (us:List Nat) (l B:Nat) (w:World) (hp:Pts w B A us) (h1:1≤us.length) (h16:us.length≤16) (hl:l≤63) :
    Calls Tryz.prog 123 #[.slice A us.length c,.int .i64 (l:Int)] w fun e w' => e = .returned (.int .i64 (Z.addr us l:Int))∧w = w':=by
  obtain ⟨b,off,rfl,hb,hc⟩:=hp.open_ (by intro h;simp [h] at h1)
  have hok:=hp.ok
  clear hp
  go_enter Tryz.func123,Tryz.ntmps123
  go_wp2
  go_loop [5,6] (fun a i => ∃ k:Nat,k≤us.length∧i = .int .i64 k∧a = .int .i64 (Z.addr (us.take k) l:Int)) (fun _ i => us.length - (intOf i).toNat)
  case atStart => exact ⟨0,Nat.zero_le _,rfl,rfl⟩
  case round =>
    obtain ⟨k,hk,rfl,rfl⟩:=hrel
    have hbd:=Z.addr_le (us.take k) l 16 (by simp;omega)
    by_cases hlt:k < us.length
    · obtain ⟨u,hu⟩:=get_lt hlt
      have hcell:=hc k u hu
      have hu64:=hok u (List.mem_of_getElem? hu)
      have hbit:=Z.bit_lt u l
      have hst:Hid (2 * (Z.addr (us.take k) l:Int) + (Z.bit u l:Int) = (Z.addr (us.take (k + 1)) l:Int)):=by
        show _ = _
        rw [Z.addr_take us l k hlt,(List.getElem?_eq_some_iff.1 hu).2]
        simp
      clear hc hu hok
      go_wp2_with (go_at_call 173;refine (rbit_c u l _ hu64 hl).mono ?_;rintro e w' ⟨rfl,rfl⟩)
      go_round
      case rel => exact ⟨k + 1,by omega,by go_num,by rw [hst.out]⟩
      case measure => simp [intOf];omega
    · go_wp2
      go_ret
      exact ⟨ret_int (by rw [List.take_of_length_le (by omega)]),rfl⟩
theorem rpart_c (A A':Option Addr) (c c':Nat) (us vs:List Nat) (B:Nat) (w:World) (hp:Pts w B A us) (hq:Pts w B A' vs) (h1:1≤us.length) (h16:us.length≤16) (hlen:us.length = vs.length) :
    Calls Tryz.prog 194 #[.slice A us.length c,.slice A' vs.length c'] w fun e w' => e = .returned (.int .i64 (Z.part us vs))∧w = w':=by
  have h2:1≤vs.length:=by omega
  have h26:vs.length≤16:=by omega
  have Hlen:=Lib.hid hlen
  clear hlen
  go_enter Tryz.func194,Tryz.ntmps194
  go_wp2
  go_loop [5] (fun i => ∃ k:Nat,k≤64∧i = .int .i64 ((k:Int) - 1)∧∀ m,k≤m→Z.addr us m = Z.addr vs m) (fun i => (intOf i + 1).toNat)
  case atStart => exact ⟨64,by omega,rfl,fun m hm => by rw [Z.addr_high hp.ok m hm,Z.addr_high hq.ok m hm]⟩
  case round =>
    obtain ⟨k,hk,rfl,hsame⟩:=hrel
    have Hs:=Lib.hid hsame
    clear hsame
    by_cases h0:k = 0
    · have hfin:Hid (Z.part us vs = -1):=by
        show _ = _
        subst h0
        have e:=Z.points_eq Hlen.out hp.ok hq.ok (fun l _ => Hs.out l (Nat.zero_le _))
        subst e
        exact Z.part_same us hp.ok
      subst h0
      go_wp2
      go_ret
      exact ⟨ret_int (by rw [hfin.out]),rfl⟩
    · obtain ⟨j,rfl⟩:∃ j,k = j + 1:=⟨k - 1,by omega⟩
      clear h0
      rw [show (((j + 1:Nat):Int) - 1) = (j:Int) by omega]
      by_cases hd:Z.addr us j = Z.addr vs j
      · have Hd:=Lib.hid hd
        have hb:((Z.addr us j:Int) != (Z.addr vs j:Int)) = false:=by rw [hd];simp
        clear hd
        go_wp2_with (first | (go_at_call 123;with_reducible (refine (raddr_c _ _ us j B _ hp h1 h16 (by omega)).mono ?_);rintro e w' ⟨rfl,rfl⟩) | (go_at_call 123;with_reducible (refine (raddr_c _ _ vs j B _ hq h2 h26 (by omega)).mono ?_);rintro e w' ⟨rfl,rfl⟩))
        go_round
        case rel => exact ⟨j,by omega,rfl,fun m hm => by
          rcases Nat.eq_or_lt_of_le hm with e | e
          · rw [← e];exact Hd.out
          · exact Hs.out m (by omega)⟩
        case measure => simp [intOf]
      · have hfin:Hid (Z.part us vs = (j:Int)):=Lib.hid (Z.part_eq Hlen.out hp.ok hq.ok j hd (fun m hm _ => Hs.out m (by omega)))
        have hb:((Z.addr us j:Int) != (Z.addr vs j:Int)) = true:=by rw [bne_iff_ne];omega
        clear hd
        go_wp2_with (first | (go_at_call 123;with_reducible (refine (raddr_c _ _ us j B _ hp h1 h16 (by omega)).mono ?_);rintro e w' ⟨rfl,rfl⟩) | (go_at_call 123;with_reducible (refine (raddr_c _ _ vs j B _ hq h2 h26 (by omega)).mono ?_);rintro e w' ⟨rfl,rfl⟩))
        go_ret
        exact ⟨ret_int (by rw [hfin.out]),rfl⟩
theorem rcmp_c (A A':Option Addr) (c c':Nat) (us vs:List Nat) (B:Nat) (w:World) (hp:Pts w B A us) (hq:Pts w B A' vs) (h1:1≤us.length) (h16:us.length≤16) (hlen:us.length = vs.length) :
    Calls Tryz.prog 138 #[.slice A us.length c,.slice A' vs.length c'] w fun e w' => e = .returned (.int .i64 (Z.cmp us vs))∧w = w':=by
  have H:=Lib.hid hlen
  have h2:1≤vs.length:=by omega
  have h26:vs.length≤16:=by omega
  rcases Z.part_spec hlen hp.ok hq.ok with ⟨e,r⟩ | ⟨l,hl,e,_,_⟩
  · have hfin:Hid (Z.cmp us vs = 0):=by show _ = _;subst r;exact Z.cmp_same us hp.ok
    have He:=Lib.hid e
    clear hlen e r
    go_enter Tryz.func138,Tryz.ntmps138
    go_wp2_with (go_at_call 194;refine (rpart_c _ _ _ _ us vs B _ hp hq h1 h16 H.out).mono ?_;rintro e w' ⟨rfl,rfl⟩;rw [He.out])
    go_ret
    exact ⟨by rw [hfin.out];rfl,rfl⟩
  · have hfin:=Lib.hid (Z.cmp_at e)
    have He:=Lib.hid e
    clear hlen e
    have hl':l≤63:=by omega
    go_enter Tryz.func138,Tryz.ntmps138
    go_wp2_with (first | (go_at_call 194;refine (rpart_c _ _ _ _ us vs B _ hp hq h1 h16 H.out).mono ?_;rintro e w' ⟨rfl,rfl⟩;rw [He.out]) | (go_at_call 123;with_reducible (refine (raddr_c _ _ us l B _ hp h1 h16 hl').mono ?_);rintro e w' ⟨rfl,rfl⟩) | (go_at_call 123;with_reducible (refine (raddr_c _ _ vs l B _ hq h2 h26 hl').mono ?_);rintro e w' ⟨rfl,rfl⟩))
    all_goals go_ret
    all_goals refine ⟨?_,rfl⟩
    all_goals rw [hfin.out]
    all_goals first | (rw [if_pos (by assumption)];rfl) | (rw [if_neg (by assumption)];rfl)
/-! ### Same -/
/-! ### Cut -/
def MaskAt (w:World) (b:Nat) (k lo hi:Int):Prop :=
  w.cell? ⟨b,0,none⟩ = some (.int .i64 k)∧w.cell? ⟨b,1,none⟩ = some (.int .i64 lo)∧w.cell? ⟨b,2,none⟩ = some (.int .i64 hi)
theorem MaskAt.below {w w':World} {b C:Nat} {k lo hi:Int} (h:MaskAt w b k lo hi) (hb:Below C w w') (hC:b < C):MaskAt w' b k lo hi :=
  ⟨(hb.cell (p:=⟨b,0,none⟩) hC).trans h.1,(hb.cell (p:=⟨b,1,none⟩) hC).trans h.2.1,(hb.cell (p:=⟨b,2,none⟩) hC).trans h.2.2⟩
theorem MaskAt.drew {w:World} {b:Nat} {k lo hi:Int} (h:MaskAt w b k lo hi):MaskAt w.drew b k lo hi:=h
def MRight (k lo hi:Int):Prop:=(1≤k∧k≤16)∧(0≤lo∧lo < ((2 ^ k.toNat:Nat):Int))∧(0≤hi∧hi < ((2 ^ k.toNat:Nat):Int))
instance mright_dec (k lo hi:Int):Decidable (MRight k lo hi):=by unfold MRight;infer_instance
/-! ### Has -/
/-! ### None,First -/
theorem Pts.at {w:World} {B:Nat} {A:Option Addr} {us:List Nat} (h:Pts w B A us) (h1:1≤us.length) :
    ∃ b off,A = some ⟨b,off,none⟩∧b < B∧∀ i,i < us.length→w.cell? ⟨b,off + i,none⟩ = some (.int .u64 (Bx.g us i:Int)):=by
  obtain ⟨b,off,hA,hb,hc⟩:=h.open_ (by rintro rfl;simp at h1)
  exact ⟨b,off,hA,hb,fun i hi => hc i _ (Bx.g_get hi)⟩
/-! ### the same,said of what is left of the world -/
/-! ### Empty -/
/-! ### Volume -/
def M0 (w:World) (b:Nat) (x y z:Int):Prop:=MaskAt w b x y z∧w.frozen? ⟨b,0,none⟩ = false∧w.frozen? ⟨b,1,none⟩ = false∧w.frozen? ⟨b,2,none⟩ = false
/-! ### Of -/
end Go.Proofs.YtkeepngaaleakaaGreatDoor
