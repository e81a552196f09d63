import Derived.Test.YtkeepngaaleakaaGreatDoorM01
import Derived.Test.YtkeepngaaleakaaGreatDoorMLen
namespace Go.Proofs.YtkeepngaaleakaaGreatDoor
open Go.ChangeShapes Go.WideShapes Go.ChangeAt Go.RowKit
theorem and_one (x:Nat) (hx:x < 18446744073709551616):bits .and .u64 (x:Int) 1 = ((x % 2:Nat):Int):=by
  have h:=bits_and_u64_nat x 1 hx (by omega)
  rw [Nat.and_one_is_mod] at h
  exact h
theorem or_i64 (a b:Nat) (ha:a < 9223372036854775808) (hb:b < 9223372036854775808):bits .or .i64 (a:Int) (b:Int) = ((a ||| b:Nat):Int):=by
  have hx:a ||| b < 2 ^ 63:=Nat.or_lt_two_pow (by omega) (by omega)
  have h1:(BitVec.ofInt 64 (a:Int)).toNat = a:=by
    rw [BitVec.ofInt_natCast,BitVec.toNat_ofNat];exact Nat.mod_eq_of_lt (by omega)
  have h2:(BitVec.ofInt 64 (b:Int)).toNat = b:=by
    rw [BitVec.ofInt_natCast,BitVec.toNat_ofNat];exact Nat.mod_eq_of_lt (by omega)
  show IntKind.i64.wrap ((BitVec.ofInt 64 (a:Int) ||| BitVec.ofInt 64 (b:Int)).toNat:Int) = _
  rw [BitVec.toNat_or,h1,h2,IntKind.wrap_i64]
  omega
theorem shr_cast (u l:Nat):(u:Int) / 2 ^ l = ((u / 2 ^ l:Nat):Int):=by simp
theorem bit_and (u l:Nat) (hu:u < 18446744073709551616):bits .and .u64 ((u:Int) / 2 ^ l) 1 = (Z.bit u l:Int):=by
  rw [shr_cast,and_one _ (Nat.lt_of_le_of_lt (Nat.div_le_self _ _) hu)];rfl
theorem addr_step (a u l:Nat) (ha:a < 65536) (hu:u < 18446744073709551616) :
    bits .or .i64 ((a:Int) * 2) (wrap64 (bits .and .u64 ((u:Int) / 2 ^ l) 1)) = ((2 * a + Z.bit u l:Nat):Int):=by
  have hb:=Z.bit_lt u l
  rw [bit_and u l hu,IntWalk.wrap64_in _ (by omega),show (a:Int) * 2 = ((2 * a:Nat):Int) by omega,or_i64 _ _ (by omega) (by omega)]
  congr 1
  have e:2 * a ||| Z.bit u l = 2 * a + Z.bit u l:=by
    have:=Nat.two_pow_add_eq_or_of_lt (i:=1) (b:=Z.bit u l) (by simpa using hb) a
    simpa using this.symm
  exact e
theorem right_c (A:Option Addr) (n c:Nat) (w:World) (hn:n≤maxLen) :
    Calls Tryz.prog 150 #[.slice A n c] w fun e w' => e = .returned (.bool (decide (1≤n∧n≤16)))∧w = w':=by
  unfold maxLen at hn
  go_enter Tryz.func150,Tryz.ntmps150
  go_wp2
  all_goals go_ret
  all_goals refine ⟨ret_bool ?_,rfl⟩
  all_goals rw [Bool.eq_iff_iff]
  all_goals simp
  all_goals omega
theorem right_yes (A:Option Addr) (n c:Nat) (w:World) (h1:1≤n) (h16:n≤16) :
    Calls Tryz.prog 150 #[.slice A n c] w fun e w' => e = .returned (.bool true)∧w = w' :=
  (right_c A n c w (by unfold maxLen;omega)).mono fun _ _ ⟨he,hw⟩ => ⟨by rw [he,decide_eq_true ⟨h1,h16⟩],hw⟩
theorem right_no (A:Option Addr) (n c:Nat) (w:World) (hn:n≤maxLen) (h:¬ (1≤n∧n≤16)) :
    Calls Tryz.prog 150 #[.slice A n c] w fun e w' => e = .returned (.bool false)∧w = w' :=
  (right_c A n c w hn).mono fun _ _ ⟨he,hw⟩ => ⟨by rw [he,decide_eq_false h],hw⟩
theorem isLevel_c (l:Int) (w:World) :
    Calls Tryz.prog 206 #[.int .i64 l] w fun e w' => e = .returned (.bool (decide (0≤l∧l≤63)))∧w = w':=by
  go_enter Tryz.func206,Tryz.ntmps206
  go_wp2
  all_goals go_ret
  all_goals refine ⟨ret_bool ?_,rfl⟩
  all_goals simp
  all_goals omega
theorem isLevel_yes (l:Int) (w:World) (h0:0≤l) (h1:l≤63) :
    Calls Tryz.prog 206 #[.int .i64 l] w fun e w' => e = .returned (.bool true)∧w = w' :=
  (isLevel_c l w).mono fun _ _ ⟨he,hw⟩ => ⟨by rw [he,decide_eq_true ⟨h0,h1⟩],hw⟩
theorem isLevel_no (l:Int) (w:World) (h:¬ (0≤l∧l≤63)) :
    Calls Tryz.prog 206 #[.int .i64 l] w fun e w' => e = .returned (.bool false)∧w = w' :=
  (isLevel_c l w).mono fun _ _ ⟨he,hw⟩ => ⟨by rw [he,decide_eq_false h],hw⟩
theorem addrAt_c (A:Option Addr) (c:Nat) (us:List Nat) (l B:Nat) (w:World) (hp:Pts w B A us) (h1:1≤us.length) (h16:us.length≤16) (hl:l≤63) :
    Calls Tryz.prog 215 #[.slice A us.length c,.int .i64 (l:Int)] w fun e w' => e = .returned (.int .i64 (Z.addr us l:Int))∧w = w':=by
  obtain ⟨b,off,rfl,hb,hc⟩:=hp.open_ (by intro h;simp [h] at h1)
  have hok:=hp.ok
  clear hp
  go_enter Tryz.func215,Tryz.ntmps215
  go_wp2
  go_loop [5,7,10] (fun a _ i => ∃ k:Nat,k≤us.length∧i = .int .i64 k∧a = .int .i64 (Z.addr (us.take k) l:Int)) (fun _ _ i => us.length - (intOf i).toNat)
  case atStart => exact ⟨0,Nat.zero_le _,rfl,rfl⟩
  case round =>
    obtain ⟨k,hk,rfl,rfl⟩:=hrel
    have hbd:=Z.addr_le (us.take k) l 16 (by simp;omega)
    by_cases hlt:k < us.length
    · obtain ⟨u,hu⟩:=get_lt hlt
      have hcell:=hc k u hu
      have hu64:=hok u (List.mem_of_getElem? hu)
      have hst:Hid (bits .or .i64 ((Z.addr (us.take k) l:Int) * 2) (wrap64 (bits .and .u64 ((u:Int) / 2 ^ l) 1)) = (Z.addr (us.take (k + 1)) l:Int)):=by
        show _ = _
        rw [addr_step _ _ _ (by omega) hu64,Z.addr_take us l k hlt]
        rw [(List.getElem?_eq_some_iff.1 hu).2]
      clear hc hu hok
      go_wp2
      go_round
      case rel => exact ⟨k + 1,by omega,by go_num,by rw [hst.out]⟩
      case measure => simp [intOf];omega
    · go_wp2
      go_ret
      exact ⟨ret_int (by rw [List.take_of_length_le (by omega)]),rfl⟩
theorem xor_step (x u v:Nat) (hx:x < 18446744073709551616) (hu:u < 18446744073709551616) (hv:v < 18446744073709551616) :
    bits .or .u64 (x:Int) (bits .xor .u64 (u:Int) (v:Int)) = ((x ||| (u ^^^ v):Nat):Int):=by
  rw [bits_xor_u64_nat u v hu hv]
  have h:u ^^^ v < 2 ^ 64:=Nat.xor_lt_two_pow (by omega) (by omega)
  exact bits_or_u64_nat x _ hx (by omega)
theorem partLevel_c (A A':Option Addr) (c c':Nat) (us vs:List Nat) (B:Nat) (w:World) (hp:Pts w B A us) (hq:Pts w B A' vs) (h1:1≤us.length) (h16:us.length≤16) (hlen:us.length = vs.length) :
    Calls Tryz.prog 205 #[.slice A us.length c,.slice A' vs.length c'] w fun e w' => e = .returned (.int .i64 (Z.part us vs))∧w = w':=by
  obtain ⟨b,off,rfl,hb,hc⟩:=hp.open_ (by intro h;simp [h] at h1)
  obtain ⟨b',off',rfl,hb',hc'⟩:=hq.open_ (by rintro rfl;simp at hlen;simp [hlen] at h1)
  have hok:=hp.ok
  have hok':=hq.ok
  have h2:vs.length≤16:=by omega
  have Hlen:=Lib.hid hlen
  clear hp hq hlen
  go_enter Tryz.func205,Tryz.ntmps205
  go_wp2
  go_loop [5,6,7,10] (fun a _ _ i => ∃ k:Nat,k≤us.length∧i = .int .i64 k∧a = .int .u64 (Z.orx (us.take k) (vs.take k):Int)) (fun _ _ _ i => us.length - (intOf i).toNat)
  case atStart => exact ⟨0,Nat.zero_le _,rfl,rfl⟩
  case round =>
    obtain ⟨k,hk,rfl,rfl⟩:=hrel
    by_cases hlt:k < us.length
    · have hlt':k < vs.length:=by have:=Hlen.out;omega
      obtain ⟨u,hu⟩:=get_lt hlt
      obtain ⟨v,hv⟩:=get_lt hlt'
      have hcell:=hc k u hu
      have hcell':=hc' k v hv
      have hst:Hid (bits .or .u64 (Z.orx (us.take k) (vs.take k):Int) (bits .xor .u64 (u:Int) (v:Int)) = (Z.orx (us.take (k + 1)) (vs.take (k + 1)):Int)):=by
        show _ = _
        have hb1:Z.orx (us.take k) (vs.take k) < 18446744073709551616:=Z.orx_lt (fun x hx => hok x (List.mem_of_mem_take hx)) (fun x hx => hok' x (List.mem_of_mem_take hx))
        rw [xor_step _ _ _ hb1 (hok u (List.mem_of_getElem? hu)) (hok' v (List.mem_of_getElem? hv)),Z.orx_take us vs Hlen.out k hlt hlt',(List.getElem?_eq_some_iff.1 hu).2,(List.getElem?_eq_some_iff.1 hv).2]
      clear hc hu hok hc' hv hok'
      go_wp2
      go_round
      case rel => exact ⟨k + 1,by omega,by go_num,by rw [hst.out]⟩
      case measure => simp [intOf];omega
    · have hx:=Z.orx_lt hok hok'
      have he:Z.orx (us.take k) (vs.take k) = Z.orx us vs:=by
        rw [List.take_of_length_le (by omega),List.take_of_length_le (by have:=Hlen.out;omega)]
      have hpt:Z.part us vs = (Lib.bitLen (Z.orx us vs):Int) - 1:=rfl
      have hbl:=Lib.bitLen_le (Z.orx us vs) 64 (by omega) (by omega)
      rw [← he] at hpt hbl hx
      generalize Z.orx (us.take k) (vs.take k) = X at *
      clear he hc hok hc' hok'
      have Hpt:=Lib.hid hpt
      clear hpt
      go_wp2_with (go_at_call 246;refine (len64_c _ _ (by omega) (by omega)).mono ?_;rintro e w' ⟨rfl,rfl⟩)
      go_ret
      exact ⟨ret_int (by rw [Hpt.out]),rfl⟩
theorem alike_c (A A':Option Addr) (n c n' c':Nat) (w:World) (hn:n≤maxLen) (_hn':n'≤maxLen) :
    Calls Tryz.prog 204 #[.slice A n c,.slice A' n' c'] w fun e w' => e = .returned (.bool (decide ((1≤n∧n≤16)∧n = n')))∧w = w':=by
  by_cases h:1≤n∧n≤16
  · obtain ⟨h1,h2⟩:=h
    unfold maxLen at hn
    go_enter Tryz.func204,Tryz.ntmps204
    go_wp2_with (go_at_call 150;refine (right_yes _ _ _ _ h1 h2).mono ?_;rintro e w' ⟨rfl,rfl⟩)
    all_goals go_ret
    all_goals refine ⟨ret_bool ?_,rfl⟩
    all_goals rw [Bool.eq_iff_iff]
    all_goals simp
    all_goals omega
  · have Hn:=Lib.hid hn
    have H:=Lib.hid h
    clear h
    unfold maxLen at hn
    go_enter Tryz.func204,Tryz.ntmps204
    go_wp2_with (go_at_call 150;refine (right_no _ _ _ _ Hn.out H.out).mono ?_;rintro e w' ⟨rfl,rfl⟩)
    all_goals go_ret
    all_goals refine ⟨ret_bool ?_,rfl⟩
    have:=H.out
    rw [Bool.eq_iff_iff]
    simp
    omega
theorem alike_yes (A A':Option Addr) (n c n' c':Nat) (w:World) (h1:1≤n) (h16:n≤16) (h:n = n') :
    Calls Tryz.prog 204 #[.slice A n c,.slice A' n' c'] w fun e w' => e = .returned (.bool true)∧w = w' :=
  (alike_c A A' n c n' c' w (by unfold maxLen;omega) (by unfold maxLen;omega)).mono fun _ _ ⟨he,hw⟩ => ⟨by rw [he,decide_eq_true ⟨⟨h1,h16⟩,h⟩],hw⟩
theorem part_yes (A A':Option Addr) (c c':Nat) (us vs:List Nat) (B:Nat) (w:World) (hp:Pts w B A us) (hq:Pts w B A' vs) (h1:1≤us.length) (h16:us.length≤16) (hlen:us.length = vs.length) :
    Calls Tryz.prog 152 #[.slice A us.length c,.slice A' vs.length c'] w fun e w' => e = .returned (.tuple #[.int .i64 (Z.part us vs),.int .i64 0])∧w = w':=by
  have H:=Lib.hid hlen
  clear hlen
  go_enter Tryz.func152,Tryz.ntmps152
  go_wp2_with (first | (go_at_call 204;refine (alike_yes _ _ _ _ _ _ _ h1 h16 H.out).mono ?_;rintro e w' ⟨rfl,rfl⟩) | (go_at_call 205;refine (partLevel_c _ _ _ _ us vs B _ hp hq h1 h16 H.out).mono ?_;rintro e w' ⟨rfl,rfl⟩))
  go_ret2
  exact ⟨rfl,rfl⟩
/-! ### Addr -/
theorem addr_arg (A:Option Addr) (n c:Nat) (l:Int) (w:World) (h1:1≤n) (h16:n≤16) (h:¬ (0≤l∧l≤63)) :
    Calls Tryz.prog 160 #[.slice A n c,.int .i64 l] w fun e w' => e = .returned (.tuple #[.int .i64 0,.int .i64 3])∧w = w':=by
  have H:=Lib.hid h
  clear h
  go_enter Tryz.func160,Tryz.ntmps160
  go_wp2_with (first | (go_at_call 150;refine (right_yes _ _ _ _ h1 h16).mono ?_;rintro e w' ⟨rfl,rfl⟩) | (go_at_call 206;refine (isLevel_no _ _ H.out).mono ?_;rintro e w' ⟨rfl,rfl⟩))
  go_ret2
  exact ⟨rfl,rfl⟩
theorem addr_yes (A:Option Addr) (c:Nat) (us:List Nat) (l B:Nat) (w:World) (hp:Pts w B A us) (h1:1≤us.length) (h16:us.length≤16) (hl:l≤63) :
    Calls Tryz.prog 160 #[.slice A us.length c,.int .i64 (l:Int)] w fun e w' => e = .returned (.tuple #[.int .i64 (Z.addr us l:Int),.int .i64 0])∧w = w':=by
  go_enter Tryz.func160,Tryz.ntmps160
  go_wp2_with (first | (go_at_call 150;refine (right_yes _ _ _ _ h1 h16).mono ?_;rintro e w' ⟨rfl,rfl⟩) | (go_at_call 206;refine (isLevel_yes _ _ (by omega) (by omega)).mono ?_;rintro e w' ⟨rfl,rfl⟩) | (go_at_call 215;refine (addrAt_c _ _ us l B _ hp h1 h16 hl).mono ?_;rintro e w' ⟨rfl,rfl⟩))
  go_ret2
  exact ⟨rfl,rfl⟩
/-! ### Cut -/
theorem keep_nat (k:Nat) (hk:k≤64):IntKind.u64.wrap (18446744073709551615 * 2 ^ k) = ((18446744073709551616 - 2 ^ k:Nat):Int):=by
  have hp:2 ^ k≤2 ^ 64:=Nat.pow_le_pow_right (by omega) hk
  have e:(18446744073709551615:Int) * 2 ^ k = ((18446744073709551615 * 2 ^ k:Nat):Int):=by simp
  rw [e,IntKind.wrap_u64]
  have h1:0 < 2 ^ k:=Nat.two_pow_pos k
  generalize 2 ^ k = p at *
  omega
theorem cut_and (u k:Nat) (hu:u < 18446744073709551616) (hk:k≤64):u &&& (18446744073709551616 - 2 ^ k) = Z.cutN u k:=by
  apply Nat.eq_of_testBit_eq
  intro m
  rw [Z.cutN_testBit,Nat.testBit_and,show (18446744073709551616:Nat) = 2 ^ 64 from rfl]
  by_cases hm:m < 64
  · have e:2 ^ 64 - 2 ^ k = 2 ^ 64 - (2 ^ k - 1 + 1):=by have:=Nat.two_pow_pos k;omega
    rw [e,Nat.testBit_two_pow_sub_succ (by have:=Nat.two_pow_pos k;have:=Nat.pow_le_pow_right (n:=2) (by omega) hk;omega),Nat.testBit_two_pow_sub_one]
    by_cases h:k≤m
    · simp [hm,h,show ¬ m < k by omega]
    · simp [h,show m < k by omega]
  · have:u.testBit m = false:=Nat.testBit_lt_two_pow (Nat.lt_of_lt_of_le hu (by have:=Nat.pow_le_pow_right (n:=2) (by omega) (show 64≤m by omega);omega))
    simp [this]
theorem cut_bits (u k:Nat) (hu:u < 18446744073709551616) (hk:k≤64):bits .and .u64 (u:Int) (IntKind.u64.wrap (18446744073709551615 * 2 ^ k)) = (Z.cutN u k:Int):=by
  rw [keep_nat k hk,bits_and_u64_nat u _ hu (by have:=Nat.two_pow_pos k;omega),cut_and u k hu hk]
theorem cutAt_c (A:Option Addr) (c:Nat) (us:List Nat) (k B:Nat) (w:World) (hp:Pts w B A us) (hB:B≤w.heap.size) (h1:1≤us.length) (h16:us.length≤16) (hk:k≤64) :
    Calls Tryz.prog 207 #[.slice A us.length c,.int .i64 ((k:Int) - 1)] w fun e w' => ∃ v,e = .returned v∧Own w' w.heap.size v (Z.cut us k)∧Below w.heap.size w w':=by
  obtain ⟨b,off,rfl,hb,hc⟩:=hp.open_ (by intro h;simp [h] at h1)
  have hok:=hp.ok
  clear hp
  obtain ⟨i0,hi0,hz0,hz1,hz2⟩:=info_parts info_u64
  go_enter Tryz.func207,Tryz.ntmps207
  go_wp2_with (at_make;refine wpList_make_full _ rfl (.tmp 13) (.tmp 13) 23 rfl w.heap.size 55 i0 _ 1 Tryz.underlying23 hi0 hz0 hz1 .i64 .i64 _ _ us.length rfl rfl rfl rfl (by rw [hz2];omega) (by unfold maxLen;omega) (Nat.le_refl _) ?_;intro w1 hown hg)
  have hb1:Below w.heap.size w w1:=(Below.refl _ _).grown hg (Nat.le_refl _) (by simp)
  have hgl:w.heap.size < w1.heap.size:=(hown.lt w.heap.size rfl).2
  generalize hZ:(madeCells (Value.int IntKind.u64 0).cells (us.length * 1)).toList = Z0 at *
  clear hZ hg
  have HZ:Hid (Z0.length = us.length):=Lib.hid (by simpa using hown.1)
  go_loopw [7,8,17] (fun _ _ i wr => ∃ j:Nat,j≤us.length∧i = .int .i64 j∧wr.ownsRow w.heap.size 55 1 (.slice (some ⟨w.heap.size,0,none⟩) us.length us.length) us.length ((vals (Z.cut us k)).take j ++ Z0.drop j)∧Below w.heap.size w wr∧w.heap.size < wr.heap.size) (fun _ _ i _ => us.length - (intOf i).toNat)
  case atStart => exact ⟨0,Nat.zero_le _,rfl,by simpa using hown,hb1,hgl⟩
  case round =>
    obtain ⟨j,hj,rfl,hrow,hbw,hlw⟩:=hrel
    clear hown hb1 hgl
    by_cases hlt:j < us.length
    · obtain ⟨u,hu⟩:=get_lt hlt
      have hcell:=(hbw.cell (p:=⟨b,off + j,none⟩) (Nat.lt_of_lt_of_le hb hB)).trans (hc j u hu)
      obtain ⟨x,hx⟩:∃ x,wr.cell? ⟨w.heap.size,j,none⟩ = some x:=by
        rw [hrow.cellAt j (by omega)]
        exact get_lt (by simp [vals_length,Z.cut_length];have:=HZ.out;omega)
      have hfr:=hrow.frozenAt j
      have hcut:=Lib.hid (cut_bits u k (hok u (List.mem_of_getElem? hu)) hk)
      have hst:=Lib.hid (hrow.stored j (.int .u64 (Z.cutN u k:Int)))
      have hget:Hid ((vals (Z.cut us k))[j]? = some (.int .u64 (Z.cutN u k:Int))):=Lib.hid (vals_get (by simp [Z.cut,hu]))
      clear hc hok hrow hu
      go_wp2
      go_roundw
      case rel =>
        rw [hcut.out]
        refine ⟨j + 1,by omega,by go_num,?_,hbw.setCell (by simp) _,by simpa using hlw⟩
        rw [← Z.set_front' _ _ (by rw [vals_length,Z.cut_length,HZ.out]) j _ hget.out]
        exact hst.out.1
      case measure => simp [intOf];omega
    · have hkeep:Hid (Own wr w.heap.size (.slice (some ⟨w.heap.size,0,none⟩) us.length us.length) (Z.cut us k)):=by
        refine ⟨Z.cut_ok hok k,?_⟩
        rw [Z.cut_length]
        rw [List.take_of_length_le (by rw [vals_length,Z.cut_length];omega),List.drop_of_length_le (by have:=HZ.out;omega),List.append_nil] at hrow
        exact hrow
      clear hc hok hrow
      go_wp2
      go_ret
      exact ⟨_,rfl,hkeep.out,hbw⟩
theorem cutAt_lev (A:Option Addr) (c:Nat) (us:List Nat) (l B:Nat) (w:World) (hp:Pts w B A us) (hB:B≤w.heap.size) (h1:1≤us.length) (h16:us.length≤16) (hl:l≤63) :
    Calls Tryz.prog 207 #[.slice A us.length c,.int .i64 (l:Int)] w fun e w' => ∃ v,e = .returned v∧Own w' w.heap.size v (Z.cut us (l + 1))∧Below w.heap.size w w':=by
  have h:=cutAt_c A c us (l + 1) B w hp hB h1 h16 (by omega)
  rw [show ((l + 1:Nat):Int) - 1 = (l:Int) by omega] at h
  exact h
/-! ### Cut -/
theorem cut_yes (A:Option Addr) (c:Nat) (us:List Nat) (l B:Nat) (w:World) (hp:Pts w B A us) (hB:B≤w.heap.size) (h1:1≤us.length) (h16:us.length≤16) (hl:l≤63) :
    Calls Tryz.prog 153 #[.slice A us.length c,.int .i64 (l:Int)] w fun e w' => ∃ v,e = .returned (.tuple #[v,.int .i64 0])∧Own w' w.heap.size v (Z.cut us (l + 1))∧Below w.heap.size w w':=by
  have hb:((l:Int) != -1) = true:=by rw [bne_iff_ne];omega
  go_enter Tryz.func153,Tryz.ntmps153
  go_wp2_with (first | (go_at_call 150;refine (right_yes _ _ _ _ h1 h16).mono ?_;rintro e w' ⟨rfl,rfl⟩) | (go_at_call 206;refine (isLevel_yes _ _ (by omega) (by omega)).mono ?_;rintro e w' ⟨rfl,rfl⟩) | (go_at_call 207;refine (cutAt_lev _ _ us l B _ hp hB h1 h16 hl).mono ?_;rintro e w1 ⟨v,rfl,hown,hbel⟩))
  go_ret2
  exact ⟨_,rfl,hown,hbel⟩
theorem rright_c (A:Option Addr) (n c:Nat) (w:World) (hn:n≤maxLen) :
    Calls Tryz.prog 115 #[.slice A n c] w fun e w' => e = .returned (.bool (decide (1≤n∧n≤16)))∧w = w':=by
  unfold maxLen at hn
  go_enter Tryz.func115,Tryz.ntmps115
  go_wp2
  all_goals go_ret
  all_goals refine ⟨ret_bool ?_,rfl⟩
  all_goals rw [Bool.eq_iff_iff]
  all_goals simp
  all_goals omega
theorem rright_yes (A:Option Addr) (n c:Nat) (w:World) (h1:1≤n) (h16:n≤16) :
    Calls Tryz.prog 115 #[.slice A n c] w fun e w' => e = .returned (.bool true)∧w = w' :=
  (rright_c A n c w (by unfold maxLen;omega)).mono fun _ _ ⟨he,hw⟩ => ⟨by rw [he,decide_eq_true ⟨h1,h16⟩],hw⟩
theorem rright_no (A:Option Addr) (n c:Nat) (w:World) (hn:n≤maxLen) (h:¬ (1≤n∧n≤16)) :
    Calls Tryz.prog 115 #[.slice A n c] w fun e w' => e = .returned (.bool false)∧w = w' :=
  (rright_c A n c w hn).mono fun _ _ ⟨he,hw⟩ => ⟨by rw [he,decide_eq_false h],hw⟩
theorem rbit_c (u l:Nat) (w:World) (_hu:u < 18446744073709551616) (hl:l≤63) :
    Calls Tryz.prog 173 #[.int .u64 (u:Int),.int .i64 (l:Int)] w fun e w' => e = .returned (.int .i64 (Z.bit u l:Int))∧w = w':=by
  have hb:=Z.bit_lt u l
  have hfin:Hid (wrap64 (((u:Int) / 2 ^ l).tmod 2) = (Z.bit u l:Int)):=by
    show _ = _
    rw [show (u:Int) / 2 ^ l = ((u / 2 ^ l:Nat):Int) by simp,Int.tmod_eq_emod_of_nonneg (Int.natCast_nonneg _),show ((u / 2 ^ l:Nat):Int) % 2 = (Z.bit u l:Int) by unfold Z.bit;simp]
    exact IntWalk.wrap64_in _ (by omega)
  go_enter Tryz.func173,Tryz.ntmps173
  go_wp2
  go_ret
  exact ⟨ret_int (by rw [hfin.out]),rfl⟩
theorem raddr_c (A:Option Addr) (c:Nat) (us:List Nat) (l B:Nat) (w:World) (hp:Pts w B A us) (h1:1≤us.length) (h16:us.length≤16) (hl:l≤63) :
    Calls Tryz.prog 123 #[.slice A us.length c,.int .i64 (l:Int)] w fun e w' => e = .returned (.int .i64 (Z.addr us l:Int))∧w = w':=by
  obtain ⟨b,off,rfl,hb,hc⟩:=hp.open_ (by intro h;simp [h] at h1)
  have hok:=hp.ok
  clear hp
  go_enter Tryz.func123,Tryz.ntmps123
  go_wp2
  go_loop [5,6] (fun a i => ∃ k:Nat,k≤us.length∧i = .int .i64 k∧a = .int .i64 (Z.addr (us.take k) l:Int)) (fun _ i => us.length - (intOf i).toNat)
  case atStart => exact ⟨0,Nat.zero_le _,rfl,rfl⟩
  case round =>
    obtain ⟨k,hk,rfl,rfl⟩:=hrel
    have hbd:=Z.addr_le (us.take k) l 16 (by simp;omega)
    by_cases hlt:k < us.length
    · obtain ⟨u,hu⟩:=get_lt hlt
      have hcell:=hc k u hu
      have hu64:=hok u (List.mem_of_getElem? hu)
      have hbit:=Z.bit_lt u l
      have hst:Hid (2 * (Z.addr (us.take k) l:Int) + (Z.bit u l:Int) = (Z.addr (us.take (k + 1)) l:Int)):=by
        show _ = _
        rw [Z.addr_take us l k hlt,(List.getElem?_eq_some_iff.1 hu).2]
        simp
      clear hc hu hok
      go_wp2_with (go_at_call 173;refine (rbit_c u l _ hu64 hl).mono ?_;rintro e w' ⟨rfl,rfl⟩)
      go_round
      case rel => exact ⟨k + 1,by omega,by go_num,by rw [hst.out]⟩
      case measure => simp [intOf];omega
    · go_wp2
      go_ret
      exact ⟨ret_int (by rw [List.take_of_length_le (by omega)]),rfl⟩
theorem rpower_c (n:Nat) (w:World) (hn:n≤40) :
    Calls Tryz.prog 227 #[.int .i64 (n:Int)] w fun e w' => e = .returned (.int .u64 ((2 ^ n:Nat):Int))∧w = w':=by
  go_enter Tryz.func227,Tryz.ntmps227
  go_wp2
  go_loop [3,4] (fun a i => ∃ k:Nat,k≤n∧i = .int .i64 k∧a = .int .u64 ((2 ^ k:Nat):Int)) (fun _ i => n - (intOf i).toNat)
  case atStart => exact ⟨0,Nat.zero_le _,rfl,rfl⟩
  case round =>
    obtain ⟨k,hk,rfl,rfl⟩:=hrel
    have hp:2 ^ k≤2 ^ 40:=Nat.pow_le_pow_right (by omega) (by omega)
    have hst:Hid (2 * ((2 ^ k:Nat):Int) = ((2 ^ (k + 1):Nat):Int)):=by
      show _ = _
      rw [Nat.pow_succ];omega
    have hex:Hid (∀ m,m = k→2 ^ k = 2 ^ m):=Lib.hid (fun m h => by rw [h])
    generalize 2 ^ k = P at *
    by_cases hlt:k < n
    · go_wp2
      go_round
      case rel => exact ⟨k + 1,by omega,by go_num,by rw [hst.out]⟩
      case measure => simp [intOf];omega
    · go_wp2
      go_ret
      exact ⟨by rw [hex.out n (by omega)];rfl,rfl⟩
theorem ralike_c (A A':Option Addr) (n c n' c':Nat) (w:World) (hn:n≤maxLen) :
    Calls Tryz.prog 55 #[.slice A n c,.slice A' n' c'] w fun e w' => e = .returned (.bool (decide ((1≤n∧n≤16)∧n = n')))∧w = w':=by
  by_cases h:1≤n∧n≤16
  · obtain ⟨h1,h2⟩:=h
    unfold maxLen at hn
    go_enter Tryz.func55,Tryz.ntmps55
    go_wp2_with (go_at_call 115;refine (rright_yes _ _ _ _ h1 h2).mono ?_;rintro e w' ⟨rfl,rfl⟩)
    all_goals go_ret
    all_goals refine ⟨ret_bool ?_,rfl⟩
    all_goals rw [Bool.eq_iff_iff]
    all_goals simp
    all_goals omega
  · have Hn:=Lib.hid hn
    have H:=Lib.hid h
    clear h
    unfold maxLen at hn
    go_enter Tryz.func55,Tryz.ntmps55
    go_wp2_with (go_at_call 115;refine (rright_no _ _ _ _ Hn.out H.out).mono ?_;rintro e w' ⟨rfl,rfl⟩)
    all_goals go_ret
    all_goals refine ⟨ret_bool ?_,rfl⟩
    have:=H.out
    rw [Bool.eq_iff_iff]
    simp
    omega
theorem ralike_yes (A A':Option Addr) (n c n' c':Nat) (w:World) (h1:1≤n) (h16:n≤16) (h:n = n') :
    Calls Tryz.prog 55 #[.slice A n c,.slice A' n' c'] w fun e w' => e = .returned (.bool true)∧w = w' :=
  (ralike_c A A' n c n' c' w (by unfold maxLen;omega)).mono fun _ _ ⟨he,hw⟩ => ⟨by rw [he,decide_eq_true ⟨⟨h1,h16⟩,h⟩],hw⟩
theorem ralike_no (A A':Option Addr) (n c n' c':Nat) (w:World) (hn:n≤maxLen) (h:¬ ((1≤n∧n≤16)∧n = n')) :
    Calls Tryz.prog 55 #[.slice A n c,.slice A' n' c'] w fun e w' => e = .returned (.bool false)∧w = w' :=
  (ralike_c A A' n c n' c' w hn).mono fun _ _ ⟨he,hw⟩ => ⟨by rw [he,decide_eq_false h],hw⟩
theorem rpart_c (A A':Option Addr) (c c':Nat) (us vs:List Nat) (B:Nat) (w:World) (hp:Pts w B A us) (hq:Pts w B A' vs) (h1:1≤us.length) (h16:us.length≤16) (hlen:us.length = vs.length) :
    Calls Tryz.prog 194 #[.slice A us.length c,.slice A' vs.length c'] w fun e w' => e = .returned (.int .i64 (Z.part us vs))∧w = w':=by
  have h2:1≤vs.length:=by omega
  have h26:vs.length≤16:=by omega
  have Hlen:=Lib.hid hlen
  clear hlen
  go_enter Tryz.func194,Tryz.ntmps194
  go_wp2
  go_loop [5] (fun i => ∃ k:Nat,k≤64∧i = .int .i64 ((k:Int) - 1)∧∀ m,k≤m→Z.addr us m = Z.addr vs m) (fun i => (intOf i + 1).toNat)
  case atStart => exact ⟨64,by omega,rfl,fun m hm => by rw [Z.addr_high hp.ok m hm,Z.addr_high hq.ok m hm]⟩
  case round =>
    obtain ⟨k,hk,rfl,hsame⟩:=hrel
    have Hs:=Lib.hid hsame
    clear hsame
    by_cases h0:k = 0
    · have hfin:Hid (Z.part us vs = -1):=by
        show _ = _
        subst h0
        have e:=Z.points_eq Hlen.out hp.ok hq.ok (fun l _ => Hs.out l (Nat.zero_le _))
        subst e
        exact Z.part_same us hp.ok
      subst h0
      go_wp2
      go_ret
      exact ⟨ret_int (by rw [hfin.out]),rfl⟩
    · obtain ⟨j,rfl⟩:∃ j,k = j + 1:=⟨k - 1,by omega⟩
      clear h0
      rw [show (((j + 1:Nat):Int) - 1) = (j:Int) by omega]
      by_cases hd:Z.addr us j = Z.addr vs j
      · have Hd:=Lib.hid hd
        have hb:((Z.addr us j:Int) != (Z.addr vs j:Int)) = false:=by rw [hd];simp
        clear hd
        go_wp2_with (first | (go_at_call 123;with_reducible (refine (raddr_c _ _ us j B _ hp h1 h16 (by omega)).mono ?_);rintro e w' ⟨rfl,rfl⟩) | (go_at_call 123;with_reducible (refine (raddr_c _ _ vs j B _ hq h2 h26 (by omega)).mono ?_);rintro e w' ⟨rfl,rfl⟩))
        go_round
        case rel => exact ⟨j,by omega,rfl,fun m hm => by
          rcases Nat.eq_or_lt_of_le hm with e | e
          · rw [← e];exact Hd.out
          · exact Hs.out m (by omega)⟩
        case measure => simp [intOf]
      · have hfin:Hid (Z.part us vs = (j:Int)):=Lib.hid (Z.part_eq Hlen.out hp.ok hq.ok j hd (fun m hm _ => Hs.out m (by omega)))
        have hb:((Z.addr us j:Int) != (Z.addr vs j:Int)) = true:=by rw [bne_iff_ne];omega
        clear hd
        go_wp2_with (first | (go_at_call 123;with_reducible (refine (raddr_c _ _ us j B _ hp h1 h16 (by omega)).mono ?_);rintro e w' ⟨rfl,rfl⟩) | (go_at_call 123;with_reducible (refine (raddr_c _ _ vs j B _ hq h2 h26 (by omega)).mono ?_);rintro e w' ⟨rfl,rfl⟩))
        go_ret
        exact ⟨ret_int (by rw [hfin.out]),rfl⟩
theorem rcmp_c (A A':Option Addr) (c c':Nat) (us vs:List Nat) (B:Nat) (w:World) (hp:Pts w B A us) (hq:Pts w B A' vs) (h1:1≤us.length) (h16:us.length≤16) (hlen:us.length = vs.length) :
    Calls Tryz.prog 138 #[.slice A us.length c,.slice A' vs.length c'] w fun e w' => e = .returned (.int .i64 (Z.cmp us vs))∧w = w':=by
  have H:=Lib.hid hlen
  have h2:1≤vs.length:=by omega
  have h26:vs.length≤16:=by omega
  rcases Z.part_spec hlen hp.ok hq.ok with ⟨e,r⟩ | ⟨l,hl,e,_,_⟩
  · have hfin:Hid (Z.cmp us vs = 0):=by show _ = _;subst r;exact Z.cmp_same us hp.ok
    have He:=Lib.hid e
    clear hlen e r
    go_enter Tryz.func138,Tryz.ntmps138
    go_wp2_with (go_at_call 194;refine (rpart_c _ _ _ _ us vs B _ hp hq h1 h16 H.out).mono ?_;rintro e w' ⟨rfl,rfl⟩;rw [He.out])
    go_ret
    exact ⟨by rw [hfin.out];rfl,rfl⟩
  · have hfin:=Lib.hid (Z.cmp_at e)
    have He:=Lib.hid e
    clear hlen e
    have hl':l≤63:=by omega
    go_enter Tryz.func138,Tryz.ntmps138
    go_wp2_with (first | (go_at_call 194;refine (rpart_c _ _ _ _ us vs B _ hp hq h1 h16 H.out).mono ?_;rintro e w' ⟨rfl,rfl⟩;rw [He.out]) | (go_at_call 123;with_reducible (refine (raddr_c _ _ us l B _ hp h1 h16 hl').mono ?_);rintro e w' ⟨rfl,rfl⟩) | (go_at_call 123;with_reducible (refine (raddr_c _ _ vs l B _ hq h2 h26 hl').mono ?_);rintro e w' ⟨rfl,rfl⟩))
    all_goals go_ret
    all_goals refine ⟨?_,rfl⟩
    all_goals rw [hfin.out]
    all_goals first | (rw [if_pos (by assumption)];rfl) | (rw [if_neg (by assumption)];rfl)
/-! ### Same -/
theorem rsame_len (A A':Option Addr) (n c n' c':Nat) (w:World) (hn:n≠n') :
    Calls Tryz.prog 105 #[.slice A n c,.slice A' n' c'] w fun e w' => e = .returned (.bool false)∧Below w.heap.size w w':=by
  have hb:((n:Int) != (n':Int)) = true:=by rw [bne_iff_ne];omega
  go_enter Tryz.func105,Tryz.ntmps105
  go_wp2
  go_ret
  exact ⟨rfl,Below.refl _ _⟩
theorem rsame_c (A A':Option Addr) (c c':Nat) (us vs:List Nat) (B:Nat) (w:World) (hp:Pts w B A us) (hq:Pts w B A' vs) (hB:B≤w.heap.size) (hm:us.length≤maxLen) :
    Calls Tryz.prog 105 #[.slice A us.length c,.slice A' vs.length c'] w fun e w' => e = .returned (.bool (decide (us = vs)))∧Below w.heap.size w w':=by
  by_cases hlen:us.length = vs.length
  case neg =>
    refine (rsame_len A A' _ c _ c' w hlen).mono fun e w' ⟨he,hw⟩ => ⟨?_,hw⟩
    rw [he,decide_eq_false (by rintro rfl;exact hlen rfl)]
  have hb:((us.length:Int) != (vs.length:Int)) = false:=by rw [hlen];simp
  unfold maxLen at hm
  by_cases hn:us = []
  · subst hn
    obtain rfl:vs = []:=List.eq_nil_of_length_eq_zero (by simpa using hlen.symm)
    clear hlen hb
    go_enter Tryz.func105,Tryz.ntmps105
    go_wp2
    refine wp_loop_rounds 1 ?_
    rw [rounds_succ]
    go_wp2
    go_ret
    exact ⟨rfl,Below.refl _ _⟩
  obtain ⟨b,off,rfl,hb1,hc⟩:=hp.open_ hn
  obtain ⟨b',off',rfl,hb2,hc'⟩:=hq.open_ (by rintro rfl;simp at hlen;exact hn hlen)
  have hok:=hp.ok
  have hok':=hq.ok
  have Hlen:=Lib.hid hlen
  clear hp hq hlen hn
  go_enter Tryz.func105,Tryz.ntmps105
  go_wp2
  go_loopw [5] (fun i wr => ∃ k:Nat,k≤us.length∧i = .int .i64 k∧us.take k = vs.take k∧Below w.heap.size w wr) (fun i _ => us.length - (intOf i).toNat)
  case atStart => exact ⟨0,Nat.zero_le _,rfl,rfl,Below.refl _ _⟩
  case round =>
    obtain ⟨k,hk,rfl,htake,hbw⟩:=hrel
    have Htake:=Lib.hid htake
    clear htake
    by_cases hlt:k < us.length
    · have hlt':k < vs.length:=by have:=Hlen.out;omega
      obtain ⟨u,hu⟩:=get_lt hlt
      obtain ⟨v,hv⟩:=get_lt hlt'
      have hcell:=(hbw.cell (p:=⟨b,off + k,none⟩) (Nat.lt_of_lt_of_le hb1 hB)).trans (hc k u hu)
      have hcell':=(hbw.cell (p:=⟨b',off' + k,none⟩) (Nat.lt_of_lt_of_le hb2 hB)).trans (hc' k v hv)
      have Hu:=Lib.hid hu
      have Hv:=Lib.hid hv
      clear hc hu hok hc' hv hok'
      by_cases huv:u = v
      · have hd:((u:Int) != (v:Int)) = false:=by rw [huv];simp
        have Huv:=Lib.hid huv
        clear huv
        go_wp2
        go_region
        all_goals go_wp2
        all_goals go_roundw
        case rel =>
          refine ⟨k + 1,by omega,by go_num,?_,hbw.drew⟩
          rw [Z.take_snoc us k hlt,Z.take_snoc vs k hlt',Htake.out,(List.getElem?_eq_some_iff.1 Hu.out).2,(List.getElem?_eq_some_iff.1 Hv.out).2,Huv.out]
        case measure => simp [intOf];omega
      · have hd:((u:Int) != (v:Int)) = true:=by rw [bne_iff_ne];omega
        have hfin:Hid (decide (us = vs) = false):=by
          refine decide_eq_false ?_
          rintro rfl
          have h1:=Hu.out
          rw [Hv.out] at h1
          injection h1 with h1
          exact huv h1.symm
        clear huv
        go_wp2
        go_region
        all_goals go_wp2
        all_goals go_ret
        all_goals exact ⟨by rw [hfin.out];rfl,hbw.drew⟩
    · have hfin:Hid (decide (us = vs) = true):=by
        refine decide_eq_true ?_
        have h:=Htake.out
        rwa [List.take_of_length_le (by omega),List.take_of_length_le (by have:=Hlen.out;omega)] at h
      clear hc hok hc' hok'
      go_wp2
      go_ret
      exact ⟨by rw [hfin.out];rfl,hbw⟩
/-! ### Cut -/
def bitSum (u:Nat) (l:Nat):Nat→Nat
  | 0 => 0
  | n + 1 => bitSum u l n + Z.bit u (l + n) * 2 ^ (l + n)
theorem bitSum_cut (u l:Nat):∀ n,bitSum u l n + Z.cutN u (l + n) = Z.cutN u l
  | 0 => by simp [bitSum]
  | n + 1 => by
    have h:=bitSum_cut u l n
    have s:=Z.cutN_succ u (l + n)
    simp only [bitSum]
    rw [show l + (n + 1) = l + n + 1 by omega]
    omega
theorem bitSum_le (u l n:Nat):bitSum u l n≤u:=by
  have h:=bitSum_cut u l n
  have:=Z.cutN_le u l
  omega
theorem bitSum_all (u l n:Nat) (hu:u < 18446744073709551616) (h:64≤l + n):bitSum u l n = Z.cutN u l:=by
  have h1:=bitSum_cut u l n
  rw [Z.cutN_high u (l + n) (Nat.lt_of_lt_of_le hu (by have:=Nat.pow_le_pow_right (n:=2) (by omega) h;omega))] at h1
  omega
theorem sum_step (u l n:Nat) (hu:u < 18446744073709551616) :
    IntKind.u64.wrap ((bitSum u l n:Int) + IntKind.u64.wrap ((Z.bit u (l + n):Int) * 2 ^ (l + n))) = (bitSum u l (n + 1):Int):=by
  have h1:=bitSum_le u l (n + 1)
  have e0:bitSum u l (n + 1) = bitSum u l n + Z.bit u (l + n) * 2 ^ (l + n):=rfl
  rw [show (Z.bit u (l + n):Int) * 2 ^ (l + n) = ((Z.bit u (l + n) * 2 ^ (l + n):Nat):Int) by simp]
  have e1:IntKind.u64.wrap ((Z.bit u (l + n) * 2 ^ (l + n):Nat):Int) = ((Z.bit u (l + n) * 2 ^ (l + n):Nat):Int):=IntWalk.u64_in _ ⟨Int.natCast_nonneg _,by omega⟩
  rw [e1,IntWalk.u64_in _ ⟨by omega,by omega⟩,e0]
  omega
set_option maxRecDepth 100000 in
theorem rcut_c (A:Option Addr) (c:Nat) (us:List Nat) (l B:Nat) (w:World) (hp:Pts w B A us) (hB:B≤w.heap.size) (h1:1≤us.length) (h16:us.length≤16) (hl:l≤64) :
    Calls Tryz.prog 170 #[.slice A us.length c,.int .i64 ((l:Int) - 1)] w fun e w' => ∃ v,e = .returned v∧Own w' w.heap.size v (Z.cut us l)∧Below w.heap.size w w':=by
  obtain ⟨b,off,rfl,hb,hc⟩:=hp.open_ (by intro h;simp [h] at h1)
  have hok:=hp.ok
  clear hp
  obtain ⟨i0,hi0,hz0,hz1,hz2⟩:=info_parts info_u64
  go_enter Tryz.func170,Tryz.ntmps170
  go_wp2
  have hown0:(w.alloc (.cells #[] 55)).ownsRow w.heap.size 55 1 (.slice (some ⟨w.heap.size,0,none⟩) 0 0) 0 []:=World.ownsRow_made w #[] 0 (Nat.le_refl _) (by unfold maxLen;omega) (by simp)
  have hbel0:Below w.heap.size w (w.alloc (.cells #[] 55)):=(Below.refl _ _).alloc (Nat.le_refl _) _
  go_loopw [5,6,7,8] (fun v i _ _ wr => ∃ j:Nat,j≤us.length∧i = .int .i64 j∧wr.ownsRow w.heap.size 55 1 v j ((vals (Z.cut us l)).take j)∧Below w.heap.size w wr) (fun _ i _ _ _ => us.length - (intOf i).toNat)
  case atStart => exact ⟨0,Nat.zero_le _,rfl,by simpa using hown0,hbel0⟩
  case round =>
    obtain ⟨j,hj,rfl,hrow,hbw⟩:=hrel
    clear hown0 hbel0
    by_cases hlt:j < us.length
    · obtain ⟨u,hu⟩:=get_lt hlt
      have hcell:=(hbw.cell (p:=⟨b,off + j,none⟩) (Nat.lt_of_lt_of_le hb hB)).trans (hc j u hu)
      have hu64:=hok u (List.mem_of_getElem? hu)
      have hget:Hid ((vals (Z.cut us l))[j]? = some (.int .u64 (Z.cutN u l:Int))):=Lib.hid (vals_get (by simp [Z.cut,hu]))
      have Hrow:=Lib.hid hrow
      clear hc hok hrow hu
      go_wp2
      go_loop [7,8] (fun c k => ∃ m:Nat,l + m≤64∧k = .int .i64 ((l + m:Nat):Int)∧c = .int .u64 (bitSum u l m:Int)) (fun _ k => 64 - (intOf k).toNat)
      case atStart => exact ⟨0,by omega,rfl,rfl⟩
      case round =>
        obtain ⟨m,hm,rfl,rfl⟩:=hrel
        by_cases hlt2:l + m < 64
        · have hbt:=Z.bit_lt u (l + m)
          have hst:=Lib.hid (sum_step u l m hu64)
          go_wp2_with (go_at_call 173;refine (rbit_c u (l + m) _ hu64 (by omega)).mono ?_;rintro e w' ⟨rfl,rfl⟩)
          go_round
          case rel => exact ⟨m + 1,by omega,by go_num,by rw [hst.out]⟩
          case measure => simp [intOf];omega
        · rw [bitSum_all u l m hu64 (by omega)]
          go_wp2_with (at_builtin;refine wpList_append_own _ rfl (.tmp 33) (.tmp 35) 23 rfl w.heap.size 55 i0 (.int .u64 0) 1 8 Tryz.underlying23 hi0 hz0 hz1 hz2 rfl (by decide) u5 j _ rfl (Hrow.out.alloc _) ⟨wr.heap.size,0,none⟩ 1 1 [.int .u64 (Z.cutN u l:Int)] rfl rfl (cell_one_new _ _ _) (by intro x hx;simp at hx;subst hx;rfl) (by unfold maxLen;omega) (by omega) (by have:=hbw.size;simp;omega) ?_;intro v1 w1 hown1 hgrow1 _)
          go_roundw
          case rel =>
            refine ⟨j + 1,by omega,by go_num,?_,(hbw.alloc (by have:=hbw.size;omega) _).grown hgrow1 (by have:=hbw.size;simp;omega) (fun k hk => (Hrow.out.lt k hk).1)⟩
            have hj':j < (vals (Z.cut us l)).length:=by rw [vals_length,Z.cut_length];exact hlt
            rw [Z.take_snoc _ j hj',show (vals (Z.cut us l))[j] = .int .u64 (Z.cutN u l:Int) from (List.getElem?_eq_some_iff.1 hget.out).2]
            exact hown1
          case measure => simp [intOf];omega
    · have hkeep:Hid (Own wr w.heap.size u5 (Z.cut us l)):=by
        refine ⟨Z.cut_ok hok l,?_⟩
        rw [Z.cut_length]
        obtain rfl:j = us.length:=by omega
        rw [List.take_of_length_le (by rw [vals_length,Z.cut_length];omega)] at hrow
        exact hrow
      clear hc hok hrow
      go_wp2
      go_ret
      exact ⟨_,rfl,hkeep.out,hbw⟩
theorem rcut_lev (A:Option Addr) (c:Nat) (us:List Nat) (l B:Nat) (w:World) (hp:Pts w B A us) (hB:B≤w.heap.size) (h1:1≤us.length) (h16:us.length≤16) (hl:l≤63) :
    Calls Tryz.prog 170 #[.slice A us.length c,.int .i64 (l:Int)] w fun e w' => ∃ v,e = .returned v∧Own w' w.heap.size v (Z.cut us (l + 1))∧Below w.heap.size w w':=by
  have h:=rcut_c A c us (l + 1) B w hp hB h1 h16 (by omega)
  rw [show ((l + 1:Nat):Int) - 1 = (l:Int) by omega] at h
  exact h
theorem rpower_P (n P:Nat) (w:World) (hn:n≤40) (hP:2 ^ n = P) :
    Calls Tryz.prog 227 #[.int .i64 (n:Int)] w fun e w' => e = .returned (.int .u64 (P:Int))∧w = w':=by
  subst hP;exact rpower_c n w hn
end Go.Proofs.YtkeepngaaleakaaGreatDoor
