import Derived.Test.YtkeepngaaleakaaGreatDoorProg
import Derived.Lib.Strings
import Derived.Lib.Slices
import Derived.Lib.Small
import Derived.Lib.Walk
import Derived.Lib.BitFns
namespace Go.Proofs.YtkeepngaaleakaaGreatDoor
theorem wrap_twice (k b q r:Int) (hb0:0≤b) (hb:b≤8) (hk0:0≤k) (hk:k≤56) (hq:q = b) (hr:r = k + b) :
    (k + ((q + 9223372036854775808) % 18446744073709551616 - 9223372036854775808) + 9223372036854775808) % 18446744073709551616 - 9223372036854775808 = r:=by
  subst hq hr;omega
theorem len_tab (y:Int) (h0:0≤y) (h8:y≤255):Lib.len8 (y % 256) = (Lib.bitLen y.toNat:Int):=by
  have e:y % 256 = y:=by omega
  rw [e];exact Lib.len8_of y h0 h8
theorem len_shift (x y:Int) (k p:Nat) (hp:p = 2 ^ k) (h0:0≤x) (h1:x≤18446744073709551615) (hx:(p:Int)≤x) (hy:y = x / p) :
    (Lib.bitLen x.toNat:Int) = (k:Int) + (Lib.bitLen y.toNat:Int):=by
  have e:y.toNat = x.toNat / 2 ^ k:=by
    rw [hy,← hp]
    obtain ⟨X,rfl⟩:=Int.eq_ofNat_of_zero_le h0
    simp only [Int.toNat_natCast]
    rw [show (X:Int) / (p:Int) = ((X / p:Nat):Int) by simp,Int.toNat_natCast]
  have s:=Lib.bitLen_shift k x.toNat (by rw [← hp];omega) (by omega)
  rw [← e] at s
  rw [s]
  exact Int.natCast_add _ _
theorem len_end (x y:Int) (k p:Nat) (hp:p = 2 ^ k) (hk:k≤56) (h0:0≤x) (h1:x≤18446744073709551615) (hx:(p:Int)≤x) (hy:y = x / p) (hy0:0≤y) (hy8:y≤255) :
    ((k:Int) + ((Lib.len8 (y % 256) + 9223372036854775808) % 18446744073709551616 - 9223372036854775808) + 9223372036854775808) % 18446744073709551616 - 9223372036854775808 = (Lib.bitLen x.toNat:Int) :=
  wrap_twice _ _ _ _ (Int.natCast_nonneg _) (by have:=Lib.bitLen_le8' y hy0 hy8;omega) (Int.natCast_nonneg _) (by omega) (len_tab y hy0 hy8) (len_shift x y k p hp h0 h1 hx hy)
set_option maxHeartbeats 4000000 in
set_option maxRecDepth 100000 in
theorem len64_c (x:Int) (w:World) (h0:0≤x) (h1:x≤18446744073709551615) :
    Calls Tryz.prog 246 #[.int .u64 x] w fun e w' => e = .returned (.int .i64 (Lib.bitLen x.toNat))∧w = w':=by
  go_enter Tryz.func246,Tryz.ntmps246
  go_wp2
  all_goals (go_ret;refine ⟨congrArg Ending.returned (congrArg (Value.int IntKind.i64) ?_),rfl⟩)
  · exact len_end x _ 56 72057594037927936 (by decide) (by omega) h0 h1 (by omega) (by omega) (by omega) (by omega)
  · exact len_end x _ 48 281474976710656 (by decide) (by omega) h0 h1 (by omega) (by omega) (by omega) (by omega)
  · exact len_end x _ 40 1099511627776 (by decide) (by omega) h0 h1 (by omega) (by omega) (by omega) (by omega)
  · exact len_end x _ 32 4294967296 (by decide) (by omega) h0 h1 (by omega) (by omega) (by omega) (by omega)
  · exact len_end x _ 24 16777216 (by decide) (by omega) h0 h1 (by omega) (by omega) (by omega) (by omega)
  · exact len_end x _ 16 65536 (by decide) (by omega) h0 h1 (by omega) (by omega) (by omega) (by omega)
  · exact len_end x _ 8 256 (by decide) (by omega) h0 h1 (by omega) (by omega) (by omega) (by omega)
  · have hb:=Lib.bitLen_le8' x h0 (by omega)
    have hl:=len_tab x h0 (by omega)
    rw [hl]
    omega
end Go.Proofs.YtkeepngaaleakaaGreatDoor
