/-
  WHAT THE LIBRARY's TABLES HOLD IN THE WORLD OF A CALL ('Ready'), and the contracts of the shelf in the forms that the walks of layer 2 take.
-/
import Derived.Test.YtkhfjcaobjompaaDoorBase
import Derived.Test.YtkhfjcaobjompaaDoorNm2
import Derived.Test.YtkhfjcaobjompaaDoorShelf
import Derived.Lib.SmallJoins
import Derived.Lib.Walk
import Derived.Lib.ItoaMem
import Derived.BigCall
import Derived.BigGuard
import Derived.Laws.RangeAny
namespace Go.Proofs.YtkhfjcaobjompaaDoor
open Go.RowKit Go.Sort Go.Lib

/-- the table of powers of ten, the error of a number too great, and some length are there -/
structure Ready (w : World) : Prop where
  tab : Lib.TabIs Tryd.prog w "internal/strconv.uint64pow10" .u64 Lib.pow10Tab
  rng : ∃ te pe, w.cell? ⟨2, 0, none⟩ = some (.iface te pe)
  len : ∃ m, w.cell? ⟨0, 0, none⟩ = some (.int .i64 m)
theorem gPow : Tryd.prog.globalNamed "internal/strconv.uint64pow10" = some 3 := by kernel_rfl
theorem Ready.on {w w' : World} (h : Ready w) (hb : Below w.heap.size w w') : Ready w' := by
  obtain ⟨te, pe, hr⟩ := h.rng
  obtain ⟨m, hm⟩ := h.len
  refine ⟨Joins.tab_stays gPow h.tab hb (Nat.le_refl _), ⟨te, pe, ?_⟩, m, ?_⟩
  · rw [hb.cell (World.block_lt_of_cell? w _ hr)]; exact hr
  · rw [hb.cell (World.block_lt_of_cell? w _ hm)]; exact hm
theorem Ready.alloc {w : World} (h : Ready w) (o : Obj) : Ready (w.alloc o) := h.on ((Below.refl _ w).alloc (Nat.le_refl _) o)
theorem Ready.drew {w : World} (h : Ready w) : Ready w.drew := h.on (Below.refl _ w).drew

/-- a list of bytes as a string -/
abbrev str (l : List UInt8) : ByteArray := ⟨l.toArray⟩
theorem str_list (l : List UInt8) : (str l).data.toList = l := by simp
theorem list_str (s : ByteArray) : str s.data.toList = s := by cases s; rfl
theorem str_size (l : List UInt8) : (str l).size = l.length := by simp [ByteArray.size]

theorem parse_ok (s : ByteArray) (w : World) (hs : s.size < 4294967281) (h1 : T.numText s.data.toList = true) (h2 : T.val 0 s.data.toList < 18446744073709551616) :
    Calls Tryd.prog 23 #[.string s, .int .i64 10, .int .i64 64] w fun e w' => e = .returned (.tuple #[.int .u64 ((T.rdNum s.data.toList).1 : Int), .nilIface]) ∧ Below w.heap.size w w' := by
  have hp := T.parse_num h1
  rw [if_pos h2] at hp
  have hr : (T.rdNum s.data.toList).1 = T.val 0 s.data.toList := by unfold T.rdNum; rw [if_pos h1, if_pos h2]
  refine (Tryd.strconv_ParseUint_10_at64_ok s (by omega) _ hp w).mono ?_
  rintro e w' ⟨rfl, hw⟩
  refine ⟨by rw [hr], ?_⟩
  rcases hw with rfl | rfl
  · exact Below.refl _ _
  · exact Joins.below_bytesWorld _ _ _ _ (Nat.le_refl _)
theorem parse_long (s : ByteArray) (w : World) (hs : s.size < 4294967281) (hw : Ready w) (h1 : T.numText s.data.toList = true) (h2 : ¬ T.val 0 s.data.toList < 18446744073709551616) :
    Calls Tryd.prog 23 #[.string s, .int .i64 10, .int .i64 64] w fun e w' => ∃ t p, e = .returned (.tuple #[.int .u64 18446744073709551615, .iface t p]) ∧ Below w.heap.size w w' := by
  have hp := T.parse_num h1
  rw [if_neg h2] at hp
  obtain ⟨te, pe, hr⟩ := hw.rng
  refine (Tryd.strconv_ParseUint_10_at64_range s (by omega) hp _ w hr (.inr ⟨te, pe, rfl⟩)).mono ?_
  rintro e w' ⟨N, rfl, _, _, hb⟩
  exact ⟨_, _, rfl, hb⟩
end Go.Proofs.YtkhfjcaobjompaaDoor
