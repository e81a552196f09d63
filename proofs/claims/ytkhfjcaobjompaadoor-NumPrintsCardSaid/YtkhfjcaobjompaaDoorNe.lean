/-
  CONTRACTS of package num, fourth part: points and boxes as texts (pointText, Point, isBox, Box).
-/
import Derived.Test.YtkhfjcaobjompaaDoorNd
import Derived.Test.YtkhfjcaobjompaaDoorRf6
namespace Go.Proofs.YtkhfjcaobjompaaDoor
open Go.ChangeShapes Go.WideShapes Go.ChangeAt Go.RowKit

theorem row_below {w w' : World} {base C : Nat} {e : TypeId} {size : Nat} {v : Value} {n : Nat} {xs : List Value} (h : w.ownsRow base e size v n xs) (hb : Below C w w') (hC : w.heap.size ≤ C) : w'.ownsRow base e size v n xs := by
  refine ⟨h.1, ?_⟩
  rcases h.2 with h2 | ⟨g, cap, cur, hv, hg, hh, r⟩
  · exact .inl h2
  · exact .inr ⟨g, cap, cur, hv, hg, (hb.block g (by have := (Array.getElem?_eq_some_iff.1 hh).1; omega)).trans hh, r⟩
/-- the texts of numbers, as values -/
def svals (us : List Nat) : List Value := us.map fun (u : Nat) => Value.string (str (Lib.decDigits u))
theorem svals_length (us : List Nat) : (svals us).length = us.length := by simp [svals]
theorem svals_get {us : List Nat} {k u : Nat} (h : us[k]? = some u) : (svals us)[k]? = some (.string (str (Lib.decDigits u))) := by simp [svals, h]
theorem info_str : (Tryd.prog.info? 9).map (fun i => (i.zero, i.size, i.bytes)) = some (some (.string ⟨#[]⟩), 1, 16) := by kernel_rfl
theorem set_mid {α : Type} (xs ys : List α) (hlen : xs.length = ys.length) (k : Nat) (v : α) (h : xs[k]? = some v) : (xs.take k ++ ys.drop k).set k v = xs.take (k + 1) ++ ys.drop (k + 1) := by
  have hk := (List.getElem?_eq_some_iff.1 h).1
  have hl : (xs.take k).length = k := by simp; omega
  rw [List.set_append_right _ _ (by omega), hl, Nat.sub_self, List.drop_eq_getElem_cons (show k < ys.length by omega), List.set_cons_zero, List.take_add_one, h, List.append_assoc]
  rfl

set_option maxRecDepth 100000 in
theorem pointText_c (A : Option Addr) (c : Nat) (us : List Nat) (B : Nat) (w : World) (hw : Ready w) (hp : Pts w B A us) (hB : B ≤ w.heap.size) (h1 : 1 ≤ us.length) (h16 : us.length ≤ 16) :
    Calls Tryd.prog 30 #[.slice A us.length c] w fun e w' => e = .returned (.string (str (T.ptText us))) ∧ Below w.heap.size w w' := by
  obtain ⟨b, off, rfl, hb, hc⟩ := hp.open_ (by intro h; simp [h] at h1)
  have hok := hp.ok
  clear hp
  obtain ⟨i0, hi0, hz0, hz1, hz2⟩ := info_parts info_str
  go_enter Tryd.func30, Tryd.ntmps30
  go_wp2_with (at_make; refine wpList_make_full _ rfl (.tmp 7) (.tmp 7) 59 rfl w.heap.size 9 i0 _ 1 Tryd.underlying59 hi0 hz0 hz1 .i64 .i64 _ _ us.length rfl rfl rfl rfl (by rw [hz2]; omega) (by unfold maxLen; omega) (Nat.le_refl _) ?_; intro w1 hown hg)
  have hb1 : Below w.heap.size w w1 := (Below.refl _ _).grown hg (Nat.le_refl _) (by simp)
  have hgl : w.heap.size < w1.heap.size := (hown.lt w.heap.size rfl).2
  generalize hZ : (madeCells (Value.string ⟨#[]⟩).cells (us.length * 1)).toList = Z0 at *
  clear hZ hg
  have HZ : Hid (Z0.length = us.length) := Lib.hid (by simpa using hown.1)
  have Hc := Lib.hid hc
  have Hok := Lib.hid hok
  clear hc hok
  go_loopw [11] (fun i wr => ∃ j : Nat, j ≤ us.length ∧ i = .int .i64 j ∧ wr.ownsRow w.heap.size 9 1 (.slice (some ⟨w.heap.size, 0, none⟩) us.length us.length) us.length ((svals us).take j ++ Z0.drop j) ∧ Below w.heap.size w wr ∧ w.heap.size < wr.heap.size) (fun i _ => us.length - (intOf i).toNat)
  case atStart => exact ⟨0, Nat.zero_le _, rfl, by simpa using hown, hb1, hgl⟩
  case round =>
    obtain ⟨j, hj, rfl, hrow, hbw, hlw⟩ := hrel
    clear hown hb1 hgl
    have Hbw := Lib.hid hbw
    have Hrow := Lib.hid hrow
    clear hbw hrow
    by_cases hlt : j < us.length
    · obtain ⟨u, hu⟩ := get_lt hlt
      have hcell := (Hbw.out.cell (p := ⟨b, off + j, none⟩) (Nat.lt_of_lt_of_le hb hB)).trans (Hc.out j u hu)
      have hu64 := Lib.hid (Hok.out u (List.mem_of_getElem? hu))
      have hget := Lib.hid (svals_get hu)
      have hxx : Hid (∃ x, ((svals us).take j ++ Z0.drop j)[j]? = some x) := Lib.hid (get_lt (by simp [svals_length]; have := HZ.out; omega))
      clear hu
      go_wp2_with (go_at_call 17; (with_reducible refine (number_c u hu64.out _ (hw.on Hbw.out)).mono ?_); rintro e w2 ⟨rfl, hb2⟩; have hr2 := Lib.hid (row_below Hrow.out hb2 (Nat.le_refl _)); have Hb2 := Lib.hid hb2; clear hb2; obtain ⟨x, hx⟩ := hxx.out; have hcx : w2.cell? ⟨w.heap.size, j, none⟩ = some x := (hr2.out.cellAt j (by omega)).trans hx; have hfr := hr2.out.frozenAt j; have hst := Lib.hid (hr2.out.stored j (.string (str (Lib.decDigits u)))); clear hx)
      go_roundw
      case rel =>
        refine ⟨j + 1, by omega, by go_num, ?_, (Hbw.out.trans (Hb2.out.mono Hbw.out.size)).setCell (by simp) _, by have := Hb2.out.size; simp; omega⟩
        rw [← set_mid _ _ (by rw [svals_length, HZ.out]) j _ hget.out]
        exact hst.out.1
      case measure => simp [intOf]; omega
    · obtain rfl : j = us.length := by omega
      have hrow := Hrow.out
      rw [List.take_of_length_le (by rw [svals_length]; omega), List.drop_of_length_le (by have := HZ.out; omega), List.append_nil] at hrow
      have hlen := T.ptText_len us Hok.out
      have hcells : Hid (∀ (j : Nat) x, (us.map fun u => str (Lib.decDigits u))[j]? = some x → wr.cell? ⟨w.heap.size, 0 + j, none⟩ = some (.string x)) := Lib.hid (fun j x hx => by
        have hjl : j < us.length := by have := lt_get hx; simpa using this
        rw [Nat.zero_add, hrow.cellAt j (by omega)]
        simp only [List.getElem?_map, Option.map_eq_some_iff] at hx
        obtain ⟨u, hu, rfl⟩ := hx
        exact svals_get hu)
      have hmap : Hid ((us.map fun u => str (Lib.decDigits u)).map (·.data.toList) = us.map Lib.decDigits) := Lib.hid (by rw [List.map_map]; exact List.map_congr_left fun u _ => str_list _)
      have hjoin : Hid (Calls Tryd.prog 39 #[.slice (some ⟨w.heap.size, 0, none⟩) us.length us.length, .string ⟨#[44]⟩] wr fun e w' => e = .returned (.string (str (T.ptText us))) ∧ Below wr.heap.size wr w') := Lib.hid (by
        have h := Tryd.strings_Join w.heap.size 0 us.length (us.map fun u => str (Lib.decDigits u)) ⟨#[44]⟩ wr hcells.out hlw (by simp; omega) (by simp) (by
          rw [hmap.out]
          show (T.ptText us).length ≤ _
          omega)
        rw [hmap.out, List.length_map] at h
        exact h)
      clear hrow
      go_wp2_with (go_at_call 39; (with_reducible refine hjoin.out.mono ?_); rintro e w2 ⟨rfl, hb2⟩)
      go_ret
      exact ⟨rfl, Below.andThen Hbw.out hb2⟩
end Go.Proofs.YtkhfjcaobjompaaDoor
