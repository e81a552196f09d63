/-
  CONTRACTS of package pantileref02 (the document's answers for layer 2), second part: points.
-/
import Derived.Test.YtkhfjcaobjompaaDoorRf2
namespace Go.Proofs.YtkhfjcaobjompaaDoor
open Go.ChangeShapes Go.WideShapes Go.ChangeAt Go.RowKit

theorem ext_list (s : ByteArray) (a b : Nat) : (s.extract a b).data.toList = (s.data.toList.take b).drop a := by
  rw [ByteArray.data_extract, Array.toList_extract, List.extract_eq_drop_take', List.drop_take]
theorem ext_size (s : ByteArray) (a b : Nat) (hb : b ≤ s.size) : (s.extract a b).size = b - a := by
  rw [ByteArray.size_extract]; omega
theorem pts_one (w : World) (u : Nat) (hu : u < 18446744073709551616) (e : TypeId) : Pts (w.alloc (.cells #[.int .u64 (u : Int)] e)) (w.heap.size + 1) (some ⟨w.heap.size, 0, none⟩) [u] := by
  refine ⟨fun x hx => by simp at hx; omega, fun _ => ⟨w.heap.size, 0, rfl, by omega, fun i x hi => ?_⟩⟩
  have : i = 0 := by have := lt_get hi; simp at this; omega
  subst this
  simp at hi
  subst hi
  rw [Nat.zero_add, World.cell?_alloc_new]
  rfl

namespace T
theorem ptText_one (u : Nat) : ptText [u] = Lib.decDigits u := by unfold ptText; rw [List.map_cons, List.map_nil, Lib.join_one]
theorem join_snoc (c : UInt8) : ∀ (ps : List (List UInt8)) (q : List UInt8), ps ≠ [] → Lib.join (ps ++ [q]) [c] = Lib.join ps [c] ++ c :: q
  | [], _, h => absurd rfl h
  | [p], q, _ => by rw [List.singleton_append, join_cons2, Lib.join_one, Lib.join_one]
  | p :: p' :: ps, q, _ => by
    show Lib.join (p :: p' :: (ps ++ [q])) [c] = _
    rw [join_cons2, join_cons2]
    have := join_snoc c (p' :: ps) q (by simp)
    rw [List.cons_append] at this
    rw [this, List.append_assoc]
    rfl
theorem ptText_snoc {us : List Nat} (u : Nat) (h : us ≠ []) : ptText (us ++ [u]) = ptText us ++ 44 :: Lib.decDigits u := by
  unfold ptText
  rw [List.map_append, List.map_cons, List.map_nil]
  exact join_snoc 44 _ _ (by simpa using h)
theorem ptText_len : ∀ (us : List Nat), Z.Ok us → (ptText us).length ≤ 21 * us.length
  | [], _ => by simp [ptText, Lib.join_nil]
  | [u], h => by
    rw [ptText_one]
    have := dec_len (h u (List.mem_cons_self ..))
    simp; omega
  | u :: v :: us, h => by
    have ih := ptText_len (v :: us) (fun x hx => h x (List.mem_cons_of_mem _ hx))
    have h1 := dec_len (h u (List.mem_cons_self ..))
    unfold ptText at ih ⊢
    rw [List.map_cons, List.map_cons, join_cons2]
    simp at ih ⊢
    omega
end T

theorem rpoint_c (A : Option Addr) (c : Nat) (us : List Nat) (B : Nat) (w : World) (hp : Pts w B A us) (hB : B ≤ w.heap.size) (h1 : 1 ≤ us.length) (h16 : us.length ≤ 16) :
    Calls Tryd.prog 20 #[.slice A us.length c] w fun e w' => e = .returned (.string (str (T.ptText us))) ∧ Below w.heap.size w w' := by
  obtain ⟨b, off, rfl, hb, hc⟩ := hp.open_ (by intro h; simp [h] at h1)
  have hok := hp.ok
  clear hp
  obtain ⟨u0, hu0⟩ := get_lt (us := us) (k := 0) (by omega)
  have hcell0 := hc 0 u0 hu0
  rw [Nat.add_zero] at hcell0
  have hu64 := Lib.hid (hok u0 (List.mem_of_getElem? hu0))
  have ht1 : Hid (T.ptText (us.take 1) = Lib.decDigits u0) := by
    show _ = _
    rw [List.take_add_one, hu0]
    exact T.ptText_one u0
  have Hc := Lib.hid hc
  have Hok := Lib.hid hok
  clear hc hok hu0
  go_enter Tryd.func20, Tryd.ntmps20
  go_wp2_with (go_at_call 18; refine (rnumber_c u0 hu64.out _).mono ?_; rintro e w1 ⟨rfl, hb1⟩)
  have Hb1 := Lib.hid hb1
  clear hb1 hcell0
  go_loopw [3, 4] (fun s i wr => ∃ k : Nat, 1 ≤ k ∧ k ≤ us.length ∧ i = .int .i64 k ∧ s = .string (str (T.ptText (us.take k))) ∧ Below w.heap.size w wr) (fun _ i _ => us.length - (intOf i).toNat)
  case atStart => exact ⟨1, Nat.le_refl _, h1, rfl, by rw [ht1.out], Hb1.out⟩
  case round =>
    obtain ⟨k, hk1, hk, rfl, rfl, hbw⟩ := hrel
    have Hbw := Lib.hid hbw
    clear hbw
    have hlen : (T.ptText (us.take k)).length ≤ 336 := by
      have := T.ptText_len (us.take k) (fun x hx => Hok.out x (List.mem_of_mem_take hx))
      simp at this
      omega
    by_cases hlt : k < us.length
    · obtain ⟨u, hu⟩ := get_lt hlt
      have hcell := (Hbw.out.cell (p := ⟨b, off + k, none⟩) (Nat.lt_of_lt_of_le hb hB)).trans (Hc.out k u hu)
      have hu64 := Lib.hid (Hok.out u (List.mem_of_getElem? hu))
      have hl20 := dec_len hu64.out
      have hst : Hid (T.ptText (us.take (k + 1)) = T.ptText (us.take k) ++ 44 :: Lib.decDigits u) := by
        show _ = _
        rw [List.take_add_one, hu]
        exact T.ptText_snoc u (by intro h; have := congrArg List.length h; rw [List.length_take, List.length_nil] at this; omega)
      clear hu
      obtain ⟨X, hX⟩ : ∃ X, T.ptText (us.take k) = X := ⟨_, rfl⟩
      obtain ⟨Y, hY⟩ : ∃ Y, Lib.decDigits u = Y := ⟨_, rfl⟩
      have hfin : Hid (Value.string (str X ++ str [44] ++ str Y) = Value.string (str (T.ptText (us.take (k + 1))))) := by
        show _ = _
        rw [hst.out, hX, hY, str_app, str_app]
        simp
      rw [hX] at hlen ⊢
      rw [hY] at hl20
      have HY := Lib.hid hY
      clear hX hY hst
      go_wp2_with (go_at_call 18; refine (rnumber_c u hu64.out _).mono ?_; rintro e w2 ⟨rfl, hb2⟩; rw [HY.out])
      go_roundw
      case rel => exact ⟨k + 1, by omega, by omega, by go_num, hfin.out, Below.andThen Hbw.out hb2⟩
      case measure => simp [intOf]; omega
    · have he : us.take k = us := List.take_of_length_le (by omega)
      rw [he] at hlen ⊢
      clear he
      go_wp2
      go_ret
      exact ⟨rfl, Hbw.out⟩
end Go.Proofs.YtkhfjcaobjompaaDoor
