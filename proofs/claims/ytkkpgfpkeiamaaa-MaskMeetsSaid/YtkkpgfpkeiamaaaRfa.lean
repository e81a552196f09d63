/-
  CONTRACTS of package pantileref03 (the document's answers for layer 3), fourth part: Cell; Around once more.
-/
import Derived.Test.YtkkpgfpkeiamaaaRf9
namespace Go.Proofs.Ytkkpgfpkeiamaaa
open Go.ChangeShapes Go.WideShapes Go.ChangeAt Go.RowKit

set_option maxRecDepth 100000 in
theorem cell_step (u k m : Nat) (hu : u < 18446744073709551616) (hk : k ≤ 64) (hm : m < k) :
    IntKind.u64.wrap ((Z.cutN u k : Int) + ((2 ^ m - 1 : Nat) : Int) + IntKind.u64.wrap (2 ^ m)) = ((Z.cutN u k + (2 ^ (m + 1) - 1) : Nat) : Int) := by
  have hp := Nat.two_pow_pos m
  have hc := Bx.cell_lt hu hk
  have hm2 : 2 ^ (m + 1) ≤ 2 ^ k := Nat.pow_le_pow_right (by omega) (by omega)
  have h64 := Bx.pow_le_64 hk
  rw [Nat.pow_succ] at hm2 ⊢
  have e : (2 : Int) ^ m = ((2 ^ m : Nat) : Int) := by simp
  rw [e]
  generalize 2 ^ m = p at *
  generalize 2 ^ k = q at *
  generalize Z.cutN u k = x at *
  have e1 : IntKind.u64.wrap (p : Int) = (p : Int) := IntWalk.u64_in _ ⟨by omega, by omega⟩
  have e2 : IntKind.u64.wrap ((x : Int) + ((p - 1 : Nat) : Int) + (p : Int)) = (x : Int) + ((p - 1 : Nat) : Int) + (p : Int) := IntWalk.u64_in _ ⟨by omega, by omega⟩
  rw [e1, e2]
  omega

set_option maxRecDepth 100000 in
set_option maxHeartbeats 800000 in
theorem r3cell_v (A : Option Addr) (c K : Nat) (us : List Nat) (B : Nat) (w : World) (hp : Pts w B A us) (hB : B ≤ w.heap.size) (h1 : 1 ≤ us.length) (h16 : us.length ≤ 16) (hK : K ≤ 64) :
    Calls Try.prog 22 #[.slice A us.length c, .int .i64 ((K : Int) - 1)] w fun e w' => ∃ v1 v2, e = .returned (.agg #[v1, v2]) ∧ Own w' w.heap.size v1 (Z.cut us K) ∧ Own w' w.heap.size v2 (Bx.cellHi us K) ∧ Below w.heap.size w w' := by
  have P := Lib.hid hp
  clear hp
  have hB0 := Nat.le_trans hB (below_alloc w (.cells #[.slice none 0 0, .slice none 0 0] 24)).size
  have P0 := Lib.hid (P.out.below' (below_alloc w (.cells #[.slice none 0 0, .slice none 0 0] 24)) hB)
  have Hne : Hid (Z.cut us K ≠ []) := Lib.hid (by intro h; have := congrArg List.length h; rw [Z.cut_length] at this; simp at this; simp [this] at h1)
  go_enter Try.func22, Try.ntmps22
  go_wp2_with (go_at_call 34; refine (rcut_c _ _ us K _ _ P0.out hB0 h1 h16 hK).mono ?_; rintro e w2 ⟨v2, rfl, own2, hb2⟩; obtain ⟨gl, cap, hv2, hg1, hg2, hrow2⟩ := own2.row Hne.out; rw [Z.cut_length] at hv2 hrow2; subst hv2)
  rw [World.size_alloc] at hrow2 hg1
  have hsz := hb2.size
  rw [World.size_alloc] at hsz
  have hbx : w2.heap[w.heap.size]? = some (.cells #[.slice none 0 0, .slice none 0 0] 24 (0, 0)) := (hb2.block w.heap.size (by simp)).trans (heap_at _ _ _ rfl)
  have hnew : P2 w (w2.alloc (.cells #[.slice (some ⟨gl, 0, none⟩) us.length cap, .slice none 0 0] 24)) w2.heap.size (.slice (some ⟨gl, 0, none⟩) us.length cap) (.slice none 0 0) us.length 0 (vals (Z.cut us K)) [] :=
    ⟨(Below.andThen (below_alloc _ _) hb2).alloc (by omega) _, by omega, by simp, bx0_at (heap_past _ hbx), bx0_at (heap_at _ _ _ rfl), hrow2.alloc _, World.ownsRow_nil _ _ _ _, .inr (by simp [Value.ownBlock]), by simp [Value.ownBlock]; omega, by simp [Value.ownBlock]⟩
  clear hrow2 own2 hbx
  have hlg := fun i => Bx.g_lt P.out.ok i
  generalize hbb : w2.heap.size = bb at *
  go_loopw [6, 7, 8] (fun i _ _ wr => ∃ (k : Nat) (vH : Value), k ≤ us.length ∧ i = .int .i64 k ∧ P2 w wr bb (.slice (some ⟨gl, 0, none⟩) us.length cap) vH us.length k (vals (Z.cut us K)) ((vals (Bx.cellHi us K)).take k)) (fun i _ _ _ => us.length - (intOf i).toNat)
  case atStart => exact ⟨0, _, Nat.zero_le _, rfl, hnew⟩
  case round =>
    obtain ⟨k, vH, hk, rfl, hS⟩ := hrel
    obtain ⟨AH, cH, rfl⟩ := owns_slice hS.2.2.2.2.2.2.1
    clear hnew
    by_cases hlt : k < us.length
    · have hcell : wr.cell? ⟨gl, k, none⟩ = some (.int .u64 (Z.cutN (Bx.g us k) K : Int)) := by
        rw [hS.2.2.2.2.2.1.cellAt k (by omega)]
        refine vals_get ?_
        rw [Bx.g_get (by rw [Z.cut_length]; exact hlt), Bx.g_cut K hlt]
      have b1 := hlg k
      obtain ⟨r0, r1, r2, r3⟩ := hS.2.2.2.2.1
      have S := Lib.hid hS
      have hn2 : Hid (∀ (y : Int), y = ((Z.cutN (Bx.g us k) K + (2 ^ K - 1) : Nat) : Int) → (vals (Bx.cellHi us K)).take k ++ [.int .u64 y] = (vals (Bx.cellHi us K)).take (k + 1)) := Lib.hid (fun y h => take_next _ hlt h)
      have hstep := Lib.hid (fun m hm => cell_step (Bx.g us k) K m b1 hK hm)
      have h0 : Hid ((Z.cutN (Bx.g us k) K : Int) = ((Z.cutN (Bx.g us k) K + (2 ^ 0 - 1) : Nat) : Int)) := Lib.hid (by simp)
      clear hlg hS b1
      generalize Z.cutN (Bx.g us k) K = x at *
      go_wp2
      go_loop [7, 8] (fun c kk => ∃ m : Nat, m ≤ K ∧ kk = .int .i64 (m : Int) ∧ c = .int .u64 ((x + (2 ^ m - 1) : Nat) : Int)) (fun _ kk => K - (intOf kk).toNat)
      case atStart => exact ⟨0, by omega, rfl, by rw [h0.out]⟩
      case round =>
        obtain ⟨m, hm, rfl, rfl⟩ := hrel
        by_cases hlt2 : m < K
        · have hst := Lib.hid (hstep.out m hlt2)
          go_wp2_with fail
          go_round
          case rel => exact ⟨m + 1, by omega, by go_num, by rw [hst.out]⟩
          case measure => simp [intOf]; omega
        · have hmK : m = K := by omega
          subst hmK
          go_wp2_with (at_builtin; refine app_one rfl (.tmp 34) (.tmp 36) rfl (w.heap.size + 1) _ k _ rfl S.out.2.2.2.2.2.2.1 rfl (by simp) (by omega) (by have := S.out.2.1; have := S.out.2.2.1; omega) ?_; intro v3 w3 hown3 hgrow3 hl3; obtain ⟨A3, c3, rfl⟩ := owns_slice hown3; have s2 := p2_hi S.out _ hown3 hgrow3 hl3; obtain ⟨y0, y1, y2, y3⟩ := s2.1)
          go_roundw
          case rel => exact ⟨k + 1, _, by omega, by go_num, p2_eq s2.2 rfl (hn2.out _ (by omega))⟩
          case measure => simp [intOf]; omega
    · have hkk : Hid (k = us.length) := Lib.hid (by omega)
      obtain ⟨r0, r1, r2, r3⟩ := hS.2.2.2.2.1
      obtain ⟨q0, q1, q2, q3⟩ := hS.2.2.2.1
      have S := Lib.hid hS
      clear hlg hS
      go_wp2
      have o1 : Own wr (w.heap.size + 1) (.slice (some ⟨gl, 0, none⟩) us.length cap) (Z.cut us K) := ⟨Z.cut_ok P.out.ok K, by rw [Z.cut_length]; exact S.out.2.2.2.2.2.1⟩
      have o2 : Own wr (w.heap.size + 1) (.slice AH k cH) (Bx.cellHi us K) := own_tab S.out.2.2.2.2.2.2.1 hkk.out (fun i _ => Bx.cell_lt (Bx.g_lt P.out.ok i) hK)
      obtain ⟨k0, k1, x1, x2, hbel⟩ := p2_out S.out.2.2.2.1 S.out.1 o1 o2
      refine bodyPost_ret (v := .agg #[.slice (some ⟨gl, 0, none⟩) us.length cap, .slice AH k cH]) (by simp [results, Try.results22, go_sem, k0, k1]) rfl ?_
      exact ⟨_, _, rfl, x1, x2, hbel⟩
theorem r3cell_c (A : Option Addr) (c k : Nat) (us ml mh : List Nat) (B : Nat) (w : World) (hml : Z.cut us k = ml) (hmh : Bx.cellHi us k = mh) (hp : Pts w B A us) (hB : B ≤ w.heap.size) (h1 : 1 ≤ us.length) (h16 : us.length ≤ 16) (hk : k ≤ 64) :
    Calls Try.prog 22 #[.slice A us.length c, .int .i64 ((k : Int) - 1)] w fun e w' => ∃ A1 c1 A2 c2, e = .returned (boxV A1 ml.length c1 A2 mh.length c2) ∧ Pts w' w'.heap.size A1 ml ∧ Pts w' w'.heap.size A2 mh ∧ Below w.heap.size w w' := by
  refine (r3cell_v A c k us B w hp hB h1 h16 hk).mono ?_
  rintro e w' ⟨v1, v2, rfl, o1, o2, hb⟩
  rw [hml] at o1
  rw [hmh] at o2
  obtain ⟨A1, c1, x1, y1⟩ := o1.pts
  obtain ⟨A2, c2, x2, y2⟩ := o2.pts
  exact ⟨A1, c1, A2, c2, by unfold boxV; rw [x1, x2], y1, y2, hb⟩

end Go.Proofs.Ytkkpgfpkeiamaaa
