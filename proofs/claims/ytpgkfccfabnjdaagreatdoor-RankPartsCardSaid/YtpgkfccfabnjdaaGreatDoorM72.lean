import Derived.Test.YtpgkfccfabnjdaaGreatDoorM71
import Derived.Test.YtpgkfccfabnjdaaGreatDoorM64
import Derived.Test.YtpgkfccfabnjdaaGreatDoorM15
/-
  CONTRACTS of package rank: together.
-/
namespace Go.Proofs.YtpgkfccfabnjdaaGreatDoor
open Go.RowKit Go.Shelf
open Tr (T S4 Ent)
attribute [local go_sem] Oper.semAt_some

theorem shape_places (w : World) (a b c d e : Value) : (Instr.field 154 (.agg #[a, b, c, d, e]) 2).run Tryz.prog w = .ok c w := by kernel_rfl
theorem shape_len {w w2 : World} {B k g l : Nat} {pre : List Nat} {ks : List (Nat × T)} (h : Node w B k (.br g l pre ks)) (hB : B ≤ w.heap.size) (h2 : Below w.heap.size w w2) {n : Nat} (hn : (Sl.keys (kidL ks)).length = n) :
    Calls Tryz.prog 96 #[.pointer (some ⟨g, 0, none⟩)] w2 fun e w' => ∃ (A : Option Addr) (c : Nat) (lev : Int) (m : Nat) (A' : Option Addr) (c' : Nat) (d : Bool) (v : Nat), e = .returned (.agg #[.int .i64 lev, .slice A m c, .slice A' n c', .bool d, .int .u64 (v : Int)]) ∧ Below w2.heap.size w2 w' := by
  refine (nShape_c (h.below h2 hB (Nat.le_refl _)) (Nat.le_trans hB h2.size)).mono ?_
  rintro e w' ⟨⟨A, c, A', c', h1, _⟩, h3⟩
  exact ⟨A, c, _, _, A', c', _, _, by rw [h1, ← hn]; rfl, h3⟩
theorem put_count (a : Nat) (t : T) : ∀ ks : List (Nat × T), (Tr.entsL (Sl.put a t ks)).length ≤ (Tr.entsL ks).length + t.ents.length
  | [] => by simp [Sl.put, Tr.entsL_cons, Tr.entsL_nil]
  | p :: L => by
    have ih := put_count a t L
    simp only [Sl.put]
    split
    · simp only [Tr.entsL_cons, List.length_append]; omega
    · split
      · simp only [Tr.entsL_cons, List.length_append]; omega
      · simp only [Tr.entsL_cons, List.length_append]; omega
theorem Tr.uniK_count : ∀ (xs ks : List (Nat × T)), (Tr.entsL (Tr.uniK ks xs)).length ≤ (Tr.entsL ks).length + (Tr.entsL xs).length
  | [], ks => by simp [Tr.uniK]
  | x :: xs, ks => by
    have h1 := Tr.uniK_count xs (Sl.put x.1 x.2 ks)
    have h2 := put_count x.1 x.2 ks
    rw [Tr.entsL_cons, List.length_append]
    show (Tr.entsL (Tr.uniK (Sl.put x.1 x.2 ks) xs)).length ≤ _
    omega
theorem take_all {k g l : Nat} {pre : List Nat} {ks : List (Nat × T)} (h : Tr.Wf k (.br g l pre ks)) : ks.take (Sl.idx (T.br g l pre ks).ks ((65536 : Nat) : Int)) = ks := by
  refine List.take_of_length_le ?_
  show ks.length ≤ Sl.idx ks ((65536 : Nat) : Int)
  refine Classical.byContradiction fun hn => ?_
  obtain ⟨x, hx⟩ := get_lt (us := ks) (k := Sl.idx ks ((65536 : Nat) : Int)) (by omega)
  have h1 := Sl.idx_above (Tr.kids_fit h).2 ((65536 : Nat) : Int) (Nat.le_refl _) hx
  have h2 := h.lt16 x (List.mem_of_getElem? hx)
  omega
structure TogJ (w : World) (k gy l : Nat) (pre : List Nat) (kx ky : List (Nat × T)) (x j : Nat) (W : World) : Prop where
  cur : ∃ g ty, W.heap[w.heap.size]? = some (.cells #[.pointer (some ⟨g, 0, none⟩)] ty (0, 0)) ∧ Node W W.heap.size k (.br g l pre (Tr.uniK kx (ky.take j)))
  c0 : W.cell? ⟨x + 1, 0, none⟩ = some (.int .i64 0)
  c1 : W.cell? ⟨x, 0, none⟩ = some (.pointer (some ⟨gy, 0, none⟩))
  c2 : W.cell? ⟨x + 2, 0, none⟩ = some (.int .i64 ((65536 : Nat) : Int))
  dfr : W.heap[x + 3]? = some (.deferred (some []))
  bel : Below w.heap.size w W
  size : w.heap.size < x ∧ x + 5 ≤ W.heap.size
section
variable {w W : World} {k gy l x j : Nat} {pre : List Nat} {kx ky : List (Nat × T)}
theorem TogJ.keep {W' : World} (h : TogJ w k gy l pre kx ky x j W) (hk : CellKeep W W') (hs : W.heap.size ≤ W'.heap.size) (hb : Below w.heap.size W W') (h0 : W'.heap[w.heap.size]? = W.heap[w.heap.size]?) (h3 : W'.heap[x + 3]? = W.heap[x + 3]?) : TogJ w k gy l pre kx ky x j W' := by
  obtain ⟨g, ty, a1, a2⟩ := h.cur
  exact ⟨⟨g, ty, h0.trans a1, a2.keepc hk hs⟩, hk _ _ h.c0, hk _ _ h.c1, hk _ _ h.c2, h3.trans h.dfr, h.bel.trans hb, h.size.1, Nat.le_trans h.size.2 hs⟩
theorem TogJ.put (h : TogJ w k gy l pre kx ky x j W) (hx : w.heap.size < x) {o o' : Obj} (hl : W.heap[x + 4]? = some o) (ho : o.isCells = false) : TogJ w k gy l pre kx ky x j (W.putObj (x + 4) o') :=
  h.keep (CellKeep.putObj hl ho) (by simp) (below_putObj W o' (by omega)) (World.putObj_heap_other (by omega)) (World.putObj_heap_other (by omega))
theorem TogJ.drewN (h : TogJ w k gy l pre kx ky x j W) (n : Nat) : TogJ w k gy l pre kx ky x j (W.drewN n) :=
  h.keep (CellKeep.of_below (below_drewN n (Below.refl W.heap.size W))) (Nat.le_refl _) (below_drewN n (Below.refl _ _)) rfl rfl
def togWorld (W : World) (g : Nat) : World := ((W.alloc (.cells #[.pointer (some ⟨g, 0, none⟩)] 75)).alloc (.cells #[.int .i64 0] 3)).alloc (.cells #[.int .i64 65536] 3)
theorem togWorld_size (W : World) (g : Nat) : (togWorld W g).heap.size = W.heap.size + 3 := by simp [togWorld]
theorem tog_start {B gx : Nat} {W0 : World} {ty : TypeId} (hb : Below w.heap.size w W0) (hx : W0.heap.size = x) (hR : W0.heap[w.heap.size]? = some (.cells #[.pointer (some ⟨gx, 0, none⟩)] ty (0, 0))) (hn : Node w B k (.br gx l pre kx)) (hB : B ≤ w.heap.size) (r0 : Loop) :
    TogJ w k gy l pre kx ky x 0 (rangeWorld (togWorld W0 gy) r0) ∧ (rangeWorld (togWorld W0 gy) r0).heap[x + 4]? = some (.loop r0) := by
  subst hx
  have hbl : Below W0.heap.size W0 (rangeWorld (togWorld W0 gy) r0) := (((((Below.refl _ W0).alloc (Nat.le_refl _) _).alloc (by simp) _).alloc (by simp; omega) _).alloc (by simp; omega) _).alloc (by simp; omega) _
  have g0 : (rangeWorld (togWorld W0 gy) r0).heap[W0.heap.size]? = some (.cells #[.pointer (some ⟨gy, 0, none⟩)] 75) := hav_old (hav_old (hav_old (hav_old (hav_next rfl))))
  have g1 : (rangeWorld (togWorld W0 gy) r0).heap[W0.heap.size + 1]? = some (.cells #[.int .i64 0] 3) := hav_old (hav_old (hav_old (hav_next (by simp))))
  have g2 : (rangeWorld (togWorld W0 gy) r0).heap[W0.heap.size + 2]? = some (.cells #[.int .i64 65536] 3) := hav_old (hav_old (hav_next (by simp)))
  have g3 : (rangeWorld (togWorld W0 gy) r0).heap[W0.heap.size + 3]? = some (.deferred (some [])) := hav_old (hav_next (togWorld_size ..))
  have g4 : (rangeWorld (togWorld W0 gy) r0).heap[W0.heap.size + 4]? = some (.loop r0) := hav_next (by rw [World.size_alloc, togWorld_size])
  have hsz : W0.heap.size + 5 ≤ (rangeWorld (togWorld W0 gy) r0).heap.size := by have := (Array.getElem?_eq_some_iff.1 g4).1; omega
  have hws := hb.size
  have hlt := (Array.getElem?_eq_some_iff.1 hR).1
  have hB1 := hb.trans (hbl.mono hws)
  exact ⟨⟨⟨gx, ty, (hbl.block _ hlt).trans hR, hn.below hB1 hB (by omega)⟩, (hav_cell g1).1, (hav_cell g0).1, (hav_cell g2).1, g3, hB1, hlt, hsz⟩, g4⟩
theorem tog_step {W1 W2 : World} {g g2 a : Nat} {s : T} {ty : TypeId} {R2 : Loop} (hx : w.heap.size < x) (hC : TogJ w k gy l pre kx ky x j W1) (hl : W1.heap[x + 4]? = some (.loop R2)) (hX : W1.heap[w.heap.size]? = some (.cells #[.pointer (some ⟨g, 0, none⟩)] ty (0, 0)))
    (hi : ky[j]? = some (a, s)) (ha : Z.addr s.pre l = a) (hn2 : Node W2 W2.heap.size k (.br g2 l pre (Sl.put (Z.addr s.pre l) s (Tr.uniK kx (ky.take j))))) (hb2 : Below W1.heap.size W1 W2) :
    (W2.setCell ⟨w.heap.size, 0, none⟩ (.pointer (some ⟨g2, 0, none⟩))).heap[x + 4]? = some (.loop R2) ∧ TogJ w k gy l pre kx ky x (j + 1) (W2.setCell ⟨w.heap.size, 0, none⟩ (.pointer (some ⟨g2, 0, none⟩))) := by
  have hsz := hC.size
  have hs2 := hb2.size
  have hlow : ∀ k, k ≠ w.heap.size → (W2.setCell ⟨w.heap.size, 0, none⟩ (.pointer (some ⟨g2, 0, none⟩))).heap[k]? = W2.heap[k]? := fun k hk => Below.heap_setCell _ _ _ k hk
  have hkc := CellKeep.of_below hb2
  have hset : ∀ p v, p.block ≠ w.heap.size → W1.cell? p = some v → (W2.setCell ⟨w.heap.size, 0, none⟩ (.pointer (some ⟨g2, 0, none⟩))).cell? p = some v := fun p v hp e => (World.cell?_of_block (hlow p.block hp)).trans (hkc p v e)
  have hB2 : Below w.heap.size w (W2.setCell ⟨w.heap.size, 0, none⟩ (.pointer (some ⟨g2, 0, none⟩))) := (hC.bel.trans (hb2.mono (by omega))).setCell (p := ⟨w.heap.size, 0, none⟩) (Nat.le_refl _) _
  have hX2 : W2.heap[w.heap.size]? = some (.cells #[.pointer (some ⟨g, 0, none⟩)] ty (0, 0)) := (hb2.block _ (by omega)).trans hX
  have hX3 := heap_setCell_same W2 w.heap.size 0 _ ty (.pointer (some ⟨g2, 0, none⟩)) hX2
  refine ⟨(hlow _ (by omega)).trans ((hb2.block _ (by omega)).trans hl), ⟨g2, ty, hX3, ?_⟩, hset _ _ (by show x + 1 ≠ _; omega) hC.c0, hset _ _ (by show x ≠ _; omega) hC.c1, hset _ _ (by show x + 2 ≠ _; omega) hC.c2, (hlow _ (by omega)).trans ((hb2.block _ (by omega)).trans hC.dfr), hB2, hsz.1, by simp; omega⟩
  have := node_var (v := .pointer (some ⟨g2, 0, none⟩)) hX2 hn2
  rw [World.size_setCell, Tr.uniK_take hi]
  rw [ha] at this
  exact this
end
set_option maxRecDepth 1000000 in
set_option maxHeartbeats 4000000 in
theorem kTog_c {w : World} {B k ga gb l : Nat} {pre : List Nat} {ka kb : List (Nat × T)} (ha : Node w B k (.br ga l pre ka)) (hb : Node w B k (.br gb l pre kb)) (hB : B ≤ w.heap.size) (hT : ∀ w', Below w.heap.size w w' → Tz w')
    (hN : (Tr.entsL ka).length + (Tr.entsL kb).length ≤ 200000000) :
    Calls Tryz.prog 202 #[.pointer (some ⟨ga, 0, none⟩), .pointer (some ⟨gb, 0, none⟩)] w fun e w' => ∃ g' ks, e = .returned (.pointer (some ⟨g', 0, none⟩)) ∧ Node w' w'.heap.size k (.br g' l pre ks) ∧ Tr.UniOf k ga gb l pre ka kb g' ks ∧ Below w.heap.size w w' := by
  refine (callsIn_wide (n := 8)).1 ?_
  refine callsIn_of_wp_marks Tryz.func202 rfl trivial ?_ rfl
  simp only [Tryz.ntmps202, List.size_toArray, List.length_cons, List.length_nil, Nat.reduceAdd, Nat.reduceSub, Array.replicate_succ, Array.replicate_zero, List.push_toArray, List.append_toArray, List.nil_append, List.cons_append]
  have HX := Lib.hid (And.intro ha (And.intro hb (And.intro hB (And.intro hT hN))))
  obtain ⟨na, hna⟩ : ∃ na, (Sl.keys (kidL ka)).length = na := ⟨_, rfl⟩
  obtain ⟨nb, hnb⟩ : ∃ nb, (Sl.keys (kidL kb)).length = nb := ⟨_, rfl⟩
  have HSa := Lib.hid fun (w2 : World) (h2 : Below w.heap.size w w2) => shape_len ha hB h2 hna
  have HSb := Lib.hid fun (w2 : World) (h2 : Below w.heap.size w w2) => shape_len hb hB h2 hnb
  clear ha hb hB hT hN hna hnb
  have hfld := shape_places
  by_cases hlt : (na : Int) < (nb : Int)
  · have d1 : decide ((na : Int) < (nb : Int)) = true := decide_eq_true hlt
    gi_wp2_with (refine ⟨trivial, ?_⟩; first
      | ((with_reducible refine (callsIn_wide.2 (HSa.out _ (by ((repeat (first | refine Below.drew ?_ | (with_reducible refine below_drewN _ ?_) | refine Below.alloc ?_ (by first | omega | (simp; done) | (simp; omega)) _ | refine Below.setCell ?_ (by first | omega | (simp; done) | (simp; omega)) _)); first | exact Below.refl _ _ | assumption | exact below_drewN _ (Below.refl _ _) | exact below_drewN _ (below_drewN _ (Below.refl _ _)))))).mono ?_); rintro e w2 ⟨A2, d2, lev2, n2, A2', c2', dd2, v2, rfl, hb2⟩; have hB2 : Below w.heap.size w w2 := (below_alloc w _).trans (hb2.mono (by simp)); have q2 : w2.heap[w.heap.size]? = some (.cells #[.pointer (some ⟨ga, 0, none⟩)] 75 (0, 0)) := (hb2.block _ (by simp)).trans (heap_at w _ _ rfl))
      | ((with_reducible refine (callsIn_wide.2 (HSb.out _ (by ((repeat (first | refine Below.drew ?_ | (with_reducible refine below_drewN _ ?_) | refine Below.alloc ?_ (by first | omega | (simp; done) | (simp; omega)) _ | refine Below.setCell ?_ (by first | omega | (simp; done) | (simp; omega)) _)); first | exact Below.refl _ _ | assumption | exact below_drewN _ (Below.refl _ _) | exact below_drewN _ (below_drewN _ (Below.refl _ _)))))).mono ?_); rintro e w3 ⟨A3, d3, lev3, n3, A3', c3', dd3, v3, rfl, hb3⟩; have hB3 : Below w.heap.size w w3 := hB2.trans (hb3.mono hB2.size); have q3 : w3.heap[w.heap.size]? = some (.cells #[.pointer (some ⟨ga, 0, none⟩)] 75 (0, 0)) := (hb3.block _ (Array.getElem?_eq_some_iff.1 q2).1).trans q2; have c3 : w3.cell? ⟨w.heap.size, 0, none⟩ = some (.pointer (some ⟨ga, 0, none⟩)) := (by rw [cell_of_row w3 _ _ _ _ (0, 0) q3]; rfl); have f3 : w3.frozen? ⟨w.heap.size, 0, none⟩ = false := frozen_of_row w3 _ 0 _ _ q3))
    generalize hW0 : w3.setCell ⟨w.heap.size, 0, none⟩ (.pointer (some ⟨gb, 0, none⟩)) = W0 at *
    have hB0 : Below w.heap.size w W0 := by rw [← hW0]; exact hB3.setCell (p := ⟨w.heap.size, 0, none⟩) (Nat.le_refl _) _
    have hR0 : W0.heap[w.heap.size]? = some (.cells #[.pointer (some ⟨gb, 0, none⟩)] 75 (0, 0)) := by rw [← hW0]; exact heap_setCell_same w3 w.heap.size 0 _ _ _ q3
    clear hW0 hlt hB2 hB3 hb2 hb3 q2 q3 c3 f3
    gi_wp2_with (refine ⟨trivial, ?_⟩; (with_reducible refine (callsIn_wide.2 (kids_c (some ⟨ga, 0, none⟩) 0 65536 _)).mono ?_); rintro e w' ⟨rfl, rfl⟩)
    have hW6 := togWorld_size W0 ga
    change Code.wpIn _ _ _ _ _ _ (togWorld W0 ga)
    generalize hW : togWorld W0 ga = W6 at *
    refine range_at rfl (by omega) (gf := 164) (lb := #[.pointer (some ⟨W0.heap.size + 1, 0, none⟩), .pointer (some ⟨W0.heap.size, 0, none⟩), .pointer (some ⟨W0.heap.size + 2, 0, none⟩)]) rfl trivial (enters_of Tryz.func164 (by kernel_rfl) rfl) ?_
    intro fn _
    generalize hr : recOf fn _ _ _ _ _ = r0
    obtain ⟨hC, hrec⟩ := tog_start (x := W0.heap.size) (kx := kb) (ky := ka) hB0 rfl hR0 HX.out.2.1 HX.out.2.2.1 r0
    rw [hW] at hC hrec
    have hL : W6.heap.size + 1 = W0.heap.size + 4 := by rw [hW6]
    rw [hL]
    have hxw : w.heap.size < W0.heap.size := (Array.getElem?_eq_some_iff.1 hR0).1
    refine (kids1_in 7 (W0.heap.size + 4) (W0.heap.size + 1) (W0.heap.size) (W0.heap.size + 2) B k 65536 (.br ga l pre ka) (fun j W => TogJ w k ga l pre kb ka W0.heap.size j W ∧ W.heap[W0.heap.size + 4]? = some (.loop r0)) (fun _ _ => False) ?cells ?drawn ?round (rangeWorld W6 r0) ⟨hC, hrec⟩).mono ?post
    case cells =>
      rintro j W ⟨h, -⟩
      exact ⟨h.c0, h.c1, h.c2, (HX.out.1).below h.bel HX.out.2.2.1 (Nat.le_refl _), HX.out.2.2.2.1 _ h.bel⟩
    case drawn =>
      rintro j W i ⟨h, h2⟩
      exact ⟨h.drewN i, h2⟩
    case round =>
      rintro j a s W ⟨hC, hrec⟩ hi -
      have hi : (ka)[j]? = some (a, s) := hi
      refine (YieldAt.mono (?_ : YieldAt _ _ _ _ _ _ fun e W3 => e = .returned (.bool true) ∧ TogJ w k ga l pre kb ka W0.heap.size (j + 1) W3 ∧ W3.heap[W0.heap.size + 4]? = some (.loop r0)) fun e W3 h => .inl h)
      refine one_round (r := r0) (a1 := { tmps := #[.pointer (some ⟨ga, 0, none⟩), .pointer (some ⟨ga, 0, none⟩), .pointer (some ⟨w.heap.size, 0, none⟩), undef, .pointer none, undef, .pointer (some ⟨s.blk, 0, none⟩), .pointer (some ⟨ga, 0, none⟩), .agg #[.int .i64 lev2, .slice A2 n2 d2, .slice A2' na c2', .bool dd2, .int .u64 (v2 : Int)], .slice A2' na c2', .int .i64 (na : Int), .pointer (some ⟨gb, 0, none⟩), .agg #[.int .i64 lev3, .slice A3 n3 d3, .slice A3' nb c3', .bool dd3, .int .u64 (v3 : Int)], .slice A3' nb c3', .int .i64 (nb : Int), .bool true, .pointer (some ⟨gb, 0, none⟩), .pointer (some ⟨ga, 0, none⟩), .pointer (some ⟨ga, 0, none⟩), .func (.func 164) #[] #[.pointer (some ⟨W0.heap.size + 1, 0, none⟩), .pointer (some ⟨W0.heap.size, 0, none⟩), .pointer (some ⟨W0.heap.size + 2, 0, none⟩)], .int .i64 (a : Int), .pointer (some ⟨s.blk, 0, none⟩), undef, undef, undef, undef, undef, undef, undef], defers := [] }) trivial hrec (by rw [← hr]; rfl) (by rw [← hr]; rfl) ?assign ?body
      case assign =>
        intro K hK
        rw [← hr]
        simp only [recOf]
        gi_wp2
        exact hK
      case body =>
        have hC1 := hC.put (o' := .loop { r0 with state := .busy }) hxw hrec rfl
        have hl1 : (W.putObj (W0.heap.size + 4) (.loop { r0 with state := .busy })).heap[W0.heap.size + 4]? = some (.loop { r0 with state := .busy }) := World.putObj_heap_same (Array.getElem?_eq_some_iff.1 hrec).1
        have hb1 := congrArg Loop.body hr
        obtain ⟨R2, hR2⟩ : ∃ R2, R2 = { r0 with state := .busy } := ⟨_, rfl⟩
        rw [← hR2] at hC1 hl1
        refine wpIn_mono (body_eq hb1 (?walk : Code.wpIn _ _ _ _ (fun e _ W3 => match e with | .normal => W3.heap[W0.heap.size + 4]? = some (.loop R2) ∧ TogJ w k ga l pre kb ka W0.heap.size (j + 1) W3 | _ => False) _ _)) ?conv
        case conv =>
          intro e a3 W3 hp
          cases e with
          | normal =>
            obtain ⟨p1, p2⟩ := hp
            have hrr : ({ r0 with state := .ready, pending := none } : Loop) = r0 := by rw [← hr]; rfl
            refine ⟨by rw [← hR2]; exact p1, rfl, p2.put hxw p1 rfl, ?_⟩
            have := World.putObj_heap_same (w := W3) (o := .loop { r0 with state := .ready, pending := none }) (Array.getElem?_eq_some_iff.1 p1).1
            rw [hrr] at this ⊢
            exact this
          | ret => exact hp.elim
          | exit id => exact hp.elim
          | goto t => exact hp.elim
          | panic ch => exact hp.elim
          | outgrown => exact hp.elim
        case walk =>
        rw [← hR2]
        generalize hW1 : W.putObj (W0.heap.size + 4) (.loop R2) = W1 at *
        simp only [recOf]
        clear hb1 hW1 hr hrec hC hR2
        obtain ⟨g, ty, hX, hnt⟩ := hC1.cur
        have c0 : W1.cell? ⟨w.heap.size, 0, none⟩ = some (.pointer (some ⟨g, 0, none⟩)) := by rw [cell_of_row W1 _ _ _ ty (0, 0) hX]; rfl
        have f0 := frozen_of_row W1 w.heap.size 0 _ ty hX
        have hms := List.mem_of_getElem? hi
        have hfit := (Tr.kids_fit (HX.out.1).1).1 (a, s) hms
        have hns : Node W1 W1.heap.size k s := ((HX.out.1).kid hms).below hC1.bel HX.out.2.2.1 (Nat.le_trans HX.out.2.2.1 hC1.bel.size)
        have hbp := Tr.below_part hnt.1 hns.1 ⟨Nat.lt_succ_of_le hfit.2.1, hfit.2.2.1⟩
        have hcn : (Tr.entsL (Tr.uniK kb ((ka).take j))).length + s.ents.length < 18446744073709551616 := by
          have h1 := Tr.uniK_count ((ka).take j) kb
          have h2 := (kids_count hi).1
          have h3 := (kids_count hi).2
          have h4 := HX.out.2.2.2.2
          omega
        have HW := Lib.hid (nWith_c hnt hns (Nat.le_refl _) hbp.1 hbp.2 hcn)
        have HXX := Lib.hid hX
        have HC := Lib.hid hC1
        have Hl := Lib.hid hl1
        have Hi := Lib.hid (And.intro hi hfit.2.2.2)
        clear hC1 hl1 hnt hX hi hms hns hbp hcn hfit
        gi_wp2_with (refine ⟨trivial, ?_⟩; (with_reducible refine (CallsIn.inRound (W0.heap.size + 4) (callsIn_wide.2 HW.out)).mono ?_); rintro e W2 ⟨g2, rfl, hn2, -, hb2⟩; have q0 := (hb2.cell (p := ⟨w.heap.size, 0, none⟩) (by have := HC.out.size; show w.heap.size < _; omega)).trans c0; have q1 := (hb2.frozen (p := ⟨w.heap.size, 0, none⟩) (by have := HC.out.size; show w.heap.size < _; omega)).trans f0)
        exact tog_step hxw HC.out Hl.out HXX.out Hi.out.1 Hi.out.2 hn2 hb2
    case post =>
      have hQ : Hid (r0.pending = none ∧ r0.state ≠ .busy) := Lib.hid (by rw [← hr]; exact ⟨rfl, by intro h; cases h⟩)
      rintro e W1 ⟨⟨v, rfl⟩, hJ⟩
      obtain ⟨hC, hrec⟩ := hJ.resolve_right (by rintro ⟨_, _, _, _, _, h⟩; exact h)
      refine ⟨none, W1.putObj (W0.heap.size + 4) (.loop { r0 with state := .exhausted }), by rw [← hQ.out.1]; exact run_endLoop hrec hQ.out.2, ?_⟩
      have hC1 := hC.put (o' := .loop { r0 with state := .exhausted }) hxw hrec rfl
      generalize hWW : W1.putObj (W0.heap.size + 4) (.loop { r0 with state := .exhausted }) = W2 at *
      clear hWW hC hrec hJ
      simp only [marked, hW6]
      clear hr hQ hW hL
      obtain ⟨g, ty, hX, hnt⟩ := hC1.cur
      have htk : (ka).take (Sl.idx (T.br ga l pre ka).ks ((65536 : Nat) : Int)) = ka := take_all (HX.out.1).1
      rw [htk] at hnt
      have c0 : W2.cell? ⟨w.heap.size, 0, none⟩ = some (.pointer (some ⟨g, 0, none⟩)) := by rw [cell_of_row W2 _ _ _ ty (0, 0) hX]; rfl
      have HC := Lib.hid hC1
      have Hnt := Lib.hid hnt
      clear hC1 hnt hX hW6 htk
      gi_wp2
      have hK : W2.heap[W0.heap.size + 3]? = some (.deferred (some [])) := HC.out.dfr
      have hsz := HC.out.size
      refine ⟨by simp, .inl ⟨_, _, rfl, run_takeDeferred hK, ?_⟩⟩
      exact ⟨.pointer (some ⟨g, 0, none⟩), by simp [results, Tryz.f202, go_sem], g, _, rfl, Hnt.out.keepc (CellKeep.putObj hK rfl) (by simp), Tr.uniOf_ba HX.out.1.1 HX.out.2.1.1 g, HC.out.bel.trans (below_putObj _ _ (by omega))⟩
  · have d1 : decide ((na : Int) < (nb : Int)) = false := decide_eq_false hlt
    gi_wp2_with (refine ⟨trivial, ?_⟩; first
      | ((with_reducible refine (callsIn_wide.2 (HSa.out _ (by ((repeat (first | refine Below.drew ?_ | (with_reducible refine below_drewN _ ?_) | refine Below.alloc ?_ (by first | omega | (simp; done) | (simp; omega)) _ | refine Below.setCell ?_ (by first | omega | (simp; done) | (simp; omega)) _)); first | exact Below.refl _ _ | assumption | exact below_drewN _ (Below.refl _ _) | exact below_drewN _ (below_drewN _ (Below.refl _ _)))))).mono ?_); rintro e w2 ⟨A2, d2, lev2, n2, A2', c2', dd2, v2, rfl, hb2⟩; have hB2 : Below w.heap.size w w2 := (below_alloc w _).trans (hb2.mono (by simp)); have q2 : w2.heap[w.heap.size]? = some (.cells #[.pointer (some ⟨ga, 0, none⟩)] 75 (0, 0)) := (hb2.block _ (by simp)).trans (heap_at w _ _ rfl))
      | ((with_reducible refine (callsIn_wide.2 (HSb.out _ (by ((repeat (first | refine Below.drew ?_ | (with_reducible refine below_drewN _ ?_) | refine Below.alloc ?_ (by first | omega | (simp; done) | (simp; omega)) _ | refine Below.setCell ?_ (by first | omega | (simp; done) | (simp; omega)) _)); first | exact Below.refl _ _ | assumption | exact below_drewN _ (Below.refl _ _) | exact below_drewN _ (below_drewN _ (Below.refl _ _)))))).mono ?_); rintro e w3 ⟨A3, d3, lev3, n3, A3', c3', dd3, v3, rfl, hb3⟩; have hB3 : Below w.heap.size w w3 := hB2.trans (hb3.mono hB2.size); have q3 : w3.heap[w.heap.size]? = some (.cells #[.pointer (some ⟨ga, 0, none⟩)] 75 (0, 0)) := (hb3.block _ (Array.getElem?_eq_some_iff.1 q2).1).trans q2; have c3 : w3.cell? ⟨w.heap.size, 0, none⟩ = some (.pointer (some ⟨ga, 0, none⟩)) := (by rw [cell_of_row w3 _ _ _ _ (0, 0) q3]; rfl); have f3 : w3.frozen? ⟨w.heap.size, 0, none⟩ = false := frozen_of_row w3 _ 0 _ _ q3))
    generalize hW0 : w3 = W0 at *
    have hB0 : Below w.heap.size w W0 := hB3
    have hR0 : W0.heap[w.heap.size]? = some (.cells #[.pointer (some ⟨ga, 0, none⟩)] 75 (0, 0)) := q3
    clear hW0 hlt hB2 hB3 hb2 hb3 q2 q3 c3 f3
    gi_wp2_with (refine ⟨trivial, ?_⟩; (with_reducible refine (callsIn_wide.2 (kids_c (some ⟨gb, 0, none⟩) 0 65536 _)).mono ?_); rintro e w' ⟨rfl, rfl⟩)
    have hW6 := togWorld_size W0 gb
    change Code.wpIn _ _ _ _ _ _ (togWorld W0 gb)
    generalize hW : togWorld W0 gb = W6 at *
    refine range_at rfl (by omega) (gf := 164) (lb := #[.pointer (some ⟨W0.heap.size + 1, 0, none⟩), .pointer (some ⟨W0.heap.size, 0, none⟩), .pointer (some ⟨W0.heap.size + 2, 0, none⟩)]) rfl trivial (enters_of Tryz.func164 (by kernel_rfl) rfl) ?_
    intro fn _
    generalize hr : recOf fn _ _ _ _ _ = r0
    obtain ⟨hC, hrec⟩ := tog_start (x := W0.heap.size) (kx := ka) (ky := kb) hB0 rfl hR0 HX.out.1 HX.out.2.2.1 r0
    rw [hW] at hC hrec
    have hL : W6.heap.size + 1 = W0.heap.size + 4 := by rw [hW6]
    rw [hL]
    have hxw : w.heap.size < W0.heap.size := (Array.getElem?_eq_some_iff.1 hR0).1
    refine (kids1_in 7 (W0.heap.size + 4) (W0.heap.size + 1) (W0.heap.size) (W0.heap.size + 2) B k 65536 (.br gb l pre kb) (fun j W => TogJ w k gb l pre ka kb W0.heap.size j W ∧ W.heap[W0.heap.size + 4]? = some (.loop r0)) (fun _ _ => False) ?cells ?drawn ?round (rangeWorld W6 r0) ⟨hC, hrec⟩).mono ?post
    case cells =>
      rintro j W ⟨h, -⟩
      exact ⟨h.c0, h.c1, h.c2, (HX.out.2.1).below h.bel HX.out.2.2.1 (Nat.le_refl _), HX.out.2.2.2.1 _ h.bel⟩
    case drawn =>
      rintro j W i ⟨h, h2⟩
      exact ⟨h.drewN i, h2⟩
    case round =>
      rintro j a s W ⟨hC, hrec⟩ hi -
      have hi : (kb)[j]? = some (a, s) := hi
      refine (YieldAt.mono (?_ : YieldAt _ _ _ _ _ _ fun e W3 => e = .returned (.bool true) ∧ TogJ w k gb l pre ka kb W0.heap.size (j + 1) W3 ∧ W3.heap[W0.heap.size + 4]? = some (.loop r0)) fun e W3 h => .inl h)
      refine one_round (r := r0) (a1 := { tmps := #[.pointer (some ⟨ga, 0, none⟩), .pointer (some ⟨gb, 0, none⟩), .pointer (some ⟨w.heap.size, 0, none⟩), undef, .pointer none, undef, .pointer (some ⟨s.blk, 0, none⟩), .pointer (some ⟨ga, 0, none⟩), .agg #[.int .i64 lev2, .slice A2 n2 d2, .slice A2' na c2', .bool dd2, .int .u64 (v2 : Int)], .slice A2' na c2', .int .i64 (na : Int), .pointer (some ⟨gb, 0, none⟩), .agg #[.int .i64 lev3, .slice A3 n3 d3, .slice A3' nb c3', .bool dd3, .int .u64 (v3 : Int)], .slice A3' nb c3', .int .i64 (nb : Int), .bool false, undef, undef, .pointer (some ⟨gb, 0, none⟩), .func (.func 164) #[] #[.pointer (some ⟨W0.heap.size + 1, 0, none⟩), .pointer (some ⟨W0.heap.size, 0, none⟩), .pointer (some ⟨W0.heap.size + 2, 0, none⟩)], .int .i64 (a : Int), .pointer (some ⟨s.blk, 0, none⟩), undef, undef, undef, undef, undef, undef, undef], defers := [] }) trivial hrec (by rw [← hr]; rfl) (by rw [← hr]; rfl) ?assign ?body
      case assign =>
        intro K hK
        rw [← hr]
        simp only [recOf]
        gi_wp2
        exact hK
      case body =>
        have hC1 := hC.put (o' := .loop { r0 with state := .busy }) hxw hrec rfl
        have hl1 : (W.putObj (W0.heap.size + 4) (.loop { r0 with state := .busy })).heap[W0.heap.size + 4]? = some (.loop { r0 with state := .busy }) := World.putObj_heap_same (Array.getElem?_eq_some_iff.1 hrec).1
        have hb1 := congrArg Loop.body hr
        obtain ⟨R2, hR2⟩ : ∃ R2, R2 = { r0 with state := .busy } := ⟨_, rfl⟩
        rw [← hR2] at hC1 hl1
        refine wpIn_mono (body_eq hb1 (?walk : Code.wpIn _ _ _ _ (fun e _ W3 => match e with | .normal => W3.heap[W0.heap.size + 4]? = some (.loop R2) ∧ TogJ w k gb l pre ka kb W0.heap.size (j + 1) W3 | _ => False) _ _)) ?conv
        case conv =>
          intro e a3 W3 hp
          cases e with
          | normal =>
            obtain ⟨p1, p2⟩ := hp
            have hrr : ({ r0 with state := .ready, pending := none } : Loop) = r0 := by rw [← hr]; rfl
            refine ⟨by rw [← hR2]; exact p1, rfl, p2.put hxw p1 rfl, ?_⟩
            have := World.putObj_heap_same (w := W3) (o := .loop { r0 with state := .ready, pending := none }) (Array.getElem?_eq_some_iff.1 p1).1
            rw [hrr] at this ⊢
            exact this
          | ret => exact hp.elim
          | exit id => exact hp.elim
          | goto t => exact hp.elim
          | panic ch => exact hp.elim
          | outgrown => exact hp.elim
        case walk =>
        rw [← hR2]
        generalize hW1 : W.putObj (W0.heap.size + 4) (.loop R2) = W1 at *
        simp only [recOf]
        clear hb1 hW1 hr hrec hC hR2
        obtain ⟨g, ty, hX, hnt⟩ := hC1.cur
        have c0 : W1.cell? ⟨w.heap.size, 0, none⟩ = some (.pointer (some ⟨g, 0, none⟩)) := by rw [cell_of_row W1 _ _ _ ty (0, 0) hX]; rfl
        have f0 := frozen_of_row W1 w.heap.size 0 _ ty hX
        have hms := List.mem_of_getElem? hi
        have hfit := (Tr.kids_fit (HX.out.2.1).1).1 (a, s) hms
        have hns : Node W1 W1.heap.size k s := ((HX.out.2.1).kid hms).below hC1.bel HX.out.2.2.1 (Nat.le_trans HX.out.2.2.1 hC1.bel.size)
        have hbp := Tr.below_part hnt.1 hns.1 ⟨Nat.lt_succ_of_le hfit.2.1, hfit.2.2.1⟩
        have hcn : (Tr.entsL (Tr.uniK ka ((kb).take j))).length + s.ents.length < 18446744073709551616 := by
          have h1 := Tr.uniK_count ((kb).take j) ka
          have h2 := (kids_count hi).1
          have h3 := (kids_count hi).2
          have h4 := HX.out.2.2.2.2
          omega
        have HW := Lib.hid (nWith_c hnt hns (Nat.le_refl _) hbp.1 hbp.2 hcn)
        have HXX := Lib.hid hX
        have HC := Lib.hid hC1
        have Hl := Lib.hid hl1
        have Hi := Lib.hid (And.intro hi hfit.2.2.2)
        clear hC1 hl1 hnt hX hi hms hns hbp hcn hfit
        gi_wp2_with (refine ⟨trivial, ?_⟩; (with_reducible refine (CallsIn.inRound (W0.heap.size + 4) (callsIn_wide.2 HW.out)).mono ?_); rintro e W2 ⟨g2, rfl, hn2, -, hb2⟩; have q0 := (hb2.cell (p := ⟨w.heap.size, 0, none⟩) (by have := HC.out.size; show w.heap.size < _; omega)).trans c0; have q1 := (hb2.frozen (p := ⟨w.heap.size, 0, none⟩) (by have := HC.out.size; show w.heap.size < _; omega)).trans f0)
        exact tog_step hxw HC.out Hl.out HXX.out Hi.out.1 Hi.out.2 hn2 hb2
    case post =>
      have hQ : Hid (r0.pending = none ∧ r0.state ≠ .busy) := Lib.hid (by rw [← hr]; exact ⟨rfl, by intro h; cases h⟩)
      rintro e W1 ⟨⟨v, rfl⟩, hJ⟩
      obtain ⟨hC, hrec⟩ := hJ.resolve_right (by rintro ⟨_, _, _, _, _, h⟩; exact h)
      refine ⟨none, W1.putObj (W0.heap.size + 4) (.loop { r0 with state := .exhausted }), by rw [← hQ.out.1]; exact run_endLoop hrec hQ.out.2, ?_⟩
      have hC1 := hC.put (o' := .loop { r0 with state := .exhausted }) hxw hrec rfl
      generalize hWW : W1.putObj (W0.heap.size + 4) (.loop { r0 with state := .exhausted }) = W2 at *
      clear hWW hC hrec hJ
      simp only [marked, hW6]
      clear hr hQ hW hL
      obtain ⟨g, ty, hX, hnt⟩ := hC1.cur
      have htk : (kb).take (Sl.idx (T.br gb l pre kb).ks ((65536 : Nat) : Int)) = kb := take_all (HX.out.2.1).1
      rw [htk] at hnt
      have c0 : W2.cell? ⟨w.heap.size, 0, none⟩ = some (.pointer (some ⟨g, 0, none⟩)) := by rw [cell_of_row W2 _ _ _ ty (0, 0) hX]; rfl
      have HC := Lib.hid hC1
      have Hnt := Lib.hid hnt
      clear hC1 hnt hX hW6 htk
      gi_wp2
      have hK : W2.heap[W0.heap.size + 3]? = some (.deferred (some [])) := HC.out.dfr
      have hsz := HC.out.size
      refine ⟨by simp, .inl ⟨_, _, rfl, run_takeDeferred hK, ?_⟩⟩
      exact ⟨.pointer (some ⟨g, 0, none⟩), by simp [results, Tryz.f202, go_sem], g, _, rfl, Hnt.out.keepc (CellKeep.putObj hK rfl) (by simp), Tr.uniOf_ab HX.out.1.1 HX.out.2.1.1 g, HC.out.bel.trans (below_putObj _ _ (by omega))⟩
end Go.Proofs.YtpgkfccfabnjdaaGreatDoor
