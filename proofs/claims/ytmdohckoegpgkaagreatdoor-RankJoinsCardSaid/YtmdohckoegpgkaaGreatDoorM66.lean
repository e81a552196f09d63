import Derived.Test.YtmdohckoegpgkaaGreatDoorM65
import Derived.Test.YtmdohckoegpgkaaGreatDoorM12
import Derived.Test.YtmdohckoegpgkaaGreatDoorM32
/-
  CONTRACTS of package rank, sixth part: Of.
-/
namespace Go.Proofs.YtmdohckoegpgkaaGreatDoor
open Go.RowKit Go.Shelf
open Tr (T S4 Ent)
attribute [local go_sem] Oper.semAt_some

/-- the marks that loops over functions leave on an activation -/
def marksOf (rs : List Nat) : List Deferred := rs.map fun r => { target := .collected r, args := #[] }
/-- OUT OF A FUNCTION with nothing but such marks, whose blocks are all shut and lie from b on -/
theorem leaves_marks {F : Fence} {n : Nat} {P : Program} {fn : Func} {tmps : Array Value} {R : Ending → World → Prop} {b : Nat} : ∀ (rs : List Nat) (w : World), rs.Nodup → (∀ r ∈ rs, b ≤ r ∧ w.heap[r]? = some (.deferred (some []))) →
    (∀ w', Below b w w' → LeavesIn F n P fn tmps R [] .returning w') → LeavesInM F n P fn tmps R (marksOf rs) .returning w
  | [], w, _, _, h => h w (Below.refl _ _)
  | r :: rs, w, hn, hr, h => by
    obtain ⟨hn1, hn2⟩ := List.nodup_cons.1 hn
    have h1 := hr r List.mem_cons_self
    refine ⟨by simp, .inl ⟨r, _, rfl, run_takeDeferred h1.2, leaves_marks (b := b) rs _ hn2 (fun q hq => ?_) (fun w' hb => h w' ?_)⟩⟩
    · have h2 := hr q (List.mem_cons_of_mem _ hq)
      exact ⟨h2.1, (World.putObj_heap_other (fun e => hn1 (by rw [← e]; exact hq))).trans h2.2⟩
    · exact (below_putObj w _ h1.1).trans hb
/-- what holds between two steps of the way, j of them having been gone through -/
structure OfI (w1 : World) (us : List (T × Nat)) (j : Nat) (rs : List Nat) (W : World) : Prop where
  cnt : W.heap[w1.heap.size]? = some (.cells #[.int .u64 ((Tr.foreR (us.drop (us.length - j))).length : Int)] 45 (0, 0))
  bel : Below w1.heap.size w1 W
  nd : rs.Nodup
  mks : ∀ r ∈ rs, w1.heap.size ≤ r ∧ W.heap[r]? = some (.deferred (some []))
theorem way_at {W : World} {base n d : Nat} {D : Option Addr} {L : List (T × Nat)} {ty : TypeId} (h : OwnL ty 2 StQ W base (.slice D n d) L) {j : Nat} {t : T} {a : Nat} (hx : L[j]? = some (t, a)) :
    ∃ q off, D = some ⟨q, off, none⟩ ∧ q < W.heap.size ∧ W.cell? ⟨q, off + j * 2, none⟩ = some (.pointer (some ⟨t.blk, 0, none⟩)) ∧ W.cell? ⟨q, off + j * 2 + 1, none⟩ = some (.int .i64 (a : Int)) := by
  obtain ⟨A', c', hv, hc, hl⟩ := OwnL.rd stQ_ok h
  obtain ⟨q, off, hA, hb, hq⟩ := hl (by rintro rfl; simp at hx)
  simp only [Value.slice.injEq] at hv
  obtain ⟨e0, e1⟩ := hq _ _ hx
  exact ⟨q, off, by rw [hv.1]; exact hA, hb, e0, e1⟩
theorem way_node_at {w : World} {B k : Nat} {o o' : Option T} {p : List Nat} {us : List (T × Nat)} (hn : NodeO w B k o) (h : Tr.Way p o us o') {j : Nat} {t : T} {a : Nat} (hx : us.reverse[j]? = some (t, a)) : Node w B k t :=
  way_nodes hn h (t, a) (List.mem_reverse.1 (List.mem_of_getElem? hx))
theorem foreR_step {us : List (T × Nat)} {j : Nat} {t : T} {a : Nat} (hx : us.reverse[j]? = some (t, a)) (hj : j < us.length) : us.drop (us.length - (j + 1)) = (t, a) :: us.drop (us.length - j) := by
  rw [List.getElem?_reverse hj] at hx
  obtain ⟨hl, he⟩ := List.getElem?_eq_some_iff.1 hx
  rw [show us.length - (j + 1) = us.length - 1 - j by omega, List.drop_eq_getElem_cons hl, he, show us.length - 1 - j + 1 = us.length - j by omega]
/-- a part of the way is a way -/
theorem way_part {p : List Nat} {o o' : Option T} {us : List (T × Nat)} (h : Tr.Way p o us o') : ∀ (m : Nat) (t : T) (a : Nat) (R : List (T × Nat)), us.drop m = (t, a) :: R → Tr.Way p o R (some t) := by
  induction h with
  | start => intro m t a R e; simp at e
  | @step us t h hl hc ih =>
    intro m t' a' R e
    cases m with
    | zero =>
      simp only [List.drop_zero, List.cons.injEq, Prod.mk.injEq] at e
      obtain ⟨⟨rfl, -⟩, rfl⟩ := e
      exact h
    | succ m => exact ih m t' a' R (by simpa using e)
theorem way_count {w : World} {B k : Nat} {o o' : Option T} {p : List Nat} {us : List (T × Nat)} (hn : NodeO w B k o) (h : Tr.Way p o us o') {j : Nat} {t : T} {a : Nat} (hx : us.reverse[j]? = some (t, a)) (hj : j < us.length) :
    (Tr.foreR (us.drop (us.length - j))).length + t.ents.length ≤ (Tr.entsO o).length := by
  have h1 := way_part h _ t a _ (foreR_step hx hj)
  have hw := h1.wf (k := k) (fun t e => (hn t e).1)
  have h2 := Tr.steps_all (h1.chain.1 t a rfl) (fun x hx => by
    rcases List.mem_cons.1 hx with rfl | hx
    · exact hw.1 t rfl
    · exact hw.2 x hx)
  have h3 := congrArg List.length h2
  simp only [List.length_append] at h3
  omega
/-- kids up to a kid, and one more, are not more than all -/
theorem kids_count {ks : List (Nat × T)} {i a : Nat} {s : T} (hx : ks[i]? = some (a, s)) : (Tr.entsL (ks.take (i + 1))).length = (Tr.entsL (ks.take i)).length + s.ents.length ∧ (Tr.entsL (ks.take (i + 1))).length ≤ (Tr.entsL ks).length := by
  constructor
  · rw [List.take_add_one, hx, Tr.entsL_append]
    simp [Tr.entsL]
  · conv => rhs; rw [← List.take_append_drop (i + 1) ks, Tr.entsL_append, List.length_append]
    omega
theorem of_arith {x y : Nat} (h : x + y ≤ 100000000) : wrap64 (x : Int) = (x : Int) ∧ wrap64 ((x : Int) + (y : Int)) = (x : Int) + (y : Int) ∧ IntKind.u64.wrap ((x : Int) + (y : Int)) = (x : Int) + (y : Int) :=
  ⟨IntWalk.wrap64_in _ (by omega), IntWalk.wrap64_in _ (by omega), IntWalk.u64_in _ (by omega)⟩
theorem wpIn_calm {F : Fence} {n : Nat} {P : Program} {c : Code} {Q : Exit → Act → World → Prop} {a : Act} {w : World}
    (h : ∀ K : Act → World → Prop, (∀ a w, Q .normal a w → K a w) → c.wpIn F n P (Exit.then K fun _ _ _ => False) a w) : c.wpIn F n P Q a w :=
  wpIn_mono (h (Q .normal) fun _ _ q => q) (by
    intro e a w h
    cases e <;> first | exact h | exact h.elim)
theorem foot_put {F : Nat → Prop} (w : World) {l : Nat} (o : Obj) (h : F l) : Foot F w (w.putObj l o) := ⟨rfl, rfl, rfl, by simp, fun j _ hn => World.putObj_heap_other (fun e => hn (e ▸ h))⟩
/-- the world in which the loop over kids begins -/
def ofWorld (W : World) (t : T) (a : Nat) : World := (((W.alloc (.cells #[.pointer (some ⟨t.blk, 0, none⟩), .int .i64 (a : Int)] 91)).alloc (.cells #[.pointer (some ⟨t.blk, 0, none⟩)] 66)).alloc (.cells #[.int .i64 0] 3)).alloc (.cells #[.int .i64 (a : Int)] 3)
theorem ofWorld_size (W : World) (t : T) (a : Nat) : (ofWorld W t a).heap.size = W.heap.size + 4 := by simp [ofWorld]
/-- between two kids: the loop's world W1, the counter's block R, the loop's record r0 at L -/
structure OfJ (W1 : World) (R L : Nat) (r0 : Loop) (acc : Nat) (ks : List (Nat × T)) (i : Nat) (W : World) : Prop where
  foot : Foot (fun b => b = R ∨ b = L) W1 W
  cnt : W.heap[R]? = some (.cells #[.int .u64 ((acc + (Tr.entsL (ks.take i)).length : Nat) : Int)] 45 (0, 0))
  lp : W.heap[L]? = some (.loop r0)
theorem of_start (W : World) (t : T) (a : Nat) (r0 : Loop) : Below W.heap.size W (rangeWorld (ofWorld W t a) r0) ∧ (rangeWorld (ofWorld W t a) r0).heap[W.heap.size + 1]? = some (.cells #[.pointer (some ⟨t.blk, 0, none⟩)] 66) ∧
    (rangeWorld (ofWorld W t a) r0).heap[W.heap.size + 1 + 1]? = some (.cells #[.int .i64 0] 3) ∧ (rangeWorld (ofWorld W t a) r0).heap[W.heap.size + 1 + 2]? = some (.cells #[.int .i64 (a : Int)] 3) ∧
    (rangeWorld (ofWorld W t a) r0).heap[W.heap.size + 4]? = some (.deferred (some [])) ∧ (rangeWorld (ofWorld W t a) r0).heap[W.heap.size + 5]? = some (.loop r0) ∧ (rangeWorld (ofWorld W t a) r0).heap.size = W.heap.size + 6 := by
  refine ⟨((((((Below.refl _ W).alloc (Nat.le_refl _) _).alloc (by simp) _).alloc (by simp; omega) _).alloc (by simp; omega) _).alloc (by simp; omega) _).alloc (by simp; omega) _, hav_old (hav_old (hav_old (hav_old (hav_next (by simp))))), hav_old (hav_old (hav_old (hav_next (by simp)))), hav_old (hav_old (hav_next (by simp))), hav_old (hav_next (ofWorld_size ..)), hav_next (by rw [World.size_alloc, ofWorld_size]), by simp [rangeWorld, ofWorld_size]⟩
set_option maxRecDepth 1000000 in
set_option maxHeartbeats 4000000 in
theorem kOf_c {w : World} {B b k : Nat} {o : Option T} (ht : TreeAt w B b k o) (hB : B ≤ w.heap.size) (hT : ∀ w', Below w.heap.size w w' → Tz w') (hN : (Tr.entsO o).length ≤ 100000000) {p : List Nat} {A : Option Addr} {c : Nat} (hp : Pts w B A p) (hl : p.length = k) :
    Calls Tryz.prog 48 #[.pointer (some ⟨b, 0, none⟩), .slice A p.length c] w fun e w' => ∃ F1 F2, Tr.entsO o = F1 ++ F2 ∧ Ahead p F1 ∧ Past p F2 ∧ e = .returned (.tuple #[.int .i64 (F1.length : Int), .int .i64 0]) ∧ Below w.heap.size w w' := by
  obtain ⟨hbB, k1, k16, htc, hno⟩ := ht
  refine (callsIn_wide (n := 8)).1 ?_
  refine callsIn_of_wp_marks Tryz.func48 rfl trivial ?_ rfl
  simp only [Tryz.ntmps48, List.size_toArray, List.length_cons, List.length_nil, Nat.reduceAdd, Nat.reduceSub, Array.replicate_succ, Array.replicate_zero, List.push_toArray, List.append_toArray, List.nil_append, List.cons_append]
  have HR := Lib.hid (kRef_ok htc A p.length c k1 k16 hl)
  have HO := Lib.hid (tRoot_c htc)
  have HW := Lib.hid (wayTo_c (c := c) hno hB hp hl)
  have HX := Lib.hid (And.intro hno (And.intro hB (And.intro hT (And.intro hN (And.intro hp (And.intro hl (And.intro k1 k16)))))))
  clear hbB k1 k16 htc hno hB hT hN hp hl
  gi_wp2_with (refine ⟨trivial, ?_⟩; first
    | ((with_reducible refine (callsIn_wide.2 HR.out).mono ?_); rintro e w' ⟨rfl, rfl⟩)
    | ((with_reducible refine (callsIn_wide.2 HO.out).mono ?_); rintro e w' ⟨rfl, rfl⟩)
    | ((with_reducible refine (callsIn_wide.2 HW.out).mono ?_); rintro e w1 ⟨us, o', D, d, hway, hstop, rfl, hrow, hb1⟩; have H1 := Lib.hid (And.intro hway (And.intro hstop (And.intro hrow hb1))); clear hway hstop hrow hb1))
  have hl64 := (H1.out.1.len (fun t e => (HX.out.1 t e).1)).1
  have HW64 := Lib.hid hl64
  clear hl64
  refine wpIn_loop (fun a' W => ∃ (j : Nat) (rs : List Nat) (u11 u30 u31 u32 u33 u34 u35 u36 u37 u45 : Value), j ≤ us.length ∧ a' = { tmps := #[.pointer (some ⟨b, 0, none⟩), .slice A p.length c, undef, undef, .int .i64 0, .int .i64 0, .int .i64 0, .slice D us.length d, .pointer (rootP o'), .pointer (some ⟨w1.heap.size, 0, none⟩), undef, u11, undef, undef, .pointer (some ⟨b, 0, none⟩), .slice A p.length c, .int .i64 0, .int .i64 0, .bool false, undef, .tuple #[.slice D us.length d, .pointer (rootP o')], .pointer (some ⟨b, 0, none⟩), .pointer (rootP o), .slice A p.length c, .tuple #[.slice D us.length d, .pointer (rootP o')], .slice D us.length d, .pointer (rootP o'), .slice D us.length d, .int .i64 (us.length : Int), .int .i64 (j : Int), u30, u31, u32, u33, u34, u35, u36, u37, undef, undef, undef, undef, undef, undef, undef, u45, undef, undef, undef, undef, undef, undef, undef, undef, undef, undef], defers := marksOf rs } ∧ OfI w1 us j rs W) (fun a' _ => us.length - (intOf (a'.tmps.getD 29 undef)).toNat) ?start ?round
  case start =>
    refine ⟨0, [], _, _, _, _, _, _, _, _, _, _, Nat.zero_le _, rfl, ?_⟩
    refine ⟨?_, below_alloc _ _, List.nodup_nil, fun r hr => by cases hr⟩
    rw [Nat.sub_zero, List.drop_length]
    exact heap_at w1 _ _ rfl
  case round =>
    rintro a' W ⟨j, rs, u11, u30, u31, u32, u33, u34, u35, u36, u37, u45, hj, rfl, hI⟩
    have hrow := H1.out.2.2.1.below hI.bel (Nat.le_refl _)
    by_cases hlt : j < us.length
    · obtain ⟨x, hx⟩ := get_lt (us := us.reverse) (k := j) (by rw [List.length_reverse]; exact hlt)
      obtain ⟨t, a⟩ := x
      obtain ⟨q, off, hD, hq, e0, e1⟩ := way_at hrow hx
      subst hD
      have m1 : (0 : Int) ≤ (j : Int) := by omega
      have m2 : (j : Int) < (us.length : Int) := by omega
      have HI := Lib.hid (And.intro hI (And.intro hrow (And.intro hx hlt)))
      clear hI hrow hx hlt hj
      gi_wp2_with (refine ⟨trivial, ?_⟩; (with_reducible refine (callsIn_wide.2 (kids_c (some ⟨t.blk, 0, none⟩) 0 (a : Int) _)).mono ?_); rintro e w' ⟨rfl, rfl⟩)
      have hW6 := ofWorld_size W t a
      change Code.wpIn _ _ _ _ _ _ (ofWorld W t a)
      generalize hW : ofWorld W t a = W6 at *
      refine range_at rfl (by omega) (gf := 144) (lb := #[.pointer (some ⟨W.heap.size + 1 + 1, 0, none⟩), .pointer (some ⟨W.heap.size + 1, 0, none⟩), .pointer (some ⟨W.heap.size + 1 + 2, 0, none⟩)]) rfl trivial (enters_of Tryz.func144 (by kernel_rfl) rfl) ?_
      intro fn _
      generalize hr : recOf fn _ _ _ _ _ = r0
      obtain ⟨s1, s2, s3, s4, s5, s6, s7⟩ := of_start W t a r0
      rw [hW] at s1 s2 s3 s4 s5 s6 s7
      have hL : W6.heap.size + 1 = W.heap.size + 5 := by rw [hW6]
      rw [hL]
      obtain ⟨hI, hrow, hx, hlt⟩ := HI.out
      have hRW : w1.heap.size < W.heap.size := (Array.getElem?_eq_some_iff.1 hI.cnt).1
      have hw1 := H1.out.2.2.2.size
      have hbW1 : Below w.heap.size w (rangeWorld W6 r0) := H1.out.2.2.2.trans ((hI.bel.mono hw1).trans (s1.mono (by omega)))
      obtain ⟨acc, hacc⟩ : ∃ acc, (Tr.foreR (us.drop (us.length - j))).length = acc := ⟨_, rfl⟩
      have hcnt := hI.cnt
      rw [hacc] at hcnt
      have hnode : Node w B k t := way_node_at HX.out.1 H1.out.1 hx
      have hpath := way_count HX.out.1 H1.out.1 hx hlt
      rw [hacc] at hpath
      have hJ0 : OfJ (rangeWorld W6 r0) w1.heap.size (W.heap.size + 5) r0 acc t.ks 0 (rangeWorld W6 r0) := ⟨Foot.refl _ _, by rw [List.take_zero, Tr.entsL_nil, List.length_nil, Nat.add_zero]; exact (s1.block _ hRW).trans hcnt, s6⟩
      have hbJ : ∀ i W', OfJ (rangeWorld W6 r0) w1.heap.size (W.heap.size + 5) r0 acc t.ks i W' → Below w1.heap.size (rangeWorld W6 r0) W' := fun i W' h => h.foot.below (by omega) (by rintro b (rfl | rfl) <;> omega)
      refine (kids1_in 7 (W.heap.size + 5) (W.heap.size + 1 + 1) (W.heap.size + 1) (W.heap.size + 1 + 2) B k a t (fun i W' => OfJ (rangeWorld W6 r0) w1.heap.size (W.heap.size + 5) r0 acc t.ks i W') (fun _ _ => False) ?cells ?drawn ?round (rangeWorld W6 r0) hJ0).mono ?post
      case cells =>
        intro i W' h
        have hb := hbW1.trans ((hbJ i W' h).mono hw1)
        have hk : ∀ x v ty, (rangeWorld W6 r0).heap[x]? = some (.cells #[v] ty (0, 0)) → x ≠ w1.heap.size → x ≠ W.heap.size + 5 → W'.cell? ⟨x, 0, none⟩ = some v := fun x v ty hx h1 h2 => by
          have := (h.foot.block x (Array.getElem?_eq_some_iff.1 hx).1 (by rintro (e | e); exact h1 e; exact h2 e)).trans hx
          rw [cell_of_row W' x _ _ ty (0, 0) this]; rfl
        exact ⟨hk _ _ _ s3 (by omega) (by omega), hk _ _ _ s2 (by omega) (by omega), hk _ _ _ s4 (by omega) (by omega), hnode.below hb HX.out.2.1 (Nat.le_refl _), HX.out.2.2.1 _ hb⟩
      case drawn =>
        intro i W' m h
        exact ⟨h.foot.drewN m, h.cnt, h.lp⟩
      case round =>
        intro i a2 s W' hJ hi _
        refine (YieldAt.mono (?_ : YieldAt _ _ _ _ _ _ fun e W3 => e = .returned (.bool true) ∧ OfJ (rangeWorld W6 r0) w1.heap.size (W.heap.size + 5) r0 acc t.ks (i + 1) W3) fun e W3 h => .inl h)
        refine one_round (r := r0) (a1 := { tmps := #[.pointer (some ⟨b, 0, none⟩), .slice A p.length c, undef, undef, .int .i64 0, .int .i64 0, .int .i64 0, .slice (some ⟨q, off, none⟩) us.length d, .pointer (rootP o'), .pointer (some ⟨w1.heap.size, 0, none⟩), undef, .pointer (some ⟨W.heap.size, 0, none⟩), undef, .pointer (some ⟨s.blk, 0, none⟩), .pointer (some ⟨b, 0, none⟩), .slice A p.length c, .int .i64 0, .int .i64 0, .bool false, undef, .tuple #[.slice (some ⟨q, off, none⟩) us.length d, .pointer (rootP o')], .pointer (some ⟨b, 0, none⟩), .pointer (rootP o), .slice A p.length c, .tuple #[.slice (some ⟨q, off, none⟩) us.length d, .pointer (rootP o')], .slice (some ⟨q, off, none⟩) us.length d, .pointer (rootP o'), .slice (some ⟨q, off, none⟩) us.length d, .int .i64 (us.length : Int), .int .i64 (j : Int), .bool true, .pointer (some ⟨q, off + j * 2, none⟩), .agg #[.pointer (some ⟨t.blk, 0, none⟩), .int .i64 (a : Int)], .pointer (some ⟨W.heap.size, 0, none⟩), .pointer (some ⟨t.blk, 0, none⟩), .pointer (some ⟨W.heap.size, 1, none⟩), .int .i64 (a : Int), .func (.func 144) #[] #[.pointer (some ⟨W.heap.size + 1 + 1, 0, none⟩), .pointer (some ⟨W.heap.size + 1, 0, none⟩), .pointer (some ⟨W.heap.size + 1 + 2, 0, none⟩)], .int .i64 (a2 : Int), .pointer (some ⟨s.blk, 0, none⟩), undef, undef, undef, undef, undef, u45, undef, undef, undef, undef, undef, undef, undef, undef, undef, undef], defers := [] }) trivial hJ.lp (by rw [← hr]; rfl) (by rw [← hr]; rfl) ?assign ?body
        case assign =>
          intro K hK
          rw [← hr]
          simp only [recOf]
          gi_wp2
          exact hK
        case body =>
          have hl1 : (W'.putObj (W.heap.size + 5) (.loop { r0 with state := .busy })).heap[W.heap.size + 5]? = some (.loop { r0 with state := .busy }) := World.putObj_heap_same (Array.getElem?_eq_some_iff.1 hJ.lp).1
          have hb1 := congrArg Loop.body hr
          obtain ⟨R2, hR2⟩ : ∃ R2, R2 = { r0 with state := .busy } := ⟨_, rfl⟩
          rw [← hR2] at hl1
          refine wpIn_mono (body_eq hb1 (?walk : Code.wpIn _ _ _ _ (fun e _ W3 => match e with | .normal => W3.heap[W.heap.size + 5]? = some (.loop R2) ∧ W3.heap[w1.heap.size]? = some (.cells #[.int .u64 ((acc + (Tr.entsL (t.ks.take (i + 1))).length : Nat) : Int)] 45 (0, 0)) ∧ Foot (fun b => b = w1.heap.size ∨ b = W.heap.size + 5) (W'.putObj (W.heap.size + 5) (.loop R2)) W3 | _ => False) _ _)) ?conv
          case conv =>
            intro e a3 W3 hp
            cases e with
            | normal =>
              obtain ⟨p1, p2, p3⟩ := hp
              have hrr : ({ r0 with state := .ready, pending := none } : Loop) = r0 := by rw [← hr]; rfl
              refine ⟨by rw [← hR2]; exact p1, rfl, ?_, ?_, ?_⟩
              · exact ((hJ.foot.trans (foot_put W' _ (.inr rfl)) (fun b h => .inl h)).trans p3 (fun b h => .inl h)).trans (foot_put W3 _ (.inr rfl)) (fun b h => .inl h)
              · exact (World.putObj_heap_other (by omega)).trans p2
              · have := World.putObj_heap_same (w := W3) (o := .loop { r0 with state := .ready, pending := none }) (Array.getElem?_eq_some_iff.1 p1).1
                rw [hrr] at this ⊢
                exact this
            | ret => exact hp.elim
            | exit id => exact hp.elim
            | goto t => exact hp.elim
            | panic ch => exact hp.elim
            | outgrown => exact hp.elim
          case walk =>
          rw [← hR2]
          have hst : Foot (fun b => b = w1.heap.size ∨ b = W.heap.size + 5) W' (W'.putObj (W.heap.size + 5) (.loop R2)) := foot_put W' _ (.inr rfl)
          have hlR : (W'.putObj (W.heap.size + 5) (.loop R2)).heap[w1.heap.size]? = some (.cells #[.int .u64 ((acc + (Tr.entsL (t.ks.take i)).length : Nat) : Int)] 45 (0, 0)) := (World.putObj_heap_other (by omega)).trans hJ.cnt
          have hb := hbW1.trans ((hbJ i W' hJ).mono hw1)
          have hnP : Node (W'.putObj (W.heap.size + 5) (.loop R2)) w.heap.size k s := by
            have h1 := hnode.below (hb.trans ((below_putObj W' (.loop R2) (by omega : w.heap.size ≤ W.heap.size + 5)))) HX.out.2.1 HX.out.2.1
            have hm := List.mem_of_getElem? hi
            obtain ⟨g', l', pre', ks', rfl⟩ := Tr.ks_br hm
            exact h1.kid hm
          have hsz1 : W.heap.size + 6 ≤ W'.heap.size := by have := hJ.foot.size; omega
          generalize hW1 : W'.putObj (W.heap.size + 5) (.loop R2) = W1 at *
          have hs1 : W1.heap.size = W'.heap.size := by rw [← hW1]; simp
          simp only [recOf]
          obtain ⟨kp, hnd⟩ := hnP.2.nd
          have hcs := (kids_count hi).1
          have hcm := (kids_count hi).2
          have htot : acc + (Tr.entsL t.ks).length ≤ 100000000 := by
            have hm := List.mem_of_getElem? hi
            rw [← Tr.ents_ks hm]
            have := HX.out.2.2.2.1
            omega
          obtain ⟨x, hx0⟩ : ∃ x, acc + (Tr.entsL (t.ks.take i)).length = x := ⟨_, rfl⟩
          obtain ⟨y, hy0⟩ : ∃ y, s.ents.length = y := ⟨_, rfl⟩
          have hxy : acc + (Tr.entsL (t.ks.take (i + 1))).length = x + y := by omega
          rw [hxy]
          rw [hx0] at hlR
          obtain ⟨S, hS⟩ : ∃ S, Tr.sums s.ents = S := ⟨_, rfl⟩
          have hSc : S.c = y := by rw [← hS, Tr.sums_c, hy0]
          rw [hS] at hnd
          have HS := Lib.hid fun (w2 : World) (hb2 : Below W1.heap.size W1 w2) => nSums_c (hnd.below hb2 (by omega) (Nat.le_refl _)) (show w.heap.size ≤ w2.heap.size by have := hb2.size; omega)
          have HCl := Lib.hid fun (w2 : World) (hb2 : Below W1.heap.size W1 w2) => (hb2.block w1.heap.size (by omega)).trans hlR
          have HLl := Lib.hid fun (w2 : World) (hb2 : Below W1.heap.size W1 w2) => (hb2.block (W.heap.size + 5) (by omega)).trans hl1
          have hbb := Below.refl W1.heap.size W1
          have c0 : W1.cell? ⟨w1.heap.size, 0, none⟩ = some (.int .u64 (x : Int)) := by rw [cell_of_row W1 _ _ _ _ (0, 0) hlR]; rfl
          have hmx : Tryz.prog.follows .mixedOrders = true := by kernel_rfl
          have hwr : IntKind.u64.wrap ((x : Int) + (S.c : Int)) = ((x + y : Nat) : Int) := by rw [hSc, IntWalk.u64_in _ (by omega)]; omega
          have hszl : w1.heap.size < W1.heap.size := by omega
          have hRne : W.heap.size + 5 ≠ w1.heap.size := by omega
          clear hJ hi hb hb1 hW1 hr hR2 hst hnP hnd hcs hcm htot hx0 hy0 hxy hS hSc hlR hl1 hcnt hpath hJ0 hbJ hnode hI hrow hx hlt hRW hw1 hbW1 hL hW6 hW s1 s2 s3 s4 s5 s6 s7 e0 e1 hq m1 m2 hacc hsz1 hs1
          have hfld := sums_count
          gi_wp2
          gi_region_with_o (refine ⟨trivial, ?_⟩; (with_reducible refine (CallsIn.inRound (W.heap.size + 5) (callsIn_wide.2 (HS.out _ (by ((repeat (first | refine Below.drew ?_ | (with_reducible refine below_drewN _ ?_) | refine Below.alloc ?_ (by first | omega | (simp; done) | (simp; omega)) _ | refine Below.setCell ?_ (by first | omega | (simp; done) | (simp; omega)) _)); first | exact Below.refl _ _ | assumption | exact below_drewN _ (Below.refl _ _) | exact below_drewN _ (below_drewN _ (Below.refl _ _))))))).mono ?_); rintro e w2 ⟨rfl, hb2⟩; have hB2 := Below.trans (show Below W1.heap.size W1 _ by ((repeat (first | refine Below.drew ?_ | (with_reducible refine below_drewN _ ?_) | refine Below.alloc ?_ (by first | omega | (simp; done) | (simp; omega)) _ | refine Below.setCell ?_ (by first | omega | (simp; done) | (simp; omega)) _)); first | exact Below.refl _ _ | assumption | exact below_drewN _ (Below.refl _ _) | exact below_drewN _ (below_drewN _ (Below.refl _ _)))) (hb2.mono (Below.size (show Below W1.heap.size W1 _ by ((repeat (first | refine Below.drew ?_ | (with_reducible refine below_drewN _ ?_) | refine Below.alloc ?_ (by first | omega | (simp; done) | (simp; omega)) _ | refine Below.setCell ?_ (by first | omega | (simp; done) | (simp; omega)) _)); first | exact Below.refl _ _ | assumption | exact below_drewN _ (Below.refl _ _) | exact below_drewN _ (below_drewN _ (Below.refl _ _)))))); have q0 : w2.cell? ⟨w1.heap.size, 0, none⟩ = some (.int .u64 (x : Int)) := (by rw [cell_of_row w2 _ _ _ _ (0, 0) (HCl.out _ hB2)]; rfl); have q1 := frozen_of_row w2 w1.heap.size 0 _ _ (HCl.out _ hB2); clear hb2)
          all_goals (
            refine ⟨(Below.heap_setCell _ _ _ _ hRne).trans (HLl.out _ hB2), ?_, (Foot.of_below (F := fun b => b = w1.heap.size ∨ b = W.heap.size + 5) hB2).trans (Foot.setCell w2 (F := fun b => b = w1.heap.size ∨ b = W.heap.size + 5) (a := ⟨w1.heap.size, 0, none⟩) (.inl rfl) _) (fun b h => .inl h)⟩
            rw [heap_setCell_same w2 _ 0 _ _ _ (HCl.out _ hB2)]
            rfl)
      case post =>
        have hQ : Hid (r0.pending = none ∧ r0.state ≠ .busy) := Lib.hid (by rw [← hr]; exact ⟨rfl, by intro h; cases h⟩)
        rintro e W2 ⟨⟨v, rfl⟩, hJ'⟩
        have hJ := hJ'.resolve_right (by rintro ⟨_, _, _, _, _, h⟩; exact h)
        clear hJ'
        refine ⟨none, W2.putObj (W.heap.size + 5) (.loop { r0 with state := .exhausted }), by rw [← hQ.out.1]; exact run_endLoop hJ.lp hQ.out.2, ?_⟩
        have hI2 : OfI w1 us (j + 1) (W6.heap.size :: rs) (W2.putObj (W.heap.size + 5) (.loop { r0 with state := .exhausted })) := by
          have hlow : ∀ x, x < W.heap.size + 5 → x ≠ w1.heap.size → (W2.putObj (W.heap.size + 5) (.loop { r0 with state := .exhausted })).heap[x]? = (rangeWorld W6 r0).heap[x]? := fun x hx hne =>
            (World.putObj_heap_other (by omega)).trans (hJ.foot.block x (by omega) (by rintro (e | e) <;> omega))
          have hmk := hI.mks
          refine ⟨?_, (hI.bel.trans (s1.mono (by omega))).trans ((hbJ _ _ hJ).trans (below_putObj _ _ (by omega))), List.nodup_cons.2 ⟨fun hm => ?_, hI.nd⟩, fun r hr' => ?_⟩
          · rw [foreR_step hx hlt]
            refine (World.putObj_heap_other (by omega)).trans ?_
            have h1 := hJ.cnt
            rw [show Tr.foreR ((t, a) :: us.drop (us.length - j)) = Tr.foreR (us.drop (us.length - j)) ++ Tr.entsL (t.ks.take (Sl.idx t.ks (a : Int))) from rfl, List.length_append, hacc]
            exact h1
          · have h1 := (Array.getElem?_eq_some_iff.1 (hmk _ hm).2).1
            omega
          · rcases List.mem_cons.1 hr' with rfl | hr'
            · exact ⟨by omega, (hlow _ (by omega) (by omega)).trans (by rw [hW6]; exact s5)⟩
            · have h1 := hmk r hr'
              have h2 := (Array.getElem?_eq_some_iff.1 h1.2).1
              refine ⟨h1.1, (hlow _ (by omega) (fun e => ?_)).trans ((s1.block _ h2).trans h1.2)⟩
              have h3 := hI.cnt
              rw [← e, h1.2] at h3
              simp at h3
        generalize W2.putObj (W.heap.size + 5) (.loop { r0 with state := .exhausted }) = W3 at *
        simp only [marked]
        have hm5 : ({ target := Target.collected W6.heap.size, args := #[] } : Deferred) :: marksOf rs = marksOf (W6.heap.size :: rs) := rfl
        rw [hm5]
        have HI2 := Lib.hid (And.intro hI2 hlt)
        have hj64 : (j : Int) + 1 ≤ 64 := by have := HW64.out; omega
        clear hJ hI2 hQ hr hm5 hJ0 hbJ hnode hI hrow hx hlt hRW hw1 hbW1 hL hW6 hW s1 s2 s3 s4 s5 s6 s7 e0 e1 hq m1 m2 hacc hcnt hpath
        gi_wp2
        exact ⟨⟨j + 1, W6.heap.size :: rs, _, _, _, _, _, _, _, _, _, _, by have := HI2.out.2; omega, rfl, HI2.out.1⟩, by have := HI2.out.2; simp [intOf]; omega⟩
    · have hjl : j = us.length := by omega
      subst hjl
      have hb := H1.out.2.2.2.trans (hI.bel.mono H1.out.2.2.2.size)
      have hcnt := hI.cnt
      rw [Nat.sub_self, List.drop_zero] at hcnt
      have c0 : W.cell? ⟨w1.heap.size, 0, none⟩ = some (.int .u64 ((Tr.foreR us).length : Int)) := by rw [cell_of_row W _ _ _ _ (0, 0) hcnt]; rfl
      have d1 : decide ((us.length : Int) < (us.length : Int)) = false := decide_eq_false (by omega)
      have hp : Pts W w.heap.size A p := (HX.out.2.2.2.2.1.below' hb HX.out.2.1).keep HX.out.2.1 (fun _ _ => rfl)
      have hsd := H1.out.1.sides (k := k) HX.out.2.2.2.2.2.1 HX.out.2.2.2.2.1.1 (fun t e => (HX.out.1 t e).1)
      have hno' : NodeO w B k o' := way_node HX.out.1 H1.out.1
      have hlow : Hid (∀ F1 F2, Tr.entsO o = F1 ++ F2 → F1.length ≤ 100000000) := Lib.hid fun F1 F2 e => by
        have := HX.out.2.2.2.1
        rw [e, List.length_append] at this
        omega
      cases o' with
      | none =>
        have hsplit : Tr.entsO o = Tr.foreR us ++ Tr.aft us := by
          have hc := H1.out.1.chain.2 rfl
          have := Tr.bef_aft (k := k) hc (H1.out.1.wf (fun t e => (HX.out.1 t e).1)).2
          rw [way_bef H1.out.1] at this
          exact this.symm
        have hle := hlow.out _ _ hsplit
        have HA := Lib.hid (isAhead_no A p.length c W (by have := HX.out.2.2.2.2.2.1; have := HX.out.2.2.2.2.2.2.2; unfold maxLen; omega))
        have HE := Lib.hid (And.intro hI (And.intro hb (And.intro hsplit hsd)))
        obtain ⟨x, hx0⟩ : ∃ x, (Tr.foreR us).length = x := ⟨_, rfl⟩
        rw [hx0] at c0 hle
        have hxw : wrap64 (x : Int) = (x : Int) := IntWalk.wrap64_in _ (by omega)
        have HXX := Lib.hid hx0
        clear hI hb hsplit hsd hcnt hp hno' hlow hrow hj hlt hx0 hle
        simp only [rootP_no]
        gi_wp2_with (refine ⟨trivial, ?_⟩; (with_reducible refine (callsIn_wide.2 HA.out).mono ?_); rintro e w' ⟨rfl, rfl⟩)
        rw [hxw]
        show LeavesInM _ _ _ _ _ _ (marksOf rs) _ _
        refine leaves_marks (b := w.heap.size) rs _ HE.out.1.nd (fun r hr => ⟨Nat.le_trans H1.out.2.2.2.size (HE.out.1.mks r hr).1, (HE.out.1.mks r hr).2⟩) fun w' hb' => ?_
        exact ⟨.tuple #[.int .i64 ((x : Int)), .int .i64 0], by simp [results, Tryz.f48, go_sem], Tr.foreR us, Tr.aft us, HE.out.2.2.1, HE.out.2.2.2.1, fun e he => Nat.le_of_lt (HE.out.2.2.2.2.2 trivial e he), by rw [HXX.out], HE.out.2.1.trans hb'⟩
      | some t =>
        have hsplit : Tr.entsO o = Tr.foreR us ++ t.ents ++ Tr.aftR us := by
          have hw := H1.out.1.wf (fun t e => (HX.out.1 t e).1)
          exact (Tr.steps_all (H1.out.1.chain.1 t 0 rfl) (fun x hx => by
            rcases List.mem_cons.1 hx with rfl | hx
            · exact hw.1 t rfl
            · exact hw.2 x hx)).symm
        have hle := hlow.out _ _ hsplit
        rw [List.length_append] at hle
        have hnt0 := hno' t rfl
        have hnt := hnt0.below hb HX.out.2.1 (Nat.le_refl _)
        have hBW : B ≤ W.heap.size := Nat.le_trans HX.out.2.1 hb.size
        have hss := Tr.stop_side hnt0.1 HX.out.2.2.2.2.2.1 HX.out.2.2.2.2.1.1 H1.out.2.1
        have hmk : ∀ w', Below W.heap.size W w' → ∀ r ∈ rs, w'.heap[r]? = some (.deferred (some [])) := fun w' h r hr => (h.block r (Array.getElem?_eq_some_iff.1 (hI.mks r hr).2).1).trans (hI.mks r hr).2
        obtain ⟨r, hr⟩ : ∃ r, decide (Z.cmp t.pre p < 0) = r := ⟨_, rfl⟩
        have HA := Lib.hid (isAhead_c (c := c) hnt hBW hp hb.size HX.out.2.2.2.2.2.1 r hr)
        obtain ⟨kp, hnd⟩ := hnt.2.nd
        obtain ⟨S, hS⟩ : ∃ S, Tr.sums t.ents = S := ⟨_, rfl⟩
        have hSc : S.c = t.ents.length := by rw [← hS, Tr.sums_c]
        rw [hS] at hnd
        have HS := Lib.hid fun (w2 : World) (hb2 : Below W.heap.size W w2) => nSums_c (hnd.below hb2 hBW (Nat.le_refl B)) (Nat.le_trans hBW hb2.size)
        have hRW : w1.heap.size < W.heap.size := (Array.getElem?_eq_some_iff.1 hcnt).1
        have HCl := Lib.hid fun (w2 : World) (hb2 : Below W.heap.size W w2) => (hb2.block w1.heap.size hRW).trans hcnt
        have HE := Lib.hid (And.intro hI (And.intro hb (And.intro hsplit (And.intro hsd (And.intro hss (And.intro hmk (And.intro hSc hBW)))))))
        have HR := Lib.hid hr
        obtain ⟨x, hx0⟩ : ∃ x, (Tr.foreR us).length = x := ⟨_, rfl⟩
        rw [hx0] at c0 hle
        have HXX := Lib.hid hx0
        obtain ⟨y, hy0⟩ : ∃ y, S.c = y := ⟨_, rfl⟩
        have HYY := Lib.hid hy0
        rw [← hSc, hy0] at hle
        obtain ⟨hxw, hxw2, hxy⟩ := of_arith hle
        rw [← hy0] at hxy
        have hmx : Tryz.prog.follows .mixedOrders = true := by kernel_rfl
        have hfld := sums_count
        have hbb := Below.refl W.heap.size W
        clear hI hb hsplit hsd hss hcnt hp hno' hlow hrow hj hlt hx0 hle hnt0 hnt hBW hmk hnd hSc hS hr hy0 hRW d1
        have d1 : decide ((us.length : Int) < (us.length : Int)) = false := decide_eq_false (by omega)
        simp only [rootP_yes]
        cases r with
        | false =>
          gi_wp2_with (refine ⟨trivial, ?_⟩; (with_reducible refine (callsIn_wide.2 HA.out).mono ?_); rintro e w2 ⟨rfl, hb2⟩; have q0 : w2.cell? ⟨w1.heap.size, 0, none⟩ = some (.int .u64 (x : Int)) := (by rw [cell_of_row w2 _ _ _ _ (0, 0) (HCl.out _ hb2), HXX.out]; rfl))
          rw [hxw]
          show LeavesInM _ _ _ _ _ _ (marksOf rs) _ _
          refine leaves_marks (b := w.heap.size) rs _ HE.out.1.nd (fun r hr => ⟨Nat.le_trans H1.out.2.2.2.size (HE.out.1.mks r hr).1, HE.out.2.2.2.2.2.1 _ hb2 r hr⟩) fun w' hb' => ?_
          exact ⟨.tuple #[.int .i64 ((x : Int)), .int .i64 0], by simp [results, Tryz.f48, go_sem], Tr.foreR us, (t.ents ++ Tr.aftR us), (by rw [HE.out.2.2.1, List.append_assoc]), HE.out.2.2.2.1.1, (fun e he => by
            rcases List.mem_append.1 he with he | he
            · exact HE.out.2.2.2.2.1.2.1 (by have := of_decide_eq_false HR.out; omega) e he
            · exact Nat.le_of_lt (HE.out.2.2.2.1.2.1 ⟨t, rfl⟩ e he)), by rw [HXX.out], (HE.out.2.1.trans (hb2.mono HE.out.2.1.size)).trans hb'⟩
        | true =>
          gi_wp2_with (refine ⟨trivial, ?_⟩; (with_reducible refine (callsIn_wide.2 HA.out).mono ?_); rintro e w2 ⟨rfl, hb2⟩; have q0 : w2.cell? ⟨w1.heap.size, 0, none⟩ = some (.int .u64 (x : Int)) := (by rw [cell_of_row w2 _ _ _ _ (0, 0) (HCl.out _ hb2), HXX.out]; rfl))
          refine wpIn_calm (fun Q2 hQ2 => ?_)
          refine wpIn_wide.2 ?_
          go_region_with (go_at_call 87; refine (HS.out _ (by ((repeat (first | refine Below.drew ?_ | (with_reducible refine below_drewN _ ?_) | refine Below.alloc ?_ (by first | omega | (simp; done) | (simp; omega)) _ | refine Below.setCell ?_ (by first | omega | (simp; done) | (simp; omega)) _)); first | exact Below.refl _ _ | assumption | exact below_drewN _ (Below.refl _ _) | exact below_drewN _ (below_drewN _ (Below.refl _ _))))).mono ?_; rintro e w3 ⟨rfl, hb3⟩; have hB3 := Below.trans (show Below W.heap.size W _ by ((repeat (first | refine Below.drew ?_ | (with_reducible refine below_drewN _ ?_) | refine Below.alloc ?_ (by first | omega | (simp; done) | (simp; omega)) _ | refine Below.setCell ?_ (by first | omega | (simp; done) | (simp; omega)) _)); first | exact Below.refl _ _ | assumption | exact below_drewN _ (Below.refl _ _) | exact below_drewN _ (below_drewN _ (Below.refl _ _)))) (hb3.mono (Below.size (show Below W.heap.size W _ by ((repeat (first | refine Below.drew ?_ | (with_reducible refine below_drewN _ ?_) | refine Below.alloc ?_ (by first | omega | (simp; done) | (simp; omega)) _ | refine Below.setCell ?_ (by first | omega | (simp; done) | (simp; omega)) _)); first | exact Below.refl _ _ | assumption | exact below_drewN _ (Below.refl _ _) | exact below_drewN _ (below_drewN _ (Below.refl _ _)))))); have q2 : w3.cell? ⟨w1.heap.size, 0, none⟩ = some (.int .u64 (x : Int)) := (by rw [cell_of_row w3 _ _ _ _ (0, 0) (HCl.out _ hB3), HXX.out]; rfl); have q1 := frozen_of_row w3 w1.heap.size 0 _ _ (HCl.out _ hB3); clear hb3)
          all_goals refine hQ2 _ _ ?_
          all_goals clear hQ2
          all_goals gi_wp2
          all_goals (
            rw [HYY.out, hxw2]
            show LeavesInM _ _ _ _ _ _ (marksOf rs) _ _
            have hset : Below W.heap.size W w3 := hB3
            refine leaves_marks (b := w.heap.size) rs _ HE.out.1.nd (fun r hr => ⟨Nat.le_trans H1.out.2.2.2.size (HE.out.1.mks r hr).1, (Below.heap_setCell _ _ _ _ (fun e => ?_)).trans (HE.out.2.2.2.2.2.1 _ hset r hr)⟩) fun w' hb' => ?_
            · have h3 := HE.out.1.cnt
              have h4 := (HE.out.1.mks r hr).2
              rw [show r = w1.heap.size from e, h3] at h4
              simp at h4
            · refine ⟨.tuple #[.int .i64 ((x : Int) + (y : Int)), .int .i64 0], by simp [results, Tryz.f48, go_sem], Tr.foreR us ++ t.ents, Tr.aftR us, HE.out.2.2.1, fun e he => ?_, fun e he => Nat.le_of_lt (HE.out.2.2.2.1.2.1 ⟨t, rfl⟩ e he), ?_, ((HE.out.2.1.trans (hset.mono HE.out.2.1.size)).setCell (p := ⟨w1.heap.size, 0, none⟩) H1.out.2.2.2.size _).trans hb'⟩
              · rcases List.mem_append.1 he with he | he
                · exact HE.out.2.2.2.1.1 e he
                · exact HE.out.2.2.2.2.1.1 (of_decide_eq_true HR.out) e he
              · rw [List.length_append, HXX.out, ← HE.out.2.2.2.2.2.2.1, HYY.out]; rfl)
end Go.Proofs.YtmdohckoegpgkaaGreatDoor
