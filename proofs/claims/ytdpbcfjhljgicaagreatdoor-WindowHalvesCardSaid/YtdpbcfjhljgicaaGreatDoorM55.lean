import Derived.Test.YtdpbcfjhljgicaaGreatDoorM28
import Derived.Test.YtdpbcfjhljgicaaGreatDoorM01
import Derived.Test.YtdpbcfjhljgicaaGreatDoorM53
import Derived.Test.YtdpbcfjhljgicaaGreatDoorM54
import Derived.Test.YtdpbcfjhljgicaaGreatDoorM23
/-
  PLAIN MATHEMATICS of layer 9: what of a node lies in a box: nodes wholly in it, kids that the box leaves.
-/
namespace Go.Proofs.YtdpbcfjhljgicaaGreatDoor.Tr
open Go.Proofs.YtdpbcfjhljgicaaGreatDoor.Z

/-- is an entry in the box? -/
def inB (lo hi : List Nat) (e : Ent) : Bool := Bx.isin lo hi e.1 e.1.length
/-- are all points that a node covers in the box? -/
def whB (lo hi : List Nat) (t : T) : Bool := Mk.whole t.pre t.lv lo hi t.pre.length
/-- does the box leave an address of a node? -/
def hasB (lo hi : List Nat) (t : T) (a : Nat) : Bool := Mk.has t.pre.length (Mk.lowM t.pre (t.lv - 1) lo hi) (Mk.highM t.pre (t.lv - 1) lo hi) a
theorem bit_two (a b : Nat) (h : b < 2) : Z.bit (2 * a + b) 0 = b ∧ ∀ m, Z.bit (2 * a + b) (m + 1) = Z.bit a m := by
  refine ⟨by unfold Z.bit; simp; omega, fun m => ?_⟩
  unfold Z.bit
  rw [Nat.pow_succ', ← Nat.div_div_eq_div_mul, show (2 * a + b) / 2 = a by omega]
theorem addr_bit_take (p : List Nat) (l i : Nat) : ∀ j, j ≤ p.length → i < j → Z.bit (addr (p.take j) l) (j - 1 - i) = Z.bit (Bx.g p i) l
  | 0, _, hi => by omega
  | j + 1, hj, hi => by
    have hlt : j < p.length := by omega
    rw [addr_take p l j hlt]
    have hb := bit_two (addr (p.take j) l) (Z.bit p[j] l) (Z.bit_lt _ _)
    by_cases h : i = j
    · subst h
      rw [show i + 1 - 1 - i = 0 by omega, hb.1]
      unfold Bx.g
      rw [List.getD_eq_getElem?_getD, List.getElem?_eq_getElem hlt]
      rfl
    · rw [show j + 1 - 1 - i = (j - 1 - i) + 1 by omega, hb.2]
      exact addr_bit_take p l i j (by omega) (by omega)
theorem addr_bit (p : List Nat) (l i : Nat) (h : i < p.length) : Z.bit (addr p l) (p.length - 1 - i) = Z.bit (Bx.g p i) l := by
  have := addr_bit_take p l i p.length (Nat.le_refl _) h
  rwa [List.take_length] at this
theorem cutN_up (u k : Nat) : u ≤ cutN u k + (2 ^ k - 1) := by
  unfold cutN
  have h1 := Nat.div_add_mod u (2 ^ k)
  have h2 := Nat.mod_lt u (Nat.two_pow_pos k)
  have h3 : u / 2 ^ k * 2 ^ k = 2 ^ k * (u / 2 ^ k) := Nat.mul_comm _ _
  omega
theorem g_cutN {us : List Nat} {i : Nat} (k : Nat) : Bx.g (cut us k) i = cutN (Bx.g us i) k := by
  unfold Bx.g cut
  rw [List.getD_eq_getElem?_getD, List.getD_eq_getElem?_getD, List.getElem?_map]
  cases us[i]? with
  | none => simp [cutN]
  | some u => rfl
theorem whole_in {k : Nat} {t : T} (h : Wf k t) {lo hi : List Nat} (hw : whB lo hi t = true) : ∀ e ∈ t.ents, inB lo hi e = true := by
  intro e he
  have h1 := h.entry he
  unfold inB
  rw [Bx.isin_true]
  intro i hi
  have hlen := h.len
  have h2 := (Mk.whole_true.1 hw) i (by omega)
  have h3 : cutN (Bx.g e.1 i) t.lv = Bx.g t.pre i := by rw [← g_cutN, h1.2.2]
  have h4 : cutN (Bx.g t.pre i) t.lv = Bx.g t.pre i := by rw [← g_cutN, h.cut_pre]
  rw [h4, ← h3] at h2
  have h5 := cutN_le (Bx.g e.1 i) t.lv
  have h6 := cutN_up (Bx.g e.1 i) t.lv
  omega
theorem ent_whole (g : Nat) (p : List Nat) (v : Nat) (lo hi : List Nat) : whB lo hi (.ent g p v) = inB lo hi (p, v) := by
  unfold whB inB
  rw [Bool.eq_iff_iff, Mk.whole_true, Bx.isin_true]
  have : ∀ i, cutN (Bx.g p i) 0 = Bx.g p i := fun i => cutN_zero _
  constructor
  · intro h i hi
    have h1 := h i hi
    simp only [T.lv, T.pre, this] at h1
    omega
  · intro h i hi
    have h1 := h i hi
    simp only [T.lv, T.pre, this]
    simp only at h1
    omega
theorem left_in {k g l : Nat} {pre : List Nat} {ks : List (Nat × T)} (h : Wf k (.br g l pre ks)) {lo hi : List Nat} {x : Nat × T} (hx : x ∈ ks) {e : Ent} (he : e ∈ x.2.ents) (hin : inB lo hi e = true) : hasB lo hi (.br g l pre ks) x.1 = true := by
  have hmem : e ∈ (T.br g l pre ks).ents := by rw [ents_br]; exact mem_entsL.2 ⟨x, hx, he⟩
  have h1 := h.entry hmem
  have h2 := kid_addr h hx he
  have hpl : pre.length = k := h.len
  have hlt : x.1 < 2 ^ pre.length := by
    rw [hpl]
    cases h with | br _ _ _ _ h63 hw => exact hw.lt x hx
  have hc : cut e.1 (l + 1) = pre := h1.2.2
  have hi' := Bx.isin_true.1 hin
  have hemp : Bx.emp lo hi pre.length = false := Bx.emp_false.2 fun i hi => by have := hi' i (by rw [h1.1]; omega); omega
  show Mk.has pre.length (Mk.lowM pre l lo hi) (Mk.highM pre l lo hi) x.1 = true
  rw [Mk.mask_touch hlt hemp, Mk.touch_true]
  intro i hi
  have h3 := hi' i (by rw [h1.1]; omega)
  have h4 : Bx.g (place pre l x.1) i = Mk.halfAt (Bx.g pre i) l (Z.bit x.1 (pre.length - 1 - i)) := Mk.g_place hi
  have h5 : Bx.g (cut (place pre l x.1) l) i = cutN (Bx.g e.1 i) l := by
    rw [g_cutN, h4, Mk.half_cut]
    unfold Mk.halfAt
    have e1 : cutN (Bx.g pre i) (l + 1) = cutN (Bx.g e.1 i) (l + 1) := by
      rw [← hc, g_cutN, cutN_cutN _ _ _ (Nat.le_refl _)]
    have e2 : Z.bit x.1 (pre.length - 1 - i) = Z.bit (Bx.g e.1 i) l := by
      have hp2 : addr e.1 l < 2 ^ e.1.length := addr_bound e.1 l
      have := addr_bit e.1 l i (by rw [h1.1]; omega)
      rw [← h2, hpl, ← h1.1]
      exact this
    rw [e1, e2, ← cutN_succ]
  have h6 : Bx.g (Bx.cellHi (place pre l x.1) l) i = cutN (Bx.g e.1 i) l + (2 ^ l - 1) := by
    have hpi : i < (place pre l x.1).length := by rw [place_length]; exact hi
    have : Bx.g (Bx.cellHi (place pre l x.1) l) i = cutN (Bx.g (place pre l x.1) i) l + (2 ^ l - 1) := Bx.g_tab _ hpi
    rw [this, ← g_cutN, h5]
  rw [h5, h6]
  have h7 := cutN_le (Bx.g e.1 i) l
  have h8 := cutN_up (Bx.g e.1 i) l
  omega
/-! ### what a guide meets -/
/-- the nodes that have nothing but entries in the box, and no others in them -/
def wholes (lo hi : List Nat) (t : T) : List T :=
  if whB lo hi t = true then [t] else match t with
    | .ent _ _ _ => []
    | .br g l pre ks => ks.attach.flatMap fun x => if hasB lo hi (.br g l pre ks) x.1.1 = true then wholes lo hi x.1.2 else []
termination_by SizeOf.sizeOf t
decreasing_by
  have := kid_lt x.2 g l pre
  simpa using this
theorem wholes_whole {lo hi : List Nat} {t : T} (h : whB lo hi t = true) : wholes lo hi t = [t] := by rw [wholes.eq_def, if_pos h]
theorem wholes_ent {lo hi : List Nat} {g : Nat} {p : List Nat} {v : Nat} (h : whB lo hi (.ent g p v) = false) : wholes lo hi (.ent g p v) = [] := by rw [wholes.eq_def, if_neg (by simp [h])]
/-- what a guide meets of some kids -/
def wholesK (lo hi : List Nat) (t : T) (ks : List (Nat × T)) : List T := (ks.filter fun x => hasB lo hi t x.1).flatMap fun x => wholes lo hi x.2
theorem wholes_br {lo hi : List Nat} {g l : Nat} {pre : List Nat} {ks : List (Nat × T)} (h : whB lo hi (.br g l pre ks) = false) : wholes lo hi (.br g l pre ks) = wholesK lo hi (.br g l pre ks) ks := by
  rw [wholes.eq_def, if_neg (by simp [h])]
  have key : ∀ (L : List (Nat × T)) (hL : ∀ x ∈ L, x ∈ ks), (L.attachWith (· ∈ ks) hL).flatMap (fun x => if hasB lo hi (.br g l pre ks) x.1.1 = true then wholes lo hi x.1.2 else []) = wholesK lo hi (.br g l pre ks) L := by
    intro L
    induction L with
    | nil => intro _; rfl
    | cons x L ih =>
      intro hL
      have h1 := ih fun y hy => hL y (List.mem_cons_of_mem _ hy)
      unfold wholesK at h1 ⊢
      rw [List.attachWith_cons, List.flatMap_cons, h1]
      cases hx : hasB lo hi (.br g l pre ks) x.1 <;> simp [hx]
  exact key ks fun _ h => h
theorem wholesK_cons (lo hi : List Nat) (t : T) (x : Nat × T) (ks : List (Nat × T)) : wholesK lo hi t (x :: ks) = (if hasB lo hi t x.1 = true then wholes lo hi x.2 else []) ++ wholesK lo hi t ks := by
  unfold wholesK
  cases hx : hasB lo hi t x.1 <;> simp [hx]
theorem filter_none {L : List Ent} {f : Ent → Bool} (h : ∀ e ∈ L, f e = false) : L.filter f = [] := List.filter_eq_nil_iff.2 fun e he => by simp [h e he]
/-- ALL THAT LIES IN THE BOX, AND NOTHING ELSE -/
theorem wholes_ents {k : Nat} {lo hi : List Nat} {t : T} (h : Wf k t) : (wholes lo hi t).flatMap T.ents = t.ents.filter (inB lo hi) := by
  induction h with
  | ent g p v k1 k16 hl ho hv =>
    have h0 := ent_whole g p v lo hi
    cases hw : whB lo hi (.ent g p v) with
    | true =>
      rw [wholes_whole hw, ents_ent]
      rw [hw] at h0
      simp [ents_ent, ← h0]
    | false =>
      rw [wholes_ent hw, ents_ent]
      rw [hw] at h0
      simp [← h0]
  | br g l pre ks h63 hw h2 hl ho hk hc ih =>
    have wf : Wf k (.br g l pre ks) := .br g l pre ks h63 hw h2 hl ho hk hc
    cases hwh : whB lo hi (.br g l pre ks) with
    | true =>
      rw [wholes_whole hwh]
      have := whole_in wf hwh
      rw [List.filter_eq_self.2 this]
      simp
    | false =>
      rw [wholes_br hwh, ents_br]
      have key : ∀ L : List (Nat × T), (∀ x ∈ L, x ∈ ks) → (wholesK lo hi (.br g l pre ks) L).flatMap T.ents = (entsL L).filter (inB lo hi) := by
        intro L
        induction L with
        | nil => intro _; rfl
        | cons x L ihL =>
          intro hL
          have hx := hL x List.mem_cons_self
          have h1 := ihL fun y hy => hL y (List.mem_cons_of_mem _ hy)
          rw [wholesK_cons, List.flatMap_append, h1, entsL_cons, List.filter_append]
          congr 1
          cases hh : hasB lo hi (.br g l pre ks) x.1 with
          | true => rw [if_pos rfl]; exact ih x hx
          | false =>
            rw [if_neg (by simp)]
            symm
            refine filter_none fun e he => ?_
            cases hin : inB lo hi e with
            | false => rfl
            | true => rw [left_in wf hx he hin] at hh; cases hh
      exact key ks fun _ h => h
end Go.Proofs.YtdpbcfjhljgicaaGreatDoor.Tr

/-
  CONTRACTS of package window, first part: guide.look.
-/
namespace Go.Proofs.YtdpbcfjhljgicaaGreatDoor
open Go.ChangeShapes Go.WideShapes Go.ChangeAt Go.RowKit

/-- a guide: the box, and what it asks -/
abbrev gdV (C : Option Addr) (n d : Nat) (C' : Option Addr) (n' d' : Nat) (fi fp : Value) : Value := .agg #[.slice C n d, .slice C' n' d', fi, fp]
/-- a box that can be read -/
structure BoxP (w : World) (B k : Nat) (C : Option Addr) (lo : List Nat) (C' : Option Addr) (hi : List Nat) : Prop where
  pl : Pts w B C lo
  ph : Pts w B C' hi
  k1 : 1 ≤ k
  k16 : k ≤ 16
  el : lo.length = k
  eh : hi.length = k
theorem BoxP.below {w w' : World} {B B' D k : Nat} {C C' : Option Addr} {lo hi : List Nat} (h : BoxP w B k C lo C' hi) (hb : Below D w w') (hD : B ≤ D) (hB : B ≤ B') : BoxP w' B' k C lo C' hi :=
  ⟨(h.pl.below' hb hD).keep hB (fun _ _ => rfl), (h.ph.below' hb hD).keep hB (fun _ _ => rfl), h.k1, h.k16, h.el, h.eh⟩
/-- a node's addresses that a box leaves, as a mask -/
def leftV (lo hi : List Nat) : Tr.T → Value
  | .ent _ _ _ => maskV 0 0 0
  | .br _ l pre _ => maskV (pre.length : Int) (Mk.lowM pre l lo hi : Int) (Mk.highM pre l lo hi : Int)

theorem lst_new (w : World) (A : Option Addr) (n c : Nat) (A' : Option Addr) (n' c' : Nat) (fi fp : Value) : OSt0 w ((w.alloc (.cells #[.slice A n c, .slice A' n' c', fi, fp] 90)).alloc (.cells #[.int .i64 0, .int .i64 0, .int .i64 0] 204)) A n c A' n' c' :=
  ⟨(below_alloc _ _).alloc (by simp) _, BoxAt.below (w := w.alloc (.cells #[.slice A n c, .slice A' n' c', fi, fp] 90)) ⟨by rw [World.cell?_alloc_new]; rfl, by rw [World.cell?_alloc_new]; rfl⟩ (below_alloc _ _) (by simp), m0_at (heap_at _ _ _ (by simp)), by simp⟩
set_option maxRecDepth 100000 in
theorem look_nil (C C' : Option Addr) (n d n' d' : Nat) (fi fp : Value) (w : World) :
    Calls Tryz.prog 144 #[gdV C n d C' n' d' fi fp, .pointer none] w fun e w' => e = .returned (.tuple #[.bool false, maskV 0 0 0]) ∧ Below w.heap.size w w' := by
  have H1 := Lib.hid fun w1 : World => mwhole_dim none C C' 0 0 n d n' d' (-1) w1 (by simp [maxLen]) (by omega)
  have H2 := Lib.hid fun w1 : World => mof_dim none C C' 0 0 n d n' d' (-1) w1 (by simp [maxLen]) (by omega)
  have s0 := lst_new w C n d C' n' d' fi fp
  go_enter Tryz.func144, Tryz.ntmps144
  go_wp2_with first
    | (go_at_call 110; refine (nPrefix_nil _).mono ?_; rintro e w1 ⟨rfl, rfl⟩)
    | (go_at_call 109; refine (nLevel_nil _).mono ?_; rintro e w1 ⟨rfl, rfl⟩)
  refine (H1.out _).mono ?_
  rintro e w1 ⟨rfl, hb1⟩
  have s1 := s0.step hb1
  have s1' := s1
  obtain ⟨-, ⟨k0, k1⟩, -, -⟩ := s1'
  clear s0 hb1
  go_wp2_with fail
  refine (H2.out _).mono ?_
  rintro e w2 ⟨rfl, hb2⟩
  have s2 := (s1.step hb2).mask 0 0 0
  have s2' := s2
  obtain ⟨-, -, ⟨⟨r0, r1, r2⟩, f0, f1, f2⟩, ⟨⟨m0, m1, m2⟩, -⟩, -⟩ := s2'
  clear k0 k1
  generalize hmb : w2.heap.size = mb at *
  go_wp2_with fail
  go_region
  all_goals go_wp2_with fail
  all_goals
    obtain ⟨hm, hbel⟩ := m0_out s2.2.2.1 s2.1 (by omega) 0 0 0
    replace hm := hm.drew
    replace hbel := hbel.drew
    clear r0 r1 r2 f0 f1 f2 m0 m1 m2 s2 hb2 s1
    revert hm hbel
    generalize World.drew _ = W'
    rintro ⟨t0, t1, t2⟩ hbel
    refine bodyPost_ret (v := .tuple #[.bool false, maskV 0 0 0]) (by simp [results, Tryz.results144, go_sem, t0, t1, t2]) rfl ?_
    exact ⟨rfl, hbel⟩

/-- what is asked of a node, and of the box: the prefix, the level, whether all is in the box -/
theorem look_asks {w : World} {B k : Nat} {t : Tr.T} {C C' : Option Addr} {lo hi : List Nat} (d d' : Nat) (hN : Node w B k t) (hX : BoxP w B k C lo C' hi) (hB : B ≤ w.heap.size) (r : Bool) (hw : Tr.whB lo hi t = r) :
    (∀ w1 : World, Below w.heap.size w w1 → Calls Tryz.prog 110 #[.pointer (some ⟨t.blk, 0, none⟩)] w1 fun e w' => ∃ h d, e = .returned (.slice (some ⟨h, 0, none⟩) t.pre.length d) ∧ Own w' w1.heap.size (.slice (some ⟨h, 0, none⟩) t.pre.length d) t.pre ∧ Below w1.heap.size w1 w') ∧
    (∀ w1 : World, Below w.heap.size w w1 → Calls Tryz.prog 109 #[.pointer (some ⟨t.blk, 0, none⟩)] w1 fun e w' => e = .returned (.int .i64 (levI t)) ∧ w1 = w') ∧
    (∀ w1 : World, Below w.heap.size w w1 → ∀ (A : Option Addr) (c : Nat), Pts w1 w1.heap.size A t.pre → Calls Tryz.prog 169 #[.slice A t.pre.length c, .int .i64 (levI t), boxV C lo.length d C' hi.length d'] w1 fun e w' => e = .returned (.tuple #[.bool r, .int .i64 0]) ∧ Below w1.heap.size w1 w') := by
  obtain ⟨kp, hnd⟩ := hN.2.nd
  have h1 := hN.1.len
  have h2 := hX.k1
  have h3 := hX.k16
  have h4 := hX.el
  have h5 := hX.eh
  refine ⟨fun w1 hb => nPrefix_c (hnd.below hb hB (Nat.le_refl _)) (Nat.le_trans hB hb.size) (by intro h; rw [h] at h1; simp at h1; omega) (by omega), fun w1 hb => nLevel_c (hnd.below hb hB (Nat.le_refl _)), fun w1 hb A c hp => ?_⟩
  have hX1 := hX.below hb hB (Nat.le_trans hB hb.size)
  exact mwhole_yes A C C' c d d' t.pre lo hi (levI t) t.lv w1.heap.size w1 r hw hp hX1.pl hX1.ph (Nat.le_refl _) (by omega) (by omega) (by omega) (by omega) rfl hN.1.lv64
set_option maxRecDepth 100000 in
set_option maxHeartbeats 1600000 in
theorem look_yes {w : World} {B k : Nat} {t : Tr.T} {C C' : Option Addr} {lo hi : List Nat} (d d' : Nat) (fi fp : Value) (hN : Node w B k t) (hX : BoxP w B k C lo C' hi) (hB : B ≤ w.heap.size) (hw : Tr.whB lo hi t = true) :
    Calls Tryz.prog 144 #[gdV C lo.length d C' hi.length d' fi fp, .pointer (some ⟨t.blk, 0, none⟩)] w fun e w' => e = .returned (.tuple #[.bool true, maskV 0 0 0]) ∧ Below w.heap.size w w' := by
  obtain ⟨HP, HL, HW⟩ := look_asks d d' hN hX hB true hw
  replace HP := Lib.hid HP
  replace HL := Lib.hid HL
  replace HW := Lib.hid HW
  have s0 := lst_new w C lo.length d C' hi.length d' fi fp
  clear hw hN hX hB
  go_enter Tryz.func144, Tryz.ntmps144
  go_wp2_with fail
  refine (HP.out _ s0.1).mono ?_
  rintro e w1 ⟨h, c, rfl, ho, hb1⟩
  have s1 := s0.step hb1
  clear s0 hb1
  obtain ⟨A, c', he, hp⟩ := ho.pts
  have hA : A = some ⟨h, 0, none⟩ := by injection he with h1 h2 h3; exact h1.symm
  subst hA
  clear he ho
  have s1' := s1
  obtain ⟨-, ⟨k0, k1⟩, -, -⟩ := s1'
  go_wp2_with fail
  refine (HL.out _ s1.1).mono ?_
  rintro e w2 ⟨rfl, rfl⟩
  go_wp2_with fail
  refine (HW.out _ s1.1 _ _ hp).mono ?_
  rintro e w2 ⟨rfl, hb2⟩
  have s2 := s1.step hb2
  have s2' := s2
  obtain ⟨-, -, ⟨⟨r0, r1, r2⟩, f0, f1, f2⟩, -⟩ := s2'
  clear k0 k1 hp s1 hb2
  go_wp2_with fail
  obtain ⟨⟨t0, t1, t2⟩, hbel⟩ := m0_out s2.2.2.1 s2.1 (by omega) 0 0 0
  refine bodyPost_ret (v := .tuple #[.bool true, maskV 0 0 0]) (by simp [results, Tryz.results144, go_sem, t0, t1, t2]) rfl ?_
  exact ⟨rfl, hbel⟩
theorem of_asks {w : World} {B k : Nat} {t : Tr.T} {C C' : Option Addr} {lo hi : List Nat} (d d' : Nat) (hN : Node w B k t) (hX : BoxP w B k C lo C' hi) (hB : B ≤ w.heap.size) :
    ∃ x y z co, leftV lo hi t = maskV x y z ∧ ∀ w1 : World, Below w.heap.size w w1 → ∀ (A : Option Addr) (c : Nat), Pts w1 w1.heap.size A t.pre → Calls Tryz.prog 170 #[.slice A t.pre.length c, .int .i64 (levI t), boxV C lo.length d C' hi.length d'] w1 fun e w' => e = .returned (.tuple #[maskV x y z, .int .i64 co]) ∧ Below w1.heap.size w1 w' := by
  have h1 := hN.1.len
  have h2 := hX.k1
  have h3 := hX.k16
  have h4 := hX.el
  have h5 := hX.eh
  cases t with
  | ent g p v => exact ⟨0, 0, 0, 3, rfl, fun w1 hb A c hp => mof_arg A C C' _ c _ d _ d' _ w1 (by omega) (by omega) (by omega) (by omega) (Or.inl (by simp [levI, Tr.T.lv]))⟩
  | br g l pre ks =>
    refine ⟨_, _, _, 0, rfl, fun w1 hb A c hp => ?_⟩
    have hX1 := hX.below hb hB (Nat.le_trans hB hb.size)
    have hl := hN.1.lv64
    have e : levI (.br g l pre ks) = (l : Int) := by simp [levI, Tr.T.lv]
    rw [e]
    exact mof_yes A C C' c d d' pre lo hi l w1.heap.size w1 hp hX1.pl hX1.ph (Nat.le_refl _) (by simp only [Tr.T.pre] at h1; omega) (by simp only [Tr.T.pre] at h1; omega) (by simp only [Tr.T.pre] at h1; omega) (by simp only [Tr.T.pre] at h1; omega) (by simp only [Tr.T.lv] at hl; omega)
set_option maxRecDepth 100000 in
set_option maxHeartbeats 1600000 in
theorem look_no {w : World} {B k : Nat} {t : Tr.T} {C C' : Option Addr} {lo hi : List Nat} (d d' : Nat) (fi fp : Value) (hN : Node w B k t) (hX : BoxP w B k C lo C' hi) (hB : B ≤ w.heap.size) (hw : Tr.whB lo hi t = false) :
    Calls Tryz.prog 144 #[gdV C lo.length d C' hi.length d' fi fp, .pointer (some ⟨t.blk, 0, none⟩)] w fun e w' => e = .returned (.tuple #[.bool false, leftV lo hi t]) ∧ Below w.heap.size w w' := by
  obtain ⟨HP, HL, HW⟩ := look_asks d d' hN hX hB false hw
  obtain ⟨x, y, z, co, hv, HO⟩ := of_asks d d' hN hX hB
  rw [hv]
  replace HP := Lib.hid HP
  replace HL := Lib.hid HL
  replace HW := Lib.hid HW
  replace HO := Lib.hid HO
  have s0 := lst_new w C lo.length d C' hi.length d' fi fp
  clear hw hN hX hB hv
  go_enter Tryz.func144, Tryz.ntmps144
  go_wp2_with fail
  refine (HP.out _ s0.1).mono ?_
  rintro e w1 ⟨h, c, rfl, ho, hb1⟩
  have s1 := s0.step hb1
  clear s0 hb1
  obtain ⟨A, c', he, hp⟩ := ho.pts
  have hA : A = some ⟨h, 0, none⟩ := by injection he with h1 h2 h3; exact h1.symm
  subst hA
  clear he ho
  have s1' := s1
  obtain ⟨-, ⟨k0, k1⟩, -, -⟩ := s1'
  go_wp2_with fail
  refine (HL.out _ s1.1).mono ?_
  rintro e w2 ⟨rfl, rfl⟩
  go_wp2_with fail
  refine (HW.out _ s1.1 _ _ hp).mono ?_
  rintro e w2 ⟨rfl, hb2⟩
  replace hp := hp.below hb2 hb2.size
  replace s1 := s1.step hb2
  have s1' := s1
  clear k0 k1 hb2
  obtain ⟨-, ⟨k0, k1⟩, -, -⟩ := s1'
  go_wp2_with fail
  refine (HO.out _ s1.1 _ _ hp).mono ?_
  rintro e w2 ⟨rfl, hb2⟩
  clear hp
  have s2 := (s1.step hb2).mask x y z
  have s2' := s2
  obtain ⟨-, -, ⟨⟨r0, r1, r2⟩, f0, f1, f2⟩, ⟨⟨m0, m1, m2⟩, -⟩, -⟩ := s2'
  clear k0 k1
  generalize hmb : w2.heap.size = mb at *
  go_wp2_with fail
  go_region
  all_goals go_wp2_with fail
  all_goals
    obtain ⟨hm, hbel⟩ := m0_out s2.2.2.1 s2.1 (by omega) x y z
    replace hm := hm.drew
    replace hbel := hbel.drew
    clear r0 r1 r2 f0 f1 f2 m0 m1 m2 s2 hb2 s1
    revert hm hbel
    generalize World.drew _ = W'
    rintro ⟨t0, t1, t2⟩ hbel
    refine bodyPost_ret (v := .tuple #[.bool false, maskV x y z]) (by simp [results, Tryz.results144, go_sem, t0, t1, t2]) rfl ?_
    exact ⟨rfl, hbel⟩

end Go.Proofs.YtdpbcfjhljgicaaGreatDoor
