import Derived.Test.YtdpbcfjhljgicaaGreatDoorM30
/-
  CONTRACTS of package walk: over, New, isPoint, side, First, Last. Laid by wip/gen21.py.
-/
namespace Go.Proofs.YtdpbcfjhljgicaaGreatDoor
open Go.ChangeShapes Go.WideShapes Go.ChangeAt Go.RowKit
open Tr (T S4 Ent)

/-! ### isPoint, side -/
theorem isPoint_c (A : Option Addr) (n c k : Nat) (w : World) (hn : n ≤ maxLen) (hk : k ≤ 16) (r : Bool) (hr : decide (1 ≤ n ∧ n = k) = r) :
    Calls Tryz.prog 120 #[.slice A n c, .int .i64 (k : Int)] w fun e w' => e = .returned (.bool r) ∧ w = w' := by
  by_cases h : 1 ≤ n ∧ n ≤ 16
  · have H := Lib.hid (right_yes A n c w h.1 h.2)
    have e1 : ((n : Int) == (k : Int)) = r := by
      rw [← hr]
      by_cases hnk : n = k
      · subst hnk; simp [h.1]
      · rw [decide_eq_false (fun e => hnk e.2)]; simp; omega
    clear h hr hn hk
    go_enter Tryz.func120, Tryz.ntmps120
    go_wp2_with (go_at_call 112; refine H.out.mono ?_; rintro e w' ⟨rfl, rfl⟩)
    go_ret
    exact ⟨rfl, rfl⟩
  · have H := Lib.hid (right_no A n c w hn h)
    have e1 : r = false := by rw [← hr]; exact decide_eq_false (fun e => h ⟨e.1, by omega⟩)
    subst e1
    clear h hr hn hk
    go_enter Tryz.func120, Tryz.ntmps120
    go_wp2_with (go_at_call 112; refine H.out.mono ?_; rintro e w' ⟨rfl, rfl⟩)
    go_ret
    exact ⟨rfl, rfl⟩
theorem side_c {w : World} {B k : Nat} {t : T} (h : Node w B k t) (hB : B ≤ w.heap.size) {p : List Nat} {A : Option Addr} {c B' : Nat} (hp : Pts w B' A p) (hB' : B' ≤ w.heap.size) (hl : p.length = k) (s : Int) (hs : Z.cmp t.pre p = s) :
    Calls Tryz.prog 123 #[.pointer (some ⟨t.blk, 0, none⟩), .slice A p.length c] w fun e w' => e = .returned (.int .i64 s) ∧ Below w.heap.size w w' := by
  obtain ⟨kp, hnd⟩ := h.2.nd
  have hlen := h.1.len
  have k1 := h.1.k1
  have k16 := h.1.k16
  have H1 := Lib.hid (nPrefix_c hnd hB (by intro e; rw [e] at hlen; simp at hlen; omega) (by omega))
  have H2 : Hid (∀ w2 h2 d2, Own w2 w.heap.size (.slice (some ⟨h2, 0, none⟩) t.pre.length d2) t.pre → Below w.heap.size w w2 → Calls Tryz.prog 78 #[.slice (some ⟨h2, 0, none⟩) t.pre.length d2, .slice A p.length c] w2 fun e w' => e = .returned (.tuple #[.int .i64 s, .int .i64 0]) ∧ w2 = w') := Lib.hid fun w2 h2 d2 ho hb => by
    obtain ⟨A', c', hv, hp'⟩ := ho.pts
    simp only [Value.slice.injEq] at hv
    obtain ⟨rfl, -, rfl⟩ := hv
    have := cmp_yes (some ⟨h2, 0, none⟩) A d2 c t.pre p w2.heap.size w2 hp' ((hp.below' hb hB').keep (Nat.le_trans hB' hb.size) (fun _ _ => rfl)) (by omega) (by omega) (by omega)
    rw [hs] at this
    exact this
  clear hnd hlen k1 k16 hp hs hl h
  go_enter Tryz.func123, Tryz.ntmps123
  go_wp2_with (first
    | (go_at_call 110; refine H1.out.mono ?_; rintro e w2 ⟨h2, d2, rfl, ho, hb⟩; have H3 := Lib.hid (And.intro ho hb); clear ho hb)
    | (go_at_call 78; refine (H2.out _ _ _ H3.out.1 H3.out.2).mono ?_; rintro e w' ⟨rfl, rfl⟩))
  go_ret
  exact ⟨rfl, H3.out.2⟩

/-! ### First, Last -/
theorem res_below {w w' : World} (h : Below w.heap.size w w') (x y : Value) : Below w.heap.size w ((w'.setCell ⟨w.heap.size, 0, none⟩ x).setCell ⟨w.heap.size, 1, none⟩ y) :=
  (h.setCell (p := ⟨w.heap.size, 0, none⟩) (Nat.le_refl _) x).setCell (p := ⟨w.heap.size, 1, none⟩) (Nat.le_refl _) y
/-- on the way to an end: the node at which it stands tells what the first one tells -/
structure Way1 (w : World) (B k : Nat) (f : List Ent → Option Ent) (t s : T) (w' : World) : Prop where
  node : Node w B k s
  ends : f s.ents = f t.ents
  bel : Below w.heap.size w w'
  box : w'.heap[w.heap.size]? = some (.cells #[.slice none 0 0, .int .u64 0] 54 (0, 0))
theorem Way1.lt {w : World} {B k : Nat} {f : List Ent → Option Ent} {t s : T} {w' : World} (h : Way1 w B k f t s w') : w.heap.size < w'.heap.size := (Array.getElem?_eq_some_iff.1 h.box).1
/-! ### over, New -/
def startS : Option T → List (T × Nat)
  | none => []
  | some t => [(t, 0)]
theorem over_c {w : World} {B C k : Nat} {o : Option T} (h : NodeO w B k o) (hB : B ≤ C) (hC : C ≤ w.heap.size) : Calls Tryz.prog 119 #[.pointer (rootP o)] w fun e w' => ∃ g D d kk, e = .returned (.pointer (some ⟨g, 0, none⟩)) ∧
    CurAt w' C g k kk o (startS o) D d ∧ Below w.heap.size w w' ∧ (∀ b, Cf g D b → w.heap.size ≤ b) := by
  cases o with
  | none =>
    go_enter Tryz.func119, Tryz.ntmps119
    simp only [rootP]
    go_wp2_with (go_at_call 95; refine (nK_nil _).mono ?_; rintro e w2 ⟨rfl, rfl⟩)
    go_ret
    refine ⟨w.heap.size, none, 0, 0, rfl, ⟨⟨heap_at w _ _ rfl, hC, ownL_none _ _ _, by simp⟩, rfl, fun x hx => by simp [startS] at hx, by simp; omega⟩, below_alloc w _, fun b hb => by rcases hb with rfl | hb; exact Nat.le_refl _; cases hb⟩
  | some t =>
    have hn := h t rfl
    obtain ⟨kp, hnd⟩ := hn.2.nd
    have HK := Lib.hid (nK_c hnd)
    have hal := below_alloc w (.cells #[.int .i64 (t.pre.length : Int), .pointer (some ⟨t.blk, 0, none⟩), .slice none 0 0] 179)
    have hm : CurM (w.alloc (.cells #[.int .i64 (t.pre.length : Int), .pointer (some ⟨t.blk, 0, none⟩), .slice none 0 0] 179)) C w.heap.size (t.pre.length : Int) (some ⟨t.blk, 0, none⟩) [] none 0 :=
      ⟨heap_at w _ _ rfl, hC, ownL_none _ _ _, by simp⟩
    have HS : Hid (Calls Tryz.prog 121 #[.pointer (some ⟨w.heap.size, 0, none⟩), .pointer (some ⟨t.blk, 0, none⟩), .int .i64 0] (w.alloc (.cells #[.int .i64 (t.pre.length : Int), .pointer (some ⟨t.blk, 0, none⟩), .slice none 0 0] 179)) fun e w' => e = .returned (.tuple #[]) ∧
      ∃ D' d', CurM w' C w.heap.size (t.pre.length : Int) (some ⟨t.blk, 0, none⟩) [(t, 0)] D' d' ∧ Foot (Cf w.heap.size none) (w.alloc (.cells #[.int .i64 (t.pre.length : Int), .pointer (some ⟨t.blk, 0, none⟩), .slice none 0 0] 179)) w' ∧ (∀ b, Cf w.heap.size D' b → Cf w.heap.size none b ∨ (w.alloc (.cells #[.int .i64 (t.pre.length : Int), .pointer (some ⟨t.blk, 0, none⟩), .slice none 0 0] 179)).heap.size ≤ b)) := Lib.hid (step_c hm (by simp) (Nat.le_trans hC hal.size) t 0)
    have HA := Lib.hid (And.intro hal (And.intro hn (And.intro hB hC)))
    clear h hn hnd hal hm hB hC
    go_enter Tryz.func119, Tryz.ntmps119
    simp only [rootP]
    go_wp2_with (first
      | (go_at_call 95; refine HK.out.mono ?_; rintro e w2 ⟨rfl, rfl⟩)
      | (go_at_call 121; refine HS.out.mono ?_; rintro e w5 ⟨rfl, D5, d5, hm5, hf5, hn5⟩))
    go_ret
    have hb5 : Below w.heap.size w w5 := HA.out.1.trans (hf5.below HA.out.1.size (fun b hb => by rcases hb with rfl | hb; exact Nat.le_refl _; cases hb))
    refine ⟨w.heap.size, D5, d5, _, rfl, ⟨hm5, rfl, fun x hx => ?_, Nat.le_trans HA.out.2.2.2 hb5.size⟩, hb5, fun b hb => by rcases hn5 b hb with (rfl | hb) | hb; exact Nat.le_refl _; cases hb; exact Nat.le_trans HA.out.1.size hb⟩
    have hx' : x = (t, 0) := by simpa [startS] using hx
    subst hx'
    exact ⟨HA.out.2.1.below hb5 (Nat.le_trans HA.out.2.2.1 HA.out.2.2.2) HA.out.2.2.1, by show (0 : Nat) ≤ 65536; omega⟩
theorem CurAt.setK {w : World} {B g k : Nat} {kk : Int} {o : Option T} {S : List (T × Nat)} {D : Option Addr} {d : Nat} (h : CurAt w B g k kk o S D d) (k' : Int) : CurAt (w.setCell ⟨g, 0, none⟩ (.int .i64 k')) B g k k' o S D d := by
  have hb : Below B w (w.setCell ⟨g, 0, none⟩ (.int .i64 k')) := (Below.refl B w).setCell (p := ⟨g, 0, none⟩) h.mem.gB _
  exact ⟨⟨block_set h.mem.blk _, h.mem.gB, h.mem.stk.block fun q hq => Below.heap_setCell _ _ _ _ (fun e => h.mem.ne (by rw [own_block] at hq; rw [hq, e])), h.mem.ne⟩, h.chain,
    fun x hx => ⟨(h.nodes x hx).1.below hb (Nat.le_refl _) (Nat.le_refl _), (h.nodes x hx).2⟩, by simpa using h.size⟩
theorem new_c {w : World} {B C b k : Nat} {o : Option T} (h : TreeAt w B b k o) (hB : B ≤ C) (hC : C ≤ w.heap.size) : Calls Tryz.prog 70 #[.pointer (some ⟨b, 0, none⟩)] w fun e w' => ∃ g D d, e = .returned (.pointer (some ⟨g, 0, none⟩)) ∧
    CurAt w' C g k (k : Int) o (startS o) D d ∧ Below w.heap.size w w' ∧ (∀ b, Cf g D b → w.heap.size ≤ b) := by
  have H1 := Lib.hid (tRoot_c h.2.2.2.1)
  have H2 := Lib.hid (over_c h.2.2.2.2 hB hC)
  have H3 : Hid (∀ w2, Below w.heap.size w w2 → Calls Tryz.prog 54 #[.pointer (some ⟨b, 0, none⟩)] w2 fun e w' => e = .returned (.int .i64 (k : Int)) ∧ w2 = w') := Lib.hid fun w2 hb => tK_c (h.2.2.2.1.below hb (Nat.lt_of_lt_of_le h.1 (Nat.le_trans hB hC)))
  have HC := Lib.hid hC
  clear h hB hC
  go_enter Tryz.func70, Tryz.ntmps70
  go_wp2_with (first
    | (go_at_call 59; refine H1.out.mono ?_; rintro e w2 ⟨rfl, rfl⟩)
    | (go_at_call 119; refine H2.out.mono ?_; rintro e w2 ⟨g, D, d, kk, rfl, hc, hb, hg⟩; have hc0 := hc.mem.cells.1; have hf0 := frozen_of_row w2 g 0 _ _ hc.mem.blk; have H4 := Lib.hid (And.intro hc (And.intro hb hg)); clear hc hb hg)
    | (go_at_call 54; refine (H3.out _ H4.out.2.1).mono ?_; rintro e w' ⟨rfl, rfl⟩))
  go_ret
  exact ⟨g, D, d, rfl, H4.out.1.setK _, H4.out.2.1.setCell (p := ⟨g, 0, none⟩) (H4.out.2.2 g (.inl rfl)) _, H4.out.2.2⟩

end Go.Proofs.YtdpbcfjhljgicaaGreatDoor

/-
  CONTRACTS of package walk: down, whoever is told each node that is met, and the address at which the way goes on. Laid by wip/gen22.py.
-/
namespace Go.Proofs.YtdpbcfjhljgicaaGreatDoor
open Go.ChangeShapes Go.WideShapes Go.ChangeAt Go.RowKit
open Tr (T S4 Ent)

theorem way_node {w : World} {B k : Nat} {p : List Nat} {o o' : Option T} {us : List (T × Nat)} (ho : ∀ t, o = some t → Node w B k t) (h : Tr.Way p o us o') : ∀ t, o' = some t → Node w B k t := by
  induction h with
  | start => exact ho
  | @step us t h hl hc ih =>
    intro s hs
    have hm := Tr.kidAt_mem hs
    have ht := ih t rfl
    obtain ⟨g', l, pre, ks, rfl⟩ := Tr.ks_br hm
    exact ht.kid hm
theorem way_nodes {w : World} {B k : Nat} {p : List Nat} {o o' : Option T} {us : List (T × Nat)} (ho : ∀ t, o = some t → Node w B k t) (h : Tr.Way p o us o') : ∀ x ∈ us, Node w B k x.1 := by
  induction h with
  | start => intro x hx; cases hx
  | @step us t h hl hc ih =>
    intro x hx
    rcases List.mem_cons.1 hx with rfl | hx
    · exact way_node ho h t rfl
    · exact ih x hx

/-- whoever is told each node that is met -/
structure VisitB (fid g B k : Nat) (Inv : List (T × Nat) → World → (Nat → Prop) → Prop) : Prop where
  ent : ∀ args w, (callFunc fid args).run Tryz.prog w = .ok (.enter fid args) w
  frame : ∀ us w w' F, Inv us w F → w.heap.size ≤ w'.heap.size → (∀ b, F b → w'.heap[b]? = w.heap[b]?) → Below B w w' → Inv us w' F
  inb : ∀ us w F, Inv us w F → ∀ b, F b → b < w.heap.size ∧ B ≤ b
  call : ∀ us w F t (a : Nat), Inv us w F → Node w B k t → B ≤ w.heap.size → us.length ≤ 64 → t.lv ≠ 0 → a < 65536 → Calls Tryz.prog fid #[.pointer (some ⟨g, 0, none⟩), .pointer (some ⟨t.blk, 0, none⟩), .int .i64 (a : Int)] w fun e w' =>
    e = .returned (.tuple #[]) ∧ ∃ F', Inv ((t, a) :: us) w' F' ∧ (∀ b, F' b → F b ∨ w.heap.size ≤ b) ∧ Foot F w w'
set_option maxRecDepth 1000000 in
set_option maxHeartbeats 4000000 in
theorem wdownB_c {fid g B k : Nat} {Inv : List (T × Nat) → World → (Nat → Prop) → Prop} (hv : VisitB fid g B k Inv) {w : World} {F : Nat → Prop} (hI : Inv [] w F) {o : Option T} (hn : NodeO w B k o) (hB : B ≤ w.heap.size)
    {p : List Nat} {A : Option Addr} {c : Nat} (hp : Pts w B A p) (hl : p.length = k) (h1 : 1 ≤ k) (h16 : k ≤ 16) :
    Calls Tryz.prog 122 #[.agg #[.func (.func fid) #[.pointer (some ⟨g, 0, none⟩)] #[]], .pointer (rootP o), .slice A p.length c] w fun e w' => ∃ us o', Tr.Way p o us o' ∧ Tr.Stop p o' ∧
      e = .returned (.pointer (rootP o')) ∧ ∃ F', Inv us w' F' ∧ (∀ b, F' b → F b ∨ w.heap.size ≤ b) ∧ Foot F w w' := by
  have hent := hv.ent
  have HV := Lib.hid hv
  have HX := Lib.hid (And.intro hn (And.intro hB (And.intro hp (And.intro hl (And.intro h1 h16)))))
  have hal := below_alloc w (.cells #[.func (.func fid) #[.pointer (some ⟨g, 0, none⟩)] #[]] 183)
  have hI0 := HV.out.frame _ _ (w.alloc (.cells #[.func (.func fid) #[.pointer (some ⟨g, 0, none⟩)] #[]] 183)) _ hI hal.size (fun b hb => hal.block b (HV.out.inb _ _ _ hI b hb).1) (hal.mono hB)
  have hx0 : (w.alloc (.cells #[.func (.func fid) #[.pointer (some ⟨g, 0, none⟩)] #[]] 183)).heap[w.heap.size]? = some (.cells #[.func (.func fid) #[.pointer (some ⟨g, 0, none⟩)] #[]] 183 (0, 0)) := heap_at w _ _ rfl
  have hF0 : ¬ F w.heap.size := fun h => by have := (HV.out.inb _ _ _ hI _ h).1; omega
  have H0 := Lib.hid (And.intro hI0 (And.intro hx0 (And.intro hF0 (And.intro (Foot.of_below (F := F) hal) hI))))
  clear hv hn hB hp hl h1 h16 hI hal hI0 hx0 hF0
  go_enter Tryz.func122, Tryz.ntmps122
  go_wp2_with fail
  refine wp_scope_count 0 (fun m a' w' => ∃ (us : List (T × Nat)) (o' : Option T) (F' : Nat → Prop) (u4 u5 u7 u8 u9 u10 u11 u12 u13 u14 u15 u16 u17 u18 u19 u20 u21 u22 u23 u24 u25 u26 u27 u28 u29 u30 u31 u32 u33 : Value), a' = { tmps := #[.agg #[.func (.func fid) #[.pointer (some ⟨g, 0, none⟩)] #[]], .pointer (rootP o'), .slice A p.length c, .pointer (some ⟨w.heap.size, 0, none⟩), u4, u5, .pointer none, u7, u8, u9, u10, u11, u12, u13, u14, u15, u16, u17, u18, u19, u20, u21, u22, u23, u24, u25, u26, u27, u28, u29, u30, u31, u32, u33], defers := [] } ∧
      Tr.Way p o us o' ∧ Inv us w' F' ∧ (∀ b, F' b → F b ∨ w.heap.size ≤ b) ∧ Foot F w w' ∧ w'.heap[w.heap.size]? = some (.cells #[.func (.func fid) #[.pointer (some ⟨g, 0, none⟩)] #[]] 183 (0, 0)) ∧ ¬ F' w.heap.size ∧ m + us.length = 65) rfl ?first ?pass
  case first =>
    intro hp
    refine wp_seq (wp_label (hp 65 _ _ ⟨[], o, F, _, _, _, _, _, _, _, _, _, _, _, _, _, _, _, _, _, _, _, _, _, _, _, _, _, _, _, _, _, rfl, .start, H0.out.1, fun b hb => .inl hb, H0.out.2.2.2.1, H0.out.2.1, H0.out.2.2.1, rfl⟩))
  case pass =>
    rintro m a' w' ⟨us, o', F', u4, u5, u7, u8, u9, u10, u11, u12, u13, u14, u15, u16, u17, u18, u19, u20, u21, u22, u23, u24, u25, u26, u27, u28, u29, u30, u31, u32, u33, rfl, hway, hinv, hF', hfoot, hbox, hnF, hm⟩
    cases o' with
    | none =>
      have HR := Lib.hid (And.intro hway (And.intro hinv (And.intro hF' hfoot)))
      clear hway hinv hF' hfoot hbox hnF H0 hm
      simp only [rootP]
      go_wp2_with (go_at_call 109; refine (nLevel_nil _).mono ?_; rintro e w2 ⟨rfl, rfl⟩)
      simp only [Exit.jump]
      go_ret
      exact ⟨us, none, HR.out.1, trivial, rfl, F', HR.out.2.1, HR.out.2.2.1, HR.out.2.2.2⟩
    | some t =>
      have hfo := hfoot.below HX.out.2.1 (fun b hb => (HV.out.inb [] w F H0.out.2.2.2.2 b hb).2)
      have hnt0 := (hway.wf (fun t e => (HX.out.1 t e).1)).1 t rfl
      have hnt : Node w' B k t := way_node (fun t e => (HX.out.1 t e).below hfo (Nat.le_refl _) (Nat.le_refl _)) hway t rfl
      have hpt := HX.out.2.2.1.below' hfo (Nat.le_refl _)
      have hBw := Nat.le_trans HX.out.2.1 hfo.size
      obtain ⟨kp, hnd⟩ := hnt.2.nd
      have hlen : t.pre.length = k := hnt.1.len
      obtain ⟨lv, hlv⟩ : ∃ lv, levI t = lv := ⟨_, rfl⟩
      rw [hlv] at hnd
      have HL := Lib.hid hnd
      by_cases h0 : t.lv = 0
      · have d1 : decide (lv < 0) = true := decide_eq_true (by rw [← hlv]; simp only [levI, h0]; omega)
        have HR := Lib.hid (And.intro hway (And.intro hinv (And.intro hF' (And.intro hfoot h0))))
        clear hway hinv hF' hfoot hbox hnF H0 hnd hnt hnt0 hpt hlen hlv h0 hm hBw hfo
        simp only [rootP]
        go_wp2_with (go_at_call 109; refine (nLevel_c HL.out).mono ?_; rintro e w2 ⟨rfl, rfl⟩)
        simp only [Exit.jump]
        go_ret
        exact ⟨us, some t, HR.out.1, .inl HR.out.2.2.2.2, rfl, F', HR.out.2.1, HR.out.2.2.1, HR.out.2.2.2.1⟩
      · have d1 : decide (lv < 0) = false := decide_eq_false (by rw [← hlv]; simp only [levI]; omega)
        obtain ⟨r, hr⟩ : ∃ r, Tr.covers t p = r := ⟨_, rfl⟩
        have HC := Lib.hid (nCovers_c hnd (by rw [hlen]; exact HX.out.2.2.2.2.1) (by rw [hlen]; exact HX.out.2.2.2.2.2) A p c hpt (by rw [hlen, HX.out.2.2.2.1]) r (by rw [← hlv]; exact covers_eq hr))
        cases r with
        | false =>
          have HR := Lib.hid (And.intro hway (And.intro hinv (And.intro hF' (And.intro hfoot hr))))
          clear hway hinv hF' hfoot hbox hnF H0 hnd hnt hnt0 hpt hlen hr hlv h0 hm hBw hfo
          simp only [rootP]
          go_wp2_with (first
            | (go_at_call 109; refine (nLevel_c HL.out).mono ?_; rintro e w2 ⟨rfl, rfl⟩)
            | (go_at_call 114; refine HC.out.mono ?_; rintro e w2 ⟨rfl, rfl⟩))
          simp only [Exit.jump]
          go_ret
          exact ⟨us, some t, HR.out.1, .inr HR.out.2.2.2.2, rfl, F', HR.out.2.1, HR.out.2.2.1, HR.out.2.2.2.1⟩
        | true =>
          obtain ⟨q, l, pre, ks, rfl⟩ : ∃ g l pre ks, t = .br g l pre ks := by
            cases t with
            | ent => exact absurd rfl h0
            | br g l pre ks => exact ⟨g, l, pre, ks, rfl⟩
          have hlvl : lv = (l : Int) := by rw [← hlv]; show ((l + 1 : Nat) : Int) - 1 = l; omega
          subst hlvl
          have h63 : l ≤ 63 := by cases hnt.1 with | br _ _ _ _ h63 => exact h63
          have hus := (hway.len (fun t e => (HX.out.1 t e).1)).1
          have ha16 : Z.addr p l < 65536 := Nat.lt_of_lt_of_le (Z.addr_bound p l) (by rw [HX.out.2.2.2.1]; exact Nat.pow_le_pow_right (n := 2) (by omega) HX.out.2.2.2.2.2)
          have HF := Lib.hid (HV.out.call us w' F' (.br q l pre ks) (Z.addr p l) hinv hnt hBw hus h0 ha16)
          have HA := Lib.hid (addr_yes A c p l B w' hpt (by rw [HX.out.2.2.2.1]; exact HX.out.2.2.2.2.1) (by rw [HX.out.2.2.2.1]; exact HX.out.2.2.2.2.2) h63)
          have hxlt : w.heap.size < w'.heap.size := (Array.getElem?_eq_some_iff.1 hbox).1
          have HK : Hid (∀ w2, Below B w' w2 → Calls Tryz.prog 111 #[.pointer (some ⟨q, 0, none⟩), .int .i64 (Z.addr p l : Int)] w2 fun e w3 => e = .returned (.pointer (rootP (Tr.kidAt (.br q l pre ks) p))) ∧ ∃ i, w3 = w2.drewN i) := Lib.hid fun w2 hb2 => by
            have h2 := hnt.below hb2 (Nat.le_refl _) (Nat.le_refl _)
            obtain ⟨b, h3, h4⟩ : ∃ b, NdAt w2 B q (l : Int) pre 0 (some ⟨b, 0, none⟩) (Tr.sums (Tr.entsL ks)) ∧ Sn.At w2 B b k (kidL ks) := by cases h2.2 with | br _ _ _ _ b h ha hk => exact ⟨b, h, ha⟩
            exact nKid_br h3 h4 (Z.addr p l : Int) (rootP (Tr.kidAt (.br q l pre ks) p)) (rootP_kid _)
          have HR := Lib.hid (And.intro hway (And.intro hinv (And.intro hF' (And.intro hfoot (And.intro hr (And.intro hbox (And.intro hnF (And.intro hm (And.intro h0 (And.intro hBw hxlt))))))))))
          have q0 : w'.cell? ⟨w.heap.size, 0, none⟩ = some (.func (.func fid) #[.pointer (some ⟨g, 0, none⟩)] #[]) := by rw [cell_of_row w' _ _ _ _ (0, 0) hbox]; rfl
          have hip : (0 : Int) ≤ (l : Int) := by omega
          clear hway hinv hF' hfoot hbox hnF H0 hnd hnt hnt0 hpt hlen hr hlv h0 hm hBw hfo hus ha16 h63 hxlt
          simp only [rootP, T.blk]
          simp only [T.blk] at HL HC HF
          go_wp2_with (first
            | (go_at_call 109; refine (nLevel_c HL.out).mono ?_; rintro e w2 ⟨rfl, rfl⟩)
            | (go_at_call 114; refine HC.out.mono ?_; rintro e w2 ⟨rfl, rfl⟩)
            | (go_at_call 115; refine HA.out.mono ?_; rintro e w2 ⟨rfl, rfl⟩))
          refine HF.out.mono ?_
          rintro e w2 ⟨rfl, F2, hi2, hF2, hfo2⟩
          have HR2 := Lib.hid (And.intro hi2 (And.intro hF2 hfo2))
          have hb2 : Below B w' w2 := hfo2.below HR.out.2.2.2.2.2.2.2.2.2.1 (fun b hb => (HV.out.inb _ _ _ HR.out.2.1 b hb).2)
          clear hi2 hF2 hfo2 q0 HF
          go_wp2_with (go_at_call 111; refine (HK.out _ hb2).mono ?_; rintro e w3 ⟨rfl, n3, rfl⟩)
          go_step3
          obtain ⟨hway, hinv, hF', hfoot, hr, hbox, hnF, hm, h0, hBw, hxlt⟩ := HR.out
          obtain ⟨hi2, hF2, hfo2⟩ := HR2.out
          have hw2 : Tr.Way p o ((.br q l pre ks, Z.addr p l) :: us) (Tr.kidAt (.br q l pre ks) p) := .step hway h0 hr
          have hl2 := (hw2.len (fun t e => (HX.out.1 t e).1)).1
          rw [List.length_cons] at hl2
          refine ⟨rfl, m - 1, by omega, _, Tr.kidAt (.br q l pre ks) p, F2, _, _, _, _, _, _, _, _, _, _, _, _, _, _, _, _, _, _, _, _, _, _, _, _, _, _, _, _, _, rfl, hw2, HV.out.frame _ w2 (w2.drewN n3) _ hi2 (Nat.le_refl _) (fun _ _ => rfl) (below_drewN n3 (Below.refl _ _)), fun b hb => ?_, (hfoot.trans hfo2 hF').drewN _, (hfo2.block _ hxlt hnF).trans hbox, fun hb => ?_, by rw [List.length_cons]; omega⟩
          · rcases hF2 b hb with hb | hb
            · exact hF' b hb
            · exact .inr (Nat.le_trans hfoot.size hb)
          · rcases hF2 _ hb with hb | hb
            · exact hnF hb
            · omega
end Go.Proofs.YtdpbcfjhljgicaaGreatDoor
