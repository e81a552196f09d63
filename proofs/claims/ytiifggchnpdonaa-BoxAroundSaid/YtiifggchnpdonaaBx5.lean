/-
  CONTRACTS of package box, fifth part: the functions that tell the ends, and Meet.
-/
import Derived.Test.YtiifggchnpdonaaBx4
namespace Go.Proofs.Ytiifggchnpdonaa
open Go.ChangeShapes Go.WideShapes Go.ChangeAt Go.RowKit

set_option maxRecDepth 100000 in
theorem meetEnds_c (A A' C C' : Option Addr) (c c' d d' : Nat) (al ah bl bh : List Nat) (i b1 b2 B : Nat) (w : World) (hi : i < al.length) (h16 : al.length ≤ 16) (e1 : al.length = ah.length) (e2 : al.length = bl.length) (e3 : al.length = bh.length)
    (x1 : BoxAt w b1 A al.length c A' ah.length c') (x2 : BoxAt w b2 C bl.length d C' bh.length d') (p1 : Pts w B A al) (p2 : Pts w B A' ah) (p3 : Pts w B C bl) (p4 : Pts w B C' bh) :
    Calls Try.prog 34 #[.int .i64 (i : Int), .pointer (some ⟨b1, 0, none⟩), .pointer (some ⟨b2, 0, none⟩)] w fun e w' => e = .returned (.tuple #[.int .u64 ((max (Bx.g al i) (Bx.g bl i) : Nat) : Int), .int .u64 ((min (Bx.g ah i) (Bx.g bh i) : Nat) : Int)]) ∧ ∃ n, w' = w.drewN n := by
  obtain ⟨s1, o1, hA, _, c1⟩ := p1.at (by omega)
  obtain ⟨s2, o2, hA', _, c2⟩ := p2.at (by omega)
  obtain ⟨s3, o3, hC, _, c3⟩ := p3.at (by omega)
  obtain ⟨s4, o4, hC', _, c4⟩ := p4.at (by omega)
  subst hA hA' hC hC'
  obtain ⟨k0, k1⟩ := x1
  obtain ⟨k2, k3⟩ := x2
  have q1 := c1 i (by omega)
  have q2 := c2 i (by omega)
  have q3 := c3 i (by omega)
  have q4 := c4 i (by omega)
  have g1 := Bx.g_lt p1.ok i
  have g2 := Bx.g_lt p2.ok i
  have g3 := Bx.g_lt p3.ok i
  have g4 := Bx.g_lt p4.ok i
  have i2 : i < ah.length := by omega
  have i3 : i < bl.length := by omega
  have i4 : i < bh.length := by omega
  have j2 : ah.length ≤ 16 := by omega
  have j3 : bl.length ≤ 16 := by omega
  have j4 : bh.length ≤ 16 := by omega
  clear c1 c2 c3 c4 p1 p2 p3 p4 e1 e2 e3
  generalize Bx.g al i = a at *
  generalize Bx.g ah i = b at *
  generalize Bx.g bl i = c0 at *
  generalize Bx.g bh i = d0 at *
  go_enter Try.func34, Try.ntmps34
  go_wp2
  go_quiet (fail)
  go_wp2
  go_ret2
  exact ⟨by simp [max_cast, min_cast], _, rfl⟩

theorem enters_at {fid : Nat} {fn : Func} {c : Code} (hf : Try.prog.funcs[fid]? = some fn) (hname : (fn.name == "runtime.NumGoroutine") = false) (hb : fn.body = some c) : ∀ args w, (callFunc fid args).run Try.prog w = .ok (.enter fid args) w :=
  fun args w => enters_of hf hname hb args w

/-- the memory of Meet: the two boxes, and the result's block -/
def MSt (A : Option Addr) (n c : Nat) (A' : Option Addr) (n' c' : Nat) (C : Option Addr) (m d : Nat) (C' : Option Addr) (m' d' : Nat) (w wr : World) : Prop :=
  Below w.heap.size w wr ∧ w.heap.size + 3 ≤ wr.heap.size ∧ BoxAt wr w.heap.size A n c A' n' c' ∧ BoxAt wr (w.heap.size + 1) C m d C' m' d' ∧ Bx0 wr (w.heap.size + 2) (.slice none 0 0) (.slice none 0 0)
theorem MSt.new (A : Option Addr) (n c : Nat) (A' : Option Addr) (n' c' : Nat) (C : Option Addr) (m d : Nat) (C' : Option Addr) (m' d' : Nat) (w : World) :
    MSt A n c A' n' c' C m d C' m' d' w (((w.alloc (.cells #[.slice A n c, .slice A' n' c'] 24)).alloc (.cells #[.slice C m d, .slice C' m' d'] 24)).alloc (.cells #[.slice none 0 0, .slice none 0 0] 24)) := by
  refine ⟨((below_alloc _ _).alloc (by simp) _).alloc (by simp; omega) _, by simp, ?_, ?_, ?_⟩
  · have h := bx0_at (heap_past (.cells #[.slice none 0 0, .slice none 0 0] 24) (heap_past (.cells #[.slice C m d, .slice C' m' d'] 24) (heap_at w (.cells #[.slice A n c, .slice A' n' c'] 24) _ rfl)))
    exact ⟨h.1, h.2.1⟩
  · have h := bx0_at (heap_past (.cells #[.slice none 0 0, .slice none 0 0] 24) (heap_at (w.alloc (.cells #[.slice A n c, .slice A' n' c'] 24)) (.cells #[.slice C m d, .slice C' m' d'] 24) (w.heap.size + 1) (by simp)))
    exact ⟨h.1, h.2.1⟩
  · exact bx0_at (heap_at _ _ _ (by simp))
theorem MSt.step {A : Option Addr} {n c : Nat} {A' : Option Addr} {n' c' : Nat} {C : Option Addr} {m d : Nat} {C' : Option Addr} {m' d' : Nat} {w wr wx : World} (h : MSt A n c A' n' c' C m d C' m' d' w wr) (hb : Below wr.heap.size wr wx) : MSt A n c A' n' c' C m d C' m' d' w wx := by
  obtain ⟨h1, h2, h3, h4, h5⟩ := h
  exact ⟨Below.andThen h1 hb, Nat.le_trans h2 hb.size, h3.below hb (by omega), h4.below hb (by omega), bx0_block h5 (hb.block _ (by omega))⟩

theorem meetEnds_at {A A' C C' : Option Addr} {c c' d d' : Nat} {al ah bl bh : List Nat} {B i : Nat} {w wr : World} (p1 : Pts w B A al) (p2 : Pts w B A' ah) (p3 : Pts w B C bl) (p4 : Pts w B C' bh) (hB : B ≤ w.heap.size) (hi : i < al.length) (h16 : al.length ≤ 16)
    (e1 : al.length = ah.length) (e2 : al.length = bl.length) (e3 : al.length = bh.length) (s : MSt A al.length c A' ah.length c' C bl.length d C' bh.length d' w wr) :
    Calls Try.prog 34 #[.int .i64 (i : Int), .pointer (some ⟨w.heap.size, 0, none⟩), .pointer (some ⟨w.heap.size + 1, 0, none⟩)] wr fun e w' => e = .returned (.tuple #[.int .u64 ((max (Bx.g al i) (Bx.g bl i) : Nat) : Int), .int .u64 ((min (Bx.g ah i) (Bx.g bh i) : Nat) : Int)]) ∧ ∃ n, w' = wr.drewN n :=
  meetEnds_c A A' C C' c c' d d' al ah bl bh i _ _ B wr hi h16 e1 e2 e3 s.2.2.1 s.2.2.2.1 (p1.below' s.1 hB) (p2.below' s.1 hB) (p3.below' s.1 hB) (p4.below' s.1 hB)

theorem bmeet_no1 (A A' C C' : Option Addr) (n c n' c' m d m' d' : Nat) (w : World) (hn : n ≤ maxLen) (h : ¬ ((1 ≤ n ∧ n ≤ 16) ∧ n = n')) :
    Calls Try.prog 12 #[boxV A n c A' n' c', boxV C m d C' m' d'] w fun e w' => e = .returned (.tuple #[boxV none 0 0 none 0 0, .int .i64 2]) ∧ Below w.heap.size w w' := by
  have H := Lib.hid h
  have Hn := Lib.hid hn
  clear h hn
  have s0 := MSt.new A n c A' n' c' C m d C' m' d' w
  go_enter Try.func12, Try.ntmps12
  go_wp2_with (go_at_call 15; refine (bright_n _ _ _ _ _ _ _ Hn.out H.out).mono ?_; rintro e w1 ⟨rfl, hb1⟩; have s1 := s0.step hb1; obtain ⟨-, -, -, -, r0, r1, r2, r3⟩ := s1)
  obtain ⟨k0, k1⟩ := bx0_two (s0.step hb1).2.2.2.2 (.slice none 0 0) (.slice none 0 0)
  refine bodyPost_ret (v := .tuple #[boxV none 0 0 none 0 0, .int .i64 2]) (by simp [results, Try.results12, go_sem, k0, k1]) rfl ?_
  exact ⟨rfl, ((s0.step hb1).1.setCell (p := ⟨w.heap.size + 2, 0, none⟩) (by simp) _).setCell (p := ⟨w.heap.size + 2, 1, none⟩) (by simp) _⟩
theorem bmeet_no2 (A A' C C' : Option Addr) (n c n' c' m d m' d' : Nat) (w : World) (h1 : 1 ≤ n) (h16 : n ≤ 16) (h : n = n') (hn : m ≤ maxLen) (h2 : ¬ ((1 ≤ m ∧ m ≤ 16) ∧ m = m')) :
    Calls Try.prog 12 #[boxV A n c A' n' c', boxV C m d C' m' d'] w fun e w' => e = .returned (.tuple #[boxV none 0 0 none 0 0, .int .i64 2]) ∧ Below w.heap.size w w' := by
  have H := Lib.hid h
  have H2 := Lib.hid h2
  have Hn := Lib.hid hn
  clear h hn h2
  have s0 := MSt.new A n c A' n' c' C m d C' m' d' w
  go_enter Try.func12, Try.ntmps12
  go_wp2_with (first
    | (go_at_call 15; (with_reducible refine (bright_n C C' m d m' d' _ Hn.out H2.out).mono ?_); rintro e w2 ⟨rfl, hb2⟩; obtain ⟨-, -, -, -, r0, r1, r2, r3⟩ := (s0.step hb1).step hb2)
    | (go_at_call 15; (with_reducible refine (bright_y A A' n c n' c' _ h1 h16 H.out).mono ?_); rintro e w1 ⟨rfl, hb1⟩; obtain ⟨-, -, l0, l1, -⟩ := s0.step hb1; obtain ⟨l2, l3⟩ := l1))
  obtain ⟨k0, k1⟩ := bx0_two ((s0.step hb1).step hb2).2.2.2.2 (.slice none 0 0) (.slice none 0 0)
  refine bodyPost_ret (v := .tuple #[boxV none 0 0 none 0 0, .int .i64 2]) (by simp [results, Try.results12, go_sem, k0, k1]) rfl ?_
  exact ⟨rfl, (((s0.step hb1).step hb2).1.setCell (p := ⟨w.heap.size + 2, 0, none⟩) (by simp) _).setCell (p := ⟨w.heap.size + 2, 1, none⟩) (by simp) _⟩
theorem bmeet_len (A A' C C' : Option Addr) (n c n' c' m d m' d' : Nat) (w : World) (h1 : 1 ≤ n) (h16 : n ≤ 16) (h : n = n') (g1 : 1 ≤ m) (g16 : m ≤ 16) (h2 : m = m') (h3 : n ≠ m) :
    Calls Try.prog 12 #[boxV A n c A' n' c', boxV C m d C' m' d'] w fun e w' => e = .returned (.tuple #[boxV none 0 0 none 0 0, .int .i64 2]) ∧ Below w.heap.size w w' := by
  have H := Lib.hid h
  have H2 := Lib.hid h2
  have Hn : Hid (n ≤ maxLen) := Lib.hid (by unfold maxLen; omega)
  have H3 : Hid (¬ ((1 ≤ n ∧ n ≤ 16) ∧ n = m)) := Lib.hid (by omega)
  clear h h2 h3
  have s0 := MSt.new A n c A' n' c' C m d C' m' d' w
  go_enter Try.func12, Try.ntmps12
  go_wp2_with (first
    | (go_at_call 15; (with_reducible refine (bright_y A A' n c n' c' _ h1 h16 H.out).mono ?_); rintro e w1 ⟨rfl, hb1⟩; have s1 := s0.step hb1; obtain ⟨-, -, ⟨l0, l1⟩, ⟨l2, l3⟩, -⟩ := s1)
    | (go_at_call 15; (with_reducible refine (bright_y C C' m d m' d' _ g1 g16 H2.out).mono ?_); rintro e w2 ⟨rfl, hb2⟩; have s2 := (s0.step hb1).step hb2; obtain ⟨-, -, ⟨m0, m1⟩, ⟨m2, m3⟩, r0, r1, r2, r3⟩ := s2)
    | (go_at_call 32; refine (balike_no _ _ _ _ _ _ _ Hn.out H3.out).mono ?_; rintro e w' ⟨rfl, rfl⟩))
  obtain ⟨k0, k1⟩ := bx0_two ((s0.step hb1).step hb2).2.2.2.2 (.slice none 0 0) (.slice none 0 0)
  refine bodyPost_ret (v := .tuple #[boxV none 0 0 none 0 0, .int .i64 2]) (by simp [results, Try.results12, go_sem, k0, k1]) rfl ?_
  exact ⟨rfl, (((s0.step hb1).step hb2).1.setCell (p := ⟨w.heap.size + 2, 0, none⟩) (by simp) _).setCell (p := ⟨w.heap.size + 2, 1, none⟩) (by simp) _⟩

/-- what a call that makes a box leaves, once the box is stored in the result's block -/
theorem box_out {w wr : World} {r base gl gh k : Nat} {us vs : List Nat} {x y : Value} (hr : w.heap.size ≤ r) (hrb : r < base) (h0 : Bx0 wr r x y) (hb : Below w.heap.size w wr)
    (o1 : Own wr base (.slice (some ⟨gl, 0, none⟩) k k) us) (o2 : Own wr base (.slice (some ⟨gh, 0, none⟩) k k) vs) :
    ((wr.setCell ⟨r, 0, none⟩ (.slice (some ⟨gl, 0, none⟩) k k)).setCell ⟨r, 1, none⟩ (.slice (some ⟨gh, 0, none⟩) k k)).cell? ⟨r, 0, none⟩ = some (.slice (some ⟨gl, 0, none⟩) k k) ∧
    ((wr.setCell ⟨r, 0, none⟩ (.slice (some ⟨gl, 0, none⟩) k k)).setCell ⟨r, 1, none⟩ (.slice (some ⟨gh, 0, none⟩) k k)).cell? ⟨r, 1, none⟩ = some (.slice (some ⟨gh, 0, none⟩) k k) ∧
    Own ((wr.setCell ⟨r, 0, none⟩ (.slice (some ⟨gl, 0, none⟩) k k)).setCell ⟨r, 1, none⟩ (.slice (some ⟨gh, 0, none⟩) k k)) base (.slice (some ⟨gl, 0, none⟩) k k) us ∧
    Own ((wr.setCell ⟨r, 0, none⟩ (.slice (some ⟨gl, 0, none⟩) k k)).setCell ⟨r, 1, none⟩ (.slice (some ⟨gh, 0, none⟩) k k)) base (.slice (some ⟨gh, 0, none⟩) k k) vs ∧
    Below w.heap.size w ((wr.setCell ⟨r, 0, none⟩ (.slice (some ⟨gl, 0, none⟩) k k)).setCell ⟨r, 1, none⟩ (.slice (some ⟨gh, 0, none⟩) k k)) := by
  obtain ⟨k0, k1⟩ := bx0_two h0 (.slice (some ⟨gl, 0, none⟩) k k) (.slice (some ⟨gh, 0, none⟩) k k)
  have l1 := (o1.2.lt gl rfl).1
  have l2 := (o2.2.lt gh rfl).1
  have n1 : gl ≠ r := by omega
  have n2 : gh ≠ r := by omega
  exact ⟨k0, k1, own_store (own_store o1 (by simpa [Value.ownBlock] using n1) _) (by simpa [Value.ownBlock] using n1) _, own_store (own_store o2 (by simpa [Value.ownBlock] using n2) _) (by simpa [Value.ownBlock] using n2) _,
    (hb.setCell (p := ⟨r, 0, none⟩) hr _).setCell (p := ⟨r, 1, none⟩) hr _⟩

set_option maxRecDepth 100000 in
theorem bmeet_own (A A' C C' : Option Addr) (c c' d d' : Nat) (al ah bl bh : List Nat) (B : Nat) (w : World) (p1 : Pts w B A al) (p2 : Pts w B A' ah) (p3 : Pts w B C bl) (p4 : Pts w B C' bh) (hB : B ≤ w.heap.size)
    (h1 : 1 ≤ al.length) (h16 : al.length ≤ 16) (e1 : al.length = ah.length) (e2 : al.length = bl.length) (e3 : bl.length = bh.length) :
    Calls Try.prog 12 #[boxV A al.length c A' ah.length c', boxV C bl.length d C' bh.length d'] w fun e w' => ∃ gl gh, e = .returned (.tuple #[boxV (some ⟨gl, 0, none⟩) al.length al.length (some ⟨gh, 0, none⟩) al.length al.length, .int .i64 0]) ∧
      Own w' w.heap.size (.slice (some ⟨gl, 0, none⟩) al.length al.length) (Bx.meetLo al bl) ∧ Own w' w.heap.size (.slice (some ⟨gh, 0, none⟩) al.length al.length) (Bx.meetHi ah bh) ∧ Below w.heap.size w w' := by
  have H := Lib.hid e1
  have H2 := Lib.hid e2
  have H3 := Lib.hid e3
  have g1 : 1 ≤ bl.length := by omega
  have g16 : bl.length ≤ 16 := by omega
  clear e1 e2 e3
  have P1 := Lib.hid p1
  have P2 := Lib.hid p2
  have P3 := Lib.hid p3
  have P4 := Lib.hid p4
  clear p1 p2 p3 p4
  have s0 := MSt.new A al.length c A' ah.length c' C bl.length d C' bh.length d' w
  have henter := enters_at Try.func34 (by kernel_rfl) rfl
  go_enter Try.func12, Try.ntmps12
  go_wp2_with (first
    | (go_at_call 15; (with_reducible refine (bright_y A A' al.length c ah.length c' _ h1 h16 H.out).mono ?_); rintro e w1 ⟨rfl, hb1⟩; have s1 := s0.step hb1; obtain ⟨-, -, ⟨l0, l1⟩, ⟨l2, l3⟩, -⟩ := s1)
    | (go_at_call 15; (with_reducible refine (bright_y C C' bl.length d bh.length d' _ g1 g16 H3.out).mono ?_); rintro e w2 ⟨rfl, hb2⟩; have s2 := (s0.step hb1).step hb2; obtain ⟨-, -, ⟨m0, m1⟩, ⟨m2, m3⟩, r0, r1, r2, r3⟩ := s2)
    | (go_at_call 32; refine (balike_yes _ _ _ _ _ _ _ h1 h16 H2.out).mono ?_; rintro e w' ⟨rfl, rfl⟩)
    | (go_at_call 33; have hends : ∀ (i : Nat) (wr : World), i < al.length → Below w2.heap.size w2 wr → Calls Try.prog 34 #[.int .i64 (i : Int), .pointer (some ⟨w.heap.size, 0, none⟩), .pointer (some ⟨w.heap.size + 1, 0, none⟩)] wr (fun e w' => e = .returned (.tuple #[.int .u64 ((max (Bx.g al i) (Bx.g bl i) : Nat) : Int), .int .u64 ((min (Bx.g ah i) (Bx.g bh i) : Nat) : Int)]) ∧ ∃ n, w' = wr.drewN n) := (fun i wr hi hb => meetEnds_at P1.out P2.out P3.out P4.out hB hi h16 H.out H2.out (H2.out.trans H3.out) (((s0.step hb1).step hb2).step hb)); refine (boxOf_c al.length 34 w.heap.size (w.heap.size + 1) (fun i => max (Bx.g al i) (Bx.g bl i)) (fun i => min (Bx.g ah i) (Bx.g bh i)) w2 h1 h16 (fun i _ => by have := Bx.g_lt P1.out.ok i; have := Bx.g_lt P3.out.ok i; omega) (fun i _ => by have := Bx.g_lt P2.out.ok i; omega) henter hends).mono ?_; rintro e w3 ⟨gl, gh, rfl, o1, o2, hb3⟩; have s3 := ((s0.step hb1).step hb2).step hb3; obtain ⟨-, -, -, -, t0, t1, t2, t3⟩ := s3))
  have s3 := ((s0.step hb1).step hb2).step hb3
  have hsz := ((s0.step hb1).step hb2).2.1
  obtain ⟨k0, k1, v1, v2, hbel⟩ := box_out (r := w.heap.size + 2) (by omega) (by omega) s3.2.2.2.2 s3.1 o1 o2
  have hres : Bx.meetHi ah bh = Bx.tab al.length (fun i => min (Bx.g ah i) (Bx.g bh i)) := by unfold Bx.meetHi; rw [← H.out]
  refine bodyPost_ret (v := .tuple #[boxV (some ⟨gl, 0, none⟩) al.length al.length (some ⟨gh, 0, none⟩) al.length al.length, .int .i64 0]) (by simp [results, Try.results12, go_sem, k0, k1]) rfl ?_
  exact ⟨gl, gh, rfl, v1.mono (by omega), by rw [hres]; exact v2.mono (by omega), hbel⟩

theorem bmeet_yes (A A' C C' : Option Addr) (c c' d d' : Nat) (al ah bl bh ml mh : List Nat) (B : Nat) (w : World) (hml : Bx.meetLo al bl = ml) (hmh : Bx.meetHi ah bh = mh) (p1 : Pts w B A al) (p2 : Pts w B A' ah) (p3 : Pts w B C bl) (p4 : Pts w B C' bh) (hB : B ≤ w.heap.size)
    (h1 : 1 ≤ al.length) (h16 : al.length ≤ 16) (e1 : al.length = ah.length) (e2 : al.length = bl.length) (e3 : bl.length = bh.length) :
    Calls Try.prog 12 #[boxV A al.length c A' ah.length c', boxV C bl.length d C' bh.length d'] w fun e w' => ∃ A1 c1 A2 c2, e = .returned (.tuple #[boxV A1 ml.length c1 A2 mh.length c2, .int .i64 0]) ∧
      Pts w' w'.heap.size A1 ml ∧ Pts w' w'.heap.size A2 mh ∧ Below w.heap.size w w' := by
  refine (bmeet_own A A' C C' c c' d d' al ah bl bh B w p1 p2 p3 p4 hB h1 h16 e1 e2 e3).mono ?_
  rintro e w' ⟨gl, gh, rfl, o1, o2, hb⟩
  rw [hml] at o1
  rw [hmh] at o2
  obtain ⟨A1, c1, x1, y1⟩ := o1.pts
  obtain ⟨A2, c2, x2, y2⟩ := o2.pts
  exact ⟨A1, c1, A2, c2, by unfold boxV; rw [x1, x2], y1, y2, hb⟩

end Go.Proofs.Ytiifggchnpdonaa