import Derived.Test.YtpgkfccfabnjdaaM9t
import Derived.Test.YtpgkfccfabnjdaaM06
/-
  CONTRACTS of package edit, ninth part: whoever is told ('VisitE'); lockstep.through. Laid by wip/gen60.py.
-/
namespace Go.Proofs.Ytpgkfccfabnjdaa
open Go.ChangeShapes Go.WideShapes Go.ChangeAt Go.RowKit
open Tr (T S4 Ent Chg Raw Pc)

def PtC (w : World) (B k : Nat) (p : Option Addr) (x : Option Chg) : Prop := match x with
  | none => p = none
  | some c => ∃ b off P pc, p = some ⟨b, off, none⟩ ∧ b < B ∧ ChAt w b off P k pc c.2.1.isSome c.2.2.isSome (c.2.1.getD 0) (c.2.2.getD 0) ∧ Pts w B P c.1 ∧ c.1.length = k ∧ c.2.1 ≠ c.2.2 ∧ c.2.1.getD 0 < 18446744073709551616 ∧ c.2.2.getD 0 < 18446744073709551616
theorem getD_lt {o : Option Nat} (h : ∀ v, o = some v → v < 18446744073709551616) : o.getD 0 < 18446744073709551616 := by
  cases o with
  | none => show 0 < _; omega
  | some v => exact h v rfl
theorem ptC_head {w : World} {B k : Nat} {A : Option Addr} {x : Chg} {xs : List Chg} (h : RwL w B A ((x :: xs).map Tr.rawC)) (hC : Tr.CL k (x :: xs)) : PtC w B k A (some x) ∧ ∃ b off, A = some ⟨b, off, none⟩ := by
  have he := hC.each x List.mem_cons_self
  obtain ⟨b, off, P, n, hA, hb, h0, h1, h2, h3, h4, hp, -, -, -⟩ := h.at (i := 0) (r := Tr.rawC x) rfl
  simp only [Nat.zero_mul, Nat.add_zero] at h0 h1 h2 h3 h4
  refine ⟨⟨b, off, P, n, hA, hb, ⟨?_, h1, h2, h3, h4⟩, hp, he.1, he.2.2.1, getD_lt he.2.2.2.1, getD_lt he.2.2.2.2⟩, b, off, hA⟩
  rw [← he.1]
  exact h0
structure VisitE (fid : Nat) (lb : Array Value) (B k M : Nat) (ok : Pc → Bool) (Inv : List Pc → World → (Nat → Prop) → Prop) : Prop where
  ent : ∀ args w, (callFunc fid args).run Try.prog w = .ok (.enter fid args) w
  frame : ∀ us w w' F, Inv us w F → w.heap.size ≤ w'.heap.size → (∀ b, F b → w'.heap[b]? = w.heap[b]?) → Inv us w' F
  inb : ∀ us w F, Inv us w F → ∀ b, F b → b < w.heap.size ∧ B ≤ b
  call : ∀ us w F px py (q : Pc), Inv us w F → PtC w B k px q.1 → PtC w B k py q.2 → q ≠ (none, none) → (∀ x y, q = (some x, some y) → x.1 = y.1) → B ≤ w.heap.size → us.length < M → Calls Try.prog fid (#[.pointer px, .pointer py] ++ lb) w fun e w' =>
    e = .returned (.bool (ok q)) ∧ ∃ F', (ok q = true → Inv (us ++ [q]) w' F') ∧ (∀ b, F' b → F b ∨ w.heap.size ≤ b) ∧ Foot F w w'
def lenOf (v : Value) : Nat := match v with
  | .slice _ n _ => n
  | _ => 0
structure ThE (B k : Nat) (Q : List Pc) (ok : Pc → Bool) (Inv : List Pc → World → (Nat → Prop) → Prop) (fv : Value) (w : World) (F : Nat → Prop) (xs ys : List Chg) (B1 B2 : Option Addr) (m1 m2 d1 d2 : Nat) (w' : World) : Prop where
  us : ∃ us F', Q = us ++ Tr.mz xs ys ∧ us.all ok = true ∧ Inv us w' F' ∧ (∀ b, F' b → F b ∨ w.heap.size ≤ b) ∧ ¬ F' w.heap.size
  x : RwL w' B B1 (xs.map Tr.rawC) ∧ Tr.CL k xs ∧ xs.length = m1 ∧ m1 ≤ d1 ∧ m1 ≤ 1000000
  y : RwL w' B B2 (ys.map Tr.rawC) ∧ Tr.CL k ys ∧ ys.length = m2 ∧ m2 ≤ d2 ∧ m2 ≤ 1000000
  foot : Foot F w w'
  box : w'.heap[w.heap.size]? = some (.cells #[fv] 51 (0, 0))
theorem fst_step {xs ys : List Chg} {k : Nat} (hx : Tr.CL k xs) (hy : Tr.CL k ys) : (xs = [] ∧ ys = []) ∨ (∃ x xs2, xs = x :: xs2 ∧ fstQ xs ys = (some x, none) ∧ Tr.mz xs ys = (some x, none) :: Tr.mz xs2 ys) ∨
    (∃ y ys2, ys = y :: ys2 ∧ fstQ xs ys = (none, some y) ∧ Tr.mz xs ys = (none, some y) :: Tr.mz xs ys2) ∨ (∃ x xs2 y ys2, xs = x :: xs2 ∧ ys = y :: ys2 ∧ fstQ xs ys = (some x, some y) ∧ Tr.mz xs ys = (some x, some y) :: Tr.mz xs2 ys2 ∧ x.1 = y.1) := by
  cases xs with
  | nil =>
    cases ys with
    | nil => exact .inl ⟨rfl, rfl⟩
    | cons y ys => exact .inr (.inr (.inl ⟨y, ys, rfl, rfl, Tr.mz_r (by simp)⟩))
  | cons x xs =>
    cases ys with
    | nil => exact .inr (.inl ⟨x, xs, rfl, rfl, Tr.mz_l (by simp)⟩)
    | cons y ys =>
      have hex := hx.each x List.mem_cons_self
      have hey := hy.each y List.mem_cons_self
      rcases Nat.lt_trichotomy (Tr.key x.1) (Tr.key y.1) with c | c | c
      · exact .inr (.inl ⟨x, xs, rfl, by simp [fstQ, c], Tr.mz_l (by simpa using c)⟩)
      · exact .inr (.inr (.inr ⟨x, xs, y, ys, rfl, rfl, by simp only [fstQ]; rw [if_neg (by omega), if_neg (by omega)], Tr.mz_b c, (Tr.key_inj (by rw [hex.1, hey.1]) hex.2.1 hey.2.1).1 c⟩))
      · exact .inr (.inr (.inl ⟨y, ys, rfl, by simp only [fstQ]; rw [if_neg (by omega), if_pos c], Tr.mz_r (by simpa using c)⟩))
theorem infoCg : (Try.prog.info? 43).map (fun i => (i.zero, i.size, i.bytes)) = some (some (.agg #[.slice none 0 0, .bool false, .bool false, .int .u64 0, .int .u64 0]), 5, 48) := by kernel_rfl
theorem cut_one (A : Option Addr) (m c : Nat) (h1 : 1 ≤ m) (hc : m ≤ c) : ∃ A', (∀ w, (Instr.sliceAt 22 (.slice A m c) (some (.int .i64 1)) none none).run Try.prog w = .ok (.slice A' (m - 1) (c - 1)) w) ∧
    ∀ w B (x : Raw) (L : List Raw), (x :: L).length = m → RwL w B A (x :: L) → RwL w B A' L := by
  obtain ⟨i0, hi0, hz0, hz1, hz2⟩ := info_parts infoCg
  have hel : Try.prog.elem 22 = 43 := by simp [Program.elem, Try.underlying22]
  refine ⟨if c = 1 then A else A.map (·.add (1 * 5)), fun w => ?_, fun w B x L hx h => ?_⟩
  · have hs : Try.prog.underlying 22 = some (.slice (Try.prog.elem 22)) := by rw [hel]; exact Try.underlying22
    rw [run_sliceAt_slice w _ _ _ _ _ hs, run_slice_l w _ A m c hs .i64 1 (by omega) (by omega), hel]
    simp [sizeOf, typeInfo, hi0, hz1, sliced, Result.andThen]
  · cases L with
    | nil => exact RwL.nil _ _ _
    | cons y L =>
      simp only [List.length_cons] at hx
      rw [if_neg (by omega)]
      obtain ⟨b, off, hA, -⟩ := h (by simp)
      subst hA
      have := h.drop1
      simpa [Go.WideShapes.add_plain] using this
theorem ThE.next {B k : Nat} {ok : Pc → Bool} {Inv : List Pc → World → (Nat → Prop) → Prop} {fv : Value} {w w1 w2 w3 : World} {F F' F2 : Nat → Prop} {Q us : List Pc} {q : Pc} {xs2 ys2 : List Chg} {B1 B2 : Option Addr} {m1 m2 d1 d2 : Nat}
    (hQ : Q = us ++ q :: Tr.mz xs2 ys2) (hus : us.all ok = true) (hq : ok q = true) (hF' : ∀ b, F' b → F b ∨ w.heap.size ≤ b) (hnF : ¬ F' w.heap.size) (hfo : Foot F w w1) (hbox : w1.heap[w.heap.size]? = some (.cells #[fv] 51 (0, 0)))
    (hb : Below w1.heap.size w1 w2) (hI : Inv (us ++ [q]) w3 F2) (hF2 : ∀ b, F2 b → F' b ∨ w2.heap.size ≤ b) (hfo2 : Foot F' w2 w3)
    (hx : RwL w3 B B1 (xs2.map Tr.rawC) ∧ Tr.CL k xs2 ∧ xs2.length = m1 ∧ m1 ≤ d1 ∧ m1 ≤ 1000000) (hy : RwL w3 B B2 (ys2.map Tr.rawC) ∧ Tr.CL k ys2 ∧ ys2.length = m2 ∧ m2 ≤ d2 ∧ m2 ≤ 1000000) : ThE B k Q ok Inv fv w F xs2 ys2 B1 B2 m1 m2 d1 d2 w3 := by
  have hlt := (Array.getElem?_eq_some_iff.1 hbox).1
  have h1 := hfo.size
  have h2 := hb.size
  refine ⟨⟨us ++ [q], F2, by rw [hQ]; simp, by rw [List.all_append, hus]; simp [hq], hI, fun b hb' => ?_, fun hb' => ?_⟩, hx, hy, ?_, ?_⟩
  · rcases hF2 b hb' with c | c
    · exact hF' b c
    · exact .inr (by omega)
  · rcases hF2 _ hb' with c | c
    · exact hnF c
    · omega
  · exact (hfo.trans (Foot.of_below (F := F) hb) (fun b hb' => .inl hb')).trans hfo2 hF'
  · rw [hfo2.block _ (by omega) hnF, hb.block _ hlt]
    exact hbox
def meas (a : Act) (_w : World) : Nat := lenOf (a.tmps.getD 1 undef) + lenOf (a.tmps.getD 2 undef)
theorem all_mid {ok : Pc → Bool} {us qs : List Pc} {q : Pc} (h : ok q = false) : (us ++ q :: qs).all ok = false := by simp [h]
set_option maxRecDepth 1000000 in
set_option maxHeartbeats 8000000 in
theorem ed_through {fid B k M : Nat} {lb : Array Value} {ok : Pc → Bool} {Inv : List Pc → World → (Nat → Prop) → Prop} (hv : VisitE fid lb B k M ok Inv) {w : World} {F : Nat → Prop} (hI : Inv [] w F) {A1 A2 : Option Addr} {c1 c2 n1 n2 : Nat} {xs ys : List Chg} (h1 : RwL w B A1 (xs.map Tr.rawC)) (h2 : RwL w B A2 (ys.map Tr.rawC)) (hB : B ≤ w.heap.size) (hx : Tr.CL k xs) (hy : Tr.CL k ys) (k1 : 1 ≤ k) (k16 : k ≤ 16) (hn1 : xs.length = n1) (hn2 : ys.length = n2) (hc1 : n1 ≤ c1) (hc2 : n2 ≤ c2) (hl1 : n1 ≤ 1000000) (hl2 : n2 ≤ 1000000) (hM : n1 + n2 ≤ M) {r : Bool} (hr : (Tr.mz xs ys).all ok = r) :
    Calls Try.prog 20 #[.agg #[.func (.func fid) #[] lb], .slice A1 n1 c1, .slice A2 n2 c2] w fun e w' => e = .returned (.bool r) ∧ (r = true → ∃ F', Inv (Tr.mz xs ys) w' F') ∧ Foot F w w' := by
  have hent := hv.ent
  have hlen := Tr.mz_len xs ys
  have hal := below_alloc w (.cells #[.func (.func fid) #[] lb] 51)
  have hI0 := hv.frame _ _ (w.alloc (.cells #[.func (.func fid) #[] lb] 51)) _ hI hal.size (fun b hb => hal.block b (hv.inb _ _ _ hI b hb).1)
  have hx0 : (w.alloc (.cells #[.func (.func fid) #[] lb] 51)).heap[w.heap.size]? = some (.cells #[.func (.func fid) #[] lb] 51 (0, 0)) := heap_at w _ _ rfl
  have hF0 : ¬ F w.heap.size := fun h => by have := (hv.inb _ _ _ hI _ h).1; omega
  obtain ⟨Q, hQ⟩ : ∃ Q, Tr.mz xs ys = Q := ⟨_, rfl⟩
  have hT0 : ThE B k Q ok Inv (.func (.func fid) #[] lb) w F xs ys A1 A2 n1 n2 c1 c2 (w.alloc (.cells #[.func (.func fid) #[] lb] 51)) :=
    ⟨⟨[], F, by rw [hQ]; rfl, rfl, hI0, fun b hb => .inl hb, hF0⟩, ⟨h1.below hal hB (Nat.le_refl _), hx, hn1, hc1, hl1⟩, ⟨h2.below hal hB (Nat.le_refl _), hy, hn2, hc2, hl2⟩, Foot.of_below (F := F) hal, hx0⟩
  rw [hQ] at hr hlen ⊢
  have HV := Lib.hid hv
  have HX := Lib.hid (And.intro hB (And.intro k1 (And.intro k16 (And.intro hr (And.intro hlen (And.intro hM (And.intro hn1 (And.intro hn2 hI))))))))
  have H0 := Lib.hid hT0
  clear hv hI h1 h2 hB hx hy k1 k16 hn1 hn2 hc1 hc2 hl1 hl2 hM hr hlen hal hI0 hx0 hF0 hQ hT0
  go_enter Try.func20, Try.ntmps20
  go_wp2_with fail
  refine wp_scope_again 0 (fun a' w' => ∃ (xs' ys' : List Chg) (B1 B2 : Option Addr) (m1 m2 d1 d2 : Nat) (u4 u5 u7 u8 u9 u10 u11 u12 u13 u14 u15 u16 u17 u18 u19 u20 u21 u22 u23 u24 u25 u26 u27 u28 u29 u30 u31 u32 u33 u34 : Value), a' = { tmps := #[.agg #[.func (.func fid) #[] lb], .slice B1 m1 d1, .slice B2 m2 d2, .pointer (some ⟨w.heap.size, 0, none⟩), u4, u5, .bool false, u7, u8, u9, u10, u11, u12, u13, u14, u15, u16, u17, u18, u19, u20, u21, u22, u23, u24, u25, u26, u27, u28, u29, u30, u31, u32, u33, u34], defers := [] } ∧ ThE B k Q ok Inv (.func (.func fid) #[] lb) w F xs' ys' B1 B2 m1 m2 d1 d2 w') meas rfl ?first ?pass
  case first =>
    intro hp
    refine wp_seq ?_
    generalize hK : (Exit.then _ _ : Exit → Act → World → Prop) = K
    go_wp2_with fail
    rw [← hK]
    refine wp_seq (wp_label (hp _ _ ⟨xs, ys, A1, A2, n1, n2, c1, c2, _, _, _, _, _, _, _, _, _, _, _, _, _, _, _, _, _, _, _, _, _, _, _, _, _, _, _, _, _, _, rfl, H0.out⟩))
  case pass =>
    rintro a' w' ⟨xs', ys', B1, B2, m1, m2, d1, d2, u4, u5, u7, u8, u9, u10, u11, u12, u13, u14, u15, u16, u17, u18, u19, u20, u21, u22, u23, u24, u25, u26, u27, u28, u29, u30, u31, u32, u33, u34, rfl, hT⟩
    clear H0
    have hbw : Below B w w' := hT.foot.below HX.out.1 (fun b hb => (HV.out.inb [] w F HX.out.2.2.2.2.2.2.2.2 b hb).2)
    have hBw := Nat.le_trans HX.out.1 hbw.size
    obtain ⟨us, F', hQ, hus, hinv, hF', hnF⟩ := hT.us
    obtain ⟨x1, x2, x3, x4, x5⟩ := hT.x
    obtain ⟨y1, y2, y3, y4, y5⟩ := hT.y
    have hfoot := hT.foot
    have hbox := hT.box
    clear hT
    rcases fst_step x2 y2 with ⟨rfl, rfl⟩ | ⟨x, xs2, rfl, hq, hmz⟩ | ⟨y, ys2, rfl, hq, hmz⟩ | ⟨x, xs2, y, ys2, rfl, rfl, hq, hmz, hxy⟩
    · have HF := Lib.hid (ed_firsts (c1 := d1) (c2 := d2) x1 y1 hBw x2 y2 HX.out.2.1 HX.out.2.2.1 x3 y3 x5 y5 rfl rfl rfl)
      have hrt : r = true := by rw [← HX.out.2.2.2.1, hQ, List.all_append, hus, Tr.mz_nil_l]; rfl
      have hQu : Q = us := by rw [hQ, Tr.mz_nil_l]; simp
      have HR := Lib.hid (And.intro hrt (And.intro hQu (And.intro hinv (And.intro hfoot (HV.out.inb _ _ _ hinv)))))
      clear hbw hBw hQ hus hinv hF' hnF x1 x2 x3 x4 x5 y1 y2 y3 y4 y5 hfoot hbox hrt hQu
      simp only [fstQ, fstP] at HF
      go_wp2_with (go_at_call 37; refine HF.out.mono ?_; rintro e w2 ⟨rfl, hb2⟩; have H2 := Lib.hid hb2; clear hb2)
      simp only [Exit.jump]
      go_ret
      have hrt := HR.out.1
      subst hrt
      exact ⟨rfl, fun _ => ⟨F', by rw [HR.out.2.1]; exact HV.out.frame _ _ _ _ HR.out.2.2.1 H2.out.size (fun b hb => H2.out.block b (HR.out.2.2.2.2 b hb).1)⟩, HR.out.2.2.2.1.trans (Foot.of_below (F := F) H2.out) (fun b hb => .inl hb)⟩
    · obtain ⟨q, hqe⟩ : ∃ q : Pc, (some x, none) = q := ⟨_, rfl⟩
      obtain ⟨px, b1, o1, hp1⟩ := ptC_head x1 x2
      subst hp1
      have hFi := ed_firsts (c1 := d1) (c2 := d2) x1 y1 hBw x2 y2 HX.out.2.1 HX.out.2.2.1 x3 y3 x5 y5 hq (px := some ⟨b1, o1, none⟩) (py := none) rfl rfl
      have HF := Lib.hid hFi
      obtain ⟨A1c, hs1, hr1⟩ := cut_one (some ⟨b1, o1, none⟩) m1 d1 (by rw [← x3, List.length_cons]; omega) x4
      rw [hmz, hqe] at hQ
      have hlu : us.length < M := by have h1 := HX.out.2.2.2.2.1; rw [hQ, List.length_append, List.length_cons] at h1; have := HX.out.2.2.2.2.2.1; have := HX.out.2.2.2.2.2.2.1; have := HX.out.2.2.2.2.2.2.2.1; omega
      have hCm : ∀ w2, Below w'.heap.size w' w2 → Calls Try.prog fid (#[.pointer (some ⟨b1, o1, none⟩), .pointer (none)] ++ lb) w2 fun e w3 => e = .returned (.bool (ok q)) ∧ ∃ F2, (ok q = true → Inv (us ++ [q]) w3 F2) ∧ (∀ b, F2 b → F' b ∨ w2.heap.size ≤ b) ∧ Foot F' w2 w3 := fun w2 hb2 =>
        HV.out.call us w2 F' _ _ q (HV.out.frame _ _ _ _ hinv hb2.size (fun b hb => hb2.block b (HV.out.inb _ _ _ hinv b hb).1)) (by rw [← hqe]; exact (ptC_head (x1.below ((hb2.mono hBw)) (Nat.le_refl _) (Nat.le_refl _)) x2).1) (by rw [← hqe]; rfl) (by rw [← hqe]; simp) (fun a b e => by rw [← hqe] at e; cases e) (Nat.le_trans hBw hb2.size) hlu
      have HCm := Lib.hid hCm
      have q0 : ∀ w2, Below w'.heap.size w' w2 → w2.cell? ⟨w.heap.size, 0, none⟩ = some (.func (.func fid) #[] lb) := fun w2 hb2 => by rw [cell_of_row w2 _ _ _ _ (0, 0) ((hb2.block _ (Array.getElem?_eq_some_iff.1 hbox).1).trans hbox)]; rfl
      have HR := Lib.hid (And.intro hQ (And.intro hus (And.intro hinv (And.intro hF' (And.intro hnF (And.intro hfoot (And.intro hbox (And.intro hbw (And.intro hBw (And.intro x1 (And.intro x2 (And.intro x3 (And.intro x4 (And.intro x5 (And.intro y1 (And.intro y2 (And.intro y3 (And.intro y4 (And.intro y5 (And.intro hqe hr1))))))))))))))))))))
      cases hok : ok q with
      | false =>
        rw [hok] at HCm
        have HOK := Lib.hid hok
        clear hok hq hmz hqe hlu hCm hFi hQ hus hinv hF' hnF hfoot hbox hbw hBw x1 x2 x3 x4 x5 y1 y2 y3 y4 y5 hr1 px
        go_wp2_with (go_at_call 37; refine HF.out.mono ?_; rintro e w2 ⟨rfl, hb2⟩; have q1 := q0 w2 hb2; have H2 := Lib.hid hb2; clear hb2 q0)
        go_at_fn fid
        refine (HCm.out _ H2.out).mono ?_
        rintro e w3 ⟨rfl, F2, hI2, hF2, hfo2⟩
        have H3 := Lib.hid (And.intro hI2 (And.intro hF2 hfo2))
        clear hI2 hF2 hfo2 q1
        go_wp2_with fail
        obtain ⟨g0, g1, g2, g3, g4, g5, g6, g7, g8, g9, g10, g11, g12, g13, g14, g15, g16, g17, g18, g19, g20⟩ := HR.out
        simp only [Exit.jump]
        go_ret
        have hrf : r = false := by rw [← HX.out.2.2.2.1, g0]; exact all_mid HOK.out
        subst hrf
        exact ⟨rfl, fun h => (by cases h), (g5.trans (Foot.of_below (F := F) H2.out) (fun b hb => .inl hb)).trans H3.out.2.2 g3⟩
      | true =>
        rw [hok] at HCm
        have HOK := Lib.hid hok
        clear hok hq hmz hqe hlu hCm hFi hQ hus hinv hF' hnF hfoot hbox hbw hBw x1 x2 x3 x4 x5 y1 y2 y3 y4 y5 hr1 px
        go_wp2_with (go_at_call 37; refine HF.out.mono ?_; rintro e w2 ⟨rfl, hb2⟩; have q1 := q0 w2 hb2; have H2 := Lib.hid hb2; clear hb2 q0)
        go_at_fn fid
        refine (HCm.out _ H2.out).mono ?_
        rintro e w3 ⟨rfl, F2, hI2, hF2, hfo2⟩
        have H3 := Lib.hid (And.intro hI2 (And.intro hF2 hfo2))
        clear hI2 hF2 hfo2 q1
        go_wp2_with fail
        obtain ⟨g0, g1, g2, g3, g4, g5, g6, g7, g8, g9, g10, g11, g12, g13, g14, g15, g16, g17, g18, g19, g20⟩ := HR.out
        go_step3
        have hb3 : Below B w' w3 := (H2.out.mono g8).trans (H3.out.2.2.below (Nat.le_trans g8 H2.out.size) (fun b hb => (HV.out.inb _ _ _ g2 b hb).2))
        refine ⟨rfl, ⟨xs2, ys', A1c, B2, m1 - 1, m2, d1 - 1, d2, _, _, _, _, _, _, _, _, _, _, _, _, _, _, _, _, _, _, _, _, _, _, _, _, _, _, _, _, _, _, rfl, ThE.next g0 g1 HOK.out g3 g4 g5 g6 H2.out (H3.out.1 (by first | rfl | trivial)) H3.out.2.1 H3.out.2.2 ⟨g20 w3 B _ _ (by rw [List.length_cons, List.length_map]; simpa using g11) ((g9).below hb3 (Nat.le_refl _) (Nat.le_refl _)), g10.tail, by have := g11; rw [List.length_cons] at this; omega, by have := g12; omega, by have := g13; omega⟩ ⟨g14.below hb3 (Nat.le_refl _) (Nat.le_refl _), g15, g16, g17, g18⟩⟩, ?_⟩
        show (m1 - 1) + (m2) < m1 + m2
        have := g11; rw [List.length_cons] at this
        omega
    · obtain ⟨q, hqe⟩ : ∃ q : Pc, (none, some y) = q := ⟨_, rfl⟩
      obtain ⟨py, b2, o2, hp2⟩ := ptC_head y1 y2
      subst hp2
      have hFi := ed_firsts (c1 := d1) (c2 := d2) x1 y1 hBw x2 y2 HX.out.2.1 HX.out.2.2.1 x3 y3 x5 y5 hq (px := none) (py := some ⟨b2, o2, none⟩) rfl rfl
      have HF := Lib.hid hFi
      obtain ⟨A2c, hs2, hr2⟩ := cut_one (some ⟨b2, o2, none⟩) m2 d2 (by rw [← y3, List.length_cons]; omega) y4
      rw [hmz, hqe] at hQ
      have hlu : us.length < M := by have h1 := HX.out.2.2.2.2.1; rw [hQ, List.length_append, List.length_cons] at h1; have := HX.out.2.2.2.2.2.1; have := HX.out.2.2.2.2.2.2.1; have := HX.out.2.2.2.2.2.2.2.1; omega
      have hCm : ∀ w2, Below w'.heap.size w' w2 → Calls Try.prog fid (#[.pointer (none), .pointer (some ⟨b2, o2, none⟩)] ++ lb) w2 fun e w3 => e = .returned (.bool (ok q)) ∧ ∃ F2, (ok q = true → Inv (us ++ [q]) w3 F2) ∧ (∀ b, F2 b → F' b ∨ w2.heap.size ≤ b) ∧ Foot F' w2 w3 := fun w2 hb2 =>
        HV.out.call us w2 F' _ _ q (HV.out.frame _ _ _ _ hinv hb2.size (fun b hb => hb2.block b (HV.out.inb _ _ _ hinv b hb).1)) (by rw [← hqe]; rfl) (by rw [← hqe]; exact (ptC_head (y1.below ((hb2.mono hBw)) (Nat.le_refl _) (Nat.le_refl _)) y2).1) (by rw [← hqe]; simp) (fun a b e => by rw [← hqe] at e; cases e) (Nat.le_trans hBw hb2.size) hlu
      have HCm := Lib.hid hCm
      have q0 : ∀ w2, Below w'.heap.size w' w2 → w2.cell? ⟨w.heap.size, 0, none⟩ = some (.func (.func fid) #[] lb) := fun w2 hb2 => by rw [cell_of_row w2 _ _ _ _ (0, 0) ((hb2.block _ (Array.getElem?_eq_some_iff.1 hbox).1).trans hbox)]; rfl
      have HR := Lib.hid (And.intro hQ (And.intro hus (And.intro hinv (And.intro hF' (And.intro hnF (And.intro hfoot (And.intro hbox (And.intro hbw (And.intro hBw (And.intro x1 (And.intro x2 (And.intro x3 (And.intro x4 (And.intro x5 (And.intro y1 (And.intro y2 (And.intro y3 (And.intro y4 (And.intro y5 (And.intro hqe hr2))))))))))))))))))))
      cases hok : ok q with
      | false =>
        rw [hok] at HCm
        have HOK := Lib.hid hok
        clear hok hq hmz hqe hlu hCm hFi hQ hus hinv hF' hnF hfoot hbox hbw hBw x1 x2 x3 x4 x5 y1 y2 y3 y4 y5 hr2 py
        go_wp2_with (go_at_call 37; refine HF.out.mono ?_; rintro e w2 ⟨rfl, hb2⟩; have q1 := q0 w2 hb2; have H2 := Lib.hid hb2; clear hb2 q0)
        go_at_fn fid
        refine (HCm.out _ H2.out).mono ?_
        rintro e w3 ⟨rfl, F2, hI2, hF2, hfo2⟩
        have H3 := Lib.hid (And.intro hI2 (And.intro hF2 hfo2))
        clear hI2 hF2 hfo2 q1
        go_wp2_with fail
        obtain ⟨g0, g1, g2, g3, g4, g5, g6, g7, g8, g9, g10, g11, g12, g13, g14, g15, g16, g17, g18, g19, g20⟩ := HR.out
        simp only [Exit.jump]
        go_ret
        have hrf : r = false := by rw [← HX.out.2.2.2.1, g0]; exact all_mid HOK.out
        subst hrf
        exact ⟨rfl, fun h => (by cases h), (g5.trans (Foot.of_below (F := F) H2.out) (fun b hb => .inl hb)).trans H3.out.2.2 g3⟩
      | true =>
        rw [hok] at HCm
        have HOK := Lib.hid hok
        clear hok hq hmz hqe hlu hCm hFi hQ hus hinv hF' hnF hfoot hbox hbw hBw x1 x2 x3 x4 x5 y1 y2 y3 y4 y5 hr2 py
        go_wp2_with (go_at_call 37; refine HF.out.mono ?_; rintro e w2 ⟨rfl, hb2⟩; have q1 := q0 w2 hb2; have H2 := Lib.hid hb2; clear hb2 q0)
        go_at_fn fid
        refine (HCm.out _ H2.out).mono ?_
        rintro e w3 ⟨rfl, F2, hI2, hF2, hfo2⟩
        have H3 := Lib.hid (And.intro hI2 (And.intro hF2 hfo2))
        clear hI2 hF2 hfo2 q1
        go_wp2_with fail
        obtain ⟨g0, g1, g2, g3, g4, g5, g6, g7, g8, g9, g10, g11, g12, g13, g14, g15, g16, g17, g18, g19, g20⟩ := HR.out
        go_step3
        have hb3 : Below B w' w3 := (H2.out.mono g8).trans (H3.out.2.2.below (Nat.le_trans g8 H2.out.size) (fun b hb => (HV.out.inb _ _ _ g2 b hb).2))
        refine ⟨rfl, ⟨xs', ys2, B1, A2c, m1, m2 - 1, d1, d2 - 1, _, _, _, _, _, _, _, _, _, _, _, _, _, _, _, _, _, _, _, _, _, _, _, _, _, _, _, _, _, _, rfl, ThE.next g0 g1 HOK.out g3 g4 g5 g6 H2.out (H3.out.1 (by first | rfl | trivial)) H3.out.2.1 H3.out.2.2 ⟨g9.below hb3 (Nat.le_refl _) (Nat.le_refl _), g10, g11, g12, g13⟩ ⟨g20 w3 B _ _ (by rw [List.length_cons, List.length_map]; simpa using g16) ((g14).below hb3 (Nat.le_refl _) (Nat.le_refl _)), g15.tail, by have := g16; rw [List.length_cons] at this; omega, by have := g17; omega, by have := g18; omega⟩⟩, ?_⟩
        show (m1) + (m2 - 1) < m1 + m2
        have := g16; rw [List.length_cons] at this
        omega
    · obtain ⟨q, hqe⟩ : ∃ q : Pc, (some x, some y) = q := ⟨_, rfl⟩
      obtain ⟨px, b1, o1, hp1⟩ := ptC_head x1 x2
      obtain ⟨py, b2, o2, hp2⟩ := ptC_head y1 y2
      subst hp1
      subst hp2
      have hFi := ed_firsts (c1 := d1) (c2 := d2) x1 y1 hBw x2 y2 HX.out.2.1 HX.out.2.2.1 x3 y3 x5 y5 hq (px := some ⟨b1, o1, none⟩) (py := some ⟨b2, o2, none⟩) rfl rfl
      have HF := Lib.hid hFi
      obtain ⟨A1c, hs1, hr1⟩ := cut_one (some ⟨b1, o1, none⟩) m1 d1 (by rw [← x3, List.length_cons]; omega) x4
      obtain ⟨A2c, hs2, hr2⟩ := cut_one (some ⟨b2, o2, none⟩) m2 d2 (by rw [← y3, List.length_cons]; omega) y4
      rw [hmz, hqe] at hQ
      have hlu : us.length < M := by have h1 := HX.out.2.2.2.2.1; rw [hQ, List.length_append, List.length_cons] at h1; have := HX.out.2.2.2.2.2.1; have := HX.out.2.2.2.2.2.2.1; have := HX.out.2.2.2.2.2.2.2.1; omega
      have hCm : ∀ w2, Below w'.heap.size w' w2 → Calls Try.prog fid (#[.pointer (some ⟨b1, o1, none⟩), .pointer (some ⟨b2, o2, none⟩)] ++ lb) w2 fun e w3 => e = .returned (.bool (ok q)) ∧ ∃ F2, (ok q = true → Inv (us ++ [q]) w3 F2) ∧ (∀ b, F2 b → F' b ∨ w2.heap.size ≤ b) ∧ Foot F' w2 w3 := fun w2 hb2 =>
        HV.out.call us w2 F' _ _ q (HV.out.frame _ _ _ _ hinv hb2.size (fun b hb => hb2.block b (HV.out.inb _ _ _ hinv b hb).1)) (by rw [← hqe]; exact (ptC_head (x1.below ((hb2.mono hBw)) (Nat.le_refl _) (Nat.le_refl _)) x2).1) (by rw [← hqe]; exact (ptC_head (y1.below ((hb2.mono hBw)) (Nat.le_refl _) (Nat.le_refl _)) y2).1) (by rw [← hqe]; simp) (fun a b e => by rw [← hqe] at e; cases e; exact hxy) (Nat.le_trans hBw hb2.size) hlu
      have HCm := Lib.hid hCm
      have q0 : ∀ w2, Below w'.heap.size w' w2 → w2.cell? ⟨w.heap.size, 0, none⟩ = some (.func (.func fid) #[] lb) := fun w2 hb2 => by rw [cell_of_row w2 _ _ _ _ (0, 0) ((hb2.block _ (Array.getElem?_eq_some_iff.1 hbox).1).trans hbox)]; rfl
      have HR := Lib.hid (And.intro hQ (And.intro hus (And.intro hinv (And.intro hF' (And.intro hnF (And.intro hfoot (And.intro hbox (And.intro hbw (And.intro hBw (And.intro x1 (And.intro x2 (And.intro x3 (And.intro x4 (And.intro x5 (And.intro y1 (And.intro y2 (And.intro y3 (And.intro y4 (And.intro y5 (And.intro hqe (And.intro hr1 hr2)))))))))))))))))))))
      cases hok : ok q with
      | false =>
        rw [hok] at HCm
        have HOK := Lib.hid hok
        clear hok hq hmz hqe hlu hCm hFi hQ hus hinv hF' hnF hfoot hbox hbw hBw x1 x2 x3 x4 x5 y1 y2 y3 y4 y5 hr1 px hr2 py hxy
        go_wp2_with (go_at_call 37; refine HF.out.mono ?_; rintro e w2 ⟨rfl, hb2⟩; have q1 := q0 w2 hb2; have H2 := Lib.hid hb2; clear hb2 q0)
        go_at_fn fid
        refine (HCm.out _ H2.out).mono ?_
        rintro e w3 ⟨rfl, F2, hI2, hF2, hfo2⟩
        have H3 := Lib.hid (And.intro hI2 (And.intro hF2 hfo2))
        clear hI2 hF2 hfo2 q1
        go_wp2_with fail
        obtain ⟨g0, g1, g2, g3, g4, g5, g6, g7, g8, g9, g10, g11, g12, g13, g14, g15, g16, g17, g18, g19, g20, g21⟩ := HR.out
        simp only [Exit.jump]
        go_ret
        have hrf : r = false := by rw [← HX.out.2.2.2.1, g0]; exact all_mid HOK.out
        subst hrf
        exact ⟨rfl, fun h => (by cases h), (g5.trans (Foot.of_below (F := F) H2.out) (fun b hb => .inl hb)).trans H3.out.2.2 g3⟩
      | true =>
        rw [hok] at HCm
        have HOK := Lib.hid hok
        clear hok hq hmz hqe hlu hCm hFi hQ hus hinv hF' hnF hfoot hbox hbw hBw x1 x2 x3 x4 x5 y1 y2 y3 y4 y5 hr1 px hr2 py hxy
        go_wp2_with (go_at_call 37; refine HF.out.mono ?_; rintro e w2 ⟨rfl, hb2⟩; have q1 := q0 w2 hb2; have H2 := Lib.hid hb2; clear hb2 q0)
        go_at_fn fid
        refine (HCm.out _ H2.out).mono ?_
        rintro e w3 ⟨rfl, F2, hI2, hF2, hfo2⟩
        have H3 := Lib.hid (And.intro hI2 (And.intro hF2 hfo2))
        clear hI2 hF2 hfo2 q1
        go_wp2_with fail
        obtain ⟨g0, g1, g2, g3, g4, g5, g6, g7, g8, g9, g10, g11, g12, g13, g14, g15, g16, g17, g18, g19, g20, g21⟩ := HR.out
        go_step3
        have hb3 : Below B w' w3 := (H2.out.mono g8).trans (H3.out.2.2.below (Nat.le_trans g8 H2.out.size) (fun b hb => (HV.out.inb _ _ _ g2 b hb).2))
        refine ⟨rfl, ⟨xs2, ys2, A1c, A2c, m1 - 1, m2 - 1, d1 - 1, d2 - 1, _, _, _, _, _, _, _, _, _, _, _, _, _, _, _, _, _, _, _, _, _, _, _, _, _, _, _, _, _, _, rfl, ThE.next g0 g1 HOK.out g3 g4 g5 g6 H2.out (H3.out.1 (by first | rfl | trivial)) H3.out.2.1 H3.out.2.2 ⟨g20 w3 B _ _ (by rw [List.length_cons, List.length_map]; simpa using g11) ((g9).below hb3 (Nat.le_refl _) (Nat.le_refl _)), g10.tail, by have := g11; rw [List.length_cons] at this; omega, by have := g12; omega, by have := g13; omega⟩ ⟨g21 w3 B _ _ (by rw [List.length_cons, List.length_map]; simpa using g16) ((g14).below hb3 (Nat.le_refl _) (Nat.le_refl _)), g15.tail, by have := g16; rw [List.length_cons] at this; omega, by have := g17; omega, by have := g18; omega⟩⟩, ?_⟩
        show (m1 - 1) + (m2 - 1) < m1 + m2
        have := g11; rw [List.length_cons] at this
        have := g16; rw [List.length_cons] at this
        omega
end Go.Proofs.Ytpgkfccfabnjdaa

/-
  CONTRACTS of package edit, tenth part: Then's own (Then$1).
-/
namespace Go.Proofs.Ytpgkfccfabnjdaa
open Go.ChangeShapes Go.WideShapes Go.ChangeAt Go.RowKit
open Tr (T S4 Ent Chg Raw Pc)

structure ThM (w : World) (B g : Nat) (us : List Chg) (D : Option Addr) (d : Nat) (Dm : Nat → Prop) : Prop where
  c1 : w.heap[g]? = some (.cells #[.slice D us.length d] 22 (0, 0))
  ge : B ≤ g
  row : RwRow w B Dm D d (us.map Tr.rawC)
  ne : D.map (·.block) ≠ some g ∧ ¬ Dm g
def ThF (g : Nat) (D : Option Addr) (Dm : Nat → Prop) : Nat → Prop := fun b => b = g ∨ D.map (·.block) = some b ∨ Dm b
section
variable {w w' : World} {B g : Nat} {us : List Chg} {D : Option Addr} {d : Nat} {Dm : Nat → Prop}
theorem ThM.lt (h : ThM w B g us D d Dm) : ∀ b, ThF g D Dm b → b < w.heap.size ∧ B ≤ b := by
  rintro b (rfl | hb | hb)
  · exact ⟨(Array.getElem?_eq_some_iff.1 h.c1).1, h.ge⟩
  · have := h.row.lt b hb
    exact ⟨this.2, this.1⟩
  · have := h.row.dom b hb
    exact ⟨this.2.1, this.1⟩
theorem ThM.keep (h : ThM w B g us D d Dm) (hs : w.heap.size ≤ w'.heap.size) (hk : ∀ b, ThF g D Dm b → w'.heap[b]? = w.heap[b]?) : ThM w' B g us D d Dm :=
  ⟨(hk _ (.inl rfl)).trans h.c1, h.ge, h.row.frame hs (fun b hb => hk b (.inr hb)), h.ne⟩
theorem ThM.below (h : ThM w B g us D d Dm) (hb : Below w.heap.size w w') : ThM w' B g us D d Dm :=
  h.keep hb.size fun b hb' => hb.block b (h.lt b hb').1
end
set_option maxRecDepth 100000 in
theorem then1_no {w : World} {px py P : Option Addr} {n c : Nat} {h s : Bool} {o v g : Nat} (hJ : Calls Try.prog 17 #[.pointer px, .pointer py] w fun e w' => e = .returned (.tuple #[chV P n c h s o v, .bool false]) ∧ Below w.heap.size w w') :
    Calls Try.prog 16 #[.pointer px, .pointer py, .pointer (some ⟨g, 0, none⟩)] w fun e w' => e = .returned (.bool false) ∧ Below w.heap.size w w' := by
  have HJ := Lib.hid hJ
  clear hJ
  go_enter Try.func16, Try.ntmps16
  go_wp2_with (go_at_call 17; refine HJ.out.mono ?_; rintro e w1 ⟨rfl, hb1⟩; have H1 := Lib.hid hb1; clear hb1)
  go_ret
  exact ⟨rfl, Below.andThen H1.out (below_alloc w1 _)⟩
set_option maxRecDepth 100000 in
theorem then1_same {w : World} {px py P : Option Addr} {n c g : Nat} {q : Raw} (hq : Tr.isC q = false) (hJ : Calls Try.prog 17 #[.pointer px, .pointer py] w fun e w' => e = .returned (.tuple #[chV P n c q.2.1.1 q.2.2.1 q.2.1.2 q.2.2.2, .bool true]) ∧ Below w.heap.size w w') :
    Calls Try.prog 16 #[.pointer px, .pointer py, .pointer (some ⟨g, 0, none⟩)] w fun e w' => e = .returned (.bool true) ∧ Below w.heap.size w w' := by
  have HJ := Lib.hid hJ
  have HC := Lib.hid fun w1 : World => ed_isChange P n c q false hq w1
  clear hJ hq
  go_enter Try.func16, Try.ntmps16
  go_wp2_with (first
    | (go_at_call 17; refine HJ.out.mono ?_; rintro e w1 ⟨rfl, hb1⟩; have H1 := Lib.hid hb1; clear hb1)
    | (go_at_call 18; refine (HC.out _).mono ?_; rintro e w2 ⟨rfl, hb2⟩; have H2 := Lib.hid hb2; clear hb2))
  go_ret
  exact ⟨rfl, Below.andThen H1.out (Below.andThen (below_alloc w1 _) H2.out)⟩
set_option maxRecDepth 1000000 in
set_option maxHeartbeats 8000000 in
theorem then1_app {w : World} {B g : Nat} {us : List Chg} {D : Option Addr} {d : Nat} {Dm : Nat → Prop} (hM : ThM w B g us D d Dm) (hB : B ≤ w.heap.size) (hus : us.length ≤ 2000000) {px py P : Option Addr} {n pc B' : Nat} {c : Chg} (hp : Pts w B' P c.1) (hB' : B' ≤ w.heap.size) (hn : c.1.length = n) (hn16 : n ≤ 16) (hne : c.2.1 ≠ c.2.2) (hv1 : c.2.1.getD 0 < 18446744073709551616) (hv2 : c.2.2.getD 0 < 18446744073709551616)
    (hJ : Calls Try.prog 17 #[.pointer px, .pointer py] w fun e w' => e = .returned (.tuple #[chV P n pc c.2.1.isSome c.2.2.isSome (c.2.1.getD 0) (c.2.2.getD 0), .bool true]) ∧ Below w.heap.size w w') :
    Calls Try.prog 16 #[.pointer px, .pointer py, .pointer (some ⟨g, 0, none⟩)] w fun e w' => e = .returned (.bool true) ∧ ∃ D' d' Dm', ThM w' B g (us ++ [c]) D' d' Dm' ∧ (∀ b, ThF g D' Dm' b → ThF g D Dm b ∨ w.heap.size ≤ b) ∧ Foot (ThF g D Dm) w w' := by
  have HC := Lib.hid fun w1 : World => ed_isChange P n pc (Tr.rawC c) true (by rw [Tr.isC_raw, decide_eq_false hne]; rfl) w1
  have hCl : ∀ w1, Below w.heap.size w w1 → Calls Try.prog 19 #[.slice P n pc] w1 fun e w' => ∃ A' d, e = .returned (.slice A' n d) ∧ PtsG w' (fun b => w1.heap.size ≤ b ∧ b < w'.heap.size) A' c.1 ∧ Below w1.heap.size w1 w' := fun w1 hb1 =>
    clone_any c.1 P pc B' w1 (Nat.le_trans hB' hb1.size) (hp.below' hb1 hB') (by rw [hn]; omega) hn
  have HCl := Lib.hid hCl
  have HJ := Lib.hid hJ
  obtain ⟨s1, hs1⟩ : ∃ s, c.2.1.isSome = s := ⟨_, rfl⟩
  obtain ⟨s2, hs2⟩ : ∃ s, c.2.2.isSome = s := ⟨_, rfl⟩
  obtain ⟨v1, hv1e⟩ : ∃ v, c.2.1.getD 0 = v := ⟨_, rfl⟩
  obtain ⟨v2, hv2e⟩ : ∃ v, c.2.2.getD 0 = v := ⟨_, rfl⟩
  simp only [Tr.rawC] at HC
  rw [hs1, hs2, hv1e, hv2e] at HJ HC
  obtain ⟨m, hm⟩ : ∃ m, us.length = m := ⟨_, rfl⟩
  have hgl : g < w.heap.size := (hM.lt g (.inl rfl)).1
  have hc1 := hM.c1
  rw [hm] at hc1 hus
  have HX := Lib.hid (And.intro hM (And.intro hB (And.intro hm (And.intro hn (And.intro hn16 (And.intro hs1 (And.intro hs2 (And.intro hv1e (And.intro hv2e (And.intro hv1 hv2))))))))))
  clear hM hB hp hB' hn hn16 hne hv1 hv2 hJ hCl hs1 hs2 hv1e hv2e hm
  go_enter Try.func16, Try.ntmps16
  go_wp2_with (first
    | (go_at_call 17; refine HJ.out.mono ?_; rintro e w1 ⟨rfl, hb1⟩; have H1 := Lib.hid hb1; clear hb1)
    | (go_at_call 18; refine (HC.out _).mono ?_; rintro e w3 ⟨rfl, hb3⟩; have hrow3 := (hb3.block w1.heap.size (by simp)).trans (heap_at w1 (.cells #[.slice P n pc, .bool s1, .bool s2, .int .u64 (v1 : Int), .int .u64 (v2 : Int)] 43) _ rfl); have hb13 := Below.andThen (below_alloc w1 _) hb3; have z0 : w3.cell? ⟨w1.heap.size, 0, none⟩ = some (.slice P n pc) := (by rw [cell_of_row w3 _ _ _ _ (0, 0) hrow3]; rfl); have H3 := Lib.hid (And.intro hb13 hrow3); clear hb3 hb13 hrow3)
    | (go_at_call 19; refine (HCl.out _ (Below.andThen H1.out H3.out.1)).mono ?_; rintro e w4 ⟨P', d', rfl, hpg, hb4⟩; have hrow4 := (hb4.block w1.heap.size (Array.getElem?_eq_some_iff.1 H3.out.2).1).trans H3.out.2; have hb14 := Below.andThen H3.out.1 hb4; have hg4 := (hb14.block g (Nat.lt_of_lt_of_le hgl H1.out.size)).trans ((H1.out.block g hgl).trans hc1); have hgn : g ≠ w1.heap.size := (fun e => by have := H1.out.size; omega); have z0 : w4.cell? ⟨w1.heap.size, 0, none⟩ = some (.slice P n pc) := (by rw [cell_of_row w4 _ _ _ _ (0, 0) hrow4]; rfl); have f0 := frozen_of_row w4 w1.heap.size 0 _ _ hrow4; have hrow5 := heap_setCell_same w4 w1.heap.size 0 _ _ (.slice P' n d') hrow4; have hg5 := (Below.heap_setCell w4 (⟨w1.heap.size, 0, none⟩ : Addr) (.slice P' n d') g hgn).trans hg4; have k0 : (w4.setCell ⟨w1.heap.size, 0, none⟩ (.slice P' n d')).cell? ⟨w1.heap.size, 0, none⟩ = some (.slice P' n d') := (by rw [cell_of_row _ _ _ _ _ (0, 0) hrow5]; rfl); have k1 : (w4.setCell ⟨w1.heap.size, 0, none⟩ (.slice P' n d')).cell? ⟨w1.heap.size, 1, none⟩ = some (.bool s1) := (by rw [cell_of_row _ _ _ _ _ (0, 0) hrow5]; rfl); have k2 : (w4.setCell ⟨w1.heap.size, 0, none⟩ (.slice P' n d')).cell? ⟨w1.heap.size, 2, none⟩ = some (.bool s2) := (by rw [cell_of_row _ _ _ _ _ (0, 0) hrow5]; rfl); have k3 : (w4.setCell ⟨w1.heap.size, 0, none⟩ (.slice P' n d')).cell? ⟨w1.heap.size, 3, none⟩ = some (.int .u64 (v1 : Int)) := (by rw [cell_of_row _ _ _ _ _ (0, 0) hrow5]; rfl); have k4 : (w4.setCell ⟨w1.heap.size, 0, none⟩ (.slice P' n d')).cell? ⟨w1.heap.size, 4, none⟩ = some (.int .u64 (v2 : Int)) := (by rw [cell_of_row _ _ _ _ _ (0, 0) hrow5]; rfl); have kg : (w4.setCell ⟨w1.heap.size, 0, none⟩ (.slice P' n d')).cell? ⟨g, 0, none⟩ = some (.slice D m d) := (by rw [cell_of_row _ _ _ _ _ (0, 0) hg5]; rfl); have hb5 : Below w.heap.size w (w4.setCell ⟨w1.heap.size, 0, none⟩ (.slice P' n d')) := (Below.andThen H1.out hb14).setCell (p := ⟨w1.heap.size, 0, none⟩) H1.out.size _; have hpg5 : PtsG (w4.setCell ⟨w1.heap.size, 0, none⟩ (.slice P' n d')) (fun b => Dm b ∨ (w.heap.size ≤ b ∧ b < w4.heap.size)) P' c.1 := hpg.step (by simp) (fun b hb hG => ⟨Below.heap_setCell _ _ _ _ (by have h1 := H3.out.1.size; have h2 := (Array.getElem?_eq_some_iff.1 H3.out.2).1; show b ≠ w1.heap.size; omega), .inr ⟨by have h1 := H3.out.1.size; have h2 := H1.out.size; omega, hG.2⟩⟩); have hwd : RwRow (w4.setCell ⟨w1.heap.size, 0, none⟩ (.slice P' n d')) B (fun b => Dm b ∨ (w.heap.size ≤ b ∧ b < w4.heap.size)) D d (us.map Tr.rawC) := (by have hw0 := HX.out.1.row.wide HX.out.2.1 hb5; simpa only [World.size_setCell] using hw0); have H4 := Lib.hid (And.intro hb5 (And.intro hpg5 (And.intro hg5 hwd))); clear hpg hb14 hrow4 hg4 hb4 hgn hrow5 hg5 hb5 hpg5 hwd)
    | (at_builtin; refine wpList_append_list (Q := RwG (w4.setCell ⟨w1.heap.size, 0, none⟩ (.slice P' n d')) fun b => Dm b ∨ (w.heap.size ≤ b ∧ b < w4.heap.size)) 22 43 (.agg #[.slice none 0 0, .bool false, .bool false, .int .u64 0, .int .u64 0]) 48 Try.underlying22 infoChg (by rfl) (by omega) (by omega) (rwG_ok _ _) (by rfl) _ _ (by rfl) B (.slice D m d) (us.map Tr.rawC) [Tr.rawC c] (m + 1) (by rw [List.length_map, HX.out.2.2.1]; rfl) (by rfl) (by have hh := H4.out.2.2.2.row; rw [List.length_map, HX.out.2.2.1] at hh; exact hh.below (below_alloc _ _) (Nat.le_refl _)) _ _ 1 1 (by rfl) (by rfl) (by have hl := lst_at (e := 43) (w := (w4.setCell ⟨w1.heap.size, 0, none⟩ (.slice P' n d'))) (rwG_ok (w4.setCell ⟨w1.heap.size, 0, none⟩ (.slice P' n d')) (fun b => Dm b ∨ (w.heap.size ≤ b ∧ b < w4.heap.size))) #[.slice P' n d', .bool s1, .bool s2, .int .u64 (v1 : Int), .int .u64 (v2 : Int)] (Tr.rawC c) (by rfl) (by exact ⟨P', d', by rw [← HX.out.2.2.2.1]; rfl, by rw [← HX.out.2.2.2.2.2.1]; rfl, by rw [← HX.out.2.2.2.2.2.2.1]; rfl, by rw [← HX.out.2.2.2.2.2.2.2.1]; rfl, by rw [← HX.out.2.2.2.2.2.2.2.2.1]; rfl, H4.out.2.1, by have := HX.out.2.2.2.1; have := HX.out.2.2.2.2.1; unfold maxLen; show c.1.length ≤ _; omega, HX.out.2.2.2.2.2.2.2.2.2.1, HX.out.2.2.2.2.2.2.2.2.2.2⟩); rw [World.size_setCell] at hl; exact hl) (by omega) (by have h1 := HX.out.2.1; have h2 := H4.out.1.size; simp at h2 ⊢; omega) ?_; intro D5 d5 w6 hown5 hgrow5 hat5; have hap := RwRow.grow hgrow5 hown5 hat5 H4.out.2.2.2 (by rw [List.length_map]; exact HX.out.2.2.1) (Nat.le_trans HX.out.2.1 H4.out.1.size) (below_alloc _ _); have hg6 := (hap.2.1.block g (Nat.lt_of_lt_of_le hgl H4.out.1.size) (fun e => HX.out.1.ne.1 e)).trans H4.out.2.2.1; have fz6 := frozen_of_row w6 g 0 _ _ hg6; have cz6 : w6.cell? ⟨g, 0, none⟩ = some (.slice D m d) := (by rw [cell_of_row w6 _ _ _ _ (0, 0) hg6]; rfl); have H6 := Lib.hid (And.intro hap.1 (And.intro hap.2.1 (And.intro hap.2.2 hg6))); clear hown5 hgrow5 hat5 hap hg6 k0 k1 k2 k3 k4 kg z0 f0))
  go_ret
  obtain ⟨h1, h2, h3, h4⟩ := H6.out
  have hM := HX.out.1
  have hne1 : D5.map (·.block) ≠ some g := by
    rcases h3 with e | ⟨q, e, hq⟩
    · rw [e]; exact hM.ne.1
    · rw [e]; intro e'; simp only [Option.some.injEq] at e'; have := H4.out.1.size; omega
  have hne2 : ¬ (Dm g ∨ (w.heap.size ≤ g ∧ g < w4.heap.size)) := fun h => by
    rcases h with h | h
    · exact hM.ne.2 h
    · omega
  refine ⟨rfl, D5, d5, fun b => Dm b ∨ (w.heap.size ≤ b ∧ b < w4.heap.size), ⟨?_, hM.ge, ?_, hne1, hne2⟩, fun b hb => ?_, ?_⟩
  · rw [List.length_append, HX.out.2.2.1]
    exact block_set h4 _
  · rw [List.map_append]
    exact h1.frame (by simp) (fun b hb => Below.heap_setCell _ _ _ _ (fun e => by
      rw [e] at hb
      rcases hb with hb | hb
      · exact hne1 hb
      · exact hne2 hb))
  · rcases hb with rfl | hb | hb
    · exact .inl (.inl rfl)
    · rcases h3 with e | ⟨q, e, hq⟩
      · rw [e] at hb; exact .inl (.inr (.inl hb))
      · rw [e] at hb; simp only [Option.some.injEq] at hb; subst hb; exact .inr (Nat.le_trans H4.out.1.size hq)
    · rcases hb with hb | hb
      · exact .inl (.inr (.inr hb))
      · exact .inr hb.1
  · exact ((Foot.of_below (F := ThF g D Dm) H4.out.1).trans h2 (fun b hb => .inl (.inr (.inl hb)))).trans (Foot.setCell w6 (F := ThF g D Dm) (a := ⟨g, 0, none⟩) (.inl rfl) _) (fun b hb => .inl hb)
end Go.Proofs.Ytpgkfccfabnjdaa

/-
  CONTRACTS of package edit, eleventh part: Then.
-/
namespace Go.Proofs.Ytpgkfccfabnjdaa
open Go.ChangeShapes Go.WideShapes Go.ChangeAt Go.RowKit
open Tr (T S4 Ent Chg Raw Pc)

def ThI (B g : Nat) : List Pc → World → (Nat → Prop) → Prop := fun us w F => ∃ D d Dm, ThM w B g (us.filterMap Tr.jnQ) D d Dm ∧ ∀ b, F b ↔ ThF g D Dm b
theorem then_visit (B g k : Nat) (k16 : k ≤ 16) : VisitE 16 #[.pointer (some ⟨g, 0, none⟩)] B k 2000000 Tr.fitQ (ThI B g) where
  ent := enters_of Try.func16 (by kernel_rfl) rfl
  frame := by
    rintro us w w' F ⟨D, d, Dm, hm, hF⟩ hs hk
    exact ⟨D, d, Dm, hm.keep hs fun b h => hk b ((hF b).2 h), hF⟩
  inb := by
    rintro us w F ⟨D, d, Dm, hm, hF⟩ b hb
    exact hm.lt b ((hF b).1 hb)
  call := by
    rintro us w F px py q ⟨D, d, Dm, hm, hF⟩ hx hy hne hxy hB hus
    have hus2 : (us.filterMap Tr.jnQ).length ≤ 2000000 := Nat.le_trans (List.length_filterMap_le _ _) (by omega)
    have still : ∀ w', Below w.heap.size w w' → Tr.jnQ q = none → ∃ F', (Tr.fitQ q = true → ThI B g (us ++ [q]) w' F') ∧ (∀ b, F' b → F b ∨ w.heap.size ≤ b) ∧ Foot F w w' := fun w' hb hj =>
      ⟨F, fun _ => ⟨D, d, Dm, by rw [List.filterMap_append, List.filterMap_cons, hj]; simpa using hm.below hb, hF⟩, fun b hb => .inl hb, Foot.of_below hb⟩
    have more : ∀ (c : Chg) w' (D' : Option Addr) (d' : Nat) (Dm' : Nat → Prop), Tr.jnQ q = some c → ThM w' B g (us.filterMap Tr.jnQ ++ [c]) D' d' Dm' → (∀ b, ThF g D' Dm' b → ThF g D Dm b ∨ w.heap.size ≤ b) → Foot (ThF g D Dm) w w' → ∃ F', (Tr.fitQ q = true → ThI B g (us ++ [q]) w' F') ∧ (∀ b, F' b → F b ∨ w.heap.size ≤ b) ∧ Foot F w w' := fun c w' D' d' Dm' hj h1 h2 h3 =>
      ⟨ThF g D' Dm', fun _ => ⟨D', d', Dm', by rw [List.filterMap_append, List.filterMap_cons, hj]; exact h1, fun b => Iff.rfl⟩, fun b hb => (h2 b hb).imp (fun h => (hF b).2 h) id, ⟨h3.os, h3.tape, h3.output, h3.size, fun b hb hn => h3.block b hb fun h => hn ((hF b).2 h)⟩⟩
    obtain ⟨qx, qy⟩ := q
    cases qx with
    | none =>
      cases qy with
      | none => exact absurd rfl hne
      | some y =>
        obtain rfl : px = none := hx
        obtain ⟨b, off, P, pc, rfl, hb, hc, hp, hl, hd, v1, v2⟩ := hy
        refine (then1_app hm hB hus2 hp hB hl k16 hd v1 v2 (ed_join_r hc (by omega))).mono ?_
        rintro e w' ⟨rfl, D', d', Dm', h1, h2, h3⟩
        exact ⟨rfl, more y w' D' d' Dm' rfl h1 h2 h3⟩
    | some x =>
      obtain ⟨b, off, P, pc, rfl, hb, hc, hp, hl, hd, v1, v2⟩ := hx
      cases qy with
      | none =>
        obtain rfl : py = none := hy
        refine (then1_app hm hB hus2 hp hB hl k16 hd v1 v2 (ed_join_l hc (by omega))).mono ?_
        rintro e w' ⟨rfl, D', d', Dm', h1, h2, h3⟩
        exact ⟨rfl, more x w' D' d' Dm' rfl h1 h2 h3⟩
      | some y =>
        obtain ⟨b', off', P', pc', rfl, hb', hc', hp', hl', hd', v1', v2'⟩ := hy
        have hJ := ed_join_b hc hc' (by omega) (by omega) (opt_thing x.2.2 y.2.1)
        have hok : Tr.fitQ (some x, some y) = decide (x.2.2 = y.2.1) := rfl
        by_cases hf : x.2.2 = y.2.1
        · rw [decide_eq_true hf] at hJ hok
          by_cases hs : x.2.1 = y.2.2
          · refine (then1_same (q := Tr.rawC (x.1, x.2.1, y.2.2)) (by rw [Tr.isC_raw]; simp [hs]) hJ).mono ?_
            rintro e w' ⟨rfl, hb⟩
            exact ⟨by rw [hok], still w' hb (by simp only [Tr.jnQ]; rw [if_pos hs])⟩
          · refine (then1_app (c := (x.1, x.2.1, y.2.2)) hm hB hus2 hp hB hl k16 hs v1 v2' hJ).mono ?_
            rintro e w' ⟨rfl, D', d', Dm', h1, h2, h3⟩
            exact ⟨by rw [hok], more _ w' D' d' Dm' (by simp only [Tr.jnQ]; rw [if_neg hs]) h1 h2 h3⟩
        · rw [decide_eq_false hf] at hJ hok
          refine (then1_no hJ).mono ?_
          rintro e w' ⟨rfl, hb⟩
          exact ⟨by rw [hok], F, fun h => (by rw [hok] at h; cases h), fun b hb => .inl hb, Foot.of_below hb⟩
set_option maxRecDepth 100000 in
theorem ed_then_form {w : World} (k : Int) {A A' : Option Addr} {c c' n n' : Nat} {a b : List Raw} (ha : RwL w w.heap.size A a) (hb : RwL w w.heap.size A' b) (hn : a.length = n) (hn' : b.length = n') (hl : n ≤ 1000000000) (hl' : n' ≤ 1000000000) (hr : ¬ (Tr.RightP k a ∧ Tr.RightP k b)) :
    Calls Try.prog 7 #[.int .i64 k, .slice A n c, .slice A' n' c'] w fun e w' => e = .returned (.tuple #[.slice none 0 0, .int .i64 9]) ∧ Below w.heap.size w w' := by
  by_cases h1 : Tr.RightP k a
  · have HA := Lib.hid (ed_right k (c := c) ha (Nat.le_refl _) hn hl (r := true) (by simpa using h1))
    have HB : Hid (∀ w1, Below w.heap.size w w1 → Calls Try.prog 13 #[.int .i64 k, .slice A' n' c'] w1 fun e w' => e = .returned (.bool false) ∧ Below w1.heap.size w1 w') := Lib.hid fun w1 hb1 => ed_right k (c := c') (hb.below hb1 (Nat.le_refl _) hb1.size) (Nat.le_refl _) hn' hl' (r := false) (by simpa using fun h => hr ⟨h1, h⟩)
    clear ha hb hn hn' hl hl' hr h1
    go_enter Try.func7, Try.ntmps7
    go_wp2_with fail
    refine HA.out.mono ?_
    rintro e w1 ⟨rfl, hb1⟩
    have H1 := Lib.hid hb1
    clear hb1 HA
    go_wp2_with fail
    refine (HB.out w1 H1.out).mono ?_
    rintro e w2 ⟨rfl, hb2⟩
    have H2 := Lib.hid (Below.andThen H1.out hb2)
    clear hb2 HB
    go_wp2_with fail
    go_ret2
    exact ⟨rfl, H2.out⟩
  · have HA := Lib.hid (ed_right k (c := c) ha (Nat.le_refl _) hn hl (r := false) (by simpa using h1))
    clear ha hb hn hn' hl hl' hr h1
    go_enter Try.func7, Try.ntmps7
    go_wp2_with fail
    refine HA.out.mono ?_
    rintro e w1 ⟨rfl, hb1⟩
    have H1 := Lib.hid hb1
    clear hb1 HA
    go_wp2_with fail
    go_ret2
    exact ⟨rfl, H1.out⟩
set_option maxRecDepth 100000 in
set_option maxHeartbeats 2000000 in
theorem ed_then_no {w : World} {k : Nat} (k1 : 1 ≤ k) (k16 : k ≤ 16) {A A' : Option Addr} {c c' n n' : Nat} {a b : List Chg} (ha : RwL w w.heap.size A (a.map Tr.rawC)) (hb : RwL w w.heap.size A' (b.map Tr.rawC)) (Ca : Tr.CL k a) (Cb : Tr.CL k b) (hn : a.length = n) (hn' : b.length = n') (hc : n ≤ c) (hc' : n' ≤ c') (hl : n ≤ 1000000) (hl' : n' ≤ 1000000) (hr : (Tr.mz a b).all Tr.fitQ = false) :
    Calls Try.prog 7 #[.int .i64 (k : Int), .slice A n c, .slice A' n' c'] w fun e w' => e = .returned (.tuple #[.slice none 0 0, .int .i64 7]) ∧ Below w.heap.size w w' := by
  have HA := Lib.hid (ed_right (k : Int) (c := c) (n := n) ha (Nat.le_refl _) (by rw [List.length_map]; exact hn) (by omega) (r := true) (by simpa using Ca.right k1 k16))
  have HB : Hid (∀ w1, Below w.heap.size w w1 → Calls Try.prog 13 #[.int .i64 (k : Int), .slice A' n' c'] w1 fun e w' => e = .returned (.bool true) ∧ Below w1.heap.size w1 w') := Lib.hid fun w1 hb1 => ed_right (k : Int) (c := c') (n := n') (hb.below hb1 (Nat.le_refl _) hb1.size) (Nat.le_refl _) (by rw [List.length_map]; exact hn') (by omega) (r := true) (by simpa using Cb.right k1 k16)
  have HX := Lib.hid (And.intro ha (And.intro hb (And.intro Ca (And.intro Cb (And.intro hn (And.intro hn' (And.intro hc (And.intro hc' (And.intro hl (And.intro hl' (And.intro hr (And.intro k1 k16))))))))))))
  clear ha hb Ca Cb hn hn' hc hc' hl hl' hr k1 k16
  go_enter Try.func7, Try.ntmps7
  go_wp2_with fail
  refine HA.out.mono ?_
  rintro e w1 ⟨rfl, hb1⟩
  have H1 := Lib.hid hb1
  clear hb1 HA
  go_wp2_with fail
  refine (HB.out w1 H1.out).mono ?_
  rintro e w2 ⟨rfl, hb2⟩
  have hb2w := Below.andThen H1.out hb2
  have hal := below_alloc w2 (.cells #[.slice none 0 0] 22)
  have hW := Below.andThen hb2w hal
  have hI : ThI w.heap.size w2.heap.size [] (w2.alloc (.cells #[.slice none 0 0] 22)) (ThF w2.heap.size none fun _ => False) := ⟨none, 0, fun _ => False, ⟨heap_at w2 _ _ rfl, hb2w.size, ⟨ownL_none _ _ _, fun b h => h.elim⟩, by simp, fun h => h⟩, fun b => Iff.rfl⟩
  have hT := ed_through (then_visit w.heap.size w2.heap.size k HX.out.2.2.2.2.2.2.2.2.2.2.2.2) hI (c1 := c) (c2 := c') (HX.out.1.below hW (Nat.le_refl _) (Nat.le_refl _)) (HX.out.2.1.below hW (Nat.le_refl _) (Nat.le_refl _)) hW.size HX.out.2.2.1 HX.out.2.2.2.1 HX.out.2.2.2.2.2.2.2.2.2.2.2.1 HX.out.2.2.2.2.2.2.2.2.2.2.2.2 HX.out.2.2.2.2.1 HX.out.2.2.2.2.2.1 HX.out.2.2.2.2.2.2.1 HX.out.2.2.2.2.2.2.2.1 HX.out.2.2.2.2.2.2.2.2.1 HX.out.2.2.2.2.2.2.2.2.2.1 (by have h1 := HX.out.2.2.2.2.2.2.2.2.1; have h2 := HX.out.2.2.2.2.2.2.2.2.2.1; omega) HX.out.2.2.2.2.2.2.2.2.2.2.1
  have HT := Lib.hid hT
  have H2 := Lib.hid (And.intro hW hb2w.size)
  clear hb2 hb2w hal hW hI hT HB
  go_wp2_with (go_at_call 20; refine HT.out.mono ?_; rintro e w3 ⟨rfl, -, hfo⟩; have H3 := Lib.hid hfo; clear hfo)
  go_ret2
  refine ⟨rfl, H2.out.1.trans (H3.out.below H2.out.1.size (fun b hb => ?_))⟩
  rcases hb with rfl | hb | hb
  · exact H2.out.2
  · cases hb
  · exact hb.elim
set_option maxRecDepth 100000 in
set_option maxHeartbeats 2000000 in
theorem ed_then {w : World} {k : Nat} (k1 : 1 ≤ k) (k16 : k ≤ 16) {A A' : Option Addr} {c c' n n' : Nat} {a b : List Chg} (ha : RwL w w.heap.size A (a.map Tr.rawC)) (hb : RwL w w.heap.size A' (b.map Tr.rawC)) (Ca : Tr.CL k a) (Cb : Tr.CL k b) (hn : a.length = n) (hn' : b.length = n') (hc : n ≤ c) (hc' : n' ≤ c') (hl : n ≤ 1000000) (hl' : n' ≤ 1000000) (hr : (Tr.mz a b).all Tr.fitQ = true) :
    Calls Try.prog 7 #[.int .i64 (k : Int), .slice A n c, .slice A' n' c'] w fun e w' => ∃ D d, e = .returned (.tuple #[.slice D (Tr.thn a b).length d, .int .i64 0]) ∧ RwL w' w'.heap.size D ((Tr.thn a b).map Tr.rawC) ∧ (Tr.thn a b).length ≤ d ∧ Below w.heap.size w w' := by
  have HA := Lib.hid (ed_right (k : Int) (c := c) (n := n) ha (Nat.le_refl _) (by rw [List.length_map]; exact hn) (by omega) (r := true) (by simpa using Ca.right k1 k16))
  have HB : Hid (∀ w1, Below w.heap.size w w1 → Calls Try.prog 13 #[.int .i64 (k : Int), .slice A' n' c'] w1 fun e w' => e = .returned (.bool true) ∧ Below w1.heap.size w1 w') := Lib.hid fun w1 hb1 => ed_right (k : Int) (c := c') (n := n') (hb.below hb1 (Nat.le_refl _) hb1.size) (Nat.le_refl _) (by rw [List.length_map]; exact hn') (by omega) (r := true) (by simpa using Cb.right k1 k16)
  have HX := Lib.hid (And.intro ha (And.intro hb (And.intro Ca (And.intro Cb (And.intro hn (And.intro hn' (And.intro hc (And.intro hc' (And.intro hl (And.intro hl' (And.intro hr (And.intro k1 k16))))))))))))
  clear ha hb Ca Cb hn hn' hc hc' hl hl' hr k1 k16
  go_enter Try.func7, Try.ntmps7
  go_wp2_with fail
  refine HA.out.mono ?_
  rintro e w1 ⟨rfl, hb1⟩
  have H1 := Lib.hid hb1
  clear hb1 HA
  go_wp2_with fail
  refine (HB.out w1 H1.out).mono ?_
  rintro e w2 ⟨rfl, hb2⟩
  have hb2w := Below.andThen H1.out hb2
  have hal := below_alloc w2 (.cells #[.slice none 0 0] 22)
  have hW := Below.andThen hb2w hal
  have hI : ThI w.heap.size w2.heap.size [] (w2.alloc (.cells #[.slice none 0 0] 22)) (ThF w2.heap.size none fun _ => False) := ⟨none, 0, fun _ => False, ⟨heap_at w2 _ _ rfl, hb2w.size, ⟨ownL_none _ _ _, fun b h => h.elim⟩, by simp, fun h => h⟩, fun b => Iff.rfl⟩
  have hT := ed_through (then_visit w.heap.size w2.heap.size k HX.out.2.2.2.2.2.2.2.2.2.2.2.2) hI (c1 := c) (c2 := c') (HX.out.1.below hW (Nat.le_refl _) (Nat.le_refl _)) (HX.out.2.1.below hW (Nat.le_refl _) (Nat.le_refl _)) hW.size HX.out.2.2.1 HX.out.2.2.2.1 HX.out.2.2.2.2.2.2.2.2.2.2.2.1 HX.out.2.2.2.2.2.2.2.2.2.2.2.2 HX.out.2.2.2.2.1 HX.out.2.2.2.2.2.1 HX.out.2.2.2.2.2.2.1 HX.out.2.2.2.2.2.2.2.1 HX.out.2.2.2.2.2.2.2.2.1 HX.out.2.2.2.2.2.2.2.2.2.1 (by have h1 := HX.out.2.2.2.2.2.2.2.2.1; have h2 := HX.out.2.2.2.2.2.2.2.2.2.1; omega) HX.out.2.2.2.2.2.2.2.2.2.2.1
  have HT := Lib.hid hT
  have H2 := Lib.hid (And.intro hW hb2w.size)
  clear hb2 hb2w hal hW hI hT HB
  go_wp2_with (go_at_call 20; refine HT.out.mono ?_; rintro e w3 ⟨rfl, hi, hfo⟩; obtain ⟨F', D, d, Dm, hm, hF⟩ := hi (by first | rfl | trivial); have q0 : w3.cell? ⟨w2.heap.size, 0, none⟩ = some (.slice D (Tr.thn a b).length d) := (by rw [cell_of_row w3 _ _ _ _ (0, 0) hm.c1]; rfl); have H3 := Lib.hid (And.intro hfo hm); clear hfo hi hm hF)
  go_ret2
  have hrow := H3.out.2.row.row
  have hrd := rwG_own hrow
  obtain ⟨A', c', hv, hc, -⟩ := OwnL.rd (rwG_ok _ _) hrow
  simp only [Value.slice.injEq] at hv
  refine ⟨D, d, rfl, hrd, by rw [hv.2.2]; have h := hc; rw [List.length_map] at h; exact h, H2.out.1.trans (H3.out.1.below H2.out.1.size (fun b hb => ?_))⟩
  rcases hb with rfl | hb | hb
  · exact H2.out.2
  · cases hb
  · exact hb.elim
end Go.Proofs.Ytpgkfccfabnjdaa
