import Derived.Test.YtjcmehplcagejaaGreatDoorM81
/-
  CONTRACTS of package container/heap over a search: up, down.
-/
namespace Go.Proofs.YtjcmehplcagejaaGreatDoor
open Go.RowKit Go.Shelf
open Tr (T S4 Ent)
attribute [local go_sem] Oper.semAt_some

/-- the number by which the queue is ordered -/
abbrev qo (p : List Nat) (qs : List T) : Nat → Nat := Hp.fo (Nr.ordT p) qs
theorem qo_at {p : List Nat} {qs : List T} {i : Nat} {x : T} (h : qs[i]? = some x) : qo p qs i = Nr.ordT p x := Hp.fo_at h
set_option maxRecDepth 100000 in
set_option maxHeartbeats 4000000 in
theorem hUp_c {W : World} {b0 g k n : Nat} {G : Nat → Prop} {p : List Nat} {q d : Nat} {qs : List T} (h : QueR W b0 G p (some ⟨q, 0, none⟩) d qs) (hG : ¬ G q) (hgq : g ≠ q) (hglt : g < W.heap.size) (hc : W.cell? ⟨g, 0, none⟩ = some (.slice (some ⟨q, 0, none⟩) n d)) (hn : qs.length = n) (hw : ∀ t ∈ qs, Tr.Wf k t) (hp : p.length = k) (hpo : Z.Ok p) {j : Nat} (hj : j < n) (hl : n ≤ 1000000000) (hu : Hp.UpH (qo p qs) n j) :
    Calls Tryz.prog 231 #[.iface 238 (.pointer (some ⟨g, 0, none⟩)), .int .i64 (j : Int)] W fun e w' => e = .returned (.tuple #[]) ∧ ∃ xs, xs.Perm qs ∧ Hp.HeapN (qo p xs) n ∧ QueR w' b0 G p (some ⟨q, 0, none⟩) d xs ∧ Foot (fun b => b = q) W w' := by
  have HX := Lib.hid (And.intro h (And.intro hG (And.intro hgq (And.intro hglt (And.intro hc (And.intro hn (And.intro hw (And.intro hp (And.intro hpo (And.intro hj hu))))))))))
  have HL := Lib.hid hl
  clear h hG hgq hglt hc hw hp hpo hj hu hn hl
  go_enter Tryz.func231, Tryz.ntmps231
  go_wp2_with fail
  go_loopw [1] (fun u wr => ∃ (jn : Nat) (xs : List T), u = .int .i64 (jn : Int) ∧ jn < n ∧ xs.Perm qs ∧ Hp.UpH (qo p xs) n jn ∧ QueR wr b0 G p (some ⟨q, 0, none⟩) d xs ∧ Foot (fun b => b = q) W wr) (fun u _ => (intOf u).toNat)
  case atStart => exact ⟨j, qs, rfl, HX.out.2.2.2.2.2.2.2.2.2.1, List.Perm.refl _, HX.out.2.2.2.2.2.2.2.2.2.2, HX.out.1, Foot.refl _ _⟩
  case round =>
    obtain ⟨jn, xs, rfl, hjn, hperm, hup, hque, hfoot⟩ := hrel
    obtain ⟨-, hG, hgq, hglt, hc, hn, hw, hp, hpo, -, -⟩ := HX.out
    have hxn : xs.length = n := by rw [hperm.length_eq, hn]
    have hcr : wr.cell? ⟨g, 0, none⟩ = some (.slice (some ⟨q, 0, none⟩) n d) := (World.cell?_of_block (a := ⟨g, 0, none⟩) (hfoot.block g hglt hgq)).trans hc
    have hwx : ∀ t ∈ xs, Tr.Wf k t := fun t ht => hw t (hperm.mem_iff.1 ht)
    rcases Nat.eq_zero_or_pos jn with rfl | h0
    · have HR := Lib.hid (And.intro hperm (And.intro (hup.done (.inl rfl)) (And.intro hque hfoot)))
      clear hjn hperm hup hque hfoot hG hgq hglt hc hn hw hp hpo hxn hcr hwx
      go_wp2_with fail
      go_end0
      exact ⟨rfl, xs, HR.out.1, HR.out.2.1, HR.out.2.2.1, HR.out.2.2.2⟩
    · obtain ⟨m, rfl⟩ : ∃ m, jn = m + 1 := ⟨jn - 1, by omega⟩
      have hpar : Hp.par (m + 1) = m / 2 := rfl
      obtain ⟨i, hi⟩ : ∃ i, m / 2 = i := ⟨_, rfl⟩
      rw [hi] at hpar
      have him : i < m + 1 := by omega
      have q1 : ((m + 1 : Nat) : Int) - 1 = (m : Int) := by omega
      have q2 : Int.tdiv (m : Int) 2 = (i : Int) := by rw [← hi]; rfl
      have q3 : ((i : Int) == ((m + 1 : Nat) : Int)) = false := by rw [beq_eq_false_iff_ne]; omega
      have m1 : (m : Int) ≤ 1000000000 := by have := HL.out; omega
      obtain ⟨x, hjx⟩ := get_lt (us := xs) (k := m + 1) (by omega)
      obtain ⟨y, hix⟩ := get_lt (us := xs) (k := i) (by omega)
      obtain ⟨r, hr⟩ : ∃ r, decide (Nr.ordT p x < Nr.ordT p y) = r := ⟨_, rfl⟩
      have HLs := Lib.hid (qLess_c hque hwx hp hpo hjx hix hr)
      rw [hxn] at HLs
      have hml := m_less hcr
      have HR := Lib.hid (And.intro hperm (And.intro hup (And.intro hque (And.intro hfoot (And.intro hpar (And.intro hr (And.intro hxn (And.intro hcr (And.intro him (And.intro hG (And.intro hjn (And.intro hjx hix))))))))))))
      clear hjn hperm hup hque hfoot hG hgq hglt hc hn hw hp hpo hxn hcr hwx hpar hi hr hjx hix h0
      cases r with
      | false =>
        go_wp2_with (go_at_call 253; refine HLs.out.mono ?_; rintro e w2 ⟨rfl, n2, rfl⟩)
        go_end0
        obtain ⟨hperm, hup, hque, hfoot, hpar, hr, hxn, hcr, him, hG, hjn, hjx, hix⟩ := HR.out
        refine ⟨rfl, xs, hperm, hup.done (.inr ?_), hque.drewN n2, hfoot.drewN n2⟩
        rw [hpar, qo_at hjx, qo_at hix]
        exact Nat.le_of_not_lt (of_decide_eq_false hr)
      | true =>
        have hms := fun (i : Nat) => m_swap (w := wr.drewN i) (g := g) HR.out.2.2.2.2.2.2.2.1
        have HSw : Hid (∀ i2, Calls Tryz.prog 254 #[.slice (some ⟨q, 0, none⟩) n d, .int .i64 (i : Int), .int .i64 ((m : Int) + 1)] (wr.drewN i2) fun e w' => e = .returned (.tuple #[]) ∧ QueR w' b0 G p (some ⟨q, 0, none⟩) d (Hp.swL xs i (m + 1)) ∧ Foot (fun b => b = q) (wr.drewN i2) w') := Lib.hid fun i2 => by
          have h := qSwap_c (HR.out.2.2.1.drewN i2) HR.out.2.2.2.2.2.2.2.2.2.1 (i := i) (j := m + 1) (by rw [HR.out.2.2.2.2.2.2.1]; have := HR.out.2.2.2.2.2.2.2.2.1; have := HR.out.2.2.2.2.2.2.2.2.2.2.1; omega) (by rw [HR.out.2.2.2.2.2.2.1]; exact HR.out.2.2.2.2.2.2.2.2.2.2.1)
          rw [HR.out.2.2.2.2.2.2.1] at h
          exact h
        go_wp2_with (first
          | (go_at_call 253; refine HLs.out.mono ?_; rintro e w2 ⟨rfl, n2, rfl⟩; have hms2 := hms n2)
          | (go_at_call 254; refine (HSw.out n2).mono ?_; rintro e w3 ⟨rfl, hq3, hf3⟩; have H3 := Lib.hid (And.intro hq3 hf3); clear hq3 hf3))
        go_roundw
        case rel =>
          obtain ⟨hperm, hup, hque, hfoot, hpar, hr, hxn, hcr, him, hG, hjn, hjx, hix⟩ := HR.out
          refine ⟨i, Hp.swL xs i (m + 1), rfl, by omega, (Hp.swL_perm _ _ _).trans hperm, ?_, H3.out.1, (hfoot.drewN n2).trans H3.out.2 (fun b hb => .inl hb)⟩
          unfold qo
          rw [Hp.swL_fo _ (by omega) (by omega), ← hpar]
          refine hup.step (by omega) hjn ?_
          rw [hpar, qo_at hjx, qo_at hix]
          exact of_decide_eq_true hr
        case measure =>
          have := HR.out.2.2.2.2.2.2.2.2.1
          simp [intOf]
          omega
/-- the queue between two steps of down -/
structure DnR (W : World) (b0 : Nat) (G : Nat → Prop) (p : List Nat) (q d n : Nat) (qs : List T) (wr : World) (i : Nat) (xs : List T) : Prop where
  perm : xs.Perm qs
  dn : Hp.DownH (qo p xs) n i
  que : QueR wr b0 G p (some ⟨q, 0, none⟩) d xs
  foot : Foot (fun b => b = q) W wr
  last : xs[n]? = qs[n]?
theorem DnR.done {W wr : World} {b0 q d n i : Nat} {G : Nat → Prop} {p : List Nat} {qs xs : List T} (h : DnR W b0 G p q d n qs wr i xs) (hl : ∀ c x y, xs[i]? = some x → xs[c]? = some y → c < n → (c = 2 * i + 1 ∨ c = 2 * i + 2) → Nr.ordT p x ≤ Nr.ordT p y) (hn : n < xs.length) : Hp.HeapN (qo p xs) n := by
  refine h.dn.done fun c c0 cn hc => ?_
  have hck := (Hp.par_kids c0).1 hc
  obtain ⟨x, hx⟩ := get_lt (us := xs) (k := i) (by omega)
  obtain ⟨y, hy⟩ := get_lt (us := xs) (k := c) (by omega)
  rw [qo_at hx, qo_at hy]
  exact hl c x y hx hy cn hck
theorem DnR.step {W wr w3 : World} {b0 q d n i m : Nat} {G : Nat → Prop} {p : List Nat} {qs xs : List T} (h : DnR W b0 G p q d n qs wr i xs) (hn : n < xs.length) (hmn : m < n) (hm : m = 2 * i + 1 ∨ m = 2 * i + 2) {x y : T} (hx : xs[i]? = some x) (hy : xs[m]? = some y) (hlt : Nr.ordT p y < Nr.ordT p x)
    (hl : ∀ c z, xs[c]? = some z → c < n → (c = 2 * i + 1 ∨ c = 2 * i + 2) → Nr.ordT p y ≤ Nr.ordT p z) (hq : QueR w3 b0 G p (some ⟨q, 0, none⟩) d (Hp.swL xs i m)) (hf : Foot (fun b => b = q) wr w3) : DnR W b0 G p q d n qs w3 m (Hp.swL xs i m) := by
  refine ⟨(Hp.swL_perm _ _ _).trans h.perm, ?_, hq, h.foot.trans hf (fun b hb => .inl hb), ?_⟩
  · unfold qo
    rw [Hp.swL_fo _ (by omega) (by omega)]
    refine h.dn.step (by omega) hmn ((Hp.par_kids (by omega)).2 hm) (by rw [qo_at hx, qo_at hy]; exact hlt) fun c c0 cn hc => ?_
    obtain ⟨z, hz⟩ := get_lt (us := xs) (k := c) (by omega)
    rw [qo_at hy, qo_at hz]
    exact hl c z hz cn ((Hp.par_kids c0).1 hc)
  · rw [Hp.swL_eq hx hy, List.getElem?_set_ne (by omega), List.getElem?_set_ne (by omega)]
    exact h.last
set_option maxRecDepth 100000 in
set_option maxHeartbeats 4000000 in
theorem hDown_c {W : World} {b0 g k n : Nat} {G : Nat → Prop} {p : List Nat} {q d : Nat} {qs : List T} (h : QueR W b0 G p (some ⟨q, 0, none⟩) d qs) (hG : ¬ G q) (hgq : g ≠ q) (hglt : g < W.heap.size) (hc : W.cell? ⟨g, 0, none⟩ = some (.slice (some ⟨q, 0, none⟩) (n + 1) d)) (hn : qs.length = n + 1) (hw : ∀ t ∈ qs, Tr.Wf k t) (hp : p.length = k) (hpo : Z.Ok p) (hl : n ≤ 1000000000) (hu : Hp.DownH (qo p qs) n 0) :
    Calls Tryz.prog 209 #[.iface 238 (.pointer (some ⟨g, 0, none⟩)), .int .i64 0, .int .i64 (n : Int)] W fun e w' => (∃ b, e = .returned (.bool b)) ∧ ∃ xs, xs.Perm qs ∧ Hp.HeapN (qo p xs) n ∧ QueR w' b0 G p (some ⟨q, 0, none⟩) d xs ∧ Foot (fun b => b = q) W w' ∧ xs[n]? = qs[n]? := by
  have HX := Lib.hid (And.intro h (And.intro hG (And.intro hgq (And.intro hglt (And.intro hc (And.intro hn (And.intro hw (And.intro hp (And.intro hpo hu)))))))))
  have HL := Lib.hid hl
  clear h hG hgq hglt hc hw hp hpo hu hn hl
  go_enter Tryz.func209, Tryz.ntmps209
  go_wp2_with fail
  go_loopw [7] (fun u wr => ∃ (jn : Nat) (xs : List T), u = .int .i64 (jn : Int) ∧ jn ≤ n ∧ DnR W b0 G p q d n qs wr jn xs) (fun u _ => n - (intOf u).toNat)
  case atStart => exact ⟨0, qs, rfl, Nat.zero_le _, List.Perm.refl _, HX.out.2.2.2.2.2.2.2.2.2, HX.out.1, Foot.refl _ _, rfl⟩
  case round =>
    obtain ⟨i, xs, rfl, hin, hrn⟩ := hrel
    obtain ⟨-, hG, hgq, hglt, hc, hn, hw, hp, hpo, -⟩ := HX.out
    have hxn : xs.length = n + 1 := by rw [hrn.perm.length_eq, hn]
    have hcr : wr.cell? ⟨g, 0, none⟩ = some (.slice (some ⟨q, 0, none⟩) (n + 1) d) := (World.cell?_of_block (a := ⟨g, 0, none⟩) (hrn.foot.block g hglt hgq)).trans hc
    have hwx : ∀ t ∈ xs, Tr.Wf k t := fun t ht => hw t (hrn.perm.mem_iff.1 ht)
    have m1 : (n : Int) ≤ 1000000000 := by have := HL.out; omega
    have m2 : (i : Int) ≤ 1000000000 := by have := HL.out; omega
    have m3 : (0 : Int) ≤ (i : Int) := by omega
    by_cases h1 : 2 * i + 1 < n
    case neg =>
      have e1 : decide ((n : Int) ≤ 2 * (i : Int) + 1) = true := decide_eq_true (by omega)
      have HR := Lib.hid (And.intro hrn (And.intro hxn h1))
      clear hrn hG hgq hglt hc hn hw hp hpo hxn hcr hwx h1 hin
      go_wp2_with fail
      go_ret
      refine ⟨⟨_, rfl⟩, xs, HR.out.1.perm, HR.out.1.done (fun c x y _ _ hcn hk => ?_) (by rw [HR.out.2.1]; omega), HR.out.1.que, HR.out.1.foot, HR.out.1.last⟩
      have := HR.out.2.2
      omega
    case pos =>
      have e1 : decide ((n : Int) ≤ 2 * (i : Int) + 1) = false := decide_eq_false (by omega)
      have e2 : decide (2 * (i : Int) + 1 < 0) = false := decide_eq_false (by omega)
      obtain ⟨x, hx⟩ := get_lt (us := xs) (k := i) (by omega)
      obtain ⟨y1, hy1⟩ := get_lt (us := xs) (k := 2 * i + 1) (by omega)
      have HR := Lib.hid (And.intro hrn (And.intro hxn (And.intro hcr (And.intro hwx (And.intro hp (And.intro hpo (And.intro hin (And.intro hx hG))))))))
      have HY1 := Lib.hid hy1
      have hml := m_less hcr
      have hmlF := fun (i2 : Nat) => m_less (w := wr.drewN i2) (g := g) hcr
      have HH1 := Lib.hid h1
      clear hrn hG hgq hglt hc hn hw hp hpo hxn hcr hwx h1 hin hx hy1
      by_cases h2 : 2 * i + 2 < n
      case pos =>
        have e3 : decide (2 * (i : Int) + 2 < (n : Int)) = true := decide_eq_true (by omega)
        have e3' : decide (2 * (i : Int) + 1 + 1 < (n : Int)) = true := decide_eq_true (by omega)
        obtain ⟨y2, hy2⟩ := get_lt (us := xs) (k := 2 * i + 2) (by have := HR.out.2.1; omega)
        obtain ⟨r2, hr2⟩ : ∃ r2, decide (Nr.ordT p y2 < Nr.ordT p y1) = r2 := ⟨_, rfl⟩
        have HLa := Lib.hid (show Calls Tryz.prog 253 #[.slice (some ⟨q, 0, none⟩) (n + 1) d, .int .i64 (2 * (i : Int) + 1 + 1), .int .i64 (2 * (i : Int) + 1)] wr fun e w' => e = .returned (.bool r2) ∧ ∃ n, w' = wr.drewN n from by
          have h := qLess_c HR.out.1.que HR.out.2.2.2.1 HR.out.2.2.2.2.1 HR.out.2.2.2.2.2.1 hy2 HY1.out hr2
          rw [HR.out.2.1] at h
          rw [show (2 * (i : Int) + 1 + 1) = ((2 * i + 2 : Nat) : Int) by omega]
          exact h)
        have HY2 := Lib.hid hy2
        have HR2 := Lib.hid hr2
        have HH2 := Lib.hid h2
        clear hy2 hr2 h2
        cases r2 with
        | true =>
          have HY := HY2
          have HH := HH2
          obtain ⟨y, hyy⟩ : ∃ y, y = y2 := ⟨_, rfl⟩
          rw [← hyy] at HY
          have HYY := Lib.hid hyy
          clear hyy
          obtain ⟨r, hr⟩ : ∃ r, decide (Nr.ordT p y < Nr.ordT p x) = r := ⟨_, rfl⟩
          have HLb : Hid (∀ i2, Calls Tryz.prog 253 #[.slice (some ⟨q, 0, none⟩) (n + 1) d, .int .i64 (2 * (i : Int) + 1 + 1), .int .i64 (i : Int)] (wr.drewN i2) fun e w' => e = .returned (.bool r) ∧ ∃ n, w' = (wr.drewN i2).drewN n) := Lib.hid fun i2 => by
            have h := qLess_c (HR.out.1.que.drewN i2) HR.out.2.2.2.1 HR.out.2.2.2.2.1 HR.out.2.2.2.2.2.1 HY.out HR.out.2.2.2.2.2.2.2.1 hr
            rw [HR.out.2.1] at h
            rw [show (2 * (i : Int) + 1 + 1 : Int) = ((2 * i + 2 : Nat) : Int) by omega]
            exact h
          have HLb0 : Hid (Calls Tryz.prog 253 #[.slice (some ⟨q, 0, none⟩) (n + 1) d, .int .i64 (2 * (i : Int) + 1 + 1), .int .i64 (i : Int)] wr fun e w' => e = .returned (.bool r) ∧ ∃ n, w' = wr.drewN n) := Lib.hid (HLb.out 0)
          cases r with
          | false =>
            go_wp2_with (first
              | (go_at_call 253; (with_reducible refine HLb0.out.mono ?_); rintro e w3 ⟨rfl, n3, rfl⟩)
              | (go_at_call 253; (with_reducible refine HLa.out.mono ?_); rintro e w2 ⟨rfl, n2, rfl⟩; have hml2 := hmlF n2)
              | (go_at_call 253; (with_reducible refine (HLb.out n2).mono ?_); rintro e w3 ⟨rfl, n3, rfl⟩))
            go_ret
            refine ⟨⟨_, rfl⟩, xs, HR.out.1.perm, HR.out.1.done (fun c x' z hx hz hcn hk => ?_) (by rw [HR.out.2.1]; omega), ?_, ?_, HR.out.1.last⟩
            · rw [HR.out.2.2.2.2.2.2.2.1, Option.some.injEq] at hx
              subst hx
              have hle := Nat.le_of_not_lt (of_decide_eq_false hr)
              have hlt := of_decide_eq_true HR2.out
              rcases hk with rfl | rfl
              · have h6 := HY1.out; rw [hz, Option.some.injEq] at h6; subst h6; have hyy := HYY.out; rw [hyy] at hle; (try rw [hyy]); omega
              · have h6 := HY2.out; rw [hz, Option.some.injEq] at h6; subst h6; have hyy := HYY.out; rw [hyy] at hle; (try rw [hyy]); omega
            · exact HR.out.1.que
            · exact HR.out.1.foot.drewN _
          | true =>
            have HSw : Hid (∀ i2, Calls Tryz.prog 254 #[.slice (some ⟨q, 0, none⟩) (n + 1) d, .int .i64 (i : Int), .int .i64 (2 * (i : Int) + 1 + 1)] (wr.drewN i2) fun e w' => e = .returned (.tuple #[]) ∧ QueR w' b0 G p (some ⟨q, 0, none⟩) d (Hp.swL xs i (2 * i + 2)) ∧ Foot (fun b => b = q) (wr.drewN i2) w') := Lib.hid fun i2 => by
              have h := qSwap_c (HR.out.1.que.drewN i2) HR.out.2.2.2.2.2.2.2.2 (i := i) (j := 2 * i + 2) (by rw [HR.out.2.1]; have := HH.out; omega) (by rw [HR.out.2.1]; have := HH.out; omega)
              rw [HR.out.2.1] at h
              rw [show (2 * (i : Int) + 1 + 1 : Int) = ((2 * i + 2 : Nat) : Int) by omega]
              exact h
            have hms := fun (i2 : Nat) => m_swap (w := wr.drewN i2) (g := g) HR.out.2.2.1
            go_wp2_with (first
              | (go_at_call 253; (with_reducible refine HLb0.out.mono ?_); rintro e w3 ⟨rfl, n3, rfl⟩; have hms3 := hms n3)
              | (go_at_call 253; (with_reducible refine HLa.out.mono ?_); rintro e w2 ⟨rfl, n2, rfl⟩; have hml2 := hmlF n2)
              | (go_at_call 253; (with_reducible refine (HLb.out n2).mono ?_); rintro e w3 ⟨rfl, n3, rfl⟩; have hms3 := hms (n2 + n3))
              | (go_at_call 254; (with_reducible refine (HSw.out _).mono ?_); rintro e w4 ⟨rfl, hq4, hf4⟩; have H4 := Lib.hid (And.intro hq4 hf4); clear hq4 hf4))
            go_roundw
            case rel =>
              refine ⟨2 * i + 2, Hp.swL xs i (2 * i + 2), by first | rfl | go_num, by have := HH.out; omega, HR.out.1.step (by rw [HR.out.2.1]; omega) (by have := HH.out; omega) (by omega) HR.out.2.2.2.2.2.2.2.1 HY.out (of_decide_eq_true hr) (fun c z hz hcn hk => ?_) H4.out.1 (((Foot.refl (fun b => b = q) wr).drewN _).trans H4.out.2 (fun b hb => .inl hb))⟩
              have hle := Nat.le_refl (Nr.ordT p y)
              have hlt := of_decide_eq_true HR2.out
              rcases hk with rfl | rfl
              · have h6 := HY1.out; rw [hz, Option.some.injEq] at h6; subst h6; have hyy := HYY.out; rw [hyy] at hle; (try rw [hyy]); omega
              · have h6 := HY2.out; rw [hz, Option.some.injEq] at h6; subst h6; have hyy := HYY.out; rw [hyy] at hle; (try rw [hyy]); omega
            case measure =>
              have := HH.out
              simp [intOf]
              omega
        | false =>
          have HY := HY1
          have HH := HH1
          obtain ⟨y, hyy⟩ : ∃ y, y = y1 := ⟨_, rfl⟩
          rw [← hyy] at HY
          have HYY := Lib.hid hyy
          clear hyy
          obtain ⟨r, hr⟩ : ∃ r, decide (Nr.ordT p y < Nr.ordT p x) = r := ⟨_, rfl⟩
          have HLb : Hid (∀ i2, Calls Tryz.prog 253 #[.slice (some ⟨q, 0, none⟩) (n + 1) d, .int .i64 (2 * (i : Int) + 1), .int .i64 (i : Int)] (wr.drewN i2) fun e w' => e = .returned (.bool r) ∧ ∃ n, w' = (wr.drewN i2).drewN n) := Lib.hid fun i2 => by
            have h := qLess_c (HR.out.1.que.drewN i2) HR.out.2.2.2.1 HR.out.2.2.2.2.1 HR.out.2.2.2.2.2.1 HY.out HR.out.2.2.2.2.2.2.2.1 hr
            rw [HR.out.2.1] at h
            rw [show (2 * (i : Int) + 1 : Int) = ((2 * i + 1 : Nat) : Int) by omega]
            exact h
          have HLb0 : Hid (Calls Tryz.prog 253 #[.slice (some ⟨q, 0, none⟩) (n + 1) d, .int .i64 (2 * (i : Int) + 1), .int .i64 (i : Int)] wr fun e w' => e = .returned (.bool r) ∧ ∃ n, w' = wr.drewN n) := Lib.hid (HLb.out 0)
          cases r with
          | false =>
            go_wp2_with (first
              | (go_at_call 253; (with_reducible refine HLb0.out.mono ?_); rintro e w3 ⟨rfl, n3, rfl⟩)
              | (go_at_call 253; (with_reducible refine HLa.out.mono ?_); rintro e w2 ⟨rfl, n2, rfl⟩; have hml2 := hmlF n2)
              | (go_at_call 253; (with_reducible refine (HLb.out n2).mono ?_); rintro e w3 ⟨rfl, n3, rfl⟩))
            go_ret
            refine ⟨⟨_, rfl⟩, xs, HR.out.1.perm, HR.out.1.done (fun c x' z hx hz hcn hk => ?_) (by rw [HR.out.2.1]; omega), ?_, ?_, HR.out.1.last⟩
            · rw [HR.out.2.2.2.2.2.2.2.1, Option.some.injEq] at hx
              subst hx
              have hle := Nat.le_of_not_lt (of_decide_eq_false hr)
              have hlt := Nat.le_of_not_lt (of_decide_eq_false HR2.out)
              rcases hk with rfl | rfl
              · have h6 := HY1.out; rw [hz, Option.some.injEq] at h6; subst h6; have hyy := HYY.out; rw [hyy] at hle; (try rw [hyy]); omega
              · have h6 := HY2.out; rw [hz, Option.some.injEq] at h6; subst h6; have hyy := HYY.out; rw [hyy] at hle; (try rw [hyy]); omega
            · exact HR.out.1.que
            · exact HR.out.1.foot.drewN _
          | true =>
            have HSw : Hid (∀ i2, Calls Tryz.prog 254 #[.slice (some ⟨q, 0, none⟩) (n + 1) d, .int .i64 (i : Int), .int .i64 (2 * (i : Int) + 1)] (wr.drewN i2) fun e w' => e = .returned (.tuple #[]) ∧ QueR w' b0 G p (some ⟨q, 0, none⟩) d (Hp.swL xs i (2 * i + 1)) ∧ Foot (fun b => b = q) (wr.drewN i2) w') := Lib.hid fun i2 => by
              have h := qSwap_c (HR.out.1.que.drewN i2) HR.out.2.2.2.2.2.2.2.2 (i := i) (j := 2 * i + 1) (by rw [HR.out.2.1]; have := HH.out; omega) (by rw [HR.out.2.1]; have := HH.out; omega)
              rw [HR.out.2.1] at h
              rw [show (2 * (i : Int) + 1 : Int) = ((2 * i + 1 : Nat) : Int) by omega]
              exact h
            have hms := fun (i2 : Nat) => m_swap (w := wr.drewN i2) (g := g) HR.out.2.2.1
            go_wp2_with (first
              | (go_at_call 253; (with_reducible refine HLb0.out.mono ?_); rintro e w3 ⟨rfl, n3, rfl⟩; have hms3 := hms n3)
              | (go_at_call 253; (with_reducible refine HLa.out.mono ?_); rintro e w2 ⟨rfl, n2, rfl⟩; have hml2 := hmlF n2)
              | (go_at_call 253; (with_reducible refine (HLb.out n2).mono ?_); rintro e w3 ⟨rfl, n3, rfl⟩; have hms3 := hms (n2 + n3))
              | (go_at_call 254; (with_reducible refine (HSw.out _).mono ?_); rintro e w4 ⟨rfl, hq4, hf4⟩; have H4 := Lib.hid (And.intro hq4 hf4); clear hq4 hf4))
            go_roundw
            case rel =>
              refine ⟨2 * i + 1, Hp.swL xs i (2 * i + 1), by first | rfl | go_num, by have := HH.out; omega, HR.out.1.step (by rw [HR.out.2.1]; omega) (by have := HH.out; omega) (by omega) HR.out.2.2.2.2.2.2.2.1 HY.out (of_decide_eq_true hr) (fun c z hz hcn hk => ?_) H4.out.1 (((Foot.refl (fun b => b = q) wr).drewN _).trans H4.out.2 (fun b hb => .inl hb))⟩
              have hle := Nat.le_refl (Nr.ordT p y)
              have hlt := Nat.le_of_not_lt (of_decide_eq_false HR2.out)
              rcases hk with rfl | rfl
              · have h6 := HY1.out; rw [hz, Option.some.injEq] at h6; subst h6; have hyy := HYY.out; rw [hyy] at hle; (try rw [hyy]); omega
              · have h6 := HY2.out; rw [hz, Option.some.injEq] at h6; subst h6; have hyy := HYY.out; rw [hyy] at hle; (try rw [hyy]); omega
            case measure =>
              have := HH.out
              simp [intOf]
              omega
      case neg =>
        have e3 : decide (2 * (i : Int) + 2 < (n : Int)) = false := decide_eq_false (by omega)
        have e3' : decide (2 * (i : Int) + 1 + 1 < (n : Int)) = false := decide_eq_false (by omega)
        have HH2 := Lib.hid h2
        clear h2
        have HY := HY1
        have HH := HH1
        obtain ⟨y, hyy⟩ : ∃ y, y = y1 := ⟨_, rfl⟩
        rw [← hyy] at HY
        have HYY := Lib.hid hyy
        clear hyy
        obtain ⟨r, hr⟩ : ∃ r, decide (Nr.ordT p y < Nr.ordT p x) = r := ⟨_, rfl⟩
        have HLb : Hid (∀ i2, Calls Tryz.prog 253 #[.slice (some ⟨q, 0, none⟩) (n + 1) d, .int .i64 (2 * (i : Int) + 1), .int .i64 (i : Int)] (wr.drewN i2) fun e w' => e = .returned (.bool r) ∧ ∃ n, w' = (wr.drewN i2).drewN n) := Lib.hid fun i2 => by
          have h := qLess_c (HR.out.1.que.drewN i2) HR.out.2.2.2.1 HR.out.2.2.2.2.1 HR.out.2.2.2.2.2.1 HY.out HR.out.2.2.2.2.2.2.2.1 hr
          rw [HR.out.2.1] at h
          rw [show (2 * (i : Int) + 1 : Int) = ((2 * i + 1 : Nat) : Int) by omega]
          exact h
        have HLb0 : Hid (Calls Tryz.prog 253 #[.slice (some ⟨q, 0, none⟩) (n + 1) d, .int .i64 (2 * (i : Int) + 1), .int .i64 (i : Int)] wr fun e w' => e = .returned (.bool r) ∧ ∃ n, w' = wr.drewN n) := Lib.hid (HLb.out 0)
        cases r with
        | false =>
          go_wp2_with (first
            | (go_at_call 253; (with_reducible refine HLb0.out.mono ?_); rintro e w3 ⟨rfl, n3, rfl⟩)
            | (go_at_call 253; (with_reducible refine (HLb.out n2).mono ?_); rintro e w3 ⟨rfl, n3, rfl⟩))
          go_ret
          refine ⟨⟨_, rfl⟩, xs, HR.out.1.perm, HR.out.1.done (fun c x' z hx hz hcn hk => ?_) (by rw [HR.out.2.1]; omega), ?_, ?_, HR.out.1.last⟩
          · rw [HR.out.2.2.2.2.2.2.2.1, Option.some.injEq] at hx
            subst hx
            have hle := Nat.le_of_not_lt (of_decide_eq_false hr)
            rcases hk with rfl | rfl
            · have h6 := HY1.out; rw [hz, Option.some.injEq] at h6; subst h6; have hyy := HYY.out; rw [hyy] at hle; (try rw [hyy]); omega
            · have := HH2.out; omega
          · exact HR.out.1.que
          · exact HR.out.1.foot.drewN _
        | true =>
          have HSw : Hid (∀ i2, Calls Tryz.prog 254 #[.slice (some ⟨q, 0, none⟩) (n + 1) d, .int .i64 (i : Int), .int .i64 (2 * (i : Int) + 1)] (wr.drewN i2) fun e w' => e = .returned (.tuple #[]) ∧ QueR w' b0 G p (some ⟨q, 0, none⟩) d (Hp.swL xs i (2 * i + 1)) ∧ Foot (fun b => b = q) (wr.drewN i2) w') := Lib.hid fun i2 => by
            have h := qSwap_c (HR.out.1.que.drewN i2) HR.out.2.2.2.2.2.2.2.2 (i := i) (j := 2 * i + 1) (by rw [HR.out.2.1]; have := HH.out; omega) (by rw [HR.out.2.1]; have := HH.out; omega)
            rw [HR.out.2.1] at h
            rw [show (2 * (i : Int) + 1 : Int) = ((2 * i + 1 : Nat) : Int) by omega]
            exact h
          have hms := fun (i2 : Nat) => m_swap (w := wr.drewN i2) (g := g) HR.out.2.2.1
          go_wp2_with (first
            | (go_at_call 253; (with_reducible refine HLb0.out.mono ?_); rintro e w3 ⟨rfl, n3, rfl⟩; have hms3 := hms n3)
            | (go_at_call 253; (with_reducible refine (HLb.out n2).mono ?_); rintro e w3 ⟨rfl, n3, rfl⟩; have hms3 := hms (n2 + n3))
            | (go_at_call 254; (with_reducible refine (HSw.out _).mono ?_); rintro e w4 ⟨rfl, hq4, hf4⟩; have H4 := Lib.hid (And.intro hq4 hf4); clear hq4 hf4))
          go_roundw
          case rel =>
            refine ⟨2 * i + 1, Hp.swL xs i (2 * i + 1), by first | rfl | go_num, by have := HH.out; omega, HR.out.1.step (by rw [HR.out.2.1]; omega) (by have := HH.out; omega) (by omega) HR.out.2.2.2.2.2.2.2.1 HY.out (of_decide_eq_true hr) (fun c z hz hcn hk => ?_) H4.out.1 (((Foot.refl (fun b => b = q) wr).drewN _).trans H4.out.2 (fun b hb => .inl hb))⟩
            have hle := Nat.le_refl (Nr.ordT p y)
            rcases hk with rfl | rfl
            · have h6 := HY1.out; rw [hz, Option.some.injEq] at h6; subst h6; have hyy := HYY.out; rw [hyy] at hle; (try rw [hyy]); omega
            · have := HH2.out; omega
          case measure =>
            have := HH.out
            simp [intOf]
            omega
end Go.Proofs.YtjcmehplcagejaaGreatDoor
