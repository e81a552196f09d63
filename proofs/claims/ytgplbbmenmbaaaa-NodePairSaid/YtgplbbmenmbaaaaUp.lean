/-
  PLAIN MATHEMATICS of layer 7: the path of a point in a node, what becomes of a node when a point is put or taken away.
-/
import Derived.Test.YtgplbbmenmbaaaaUm
import Derived.Test.YtgplbbmenmbaaaaTk
namespace Go.Proofs.Ytgplbbmenmbaaaa
open Tr (T S4 Ent)
namespace Tr
open Go.Proofs.Ytgplbbmenmbaaaa.Z

/-- does a node cover a point? -/
def covers (t : T) (p : List Nat) : Bool := decide (Z.part t.pre p ≤ levI t)
/-- the kid at a point's address -/
def kidAt (t : T) (p : List Nat) : Option T := Sl.get t.ks (addr p (t.lv - 1) : Int)
/-- the path of a point, at most n nodes -/
def pathF : Nat → Option T → List Nat → List T
  | 0, _, _ => []
  | _ + 1, none, _ => []
  | n + 1, some t, p => if covers t p = true then t :: pathF n (kidAt t p) p else []
/-- what stands where the path ends -/
def stopF : Nat → Option T → List Nat → Option T
  | 0, o, _ => o
  | _ + 1, none, _ => none
  | n + 1, some t, p => if covers t p = true then stopF n (kidAt t p) p else some t
def pathT (o : Option T) (p : List Nat) : List T := pathF 65 o p
def stopT (o : Option T) (p : List Nat) : Option T := stopF 65 o p

theorem covers_iff {k : Nat} {t : T} (h : Wf k t) {p : List Nat} (hp : p.length = k) (ho : Ok p) : covers t p = true ↔ cut p t.lv = t.pre := by
  unfold covers levI
  rw [decide_eq_true_eq]
  have h1 := cut_eq_iff (us := t.pre) (vs := p) (by rw [h.len, hp]) h.ok ho t.lv
  rw [h.cut_pre] at h1
  constructor
  · intro c; exact (h1.2 (by omega)).symm
  · intro c; have := h1.1 c.symm; omega
theorem kidAt_mem {t s : T} {p : List Nat} (h : kidAt t p = some s) : (addr p (t.lv - 1), s) ∈ t.ks := by
  obtain ⟨n, hn, hm⟩ := Sl.get_mem _ _ _ h
  have : n = addr p (t.lv - 1) := by omega
  subst this
  exact hm
theorem kidAt_wf {k : Nat} {t s : T} (h : Wf k t) {p : List Nat} (hs : kidAt t p = some s) : Wf k s ∧ s.lv < t.lv ∧ addr s.pre (t.lv - 1) = addr p (t.lv - 1) ∧ cut s.pre t.lv = t.pre := by
  have hm := kidAt_mem hs
  cases h with
  | ent g q v => simp [T.ks] at hm
  | br g l pre ks h63 hw h2 hl ho hk hc =>
    obtain ⟨c1, c2, c3⟩ := hc _ hm
    exact ⟨hk _ hm, by show s.lv < l + 1; exact Nat.lt_succ_of_le c1, c3, c2⟩
theorem kidAt_ent (g : Nat) (q : List Nat) (v : Nat) (p : List Nat) : kidAt (.ent g q v) p = none := rfl
/-- enough nodes are enough -/
theorem pathF_more {k : Nat} (p : List Nat) : ∀ (n : Nat) (o : Option T), (∀ t, o = some t → Wf k t ∧ t.lv < n) → ∀ m, n ≤ m → pathF m o p = pathF n o p ∧ stopF m o p = stopF n o p
  | 0, none, _, 0, _ => ⟨rfl, rfl⟩
  | 0, none, _, m + 1, _ => ⟨rfl, rfl⟩
  | 0, some t, h, _, _ => by have := (h t rfl).2; omega
  | n + 1, none, _, 0, hm => by omega
  | n + 1, none, _, m + 1, _ => ⟨rfl, rfl⟩
  | n + 1, some t, h, 0, hm => by omega
  | n + 1, some t, h, m + 1, hm => by
    obtain ⟨wf, hl⟩ := h t rfl
    have ih := pathF_more (k := k) p n (kidAt t p) (fun s hs => by
      have := kidAt_wf wf hs
      exact ⟨this.1, by omega⟩) m (by omega)
    simp only [pathF, stopF]
    rw [ih.1, ih.2]
    exact ⟨rfl, rfl⟩
theorem path_step {k : Nat} {t : T} (h : Wf k t) (p : List Nat) (hc : covers t p = true) : pathT (some t) p = t :: pathT (kidAt t p) p ∧ stopT (some t) p = stopT (kidAt t p) p := by
  have ih := pathF_more (k := k) p 64 (kidAt t p) (fun s hs => by
    have h1 := kidAt_wf h hs
    have h2 := h.lv64
    exact ⟨h1.1, by omega⟩) 65 (by omega)
  unfold pathT stopT
  rw [ih.1, ih.2]
  simp [pathF, stopF, hc]
theorem path_stop (t : T) (p : List Nat) (hc : covers t p = false) : pathT (some t) p = [] ∧ stopT (some t) p = some t := by
  simp [pathT, stopT, pathF, stopF, hc]
theorem path_none (p : List Nat) : pathT none p = [] ∧ stopT none p = none := ⟨rfl, rfl⟩
theorem pathF_length (p : List Nat) : ∀ (n : Nat) (o : Option T), (pathF n o p).length ≤ n
  | 0, _ => by simp [pathF]
  | n + 1, none => by simp [pathF]
  | n + 1, some t => by
    simp only [pathF]
    split
    · have := pathF_length p n (kidAt t p)
      simp only [List.length_cons]
      omega
    · simp

/-- the entries of what may be there -/
def entsO : Option T → List Ent
  | none => []
  | some t => t.ents
/-- what stands below a node at a point's address, as it must -/
def Under (x : T) (p : List Nat) (l : Nat) : Prop := x.lv ≤ l ∧ cut x.pre l = cut p l
theorem Under.up {x : T} {p : List Nat} {l m : Nat} (h : Under x p l) (hm : l ≤ m) : Under x p m :=
  ⟨by have := h.1; omega, by rw [← cut_cut x.pre l m hm, h.2, cut_cut p l m hm]⟩
theorem Under.addr {x : T} {p : List Nat} {l : Nat} (h : Under x p l) : Z.addr x.pre l = Z.addr p l := by
  have h1 := cut_addr x.pre l l
  have h2 := cut_addr p l l
  rw [if_pos (Nat.le_refl _)] at h1 h2
  rw [← h1, ← h2, h.2]
theorem Under.part {k : Nat} {x : T} {p pre : List Nat} {l : Nat} (h : Under x p l) (hx : Wf k x) (hpre : pre.length = k) (ho : Ok pre) (hc : cut p (l + 1) = pre) : Z.part pre x.pre ≤ (l : Int) := by
  have h1 := (cut_eq_iff (us := pre) (vs := x.pre) (by rw [hpre, hx.len]) ho hx.ok (l + 1)).1 (by
    rw [← hc, cut_cut p (l + 1) (l + 1) (Nat.le_refl _), ← cut_cut x.pre l (l + 1) (by omega), h.2, cut_cut p l (l + 1) (by omega)])
  omega
/-- a node that covers a point stands under whatever is above it -/
theorem under_of_covers {k : Nat} {t : T} (h : Wf k t) {p : List Nat} (hp : p.length = k) (ho : Ok p) (hc : covers t p = true) {l : Nat} (hl : t.lv ≤ l) : Under t p l :=
  ⟨hl, by rw [← (covers_iff h hp ho).1 hc, cut_cut p t.lv l hl]⟩
/-- an entry of a node of kids at another address than a point isn't at that point -/
theorem mem_ents_put {k g g' l : Nat} {pre : List Nat} {ks : List (Nat × T)} (h : Wf k (.br g l pre ks)) {x : T} {p : List Nat} {e : Ent} :
    e ∈ (T.br g' l pre (Sl.put (addr p l) x ks)).ents ↔ e ∈ x.ents ∨ (e ∈ (T.br g l pre ks).ents ∧ addr e.1 l ≠ addr p l) := by
  have hw : Sl.Wf k ks := by cases h with | br _ _ _ _ _ hw => exact hw
  rw [ents_br, ents_br, mem_entsL, mem_entsL]
  constructor
  · rintro ⟨y, hy, he⟩
    have h1 := (Sl.get_iff (Sl.srt_put (addr p l) x hw.srt) (a := y.1) (v := y.2)).2 hy
    rw [Sl.get_put hw.srt] at h1
    by_cases c : y.1 = addr p l
    · rw [if_pos (by omega)] at h1
      cases h1
      exact .inl he
    · rw [if_neg (by omega)] at h1
      have hm := (Sl.get_iff hw.srt).1 h1
      exact .inr ⟨⟨y, hm, he⟩, by rw [kid_addr h hm he]; exact c⟩
  · rintro (he | ⟨⟨y, hy, he⟩, hne⟩)
    · exact ⟨(addr p l, x), (Sl.get_iff (Sl.srt_put (addr p l) x hw.srt)).1 (by rw [Sl.get_put hw.srt, if_pos rfl]), he⟩
    · rw [kid_addr h hy he] at hne
      exact ⟨y, (Sl.get_iff (Sl.srt_put (addr p l) x hw.srt)).1 (by rw [Sl.get_put hw.srt, if_neg (by omega)]; exact (Sl.get_iff hw.srt).2 hy), he⟩
/-- the entries at a point's address are those of the kid there -/
theorem mem_kidAt {k g l : Nat} {pre : List Nat} {ks : List (Nat × T)} (h : Wf k (.br g l pre ks)) {p : List Nat} {e : Ent} :
    e ∈ entsO (kidAt (.br g l pre ks) p) ↔ e ∈ (T.br g l pre ks).ents ∧ addr e.1 l = addr p l := by
  have hw : Sl.Wf k ks := by cases h with | br _ _ _ _ _ hw => exact hw
  have hk : kidAt (.br g l pre ks) p = Sl.get ks (addr p l : Int) := rfl
  rw [hk, ents_br, mem_entsL]
  constructor
  · intro he
    rcases hg : Sl.get ks (addr p l : Int) with _ | s
    · rw [hg] at he; simp [entsO] at he
    · rw [hg] at he
      have hm := (Sl.get_iff hw.srt).1 hg
      exact ⟨⟨_, hm, he⟩, kid_addr h hm he⟩
  · rintro ⟨⟨y, hy, he⟩, ha⟩
    rw [kid_addr h hy he] at ha
    rw [(Sl.get_iff hw.srt (a := addr p l) (v := y.2)).2 (by rw [← ha]; exact hy)]
    exact he

/-- what a change at a point makes of the entries: a new one, if there is one, and all others -/
def Turned (A : Ent → Prop) (p : List Nat) (o n : List Ent) : Prop := ∀ e, e ∈ n ↔ A e ∨ (e ∈ o ∧ e.1 ≠ p)
/-- one level up -/
theorem turned_up {k g g' l : Nat} {pre : List Nat} {ks : List (Nat × T)} (h : Wf k (.br g l pre ks)) {p : List Nat} (hp : p.length = k) (ho : Ok p) (hc : covers (.br g l pre ks) p = true) {x : T} (hx : Wf k x) (hu : Under x p l)
    {A : Ent → Prop} (ht : Turned A p (entsO (kidAt (.br g l pre ks) p)) x.ents) :
    Wf k (.br g' l pre (Sl.put (addr p l) x ks)) ∧ (∀ m, l + 1 ≤ m → Under (.br g' l pre (Sl.put (addr p l) x ks)) p m) ∧ Turned A p (T.br g l pre ks).ents (T.br g' l pre (Sl.put (addr p l) x ks)).ents := by
  have hcut := (covers_iff h hp ho).1 hc
  have hpart := hu.part hx h.len h.ok hcut
  have hwf := h.put (g' := g') hx hpart hu.1
  rw [hu.addr] at hwf
  refine ⟨hwf, fun m hm => ⟨hm, ?_⟩, fun e => ?_⟩
  · show cut pre m = cut p m
    rw [← (show cut p (l + 1) = pre from hcut), cut_cut p (l + 1) m hm]
  · rw [mem_ents_put h, ht e, mem_kidAt h]
    constructor
    · rintro ((ha | ⟨⟨he, _⟩, hn⟩) | ⟨he, hn⟩)
      · exact .inl ha
      · exact .inr ⟨he, hn⟩
      · exact .inr ⟨he, fun c => hn (by rw [c])⟩
    · rintro (ha | ⟨he, hn⟩)
      · exact .inl (.inl ha)
      · by_cases c : addr e.1 l = addr p l
        · exact .inl (.inr ⟨⟨he, c⟩, hn⟩)
        · exact .inr ⟨he, c⟩
/-- without the kid at a point's address, two or more are left -/
theorem turned_del {k g g' l : Nat} {pre : List Nat} {ks : List (Nat × T)} (h : Wf k (.br g l pre ks)) {p : List Nat} (hp : p.length = k) (ho : Ok p) (hc : covers (.br g l pre ks) p = true) {q v}
    (hkid : kidAt (.br g l pre ks) p = some (.ent q p v)) (h2 : 2 ≤ (Sl.del (addr p l) ks).length) :
    Wf k (.br g' l pre (Sl.del (addr p l) ks)) ∧ (∀ m, l + 1 ≤ m → Under (.br g' l pre (Sl.del (addr p l) ks)) p m) ∧ Turned (fun _ => False) p (T.br g l pre ks).ents (T.br g' l pre (Sl.del (addr p l) ks)).ents := by
  have hcut := (covers_iff h hp ho).1 hc
  have hw : Sl.Wf k ks := by cases h with | br _ _ _ _ _ hw => exact hw
  refine ⟨h.del _ h2, fun m hm => ⟨hm, ?_⟩, fun e => ?_⟩
  · show cut pre m = cut p m
    rw [← (show cut p (l + 1) = pre from hcut), cut_cut p (l + 1) m hm]
  · rw [ents_br, ents_br, mem_entsL, mem_entsL, false_or]
    have hmk := kidAt_mem hkid
    constructor
    · rintro ⟨y, hy, he⟩
      have h1 := (Sl.get_iff (Sl.srt_del (addr p l) hw.srt) (a := y.1) (v := y.2)).2 hy
      rw [Sl.get_del hw.srt] at h1
      by_cases c : y.1 = addr p l
      · rw [if_pos (by omega)] at h1; cases h1
      · have hm := Sl.mem_del hy
        exact ⟨⟨y, hm, he⟩, fun e2 => c (by rw [← kid_addr h hm he, e2])⟩
    · rintro ⟨⟨y, hy, he⟩, hn⟩
      refine ⟨y, (Sl.get_iff (Sl.srt_del (addr p l) hw.srt)).1 ?_, he⟩
      rw [Sl.get_del hw.srt]
      have : y.1 ≠ addr p l := by
        intro c
        have h1 := (Sl.get_iff hw.srt (a := y.1) (v := y.2)).2 hy
        have h3 : Sl.get ks (addr p l : Int) = some (.ent q p v) := hkid
        rw [c, h3] at h1
        have h4 := Option.some.inj h1
        rw [← h4, ents_ent] at he
        simp only [List.mem_singleton] at he
        exact hn (by rw [he])
      rw [if_neg (by omega)]
      exact (Sl.get_iff hw.srt).2 hy
end Tr
end Go.Proofs.Ytgplbbmenmbaaaa
