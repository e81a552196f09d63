import Derived.Test.YtccefboifhfkdaaDoorM18
import Derived.Test.YtccefboifhfkdaaDoorM23
import Derived.Test.YtccefboifhfkdaaDoorM24
import Derived.Test.YtccefboifhfkdaaDoorM26
import Derived.BigQuiet
import Derived.Test.YtccefboifhfkdaaDoorM16
import Derived.Test.YtccefboifhfkdaaDoorM05
/-
  PLAIN MATHEMATICS of layer 7: the path of a point ahead of an act, and behind it.
-/
namespace Go.Proofs.YtccefboifhfkdaaDoor
open Tr (T S4 Ent)

/-- all kids the very same ones, but that at an address -/
def ShareT (x y : T) (a : Nat) : Prop := Sl.Srt x.ks ∧ Sl.Srt y.ks ∧ ∀ c : Int, c ≠ (a : Int) → Sl.get x.ks c = Sl.get y.ks c
theorem path_none_stop {p : List Nat} : ∀ (n : Nat) (o : Option T), Tr.pathF n o p = [] → Tr.stopF n o p = o
  | 0, _, _ => rfl
  | _ + 1, none, _ => rfl
  | n + 1, some t, h => by
    simp only [Tr.pathF, Tr.stopF] at h ⊢
    split at h
    · cases h
    · rename_i hc
      rw [if_neg hc]
theorem path_last_stop {p : List Nat} : ∀ (n : Nat) (o : Option T) (us : List T) (u : T), Tr.pathF n o p = us ++ [u] → Tr.stopF n o p = Tr.kidAt u p
  | 0, _, us, u, h => by simp [Tr.pathF] at h
  | _ + 1, none, us, u, h => by simp [Tr.pathF] at h
  | n + 1, some t, us, u, h => by
    simp only [Tr.pathF, Tr.stopF] at h ⊢
    split at h
    · rename_i hc
      rw [if_pos hc]
      cases us with
      | nil =>
        simp only [List.nil_append, List.cons.injEq] at h
        obtain ⟨rfl, h⟩ := h
        exact path_none_stop n _ h
      | cons v us =>
        simp only [List.cons_append, List.cons.injEq] at h
        exact path_last_stop n _ us u h.2
    · simp at h
theorem chain_path {p : List Nat} {k : Nat} : ∀ {L : List T} {o y : Option T}, Tr.Chain p o L y → (∀ t, o = some t → Tr.Wf k t) → Tr.pathT o p = L ++ Tr.pathT y p ∧ Tr.stopT o p = Tr.stopT y p
  | [], o, y, h, _ => by
    have hy : y = o := h
    subst hy
    exact ⟨rfl, rfl⟩
  | u :: L, o, y, ⟨h1, h2, h3, h4⟩, hw => by
    have wu := hw u h1
    have ih := chain_path h4 (fun t ht => (Tr.kidAt_wf wu ht).1)
    have hs := Tr.path_step wu p h3
    rw [h1, hs.1, hs.2, ih.1, ih.2]
    exact ⟨rfl, rfl⟩
/-- the path behind an act: through the copies of the nodes of the way, then what stands there now -/
theorem built_path {p : List Nat} {k : Nat} : ∀ {L : List T} {o y : Option T} {x t : T}, Tr.Chain p o L y → (∀ s, o = some s → Tr.Wf k s) → Built L.reverse x t → Tr.Wf k t → (∀ L' u, L = L' ++ [u] → Tr.Under x p (u.lv - 1)) →
    ∃ M : List T, M.length = L.length ∧ Tr.pathT (some t) p = M ++ Tr.pathT (some x) p ∧ Tr.stopT (some t) p = Tr.stopT (some x) p ∧ Tr.Wf k x ∧ ∀ (i : Nat) (u : T), L[i]? = some u → ∃ g n, M[i]? = some (stepT g u n) ∧ Z.addr n.pre (u.lv - 1) = Z.addr p (u.lv - 1)
  | [], o, y, x, t, _, _, hb, wt, _ => by
    have : t = x := hb
    subst this
    exact ⟨[], rfl, rfl, rfl, wt, fun i u h => by simp at h⟩
  | u :: L, o, y, x, t, ⟨h1, h2, h3, h4⟩, hw, hb, wt, hund => by
    have wu := hw u h1
    rw [List.reverse_cons] at hb
    obtain ⟨s, g, hbs, rfl⟩ := built_inv hb
    have hus : Z.addr s.pre (u.lv - 1) = Z.addr p (u.lv - 1) := by
      cases L with
      | nil =>
        have : s = x := hbs
        subst this
        exact (hund [] u rfl).addr
      | cons u2 L =>
        obtain ⟨h5, h6, h7, h8⟩ := h4
        rw [List.reverse_cons] at hbs
        obtain ⟨s2, g2, -, rfl⟩ := built_inv hbs
        exact (Tr.kidAt_wf wu h5).2.2.1
    have hsu : Sl.Srt u.ks := by cases wu with | ent => exact Sl.srt_nil | br _ _ _ _ _ hw => exact hw.srt
    have hlv : (stepT g u s).lv = u.lv := by
      cases u with
      | ent => exact h2.elim
      | br => rfl
    have hcov : Tr.covers (stepT g u s) p = true := by
      have : Tr.covers (stepT g u s) p = Tr.covers u p := by
        unfold Tr.covers levI
        rw [hlv]
        rfl
      rw [this]; exact h3
    have hkid : Tr.kidAt (stepT g u s) p = some s := by
      unfold Tr.kidAt
      rw [hlv]
      show Sl.get (Sl.put (Z.addr s.pre (u.lv - 1)) s u.ks) _ = _
      rw [Sl.get_put hsu, hus, if_pos rfl]
    have ws := (Tr.kidAt_wf wt hkid).1
    obtain ⟨M, m1, m2, m3, m4, m5⟩ := built_path h4 (fun t ht => (Tr.kidAt_wf wu ht).1) hbs ws (fun L' v e => hund (u :: L') v (by rw [e]; rfl))
    have hst := Tr.path_step wt p hcov
    rw [hkid] at hst
    refine ⟨stepT g u s :: M, by simp [m1], by rw [hst.1, m2]; rfl, by rw [hst.2, m3], m4, fun i v hv => ?_⟩
    cases i with
    | zero =>
      simp only [List.getElem?_cons_zero, Option.some.injEq] at hv
      subst hv
      exact ⟨g, s, rfl, hus⟩
    | succ i =>
      rw [List.getElem?_cons_succ] at hv ⊢
      exact m5 i v hv
theorem share_step {k : Nat} {u : T} (h : Tr.Wf k u) (hb : Tr.isBr u) (g : Nat) (n : T) {p : List Nat} (ha : Z.addr n.pre (u.lv - 1) = Z.addr p (u.lv - 1)) : (stepT g u n).lv = u.lv ∧ ShareT u (stepT g u n) (Z.addr p (u.lv - 1)) := by
  have hsu : Sl.Srt u.ks := by cases h with | ent => exact Sl.srt_nil | br _ _ _ _ _ hw => exact hw.srt
  refine ⟨by cases u with | ent => exact hb.elim | br => rfl, hsu, ?_, fun c hc => ?_⟩
  · exact Sl.srt_put _ _ hsu
  · show _ = Sl.get (Sl.put (Z.addr n.pre (u.lv - 1)) n u.ks) c
    rw [Sl.get_put hsu, ha, if_neg hc]
theorem chain_br {p : List Nat} : ∀ {L : List T} {o y : Option T}, Tr.Chain p o L y → ∀ u ∈ L, Tr.isBr u
  | [], _, _, _, u, h => by simp at h
  | v :: L, o, y, ⟨_, h2, _, h4⟩, u, h => by
    rcases List.mem_cons.1 h with rfl | h
    · exact h2
    · exact chain_br h4 u h
theorem chain_wf {p : List Nat} {k : Nat} : ∀ {L : List T} {o y : Option T}, Tr.Chain p o L y → (∀ t, o = some t → Tr.Wf k t) → ∀ u ∈ L, Tr.Wf k u
  | [], _, _, _, _, u, h => by simp at h
  | v :: L, o, y, ⟨h1, _, _, h4⟩, hw, u, h => by
    rcases List.mem_cons.1 h with rfl | h
    · exact hw _ h1
    · exact chain_wf h4 (fun t ht => (Tr.kidAt_wf (hw v h1) ht).1) u h
theorem ent_covers {k g v : Nat} {p : List Nat} (h : Tr.Wf k (.ent g p v)) (hp : p.length = k) (ho : Z.Ok p) : Tr.covers (.ent g p v) p = true := (Tr.covers_iff h hp ho).2 (Tr.cut_zero p)
/-- the paths ahead of an act, and behind it -/
structure Twin (o o' : Option T) (p : List Nat) (del : Bool) (us vs : List T) : Prop where
  same : ∀ (i : Nat) (x y : T), us[i]? = some x → vs[i]? = some y → ¬ Tr.isBr x ∨ (Tr.isBr x ∧ Tr.isBr y ∧ y.lv = x.lv ∧ ShareT x y (Z.addr p (x.lv - 1)))
  fin : (vs.length ≤ us.length + 1 ∧ us.length ≤ vs.length + 1) ∨
    (del = false ∧ vs.length = us.length + 2 ∧ ∃ (s more : T) (l : Nat), Tr.stopT o p = some s ∧ vs[us.length]? = some more ∧ levI more = (l : Int) ∧ l ≤ 63 ∧ Sl.get more.ks (Z.addr s.pre l : Int) = some s ∧ ∀ u ∈ us, Tr.isBr u) ∨
    (del = true ∧ us.length = vs.length + 2 ∧ ∃ (gone other : T) (l c : Nat), us[vs.length]? = some gone ∧ levI gone = (l : Int) ∧ l ≤ 63 ∧ Tr.stopT o' p = some other ∧ Sl.Srt gone.ks ∧ Sl.del (Z.addr p l) gone.ks = [(c, other)] ∧ (Sl.get gone.ks (Z.addr p l : Int)).isSome = true ∧ ∀ u ∈ vs, Tr.isBr u)
theorem twin_put {k : Nat} {o : Option T} {p : List Nat} {v : Nat} {t : T} (hp : p.length = k) (ho : Z.Ok p) (hw : ∀ s, o = some s → Tr.Wf k s) (wt : Tr.Wf k t) (h : PutWay k o p v t) : Twin o (some t) p false (Tr.pathT o p) (Tr.pathT (some t) p) := by
  obtain ⟨L, y, x, hch, hx, wx, hb⟩ := h
  have hund := Tr.putX_under hp ho hw hch hx
  obtain ⟨M, m1, m2, -, -, m5⟩ := built_path hch hw hb wt hund
  have hpa := chain_path hch hw
  have hLs : ∀ (i : Nat) (a b : T), L[i]? = some a → M[i]? = some b → Tr.isBr a ∧ Tr.isBr b ∧ b.lv = a.lv ∧ ShareT a b (Z.addr p (a.lv - 1)) := by
    intro i a b ha hb'
    obtain ⟨g, n, h1, h2⟩ := m5 i a ha
    rw [h1] at hb'
    cases hb'
    have hbr := chain_br hch a (List.mem_of_getElem? ha)
    have := share_step (chain_wf hch hw a (List.mem_of_getElem? ha)) hbr g n h2
    exact ⟨hbr, trivial, this.1, this.2⟩
  have hgen : ∀ P Q : List T, (∀ a, P[0]? = some a → ¬ Tr.isBr a) → P.length ≤ 1 → ∀ (i : Nat) (a b : T), (L ++ P)[i]? = some a → (M ++ Q)[i]? = some b → ¬ Tr.isBr a ∨ (Tr.isBr a ∧ Tr.isBr b ∧ b.lv = a.lv ∧ ShareT a b (Z.addr p (a.lv - 1))) := by
    intro P Q hP hP1 i a b ha hb'
    rcases Nat.lt_or_ge i L.length with hi | hi
    · rw [List.getElem?_append_left hi] at ha
      rw [List.getElem?_append_left (by omega)] at hb'
      exact .inr (hLs i a b ha hb')
    · rw [List.getElem?_append_right hi] at ha
      have : i - L.length < P.length := lt_get ha
      rw [show i - L.length = 0 by omega] at ha
      exact .inl (hP a ha)
  rcases hx with ⟨g, rfl, rfl | ⟨g', v', rfl⟩⟩ | ⟨b, g, g', l, rfl, hc, hpart, rfl⟩
  · have e1 : Tr.pathT (some (T.ent g p v)) p = [.ent g p v] := by
      have := Tr.path_step wx p (ent_covers wx hp ho)
      rw [this.1, Tr.kidAt_ent]; rfl
    rw [e1] at m2
    rw [m2, hpa.1, (Tr.path_none p).1]
    refine ⟨hgen [] _ (fun a ha => by simp at ha) (by simp), .inl ⟨?_, ?_⟩⟩
    · simp [m1]
    · simp [m1] <;> omega
  · have wy : Tr.Wf k (.ent g' p v') := Tr.chain_y hch hw _ rfl
    have e1 : Tr.pathT (some (T.ent g p v)) p = [.ent g p v] := by
      have := Tr.path_step wx p (ent_covers wx hp ho)
      rw [this.1, Tr.kidAt_ent]; rfl
    have e2 : Tr.pathT (some (T.ent g' p v')) p = [.ent g' p v'] := by
      have := Tr.path_step wy p (ent_covers wy hp ho)
      rw [this.1, Tr.kidAt_ent]; rfl
    rw [e1] at m2
    rw [m2, hpa.1, e2]
    refine ⟨hgen _ _ (fun a ha => by simp at ha; subst ha; exact fun h => h) (by simp), .inl ⟨?_, ?_⟩⟩
    · simp [m1]
    · simp [m1] <;> omega
  · have wb : Tr.Wf k b := Tr.chain_y hch hw b rfl
    have hne : Z.addr b.pre l ≠ Z.addr p l := by
      rcases Z.part_spec (by rw [wb.len, hp]) wb.ok ho with ⟨e1, _⟩ | ⟨m, _, e1, h1, _⟩
      · omega
      · have : m = l := by omega
        subst this
        exact h1
    have h63 : l ≤ 63 := by cases wx with | br _ _ _ _ h63 => exact h63
    have hcx : Tr.covers (T.br g l (Z.cut b.pre (l + 1)) (Sl.put (Z.addr p l) (.ent g' p v) (Sl.put (Z.addr b.pre l) b []))) p = true := by
      rw [Tr.covers_iff wx hp ho]
      show Z.cut p (l + 1) = Z.cut b.pre (l + 1)
      exact ((Z.cut_eq_iff (by rw [wb.len, hp]) wb.ok ho (l + 1)).2 (by omega)).symm
    have hkx : Tr.kidAt (T.br g l (Z.cut b.pre (l + 1)) (Sl.put (Z.addr p l) (.ent g' p v) (Sl.put (Z.addr b.pre l) b []))) p = some (.ent g' p v) := by
      show Sl.get (Sl.put (Z.addr p l) (.ent g' p v) (Sl.put (Z.addr b.pre l) b [])) (Z.addr p l : Int) = _
      rw [Sl.get_put (Sl.srt_put _ _ Sl.srt_nil), if_pos rfl]
    have we := (Tr.kidAt_wf wx hkx).1
    have e1 : Tr.pathT (some (T.ent g' p v)) p = [.ent g' p v] := by
      have := Tr.path_step we p (ent_covers we hp ho)
      rw [this.1, Tr.kidAt_ent]; rfl
    have hst := Tr.path_step wx p hcx
    rw [hkx, e1] at hst
    rw [hst.1] at m2
    rw [m2, hpa.1, (Tr.path_stop b p hc).1]
    refine ⟨hgen [] _ (fun a ha => by simp at ha) (by simp),   .inr (.inl ⟨rfl, by simp [m1], b, T.br g l (Z.cut b.pre (l + 1)) (Sl.put (Z.addr p l) (.ent g' p v) (Sl.put (Z.addr b.pre l) b [])), l, by rw [hpa.2]; exact (Tr.path_stop b p hc).2, ?_, ?_, h63, ?_, fun u hu => chain_br hch u (by simpa using hu)⟩)⟩
    · rw [List.append_nil, List.getElem?_append_right (by omega), m1, Nat.sub_self]; rfl
    · show ((l + 1 : Nat) : Int) - 1 = l; omega
    · show Sl.get (Sl.put (Z.addr p l) (.ent g' p v) (Sl.put (Z.addr b.pre l) b [])) _ = _
      rw [Sl.get_put (Sl.srt_put _ _ Sl.srt_nil), if_neg (by omega), Sl.get_put Sl.srt_nil, if_pos rfl]
theorem twin_del {k : Nat} {o o' : Option T} {p : List Nat} (hp : p.length = k) (ho : Z.Ok p) (hw : ∀ s, o = some s → Tr.Wf k s) (hw' : ∀ s, o' = some s → Tr.Wf k s) (h : DelWay k o p o') : Twin o o' p true (Tr.pathT o p) (Tr.pathT o' p) := by
  obtain ⟨L, q, v, hch, ⟨rfl, rfl⟩ | ⟨L', u, x, t, rfl, hdx, wx, hb, rfl⟩⟩ := h
  · have hy : some (T.ent q p v) = o := hch
    subst hy
    have e1 : Tr.pathT (some (T.ent q p v)) p = [.ent q p v] := by
      have := Tr.path_step (hw _ rfl) p (ent_covers (hw _ rfl) hp ho)
      rw [this.1, Tr.kidAt_ent]; rfl
    rw [e1, (Tr.path_none p).1]
    exact ⟨fun i a b _ hb => by simp at hb, .inl ⟨by simp, by simp⟩⟩
  · have wt := hw' t rfl
    obtain ⟨c1, c2, c3, c4⟩ := Tr.chain_last hch
    have wu := chain_wf hch hw u (by simp)
    have hdt := Tr.delX_turned wu hp ho c3 c4 hdx
    have hund := Tr.delX_under hw c1 hdt.2.1
    obtain ⟨M, m1, m2, m3, -, m5⟩ := built_path c1 hw hb wt hund
    have hpa := chain_path c1 hw
    have hpu := Tr.path_step wu p c3
    have wy : Tr.Wf k (.ent q p v) := (Tr.kidAt_wf wu c4).1
    have e1 : Tr.pathT (some (T.ent q p v)) p = [.ent q p v] := by
      have := Tr.path_step wy p (ent_covers wy hp ho)
      rw [this.1, Tr.kidAt_ent]; rfl
    rw [c4, e1] at hpu
    rw [hpu.1] at hpa
    have hLs : ∀ (i : Nat) (a b : T), L'[i]? = some a → M[i]? = some b → Tr.isBr a ∧ Tr.isBr b ∧ b.lv = a.lv ∧ ShareT a b (Z.addr p (a.lv - 1)) := by
      intro i a b ha hb'
      obtain ⟨g, n, h1, h2⟩ := m5 i a ha
      rw [h1] at hb'
      cases hb'
      have hbr := chain_br c1 a (List.mem_of_getElem? ha)
      have := share_step (chain_wf c1 hw a (List.mem_of_getElem? ha)) hbr g n h2
      exact ⟨hbr, trivial, this.1, this.2⟩
    obtain ⟨gu, l, pre, ks, rfl, ⟨h2, g', rfl⟩ | ⟨c, hd⟩⟩ := hdx
    · have hsk : Sl.Srt ks := by cases wu with | br _ _ _ _ _ hw => exact hw.srt
      have hcx : Tr.covers (T.br g' l pre (Sl.del (Z.addr p l) ks)) p = true := c3
      have hkx : Tr.kidAt (T.br g' l pre (Sl.del (Z.addr p l) ks)) p = none := by
        show Sl.get (Sl.del (Z.addr p l) ks) (Z.addr p l : Int) = none
        rw [Sl.get_del hsk, if_pos rfl]
      have hst := Tr.path_step wx p hcx
      rw [hkx, (Tr.path_none p).1] at hst
      rw [hst.1] at m2
      rw [m2, hpa.1]
      refine ⟨fun i a b ha hb' => ?_, .inl ⟨?_, ?_⟩⟩
      · rcases Nat.lt_or_ge i L'.length with hi | hi
        · rw [List.getElem?_append_left hi] at ha
          rw [List.getElem?_append_left (by omega)] at hb'
          exact .inr (hLs i a b ha hb')
        · rw [List.getElem?_append_right (by omega)] at ha hb'
          have h3 : i - M.length < 1 := lt_get hb'
          rw [show i - M.length = 0 by omega] at hb'
          rw [show i - L'.length = 0 by omega] at ha
          simp only [List.getElem?_cons_zero, Option.some.injEq] at ha hb'
          subst ha hb'
          refine .inr ⟨trivial, trivial, rfl, hsk, Sl.srt_del _ hsk, fun a ha => ?_⟩
          show _ = Sl.get (Sl.del (Z.addr p l) ks) a
          rw [Sl.get_del hsk]
          have ha' : a ≠ (Z.addr p l : Int) := ha
          rw [if_neg ha']
          rfl
      · simp [m1]
      · simp [m1]
    · have hsk : Sl.Srt ks := by cases wu with | br _ _ _ _ _ hw => exact hw.srt
      have hm : (c, x) ∈ ks := Sl.mem_del (by rw [hd]; exact List.mem_singleton.2 rfl)
      have hca : c ≠ Z.addr p l := by
        intro e
        have h1 := Sl.get_del hsk (Z.addr p l) (Z.addr p l : Int)
        rw [if_pos rfl, hd] at h1
        simp [Sl.get, e] at h1
      have hcx : Tr.covers x p = false := by
        cases wu with
        | br _ _ _ _ h63 hw2 h2 hl ho' hkk hcc =>
          obtain ⟨d1, d2, d3⟩ := hcc _ hm
          cases hcv : Tr.covers x p with
          | false => rfl
          | true =>
            exfalso
            have h1 := (Tr.covers_iff wx hp ho).1 hcv
            have d3' : Z.addr x.pre l = c := d3
            apply hca
            rw [← d3']
            have d1' : x.lv ≤ l := d1
            have h2' := Z.cut_addr p x.lv l
            rw [if_pos d1', h1] at h2'
            exact h2'
      rw [(Tr.path_stop x p hcx).1, List.append_nil] at m2
      rw [(Tr.path_stop x p hcx).2] at m3
      rw [m2, hpa.1]
      refine ⟨fun i a b ha hb' => ?_,   .inr (.inr ⟨rfl, by simp [m1], T.br gu l pre ks, x, l, c, ?_, ?_, ?_, m3, hsk, hd, ?_, fun u hu => ?_⟩)⟩
      · have hi : i < M.length := lt_get hb'
        rw [List.getElem?_append_left (by omega)] at ha
        exact .inr (hLs i a b ha hb')
      · rw [m1, List.getElem?_append_right (Nat.le_refl _), Nat.sub_self]; rfl
      · show ((l + 1 : Nat) : Int) - 1 = l; omega
      · cases wu with | br _ _ _ _ h63 => exact h63
      · have : Sl.get ks (Z.addr p l : Int) = some (.ent q p v) := c4
        show (Sl.get ks (Z.addr p l : Int)).isSome = true
        rw [this]; rfl
      · obtain ⟨i, hi⟩ := List.mem_iff_getElem?.1 hu
        obtain ⟨a, ha⟩ := get_lt (show i < L'.length by have := lt_get hi; omega)
        exact (hLs i a u ha hi).2.1
end Go.Proofs.YtccefboifhfkdaaDoor

/-
  CONTRACTS of package pantilelaw07: shared, hung.
-/
namespace Go.Proofs.YtccefboifhfkdaaDoor
open Go.ChangeShapes Go.WideShapes Go.ChangeAt Go.RowKit
open Tr (T S4 Ent)

theorem keys_get {ks : List (Nat × T)} {j u : Nat} (h : (Sl.keys (kidL ks))[j]? = some u) : ∃ s, ks[j]? = some (u, s) := by
  simp only [Sl.keys, kidL, List.getElem?_map, Option.map_map, Option.map_eq_some_iff] at h
  obtain ⟨x, hx, rfl⟩ := h
  exact ⟨x.2, hx⟩
theorem keys_len (ks : List (Nat × T)) : (Sl.keys (kidL ks)).length = ks.length := by simp [Sl.keys, kidL]
theorem node_len16 {w : World} {B k : Nat} {t : T} (h : Node w B k t) : t.ks.length ≤ 65536 := by
  cases h.1 with
  | ent => simp [T.ks]
  | br _ _ _ _ _ hw => exact hw.len16
/-- Kid, as many draws behind as may be -/
theorem kid_any {w : World} {B k : Nat} {t : T} (h : Node w B k t) (hB : B ≤ w.heap.size) (a : Int) (o : Option T) (ho : Sl.get t.ks a = o) :
    ∀ i, Calls Tryd.prog 15 #[.pointer (some ⟨t.blk, 0, none⟩), .int .i64 a] (w.drewN i) fun e w'' => e = .returned (.pointer (rootP o)) ∧ ∃ j, w'' = (w.drewN i).drewN j := fun i =>
  nKid_c (h.below (below_drewN i (Below.refl w.heap.size w)) hB (Nat.le_refl _)).2 a _ (by rw [rootP_kid, ho])
theorem two_kids {a c : Nat} {x : T} : ∀ {ks : List (Nat × T)}, Sl.Srt ks → Sl.del a ks = [(c, x)] → (Sl.get ks (a : Int)).isSome = true → (∃ e, ks = [(a, e), (c, x)] ∧ a < c) ∨ (∃ e, ks = [(c, x), (a, e)] ∧ c < a)
  | [], _, h, _ => by simp [Sl.del] at h
  | q :: L, hs, h, hg => by
    simp only [Sl.del] at h
    by_cases hq : q.1 = a
    · rw [if_pos hq] at h
      subst h
      left
      refine ⟨q.2, by rw [← hq], ?_⟩
      have := hs.head (c, x) (by simp)
      rw [← hq]; exact this
    · rw [if_neg hq] at h
      simp only [List.cons.injEq] at h
      obtain ⟨rfl, h⟩ := h
      have hq' : ¬ ((c : Int) = (a : Int)) := by intro e; exact hq (by show c = a; omega)
      simp only [Sl.get, hq', if_false] at hg
      cases L with
      | nil => simp [Sl.get] at hg
      | cons r L =>
        simp only [Sl.del] at h
        by_cases hr : r.1 = a
        · rw [if_pos hr] at h
          subst h
          right
          refine ⟨r.2, by rw [← hr], ?_⟩
          have := hs.head r (by simp)
          rw [← hr]; exact this
        · rw [if_neg hr] at h
          cases h
end Go.Proofs.YtccefboifhfkdaaDoor

/-
  CONTRACTS of packages pantileref06 and pantilelaw06: Heavy, Leaves.
-/
namespace Go.Proofs.YtccefboifhfkdaaDoor
open Go.ChangeShapes Go.WideShapes Go.ChangeAt Go.RowKit
open Tr (T S4 Ent)

set_option maxRecDepth 100000 in
theorem rheavy_c {w : World} {B : Nat} {A : Option Addr} {c : Nat} {L : List Ent} (h : Ents w B A L) (hl : L.length ≤ maxLen) (m : Nat) (r : Bool) (hr : decide (m < L.length ∨ ∃ e ∈ L, 40 < e.1.length) = r) :
    Calls Tryd.prog 7 #[.slice A L.length c, .int .i64 (m : Int)] w fun e w' => e = .returned (.bool r) ∧ w = w' := by
  have HX := Lib.hid (And.intro h hr)
  have hm : L.length ≤ 9223372036854775807 := by unfold maxLen at hl; omega
  clear h hr hl
  by_cases hbig : m < L.length
  · have d1 : decide ((m : Int) < (L.length : Int)) = true := decide_eq_true (by omega)
    have hrt : Hid (r = true) := Lib.hid (by rw [← HX.out.2]; exact decide_eq_true (.inl hbig))
    have d1' : decide (m < L.length) = true := decide_eq_true hbig
    go_enter Tryd.func7, Tryd.ntmps7
    go_wp2
    go_ret
    exact ⟨by rw [hrt.out]; rfl, rfl⟩
  · have d1 : decide ((m : Int) < (L.length : Int)) = false := decide_eq_false (by omega)
    have d1' : decide (m < L.length) = false := decide_eq_false hbig
    have HB := Lib.hid hbig
    go_enter Tryd.func7, Tryd.ntmps7
    go_wp2
    go_loopw [5] (fun i wr => ∃ j : Nat, j ≤ L.length ∧ i = .int .i64 j ∧ wr = w ∧ ∀ q e, q < j → L[q]? = some e → ¬ 40 < e.1.length) (fun i _ => L.length - (intOf i).toNat)
    case atStart => exact ⟨0, Nat.zero_le _, (by first | rfl | trivial), (by first | rfl | trivial), fun m e hm => by omega⟩
    case round =>
      obtain ⟨j, hj, rfl, rfl, hbe⟩ := hrel
      by_cases hlt : j < L.length
      · obtain ⟨e, he⟩ := get_lt hlt
        obtain ⟨b, off, A1, c1, hA, -, x0, -, -, -, -⟩ := HX.out.1.at he
        subst hA
        have m1 : (0 : Int) ≤ (j : Int) := by omega
        have m2 : (j : Int) < (L.length : Int) := by omega
        have HY := Lib.hid (And.intro he hbe)
        by_cases hc : 40 < e.1.length
        · have d2 : decide ((40 : Int) < (e.1.length : Int)) = true := decide_eq_true (by omega)
          have hrt : Hid (r = true) := Lib.hid (by rw [← HX.out.2]; exact decide_eq_true (.inr ⟨e, List.mem_of_getElem? he, hc⟩))
          clear he hbe hc
          go_wp2_with fail
          go_ret
          exact ⟨by rw [hrt.out]; rfl, rfl⟩
        · have d2 : decide ((40 : Int) < (e.1.length : Int)) = false := decide_eq_false (by omega)
          have hc := Lib.hid hc
          clear he hbe
          go_wp2_with fail
          go_roundw
          case rel =>
            refine ⟨j + 1, by omega, by go_num, (by first | rfl | trivial), fun q e' hq he' => ?_⟩
            by_cases c : q < j
            · exact HY.out.2 q e' c he'
            · have : q = j := by omega
              subst this
              rw [HY.out.1] at he'
              cases he'
              exact hc.out
          case measure => simp [intOf]; omega
      · have hrf : Hid (r = false) := Lib.hid (by
          rw [← HX.out.2]
          refine decide_eq_false ?_
          rintro (h | ⟨e, he, h40⟩)
          · exact HB.out h
          · obtain ⟨q, hq⟩ := List.mem_iff_getElem?.1 he
            exact hbe q e (by have := lt_get hq; omega) hq h40)
        clear hbe
        go_wp2_with fail
        go_ret
        exact ⟨by rw [hrf.out]; rfl, rfl⟩
/-- nodes as the cells of a row -/
def ptrsV (us : List T) : List Value := us.map ndV
theorem ptrsV_length (us : List T) : (ptrsV us).length = us.length := by simp [ptrsV]
theorem infoP : (Tryd.prog.info? 33).map (fun i => (i.zero, i.size, i.bytes)) = some (some (.pointer none), 1, 8) := by kernel_rfl
/-- leaves of entries -/
def LeafOf (w : World) (B : Nat) (e : Ent) (t : T) : Prop := ∃ g, t = .ent g e.1 e.2 ∧ Node w B e.1.length t
def AllLeaves (w : World) (B : Nat) (L : List Ent) (ls : List T) : Prop := ls.length = L.length ∧ ∀ (i : Nat) (e : Ent) (t : T), L[i]? = some e → ls[i]? = some t → LeafOf w B e t
theorem AllLeaves.below {w w' : World} {B B' C : Nat} {L : List Ent} {ls : List T} (h : AllLeaves w B L ls) (hb : Below C w w') (hC : B ≤ C) (hB : B ≤ B') : AllLeaves w' B' L ls :=
  ⟨h.1, fun i e t he ht => by obtain ⟨g, hg, hn⟩ := h.2 i e t he ht; exact ⟨g, hg, hn.below hb hC hB⟩⟩
theorem AllLeaves.snoc {w : World} {B : Nat} {L : List Ent} {ls : List T} (h : AllLeaves w B L ls) {e : Ent} {t : T} (ht : LeafOf w B e t) : AllLeaves w B (L ++ [e]) (ls ++ [t]) := by
  refine ⟨by simp [h.1], fun i e' t' he' ht' => ?_⟩
  rcases Nat.lt_or_ge i L.length with hi | hi
  · rw [List.getElem?_append_left hi] at he'
    rw [List.getElem?_append_left (by rw [h.1]; exact hi)] at ht'
    exact h.2 i e' t' he' ht'
  · rw [List.getElem?_append_right hi] at he'
    rw [List.getElem?_append_right (by rw [h.1]; exact hi), h.1] at ht'
    match hq : i - L.length with
    | 0 =>
      rw [hq] at he' ht'
      simp at he' ht'
      subst he' ht'
      exact ht
    | q + 1 => rw [hq] at he'; simp at he'
/-- a leaf, by the blocks in which it lies: none of them is q -/
def LeafAt (w : World) (base : Nat) (q : Option Nat) (e : Ent) (t : T) : Prop := ∃ g h d, t = .ent g e.1 e.2 ∧
  w.heap[g]? = some (.cells #[.int .i64 (-1), .slice (some ⟨h, 0, none⟩) e.1.length d, .int .u64 (e.2 : Int), .pointer none, .int .u64 1, .int .u64 (e.2 : Int), .int .u64 (e.2 : Int), .int .u64 (e.2 : Int)] 74 (0, 0)) ∧
  Own w base (.slice (some ⟨h, 0, none⟩) e.1.length d) e.1 ∧ q ≠ some g ∧ q ≠ some h ∧ 1 ≤ e.1.length ∧ e.1.length ≤ 16 ∧ e.2 < 18446744073709551616
theorem LeafAt.keep {w w' : World} {base : Nat} {q q' row : Option Nat} {e : Ent} {t : T} (h : LeafAt w base q e t) (hs : w.grownBy w' row) (hq : row = none ∨ row = q) (hq' : ∀ b, q' = some b → q = some b ∨ w.heap.size ≤ b) : LeafAt w' base q' e t := by
  obtain ⟨g, x, d, rfl, hg, ho, n1, n2, r⟩ := h
  have hgl := (Array.getElem?_eq_some_iff.1 hg).1
  have hxl := (ho.2.lt x rfl).2
  have keep : ∀ b, b < w.heap.size → q ≠ some b → w'.heap[b]? = w.heap[b]? := fun b hb hn => hs.block b hb (fun c => by
    rcases hq with e | e
    · rw [e] at c; cases c
    · rw [e] at c; exact hn c.symm)
  have far : ∀ b, b < w.heap.size → q ≠ some b → q' ≠ some b := fun b hb hn c => by rcases hq' b c with h | h; exact hn h; omega
  refine ⟨g, x, d, rfl, (keep g hgl n1).trans hg, ⟨ho.1, ho.2.1, ?_⟩, far g hgl n1, far x hxl n2, r⟩
  rcases ho.2.2 with h2 | ⟨g', cap, cur, hv, hg', hh, rr⟩
  · exact .inl h2
  · have : g' = x := by simp only [Value.slice.injEq, Option.some.injEq, Addr.mk.injEq] at hv; exact hv.1.1.symm
    subst this
    exact .inr ⟨g', cap, cur, hv, hg', (keep g' hxl n2).trans hh, rr⟩
theorem LeafAt.leaf {w : World} {base : Nat} {q : Option Nat} {e : Ent} {t : T} (h : LeafAt w base q e t) : LeafOf w w.heap.size e t := by
  obtain ⟨g, x, d, rfl, hg, ho, _, _, h1, h16, hv⟩ := h
  obtain ⟨A', c', hv', hp⟩ := ho.pts
  cases hv'
  exact ⟨g, rfl, .ent g e.1 e.2 h1 h16 rfl ho.1 hv, .ent g e.1 e.2 (nd_at hp hg (Nat.le_refl _) (Array.getElem?_eq_some_iff.1 hg).1)⟩
def AL (w : World) (base : Nat) (q : Option Nat) (L : List Ent) (ls : List T) : Prop := ls.length = L.length ∧ ∀ (i : Nat) (e : Ent) (t : T), L[i]? = some e → ls[i]? = some t → LeafAt w base q e t
theorem AL.keep {w w' : World} {base : Nat} {q q' row : Option Nat} {L : List Ent} {ls : List T} (h : AL w base q L ls) (hs : w.grownBy w' row) (hq : row = none ∨ row = q) (hq' : ∀ b, q' = some b → q = some b ∨ w.heap.size ≤ b) : AL w' base q' L ls :=
  ⟨h.1, fun i e t he ht => (h.2 i e t he ht).keep hs hq hq'⟩
theorem AL.all {w : World} {base : Nat} {q : Option Nat} {L : List Ent} {ls : List T} (h : AL w base q L ls) : AllLeaves w w.heap.size L ls := ⟨h.1, fun i e t he ht => (h.2 i e t he ht).leaf⟩
theorem AL.snoc {w : World} {base : Nat} {q : Option Nat} {L : List Ent} {ls : List T} (h : AL w base q L ls) {e : Ent} {t : T} (ht : LeafAt w base q e t) : AL w base q (L ++ [e]) (ls ++ [t]) := by
  refine ⟨by simp [h.1], fun i e' t' he' ht' => ?_⟩
  rcases Nat.lt_or_ge i L.length with hi | hi
  · rw [List.getElem?_append_left hi] at he'
    rw [List.getElem?_append_left (by rw [h.1]; exact hi)] at ht'
    exact h.2 i e' t' he' ht'
  · rw [List.getElem?_append_right hi] at he'
    rw [List.getElem?_append_right (by rw [h.1]; exact hi), h.1] at ht'
    match hq : i - L.length with
    | 0 =>
      rw [hq] at he' ht'
      simp at he' ht'
      subst he' ht'
      exact ht
    | q + 1 => rw [hq] at he'; simp at he'
theorem grown_below {w w' : World} (h : Below w.heap.size w w') : w.grownBy w' none := ⟨h.os, h.tape, h.output, h.size, fun k hk _ => h.block k hk⟩
/-- one leaf more: the row may have moved -/
theorem al_step {wr w2 w3 : World} {base j d d3 g x dx : Nat} {D D3 : Option Addr} {L : List Ent} {ls : List T} {e : Ent} {o : Obj} (h : AL wr base (Value.slice D j d).ownBlock L ls) (hb : Below wr.heap.size wr w2) (hlt : ∀ q, (Value.slice D j d).ownBlock = some q → q < wr.heap.size)
    (hg : w2.heap[g]? = some (.cells #[.int .i64 (-1), .slice (some ⟨x, 0, none⟩) e.1.length dx, .int .u64 (e.2 : Int), .pointer none, .int .u64 1, .int .u64 (e.2 : Int), .int .u64 (e.2 : Int), .int .u64 (e.2 : Int)] 74 (0, 0)))
    (ho : Own w2 wr.heap.size (.slice (some ⟨x, 0, none⟩) e.1.length dx) e.1) (hgl : wr.heap.size ≤ g) (h1 : 1 ≤ e.1.length) (h16 : e.1.length ≤ 16) (hv : e.2 < 18446744073709551616) (hbase : base ≤ wr.heap.size)
    (hgr : (w2.alloc o).grownBy w3 (Value.slice D j d).ownBlock) (hat : (Value.slice D3 (j + 1) d3).ownBlock = (Value.slice D j d).ownBlock ∨ (Value.slice D3 (j + 1) d3).ownBlock = some (w2.alloc o).heap.size) :
    AL w3 base (Value.slice D3 (j + 1) d3).ownBlock (L ++ [e]) (ls ++ [.ent g e.1 e.2]) := by
  have hxl := ho.2.lt x rfl
  have a2 : AL w2 base (Value.slice D j d).ownBlock L ls := h.keep (grown_below hb) (.inl rfl) (fun b hb => .inl hb)
  have l2 : LeafAt w2 base (Value.slice D j d).ownBlock e (.ent g e.1 e.2) := ⟨g, x, dx, rfl, hg, ho.mono hbase, fun c => by have := hlt g c; omega, fun c => by have := hlt x c; omega, h1, h16, hv⟩
  refine ((a2.snoc l2).keep (grown_below (below_alloc w2 o)) (.inl rfl) (fun b hb => .inl hb)).keep hgr (.inr rfl) (fun b hb => ?_)
  rcases hat with c | c
  · exact .inl (by rw [← c]; exact hb)
  · rw [c] at hb; simp only [Option.some.injEq] at hb; exact .inr (by omega)
set_option maxRecDepth 100000 in
set_option maxHeartbeats 1000000 in
theorem leaves_c {w : World} {B : Nat} {A : Option Addr} {c : Nat} {L : List Ent} (h : Ents w B A L) (hB : B ≤ w.heap.size) (hl : L.length ≤ 1000) :
    Calls Tryd.prog 8 #[.slice A L.length c] w fun e w' =>
      (((∃ e ∈ L, ¬ (1 ≤ e.1.length ∧ e.1.length ≤ 16)) ∧ e = .returned (.tuple #[.slice none 0 0, .bool false])) ∨
       ((∀ e ∈ L, 1 ≤ e.1.length ∧ e.1.length ≤ 16) ∧ ∃ D d ls, e = .returned (.tuple #[.slice D L.length d, .bool true]) ∧ OwnV 33 w' w.heap.size (.slice D L.length d) (ptrsV ls) ∧ AllLeaves w' w'.heap.size L ls)) ∧ Below w.heap.size w w' := by
  have HX := Lib.hid (And.intro h (And.intro hB hl))
  have HO := Lib.hid (ownV_nil 33 w)
  clear h
  go_enter Tryd.func8, Tryd.ntmps8
  go_wp2
  go_loopw [4, 5] (fun v i wr => ∃ (j : Nat) (D : Option Addr) (d : Nat) (ls : List T), j ≤ L.length ∧ v = .slice D j d ∧ i = .int .i64 j ∧ Below w.heap.size w wr ∧ OwnV 33 wr w.heap.size (.slice D j d) (ptrsV ls) ∧ ls.length = j ∧ w.heap.size + 1 ≤ wr.heap.size ∧ (∀ (q : Nat) (e : Ent), q < j → L[q]? = some e → (1 ≤ e.1.length ∧ e.1.length ≤ 16)) ∧ AL wr w.heap.size (Value.slice D j d).ownBlock (L.take j) ls) (fun _ i _ => L.length - (intOf i).toNat)
  case atStart => exact ⟨0, some ⟨w.heap.size, 0, none⟩, 0, [], Nat.zero_le _, rfl, rfl, below_alloc _ _, HO.out, rfl, by simp, fun q e hq => by omega, rfl, fun i e t h => by simp at h⟩
  case round =>
    obtain ⟨j, D, d, ls, hj, rfl, rfl, hbw, hown, hls, hsz, hbe, hal⟩ := hrel
    by_cases hlt : j < L.length
    · obtain ⟨e, he⟩ := get_lt hlt
      obtain ⟨b, off, A1, c1, hA, hb, x0, x1, p1, hml, hv⟩ := HX.out.1.at he
      subst hA
      have hbB : b < w.heap.size := Nat.lt_of_lt_of_le hb hB
      have y0 : ∀ w', Below wr.heap.size wr w' → w'.cell? ⟨b, off + j * 2, none⟩ = some (.slice A1 e.1.length c1) := fun w' hb' => ((hbw.trans (hb'.mono hbw.size)).cell (p := ⟨b, off + j * 2, none⟩) hbB).trans x0
      have y1 : ∀ w', Below wr.heap.size wr w' → w'.cell? ⟨b, off + j * 2 + 1, none⟩ = some (.int .u64 (e.2 : Int)) := fun w' hb' => ((hbw.trans (hb'.mono hbw.size)).cell (p := ⟨b, off + j * 2 + 1, none⟩) hbB).trans x1
      have m1 : (0 : Int) ≤ (j : Int) := by omega
      have m2 : (j : Int) < (L.length : Int) := by omega
      have hb0 : Below wr.heap.size wr wr := Below.refl _ _
      have HY := Lib.hid (And.intro he (And.intro hbe (And.intro hown (And.intro hls (And.intro hbw (And.intro hsz hal))))))
      by_cases hr : 1 ≤ e.1.length ∧ e.1.length ≤ 16
      · have HL : Hid (∀ w1, Below wr.heap.size wr w1 → Calls Tryd.prog 33 #[.slice A1 e.1.length c1, .int .u64 (e.2 : Int)] w1 fun e' w' => ∃ g h d, e' = .returned (.tuple #[.pointer (some ⟨g, 0, none⟩), .int .i64 0]) ∧ w'.heap[g]? = some (.cells #[.int .i64 (-1), .slice (some ⟨h, 0, none⟩) e.1.length d, .int .u64 (e.2 : Int), .pointer none, .int .u64 1, .int .u64 (e.2 : Int), .int .u64 (e.2 : Int), .int .u64 (e.2 : Int)] 74 (0, 0)) ∧ w1.heap.size ≤ g ∧ g ≠ h ∧ Own w' w1.heap.size (.slice (some ⟨h, 0, none⟩) e.1.length d) e.1 ∧ Below w1.heap.size w1 w') := Lib.hid fun w1 hb1 =>
          nLeaf_raw e.1 A1 c1 B e.2 w1 (Nat.le_trans hB (Nat.le_trans hbw.size hb1.size)) (p1.below' (hbw.trans (hb1.mono hbw.size)) hB) hr.1 hr.2
        have HR := Lib.hid (And.intro hr hv)
        clear he hbe hr x0 x1 p1 hml hv hown hls hbw hal
        go_wp2_with fail
        go_region_held3 (fun w' => Below wr.heap.size wr w') (((repeat (first | refine Below.drew ?_ | (with_reducible refine below_drewN _ ?_) | refine Below.alloc ?_ (by first | omega | (simp; done) | (simp; omega)) _ | refine Below.setCell ?_ (by first | omega | (simp; done) | (simp; omega)) _)); first | exact Below.refl _ _ | assumption | exact below_drewN _ (Below.refl _ _) | exact below_drewN _ (below_drewN _ (Below.refl _ _))))
          ((go_at_call 33; refine (HL.out _ (show Below wr.heap.size wr _ by ((repeat (first | refine Below.drew ?_ | (with_reducible refine below_drewN _ ?_) | refine Below.alloc ?_ (by first | omega | (simp; done) | (simp; omega)) _ | refine Below.setCell ?_ (by first | omega | (simp; done) | (simp; omega)) _)); first | exact Below.refl _ _ | assumption | exact below_drewN _ (Below.refl _ _) | exact below_drewN _ (below_drewN _ (Below.refl _ _))))).mono ?_; rintro e' w2 ⟨g, x, dx, rfl, hn, hg, hgx, hox, hb2⟩; have hbD := Below.trans (show Below wr.heap.size wr _ by ((repeat (first | refine Below.drew ?_ | (with_reducible refine below_drewN _ ?_) | refine Below.alloc ?_ (by first | omega | (simp; done) | (simp; omega)) _ | refine Below.setCell ?_ (by first | omega | (simp; done) | (simp; omega)) _)); first | exact Below.refl _ _ | assumption | exact below_drewN _ (Below.refl _ _) | exact below_drewN _ (below_drewN _ (Below.refl _ _)))) (hb2.mono (Below.size (show Below wr.heap.size wr _ by ((repeat (first | refine Below.drew ?_ | (with_reducible refine below_drewN _ ?_) | refine Below.alloc ?_ (by first | omega | (simp; done) | (simp; omega)) _ | refine Below.setCell ?_ (by first | omega | (simp; done) | (simp; omega)) _)); first | exact Below.refl _ _ | assumption | exact below_drewN _ (Below.refl _ _) | exact below_drewN _ (below_drewN _ (Below.refl _ _)))))); have HNN := Lib.hid (And.intro (Own.mono (base' := wr.heap.size) hox (Below.size (show Below wr.heap.size wr _ by ((repeat (first | refine Below.drew ?_ | (with_reducible refine below_drewN _ ?_) | refine Below.alloc ?_ (by first | omega | (simp; done) | (simp; omega)) _ | refine Below.setCell ?_ (by first | omega | (simp; done) | (simp; omega)) _)); first | exact Below.refl _ _ | assumption | exact below_drewN _ (Below.refl _ _) | exact below_drewN _ (below_drewN _ (Below.refl _ _)))))) (And.intro hbD (And.intro hn (Nat.le_trans (Below.size (show Below wr.heap.size wr _ by ((repeat (first | refine Below.drew ?_ | (with_reducible refine below_drewN _ ?_) | refine Below.alloc ?_ (by first | omega | (simp; done) | (simp; omega)) _ | refine Below.setCell ?_ (by first | omega | (simp; done) | (simp; omega)) _)); first | exact Below.refl _ _ | assumption | exact below_drewN _ (Below.refl _ _) | exact below_drewN _ (below_drewN _ (Below.refl _ _))))) hg)))); clear hn hb2 hg hgx hox))
        clear y0 y1
        obtain ⟨he, hbe, hown, hls, hbw, hsz', hal⟩ := HY.out
        have hown2 := hown.below HNN.out.2.1 (Nat.le_refl _)
        have HO2 := Lib.hid hown2
        have hLL := HX.out.2.2
        have hw2 := HNN.out.2.1.size
        clear he hbe hown hal hown2
        go_wp2_with (at_builtin; refine wpList_append_sl 25 33 (Value.pointer none) 8 Tryd.underlying25 infoP rfl (by omega) rfl (.tmp 31) (.tmp 33) rfl w.heap.size (.slice D j d) (ptrsV ls) [.pointer (some ⟨g, 0, none⟩)] (j + 1) (by simp [ptrsV_length, hls]) rfl (HO2.out.below (below_alloc _ _) (Nat.le_refl _)) _ _ 1 1 rfl rfl (rdV_one _ _ _) (fun y hy => by simp at hy; subst hy; rfl) (by omega) (by simp; omega) ?_; intro D3 d3 w3 hown3 hgrow3 hat3; have hb3 := Below.grown ((hbw.trans (HNN.out.2.1.mono hbw.size)).trans ((below_alloc w2 (.cells #[.pointer (some ⟨g, 0, none⟩)] 33)).mono (Nat.le_trans hbw.size hw2))) hgrow3 (by simp; omega) (fun q hq => (HO2.out.lt q hq).1); have HK := Lib.hid (And.intro hown3 (And.intro hgrow3 (And.intro hat3 hb3))); clear hown3 hgrow3 hat3 hb3)
        obtain ⟨he, hbe, hown, -, -, -, hal⟩ := HY.out
        have hst := al_step hal HNN.out.2.1 (fun q hq => (hown.lt q hq).2) HNN.out.2.2.1 HNN.out.1 HNN.out.2.2.2 HR.out.1.1 HR.out.1.2 HR.out.2 hbw.size HK.out.2.1 HK.out.2.2.1
        have HS := Lib.hid (And.intro hst (show ptrsV (ls ++ [.ent g e.1 e.2]) = ptrsV ls ++ [.pointer (some ⟨g, 0, none⟩)] by simp [ptrsV, ndV, T.blk]))
        have Hls := Lib.hid hls
        have hw3 := HK.out.2.1.size
        rw [World.size_alloc] at hw3
        clear hst hal hown he hls
        go_roundw
        case rel =>
          refine ⟨j + 1, D3, d3, ls ++ [.ent g e.1 e.2], by omega, rfl, by go_num, HK.out.2.2.2, by rw [HS.out.2]; exact HK.out.1, by simp [Hls.out], by omega, fun q e' hq he' => ?_, ?_⟩
          · by_cases c : q < j
            · exact hbe q e' c he'
            · have : q = j := by omega
              subst this
              rw [HY.out.1] at he'
              cases he'
              exact HR.out.1
          · rw [List.take_add_one, HY.out.1]
            exact HS.out.1
        case measure => simp [intOf]; omega
      · have HL : Hid (∀ w1, Below wr.heap.size wr w1 → Calls Tryd.prog 33 #[.slice A1 e.1.length c1, .int .u64 (e.2 : Int)] w1 fun e' w' => e' = .returned (.tuple #[.pointer none, .int .i64 2]) ∧ w1 = w') := Lib.hid fun w1 hb1 =>
          nLeaf_dim A1 e.1.length c1 e.2 w1 hml hr
        have HR := Lib.hid hr
        clear he hbe hr x0 x1 p1 hml hv hown hls hbw hal
        go_wp2_with fail
        go_region_held3 (fun w' => Below wr.heap.size wr w') (((repeat (first | refine Below.drew ?_ | (with_reducible refine below_drewN _ ?_) | refine Below.alloc ?_ (by first | omega | (simp; done) | (simp; omega)) _ | refine Below.setCell ?_ (by first | omega | (simp; done) | (simp; omega)) _)); first | exact Below.refl _ _ | assumption | exact below_drewN _ (Below.refl _ _) | exact below_drewN _ (below_drewN _ (Below.refl _ _))))
          ((go_at_call 33; refine (HL.out _ (show Below wr.heap.size wr _ by ((repeat (first | refine Below.drew ?_ | (with_reducible refine below_drewN _ ?_) | refine Below.alloc ?_ (by first | omega | (simp; done) | (simp; omega)) _ | refine Below.setCell ?_ (by first | omega | (simp; done) | (simp; omega)) _)); first | exact Below.refl _ _ | assumption | exact below_drewN _ (Below.refl _ _) | exact below_drewN _ (below_drewN _ (Below.refl _ _))))).mono ?_; rintro e' w2 ⟨rfl, rfl⟩))
        clear y0 y1
        go_wp2_with fail
        go_ret2
        exact ⟨.inl ⟨⟨e, List.mem_of_getElem? HY.out.1, HR.out⟩, rfl⟩, HY.out.2.2.2.2.1.drew⟩
    · have hjl : j = L.length := by omega
      subst hjl
      rw [List.take_length] at hal
      have HY := Lib.hid (And.intro hbe (And.intro hown (And.intro hbw hal)))
      clear hbe hown hls hbw hal
      go_wp2_with fail
      go_ret2
      refine ⟨.inr ⟨fun e he => ?_, D, d, ls, rfl, HY.out.2.1, HY.out.2.2.2.all⟩, HY.out.2.2.1⟩
      obtain ⟨q, hq⟩ := List.mem_iff_getElem?.1 he
      exact HY.out.1 q e (lt_get hq) hq
end Go.Proofs.YtccefboifhfkdaaDoor
