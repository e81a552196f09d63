import Derived.Test.YtpgdoicamgfibaaDoorM18
/-
  PLAIN MATHEMATICS of layer 7: the path of a point ahead of an act, and behind it.
-/
namespace Go.Proofs.YtpgdoicamgfibaaDoor
open Tr (T S4 Ent)

/-- all kids the very same ones, but that at an address -/
def ShareT (x y : T) (a : Nat) : Prop := Sl.Srt x.ks ∧ Sl.Srt y.ks ∧ ∀ c : Int, c ≠ (a : Int) → Sl.get x.ks c = Sl.get y.ks c
theorem path_none_stop {p : List Nat} : ∀ (n : Nat) (o : Option T), Tr.pathF n o p = [] → Tr.stopF n o p = o
  | 0, _, _ => rfl
  | _ + 1, none, _ => rfl
  | n + 1, some t, h => by
    simp only [Tr.pathF, Tr.stopF] at h ⊢
    split at h
    · cases h
    · rename_i hc
      rw [if_neg hc]
theorem path_last_stop {p : List Nat} : ∀ (n : Nat) (o : Option T) (us : List T) (u : T), Tr.pathF n o p = us ++ [u] → Tr.stopF n o p = Tr.kidAt u p
  | 0, _, us, u, h => by simp [Tr.pathF] at h
  | _ + 1, none, us, u, h => by simp [Tr.pathF] at h
  | n + 1, some t, us, u, h => by
    simp only [Tr.pathF, Tr.stopF] at h ⊢
    split at h
    · rename_i hc
      rw [if_pos hc]
      cases us with
      | nil =>
        simp only [List.nil_append, List.cons.injEq] at h
        obtain ⟨rfl, h⟩ := h
        exact path_none_stop n _ h
      | cons v us =>
        simp only [List.cons_append, List.cons.injEq] at h
        exact path_last_stop n _ us u h.2
    · simp at h
theorem chain_path {p : List Nat} {k : Nat} : ∀ {L : List T} {o y : Option T}, Tr.Chain p o L y → (∀ t, o = some t → Tr.Wf k t) → Tr.pathT o p = L ++ Tr.pathT y p ∧ Tr.stopT o p = Tr.stopT y p
  | [], o, y, h, _ => by
    have hy : y = o := h
    subst hy
    exact ⟨rfl, rfl⟩
  | u :: L, o, y, ⟨h1, h2, h3, h4⟩, hw => by
    have wu := hw u h1
    have ih := chain_path h4 (fun t ht => (Tr.kidAt_wf wu ht).1)
    have hs := Tr.path_step wu p h3
    rw [h1, hs.1, hs.2, ih.1, ih.2]
    exact ⟨rfl, rfl⟩
/-- the path behind an act: through the copies of the nodes of the way, then what stands there now -/
theorem built_path {p : List Nat} {k : Nat} : ∀ {L : List T} {o y : Option T} {x t : T}, Tr.Chain p o L y → (∀ s, o = some s → Tr.Wf k s) → Built L.reverse x t → Tr.Wf k t → (∀ L' u, L = L' ++ [u] → Tr.Under x p (u.lv - 1)) →
    ∃ M : List T, M.length = L.length ∧ Tr.pathT (some t) p = M ++ Tr.pathT (some x) p ∧ Tr.stopT (some t) p = Tr.stopT (some x) p ∧ Tr.Wf k x ∧ ∀ (i : Nat) (u : T), L[i]? = some u → ∃ g n, M[i]? = some (stepT g u n) ∧ Z.addr n.pre (u.lv - 1) = Z.addr p (u.lv - 1)
  | [], o, y, x, t, _, _, hb, wt, _ => by
    have : t = x := hb
    subst this
    exact ⟨[], rfl, rfl, rfl, wt, fun i u h => by simp at h⟩
  | u :: L, o, y, x, t, ⟨h1, h2, h3, h4⟩, hw, hb, wt, hund => by
    have wu := hw u h1
    rw [List.reverse_cons] at hb
    obtain ⟨s, g, hbs, rfl⟩ := built_inv hb
    have hus : Z.addr s.pre (u.lv - 1) = Z.addr p (u.lv - 1) := by
      cases L with
      | nil =>
        have : s = x := hbs
        subst this
        exact (hund [] u rfl).addr
      | cons u2 L =>
        obtain ⟨h5, h6, h7, h8⟩ := h4
        rw [List.reverse_cons] at hbs
        obtain ⟨s2, g2, -, rfl⟩ := built_inv hbs
        exact (Tr.kidAt_wf wu h5).2.2.1
    have hsu : Sl.Srt u.ks := by cases wu with | ent => exact Sl.srt_nil | br _ _ _ _ _ hw => exact hw.srt
    have hlv : (stepT g u s).lv = u.lv := by
      cases u with
      | ent => exact h2.elim
      | br => rfl
    have hcov : Tr.covers (stepT g u s) p = true := by
      have : Tr.covers (stepT g u s) p = Tr.covers u p := by
        unfold Tr.covers levI
        rw [hlv]
        rfl
      rw [this]; exact h3
    have hkid : Tr.kidAt (stepT g u s) p = some s := by
      unfold Tr.kidAt
      rw [hlv]
      show Sl.get (Sl.put (Z.addr s.pre (u.lv - 1)) s u.ks) _ = _
      rw [Sl.get_put hsu, hus, if_pos rfl]
    have ws := (Tr.kidAt_wf wt hkid).1
    obtain ⟨M, m1, m2, m3, m4, m5⟩ := built_path h4 (fun t ht => (Tr.kidAt_wf wu ht).1) hbs ws (fun L' v e => hund (u :: L') v (by rw [e]; rfl))
    have hst := Tr.path_step wt p hcov
    rw [hkid] at hst
    refine ⟨stepT g u s :: M, by simp [m1], by rw [hst.1, m2]; rfl, by rw [hst.2, m3], m4, fun i v hv => ?_⟩
    cases i with
    | zero =>
      simp only [List.getElem?_cons_zero, Option.some.injEq] at hv
      subst hv
      exact ⟨g, s, rfl, hus⟩
    | succ i =>
      rw [List.getElem?_cons_succ] at hv ⊢
      exact m5 i v hv
theorem share_step {k : Nat} {u : T} (h : Tr.Wf k u) (hb : Tr.isBr u) (g : Nat) (n : T) {p : List Nat} (ha : Z.addr n.pre (u.lv - 1) = Z.addr p (u.lv - 1)) : (stepT g u n).lv = u.lv ∧ ShareT u (stepT g u n) (Z.addr p (u.lv - 1)) := by
  have hsu : Sl.Srt u.ks := by cases h with | ent => exact Sl.srt_nil | br _ _ _ _ _ hw => exact hw.srt
  refine ⟨by cases u with | ent => exact hb.elim | br => rfl, hsu, ?_, fun c hc => ?_⟩
  · exact Sl.srt_put _ _ hsu
  · show _ = Sl.get (Sl.put (Z.addr n.pre (u.lv - 1)) n u.ks) c
    rw [Sl.get_put hsu, ha, if_neg hc]
theorem chain_br {p : List Nat} : ∀ {L : List T} {o y : Option T}, Tr.Chain p o L y → ∀ u ∈ L, Tr.isBr u
  | [], _, _, _, u, h => by simp at h
  | v :: L, o, y, ⟨_, h2, _, h4⟩, u, h => by
    rcases List.mem_cons.1 h with rfl | h
    · exact h2
    · exact chain_br h4 u h
theorem chain_wf {p : List Nat} {k : Nat} : ∀ {L : List T} {o y : Option T}, Tr.Chain p o L y → (∀ t, o = some t → Tr.Wf k t) → ∀ u ∈ L, Tr.Wf k u
  | [], _, _, _, _, u, h => by simp at h
  | v :: L, o, y, ⟨h1, _, _, h4⟩, hw, u, h => by
    rcases List.mem_cons.1 h with rfl | h
    · exact hw _ h1
    · exact chain_wf h4 (fun t ht => (Tr.kidAt_wf (hw v h1) ht).1) u h
theorem ent_covers {k g v : Nat} {p : List Nat} (h : Tr.Wf k (.ent g p v)) (hp : p.length = k) (ho : Z.Ok p) : Tr.covers (.ent g p v) p = true := (Tr.covers_iff h hp ho).2 (Tr.cut_zero p)
/-- the paths ahead of an act, and behind it -/
structure Twin (o o' : Option T) (p : List Nat) (del : Bool) (us vs : List T) : Prop where
  same : ∀ (i : Nat) (x y : T), us[i]? = some x → vs[i]? = some y → ¬ Tr.isBr x ∨ (Tr.isBr x ∧ Tr.isBr y ∧ y.lv = x.lv ∧ ShareT x y (Z.addr p (x.lv - 1)))
  fin : (vs.length ≤ us.length + 1 ∧ us.length ≤ vs.length + 1) ∨
    (del = false ∧ vs.length = us.length + 2 ∧ ∃ (s more : T) (l : Nat), Tr.stopT o p = some s ∧ vs[us.length]? = some more ∧ levI more = (l : Int) ∧ l ≤ 63 ∧ Sl.get more.ks (Z.addr s.pre l : Int) = some s ∧ ∀ u ∈ us, Tr.isBr u) ∨
    (del = true ∧ us.length = vs.length + 2 ∧ ∃ (gone other : T) (l c : Nat), us[vs.length]? = some gone ∧ levI gone = (l : Int) ∧ l ≤ 63 ∧ Tr.stopT o' p = some other ∧ Sl.Srt gone.ks ∧ Sl.del (Z.addr p l) gone.ks = [(c, other)] ∧ (Sl.get gone.ks (Z.addr p l : Int)).isSome = true ∧ ∀ u ∈ vs, Tr.isBr u)
theorem twin_put {k : Nat} {o : Option T} {p : List Nat} {v : Nat} {t : T} (hp : p.length = k) (ho : Z.Ok p) (hw : ∀ s, o = some s → Tr.Wf k s) (wt : Tr.Wf k t) (h : PutWay k o p v t) : Twin o (some t) p false (Tr.pathT o p) (Tr.pathT (some t) p) := by
  obtain ⟨L, y, x, hch, hx, wx, hb⟩ := h
  have hund := Tr.putX_under hp ho hw hch hx
  obtain ⟨M, m1, m2, -, -, m5⟩ := built_path hch hw hb wt hund
  have hpa := chain_path hch hw
  have hLs : ∀ (i : Nat) (a b : T), L[i]? = some a → M[i]? = some b → Tr.isBr a ∧ Tr.isBr b ∧ b.lv = a.lv ∧ ShareT a b (Z.addr p (a.lv - 1)) := by
    intro i a b ha hb'
    obtain ⟨g, n, h1, h2⟩ := m5 i a ha
    rw [h1] at hb'
    cases hb'
    have hbr := chain_br hch a (List.mem_of_getElem? ha)
    have := share_step (chain_wf hch hw a (List.mem_of_getElem? ha)) hbr g n h2
    exact ⟨hbr, trivial, this.1, this.2⟩
  have hgen : ∀ P Q : List T, (∀ a, P[0]? = some a → ¬ Tr.isBr a) → P.length ≤ 1 → ∀ (i : Nat) (a b : T), (L ++ P)[i]? = some a → (M ++ Q)[i]? = some b → ¬ Tr.isBr a ∨ (Tr.isBr a ∧ Tr.isBr b ∧ b.lv = a.lv ∧ ShareT a b (Z.addr p (a.lv - 1))) := by
    intro P Q hP hP1 i a b ha hb'
    rcases Nat.lt_or_ge i L.length with hi | hi
    · rw [List.getElem?_append_left hi] at ha
      rw [List.getElem?_append_left (by omega)] at hb'
      exact .inr (hLs i a b ha hb')
    · rw [List.getElem?_append_right hi] at ha
      have : i - L.length < P.length := lt_get ha
      rw [show i - L.length = 0 by omega] at ha
      exact .inl (hP a ha)
  rcases hx with ⟨g, rfl, rfl | ⟨g', v', rfl⟩⟩ | ⟨b, g, g', l, rfl, hc, hpart, rfl⟩
  · have e1 : Tr.pathT (some (T.ent g p v)) p = [.ent g p v] := by
      have := Tr.path_step wx p (ent_covers wx hp ho)
      rw [this.1, Tr.kidAt_ent]; rfl
    rw [e1] at m2
    rw [m2, hpa.1, (Tr.path_none p).1]
    refine ⟨hgen [] _ (fun a ha => by simp at ha) (by simp), .inl ⟨?_, ?_⟩⟩
    · simp [m1]
    · simp [m1] <;> omega
  · have wy : Tr.Wf k (.ent g' p v') := Tr.chain_y hch hw _ rfl
    have e1 : Tr.pathT (some (T.ent g p v)) p = [.ent g p v] := by
      have := Tr.path_step wx p (ent_covers wx hp ho)
      rw [this.1, Tr.kidAt_ent]; rfl
    have e2 : Tr.pathT (some (T.ent g' p v')) p = [.ent g' p v'] := by
      have := Tr.path_step wy p (ent_covers wy hp ho)
      rw [this.1, Tr.kidAt_ent]; rfl
    rw [e1] at m2
    rw [m2, hpa.1, e2]
    refine ⟨hgen _ _ (fun a ha => by simp at ha; subst ha; exact fun h => h) (by simp), .inl ⟨?_, ?_⟩⟩
    · simp [m1]
    · simp [m1] <;> omega
  · have wb : Tr.Wf k b := Tr.chain_y hch hw b rfl
    have hne : Z.addr b.pre l ≠ Z.addr p l := by
      rcases Z.part_spec (by rw [wb.len, hp]) wb.ok ho with ⟨e1, _⟩ | ⟨m, _, e1, h1, _⟩
      · omega
      · have : m = l := by omega
        subst this
        exact h1
    have h63 : l ≤ 63 := by cases wx with | br _ _ _ _ h63 => exact h63
    have hcx : Tr.covers (T.br g l (Z.cut b.pre (l + 1)) (Sl.put (Z.addr p l) (.ent g' p v) (Sl.put (Z.addr b.pre l) b []))) p = true := by
      rw [Tr.covers_iff wx hp ho]
      show Z.cut p (l + 1) = Z.cut b.pre (l + 1)
      exact ((Z.cut_eq_iff (by rw [wb.len, hp]) wb.ok ho (l + 1)).2 (by omega)).symm
    have hkx : Tr.kidAt (T.br g l (Z.cut b.pre (l + 1)) (Sl.put (Z.addr p l) (.ent g' p v) (Sl.put (Z.addr b.pre l) b []))) p = some (.ent g' p v) := by
      show Sl.get (Sl.put (Z.addr p l) (.ent g' p v) (Sl.put (Z.addr b.pre l) b [])) (Z.addr p l : Int) = _
      rw [Sl.get_put (Sl.srt_put _ _ Sl.srt_nil), if_pos rfl]
    have we := (Tr.kidAt_wf wx hkx).1
    have e1 : Tr.pathT (some (T.ent g' p v)) p = [.ent g' p v] := by
      have := Tr.path_step we p (ent_covers we hp ho)
      rw [this.1, Tr.kidAt_ent]; rfl
    have hst := Tr.path_step wx p hcx
    rw [hkx, e1] at hst
    rw [hst.1] at m2
    rw [m2, hpa.1, (Tr.path_stop b p hc).1]
    refine ⟨hgen [] _ (fun a ha => by simp at ha) (by simp),   .inr (.inl ⟨rfl, by simp [m1], b, T.br g l (Z.cut b.pre (l + 1)) (Sl.put (Z.addr p l) (.ent g' p v) (Sl.put (Z.addr b.pre l) b [])), l, by rw [hpa.2]; exact (Tr.path_stop b p hc).2, ?_, ?_, h63, ?_, fun u hu => chain_br hch u (by simpa using hu)⟩)⟩
    · rw [List.append_nil, List.getElem?_append_right (by omega), m1, Nat.sub_self]; rfl
    · show ((l + 1 : Nat) : Int) - 1 = l; omega
    · show Sl.get (Sl.put (Z.addr p l) (.ent g' p v) (Sl.put (Z.addr b.pre l) b [])) _ = _
      rw [Sl.get_put (Sl.srt_put _ _ Sl.srt_nil), if_neg (by omega), Sl.get_put Sl.srt_nil, if_pos rfl]
theorem twin_del {k : Nat} {o o' : Option T} {p : List Nat} (hp : p.length = k) (ho : Z.Ok p) (hw : ∀ s, o = some s → Tr.Wf k s) (hw' : ∀ s, o' = some s → Tr.Wf k s) (h : DelWay k o p o') : Twin o o' p true (Tr.pathT o p) (Tr.pathT o' p) := by
  obtain ⟨L, q, v, hch, ⟨rfl, rfl⟩ | ⟨L', u, x, t, rfl, hdx, wx, hb, rfl⟩⟩ := h
  · have hy : some (T.ent q p v) = o := hch
    subst hy
    have e1 : Tr.pathT (some (T.ent q p v)) p = [.ent q p v] := by
      have := Tr.path_step (hw _ rfl) p (ent_covers (hw _ rfl) hp ho)
      rw [this.1, Tr.kidAt_ent]; rfl
    rw [e1, (Tr.path_none p).1]
    exact ⟨fun i a b _ hb => by simp at hb, .inl ⟨by simp, by simp⟩⟩
  · have wt := hw' t rfl
    obtain ⟨c1, c2, c3, c4⟩ := Tr.chain_last hch
    have wu := chain_wf hch hw u (by simp)
    have hdt := Tr.delX_turned wu hp ho c3 c4 hdx
    have hund := Tr.delX_under hw c1 hdt.2.1
    obtain ⟨M, m1, m2, m3, -, m5⟩ := built_path c1 hw hb wt hund
    have hpa := chain_path c1 hw
    have hpu := Tr.path_step wu p c3
    have wy : Tr.Wf k (.ent q p v) := (Tr.kidAt_wf wu c4).1
    have e1 : Tr.pathT (some (T.ent q p v)) p = [.ent q p v] := by
      have := Tr.path_step wy p (ent_covers wy hp ho)
      rw [this.1, Tr.kidAt_ent]; rfl
    rw [c4, e1] at hpu
    rw [hpu.1] at hpa
    have hLs : ∀ (i : Nat) (a b : T), L'[i]? = some a → M[i]? = some b → Tr.isBr a ∧ Tr.isBr b ∧ b.lv = a.lv ∧ ShareT a b (Z.addr p (a.lv - 1)) := by
      intro i a b ha hb'
      obtain ⟨g, n, h1, h2⟩ := m5 i a ha
      rw [h1] at hb'
      cases hb'
      have hbr := chain_br c1 a (List.mem_of_getElem? ha)
      have := share_step (chain_wf c1 hw a (List.mem_of_getElem? ha)) hbr g n h2
      exact ⟨hbr, trivial, this.1, this.2⟩
    obtain ⟨gu, l, pre, ks, rfl, ⟨h2, g', rfl⟩ | ⟨c, hd⟩⟩ := hdx
    · have hsk : Sl.Srt ks := by cases wu with | br _ _ _ _ _ hw => exact hw.srt
      have hcx : Tr.covers (T.br g' l pre (Sl.del (Z.addr p l) ks)) p = true := c3
      have hkx : Tr.kidAt (T.br g' l pre (Sl.del (Z.addr p l) ks)) p = none := by
        show Sl.get (Sl.del (Z.addr p l) ks) (Z.addr p l : Int) = none
        rw [Sl.get_del hsk, if_pos rfl]
      have hst := Tr.path_step wx p hcx
      rw [hkx, (Tr.path_none p).1] at hst
      rw [hst.1] at m2
      rw [m2, hpa.1]
      refine ⟨fun i a b ha hb' => ?_, .inl ⟨?_, ?_⟩⟩
      · rcases Nat.lt_or_ge i L'.length with hi | hi
        · rw [List.getElem?_append_left hi] at ha
          rw [List.getElem?_append_left (by omega)] at hb'
          exact .inr (hLs i a b ha hb')
        · rw [List.getElem?_append_right (by omega)] at ha hb'
          have h3 : i - M.length < 1 := lt_get hb'
          rw [show i - M.length = 0 by omega] at hb'
          rw [show i - L'.length = 0 by omega] at ha
          simp only [List.getElem?_cons_zero, Option.some.injEq] at ha hb'
          subst ha hb'
          refine .inr ⟨trivial, trivial, rfl, hsk, Sl.srt_del _ hsk, fun a ha => ?_⟩
          show _ = Sl.get (Sl.del (Z.addr p l) ks) a
          rw [Sl.get_del hsk]
          have ha' : a ≠ (Z.addr p l : Int) := ha
          rw [if_neg ha']
          rfl
      · simp [m1]
      · simp [m1]
    · have hsk : Sl.Srt ks := by cases wu with | br _ _ _ _ _ hw => exact hw.srt
      have hm : (c, x) ∈ ks := Sl.mem_del (by rw [hd]; exact List.mem_singleton.2 rfl)
      have hca : c ≠ Z.addr p l := by
        intro e
        have h1 := Sl.get_del hsk (Z.addr p l) (Z.addr p l : Int)
        rw [if_pos rfl, hd] at h1
        simp [Sl.get, e] at h1
      have hcx : Tr.covers x p = false := by
        cases wu with
        | br _ _ _ _ h63 hw2 h2 hl ho' hkk hcc =>
          obtain ⟨d1, d2, d3⟩ := hcc _ hm
          cases hcv : Tr.covers x p with
          | false => rfl
          | true =>
            exfalso
            have h1 := (Tr.covers_iff wx hp ho).1 hcv
            have d3' : Z.addr x.pre l = c := d3
            apply hca
            rw [← d3']
            have d1' : x.lv ≤ l := d1
            have h2' := Z.cut_addr p x.lv l
            rw [if_pos d1', h1] at h2'
            exact h2'
      rw [(Tr.path_stop x p hcx).1, List.append_nil] at m2
      rw [(Tr.path_stop x p hcx).2] at m3
      rw [m2, hpa.1]
      refine ⟨fun i a b ha hb' => ?_,   .inr (.inr ⟨rfl, by simp [m1], T.br gu l pre ks, x, l, c, ?_, ?_, ?_, m3, hsk, hd, ?_, fun u hu => ?_⟩)⟩
      · have hi : i < M.length := lt_get hb'
        rw [List.getElem?_append_left (by omega)] at ha
        exact .inr (hLs i a b ha hb')
      · rw [m1, List.getElem?_append_right (Nat.le_refl _), Nat.sub_self]; rfl
      · show ((l + 1 : Nat) : Int) - 1 = l; omega
      · cases wu with | br _ _ _ _ h63 => exact h63
      · have : Sl.get ks (Z.addr p l : Int) = some (.ent q p v) := c4
        show (Sl.get ks (Z.addr p l : Int)).isSome = true
        rw [this]; rfl
      · obtain ⟨i, hi⟩ := List.mem_iff_getElem?.1 hu
        obtain ⟨a, ha⟩ := get_lt (show i < L'.length by have := lt_get hi; omega)
        exact (hLs i a u ha hi).2.1
end Go.Proofs.YtpgdoicamgfibaaDoor
