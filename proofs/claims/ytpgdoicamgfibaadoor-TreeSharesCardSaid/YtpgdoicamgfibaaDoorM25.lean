import Derived.Test.YtpgdoicamgfibaaDoorM21
import Derived.Test.YtpgdoicamgfibaaDoorM24
/-
  CONTRACTS of package pantileref06: Shape of any list, Shapes.
-/
namespace Go.Proofs.YtpgdoicamgfibaaDoor
open Go.ChangeShapes Go.WideShapes Go.ChangeAt Go.RowKit
open Tr (T S4 Ent Shp)

theorem shQ_at {w : World} {D : Nat → Prop} {A A' : Option Addr} {c c' : Nat} {s : Shp} (hp : Pts w w.heap.size A s.pre) (hr : RdV w w.heap.size A' (Sn.intV s.ks)) (hA : s.pre ≠ [] → ∀ x, A = some x → D x.block) (hA' : s.ks ≠ [] → ∀ x, A' = some x → D x.block) :
    ShQ w D (fun j => (#[.int .i64 s.lev, .slice A s.pre.length c, .slice A' s.ks.length c', .bool s.dn, .int .u64 (s.val : Int)] : Array Value)[j]?) s :=
  ⟨A, c, A', c', rfl, rfl, rfl, rfl, rfl, ⟨_, hp⟩, ⟨_, hr⟩, hA, hA'⟩
theorem shT_ent (k g : Nat) (p : List Nat) (v : Nat) (h1 : 1 ≤ k) : Tr.shT k (.ent g p v) = ⟨-1, p, [], false, v⟩ := by
  simp only [Tr.shT]
  rw [show denseT k (.ent g p v) = false from dense_ent k h1]
  rfl
/-- SHAPE of the list of any node -/
theorem rshape_in {w : World} {B b off c k : Nat} {t : T} (wf : Tr.Wf k t) (h : Ents w B (some ⟨b, off, none⟩) t.ents) (hB : B ≤ w.heap.size) (hc : t.ents.length ≤ c) (hl : t.ents.length ≤ 1000000) :
    Calls Tryd.prog 57 #[.slice (some ⟨b, off, none⟩) t.ents.length c] w fun e w' => (∃ A c A' c', e = .returned (shpV A c A' c' (Tr.shT k t)) ∧ Pts w' w'.heap.size A (Tr.shT k t).pre ∧ RdV w' w'.heap.size A' (Sn.intV (Tr.shT k t).ks) ∧
      ((Tr.shT k t).pre ≠ [] → ∀ x, A = some x → x.block < B ∨ w.heap.size ≤ x.block) ∧ ((Tr.shT k t).ks ≠ [] → ∀ x, A' = some x → x.block < B ∨ w.heap.size ≤ x.block)) ∧ Below w.heap.size w w' := by
  cases t with
  | ent g p v =>
    rw [shT_ent k g p v wf.k1]
    rw [Tr.ents_ent] at h ⊢
    refine (rshape_one_in (c := c) h hB).mono ?_
    rintro e w' ⟨⟨A1, c1, rfl, h2, h3⟩, h4⟩
    exact ⟨⟨A1, c1, none, 0, rfl, h2, RdV.nil _ _ _, fun hne x hx => .inl (h3 hne x hx), fun hne => absurd rfl hne⟩, h4⟩
  | br g l pre ks =>
    have he : (T.br g l pre ks).ents = Tr.entsL ks := Tr.ents_br _ _ _ _
    rw [he] at h hc hl ⊢
    refine (rshape_br_new wf h hB hc hl).mono ?_
    rintro e w' ⟨⟨A, c1, A', c2, rfl, h1, h2, h3, h4⟩, h5⟩
    refine ⟨⟨A, c1, A', c2, ?_, h1, h2, fun _ x hx => .inr (h3 x hx), fun hne x hx => .inr (h4 hne x hx)⟩, h5⟩
    have hlev : levI (T.br g l pre ks) = (l : Int) := by show ((l + 1 : Nat) : Int) - 1 = l; omega
    simp only [shpV, Tr.shT, hlev]
    rfl

/-- what Shapes tells: a row of shapes of its own, whose lists lie in F -/
def ShpsAt (w w' : World) (B : Nat) (e : Ending) (L : List Shp) : Prop :=
  ∃ (D : Option Addr) (d : Nat) (F : Nat → Prop), e = .returned (.slice D L.length d) ∧ OwnL 60 5 (ShQ w' F) w' w.heap.size (.slice D L.length d) L ∧ (∀ q, F q → (q < B ∨ w.heap.size ≤ q) ∧ q < w'.heap.size ∧ (Value.slice D L.length d).ownBlock ≠ some q) ∧ Below w.heap.size w w'
/-- an own row of shapes and where its lists lie -/
def ShRow (base B : Nat) (w : World) (v : Value) (L : List Shp) : Prop :=
  ∃ F : Nat → Prop, OwnL 60 5 (ShQ w F) w base v L ∧ ∀ q, F q → (q < B ∨ base ≤ q) ∧ q < w.heap.size ∧ v.ownBlock ≠ some q
theorem ShRow.drewN {base B : Nat} {w : World} {v : Value} {L : List Shp} (h : ShRow base B w v L) (n : Nat) : ShRow base B (w.drewN n) v L := h
theorem ShRow.below {base B C : Nat} {w w' : World} {v : Value} {L : List Shp} (h : ShRow base B w v L) (hb : Below C w w') (hC : w.heap.size ≤ C) : ShRow base B w' v L := by
  obtain ⟨F, h1, h2⟩ := h
  refine ⟨F, (h1.below hb hC).imp fun f a hf => hf.imp (fun b hb' => hb.block b (by have := (h2 b hb').2.1; omega)) fun _ h => h, fun q hq => ⟨(h2 q hq).1, ?_, (h2 q hq).2.2⟩⟩
  have := (h2 q hq).2.1
  have := hb.size
  omega
/-- the first shape -/
theorem shRow_one {w : World} {base B k : Nat} {A A' : Option Addr} {c c' : Nat} {s : Shp} (hp : Pts w w.heap.size A s.pre) (hr : RdV w w.heap.size A' (Sn.intV s.ks)) (hA : s.pre ≠ [] → ∀ x, A = some x → x.block < B ∨ base ≤ x.block) (hA' : s.ks ≠ [] → ∀ x, A' = some x → x.block < B ∨ base ≤ x.block) (hb : base ≤ w.heap.size) (_ : k = 0) :
    ShRow base B (w.alloc (.cells #[.int .i64 s.lev, .slice A s.pre.length c, .slice A' s.ks.length c', .bool s.dn, .int .u64 (s.val : Int)] 60)) (.slice (some ⟨w.heap.size, 0, none⟩) 1 1) [s] := by
  have hal := below_alloc w (.cells #[.int .i64 s.lev, .slice A s.pre.length c, .slice A' s.ks.length c', .bool s.dn, .int .u64 (s.val : Int)] 60)
  have hlt : ∀ q, ((s.pre ≠ [] ∧ ∃ x, A = some x ∧ x.block = q) ∨ (s.ks ≠ [] ∧ ∃ x, A' = some x ∧ x.block = q)) → (q < B ∨ base ≤ q) ∧ q < w.heap.size := by
    rintro q (⟨hne, x, hx, rfl⟩ | ⟨hne, x, hx, rfl⟩)
    · refine ⟨hA hne x hx, ?_⟩
      obtain ⟨b, off, h1, h2, -⟩ := hp.2 hne
      rw [h1] at hx; cases hx; exact h2
    · refine ⟨hA' hne x hx, ?_⟩
      obtain ⟨b, off, h1, h2, -⟩ := hr (by intro e; apply hne; cases hks : s.ks with | nil => rfl | cons a l => rw [hks] at e; simp [Sn.intV] at e)
      rw [h1] at hx; cases hx; exact h2
  refine ⟨fun q => (s.pre ≠ [] ∧ ∃ x, A = some x ∧ x.block = q) ∨ (s.ks ≠ [] ∧ ∃ x, A' = some x ∧ x.block = q), ownL_one _ s hb rfl ((shQ_at (c := c) (c' := c') hp hr (fun hne x hx => .inl ⟨hne, x, hx, rfl⟩) (fun hne x hx => .inr ⟨hne, x, hx, rfl⟩)).imp (fun b hb' => hal.block b (hlt b hb').2) fun _ h => h), fun q hq => ⟨(hlt q hq).1, ?_, ?_⟩⟩
  · have := (hlt q hq).2; simp; omega
  · have := (hlt q hq).2; intro e; simp [Value.ownBlock] at e; omega
/-- two rows, the second one behind the first -/
theorem shRow_append {base B : Nat} {w1 w2 w3 : World} {v : Value} {D3 : Option Addr} {m3 d3 : Nat} {L M : List Shp} {F F' : Nat → Prop} (ho : OwnL 60 5 (ShQ w1 F) w1 base v L) (hF : ∀ q, F q → (q < B ∨ base ≤ q) ∧ q < w1.heap.size ∧ v.ownBlock ≠ some q)
    (h2 : ∀ q, F' q → (q < B ∨ w1.heap.size ≤ q) ∧ q < w2.heap.size) (hb : w1.heap.size ≤ w2.heap.size) (hBb : B ≤ base) (hbase : base ≤ w1.heap.size)
    (hown : OwnL 60 5 (ShQ w2 fun q => F q ∨ F' q) w3 base (.slice D3 m3 d3) (L ++ M)) (hgr : w2.grownBy w3 v.ownBlock) (hat : (Value.slice D3 m3 d3).ownBlock = v.ownBlock ∨ (Value.slice D3 m3 d3).ownBlock = some w2.heap.size) :
    ShRow base B w3 (.slice D3 m3 d3) (L ++ M) := by
  have hs3 := hgr.size
  have hlt := ho.lt
  have key : ∀ q, (F q ∨ F' q) → (q < B ∨ base ≤ q) ∧ q < w2.heap.size ∧ v.ownBlock ≠ some q := by
    rintro q (hq | hq)
    · obtain ⟨a, b, c⟩ := hF q hq
      exact ⟨a, by omega, c⟩
    · obtain ⟨a, b⟩ := h2 q hq
      refine ⟨by omega, b, fun e => ?_⟩
      have := hlt q e
      omega
  refine ⟨fun q => F q ∨ F' q, hown.imp fun f a hf => hf.imp (fun b hb' => hgr.block b (key b hb').2.1 (fun e => (key b hb').2.2 e.symm)) fun _ h => h, fun q hq => ⟨(key q hq).1, by have := (key q hq).2.1; omega, ?_⟩⟩
  rcases hat with e | e
  · rw [e]; exact (key q hq).2.2
  · rw [e]; intro h; simp at h; have := (key q hq).2.1; omega
theorem ShRow.slice {base B : Nat} {w : World} {v : Value} {L : List Shp} (h : ShRow base B w v L) : ∃ A c, v = .slice A L.length c ∧ L.length ≤ c := by
  obtain ⟨F, h1, -⟩ := h
  exact OwnL.slice h1
end Go.Proofs.YtpgdoicamgfibaaDoor

/-
  CONTRACTS of package pantileref06: Shapes of any list.
-/
namespace Go.Proofs.YtpgdoicamgfibaaDoor
open Go.ChangeShapes Go.WideShapes Go.ChangeAt Go.RowKit
open Tr (T S4 Ent Shp)

end Go.Proofs.YtpgdoicamgfibaaDoor

/-
  CONTRACTS of package pantileref06: SameShapes, of the same.
-/
namespace Go.Proofs.YtpgdoicamgfibaaDoor
open Go.ChangeShapes Go.WideShapes Go.ChangeAt Go.RowKit
open Tr (T S4 Ent Shp)

theorem ptsW {w : World} {B : Nat} {A : Option Addr} {us : List Nat} (h : Pts w B A us) : Pts w w.heap.size A us := by
  refine ⟨h.1, fun hn => ?_⟩
  obtain ⟨b, off, hA, -, hc⟩ := h.2 hn
  refine ⟨b, off, hA, ?_, hc⟩
  obtain ⟨u, hu⟩ : ∃ u, us[0]? = some u := by cases us with | nil => exact absurd rfl hn | cons a l => exact ⟨a, rfl⟩
  exact World.block_lt_of_cell? w _ (hc 0 u hu)
theorem rdVW {w : World} {B : Nat} {A : Option Addr} {xs : List Value} (h : RdV w B A xs) : RdV w w.heap.size A xs := by
  intro hn
  obtain ⟨b, off, hA, -, hc⟩ := h hn
  refine ⟨b, off, hA, ?_, hc⟩
  obtain ⟨u, hu⟩ : ∃ u, xs[0]? = some u := by cases xs with | nil => exact absurd rfl hn | cons a l => exact ⟨a, rfl⟩
  exact World.block_lt_of_cell? w _ (hc 0 u hu)
/-- a row of shapes that can be read -/
def Shps (w : World) (A : Option Addr) (L : List Shp) : Prop := ∃ D R, Lst 5 (ShQ w D) w R A L ∧ R ≤ w.heap.size
theorem Shps.at {w : World} {A : Option Addr} {L : List Shp} (h : Shps w A L) {i : Nat} {s : Shp} (hs : L[i]? = some s) :
    ∃ b off C c C' c', A = some ⟨b, off, none⟩ ∧ b < w.heap.size ∧ w.cell? ⟨b, off + i * 5, none⟩ = some (.int .i64 s.lev) ∧ w.cell? ⟨b, off + i * 5 + 1, none⟩ = some (.slice C s.pre.length c) ∧ w.cell? ⟨b, off + i * 5 + 2, none⟩ = some (.slice C' s.ks.length c') ∧ w.cell? ⟨b, off + i * 5 + 3, none⟩ = some (.bool s.dn) ∧ w.cell? ⟨b, off + i * 5 + 4, none⟩ = some (.int .u64 (s.val : Int)) ∧
      Pts w w.heap.size C s.pre ∧ RdV w w.heap.size C' (Sn.intV s.ks) := by
  obtain ⟨D, R, h1, h2⟩ := h
  obtain ⟨b, off, hA, hb, hq⟩ := h1 (by rintro rfl; simp at hs)
  obtain ⟨C, c, C', c', e0, e1, e2, e3, e4, ⟨B, p⟩, ⟨B', r⟩, -, -⟩ := hq i s hs
  exact ⟨b, off, C, c, C', c', hA, by omega, e0, e1, e2, e3, e4, ptsW p, rdVW r⟩
theorem Shps.cut {w : World} {A : Option Addr} {L : List Shp} {i : Nat} {s : Shp} (h : Shps w A L) (hs : L[i]? = some s) {wr : World} (hr : Below w.heap.size w wr) :
    ∃ b off C c C' c', A = some ⟨b, off, none⟩ ∧ (∀ w', Below wr.heap.size wr w' → w'.cell? ⟨b, off + i * 5, none⟩ = some (.int .i64 s.lev)) ∧ (∀ w', Below wr.heap.size wr w' → w'.cell? ⟨b, off + i * 5 + 1, none⟩ = some (.slice C s.pre.length c)) ∧ (∀ w', Below wr.heap.size wr w' → w'.cell? ⟨b, off + i * 5 + 2, none⟩ = some (.slice C' s.ks.length c')) ∧ (∀ w', Below wr.heap.size wr w' → w'.cell? ⟨b, off + i * 5 + 3, none⟩ = some (.bool s.dn)) ∧ (∀ w', Below wr.heap.size wr w' → w'.cell? ⟨b, off + i * 5 + 4, none⟩ = some (.int .u64 (s.val : Int))) ∧
      (∀ w', Below wr.heap.size wr w' → Pts w' w'.heap.size C s.pre) ∧ (∀ w', Below wr.heap.size wr w' → RdV w' w'.heap.size C' (Sn.intV s.ks)) := by
  obtain ⟨b, off, C, c, C', c', hA, hlt, e0, e1, e2, e3, e4, p, r⟩ := h.at hs
  have hbb : ∀ w', Below wr.heap.size wr w' → Below w.heap.size w w' := fun w' hb => hr.trans (hb.mono hr.size)
  exact ⟨b, off, C, c, C', c', hA, fun w' hb => ((hbb w' hb).cell (p := ⟨b, off + i * 5, none⟩) hlt).trans e0, fun w' hb => ((hbb w' hb).cell (p := ⟨b, off + i * 5 + 1, none⟩) hlt).trans e1, fun w' hb => ((hbb w' hb).cell (p := ⟨b, off + i * 5 + 2, none⟩) hlt).trans e2, fun w' hb => ((hbb w' hb).cell (p := ⟨b, off + i * 5 + 3, none⟩) hlt).trans e3, fun w' hb => ((hbb w' hb).cell (p := ⟨b, off + i * 5 + 4, none⟩) hlt).trans e4,
    fun w' hb => (p.below' (hbb w' hb) (Nat.le_refl _)).keep (hbb w' hb).size (fun _ _ => rfl), fun w' hb => r.below (hbb w' hb) (Nat.le_refl _) (hbb w' hb).size⟩
end Go.Proofs.YtpgdoicamgfibaaDoor

/-
  CONTRACTS of package tree: Shapes.
-/
namespace Go.Proofs.YtpgdoicamgfibaaDoor
open Go.ChangeShapes Go.WideShapes Go.ChangeAt Go.RowKit
open Tr (T S4 Ent Shp)

/-- the blocks of the lists of shapes, one more shape told -/
def shD (D : Nat → Prop) (A A' : Option Addr) (ks : List Nat) : Nat → Prop := fun b => D b ∨ (∃ x, A = some x ∧ x.block = b) ∨ (ks ≠ [] ∧ ∃ x, A' = some x ∧ x.block = b)
theorem shQ_new {w : World} {D : Nat → Prop} {A A' : Option Addr} (c c' : Nat) {B : Nat} {s : Shp} (hp : Pts w B A s.pre) (hr : RdV w B A' (Sn.intV s.ks)) :
    ShQ w (shD D A A' s.ks) (fun j => (#[.int .i64 s.lev, .slice A s.pre.length c, .slice A' s.ks.length c', .bool s.dn, .int .u64 (s.val : Int)] : Array Value)[j]?) s :=
  ⟨A, c, A', c', rfl, rfl, rfl, rfl, rfl, ⟨B, hp⟩, ⟨B, hr⟩, fun _ x hx => .inr (.inl ⟨x, hx, rfl⟩), fun hk x hx => .inr (.inr ⟨hk, x, hx, rfl⟩)⟩
def ShCell (B g : Nat) (L : List Shp) (w : World) (v : Value) (ty : TypeId) (D : Nat → Prop) : Prop :=
  B ≤ g ∧ w.heap[g]? = some (.cells #[v] ty (0, 0)) ∧ OwnL 60 5 (ShQ w D) w B v L ∧ v.ownBlock ≠ some g ∧ ∀ b, D b → b < w.heap.size ∧ B ≤ b ∧ b ≠ g ∧ v.ownBlock ≠ some b
theorem shapes1_end {w w2 w3 : World} {B g m d3 : Nat} {L : List Shp} {s : Shp} {v : Value} {ty : TypeId} {D : Nat → Prop} {A A' D3 : Option Addr} {ob : Obj} (h : ShCell B g L w v ty D) (hb : Below w.heap.size w w2)
    (hp : Pts w2 w2.heap.size A s.pre) (hr : RdV w2 w2.heap.size A' (Sn.intV s.ks)) (hA : ∀ x, A = some x → w.heap.size ≤ x.block) (hA' : s.ks ≠ [] → ∀ x, A' = some x → w.heap.size ≤ x.block) (hne : s.pre ≠ [])
    (hown : OwnL 60 5 (ShQ w2 (shD D A A' s.ks)) w3 B (.slice D3 m d3) (L ++ [s])) (hgr : (w2.alloc ob).grownBy w3 v.ownBlock) (hat : (Value.slice D3 m d3).ownBlock = v.ownBlock ∨ (Value.slice D3 m d3).ownBlock = some (w2.alloc ob).heap.size) :
    ∃ v' D', ShCell B g (L ++ [s]) (w3.setCell ⟨g, 0, none⟩ (.slice D3 m d3)) v' ty D' ∧ (∀ b, (v'.ownBlock = some b ∨ D' b) → v.ownBlock = some b ∨ D b ∨ w.heap.size ≤ b) ∧
      Foot (fun b => b = g ∨ v.ownBlock = some b) w (w3.setCell ⟨g, 0, none⟩ (.slice D3 m d3)) := by
  obtain ⟨hBg, hg, ho, hv, hD⟩ := h
  have hgs : g < w.heap.size := (Array.getElem?_eq_some_iff.1 hg).1
  have hs2 := hb.size
  have hs3 := hgr.size
  have hsa : (w2.alloc ob).heap.size = w2.heap.size + 1 := by simp
  have hlt := ho.lt
  obtain ⟨V, hV⟩ : ∃ V, V = Value.slice D3 m d3 := ⟨_, rfl⟩
  rw [← hV] at hown hat ⊢
  have hg3 : w3.heap[g]? = some (.cells #[v] ty (0, 0)) := by
    rw [hgr.block g (by omega) (fun e => hv e.symm), Below.heap_alloc w2 ob g (by omega), hb.block g hgs, hg]
  have hVg : V.ownBlock ≠ some g := by
    rcases hat with e | e
    · rw [e]; exact hv
    · rw [e]; intro h; simp at h; omega
  have hnew : ∀ b, shD D A A' s.ks b → b < w2.heap.size ∧ B ≤ b ∧ b ≠ g ∧ v.ownBlock ≠ some b ∧ (D b ∨ w.heap.size ≤ b) := by
    intro b hb'
    rcases hb' with h | ⟨x, hx, rfl⟩ | ⟨hk, x, hx, rfl⟩
    · obtain ⟨h1, h2, h3, h4⟩ := hD b h
      exact ⟨by omega, h2, h3, h4, .inl h⟩
    · have h1 := hA x hx
      obtain ⟨b', off, hx', hlt', -⟩ := hp.2 hne
      rw [hx'] at hx
      cases hx
      exact ⟨hlt', by show B ≤ b'; have : w.heap.size ≤ b' := h1; omega, fun e => by have : w.heap.size ≤ b' := h1; have : b' = g := e; omega, fun e => by have := (hlt _ e).2; have : w.heap.size ≤ b' := h1; simp only at *; omega, .inr h1⟩
    · have h1 := hA' hk x hx
      obtain ⟨b', off, hx', hlt', -⟩ := hr (by intro e; apply hk; cases hks : s.ks with | nil => rfl | cons a l => rw [hks] at e; simp [Sn.intV] at e)
      rw [hx'] at hx
      cases hx
      exact ⟨hlt', by show B ≤ b'; have : w.heap.size ≤ b' := h1; omega, fun e => by have : w.heap.size ≤ b' := h1; have : b' = g := e; omega, fun e => by have := (hlt _ e).2; have : w.heap.size ≤ b' := h1; simp only at *; omega, .inr h1⟩
  have hkeep : ∀ b, shD D A A' s.ks b → (w3.setCell ⟨g, 0, none⟩ V).heap[b]? = w2.heap[b]? := by
    intro b hb'
    obtain ⟨h1, h2, h3, h4, -⟩ := hnew b hb'
    rw [Below.heap_setCell _ _ _ _ (fun e => h3 e), hgr.block b (by omega) (fun e => h4 e.symm), Below.heap_alloc w2 ob b h1]
  refine ⟨V, shD D A A' s.ks, ⟨hBg, by rw [heap_setCell_same w3 g 0 _ ty V hg3]; rfl, ?_, hVg, ?_⟩, ?_, ?_⟩
  · refine (hown.block (w' := w3.setCell ⟨g, 0, none⟩ V) fun q hq => Below.heap_setCell _ _ _ _ (fun e => hVg (by rw [hq, e]))).imp fun f a hf => hf.imp hkeep fun _ h => h
  · intro b hb'
    obtain ⟨h1, h2, h3, h4, -⟩ := hnew b hb'
    refine ⟨by rw [World.size_setCell]; omega, h2, h3, ?_⟩
    rcases hat with e | e
    · rw [e]; exact h4
    · rw [e]; intro h; simp at h; omega
  · intro b hb'
    rcases hb' with h | h
    · rcases hat with e | e
      · rw [e] at h; exact .inl h
      · rw [e] at h; simp at h; exact .inr (.inr (by omega))
    · exact .inr (hnew b h).2.2.2.2
  · exact (((Foot.of_below (F := fun b => b = g ∨ v.ownBlock = some b) hb).trans (Foot.of_below (F := fun _ => False) (below_alloc w2 ob)) (fun b h => h.elim)).trans (Foot.grown (F := fun b => v.ownBlock = some b) hgr (fun k hk => hk)) (fun b h => .inl (.inr h))).trans (Foot.setCell (F := fun b => b = g) w3 (a := ⟨g, 0, none⟩) rfl V) (fun b h => .inl (.inl h))

set_option maxRecDepth 100000 in
set_option maxHeartbeats 2000000 in
theorem shapes1_c {w : World} {B g k : Nat} {t : T} {L : List Shp} {v : Value} {ty : TypeId} {D : Nat → Prop} (h : ShCell B g L w v ty D) (hn : Node w B k t) (hB : B ≤ w.heap.size) (hl : L.length ≤ 1000000000) :
    Calls Tryd.prog 79 #[.pointer (some ⟨t.blk, 0, none⟩), .pointer (some ⟨g, 0, none⟩)] w fun e w' => e = .returned (.tuple #[]) ∧
      ∃ v' D', ShCell B g (L ++ [Tr.shT k t]) w' v' ty D' ∧ (∀ b, (v'.ownBlock = some b ∨ D' b) → v.ownBlock = some b ∨ D b ∨ w.heap.size ≤ b) ∧ Foot (fun b => b = g ∨ v.ownBlock = some b) w w' := by
  have hgs : g < w.heap.size := (Array.getElem?_eq_some_iff.1 h.2.1).1
  have c0 : w.cell? ⟨g, 0, none⟩ = some v := by rw [cell_of_row w g _ _ ty (0, 0) h.2.1]; rfl
  have HS : Hid (∀ w1, Below w.heap.size w w1 → w1.heap.size = w.heap.size → Calls Tryd.prog 32 #[.pointer (some ⟨t.blk, 0, none⟩)] w1 fun e w' => ShapeNew w.heap.size w' e (levI t) t.pre (Sl.keys (kidL t.ks)) (denseT k t) t.val ∧ Below w.heap.size w w') := Lib.hid fun w1 hb1 hs1 => by
    have h1 := nShape_new (hn.below hb1 hB (Nat.le_refl _)) (by rw [hs1]; exact hB)
    rw [hs1] at h1
    exact h1.mono fun e w' h => ⟨h.1, hb1.trans h.2⟩
  have hb0 : Below w.heap.size w w := Below.refl _ _
  have hb1 : Below w.heap.size w w.drew := (Below.refl _ _).drew
  have hne : t.pre ≠ [] := by intro e; have h1 := hn.1.len; have h2 := hn.1.k1; simp [e] at h1; omega
  have H := Lib.hid (And.intro h (And.intro hn (And.intro hB (And.intro hl (And.intro hgs hne)))))
  clear h hn hB hl hgs hne
  go_enter Tryd.func79, Tryd.ntmps79
  go_wp2_with fail
  go_region_law ((first
    | (go_simp; go_at_call 32; refine (HS.out _ (by first | exact hb0 | exact hb1) (by rfl)).mono ?_; rintro e w2 ⟨⟨A, c, A', c', rfl, hp, hr, hA, hA'⟩, hb2⟩; have c0 : w2.cell? ⟨g, 0, none⟩ = some v := (hb2.cell (p := ⟨g, 0, none⟩) H.out.2.2.2.2.1).trans c0; have c0a : ∀ ob, (w2.alloc ob).cell? ⟨g, 0, none⟩ = some v := fun ob => ((below_alloc w2 ob).cell (p := ⟨g, 0, none⟩) (Nat.lt_of_lt_of_le H.out.2.2.2.2.1 hb2.size)).trans c0)
    | (refine step_append_list (Q := ShQ w2 (shD D A A' (Tr.shT k t).ks)) 82 60 (.agg #[.int .i64 0, .slice none 0 0, .slice none 0 0, .bool false, .int .u64 0]) 72 Tryd.underlying82 infoSh (by rfl) (by omega) (by omega) (shQ_ok w2 _) (by rfl) _ _ (by rfl) B v L [Tr.shT k t] (L.length + 1) (by rfl) (by rfl) (by exact ((H.out.1.2.2.1.below hb2 (Nat.le_refl _)).imp fun f a hf => hf.imp (fun b hb => hb2.block b (H.out.1.2.2.2.2 b hb).1) fun b hb => .inl hb).below (below_alloc _ _) (Nat.le_refl _)) _ _ 1 1 (by rfl) (by rfl) (by exact lst_at (shQ_ok w2 _) _ (Tr.shT k t) (by rfl) (shQ_new c c' hp hr)) (by have := H.out.2.2.2.1; omega) (by have := H.out.2.2.1; have := hb2.size; simp; omega) ?_; intro D1 d1 w3 hown3 hgrow3 hat3; have hg3 : w3.heap[g]? = some (.cells #[v] ty (0, 0)) := (hgrow3.block g (by have := H.out.2.2.2.2.1; have := hb2.size; simp; omega) (fun e => H.out.1.2.2.2.1 e.symm)).trans ((Below.heap_alloc w2 _ g (by have := H.out.2.2.2.2.1; have := hb2.size; omega)).trans ((hb2.block g H.out.2.2.2.2.1).trans H.out.1.2.1)); have c3 : w3.cell? ⟨g, 0, none⟩ = some v := (by rw [cell_of_row w3 g _ _ ty (0, 0) hg3]; rfl); have f3 : w3.frozen? ⟨g, 0, none⟩ = false := frozen_of_row w3 g _ _ ty hg3)))
  all_goals go_wp2_with fail
  all_goals (
    go_end0
    exact ⟨rfl, shapes1_end H.out.1 hb2 hp hr hA hA' H.out.2.2.2.2.2 hown3 hgrow3 hat3⟩)
end Go.Proofs.YtpgdoicamgfibaaDoor

/-
  CONTRACTS of package tree: Shapes.
-/
namespace Go.Proofs.YtpgdoicamgfibaaDoor
open Go.ChangeShapes Go.WideShapes Go.ChangeAt Go.RowKit
open Tr (T S4 Ent Shp)

def ShInv (B g k : Nat) (us : List T) (w : World) (F : Nat → Prop) : Prop :=
  ∃ v ty D, F = (fun b => b = g ∨ v.ownBlock = some b ∨ D b) ∧ ShCell B g (us.map (Tr.shT k)) w v ty D
theorem shapes_visit (g B k : Nat) : Visit 79 g B k 1000000000 (ShInv B g k) where
  ent := enters_of Tryd.func79 (by kernel_rfl) rfl
  frame := by
    rintro us w w' F ⟨v, ty, D, rfl, hB, h, ho, hne, hD⟩ hs hb
    exact ⟨v, ty, D, rfl, hB, (hb g (.inl rfl)).trans h, (ho.block fun q hq => hb q (.inr (.inl hq))).imp fun f a hf => hf.imp (fun b hb' => hb b (.inr (.inr hb'))) fun _ h => h, hne, fun b hb' => ⟨Nat.lt_of_lt_of_le (hD b hb').1 hs, (hD b hb').2⟩⟩
  inb := by
    rintro us w F ⟨v, ty, D, rfl, hB, h, ho, hne, hD⟩ b hb
    rcases hb with rfl | hb | hb
    · exact ⟨(Array.getElem?_eq_some_iff.1 h).1, hB⟩
    · exact (ho.lt b hb).symm
    · exact ⟨(hD b hb).1, (hD b hb).2.1⟩
  call := by
    rintro us w F t ⟨v, ty, D, rfl, hc⟩ hn hBw hl
    refine (shapes1_c hc hn hBw (by rw [List.length_map]; omega)).mono ?_
    rintro e w' ⟨rfl, v', D', h1, h2, h3⟩
    refine ⟨rfl, fun b => b = g ∨ v'.ownBlock = some b ∨ D' b, ⟨v', ty, D', rfl, by rw [List.map_append]; exact h1⟩, fun b hb => ?_, ?_⟩
    · rcases hb with rfl | hb
      · exact .inl (.inl rfl)
      · rcases h2 b hb with h | h | h
        · exact .inl (.inr (.inl h))
        · exact .inl (.inr (.inr h))
        · exact .inr h
    · exact ⟨h3.os, h3.tape, h3.output, h3.size, fun k hk hn => h3.block k hk fun c => hn (c.elim .inl fun c => .inr (.inl c))⟩
set_option maxRecDepth 100000 in
theorem tShapes_c {w : World} {B b k : Nat} {o : Option T} (h : TreeAt w B b k o) (hB : B ≤ w.heap.size) (hT : ∀ w', Below w.heap.size w w' → Tz w') (hl : (Tr.allO o).length ≤ 1000000000) :
    Calls Tryd.prog 46 #[.pointer (some ⟨b, 0, none⟩)] w fun e w' =>
      ∃ D d, e = .returned (.slice D (Tr.shapesO k o).length d) ∧ ShRow w.heap.size w.heap.size w' (.slice D (Tr.shapesO k o).length d) (Tr.shapesO k o) ∧ Below w.heap.size w w' := by
  have hal := below_alloc w (.cells #[.slice none 0 0] 82)
  have hsz : (w.alloc (.cells #[.slice none 0 0] 82)).heap.size = w.heap.size + 1 := by simp
  have hI : ShInv w.heap.size w.heap.size k [] (w.alloc (.cells #[.slice none 0 0] 82)) (fun x => x = w.heap.size ∨ (Value.slice none 0 0).ownBlock = some x ∨ False) :=
    ⟨.slice none 0 0, _, fun _ => False, rfl, Nat.le_refl _, heap_at w _ _ rfl, ownL_none _ _ _, by simp [Value.ownBlock], fun b h => h.elim⟩
  have HD := Lib.hid (through_c (shapes_visit w.heap.size w.heap.size k) hI (h.2.2.2.2.below hal hB hB) (by rw [hsz]; omega) (fun w' hb => hT w' (hal.trans hb)) hl (Nat.le_refl _))
  have HR := Lib.hid (h.2.2.2.1.below hal (Nat.lt_of_lt_of_le h.1 hB))
  have HX := Lib.hid (And.intro hal hsz)
  clear h hB hI hal hsz hT hl
  go_enter Tryd.func46, Tryd.ntmps46
  go_wp2_with (first
    | (go_at_call 44; refine (tRoot_c HR.out).mono ?_; rintro e w' ⟨rfl, rfl⟩)
    | (go_at_call 80; refine HD.out.mono ?_; rintro e w2 ⟨rfl, F2, hi2, hF2, hfo2⟩; obtain ⟨v, t, D0, hF2e, hBg, hg2, ho2, hne2, hD2⟩ := hi2; have q0 : w2.cell? ⟨w.heap.size, 0, none⟩ = some v := (by rw [cell_of_row w2 w.heap.size _ _ t (0, 0) hg2]; rfl); have q1 : w2.frozen? ⟨w.heap.size, 0, none⟩ = false := frozen_of_row w2 w.heap.size _ _ t hg2; obtain ⟨D, d, hv, hcap⟩ := OwnL.slice ho2; subst hv))
  refine bodyPost_ret (v := .slice D (List.map (Tr.shT k) (Tr.allO o)).length d) (by simp [results, Tryd.results46, go_sem]) rfl ?_
  have hb2 : Below w.heap.size w w2 := HX.out.1.trans (hfo2.below (B := w.heap.size) (by rw [HX.out.2]; omega) (fun q hq => by rcases hq with rfl | hq | hq; exact Nat.le_refl _; simp [Value.ownBlock] at hq; exact hq.elim))
  refine ⟨D, d, rfl, ⟨D0, ?_, fun q hq => ?_⟩, hb2⟩
  · exact ho2
  · obtain ⟨h1, h2, h3, h4⟩ := hD2 q hq
    exact ⟨.inr h2, h1, h4⟩
end Go.Proofs.YtpgdoicamgfibaaDoor
