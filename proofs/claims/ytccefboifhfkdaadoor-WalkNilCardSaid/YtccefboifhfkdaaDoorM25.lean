import Derived.Test.YtccefboifhfkdaaDoorM21
import Derived.Test.YtccefboifhfkdaaDoorM24
/-
  CONTRACTS of package pantileref06: Shape of any list, Shapes.
-/
namespace Go.Proofs.YtccefboifhfkdaaDoor
open Go.ChangeShapes Go.WideShapes Go.ChangeAt Go.RowKit
open Tr (T S4 Ent Shp)

theorem shQ_at {w : World} {D : Nat → Prop} {A A' : Option Addr} {c c' : Nat} {s : Shp} (hp : Pts w w.heap.size A s.pre) (hr : RdV w w.heap.size A' (Sn.intV s.ks)) (hA : s.pre ≠ [] → ∀ x, A = some x → D x.block) (hA' : s.ks ≠ [] → ∀ x, A' = some x → D x.block) :
    ShQ w D (fun j => (#[.int .i64 s.lev, .slice A s.pre.length c, .slice A' s.ks.length c', .bool s.dn, .int .u64 (s.val : Int)] : Array Value)[j]?) s :=
  ⟨A, c, A', c', rfl, rfl, rfl, rfl, rfl, ⟨_, hp⟩, ⟨_, hr⟩, hA, hA'⟩
theorem shT_ent (k g : Nat) (p : List Nat) (v : Nat) (h1 : 1 ≤ k) : Tr.shT k (.ent g p v) = ⟨-1, p, [], false, v⟩ := by
  simp only [Tr.shT]
  rw [show denseT k (.ent g p v) = false from dense_ent k h1]
  rfl
/-- SHAPE of the list of any node -/
theorem rshape_in {w : World} {B b off c k : Nat} {t : T} (wf : Tr.Wf k t) (h : Ents w B (some ⟨b, off, none⟩) t.ents) (hB : B ≤ w.heap.size) (hc : t.ents.length ≤ c) (hl : t.ents.length ≤ 1000000) :
    Calls Tryd.prog 54 #[.slice (some ⟨b, off, none⟩) t.ents.length c] w fun e w' => (∃ A c A' c', e = .returned (shpV A c A' c' (Tr.shT k t)) ∧ Pts w' w'.heap.size A (Tr.shT k t).pre ∧ RdV w' w'.heap.size A' (Sn.intV (Tr.shT k t).ks) ∧
      ((Tr.shT k t).pre ≠ [] → ∀ x, A = some x → x.block < B ∨ w.heap.size ≤ x.block) ∧ ((Tr.shT k t).ks ≠ [] → ∀ x, A' = some x → x.block < B ∨ w.heap.size ≤ x.block)) ∧ Below w.heap.size w w' := by
  cases t with
  | ent g p v =>
    rw [shT_ent k g p v wf.k1]
    rw [Tr.ents_ent] at h ⊢
    refine (rshape_one_in (c := c) h hB).mono ?_
    rintro e w' ⟨⟨A1, c1, rfl, h2, h3⟩, h4⟩
    exact ⟨⟨A1, c1, none, 0, rfl, h2, RdV.nil _ _ _, fun hne x hx => .inl (h3 hne x hx), fun hne => absurd rfl hne⟩, h4⟩
  | br g l pre ks =>
    have he : (T.br g l pre ks).ents = Tr.entsL ks := Tr.ents_br _ _ _ _
    rw [he] at h hc hl ⊢
    refine (rshape_br_new wf h hB hc hl).mono ?_
    rintro e w' ⟨⟨A, c1, A', c2, rfl, h1, h2, h3, h4⟩, h5⟩
    refine ⟨⟨A, c1, A', c2, ?_, h1, h2, fun _ x hx => .inr (h3 x hx), fun hne x hx => .inr (h4 hne x hx)⟩, h5⟩
    have hlev : levI (T.br g l pre ks) = (l : Int) := by show ((l + 1 : Nat) : Int) - 1 = l; omega
    simp only [shpV, Tr.shT, hlev]
    rfl

/-- what Shapes tells: a row of shapes of its own, whose lists lie in F -/
def ShpsAt (w w' : World) (B : Nat) (e : Ending) (L : List Shp) : Prop :=
  ∃ (D : Option Addr) (d : Nat) (F : Nat → Prop), e = .returned (.slice D L.length d) ∧ OwnL 66 5 (ShQ w' F) w' w.heap.size (.slice D L.length d) L ∧ (∀ q, F q → (q < B ∨ w.heap.size ≤ q) ∧ q < w'.heap.size ∧ (Value.slice D L.length d).ownBlock ≠ some q) ∧ Below w.heap.size w w'
/-- an own row of shapes and where its lists lie -/
def ShRow (base B : Nat) (w : World) (v : Value) (L : List Shp) : Prop :=
  ∃ F : Nat → Prop, OwnL 66 5 (ShQ w F) w base v L ∧ ∀ q, F q → (q < B ∨ base ≤ q) ∧ q < w.heap.size ∧ v.ownBlock ≠ some q
theorem ShRow.drewN {base B : Nat} {w : World} {v : Value} {L : List Shp} (h : ShRow base B w v L) (n : Nat) : ShRow base B (w.drewN n) v L := h
theorem ShRow.below {base B C : Nat} {w w' : World} {v : Value} {L : List Shp} (h : ShRow base B w v L) (hb : Below C w w') (hC : w.heap.size ≤ C) : ShRow base B w' v L := by
  obtain ⟨F, h1, h2⟩ := h
  refine ⟨F, (h1.below hb hC).imp fun f a hf => hf.imp (fun b hb' => hb.block b (by have := (h2 b hb').2.1; omega)) fun _ h => h, fun q hq => ⟨(h2 q hq).1, ?_, (h2 q hq).2.2⟩⟩
  have := (h2 q hq).2.1
  have := hb.size
  omega
/-- the first shape -/
theorem shRow_one {w : World} {base B k : Nat} {A A' : Option Addr} {c c' : Nat} {s : Shp} (hp : Pts w w.heap.size A s.pre) (hr : RdV w w.heap.size A' (Sn.intV s.ks)) (hA : s.pre ≠ [] → ∀ x, A = some x → x.block < B ∨ base ≤ x.block) (hA' : s.ks ≠ [] → ∀ x, A' = some x → x.block < B ∨ base ≤ x.block) (hb : base ≤ w.heap.size) (_ : k = 0) :
    ShRow base B (w.alloc (.cells #[.int .i64 s.lev, .slice A s.pre.length c, .slice A' s.ks.length c', .bool s.dn, .int .u64 (s.val : Int)] 66)) (.slice (some ⟨w.heap.size, 0, none⟩) 1 1) [s] := by
  have hal := below_alloc w (.cells #[.int .i64 s.lev, .slice A s.pre.length c, .slice A' s.ks.length c', .bool s.dn, .int .u64 (s.val : Int)] 66)
  have hlt : ∀ q, ((s.pre ≠ [] ∧ ∃ x, A = some x ∧ x.block = q) ∨ (s.ks ≠ [] ∧ ∃ x, A' = some x ∧ x.block = q)) → (q < B ∨ base ≤ q) ∧ q < w.heap.size := by
    rintro q (⟨hne, x, hx, rfl⟩ | ⟨hne, x, hx, rfl⟩)
    · refine ⟨hA hne x hx, ?_⟩
      obtain ⟨b, off, h1, h2, -⟩ := hp.2 hne
      rw [h1] at hx; cases hx; exact h2
    · refine ⟨hA' hne x hx, ?_⟩
      obtain ⟨b, off, h1, h2, -⟩ := hr (by intro e; apply hne; cases hks : s.ks with | nil => rfl | cons a l => rw [hks] at e; simp [Sn.intV] at e)
      rw [h1] at hx; cases hx; exact h2
  refine ⟨fun q => (s.pre ≠ [] ∧ ∃ x, A = some x ∧ x.block = q) ∨ (s.ks ≠ [] ∧ ∃ x, A' = some x ∧ x.block = q), ownL_one _ s hb rfl ((shQ_at (c := c) (c' := c') hp hr (fun hne x hx => .inl ⟨hne, x, hx, rfl⟩) (fun hne x hx => .inr ⟨hne, x, hx, rfl⟩)).imp (fun b hb' => hal.block b (hlt b hb').2) fun _ h => h), fun q hq => ⟨(hlt q hq).1, ?_, ?_⟩⟩
  · have := (hlt q hq).2; simp; omega
  · have := (hlt q hq).2; intro e; simp [Value.ownBlock] at e; omega
/-- two rows, the second one behind the first -/
theorem shRow_append {base B : Nat} {w1 w2 w3 : World} {v : Value} {D3 : Option Addr} {m3 d3 : Nat} {L M : List Shp} {F F' : Nat → Prop} (ho : OwnL 66 5 (ShQ w1 F) w1 base v L) (hF : ∀ q, F q → (q < B ∨ base ≤ q) ∧ q < w1.heap.size ∧ v.ownBlock ≠ some q)
    (h2 : ∀ q, F' q → (q < B ∨ w1.heap.size ≤ q) ∧ q < w2.heap.size) (hb : w1.heap.size ≤ w2.heap.size) (hBb : B ≤ base) (hbase : base ≤ w1.heap.size)
    (hown : OwnL 66 5 (ShQ w2 fun q => F q ∨ F' q) w3 base (.slice D3 m3 d3) (L ++ M)) (hgr : w2.grownBy w3 v.ownBlock) (hat : (Value.slice D3 m3 d3).ownBlock = v.ownBlock ∨ (Value.slice D3 m3 d3).ownBlock = some w2.heap.size) :
    ShRow base B w3 (.slice D3 m3 d3) (L ++ M) := by
  have hs3 := hgr.size
  have hlt := ho.lt
  have key : ∀ q, (F q ∨ F' q) → (q < B ∨ base ≤ q) ∧ q < w2.heap.size ∧ v.ownBlock ≠ some q := by
    rintro q (hq | hq)
    · obtain ⟨a, b, c⟩ := hF q hq
      exact ⟨a, by omega, c⟩
    · obtain ⟨a, b⟩ := h2 q hq
      refine ⟨by omega, b, fun e => ?_⟩
      have := hlt q e
      omega
  refine ⟨fun q => F q ∨ F' q, hown.imp fun f a hf => hf.imp (fun b hb' => hgr.block b (key b hb').2.1 (fun e => (key b hb').2.2 e.symm)) fun _ h => h, fun q hq => ⟨(key q hq).1, by have := (key q hq).2.1; omega, ?_⟩⟩
  rcases hat with e | e
  · rw [e]; exact (key q hq).2.2
  · rw [e]; intro h; simp at h; have := (key q hq).2.1; omega
theorem ShRow.slice {base B : Nat} {w : World} {v : Value} {L : List Shp} (h : ShRow base B w v L) : ∃ A c, v = .slice A L.length c ∧ L.length ≤ c := by
  obtain ⟨F, h1, -⟩ := h
  exact OwnL.slice h1
end Go.Proofs.YtccefboifhfkdaaDoor

/-
  CONTRACTS of package pantileref06: Shapes of any list.
-/
namespace Go.Proofs.YtccefboifhfkdaaDoor
open Go.ChangeShapes Go.WideShapes Go.ChangeAt Go.RowKit
open Tr (T S4 Ent Shp)

end Go.Proofs.YtccefboifhfkdaaDoor

/-
  CONTRACTS of package pantileref06: SameShapes, of the same.
-/
namespace Go.Proofs.YtccefboifhfkdaaDoor
open Go.ChangeShapes Go.WideShapes Go.ChangeAt Go.RowKit
open Tr (T S4 Ent Shp)

theorem ptsW {w : World} {B : Nat} {A : Option Addr} {us : List Nat} (h : Pts w B A us) : Pts w w.heap.size A us := by
  refine ⟨h.1, fun hn => ?_⟩
  obtain ⟨b, off, hA, -, hc⟩ := h.2 hn
  refine ⟨b, off, hA, ?_, hc⟩
  obtain ⟨u, hu⟩ : ∃ u, us[0]? = some u := by cases us with | nil => exact absurd rfl hn | cons a l => exact ⟨a, rfl⟩
  exact World.block_lt_of_cell? w _ (hc 0 u hu)
theorem rdVW {w : World} {B : Nat} {A : Option Addr} {xs : List Value} (h : RdV w B A xs) : RdV w w.heap.size A xs := by
  intro hn
  obtain ⟨b, off, hA, -, hc⟩ := h hn
  refine ⟨b, off, hA, ?_, hc⟩
  obtain ⟨u, hu⟩ : ∃ u, xs[0]? = some u := by cases xs with | nil => exact absurd rfl hn | cons a l => exact ⟨a, rfl⟩
  exact World.block_lt_of_cell? w _ (hc 0 u hu)
/-- a row of shapes that can be read -/
def Shps (w : World) (A : Option Addr) (L : List Shp) : Prop := ∃ D R, Lst 5 (ShQ w D) w R A L ∧ R ≤ w.heap.size
theorem Shps.at {w : World} {A : Option Addr} {L : List Shp} (h : Shps w A L) {i : Nat} {s : Shp} (hs : L[i]? = some s) :
    ∃ b off C c C' c', A = some ⟨b, off, none⟩ ∧ b < w.heap.size ∧ w.cell? ⟨b, off + i * 5, none⟩ = some (.int .i64 s.lev) ∧ w.cell? ⟨b, off + i * 5 + 1, none⟩ = some (.slice C s.pre.length c) ∧ w.cell? ⟨b, off + i * 5 + 2, none⟩ = some (.slice C' s.ks.length c') ∧ w.cell? ⟨b, off + i * 5 + 3, none⟩ = some (.bool s.dn) ∧ w.cell? ⟨b, off + i * 5 + 4, none⟩ = some (.int .u64 (s.val : Int)) ∧
      Pts w w.heap.size C s.pre ∧ RdV w w.heap.size C' (Sn.intV s.ks) := by
  obtain ⟨D, R, h1, h2⟩ := h
  obtain ⟨b, off, hA, hb, hq⟩ := h1 (by rintro rfl; simp at hs)
  obtain ⟨C, c, C', c', e0, e1, e2, e3, e4, ⟨B, p⟩, ⟨B', r⟩, -, -⟩ := hq i s hs
  exact ⟨b, off, C, c, C', c', hA, by omega, e0, e1, e2, e3, e4, ptsW p, rdVW r⟩
theorem Shps.cut {w : World} {A : Option Addr} {L : List Shp} {i : Nat} {s : Shp} (h : Shps w A L) (hs : L[i]? = some s) {wr : World} (hr : Below w.heap.size w wr) :
    ∃ b off C c C' c', A = some ⟨b, off, none⟩ ∧ (∀ w', Below wr.heap.size wr w' → w'.cell? ⟨b, off + i * 5, none⟩ = some (.int .i64 s.lev)) ∧ (∀ w', Below wr.heap.size wr w' → w'.cell? ⟨b, off + i * 5 + 1, none⟩ = some (.slice C s.pre.length c)) ∧ (∀ w', Below wr.heap.size wr w' → w'.cell? ⟨b, off + i * 5 + 2, none⟩ = some (.slice C' s.ks.length c')) ∧ (∀ w', Below wr.heap.size wr w' → w'.cell? ⟨b, off + i * 5 + 3, none⟩ = some (.bool s.dn)) ∧ (∀ w', Below wr.heap.size wr w' → w'.cell? ⟨b, off + i * 5 + 4, none⟩ = some (.int .u64 (s.val : Int))) ∧
      (∀ w', Below wr.heap.size wr w' → Pts w' w'.heap.size C s.pre) ∧ (∀ w', Below wr.heap.size wr w' → RdV w' w'.heap.size C' (Sn.intV s.ks)) := by
  obtain ⟨b, off, C, c, C', c', hA, hlt, e0, e1, e2, e3, e4, p, r⟩ := h.at hs
  have hbb : ∀ w', Below wr.heap.size wr w' → Below w.heap.size w w' := fun w' hb => hr.trans (hb.mono hr.size)
  exact ⟨b, off, C, c, C', c', hA, fun w' hb => ((hbb w' hb).cell (p := ⟨b, off + i * 5, none⟩) hlt).trans e0, fun w' hb => ((hbb w' hb).cell (p := ⟨b, off + i * 5 + 1, none⟩) hlt).trans e1, fun w' hb => ((hbb w' hb).cell (p := ⟨b, off + i * 5 + 2, none⟩) hlt).trans e2, fun w' hb => ((hbb w' hb).cell (p := ⟨b, off + i * 5 + 3, none⟩) hlt).trans e3, fun w' hb => ((hbb w' hb).cell (p := ⟨b, off + i * 5 + 4, none⟩) hlt).trans e4,
    fun w' hb => (p.below' (hbb w' hb) (Nat.le_refl _)).keep (hbb w' hb).size (fun _ _ => rfl), fun w' hb => r.below (hbb w' hb) (Nat.le_refl _) (hbb w' hb).size⟩
end Go.Proofs.YtccefboifhfkdaaDoor

/-
  CONTRACTS of package tree: Shapes.
-/
namespace Go.Proofs.YtccefboifhfkdaaDoor
open Go.ChangeShapes Go.WideShapes Go.ChangeAt Go.RowKit
open Tr (T S4 Ent Shp)

/-- the blocks of the lists of shapes, one more shape told -/
def shD (D : Nat → Prop) (A A' : Option Addr) (ks : List Nat) : Nat → Prop := fun b => D b ∨ (∃ x, A = some x ∧ x.block = b) ∨ (ks ≠ [] ∧ ∃ x, A' = some x ∧ x.block = b)
theorem shQ_new {w : World} {D : Nat → Prop} {A A' : Option Addr} (c c' : Nat) {B : Nat} {s : Shp} (hp : Pts w B A s.pre) (hr : RdV w B A' (Sn.intV s.ks)) :
    ShQ w (shD D A A' s.ks) (fun j => (#[.int .i64 s.lev, .slice A s.pre.length c, .slice A' s.ks.length c', .bool s.dn, .int .u64 (s.val : Int)] : Array Value)[j]?) s :=
  ⟨A, c, A', c', rfl, rfl, rfl, rfl, rfl, ⟨B, hp⟩, ⟨B, hr⟩, fun _ x hx => .inr (.inl ⟨x, hx, rfl⟩), fun hk x hx => .inr (.inr ⟨hk, x, hx, rfl⟩)⟩
def ShCell (B g : Nat) (L : List Shp) (w : World) (v : Value) (ty : TypeId) (D : Nat → Prop) : Prop :=
  B ≤ g ∧ w.heap[g]? = some (.cells #[v] ty (0, 0)) ∧ OwnL 66 5 (ShQ w D) w B v L ∧ v.ownBlock ≠ some g ∧ ∀ b, D b → b < w.heap.size ∧ B ≤ b ∧ b ≠ g ∧ v.ownBlock ≠ some b
theorem shapes1_end {w w2 w3 : World} {B g m d3 : Nat} {L : List Shp} {s : Shp} {v : Value} {ty : TypeId} {D : Nat → Prop} {A A' D3 : Option Addr} {ob : Obj} (h : ShCell B g L w v ty D) (hb : Below w.heap.size w w2)
    (hp : Pts w2 w2.heap.size A s.pre) (hr : RdV w2 w2.heap.size A' (Sn.intV s.ks)) (hA : ∀ x, A = some x → w.heap.size ≤ x.block) (hA' : s.ks ≠ [] → ∀ x, A' = some x → w.heap.size ≤ x.block) (hne : s.pre ≠ [])
    (hown : OwnL 66 5 (ShQ w2 (shD D A A' s.ks)) w3 B (.slice D3 m d3) (L ++ [s])) (hgr : (w2.alloc ob).grownBy w3 v.ownBlock) (hat : (Value.slice D3 m d3).ownBlock = v.ownBlock ∨ (Value.slice D3 m d3).ownBlock = some (w2.alloc ob).heap.size) :
    ∃ v' D', ShCell B g (L ++ [s]) (w3.setCell ⟨g, 0, none⟩ (.slice D3 m d3)) v' ty D' ∧ (∀ b, (v'.ownBlock = some b ∨ D' b) → v.ownBlock = some b ∨ D b ∨ w.heap.size ≤ b) ∧
      Foot (fun b => b = g ∨ v.ownBlock = some b) w (w3.setCell ⟨g, 0, none⟩ (.slice D3 m d3)) := by
  obtain ⟨hBg, hg, ho, hv, hD⟩ := h
  have hgs : g < w.heap.size := (Array.getElem?_eq_some_iff.1 hg).1
  have hs2 := hb.size
  have hs3 := hgr.size
  have hsa : (w2.alloc ob).heap.size = w2.heap.size + 1 := by simp
  have hlt := ho.lt
  obtain ⟨V, hV⟩ : ∃ V, V = Value.slice D3 m d3 := ⟨_, rfl⟩
  rw [← hV] at hown hat ⊢
  have hg3 : w3.heap[g]? = some (.cells #[v] ty (0, 0)) := by
    rw [hgr.block g (by omega) (fun e => hv e.symm), Below.heap_alloc w2 ob g (by omega), hb.block g hgs, hg]
  have hVg : V.ownBlock ≠ some g := by
    rcases hat with e | e
    · rw [e]; exact hv
    · rw [e]; intro h; simp at h; omega
  have hnew : ∀ b, shD D A A' s.ks b → b < w2.heap.size ∧ B ≤ b ∧ b ≠ g ∧ v.ownBlock ≠ some b ∧ (D b ∨ w.heap.size ≤ b) := by
    intro b hb'
    rcases hb' with h | ⟨x, hx, rfl⟩ | ⟨hk, x, hx, rfl⟩
    · obtain ⟨h1, h2, h3, h4⟩ := hD b h
      exact ⟨by omega, h2, h3, h4, .inl h⟩
    · have h1 := hA x hx
      obtain ⟨b', off, hx', hlt', -⟩ := hp.2 hne
      rw [hx'] at hx
      cases hx
      exact ⟨hlt', by show B ≤ b'; have : w.heap.size ≤ b' := h1; omega, fun e => by have : w.heap.size ≤ b' := h1; have : b' = g := e; omega, fun e => by have := (hlt _ e).2; have : w.heap.size ≤ b' := h1; simp only at *; omega, .inr h1⟩
    · have h1 := hA' hk x hx
      obtain ⟨b', off, hx', hlt', -⟩ := hr (by intro e; apply hk; cases hks : s.ks with | nil => rfl | cons a l => rw [hks] at e; simp [Sn.intV] at e)
      rw [hx'] at hx
      cases hx
      exact ⟨hlt', by show B ≤ b'; have : w.heap.size ≤ b' := h1; omega, fun e => by have : w.heap.size ≤ b' := h1; have : b' = g := e; omega, fun e => by have := (hlt _ e).2; have : w.heap.size ≤ b' := h1; simp only at *; omega, .inr h1⟩
  have hkeep : ∀ b, shD D A A' s.ks b → (w3.setCell ⟨g, 0, none⟩ V).heap[b]? = w2.heap[b]? := by
    intro b hb'
    obtain ⟨h1, h2, h3, h4, -⟩ := hnew b hb'
    rw [Below.heap_setCell _ _ _ _ (fun e => h3 e), hgr.block b (by omega) (fun e => h4 e.symm), Below.heap_alloc w2 ob b h1]
  refine ⟨V, shD D A A' s.ks, ⟨hBg, by rw [heap_setCell_same w3 g 0 _ ty V hg3]; rfl, ?_, hVg, ?_⟩, ?_, ?_⟩
  · refine (hown.block (w' := w3.setCell ⟨g, 0, none⟩ V) fun q hq => Below.heap_setCell _ _ _ _ (fun e => hVg (by rw [hq, e]))).imp fun f a hf => hf.imp hkeep fun _ h => h
  · intro b hb'
    obtain ⟨h1, h2, h3, h4, -⟩ := hnew b hb'
    refine ⟨by rw [World.size_setCell]; omega, h2, h3, ?_⟩
    rcases hat with e | e
    · rw [e]; exact h4
    · rw [e]; intro h; simp at h; omega
  · intro b hb'
    rcases hb' with h | h
    · rcases hat with e | e
      · rw [e] at h; exact .inl h
      · rw [e] at h; simp at h; exact .inr (.inr (by omega))
    · exact .inr (hnew b h).2.2.2.2
  · exact (((Foot.of_below (F := fun b => b = g ∨ v.ownBlock = some b) hb).trans (Foot.of_below (F := fun _ => False) (below_alloc w2 ob)) (fun b h => h.elim)).trans (Foot.grown (F := fun b => v.ownBlock = some b) hgr (fun k hk => hk)) (fun b h => .inl (.inr h))).trans (Foot.setCell (F := fun b => b = g) w3 (a := ⟨g, 0, none⟩) rfl V) (fun b h => .inl (.inl h))

end Go.Proofs.YtccefboifhfkdaaDoor

/-
  CONTRACTS of package tree: Shapes.
-/
namespace Go.Proofs.YtccefboifhfkdaaDoor
open Go.ChangeShapes Go.WideShapes Go.ChangeAt Go.RowKit
open Tr (T S4 Ent Shp)

def ShInv (B g k : Nat) (us : List T) (w : World) (F : Nat → Prop) : Prop :=
  ∃ v ty D, F = (fun b => b = g ∨ v.ownBlock = some b ∨ D b) ∧ ShCell B g (us.map (Tr.shT k)) w v ty D
end Go.Proofs.YtccefboifhfkdaaDoor
