/-
  CONTRACTS of package pantileref02 (the document's answers for layer 2), third part: points as they are read.
-/
import Derived.Test.YtkhfjcaobjompaaDoorRf3
namespace Go.Proofs.YtkhfjcaobjompaaDoor
open Go.ChangeShapes Go.WideShapes Go.ChangeAt Go.RowKit

/-- HOW A CALL OF ReadPoint ENDS: the point and the code of 'rdPoint'. -/
def RdPt (w : World) (l : List UInt8) (e : Ending) (w' : World) : Prop :=
  ∃ A c, e = .returned (.tuple #[.slice A (T.rdPoint l).1.length c, .int .i64 ((T.rdPoint l).2 : Int)]) ∧ Pts w' w'.heap.size A (T.rdPoint l).1 ∧ Below w.heap.size w w'
theorem rdPt_err {w w' : World} {l : List UInt8} {k : Nat} (h : T.rdPoint l = ([], k)) (hb : Below w.heap.size w w') : RdPt w l (.returned (.tuple #[.slice none 0 0, .int .i64 (k : Int)])) w' := by
  refine ⟨none, 0, ?_, ?_, hb⟩
  · rw [h]; rfl
  · rw [h]; exact Pts.nil _ _ _
theorem rdPt_own {w w' : World} {l : List UInt8} {us : List Nat} {base : Nat} {v : Value} (h : T.rdPoint l = (us, 0)) (ho : Own w' base v us) (hb : Below w.heap.size w w') : RdPt w l (.returned (.tuple #[v, .int .i64 0])) w' := by
  obtain ⟨A, c, rfl, hp⟩ := ho.pts
  refine ⟨A, c, ?_, ?_, hb⟩
  · rw [h]; rfl
  · rw [h]; exact hp

namespace T
/-- where the reader stands: the parts ahead of place f are pre; from f on to k no comma -/
structure At (l : List UInt8) (f k : Nat) (pre : List (List UInt8)) : Prop where
  ok : AllOk pre
  eq : split 44 l = pre ++ split 44 (l.drop f)
  le : f ≤ k
  kl : k ≤ l.length
  no : ∀ b ∈ (l.take k).drop f, b ≠ 44
theorem At.start (l : List UInt8) : At l 0 0 [] := ⟨fun _ h => by simp at h, by simp, Nat.le_refl _, Nat.zero_le _, fun _ h => by simp at h⟩
theorem At.next {l : List UInt8} {f k : Nat} {pre : List (List UInt8)} (h : At l f k pre) {c : UInt8} (hc : l[k]? = some c) (hn : c ≠ 44) : At l f (k + 1) pre := by
  have hk := (List.getElem?_eq_some_iff.1 hc).1
  refine ⟨h.ok, h.eq, Nat.le_succ_of_le h.le, hk, fun b hb => ?_⟩
  rw [List.take_add_one, hc, List.drop_append_of_le_length (by have := h.le; simp; omega)] at hb
  rcases List.mem_append.1 hb with g | g
  · exact h.no b g
  · simp at g
    rw [g]; exact hn
theorem At.comma {l : List UInt8} {f k : Nat} {pre : List (List UInt8)} (h : At l f k pre) (hc : l[k]? = some 44) : split 44 l = pre ++ (l.take k).drop f :: split 44 (l.drop (k + 1)) := by
  have hk := (List.getElem?_eq_some_iff.1 hc).1
  rw [h.eq]
  congr 1
  have e : l.drop f = (l.take k).drop f ++ 44 :: l.drop (k + 1) := by
    conv => lhs; rw [← List.take_append_drop k l]
    rw [List.drop_append_of_le_length (by have := h.le; simp; omega)]
    congr 1
    rw [List.drop_eq_getElem_cons hk, (List.getElem?_eq_some_iff.1 hc).2]
  rw [e]
  exact split_at 44 _ _ h.no
theorem At.last {l : List UInt8} {f : Nat} {pre : List (List UInt8)} (h : At l f l.length pre) : split 44 l = pre ++ [(l.take l.length).drop f] := by
  rw [h.eq]
  congr 1
  have := split_none 44 _ h.no
  rw [List.take_length] at this ⊢
  exact this
theorem At.step {l : List UInt8} {f k : Nat} {pre : List (List UInt8)} (h : At l f k pre) (hc : l[k]? = some 44) (hp : (rdNum ((l.take k).drop f)).2 = 0) : At l (k + 1) (k + 1) (pre ++ [(l.take k).drop f]) := by
  have hk := (List.getElem?_eq_some_iff.1 hc).1
  refine ⟨fun p hm => ?_, ?_, Nat.le_refl _, hk, fun b hb => ?_⟩
  · rcases List.mem_append.1 hm with g | g
    · exact h.ok p g
    · simp at g; rw [g]; exact hp
  · rw [h.comma hc, List.append_assoc]; rfl
  · rw [List.drop_of_length_le (by simp; omega)] at hb; simp at hb
theorem At.room {l : List UInt8} {f k : Nat} {pre : List (List UInt8)} (h : At l f k pre) : pre.length ≤ l.length := by
  have h1 := split_length_le 44 l
  have h2 : 1 ≤ (split 44 (l.drop f)).length := List.length_pos_iff.2 (split_ne 44 _)
  rw [h.eq, List.length_append] at h1
  omega
theorem nums_snoc (ps : List (List UInt8)) (p : List UInt8) : nums (ps ++ [p]) = nums ps ++ [(rdNum p).1] := by simp [nums]
theorem allOk_snoc {ps : List (List UInt8)} {p : List UInt8} (h : AllOk ps) (hp : (rdNum p).2 = 0) : AllOk (ps ++ [p]) := fun q hm => by
  rcases List.mem_append.1 hm with g | g
  · exact h q g
  · simp at g; rw [g]; exact hp
end T

set_option maxRecDepth 100000 in
theorem rreadPoint_c (s : ByteArray) (w : World) (hs : s.size < 4294967281) :
    Calls Tryd.prog 9 #[.string s] w (RdPt w s.data.toList) := by
  obtain ⟨l, hl⟩ : ∃ l, s.data.toList = l := ⟨_, rfl⟩
  have hsz : l.length = s.size := by rw [← hl]; simp
  rw [hl]
  go_enter Tryd.func9, Tryd.ntmps9
  go_wp2
  have hown0 := own_nil w
  have hbel0 : Below w.heap.size w (w.alloc (.cells #[] 23)) := (Below.refl _ _).alloc (Nat.le_refl _) _
  go_loopw [4, 5, 6] (fun v f i wr => ∃ (k g : Nat) (pre : List (List UInt8)), i = .int .i64 k ∧ f = .int .i64 g ∧ Own wr w.heap.size v (T.nums pre) ∧ Below w.heap.size w wr ∧
    (T.At l g k pre ∨ (k = l.length + 1 ∧ T.AllOk pre ∧ T.split 44 l = pre))) (fun _ _ i _ => s.size + 1 - (intOf i).toNat)
  case atStart => exact ⟨0, 0, [], rfl, rfl, hown0, hbel0, .inl (T.At.start l)⟩
  case round =>
    obtain ⟨k, g, pre, rfl, rfl, hown, hbw, hat⟩ := hrel
    clear hown0 hbel0
    have Hown := Lib.hid hown
    have Hbw := Lib.hid hbw
    clear hown hbw
    have HL := Lib.hid hl
    have Hsz := Lib.hid hsz
    clear hl hsz
    rcases hat with hat | ⟨rfl, hok, hsp⟩
    · have hk : k ≤ s.size := by have := hat.kl; have := Hsz.out; omega
      have hgk := hat.le
      have hroom := hat.room
      rw [Hsz.out] at hroom
      have Hat := Lib.hid hat
      clear hat
      have hext : Hid ((s.extract g k).data.toList = (l.take k).drop g) := Lib.hid (by rw [ext_list, HL.out])
      have hxs := ext_size s g k hk
      have hnl : (T.nums pre).length = pre.length := by simp [T.nums]
      obtain ⟨p, hp⟩ : ∃ p, (l.take k).drop g = p := ⟨_, rfl⟩
      have hrest : (∃ hlt : k < s.size, s[k]'hlt ≠ 44) ∨ ((k = s.size ∨ (∃ hlt : k < s.size, s[k]'hlt = 44)) ∧ (∃ post, T.split 44 l = pre ++ p :: post) ∧
          ((T.rdNum p).2 = 0 → T.At l (k + 1) (k + 1) (pre ++ [p]) ∨ (k + 1 = l.length + 1 ∧ T.AllOk (pre ++ [p]) ∧ T.split 44 l = pre ++ [p]))) := by
        by_cases hlt : k < s.size
        · by_cases h44 : s[k]'hlt = 44
          · have hb := byte_get' s k hlt
            rw [HL.out, h44] at hb
            exact .inr ⟨.inr ⟨hlt, h44⟩, ⟨_, by rw [← hp]; exact Hat.out.comma hb⟩, fun hz => .inl (by have := Hat.out.step hb (by rw [hp]; exact hz); rw [hp] at this; exact this)⟩
          · exact .inl ⟨hlt, h44⟩
        · have hke : k = l.length := by have := Hsz.out; omega
          have hlast := Hat.out
          rw [hke] at hlast
          have hl2 := hlast.last
          rw [← hke, hp] at hl2
          exact .inr ⟨.inl (by omega), ⟨[], hl2⟩, fun hz => .inr ⟨by omega, T.allOk_snoc Hat.out.ok hz, hl2⟩⟩
      rcases hrest with ⟨hlt, hne⟩ | ⟨hstop, hsplit, hnext⟩
      · have hb := byte_get' s k hlt
        rw [HL.out] at hb
        have hst := Lib.hid (Hat.out.next hb hne)
        have f1 : (((s[k]'hlt).toNat : Int) != 44) = true := by
          rw [bne_iff_ne]
          intro e
          apply hne
          apply UInt8.toNat_inj.1
          show (s[k]'hlt).toNat = 44
          omega
        clear hb hne hp hnl hxs
        go_wp2
        go_roundw
        case rel => exact ⟨k + 1, g, pre, by go_num, rfl, Hown.out, Hbw.out, .inl hst.out⟩
        case measure => simp [intOf]; omega
      · obtain ⟨post, hpost⟩ := hsplit
        have Hpost := Lib.hid hpost
        have Hnext := Lib.hid hnext
        have Hnl := Lib.hid hnl
        clear hpost hnext hnl
        have hcall0 : (s.extract g k).data.toList = p := by rw [hext.out, hp]
        have Hcall0 := Lib.hid hcall0
        clear hcall0 hp
        by_cases hz : (T.rdNum p).2 = 0
        · have hn := Lib.hid (T.rdNum_lt p)
          have hst := Lib.hid (Hnext.out hz)
          have hnum : Hid (T.nums (pre ++ [p]) = T.nums pre ++ [(T.rdNum p).1]) := Lib.hid (T.nums_snoc _ _)
          have Hz := Lib.hid hz
          clear hz
          rcases hstop with hke | ⟨hlt, h44⟩
          all_goals first
            | (have f1 : ((s[k]'hlt).toNat : Int) = 44 := by rw [h44]; rfl)
            | (have f1 : decide (k < s.size) = false := by rw [decide_eq_false_iff_not]; omega)
          all_goals try clear h44
          all_goals try (have Hke := Lib.hid hke; clear hke)
          all_goals
            go_wp2_with (first
              | (go_at_call 7; refine (rreadNumber_c (s.extract g k) _ (by omega)).mono ?_; rintro e w' ⟨rfl, rfl⟩; rw [Hcall0.out, Hz.out])
              | (at_builtin; refine wpList_append_pts rfl (.tmp 37) (.tmp 39) rfl w.heap.size _ (T.nums pre) [(T.rdNum p).1] rfl (Hown.out.below ((Below.refl _ _).alloc (Nat.le_refl _) _) (Nat.le_refl _)) (wr.heap.size + 1) (some ⟨wr.heap.size, 0, none⟩) 1 rfl (pts_one wr _ hn.out _) (by rw [Hnl.out]; simp; omega) (by have := Hbw.out.size; simp; omega) ?_; intro v2 w2 hown2 hgrow2 hnil2; clear hnil2))
            go_roundw
            case rel => exact ⟨k + 1, k + 1, pre ++ [p], by go_num, by go_num, by rw [hnum.out]; exact hown2, (Hbw.out.alloc Hbw.out.size _).grown hgrow2 (by have := Hbw.out.size; simp; omega) (fun j hj => (Hown.out.2.lt j hj).1), hst.out⟩
            case measure => simp [intOf]; omega
        · have hres := Lib.hid (rdPt_err (T.rdPoint_bad Hpost.out Hat.out.ok hz) Hbw.out)
          obtain ⟨n, hn⟩ : ∃ n, (T.rdNum p).2 = n := ⟨_, rfl⟩
          rw [hn] at hz hres
          have hc : ((n : Int) != 0) = true := by rw [bne_iff_ne]; omega
          have Hn := Lib.hid hn
          clear hz hn
          rcases hstop with hke | ⟨hlt, h44⟩
          all_goals first
            | (have f1 : ((s[k]'hlt).toNat : Int) = 44 := by rw [h44]; rfl)
            | (have f1 : decide (k < s.size) = false := by rw [decide_eq_false_iff_not]; omega)
          all_goals try clear h44
          all_goals try (have Hke := Lib.hid hke; clear hke)
          all_goals
            go_wp2_with (go_at_call 7; refine (rreadNumber_c (s.extract g k) _ (by omega)).mono ?_; rintro e w' ⟨rfl, rfl⟩; rw [Hcall0.out, Hn.out])
            go_ret2
            exact hres.out
    · have hnl : (T.nums pre).length = pre.length := by simp [T.nums]
      have hk1 : l.length = s.size := Hsz.out
      rw [hk1]
      by_cases h16 : 16 < pre.length
      · have hres := Lib.hid (rdPt_err (T.rdPoint_many (l := l) (by rw [hsp]; exact hok) (by rw [hsp]; exact h16)) Hbw.out)
        obtain ⟨A, c, rfl, _⟩ := Hown.out.pts
        rw [hnl]
        clear hnl hk1 hok hsp
        go_wp2
        go_ret2
        exact hres.out
      · have hres := Lib.hid (rdPt_own (T.rdPoint_ok (l := l) (by rw [hsp]; exact hok) (by rw [hsp]; omega)) (by rw [hsp]; exact Hown.out) Hbw.out)
        obtain ⟨A, c, rfl, _⟩ := Hown.out.pts
        rw [hnl] at hres ⊢
        clear hnl hk1 hok hsp
        go_wp2
        go_ret2
        exact hres.out
end Go.Proofs.YtkhfjcaobjompaaDoor
