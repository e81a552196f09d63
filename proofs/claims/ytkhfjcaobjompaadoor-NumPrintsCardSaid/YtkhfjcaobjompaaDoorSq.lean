/-
  THE ITERATOR OF strings.SplitSeq AT A COMMA: it yields the parts between commas, in order, for every body that leaves its own cells alone.
-/
import Derived.Test.YtkhfjcaobjompaaDoorRg
namespace Go.Proofs.YtkhfjcaobjompaaDoor
open Go.RowKit Go.Shelf
attribute [local go_sem] Oper.semAt_some

theorem index_none : ∀ (l : List UInt8) (c : UInt8), Lib.indexByte l c = -1 → ∀ b ∈ l, b ≠ c
  | [], _, _ => fun b hb => by simp at hb
  | a :: l, c, h => by
    intro b hb
    unfold Lib.indexByte at h
    split at h
    · exact absurd h (by decide)
    · rename_i hac
      have hge := Lib.indexByte_ge l c
      have hl : Lib.indexByte l c = -1 := by
        split at h
        · rename_i h1; simpa using h1
        · omega
      rcases List.mem_cons.1 hb with rfl | hb
      · simpa using hac
      · exact index_none l c hl b hb
theorem index_some : ∀ (l : List UInt8) (c : UInt8) (k : Nat), Lib.indexByte l c = (k : Int) → l[k]? = some c ∧ ∀ b ∈ l.take k, b ≠ c
  | [], _, k, h => by simp [Lib.indexByte] at h
  | a :: l, c, k, h => by
    unfold Lib.indexByte at h
    split at h
    · rename_i hac
      have : k = 0 := by omega
      subst this
      exact ⟨by have : a = c := by simpa using hac
                simp [this], fun b hb => by simp at hb⟩
    · rename_i hac
      have hge := Lib.indexByte_ge l c
      split at h
      · omega
      · rename_i h1
        have h1' : ¬ Lib.indexByte l c = -1 := by simpa using h1
        obtain ⟨j, rfl⟩ : ∃ j, k = j + 1 := ⟨k - 1, by omega⟩
        obtain ⟨e, hn⟩ := index_some l c j (by omega)
        refine ⟨by simpa using e, fun b hb => ?_⟩
        rw [List.take_succ_cons] at hb
        rcases List.mem_cons.1 hb with rfl | hb
        · simpa using hac
        · exact hn b hb

/-- how long the string in cell b is -/
def strLen (w : World) (b : Nat) : Nat := match w.cell? ⟨b, 0, none⟩ with
  | some (.string r) => r.size
  | _ => 0
theorem strLen_eq {w : World} {b : Nat} {r : ByteArray} (h : w.cell? ⟨b, 0, none⟩ = some (.string r)) : strLen w b = r.size := by unfold strLen; rw [h]
abbrev lists (xs : List ByteArray) : List (List UInt8) := xs.map (·.data.toList)
theorem drop_next {l : List UInt8} {k : Nat} (h1 : l[k]? = some 44) (h2 : ∀ b ∈ l.take k, b ≠ 44) : T.split 44 l = l.take k :: T.split 44 (l.drop (k + 1)) := by
  have hk := (List.getElem?_eq_some_iff.1 h1).1
  have e : l = l.take k ++ 44 :: l.drop (k + 1) := by
    conv => lhs; rw [← List.take_append_drop k l]
    rw [List.drop_eq_getElem_cons hk, (List.getElem?_eq_some_iff.1 h1).2]
  conv => lhs; rw [e]
  exact T.split_at 44 _ _ h2

set_option maxRecDepth 100000 in
set_option maxHeartbeats 2000000 in
theorem seq_in (n : Nat) (hn : 3 ≤ n) (L Bs : Nat) (s : ByteArray) (J Jx : List ByteArray → World → Prop)
    (hJs : ∀ pre W v, J pre W → J pre (W.setCell ⟨Bs, 0, none⟩ v))
    (hJc : ∀ pre W, J pre W → W.cell? ⟨Bs + 1, 0, none⟩ = some (.string ⟨#[44]⟩) ∧ W.cell? ⟨Bs + 1 + 1, 0, none⟩ = some (.int .i64 0))
    (hY : ∀ pre x W, J pre W → (∃ post, T.split 44 s.data.toList = lists pre ++ x.data.toList :: post) → YieldAt Fence.wide (n - 1) Tryd.prog L #[.string x] W fun e W' =>
      (e = .returned (.bool true) ∧ J (pre ++ [x]) W' ∧ W'.cell? ⟨Bs, 0, none⟩ = W.cell? ⟨Bs, 0, none⟩ ∧ W'.frozen? ⟨Bs, 0, none⟩ = W.frozen? ⟨Bs, 0, none⟩) ∨ (e = .returned (.bool false) ∧ Jx (pre ++ [x]) W'))
    (W : World) (hc : W.cell? ⟨Bs, 0, none⟩ = some (.string s)) (hf : W.frozen? ⟨Bs, 0, none⟩ = false) (hs : s.size < 4294967281) (h0 : J [] W) :
    CallsIn Fence.wide n Tryd.prog 47 #[.func (Fn.yield L) #[] #[], .pointer (some ⟨Bs + 1, 0, none⟩), .pointer (some ⟨Bs, 0, none⟩), .pointer (some ⟨Bs + 1 + 1, 0, none⟩)] W fun e W' => (∃ v, e = .returned v) ∧
      ((∃ xs, lists xs = T.split 44 s.data.toList ∧ J xs W') ∨ (∃ pre x post, T.split 44 s.data.toList = lists pre ++ x.data.toList :: post ∧ Jx (pre ++ [x]) W')) := by
  refine callsIn_of_wp Tryd.func47 rfl trivial ?_ rfl
  simp only [Tryd.ntmps47, List.size_toArray, List.length_cons, List.length_nil, Nat.reduceAdd, Nat.reduceSub, Array.replicate_succ, Array.replicate_zero, List.push_toArray, List.append_toArray, List.nil_append, List.cons_append]
  have hJ0 := hJc [] W h0
  obtain ⟨hsep, hsave⟩ := hJ0
  gi_wp2
  gi_loopw [] (fun wr => ∃ (pre : List ByteArray) (r : ByteArray), wr.cell? ⟨Bs, 0, none⟩ = some (.string r) ∧ wr.frozen? ⟨Bs, 0, none⟩ = false ∧ r.size ≤ s.size ∧ T.split 44 s.data.toList = lists pre ++ T.split 44 r.data.toList ∧ J pre wr)
    (fun wr => strLen wr Bs)
  case atStart => exact ⟨[], s, hc, hf, Nat.le_refl _, rfl, h0⟩
  case round =>
    obtain ⟨pre, r, hcr, hfr, hrs, hsp, hj⟩ := hrel
    clear hsep hsave
    obtain ⟨hsep, hsave⟩ := hJc pre wr hj
    have Hsp := Lib.hid hsp
    have Hfr := Lib.hid hfr
    clear hsp
    by_cases hi : Lib.indexByte r.data.toList 44 = -1
    · have hno := T.split_none 44 _ (index_none _ _ hi)
      have Hno := Lib.hid hno
      have Hi := Lib.hid hi
      clear hno hi
      obtain ⟨fn, tmps, assign, body, hy, hR⟩ := hY pre r wr hj ⟨[], by rw [Hsp.out, Hno.out]⟩
      gi_wp2_with (refine ⟨trivial, (fun h => by cases h), ?_⟩; (with_reducible refine (callsIn_wide.2 (Tryd.strings_Index_one r 44 _)).mono ?_); rintro e wz ⟨rfl, rfl⟩; rw [Hi.out])
      refine ⟨(fun h => by cases h), hR.mono ?_⟩
      rintro e W3 (⟨rfl, hJ3, _, _⟩ | ⟨rfl, hJx3⟩)
      · gi_wp2
        go_end0
        exact ⟨⟨_, rfl⟩, .inl ⟨pre ++ [r], by rw [Hsp.out, Hno.out]; simp, hJ3⟩⟩
      · gi_wp2
        go_end0
        exact ⟨⟨_, rfl⟩, .inr ⟨pre, r, [], by rw [Hsp.out, Hno.out], hJx3⟩⟩
    · have hge := Lib.indexByte_ge r.data.toList 44
      obtain ⟨k, hk⟩ : ∃ k : Nat, Lib.indexByte r.data.toList 44 = (k : Int) := ⟨(Lib.indexByte r.data.toList 44).toNat, by omega⟩
      obtain ⟨g1, g2⟩ := index_some _ _ k hk
      have hkl : k < r.size := by have := lt_get g1; simpa using this
      have hnext := Lib.hid (drop_next g1 g2)
      have Hk := Lib.hid hk
      clear hi hge hk g1 g2
      obtain ⟨fn, tmps, assign, body, hy, hR⟩ := hY pre (r.extract 0 k) wr hj ⟨_, by rw [Hsp.out, hnext.out, ext_list, List.drop_zero]⟩
      have hx2 := ext_size r (k + 1) r.size (Nat.le_refl _)
      have Hx2 := Lib.hid hx2
      have e1 : Hid ((r.extract 0 k).data.toList = r.data.toList.take k) := Lib.hid (by rw [ext_list, List.drop_zero])
      have e2 : Hid ((r.extract (k + 1) r.size).data.toList = r.data.toList.drop (k + 1)) := Lib.hid (by rw [ext_list, List.take_of_length_le (by simp)])
      clear hx2
      gi_wp2_with (refine ⟨trivial, (fun h => by cases h), ?_⟩; (with_reducible refine (callsIn_wide.2 (Tryd.strings_Index_one r 44 _)).mono ?_); rintro e wz ⟨rfl, rfl⟩; rw [Hk.out])
      refine ⟨(fun h => by cases h), hR.mono ?_⟩
      rintro e W3 (⟨rfl, hJ3, hc3, hf3⟩ | ⟨rfl, hJx3⟩)
      · have hcr3 := hc3.trans hcr
        have hfr3 := hf3.trans Hfr.out
        obtain ⟨hsep3, hsave3⟩ := hJc _ W3 hJ3
        clear hc3 hf3 hy hR hsep hsave hfr
        gi_wp2
        have hnewc : (W3.setCell ⟨Bs, 0, none⟩ (.string (r.extract (k + 1) r.size))).cell? ⟨Bs, 0, none⟩ = some (.string (r.extract (k + 1) r.size)) := World.cell?_setCell_same _ _ _ hcr3
        go_roundw
        case rel => exact ⟨pre ++ [r.extract 0 k], r.extract (k + 1) r.size, hnewc, by rw [World.frozen?_setCell]; exact hfr3, by have := Hx2.out; omega,
          by rw [Hsp.out, hnext.out, e2.out]; simp [e1.out], hJs _ _ _ hJ3⟩
        case measure => rw [strLen_eq hnewc, strLen_eq hcr]; have := Hx2.out; omega
      · gi_wp2
        refine bodyPost_ret (results_none rfl _ _ _) rfl ?_
        exact ⟨⟨_, rfl⟩, .inr ⟨pre, _, _, by rw [Hsp.out, hnext.out, ext_list, List.drop_zero], hJx3⟩⟩
end Go.Proofs.YtkhfjcaobjompaaDoor
