import Derived.Test.YtpgkfccfabnjdaaGreatDoorM97
/-
  THE LAW DiffChain: its mathematics; rows appended; the search for a point.
-/
namespace Go.Proofs.YtpgkfccfabnjdaaGreatDoor
open Go.ChangeShapes Go.WideShapes Go.ChangeAt Go.RowKit
open Tr (T S4 Ent Sd Fl Chg)

theorem nodup_len {α : Type} : ∀ {A B : List α}, A.Nodup → (∀ a ∈ A, a ∈ B) → A.length ≤ B.length
  | [], _, _, _ => Nat.zero_le _
  | a :: A, B, h, hs => by
    obtain ⟨s, t, rfl⟩ := List.append_of_mem (hs a List.mem_cons_self)
    obtain ⟨h1, h2⟩ := List.nodup_cons.1 h
    have := nodup_len (A := A) (B := s ++ t) h2 (fun x hx => by
      have hm := hs x (List.mem_cons_of_mem _ hx)
      rw [List.mem_append, List.mem_cons] at hm
      rw [List.mem_append]
      rcases hm with hm | rfl | hm
      · exact .inl hm
      · exact absurd hx h1
      · exact .inr hm)
    simp only [List.length_cons, List.length_append] at this ⊢
    omega
theorem chain_pt {k : Nat} {L M N : List Ent} (zL : Tr.ZS L) (zM : Tr.ZS M) (zN : Tr.ZS N) (dL : Tr.Dim k L) (dM : Tr.Dim k M) (dN : Tr.Dim k N) {c : Chg} (h : c ∈ Tr.chL L N) : ∃ d ∈ Tr.chL L M ++ Tr.chL M N, d.1 = c.1 := by
  have hc := (Tr.mem_chL zL zN dL dN).1 h
  have hp : c.1.length = k ∧ Z.Ok c.1 := by
    rcases hc.point with ⟨v, hv⟩ | ⟨v, hv⟩
    · exact ⟨(dL _ hv).1, (dL _ hv).2.1⟩
    · exact ⟨(dN _ hv).1, (dN _ hv).2.1⟩
  obtain ⟨h1, h2, h3⟩ := hc
  by_cases hg : c.2.1 = Tr.getE M c.1
  · refine ⟨(c.1, Tr.getE M c.1, c.2.2), List.mem_append_right _ ((Tr.mem_chL zM zN dM dN).2 ⟨fun v => Tr.getE_iff zM dM hp.1 hp.2, h2, fun e => h3 (hg.trans e)⟩), rfl⟩
  · refine ⟨(c.1, c.2.1, Tr.getE M c.1), List.mem_append_left _ ((Tr.mem_chL zL zM dL dM).2 ⟨h1, fun v => Tr.getE_iff zM dM hp.1 hp.2, hg⟩), rfl⟩
theorem chain_len {k : Nat} {L M N : List Ent} (zL : Tr.ZS L) (zM : Tr.ZS M) (zN : Tr.ZS N) (dL : Tr.Dim k L) (dM : Tr.Dim k M) (dN : Tr.Dim k N) : (Tr.chL L N).length ≤ (Tr.chL L M).length + (Tr.chL M N).length := by
  have hnd : ((Tr.chL L N).map (·.1)).Nodup := by
    refine List.pairwise_map.2 ((Tr.chL_cs zL dL dN).imp fun {a b} h e => ?_)
    rw [e] at h
    exact Nat.lt_irrefl _ h
  have h := nodup_len (B := (Tr.chL L M ++ Tr.chL M N).map (·.1)) hnd fun p hp => by
    obtain ⟨c, hc, rfl⟩ := List.mem_map.1 hp
    obtain ⟨d, hd, e⟩ := chain_pt zL zM zN dL dM dN hc
    exact List.mem_map.2 ⟨d, hd, e⟩
  simpa using h
theorem lst_later2 {α : Type} {n : Nat} {Q : (Nat → Option Value) → α → Prop} {w w' : World} {R C : Nat} {A : Option Addr} {L : List α} (hQ : QOk n Q) (h : Lst n Q w R A L) (hb : Below C w w') (hC : R ≤ C) : Lst n Q w' R A L := by
  intro hn
  obtain ⟨b, off, hA, hbR, hc⟩ := h hn
  exact ⟨b, off, hA, hbR, fun i a ha => hQ.ext _ _ _ (fun j _ => (hb.cell (p := ⟨b, _, none⟩) (Nat.lt_of_lt_of_le hbR hC)).symm) (hc i a ha)⟩
end Go.Proofs.YtpgkfccfabnjdaaGreatDoor
