import Derived.Test.YtkeepngaaleakaaGreatDoorMV5
namespace Go.Proofs.YtkeepngaaleakaaGreatDoor
open Go.ChangeShapes Go.WideShapes Go.ChangeAt Go.RowKit
open Tr (T S4 Ent Tri KL)
abbrev p2V (a b:Option Addr):Value:=.agg #[.pointer a,.pointer b]
abbrev two (a b:Option T):Tri:=⟨none,a,b⟩
abbrev prS (t:Tri):Value:=p2V (rootP t.a) (rootP t.b)
theorem sSame_c {w:World} {B k:Nat} {a b:Option T} (ha:NodeO w B k a) (hb:NodeO w B k b) (hB:B≤w.heap.size) :
    Calls Tryz.prog 67 #[p2V (rootP a) (rootP b)] w fun e w' => e = .returned (.bool (decide (rootP a = rootP b)))∧Below w.heap.size w w':=by
  have hb0:=below_alloc w (.cells #[.pointer (rootP a),.pointer (rootP b)] 97)
  have he:=nodeP_dec (ha.below hb0 hB (Nat.le_refl B)) (hb.below hb0 hB (Nat.le_refl B))
  clear ha hb hB
  generalize decide (rootP a = rootP b) = r at *
  generalize rootP a = pa at *
  generalize rootP b = pb at *
  go_enter Tryz.func67,Tryz.ntmps67
  go_wp2_with fail
  go_ret
  exact ⟨rfl,hb0⟩
theorem nptr_nn (w:World):(binOp .neq 81 (.pointer none) (.pointer none)).run Tryz.prog w = .ok (.bool false) w:=neq_of_eql (nptr_none w)
theorem nptr_ns (w:World) (a:Addr):(binOp .neq 81 (.pointer (some a)) (.pointer none)).run Tryz.prog w = .ok (.bool true) w:=neq_of_eql (nptr_no2 w a)
theorem sBoth_c (a b:Option Addr) (w:World) :
    Calls Tryz.prog 79 #[p2V a b] w fun e w' => e = .returned (.bool (a.isSome && b.isSome))∧Below w.heap.size w w':=by
  have hb0:=below_alloc w (.cells #[.pointer a,.pointer b] 97)
  have h1:=nptr_nn
  have h2:=nptr_ns
  cases a with
  | none =>
    go_enter Tryz.func79,Tryz.ntmps79
    go_wp2_with fail
    go_ret
    exact ⟨rfl,hb0⟩
  | some a =>
    cases b with
    | none =>
      go_enter Tryz.func79,Tryz.ntmps79
      go_wp2_with fail
      go_ret
      exact ⟨rfl,hb0⟩
    | some b =>
      go_enter Tryz.func79,Tryz.ntmps79
      go_wp2_with fail
      go_ret
      exact ⟨rfl,hb0⟩
theorem sEither_c (a b:Option Addr) (w:World) :
    Calls Tryz.prog 64 #[p2V a b] w fun e w' => e = .returned (.pointer (a.or b))∧Below w.heap.size w w':=by
  have hb0:=below_alloc w (.cells #[.pointer a,.pointer b] 97)
  have h1:=nptr_nn
  have h2:=nptr_ns
  cases a with
  | none =>
    go_enter Tryz.func64,Tryz.ntmps64
    go_wp2_with fail
    go_ret
    exact ⟨rfl,hb0⟩
  | some a =>
    go_enter Tryz.func64,Tryz.ntmps64
    go_wp2_with fail
    go_ret
    exact ⟨rfl,hb0⟩
theorem sNeither_c (a b:Option Addr) (w:World) :
    Calls Tryz.prog 65 #[p2V a b] w fun e w' => e = .returned (.pointer none)∧Below w.heap.size w w':=by
  have hb0:=below_alloc w (.cells #[.pointer a,.pointer b] 97)
  go_enter Tryz.func65,Tryz.ntmps65
  go_wp2_with fail
  go_ret
  exact ⟨rfl,hb0⟩
theorem sFirst_c (a b:Option Addr) (w:World) :
    Calls Tryz.prog 68 #[p2V a b] w fun e w' => e = .returned (.pointer a)∧Below w.heap.size w w':=by
  have hb0:=below_alloc w (.cells #[.pointer a,.pointer b] 97)
  go_enter Tryz.func68,Tryz.ntmps68
  go_wp2_with fail
  go_ret
  exact ⟨rfl,hb0⟩
theorem sTwice_c (a:Option Addr) (w:World) :
    Calls Tryz.prog 176 #[.pointer a] w fun e w' => e = .returned (p2V a a)∧Below w.heap.size w w':=by
  have hb0:=below_alloc w (.cells #[.pointer a,.pointer a] 97)
  go_enter Tryz.func176,Tryz.ntmps176
  go_wp2_with fail
  refine bodyPost_ret (v:=p2V a a) (by simp [results,Tryz.results176,go_sem]) rfl ?_
  exact ⟨rfl,by ((repeat first | refine bD ?_ | with_reducible refine bN ?_ | refine bA ?_ | refine bS ?_);first | exact bR | assumption | exact bN bR | exact bN (bN bR))⟩
theorem sWithout1_c (a b:Option Addr) (w:World) :
    Calls Tryz.prog 69 #[p2V a b] w fun e w' => e = .returned (p2V none none)∧Below w.heap.size w w':=by
  go_enter Tryz.func69,Tryz.ntmps69
  go_wp2_with fail
  refine bodyPost_ret (v:=p2V none none) (by simp [results,Tryz.results69,go_sem]) rfl ?_
  exact ⟨rfl,by ((repeat first | refine bD ?_ | with_reducible refine bN ?_ | refine bA ?_ | refine bS ?_);first | exact bR | assumption | exact bN bR | exact bN (bN bR))⟩
def keptP (a b:Option Addr) (f g:Bool):Option Addr × Option Addr:=if f && g then (a,b) else if f then (a,a) else if g then (b,b) else (none,none)
set_option maxRecDepth 100000 in
theorem sKeptP_c (a b:Option Addr) (f g:Bool) (w:World) :
    Calls Tryz.prog 175 #[p2V a b,.agg #[.bool f,.bool g]] w fun e w' => e = .returned (.tuple #[p2V (keptP a b f g).1 (keptP a b f g).2,.bool (f || g)])∧Below w.heap.size w w':=by
  have HT:=Lib.hid fun (w1:World) (c:Option Addr) => sTwice_c c w1
  cases f with
  | true =>
    cases g with
    | true =>
      go_enter Tryz.func175,Tryz.ntmps175
      go_wp2_with fail
      refine bodyPost_ret (v:=.tuple #[p2V a b,.bool true]) (by simp [results,Tryz.results175,go_sem]) rfl ?_
      exact ⟨rfl,by ((repeat first | refine bD ?_ | with_reducible refine bN ?_ | refine bA ?_ | refine bS ?_);first | exact bR | assumption | exact bN bR | exact bN (bN bR))⟩
    | false =>
      go_enter Tryz.func175,Tryz.ntmps175
      go_wp2_with fail
      refine (HT.out _ _).mono ?_
      rintro e w1 ⟨rfl,hb1⟩
      have hB1:Below w.heap.size w w1:=Below.trans (show Below w.heap.size w _ by ((repeat first | refine bD ?_ | with_reducible refine bN ?_ | refine bA ?_ | refine bS ?_);first | exact bR | assumption | exact bN bR | exact bN (bN bR))) (hb1.mono (Below.size (show Below w.heap.size w _ by ((repeat first | refine bD ?_ | with_reducible refine bN ?_ | refine bA ?_ | refine bS ?_);first | exact bR | assumption | exact bN bR | exact bN (bN bR)))))
      have hz:w1.heap[w.heap.size + 1 + 1]? = some (.cells #[.pointer none,.pointer none] 97 (0,0)):=keepz (by (first | (refine heap_at _ _ _ ?_;simp;done) | (refine heap_past _ (heap_at _ _ _ ?_);simp;done) | (refine heap_past _ (heap_past _ (heap_at _ _ _ ?_));simp;done) | (refine heap_past _ (heap_past _ (heap_past _ (heap_at _ _ _ ?_)));simp;done))) hb1
      have z0:w1.cell? ⟨w.heap.size + 1 + 1,0,none⟩ = some (.pointer none):=by rw [cell_of_row w1 _ _ _ _ (0,0) hz];rfl
      have z1:w1.cell? ⟨w.heap.size + 1 + 1,1,none⟩ = some (.pointer none):=by rw [cell_of_row w1 _ _ _ _ (0,0) hz];rfl
      have zf:∀ i,w1.frozen? ⟨w.heap.size + 1 + 1,i,none⟩ = false:=fun i => frozen_of_row w1 _ i _ _ hz
      clear hz hb1
      go_wp2_with fail
      refine bodyPost_ret (v:=.tuple #[p2V a a,.bool true]) (by simp [results,Tryz.results175,go_sem,z0,z1]) rfl ?_
      exact ⟨rfl,by ((repeat first | refine bD ?_ | with_reducible refine bN ?_ | refine bA ?_ | refine bS ?_);first | exact bR | assumption | exact bN bR | exact bN (bN bR))⟩
  | false =>
    cases g with
    | true =>
      go_enter Tryz.func175,Tryz.ntmps175
      go_wp2_with fail
      refine (HT.out _ _).mono ?_
      rintro e w1 ⟨rfl,hb1⟩
      have hB1:Below w.heap.size w w1:=Below.trans (show Below w.heap.size w _ by ((repeat first | refine bD ?_ | with_reducible refine bN ?_ | refine bA ?_ | refine bS ?_);first | exact bR | assumption | exact bN bR | exact bN (bN bR))) (hb1.mono (Below.size (show Below w.heap.size w _ by ((repeat first | refine bD ?_ | with_reducible refine bN ?_ | refine bA ?_ | refine bS ?_);first | exact bR | assumption | exact bN bR | exact bN (bN bR)))))
      have hz:w1.heap[w.heap.size + 1 + 1]? = some (.cells #[.pointer none,.pointer none] 97 (0,0)):=keepz (by (first | (refine heap_at _ _ _ ?_;simp;done) | (refine heap_past _ (heap_at _ _ _ ?_);simp;done) | (refine heap_past _ (heap_past _ (heap_at _ _ _ ?_));simp;done) | (refine heap_past _ (heap_past _ (heap_past _ (heap_at _ _ _ ?_)));simp;done))) hb1
      have z0:w1.cell? ⟨w.heap.size + 1 + 1,0,none⟩ = some (.pointer none):=by rw [cell_of_row w1 _ _ _ _ (0,0) hz];rfl
      have z1:w1.cell? ⟨w.heap.size + 1 + 1,1,none⟩ = some (.pointer none):=by rw [cell_of_row w1 _ _ _ _ (0,0) hz];rfl
      have zf:∀ i,w1.frozen? ⟨w.heap.size + 1 + 1,i,none⟩ = false:=fun i => frozen_of_row w1 _ i _ _ hz
      clear hz hb1
      go_wp2_with fail
      refine bodyPost_ret (v:=.tuple #[p2V b b,.bool true]) (by simp [results,Tryz.results175,go_sem,z0,z1]) rfl ?_
      exact ⟨rfl,by ((repeat first | refine bD ?_ | with_reducible refine bN ?_ | refine bA ?_ | refine bS ?_);first | exact bR | assumption | exact bN bR | exact bN (bN bR))⟩
    | false =>
      go_enter Tryz.func175,Tryz.ntmps175
      go_wp2_with fail
      refine bodyPost_ret (v:=.tuple #[p2V none none,.bool false]) (by simp [results,Tryz.results175,go_sem]) rfl ?_
      exact ⟨rfl,by ((repeat first | refine bD ?_ | with_reducible refine bN ?_ | refine bA ?_ | refine bS ?_);first | exact bR | assumption | exact bN bR | exact bN (bN bR))⟩
theorem sum_count (n:Nat) (b c d:Value):∀ w:World,(Instr.field 133 (.agg #[.int .u64 (n:Int),b,c,d]) 0).run Tryz.prog w = .ok (.int .u64 (n:Int)) w:=fun _ => by kernel_rfl
theorem sum_sum (n:Nat) (a c d:Value):∀ w:World,(Instr.field 133 (.agg #[a,.int .u64 (n:Int),c,d]) 1).run Tryz.prog w = .ok (.int .u64 (n:Int)) w:=fun _ => by kernel_rfl
set_option maxRecDepth 100000 in
set_option maxHeartbeats 2000000 in
theorem sCould_c {w:World} {B k:Nat} {a b:Option T} (ha:NodeO w B k a) (hb:NodeO w B k b) (hB:B≤w.heap.size) :
    Calls Tryz.prog 75 #[p2V (rootP a) (rootP b)] w fun e w' => e = .returned (.bool (decide ((Tr.entsO a).length≤(Tr.entsO b).length)))∧Below w.heap.size w w':=by
  obtain ⟨W0,hW0⟩:∃ W0,W0 = w.alloc (.cells #[.pointer (rootP a),.pointer (rootP b)] 97):=⟨_,rfl⟩
  have hb0:Below w.heap.size w W0:=by rw [hW0];exact below_alloc _ _
  have hr0:W0.heap[w.heap.size]? = some (.cells #[.pointer (rootP a),.pointer (rootP b)] 97 (0,0)):=by rw [hW0];exact heap_at w _ _ rfl
  have hlt:w.heap.size < W0.heap.size:=(Array.getElem?_eq_some_iff.1 hr0).1
  have m0:∀ w2,Below W0.heap.size W0 w2→w2.cell? ⟨w.heap.size,0,none⟩ = some (.pointer (rootP a)):=fun w2 hb => by rw [cell_of_row w2 _ _ _ _ (0,0) ((hb.block _ hlt).trans hr0)];rfl
  have m1:∀ w2,Below W0.heap.size W0 w2→w2.cell? ⟨w.heap.size,1,none⟩ = some (.pointer (rootP b)):=fun w2 hb => by rw [cell_of_row w2 _ _ _ _ (0,0) ((hb.block _ hlt).trans hr0)];rfl
  have hB0:B≤W0.heap.size:=Nat.le_trans hB hb0.size
  have H1:Hid (∀ w2,Below W0.heap.size W0 w2→Calls Tryz.prog 92 #[.pointer (rootP a)] w2 fun e w3 => ∃ x y z:Int,e = .returned (.agg #[.int .u64 ((Tr.entsO a).length:Int),.int .u64 x,.int .u64 y,.int .u64 z])∧Below w2.heap.size w2 w3):=Lib.hid fun w2 h2 => by
    refine (nSums_o (ha.below (Below.andThen hb0 h2) hB (Nat.le_refl _)) (Nat.le_trans hB0 h2.size)).mono ?_
    rintro e w3 ⟨rfl,hb3⟩
    exact ⟨_,_,_,by rw [sumsV,Tr.sums_c],hb3⟩
  have H2:Hid (∀ w2,Below W0.heap.size W0 w2→Calls Tryz.prog 92 #[.pointer (rootP b)] w2 fun e w3 => ∃ x y z:Int,e = .returned (.agg #[.int .u64 ((Tr.entsO b).length:Int),.int .u64 x,.int .u64 y,.int .u64 z])∧Below w2.heap.size w2 w3):=Lib.hid fun w2 h2 => by
    refine (nSums_o (hb.below (Below.andThen hb0 h2) hB (Nat.le_refl _)) (Nat.le_trans hB0 h2.size)).mono ?_
    rintro e w3 ⟨rfl,hb3⟩
    exact ⟨_,_,_,by rw [sumsV,Tr.sums_c],hb3⟩
  have HW:=Lib.hid (And.intro hW0 hb0)
  have h00:=Below.refl W0.heap.size W0
  clear ha hb hB hr0 hlt hB0 hW0 hb0
  obtain ⟨na,hna⟩:∃ n,(Tr.entsO a).length = n:=⟨_,rfl⟩
  obtain ⟨nb,hnb⟩:∃ n,(Tr.entsO b).length = n:=⟨_,rfl⟩
  rw [hna] at H1
  rw [hnb] at H2
  rw [hna,hnb]
  clear hna hnb
  generalize rootP a = pa at *
  generalize rootP b = pb at *
  obtain ⟨r,hr⟩:∃ r,decide (na≤nb) = r:=⟨_,rfl⟩
  have hr':decide ((na:Int)≤(nb:Int)) = r:=by rw [← hr];simp
  have i1:=sum_count
  rw [hr]
  go_enter Tryz.func75,Tryz.ntmps75
  go_upto_region 1 with fail
  rw [← HW.out.1]
  go_region_held3 (fun w2 => Below W0.heap.size W0 w2) (((repeat first | refine bD ?_ | with_reducible refine bN ?_ | refine bA ?_ | refine bS ?_);first | exact bR | assumption | exact bN bR | exact bN (bN bR))) (first
    | (go_at_call 92;refine (H1.out _ (show Below W0.heap.size W0 _ by ((repeat first | refine bD ?_ | with_reducible refine bN ?_ | refine bA ?_ | refine bS ?_);first | exact bR | assumption | exact bN bR | exact bN (bN bR)))).mono ?_;rintro e wa ⟨x1,x2,x3,rfl,hba⟩;have hBa:Below W0.heap.size W0 wa:=Below.trans (show Below W0.heap.size W0 _ by ((repeat first | refine bD ?_ | with_reducible refine bN ?_ | refine bA ?_ | refine bS ?_);first | exact bR | assumption | exact bN bR | exact bN (bN bR))) (hba.mono (Below.size (show Below W0.heap.size W0 _ by ((repeat first | refine bD ?_ | with_reducible refine bN ?_ | refine bA ?_ | refine bS ?_);first | exact bR | assumption | exact bN bR | exact bN (bN bR)))));clear hba H1)
    | (go_at_call 92;refine (H2.out _ (show Below W0.heap.size W0 _ by ((repeat first | refine bD ?_ | with_reducible refine bN ?_ | refine bA ?_ | refine bS ?_);first | exact bR | assumption | exact bN bR | exact bN (bN bR)))).mono ?_;rintro e wc ⟨y1,y2,y3,rfl,hbc⟩;have hBc:Below W0.heap.size W0 wc:=Below.trans (show Below W0.heap.size W0 _ by ((repeat first | refine bD ?_ | with_reducible refine bN ?_ | refine bA ?_ | refine bS ?_);first | exact bR | assumption | exact bN bR | exact bN (bN bR))) (hbc.mono (Below.size (show Below W0.heap.size W0 _ by ((repeat first | refine bD ?_ | with_reducible refine bN ?_ | refine bA ?_ | refine bS ?_);first | exact bR | assumption | exact bN bR | exact bN (bN bR)))));clear hbc H2))
  all_goals go_wp2_with fail
  all_goals go_ret
  all_goals exact ⟨rfl,Below.andThen HW.out.2 (by ((repeat first | refine bD ?_ | with_reducible refine bN ?_ | refine bA ?_ | refine bS ?_);first | exact bR | assumption | exact bN bR | exact bN (bN bR)))⟩
end Go.Proofs.YtkeepngaaleakaaGreatDoor
