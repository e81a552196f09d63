import Derived.Test.YtmkejbfgdmbejaaGreatDoorMVd
namespace Go.Proofs.YtmkejbfgdmbejaaGreatDoor
open Go.ChangeShapes Go.WideShapes Go.ChangeAt Go.RowKit
open Tr (T S4 Ent Tri KL)
theorem opt_eq (a b:Option Nat):(a.isSome == b.isSome && (((a.getD 0:Nat):Int) == ((b.getD 0:Nat):Int))) = decide (a = b):=by
  cases a with
  | none =>
    cases b with
    | none => simp
    | some y => simp
  | some x =>
    cases b with
    | none => simp
    | some y =>
      by_cases e:x = y
      · subst e;simp
      · have:((x:Int) == (y:Int)) = false:=by rw [beq_eq_false_iff_ne];omega
        simp [this,e]
def atR (c1 c2 c3 sa sb:Bool) (va vb:Nat):Bool × Nat × Bool:=if c1 = true then (sa,va,false) else if c2 = true then (sb,vb,false) else if c3 = true then (sa,va,false) else (false,0,true)
theorem atR_bec (o a b:Option Nat):atR (decide (a = b)) (decide (a = o)) (decide (b = o)) a.isSome b.isSome (a.getD 0) (b.getD 0) = (((Tr.bec o a b).getD none).isSome,((Tr.bec o a b).getD none).getD 0,(Tr.bec o a b).isNone):=by
  unfold atR Tr.bec
  by_cases h1:a = b
  · simp [h1]
  · by_cases h2:a = o
    · have h4:¬ o = b:=fun e => h1 (h2.trans e)
      simp [h2,h4]
    · by_cases h3:b = o
      · simp [h2,h3]
      · simp [h1,h2,h3]
set_option maxRecDepth 1000000 in
set_option maxHeartbeats 8000000 in
theorem at_raw {w:World} {X Y Z P:Option Addr} {nx ny nz cx cy cz np cp:Nat} {so sa sb rs q:Bool} {vo va vb rv:Nat}
    (H1:∀ w1,Below w.heap.size w w1→Calls Tryz.prog 80 #[.slice X nx cx,.slice P np cp] w1 fun e w' => e = .returned (.tuple #[.int .u64 (vo:Int),.bool so])∧w1 = w')
    (H2:∀ w1,Below w.heap.size w w1→Calls Tryz.prog 80 #[.slice Y ny cy,.slice P np cp] w1 fun e w' => e = .returned (.tuple #[.int .u64 (va:Int),.bool sa])∧w1 = w')
    (H3:∀ w1,Below w.heap.size w w1→Calls Tryz.prog 80 #[.slice Z nz cz,.slice P np cp] w1 fun e w' => e = .returned (.tuple #[.int .u64 (vb:Int),.bool sb])∧w1 = w')
    (hr:atR (sa == sb && ((va:Int) == (vb:Int))) (sa == so && ((va:Int) == (vo:Int))) (sb == so && ((vb:Int) == (vo:Int))) sa sb va vb = (rs,rv,q)) :
    Calls Tryz.prog 106 #[.slice X nx cx,.slice Y ny cy,.slice Z nz cz,.slice P np cp] w fun e w' => e = .returned (.tuple #[.bool rs,.int .u64 (rv:Int),.agg #[.slice P np cp,.bool so,.bool sa,.bool sb,.int .u64 (vo:Int),.int .u64 (va:Int),.int .u64 (vb:Int)],.bool q])∧Below w.heap.size w w':=by
  have HG1:=Lib.hid H1
  have HG2:=Lib.hid H2
  have HG3:=Lib.hid H3
  clear H1 H2 H3
  obtain ⟨q1,hq1⟩:∃ q,(sa == sb) = q:=⟨_,rfl⟩
  obtain ⟨r1,hr1⟩:∃ q,((va:Int) == (vb:Int)) = q:=⟨_,rfl⟩
  obtain ⟨q2,hq2⟩:∃ q,(sa == so) = q:=⟨_,rfl⟩
  obtain ⟨r2,hr2⟩:∃ q,((va:Int) == (vo:Int)) = q:=⟨_,rfl⟩
  obtain ⟨q3,hq3⟩:∃ q,(sb == so) = q:=⟨_,rfl⟩
  obtain ⟨r3,hr3⟩:∃ q,((vb:Int) == (vo:Int)) = q:=⟨_,rfl⟩
  rw [hq1,hr1,hq2,hr2,hq3,hr3] at hr
  have HR:=Lib.hid hr
  have hbe:=Below.refl w.heap.size w
  clear hr
  go_enter Tryz.func106,Tryz.ntmps106
  go_wp2_with fail
  refine (HG1.out _ (Below.andThen (below_alloc w _) (below_alloc _ _))).mono ?_
  rintro e w' ⟨rfl,rfl⟩
  clear HG1
  go_wp2_with fail
  refine (HG2.out _ (Below.andThen (below_alloc w _) (below_alloc _ _))).mono ?_
  rintro e w' ⟨rfl,rfl⟩
  clear HG2
  go_wp2_with fail
  refine (HG3.out _ (Below.andThen (below_alloc w _) (below_alloc _ _))).mono ?_
  rintro e w' ⟨rfl,rfl⟩
  clear HG3
  cases q1 with
  | false =>
    cases q2 with
    | false =>
      cases q3 with
      | false =>
        go_wp2_with fail
        go_region
        all_goals go_wp2_with fail
        all_goals (
          obtain ⟨rfl,rfl,rfl⟩:false = rs∧0 = rv∧true = q:=by simpa [atR] using HR.out
          refine bodyPost_ret (v:=.tuple #[.bool false,.int .u64 ((0:Nat):Int),.agg #[.slice P np cp,.bool so,.bool sa,.bool sb,.int .u64 (vo:Int),.int .u64 (va:Int),.int .u64 (vb:Int)],.bool true]) (by simp [results,Tryz.results106,go_sem]) rfl ?_
          exact ⟨rfl,by ((repeat first | refine bD ?_ | with_reducible refine bN ?_ | refine bA ?_ | refine bS ?_);first | exact bR | assumption | exact bN bR | exact bN (bN bR))⟩)
      | true =>
        cases r3 with
        | false =>
          go_wp2_with fail
          go_region
          all_goals go_wp2_with fail
          all_goals (
            obtain ⟨rfl,rfl,rfl⟩:false = rs∧0 = rv∧true = q:=by simpa [atR] using HR.out
            refine bodyPost_ret (v:=.tuple #[.bool false,.int .u64 ((0:Nat):Int),.agg #[.slice P np cp,.bool so,.bool sa,.bool sb,.int .u64 (vo:Int),.int .u64 (va:Int),.int .u64 (vb:Int)],.bool true]) (by simp [results,Tryz.results106,go_sem]) rfl ?_
            exact ⟨rfl,by ((repeat first | refine bD ?_ | with_reducible refine bN ?_ | refine bA ?_ | refine bS ?_);first | exact bR | assumption | exact bN bR | exact bN (bN bR))⟩)
        | true =>
          go_wp2_with fail
          go_region
          all_goals go_wp2_with fail
          all_goals (
            obtain ⟨rfl,rfl,rfl⟩:sa = rs∧va = rv∧false = q:=by simpa [atR] using HR.out
            refine bodyPost_ret (v:=.tuple #[.bool sa,.int .u64 (va:Int),.agg #[.slice P np cp,.bool so,.bool sa,.bool sb,.int .u64 (vo:Int),.int .u64 (va:Int),.int .u64 (vb:Int)],.bool false]) (by simp [results,Tryz.results106,go_sem]) rfl ?_
            exact ⟨rfl,by ((repeat first | refine bD ?_ | with_reducible refine bN ?_ | refine bA ?_ | refine bS ?_);first | exact bR | assumption | exact bN bR | exact bN (bN bR))⟩)
    | true =>
      cases r2 with
      | false =>
        cases q3 with
        | false =>
          go_wp2_with fail
          go_region
          all_goals go_wp2_with fail
          all_goals (
            obtain ⟨rfl,rfl,rfl⟩:false = rs∧0 = rv∧true = q:=by simpa [atR] using HR.out
            refine bodyPost_ret (v:=.tuple #[.bool false,.int .u64 ((0:Nat):Int),.agg #[.slice P np cp,.bool so,.bool sa,.bool sb,.int .u64 (vo:Int),.int .u64 (va:Int),.int .u64 (vb:Int)],.bool true]) (by simp [results,Tryz.results106,go_sem]) rfl ?_
            exact ⟨rfl,by ((repeat first | refine bD ?_ | with_reducible refine bN ?_ | refine bA ?_ | refine bS ?_);first | exact bR | assumption | exact bN bR | exact bN (bN bR))⟩)
        | true =>
          cases r3 with
          | false =>
            go_wp2_with fail
            go_region
            all_goals go_wp2_with fail
            all_goals (
              obtain ⟨rfl,rfl,rfl⟩:false = rs∧0 = rv∧true = q:=by simpa [atR] using HR.out
              refine bodyPost_ret (v:=.tuple #[.bool false,.int .u64 ((0:Nat):Int),.agg #[.slice P np cp,.bool so,.bool sa,.bool sb,.int .u64 (vo:Int),.int .u64 (va:Int),.int .u64 (vb:Int)],.bool true]) (by simp [results,Tryz.results106,go_sem]) rfl ?_
              exact ⟨rfl,by ((repeat first | refine bD ?_ | with_reducible refine bN ?_ | refine bA ?_ | refine bS ?_);first | exact bR | assumption | exact bN bR | exact bN (bN bR))⟩)
          | true =>
            go_wp2_with fail
            go_region
            all_goals go_wp2_with fail
            all_goals (
              obtain ⟨rfl,rfl,rfl⟩:sa = rs∧va = rv∧false = q:=by simpa [atR] using HR.out
              refine bodyPost_ret (v:=.tuple #[.bool sa,.int .u64 (va:Int),.agg #[.slice P np cp,.bool so,.bool sa,.bool sb,.int .u64 (vo:Int),.int .u64 (va:Int),.int .u64 (vb:Int)],.bool false]) (by simp [results,Tryz.results106,go_sem]) rfl ?_
              exact ⟨rfl,by ((repeat first | refine bD ?_ | with_reducible refine bN ?_ | refine bA ?_ | refine bS ?_);first | exact bR | assumption | exact bN bR | exact bN (bN bR))⟩)
      | true =>
        go_wp2_with fail
        go_region
        all_goals go_wp2_with fail
        all_goals (
          obtain ⟨rfl,rfl,rfl⟩:sb = rs∧vb = rv∧false = q:=by simpa [atR] using HR.out
          refine bodyPost_ret (v:=.tuple #[.bool sb,.int .u64 (vb:Int),.agg #[.slice P np cp,.bool so,.bool sa,.bool sb,.int .u64 (vo:Int),.int .u64 (va:Int),.int .u64 (vb:Int)],.bool false]) (by simp [results,Tryz.results106,go_sem]) rfl ?_
          exact ⟨rfl,by ((repeat first | refine bD ?_ | with_reducible refine bN ?_ | refine bA ?_ | refine bS ?_);first | exact bR | assumption | exact bN bR | exact bN (bN bR))⟩)
  | true =>
    cases r1 with
    | false =>
      cases q2 with
      | false =>
        cases q3 with
        | false =>
          go_wp2_with fail
          go_region
          all_goals go_wp2_with fail
          all_goals (
            obtain ⟨rfl,rfl,rfl⟩:false = rs∧0 = rv∧true = q:=by simpa [atR] using HR.out
            refine bodyPost_ret (v:=.tuple #[.bool false,.int .u64 ((0:Nat):Int),.agg #[.slice P np cp,.bool so,.bool sa,.bool sb,.int .u64 (vo:Int),.int .u64 (va:Int),.int .u64 (vb:Int)],.bool true]) (by simp [results,Tryz.results106,go_sem]) rfl ?_
            exact ⟨rfl,by ((repeat first | refine bD ?_ | with_reducible refine bN ?_ | refine bA ?_ | refine bS ?_);first | exact bR | assumption | exact bN bR | exact bN (bN bR))⟩)
        | true =>
          cases r3 with
          | false =>
            go_wp2_with fail
            go_region
            all_goals go_wp2_with fail
            all_goals (
              obtain ⟨rfl,rfl,rfl⟩:false = rs∧0 = rv∧true = q:=by simpa [atR] using HR.out
              refine bodyPost_ret (v:=.tuple #[.bool false,.int .u64 ((0:Nat):Int),.agg #[.slice P np cp,.bool so,.bool sa,.bool sb,.int .u64 (vo:Int),.int .u64 (va:Int),.int .u64 (vb:Int)],.bool true]) (by simp [results,Tryz.results106,go_sem]) rfl ?_
              exact ⟨rfl,by ((repeat first | refine bD ?_ | with_reducible refine bN ?_ | refine bA ?_ | refine bS ?_);first | exact bR | assumption | exact bN bR | exact bN (bN bR))⟩)
          | true =>
            go_wp2_with fail
            go_region
            all_goals go_wp2_with fail
            all_goals (
              obtain ⟨rfl,rfl,rfl⟩:sa = rs∧va = rv∧false = q:=by simpa [atR] using HR.out
              refine bodyPost_ret (v:=.tuple #[.bool sa,.int .u64 (va:Int),.agg #[.slice P np cp,.bool so,.bool sa,.bool sb,.int .u64 (vo:Int),.int .u64 (va:Int),.int .u64 (vb:Int)],.bool false]) (by simp [results,Tryz.results106,go_sem]) rfl ?_
              exact ⟨rfl,by ((repeat first | refine bD ?_ | with_reducible refine bN ?_ | refine bA ?_ | refine bS ?_);first | exact bR | assumption | exact bN bR | exact bN (bN bR))⟩)
      | true =>
        cases r2 with
        | false =>
          cases q3 with
          | false =>
            go_wp2_with fail
            go_region
            all_goals go_wp2_with fail
            all_goals (
              obtain ⟨rfl,rfl,rfl⟩:false = rs∧0 = rv∧true = q:=by simpa [atR] using HR.out
              refine bodyPost_ret (v:=.tuple #[.bool false,.int .u64 ((0:Nat):Int),.agg #[.slice P np cp,.bool so,.bool sa,.bool sb,.int .u64 (vo:Int),.int .u64 (va:Int),.int .u64 (vb:Int)],.bool true]) (by simp [results,Tryz.results106,go_sem]) rfl ?_
              exact ⟨rfl,by ((repeat first | refine bD ?_ | with_reducible refine bN ?_ | refine bA ?_ | refine bS ?_);first | exact bR | assumption | exact bN bR | exact bN (bN bR))⟩)
          | true =>
            cases r3 with
            | false =>
              go_wp2_with fail
              go_region
              all_goals go_wp2_with fail
              all_goals (
                obtain ⟨rfl,rfl,rfl⟩:false = rs∧0 = rv∧true = q:=by simpa [atR] using HR.out
                refine bodyPost_ret (v:=.tuple #[.bool false,.int .u64 ((0:Nat):Int),.agg #[.slice P np cp,.bool so,.bool sa,.bool sb,.int .u64 (vo:Int),.int .u64 (va:Int),.int .u64 (vb:Int)],.bool true]) (by simp [results,Tryz.results106,go_sem]) rfl ?_
                exact ⟨rfl,by ((repeat first | refine bD ?_ | with_reducible refine bN ?_ | refine bA ?_ | refine bS ?_);first | exact bR | assumption | exact bN bR | exact bN (bN bR))⟩)
            | true =>
              go_wp2_with fail
              go_region
              all_goals go_wp2_with fail
              all_goals (
                obtain ⟨rfl,rfl,rfl⟩:sa = rs∧va = rv∧false = q:=by simpa [atR] using HR.out
                refine bodyPost_ret (v:=.tuple #[.bool sa,.int .u64 (va:Int),.agg #[.slice P np cp,.bool so,.bool sa,.bool sb,.int .u64 (vo:Int),.int .u64 (va:Int),.int .u64 (vb:Int)],.bool false]) (by simp [results,Tryz.results106,go_sem]) rfl ?_
                exact ⟨rfl,by ((repeat first | refine bD ?_ | with_reducible refine bN ?_ | refine bA ?_ | refine bS ?_);first | exact bR | assumption | exact bN bR | exact bN (bN bR))⟩)
        | true =>
          go_wp2_with fail
          go_region
          all_goals go_wp2_with fail
          all_goals (
            obtain ⟨rfl,rfl,rfl⟩:sb = rs∧vb = rv∧false = q:=by simpa [atR] using HR.out
            refine bodyPost_ret (v:=.tuple #[.bool sb,.int .u64 (vb:Int),.agg #[.slice P np cp,.bool so,.bool sa,.bool sb,.int .u64 (vo:Int),.int .u64 (va:Int),.int .u64 (vb:Int)],.bool false]) (by simp [results,Tryz.results106,go_sem]) rfl ?_
            exact ⟨rfl,by ((repeat first | refine bD ?_ | with_reducible refine bN ?_ | refine bA ?_ | refine bS ?_);first | exact bR | assumption | exact bN bR | exact bN (bN bR))⟩)
    | true =>
      go_wp2_with fail
      go_region
      all_goals go_wp2_with fail
      all_goals (
        obtain ⟨rfl,rfl,rfl⟩:sa = rs∧va = rv∧false = q:=by simpa [atR] using HR.out
        refine bodyPost_ret (v:=.tuple #[.bool sa,.int .u64 (va:Int),.agg #[.slice P np cp,.bool so,.bool sa,.bool sb,.int .u64 (vo:Int),.int .u64 (va:Int),.int .u64 (vb:Int)],.bool false]) (by simp [results,Tryz.results106,go_sem]) rfl ?_
        exact ⟨rfl,by ((repeat first | refine bD ?_ | with_reducible refine bN ?_ | refine bA ?_ | refine bS ?_);first | exact bR | assumption | exact bN bR | exact bN (bN bR))⟩)
theorem great_max {a b:Option Nat} (h:a≠none∨b≠none):(Tr.great a b).isSome = true∧(Tr.great a b).getD 0 = if b.getD 0 < a.getD 0 then a.getD 0 else b.getD 0:=by
  cases a with
  | none =>
    cases b with
    | none => simp at h
    | some y => simp [Tr.great]
  | some x =>
    cases b with
    | none =>
      simp only [Tr.great,Option.isSome_some,Option.getD_some,Option.getD_none,true_and]
      split <;> omega
    | some y =>
      unfold Tr.great
      simp only [Option.getD_some]
      by_cases c:x < y
      · rw [if_pos c,if_neg (by omega)];exact ⟨rfl,rfl⟩
      · rw [if_neg c]
        refine ⟨rfl,?_⟩
        simp only [Option.getD_some]
        split <;> omega
def pickR (r:Int) (so sa sb:Bool) (vo va vb:Nat):Bool × Nat:=if r = 1 then (sa,va) else if r = 2 then (sb,vb) else if r = 3 then (so,vo) else if r = 5 then (true,if vb < va then va else vb) else (false,0)
theorem pickR_pick (r:Int) {o a b:Option Nat} (h:a≠none∨b≠none):pickR r o.isSome a.isSome b.isSome (o.getD 0) (a.getD 0) (b.getD 0) = ((Tr.pick r o a b).isSome,(Tr.pick r o a b).getD 0):=by
  unfold pickR Tr.pick
  by_cases h1:r = 1
  · simp [h1]
  · by_cases h2:r = 2
    · simp [h2]
    · by_cases h3:r = 3
      · simp [h3]
      · by_cases h5:r = 5
        · obtain ⟨g1,g2⟩:=great_max h
          simp [h5,g1,g2]
        · simp [h1,h2,h3,h5]
set_option maxRecDepth 1000000 in
set_option maxHeartbeats 4000000 in
theorem pick_raw {w:World} {P:Option Addr} {np cp:Nat} {so sa sb rs:Bool} {vo va vb rv:Nat} (r:Int) (hr:pickR r so sa sb vo va vb = (rs,rv)) :
    Calls Tryz.prog 107 #[.agg #[.slice P np cp,.bool so,.bool sa,.bool sb,.int .u64 (vo:Int),.int .u64 (va:Int),.int .u64 (vb:Int)],.int .i64 r] w fun e w' => e = .returned (.tuple #[.bool rs,.int .u64 (rv:Int)])∧Below w.heap.size w w':=by
  unfold pickR at hr
  by_cases h1:r = 1
  · subst h1
    rw [if_pos rfl] at hr
    obtain ⟨rfl,rfl⟩:=Prod.mk.inj hr
    clear hr
    go_enter Tryz.func107,Tryz.ntmps107
    go_wp2_with fail
    go_quiet (fail)
    go_wp2_with fail
    go_ret2
    exact ⟨rfl,below_drewN _ (below_alloc w _)⟩
  · rw [if_neg h1] at hr
    by_cases h2:r = 2
    · subst h2
      rw [if_pos rfl] at hr
      obtain ⟨rfl,rfl⟩:=Prod.mk.inj hr
      clear hr h1
      go_enter Tryz.func107,Tryz.ntmps107
      go_wp2_with fail
      go_quiet (fail)
      go_wp2_with fail
      go_ret2
      exact ⟨rfl,below_drewN _ (below_alloc w _)⟩
    · rw [if_neg h2] at hr
      by_cases h3:r = 3
      · subst h3
        rw [if_pos rfl] at hr
        obtain ⟨rfl,rfl⟩:=Prod.mk.inj hr
        clear hr h1 h2
        go_enter Tryz.func107,Tryz.ntmps107
        go_wp2_with fail
        go_quiet (fail)
        go_wp2_with fail
        go_ret2
        exact ⟨rfl,below_drewN _ (below_alloc w _)⟩
      · rw [if_neg h3] at hr
        by_cases h5:r = 5
        · subst h5
          rw [if_pos rfl] at hr
          obtain ⟨rfl,hv⟩:=Prod.mk.inj hr
          clear hr h1 h2 h3
          by_cases c:vb < va
          · rw [if_pos c] at hv
            subst hv
            have d1:decide ((vb:Int) < (va:Int)) = true:=decide_eq_true (by omega)
            have d2:decide (vb < va) = true:=decide_eq_true c
            clear c
            go_enter Tryz.func107,Tryz.ntmps107
            go_wp2_with fail
            go_quiet (fail)
            go_wp2_with fail
            go_ret2
            exact ⟨rfl,below_drewN _ (below_alloc w _)⟩
          · rw [if_neg c] at hv
            subst hv
            have d1:decide ((vb:Int) < (va:Int)) = false:=decide_eq_false (by omega)
            have d2:decide (vb < va) = false:=decide_eq_false c
            clear c
            go_enter Tryz.func107,Tryz.ntmps107
            go_wp2_with fail
            go_quiet (fail)
            go_wp2_with fail
            go_ret2
            exact ⟨rfl,below_drewN _ (below_alloc w _)⟩
        · rw [if_neg h5] at hr
          obtain ⟨rfl,rfl⟩:=Prod.mk.inj hr
          have e1:(r == 1) = false:=by rw [beq_eq_false_iff_ne];exact h1
          have e2:(r == 2) = false:=by rw [beq_eq_false_iff_ne];exact h2
          have e3:(r == 3) = false:=by rw [beq_eq_false_iff_ne];exact h3
          have e5:(r == 5) = false:=by rw [beq_eq_false_iff_ne];exact h5
          clear hr h1 h2 h3 h5
          go_enter Tryz.func107,Tryz.ntmps107
          go_wp2_with fail
          go_ret2
          exact ⟨rfl,below_alloc w _⟩
set_option maxRecDepth 100000 in
set_option maxHeartbeats 2000000 in
theorem r12pointsL_c {w:World} {L M:List Ent} {A A':Option Addr} {B R c c' n n' k:Nat} (zL:Tr.ZS L) (dL:Tr.Dim k L) (dM:Tr.Dim k M) (hA:EntL w B R A L) (hR:R≤w.heap.size) (hA':Ents w B A' M) (hB:B≤w.heap.size) (hn:L.length = n) (hn':M.length = n') (hc:n≤c) (h1:1≤k) (h16:k≤16) (hl:n + n'≤100000) :
    Calls Tryz.prog 66 #[.slice A n c,.slice A' n' c'] w fun e w' => ∃ D d N,e = .returned (.slice D N d)∧(Tr.ptsU L M).length = N∧EntL w' B w'.heap.size D (Tr.ptsU L M)∧N≤d∧Below w.heap.size w w':=by
  have hA0:EntL w B w.heap.size A L:=hA.keep hR (fun _ _ => rfl)
  have HX:=Lib.hid (And.intro zL (And.intro dL (And.intro dM (And.intro hA0 (And.intro hA' (And.intro hn (And.intro hn' (And.intro hc (And.intro h1 (And.intro h16 (And.intro hl hB)))))))))))
  have hn9:(n':Int)≤100000:=by omega
  clear zL dL dM hA hA0 hA' hn hn' hc h1 h16 hl hB hR
  go_enter Tryz.func66,Tryz.ntmps66
  go_wp2_with fail
  go_loopw [0,5] (fun u v wr => ∃ (j m:Nat) (D:Option Addr) (d:Nat),u = .slice D m d∧v = .int .i64 (j:Int)∧j≤n'∧(Tr.ptsU L (M.take j)).length = m∧EntL wr B wr.heap.size D (Tr.ptsU L (M.take j))∧m≤d∧Below w.heap.size w wr) (fun _ v _ => n' - (intOf v).toNat)
  case atStart => exact ⟨0,n,A,c,rfl,rfl,Nat.zero_le _,HX.out.2.2.2.2.2.1,HX.out.2.2.2.1,HX.out.2.2.2.2.2.2.2.1,Below.refl _ _⟩
  case round =>
    obtain ⟨j,m,D,d,rfl,rfl,hj,hm,hE,hmd,hb⟩:=hrel
    by_cases hlt:j < n'
    · obtain ⟨e,he⟩:=get_lt (us:=M) (k:=j) (by rw [HX.out.2.2.2.2.2.2.1];exact hlt)
      obtain ⟨zL,dL,dM,hA,hA',hn,hn',hc,h1,h16,hl,hB⟩:=HX.out
      have hde:=dM e (List.mem_of_getElem? he)
      obtain ⟨b,off,P,pc,hAA,hbl,v0,-,pp,-,-⟩:=(EntL.below (R:=B) hA' hb hB hB (Nat.le_refl _)).at he
      subst hAA
      obtain ⟨z1,d1,l1,-⟩:=Tr.ptsU_zs (M:=M.take j) zL dL (fun x hx => dM x (List.mem_of_mem_take hx))
      have hlt2:(M.take j).length≤n':=by rw [List.length_take];omega
      obtain ⟨np,hnp⟩:∃ np,e.1.length = np:=⟨_,rfl⟩
      have hP:=rput6_c (c:=d) (c':=pc) z1 d1 hE pp hde.1 h1 h16 (by omega) (Nat.le_refl _) (Nat.le_trans hB hb.size) (by rw [hm];exact hmd) 0 (by omega)
      rw [← Tr.ptsU_take he,hm,hnp] at hP
      obtain ⟨m2,hm2⟩:∃ m2,(Tr.ptsU L (M.take (j + 1))).length = m2:=⟨_,rfl⟩
      rw [hm2] at hP
      rw [hnp] at v0
      have HP:=Lib.hid hP
      have HE:=Lib.hid (And.intro hb (And.intro hm2 hlt))
      have f1:decide ((j:Int) < (n':Int)) = true:=decide_eq_true (by omega)
      have f1':decide (j < n') = true:=decide_eq_true hlt
      have n1:(0:Int)≤(j:Int):=by omega
      have n2:(j:Int) < (n':Int):=by omega
      have n3:(j:Int)≤100000:=by omega
      clear hP hb hm2 hlt hnp z1 d1 l1 hlt2 pp hde hE hm hmd he zL dL dM hA hA' hn hn' hc h1 h16 hl hj hbl hB
      go_wp2_with fail
      refine HP.out.mono ?_
      rintro e' w2 ⟨D2,d2,rfl,hE2,hd2,hb2⟩
      have H2:=Lib.hid (And.intro hE2 (And.intro hd2 (Below.andThen HE.out.1 hb2)))
      clear hE2 hd2 hb2 HP
      go_wp2_with fail
      go_roundw
      case rel => exact ⟨j + 1,m2,D2,d2,rfl,by first | rfl | go_num,by have:=HE.out.2.2;omega,HE.out.2.1,H2.out.1,H2.out.2.1,H2.out.2.2⟩
      case measure =>
        have:=HE.out.2.2
        show n' - ((j:Int) + 1).toNat < n' - (j:Int).toNat
        omega
    · have hjn:n' = j:=by omega
      subst hjn
      have f1:decide ((n':Int) < (n':Int)) = false:=decide_eq_false (by omega)
      have f1':decide (n' < n') = false:=decide_eq_false (by omega)
      rw [show M.take n' = M by rw [← HX.out.2.2.2.2.2.2.1,List.take_length]] at hm hE
      have HR:=Lib.hid (And.intro hm (And.intro hE (And.intro hmd hb)))
      clear hm hE hmd hb hlt hj
      go_wp2_with fail
      go_ret
      exact ⟨D,d,m,rfl,HR.out.1,HR.out.2.1,HR.out.2.2.1,HR.out.2.2.2⟩
structure ByI (w2:World) (B base g1 g2:Nat) (M1:List Ent) (D:Option Addr) (m1 d:Nat) (M2:List Cls) (V:Option Addr) (m2 c:Nat) (W:World):Prop where
  own1:OwnL 69 2 (EntQ w2 B) W base (.slice D m1 d) M1
  own2:OwnL 91 7 (ClG w2 fun b => b < B) W base (.slice V m2 c) M2
  len1:M1.length = m1
  len2:M2.length = m2
  at1:∀ q,D.map (·.block) = some q→q = g1∨w2.heap.size≤q
  at2:∀ q,V.map (·.block) = some q→q = g2∨w2.heap.size≤q
  old:base≤W.heap.size
  ne:∀ q,D.map (·.block) = some q→V.map (·.block)≠some q
  foot:Foot (fun b => b = g1∨b = g2) w2 W
section
variable {w2 W W' w5:World} {B base g1 g2 m1 d d' m2 c c':Nat} {M1:List Ent} {D D':Option Addr} {M2:List Cls} {V V':Option Addr} {x:Ent} {y:Cls}
theorem ByI.below (h:ByI w2 B base g1 g2 M1 D m1 d M2 V m2 c W) (hb:Below W.heap.size W W'):ByI w2 B base g1 g2 M1 D m1 d M2 V m2 c W' :=
  ⟨h.own1.below hb (Nat.le_refl _),h.own2.below hb (Nat.le_refl _),h.len1,h.len2,h.at1,h.at2,Nat.le_trans h.old hb.size,h.ne,h.foot.trans (Foot.of_below (F:=fun b => b = g1∨b = g2) hb) (fun _ hb => .inl hb)⟩
theorem ByI.app1 (h:ByI w2 B base g1 g2 M1 D m1 d M2 V m2 c W) (hb:Below W.heap.size W W') (hown:OwnL 69 2 (EntQ w2 B) w5 base (.slice D' (m1 + 1) d') (M1 ++ [x])) (hgr:W'.grownBy w5 (Value.slice D m1 d).ownBlock)
    (hat:(Value.slice D' (m1 + 1) d').ownBlock = (Value.slice D m1 d).ownBlock∨(Value.slice D' (m1 + 1) d').ownBlock = some W'.heap.size):ByI w2 B base g1 g2 (M1 ++ [x]) D' (m1 + 1) d' M2 V m2 c w5:=by
  have hl:=h.len1
  subst hl
  rw [own_block,own_block] at hat
  rw [own_block] at hgr
  have s1:=hb.size
  have sf:=h.foot.size
  have hV:∀ q,V.map (·.block) = some q→q < W.heap.size:=fun q hq => (h.own2.lt q (by rw [own_block];exact hq)).2
  refine ⟨hown,(h.own2.below hb (Nat.le_refl _)).block fun q hq => hgr.block q (by rw [own_block] at hq;have:=hV q hq;omega) (fun e => h.ne q e.symm (by rw [own_block] at hq;exact hq)),by simp,h.len2,fun q hq => ?_,h.at2,Nat.le_trans h.old (Nat.le_trans s1 hgr.size),fun q hq => ?_,?_⟩
  · rcases hat with e | e
    · exact h.at1 q (by rw [← e];exact hq)
    · rw [e] at hq;simp only [Option.some.injEq] at hq;exact .inr (by omega)
  · rcases hat with e | e
    · exact h.ne q (by rw [← e];exact hq)
    · rw [e] at hq;simp only [Option.some.injEq] at hq
      intro e2
      have:=hV q e2
      omega
  · refine h.foot.trans (F1:=fun b => D.map (·.block) = some b) ⟨hgr.os.trans hb.os,hgr.tape.trans hb.tape,hgr.output.trans hb.output,Nat.le_trans s1 hgr.size,fun b hlt hn => (hgr.block b (by omega) (fun e => hn e.symm)).trans (hb.block b hlt)⟩ fun b hb' => ?_
    rcases h.at1 b hb' with e | e
    · exact .inl (.inl e)
    · exact .inr e
theorem ByI.app2 (h:ByI w2 B base g1 g2 M1 D m1 d M2 V m2 c W) (hb:Below W.heap.size W W') (hown:OwnL 91 7 (ClG w2 fun b => b < B) w5 base (.slice V' (m2 + 1) c') (M2 ++ [y])) (hgr:W'.grownBy w5 (Value.slice V m2 c).ownBlock)
    (hat:(Value.slice V' (m2 + 1) c').ownBlock = (Value.slice V m2 c).ownBlock∨(Value.slice V' (m2 + 1) c').ownBlock = some W'.heap.size):ByI w2 B base g1 g2 M1 D m1 d (M2 ++ [y]) V' (m2 + 1) c' w5:=by
  have hl:=h.len2
  subst hl
  rw [own_block,own_block] at hat
  rw [own_block] at hgr
  have s1:=hb.size
  have sf:=h.foot.size
  have hD:∀ q,D.map (·.block) = some q→q < W.heap.size:=fun q hq => (h.own1.lt q (by rw [own_block];exact hq)).2
  refine ⟨(h.own1.below hb (Nat.le_refl _)).block fun q hq => hgr.block q (by rw [own_block] at hq;have:=hD q hq;omega) (fun e => h.ne q (by rw [own_block] at hq;exact hq) e.symm),hown,h.len1,by simp,h.at1,fun q hq => ?_,Nat.le_trans h.old (Nat.le_trans s1 hgr.size),fun q hq => ?_,?_⟩
  · rcases hat with e | e
    · exact h.at2 q (by rw [← e];exact hq)
    · rw [e] at hq;simp only [Option.some.injEq] at hq;exact .inr (by omega)
  · rcases hat with e | e
    · rw [e];exact h.ne q hq
    · rw [e]
      intro e2
      simp only [Option.some.injEq] at e2
      have:=hD q hq
      omega
  · refine h.foot.trans (F1:=fun b => V.map (·.block) = some b) ⟨hgr.os.trans hb.os,hgr.tape.trans hb.tape,hgr.output.trans hb.output,Nat.le_trans s1 hgr.size,fun b hlt hn => (hgr.block b (by omega) (fun e => hn e.symm)).trans (hb.block b hlt)⟩ fun b hb' => ?_
    rcases h.at2 b hb' with e | e
    · exact .inl (.inr e)
    · exact .inr e
end
theorem ByI.cell {w2 W:World} {B base g1 g2 m1 d m2 c b i:Nat} {M1:List Ent} {D:Option Addr} {M2:List Cls} {V:Option Addr} {x:Value} (h:ByI w2 B base g1 g2 M1 D m1 d M2 V m2 c W) (hb:b < w2.heap.size) (h1:b≠g1) (h2:b≠g2) (hv:w2.cell? ⟨b,i,none⟩ = some x):W.cell? ⟨b,i,none⟩ = some x :=
  (World.cell?_of_block (a:=⟨b,i,none⟩) (h.foot.block b hb (fun e => by rcases e with e | e;exact h1 e;exact h2 e))).trans hv
structure ElI (w w2:World) (U:List Ent) (fM:Ent→Option Ent) (fC:Ent→Option Cls) (e:Ent) (P:Option Addr) (np pc j N2:Nat) (o a b:Option Nat) (so sa sb:Bool) (vo va vb:Nat) (x:Option Nat) (q:Bool):Prop where
  at_:U[j]? = some e
  pts:Pts w2 w.heap.size P e.1
  len:e.1.length = np
  k16:np≤16
  lt:j < N2
  cells:ClG w2 (fun b => b < w.heap.size) (fun i => (#[.slice P np pc,.bool so,.bool sa,.bool sb,.int .u64 (vo:Int),.int .u64 (va:Int),.int .u64 (vb:Int)]:Array Value)[i]?) (e.1,(o,a,b))
  mg:fM e = x.map fun v => (e.1,v)
  cl:fC e = if q = true then some (e.1,(o,a,b)) else none
  rv:∀ v,x = some v→v < 18446744073709551616
theorem bec_some_of {o a b:Option Nat} (h:Tr.bec o a b = none):a≠none∨b≠none:=by
  cases a with
  | some x => exact .inl (by simp)
  | none =>
    cases b with
    | some x => exact .inr (by simp)
    | none => rw [Tr.bec_ab] at h;cases h
set_option maxRecDepth 1000000 in
set_option maxHeartbeats 16000000 in
theorem r14by_c {w:World} {O A B:List Ent} {X Y Z:Option Addr} {cx cy cz nx ny nz k:Nat} (zO:Tr.ZS O) (dO:Tr.Dim k O) (zA:Tr.ZS A) (dA:Tr.Dim k A) (zB:Tr.ZS B) (dB:Tr.Dim k B) (hX:Ents w w.heap.size X O) (hY:Ents w w.heap.size Y A) (hZ:Ents w w.heap.size Z B)
    (hnx:O.length = nx) (hny:A.length = ny) (hnz:B.length = nz) (hcx:nx≤cx) (k1:1≤k) (k16:k≤16) (hl:nx + ny + nz≤10000) (r:Int) {M:List Ent} {C:List Cls} {N n:Nat} (hM:Tr.ppL (Tr.mgG r) O A B = M) (hC:Tr.ppL Tr.clG O A B = C) (hN:M.length = N) (hn:C.length = n) :
    Calls Tryz.prog 52 #[.slice X nx cx,.slice Y ny cy,.slice Z nz cz,.int .i64 r] w fun e w' => ∃ D d V c,e = .returned (.tuple #[.slice D N d,.slice V n c])∧Ents w' w'.heap.size D M∧N≤d∧Cks w' V C∧Below w.heap.size w w':=by
  have hal1:=below_alloc w (.cells #[] 69)
  have hal2:=below_alloc (w.alloc (.cells #[] 69)) (.cells #[] 91)
  have hmt1:=hal2.block w.heap.size (by simp) |>.trans (heap_at w (.cells #[] 69) _ rfl)
  have hmt2:=heap_at (w.alloc (.cells #[] 69)) (.cells #[] 91) _ rfl
  rw [World.size_alloc] at hmt2
  have hO1:∀ Q,OwnL 69 2 Q ((w.alloc (.cells #[] 69)).alloc (.cells #[] 91)) w.heap.size (.slice (some ⟨w.heap.size,0,none⟩) 0 0) ([]:List Ent):=fun Q => (ownL_nil (n:=2) (Q:=Q) 69 w).below hal2 (Nat.le_refl _)
  have hO2:∀ Q,OwnL 91 7 Q ((w.alloc (.cells #[] 69)).alloc (.cells #[] 91)) w.heap.size (.slice (some ⟨w.heap.size + 1,0,none⟩) 0 0) ([]:List Cls):=fun Q => by
    have h:=(ownL_nil (n:=7) (Q:=Q) 91 (w.alloc (.cells #[] 69))).mono (base':=w.heap.size) (by simp)
    rw [World.size_alloc] at h
    exact h
  have hal:=Below.andThen hal1 hal2
  have hsz:((w.alloc (.cells #[] 69)).alloc (.cells #[] 91)).heap.size = w.heap.size + 1 + 1:=by simp
  obtain ⟨W0,hW0⟩:∃ W0,W0 = (w.alloc (.cells #[] 69)).alloc (.cells #[] 91):=⟨_,rfl⟩
  rw [← hW0] at hal hmt1 hmt2 hO1 hO2 hsz
  have HP:=Lib.hid (r12pointsL_c (w:=W0) (B:=w.heap.size) (R:=w.heap.size) (c:=cx) (c':=cy) zO dO dA (Ents.below hX hal (Nat.le_refl _) (Nat.le_refl _)) hal.size (Ents.below hY hal (Nat.le_refl _) (Nat.le_refl _)) hal.size hnx hny hcx k1 k16 (by omega))
  obtain ⟨zU1,dU1,lU1,-⟩:=Tr.ptsU_zs (k:=k) zO dO dA
  obtain ⟨zU,dU,lU,-⟩:=Tr.pts3 zO dO dA dB
  have HX:=Lib.hid (And.intro zO (And.intro dO (And.intro zA (And.intro dA (And.intro zB (And.intro dB (And.intro hX (And.intro hY (And.intro hZ (And.intro hnx (And.intro hny hnz)))))))))))
  have HK:=Lib.hid (And.intro k1 (And.intro k16 (And.intro hl (And.intro zU1 (And.intro dU1 lU1)))))
  have HC:=Lib.hid (And.intro hM (And.intro hC (And.intro hN (And.intro hn (And.intro dU lU)))))
  have HB0:=Lib.hid (And.intro hal (And.intro hmt1 (And.intro hmt2 (And.intro hsz (And.intro hO1 hO2)))))
  have HW0:=Lib.hid hW0
  clear zO dO zA dA zB dB hX hY hZ hnx hny hnz hcx k1 k16 hl hM hC hN hn hal1 hal2 hmt1 hmt2 hO1 hO2 hal hsz zU1 dU1 lU1 zU dU lU hW0
  go_enter Tryz.func52,Tryz.ntmps52
  go_upto_region 3 with fail
  rw [← HW0.out]
  clear HW0
  go_wp2_with fail
  refine HP.out.mono ?_
  rintro e w1 ⟨D1,d1,N1,rfl,hN1,hE1,hd1,hb1⟩
  have hB1:=Below.trans HB0.out.1 (hb1.mono HB0.out.1.size)
  have HP2:=Lib.hid (r12pointsL_c (w:=w1) (B:=w.heap.size) (R:=w1.heap.size) (c:=d1) (c':=cz) HK.out.2.2.2.1 HK.out.2.2.2.2.1 HX.out.2.2.2.2.2.1 hE1 (Nat.le_refl _) (Ents.below HX.out.2.2.2.2.2.2.2.2.1 hB1 (Nat.le_refl _) (Nat.le_refl _)) hB1.size hN1 HX.out.2.2.2.2.2.2.2.2.2.2.2 hd1 HK.out.1 HK.out.2.1 (by have h1:=HK.out.2.2.2.2.2;have h2:=HK.out.2.2.1;have h3:=HX.out.2.2.2.2.2.2.2.2.2;rw [hN1,h3.1,h3.2.1] at h1;omega))
  have H1:=Lib.hid (And.intro hb1 hB1)
  clear hN1 hE1 hd1 hb1 hB1 HP
  go_wp2_with fail
  refine HP2.out.mono ?_
  rintro e w2 ⟨D2,d2,N2,rfl,hN2,hE2,hd2,hb2⟩
  have hB2:=Below.andThen H1.out.2 hb2
  have hB02:=Below.andThen H1.out.1 hb2
  have hm1:=(hB02.block w.heap.size (by have:=HB0.out.2.2.2.1;omega)).trans HB0.out.2.1
  have hm2:=(hB02.block (w.heap.size + 1) (by have:=HB0.out.2.2.2.1;omega)).trans HB0.out.2.2.1
  obtain ⟨U,hU⟩:∃ U,Tr.ptsU (Tr.ptsU O A) B = U:=⟨_,rfl⟩
  rw [hU] at hN2 hE2
  have hdU:=HC.out.2.2.2.2.1
  have hlU:=HC.out.2.2.2.2.2
  rw [hU] at hdU hlU
  obtain ⟨fM,hfM⟩:∃ f:Ent→Option Ent,f = fun e => Tr.ppAt (Tr.mgG r) O A B e.1:=⟨_,rfl⟩
  obtain ⟨fC,hfC⟩:∃ f:Ent→Option Cls,f = fun e => Tr.ppAt Tr.clG O A B e.1:=⟨_,rfl⟩
  have hst:ByI w2 w.heap.size w.heap.size w.heap.size (w.heap.size + 1) ((U.take 0).filterMap fM) (some ⟨w.heap.size,0,none⟩) 0 0 ((U.take 0).filterMap fC) (some ⟨w.heap.size + 1,0,none⟩) 0 0 w2:=by
    refine ⟨(HB0.out.2.2.2.2.1 _).below hB02 (Nat.le_refl _),(HB0.out.2.2.2.2.2 _).below hB02 (Nat.le_refl _),rfl,rfl,fun q hq => ?_,fun q hq => ?_,hB2.size,fun q hq e => ?_,Foot.of_below (Below.refl _ _)⟩
    · simp only [Option.map_some,Option.some.injEq] at hq;exact .inl hq.symm
    · simp only [Option.map_some,Option.some.injEq] at hq;exact .inl hq.symm
    · simp only [Option.map_some,Option.some.injEq] at hq e;omega
  have hNle:N2≤10000:=by have h1:=HK.out.2.2.1;have h3:=HX.out.2.2.2.2.2.2.2.2.2;rw [h3.1,h3.2.1,h3.2.2] at hlU;omega
  have H2:=Lib.hid (And.intro hN2 (And.intro hE2 (And.intro hB2 (And.intro hm1 (And.intro hm2 (And.intro hdU (And.intro hU (And.intro hfM hfC))))))))
  have hn2:(N2:Int)≤10000:=by omega
  have HS:=Lib.hid hst
  clear hN2 hE2 hd2 hb2 hB2 hB02 hm1 hm2 hdU hlU hU hfM hfC hst HP2
  go_wp2_with fail
  go_loopw [10,11,13] (fun u v i wr => ∃ (j m1:Nat) (D:Option Addr) (d m2:Nat) (V:Option Addr) (c:Nat),u = .slice D m1 d∧v = .slice V m2 c∧i = .int .i64 (j:Int)∧j≤N2∧ByI w2 w.heap.size w.heap.size w.heap.size (w.heap.size + 1) ((U.take j).filterMap fM) D m1 d ((U.take j).filterMap fC) V m2 c wr) (fun _ _ i _ => N2 - (intOf i).toNat)
  case atStart => exact ⟨0,0,_,0,0,_,0,rfl,rfl,rfl,Nat.zero_le _,HS.out⟩
  case round =>
    clear HS
    obtain ⟨j,m1,D,d,m2,V,c,rfl,rfl,rfl,hj,hI⟩:=hrel
    by_cases hlt:j < N2
    · obtain ⟨e,he⟩:=get_lt (us:=U) (k:=j) (by rw [H2.out.1];exact hlt)
      have hde:=H2.out.2.2.2.2.2.1 e (List.mem_of_getElem? he)
      obtain ⟨b0,off,P,pc,hAA,hbl,v0,-,pp,-,-⟩:=H2.out.2.1.at he
      have hbn1:b0≠w.heap.size:=fun e => by
        subst e
        rw [cell_of_row w2 _ _ _ _ (0,0) H2.out.2.2.2.1] at v0
        simp at v0
      have hbn2:b0≠w.heap.size + 1:=fun e => by
        subst e
        rw [cell_of_row w2 _ _ _ _ (0,0) H2.out.2.2.2.2.1] at v0
        simp at v0
      subst hAA
      obtain ⟨np,hnp⟩:∃ np,e.1.length = np:=⟨_,rfl⟩
      rw [hnp] at v0
      have hbw:Below w.heap.size w2 wr:=hI.foot.below H2.out.2.2.1.size (fun b hb => by rcases hb with hb | hb <;> omega)
      have hBw:=H2.out.2.2.1.trans hbw
      have z0:=hI.cell hbl hbn1 hbn2 v0
      have HZ:=Lib.hid (And.intro hbl (And.intro hbn1 (And.intro hbn2 v0)))
      have ppw:Pts wr w.heap.size P e.1:=pp.below' hbw (Nat.le_refl _)
      obtain ⟨o,ho⟩:∃ g,Tr.getE O e.1 = g:=⟨_,rfl⟩
      obtain ⟨a,ha⟩:∃ g,Tr.getE A e.1 = g:=⟨_,rfl⟩
      obtain ⟨b,hb⟩:∃ g,Tr.getE B e.1 = g:=⟨_,rfl⟩
      obtain ⟨zO,dO,zA,dA,zB,dB,hX,hY,hZ,hnx,hny,hnz⟩:=HX.out
      have hl:=HK.out.2.2.1
      have hg:∀ {L:List Ent} {A':Option Addr} {c' n':Nat} {g:Option Nat} {s:Bool} {v:Nat},Tr.ZS L→Tr.Dim k L→Ents w w.heap.size A' L→L.length = n'→n'≤10000→Tr.getE L e.1 = g→g.isSome = s→g.getD 0 = v→∀ w4,Below wr.heap.size wr w4→Calls Tryz.prog 80 #[.slice A' n' c',.slice P np pc] w4 fun e w' => e = .returned (.tuple #[.int .u64 (v:Int),.bool s])∧w4 = w':=fun {L A' c' n' g s v} zL dL hL hn' hle hg hs hv w4 hb4 => by
        have hB4:=hBw.trans (hb4.mono hBw.size)
        have h:=rget6_c (c:=c') (c':=pc) zL dL (Ents.below hL hB4 (Nat.le_refl _) (Nat.le_refl _)) (ppw.below' hb4 hBw.size) hde.1 HK.out.1 HK.out.2.1 (by omega) g hg
        rw [hn',hnp,hs,hv] at h
        exact h
      obtain ⟨so,hso⟩:∃ s,o.isSome = s:=⟨_,rfl⟩
      obtain ⟨sa,hsa⟩:∃ s,a.isSome = s:=⟨_,rfl⟩
      obtain ⟨sb,hsb⟩:∃ s,b.isSome = s:=⟨_,rfl⟩
      obtain ⟨vo,hvo⟩:∃ v,o.getD 0 = v:=⟨_,rfl⟩
      obtain ⟨va,hva⟩:∃ v,a.getD 0 = v:=⟨_,rfl⟩
      obtain ⟨vb,hvb⟩:∃ v,b.getD 0 = v:=⟨_,rfl⟩
      have hR:=atR_bec o a b
      rw [← opt_eq a b,← opt_eq a o,← opt_eq b o,hso,hsa,hsb,hvo,hva,hvb] at hR
      have HAt:=at_raw (hg (c':=cx) zO dO hX hnx (by omega) ho hso hvo) (hg (c':=cy) zA dA hY hny (by omega) ha hsa hva) (hg (c':=cz) zB dB hZ hnz (by omega) hb hsb hvb) hR
      have hclt:clLt (o,a,b):=⟨getE_lt zO dO hde.1 hde.2.1 ho,getE_lt zA dA hde.1 hde.2.1 ha,getE_lt zB dB hde.1 hde.2.1 hb⟩
      have hcells:ClG w2 (fun b => b < w.heap.size) (fun i => (#[.slice P np pc,.bool so,.bool sa,.bool sb,.int .u64 (vo:Int),.int .u64 (va:Int),.int .u64 (vb:Int)]:Array Value)[i]?) (e.1,(o,a,b)) :=
        ⟨P,pc,⟨by rw [← hnp];rfl,by rw [← hso];rfl,by rw [← hsa];rfl,by rw [← hsb];rfl⟩,⟨by rw [← hvo];rfl,by rw [← hva];rfl,by rw [← hvb];rfl⟩,ptsG_of pp H2.out.2.2.1.size,by have:=hde.1;have:=HK.out.2.1;unfold maxLen;show e.1.length≤_;omega,hclt⟩
      obtain ⟨x,hx⟩:∃ x,Tr.mgG r o a b = x:=⟨_,rfl⟩
      have hfm:fM e = x.map fun v => (e.1,v):=by rw [H2.out.2.2.2.2.2.2.2.1];show Tr.ppAt (Tr.mgG r) O A B e.1 = _;unfold Tr.ppAt;rw [ho,ha,hb,hx]
      have hfc:fC e = if (Tr.bec o a b).isNone = true then some (e.1,(o,a,b)) else none:=by
        rw [H2.out.2.2.2.2.2.2.2.2];show Tr.ppAt Tr.clG O A B e.1 = _;unfold Tr.ppAt;rw [ho,ha,hb];unfold Tr.clG
        cases Tr.bec o a b <;> rfl
      have hrv:∀ v,x = some v→v < 18446744073709551616:=fun v hv => by
        have hm:=(Tr.mem_ppL (c:=((e.1,v):Ent)) (Tr.mg_none r) zO zA zB dO dA dB).2 ⟨⟨hde.1,hde.2.1⟩,by show Tr.mgG r (Tr.getE O e.1) (Tr.getE A e.1) (Tr.getE B e.1) = some v;rw [ho,ha,hb,hx,hv]⟩
        exact ((Tr.mg_dim r zO zA zB dO dA dB).2 _ hm).2.2
      have HE:=Lib.hid (ElI.mk (w:=w) (w2:=w2) (N2:=N2) he pp hnp (by rw [← hnp,hde.1];exact HK.out.2.1) hlt hcells hfm hfc hrv)
      have HI:=Lib.hid hI
      have f1:decide ((j:Int) < (N2:Int)) = true:=decide_eq_true (by omega)
      have f1':decide (j < N2) = true:=decide_eq_true hlt
      have n1:(0:Int)≤(j:Int):=by omega
      have n2:(j:Int) < (N2:Int):=by omega
      have n3:(j:Int)≤10000:=by omega
      have hm1:m1≤10000:=by
        rw [← hI.len1]
        exact Nat.le_trans (List.length_filterMap_le _ _) (by rw [List.length_take];omega)
      have hm2:m2≤10000:=by
        rw [← hI.len2]
        exact Nat.le_trans (List.length_filterMap_le _ _) (by rw [List.length_take];omega)
      obtain ⟨M1,hM1⟩:∃ M1,(U.take j).filterMap fM = M1:=⟨_,rfl⟩
      obtain ⟨M2,hM2⟩:∃ M2,(U.take j).filterMap fC = M2:=⟨_,rfl⟩
      rw [hM1,hM2] at HI
      have HMM:=Lib.hid (And.intro hM1 hM2)
      have HB:=Lib.hid hb
      clear hI hde hbl hbn1 hbn2 v0 pp hbw hBw ppw zO dO zA dA zB dB hX hY hZ hnx hny hnz hl hg hR hclt hcells hfm hfc hrv hnp hlt he hj hM1 hM2 ho ha
      cases hbec:Tr.bec o a b with
      | none =>
        have hmx:Tr.pick r o a b = x:=by rw [← hx];unfold Tr.mgG;rw [hbec]
        have hpk:=pickR_pick r (o:=o) (bec_some_of hbec)
        rw [hmx,hso,hsa,hsb,hvo,hva,hvb] at hpk
        rw [hbec] at HAt HE
        simp only [Option.getD_none,Option.isSome_none,Option.isNone_none] at HAt HE
        have HAt:=Lib.hid HAt
        clear hso hsa hsb hvo hva hvb hbec hmx hx hb
        cases x with
        | none =>
          simp only [Option.isSome_none,Option.getD_none] at hpk
          have HPk:=Lib.hid fun w6:World => pick_raw (w:=w6) (P:=P) (np:=np) (cp:=pc) r hpk
          clear hpk
          go_wp2_with fail
          refine HAt.out.mono ?_
          rintro e' w3 ⟨rfl,hb3⟩
          go_upto_region 8 with fail
          obtain ⟨W3,hW3⟩:∃ W3,W3 = w3.alloc (.cells #[.slice P np pc,.bool so,.bool sa,.bool sb,.int .u64 (vo:Int),.int .u64 (va:Int),.int .u64 (vb:Int)] 91):=⟨_,rfl⟩
          have hb4:Below wr.heap.size wr W3:=by rw [hW3];exact Below.andThen hb3 (below_alloc _ _)
          have hq3:W3.heap[w3.heap.size]? = some (.cells #[.slice P np pc,.bool so,.bool sa,.bool sb,.int .u64 (vo:Int),.int .u64 (va:Int),.int .u64 (vb:Int)] 91 (0,0)):=by rw [hW3];exact heap_at _ _ _ rfl
          have hgc:wr.heap.size≤w3.heap.size:=hb3.size
          have hgl:w3.heap.size < W3.heap.size:=by rw [hW3];simp
          rw [← hW3]
          clear hW3 HAt z0
          obtain ⟨gC,hgC⟩:∃ gC,w3.heap.size = gC:=⟨_,rfl⟩
          rw [hgC] at hq3 hgc hgl ⊢
          have HI3:=Lib.hid (HI.out.below hb4)
          have HG:=Lib.hid (And.intro hgc (And.intro hgl hq3))
          clear hb3 hb4 hgC hgc hgl
          obtain ⟨k0,k1,k2,k3,k4,k5,k6⟩:=row7 hq3
          clear hq3
          go_wp2_with (at_builtin;refine wpList_append_list (Q:=ClG w2 fun b => b < w.heap.size) 46 91 (.agg #[.slice none 0 0,.bool false,.bool false,.bool false,.int .u64 0,.int .u64 0,.int .u64 0]) 56 Tryz.underlying46 infoCls (by rfl) (by omega) (by omega) (clG_ok _ _) (by rfl) _ _ (by rfl) w.heap.size (.slice V m2 c) M2 [((e.1,(o,a,b)):Cls)] (m2 + 1) (by rw [HI3.out.len2];rfl) (by rfl) (by exact HI3.out.own2.below (below_alloc _ _) (Nat.le_refl _)) _ _ 1 1 (by rfl) (by rfl) (by exact lst_at (clG_ok _ _) #[.slice P np pc,.bool so,.bool sa,.bool sb,.int .u64 (vo:Int),.int .u64 (va:Int),.int .u64 (vb:Int)] ((e.1,(o,a,b)):Cls) (by rfl) (by exact HE.out.cells)) (by omega) (by have:=HI3.out.old;simp;omega) ?_;intro V5 c5 w6 hown5 hgrow5 hat5;have HN2:=Lib.hid (HI3.out.app2 (below_alloc _ _) hown5 hgrow5 hat5);have hq6:=(hgrow5.block gC (by have:=HG.out.2.1;simp;omega) (fun e => by rw [own_block] at e;have h1:=HI.out.own2.lt gC (by rw [own_block];exact e.symm);have h2:=HG.out.1;omega)).trans (((below_alloc W3 _).block gC HG.out.2.1).trans HG.out.2.2);clear hown5 hgrow5 hat5 k0 k1 k2 k3 k4 k5 k6;obtain ⟨k0,k1,k2,k3,k4,k5,k6⟩:=row7 hq6;clear hq6)
          refine (HPk.out w6).mono ?_
          rintro e' w7 ⟨rfl,hb7⟩
          have HI7:=Lib.hid (HN2.out.below hb7)
          clear k0 k1 k2 k3 k4 k5 k6 hb7 HPk
          go_wp2_with fail
          go_roundw
          case rel =>
            refine ⟨j + 1,m1,D,d,m2 + 1,V5,c5,rfl,rfl,by first | rfl | go_num,by have:=HE.out.lt;omega,?_⟩
            rw [filterMap_take fM HE.out.at_,filterMap_take fC HE.out.at_,HE.out.mg,HE.out.cl,HMM.out.1,HMM.out.2]
            simpa using HI7.out
          case measure =>
            have:=HE.out.lt
            show N2 - ((j:Int) + 1).toNat < N2 - (j:Int).toNat
            omega
        | some v =>
          simp only [Option.isSome_some,Option.getD_some] at hpk
          have HPk:=Lib.hid fun w6:World => pick_raw (w:=w6) (P:=P) (np:=np) (cp:=pc) r hpk
          have HV:=Lib.hid (HE.out.rv v rfl)
          clear hpk
          go_wp2_with fail
          refine HAt.out.mono ?_
          rintro e' w3 ⟨rfl,hb3⟩
          go_upto_region 8 with fail
          obtain ⟨W3,hW3⟩:∃ W3,W3 = w3.alloc (.cells #[.slice P np pc,.bool so,.bool sa,.bool sb,.int .u64 (vo:Int),.int .u64 (va:Int),.int .u64 (vb:Int)] 91):=⟨_,rfl⟩
          have hb4:Below wr.heap.size wr W3:=by rw [hW3];exact Below.andThen hb3 (below_alloc _ _)
          have hq3:W3.heap[w3.heap.size]? = some (.cells #[.slice P np pc,.bool so,.bool sa,.bool sb,.int .u64 (vo:Int),.int .u64 (va:Int),.int .u64 (vb:Int)] 91 (0,0)):=by rw [hW3];exact heap_at _ _ _ rfl
          have hgc:wr.heap.size≤w3.heap.size:=hb3.size
          have hgl:w3.heap.size < W3.heap.size:=by rw [hW3];simp
          rw [← hW3]
          clear hW3 HAt z0
          obtain ⟨gC,hgC⟩:∃ gC,w3.heap.size = gC:=⟨_,rfl⟩
          rw [hgC] at hq3 hgc hgl ⊢
          have HI3:=Lib.hid (HI.out.below hb4)
          have HG:=Lib.hid (And.intro hgc (And.intro hgl hq3))
          clear hb3 hb4 hgC hgc hgl
          obtain ⟨k0,k1,k2,k3,k4,k5,k6⟩:=row7 hq3
          clear hq3
          go_wp2_with (at_builtin;refine wpList_append_list (Q:=ClG w2 fun b => b < w.heap.size) 46 91 (.agg #[.slice none 0 0,.bool false,.bool false,.bool false,.int .u64 0,.int .u64 0,.int .u64 0]) 56 Tryz.underlying46 infoCls (by rfl) (by omega) (by omega) (clG_ok _ _) (by rfl) _ _ (by rfl) w.heap.size (.slice V m2 c) M2 [((e.1,(o,a,b)):Cls)] (m2 + 1) (by rw [HI3.out.len2];rfl) (by rfl) (by exact HI3.out.own2.below (below_alloc _ _) (Nat.le_refl _)) _ _ 1 1 (by rfl) (by rfl) (by exact lst_at (clG_ok _ _) #[.slice P np pc,.bool so,.bool sa,.bool sb,.int .u64 (vo:Int),.int .u64 (va:Int),.int .u64 (vb:Int)] ((e.1,(o,a,b)):Cls) (by rfl) (by exact HE.out.cells)) (by omega) (by have:=HI3.out.old;simp;omega) ?_;intro V5 c5 w6 hown5 hgrow5 hat5;have HN2:=Lib.hid (HI3.out.app2 (below_alloc _ _) hown5 hgrow5 hat5);have hq6:=(hgrow5.block gC (by have:=HG.out.2.1;simp;omega) (fun e => by rw [own_block] at e;have h1:=HI.out.own2.lt gC (by rw [own_block];exact e.symm);have h2:=HG.out.1;omega)).trans (((below_alloc W3 _).block gC HG.out.2.1).trans HG.out.2.2);clear hown5 hgrow5 hat5 k0 k1 k2 k3 k4 k5 k6;obtain ⟨k0,k1,k2,k3,k4,k5,k6⟩:=row7 hq6;clear hq6)
          refine (HPk.out w6).mono ?_
          rintro e' w7 ⟨rfl,hb7⟩
          have HI7:=Lib.hid (HN2.out.below hb7)
          clear k0 k1 k2 k3 k4 k5 k6 hb7 HPk
          have z1:=HI7.out.cell HZ.out.1 HZ.out.2.1 HZ.out.2.2.1 HZ.out.2.2.2
          go_wp2_with (at_builtin;refine wpList_append_list (Q:=EntQ w2 w.heap.size) 30 69 (.agg #[.slice none 0 0,.int .u64 0]) 32 Tryz.underlying30 infoE2 (by rfl) (by omega) (by omega) (entQ_ok w2 w.heap.size) (by rfl) _ _ (by rfl) w.heap.size (.slice D m1 d) M1 [((e.1,v):Ent)] (m1 + 1) (by rw [HI7.out.len1];rfl) (by rfl) (by exact HI7.out.own1.below (below_alloc _ _) (Nat.le_refl _)) _ _ 1 1 (by rfl) (by rfl) (by exact lst_pt HE.out.pts HE.out.len HE.out.k16 HV.out) (by omega) (by have:=HI7.out.old;simp;omega) ?_;intro D5 d5 w8 hown5 hgrow5 hat5;have HN1:=Lib.hid (HI7.out.app1 (below_alloc _ _) hown5 hgrow5 hat5);clear hown5 hgrow5 hat5)
          go_roundw
          case rel =>
            refine ⟨j + 1,m1 + 1,D5,d5,m2 + 1,V5,c5,rfl,rfl,by first | rfl | go_num,by have:=HE.out.lt;omega,?_⟩
            rw [filterMap_take fM HE.out.at_,filterMap_take fC HE.out.at_,HE.out.mg,HE.out.cl,HMM.out.1,HMM.out.2]
            simpa using HN1.out
          case measure =>
            have:=HE.out.lt
            show N2 - ((j:Int) + 1).toNat < N2 - (j:Int).toNat
            omega
      | some y =>
        have hmx:y = x:=by rw [← hx];unfold Tr.mgG;rw [hbec]
        subst hmx
        rw [hbec] at HAt HE
        simp only [Option.getD_some,Option.isNone_some] at HAt HE
        have HAt:=Lib.hid HAt
        clear hso hsa hsb hvo hva hvb hbec hx hb
        cases y with
        | none =>
          simp only [Option.isSome_none,Option.getD_none] at HAt
          go_wp2_with fail
          refine HAt.out.mono ?_
          rintro e' w3 ⟨rfl,hb3⟩
          go_upto_region 8 with fail
          obtain ⟨W3,hW3⟩:∃ W3,W3 = w3.alloc (.cells #[.slice P np pc,.bool so,.bool sa,.bool sb,.int .u64 (vo:Int),.int .u64 (va:Int),.int .u64 (vb:Int)] 91):=⟨_,rfl⟩
          have hb4:Below wr.heap.size wr W3:=by rw [hW3];exact Below.andThen hb3 (below_alloc _ _)
          have hq3:W3.heap[w3.heap.size]? = some (.cells #[.slice P np pc,.bool so,.bool sa,.bool sb,.int .u64 (vo:Int),.int .u64 (va:Int),.int .u64 (vb:Int)] 91 (0,0)):=by rw [hW3];exact heap_at _ _ _ rfl
          have hgc:wr.heap.size≤w3.heap.size:=hb3.size
          have hgl:w3.heap.size < W3.heap.size:=by rw [hW3];simp
          rw [← hW3]
          clear hW3 HAt z0
          obtain ⟨gC,hgC⟩:∃ gC,w3.heap.size = gC:=⟨_,rfl⟩
          rw [hgC] at hq3 hgc hgl ⊢
          have HI3:=Lib.hid (HI.out.below hb4)
          have HG:=Lib.hid (And.intro hgc (And.intro hgl hq3))
          clear hb3 hb4 hgC hgc hgl
          clear hq3
          go_wp2_with fail
          go_roundw
          case rel =>
            refine ⟨j + 1,m1,D,d,m2,V,c,rfl,rfl,by first | rfl | go_num,by have:=HE.out.lt;omega,?_⟩
            rw [filterMap_take fM HE.out.at_,filterMap_take fC HE.out.at_,HE.out.mg,HE.out.cl,HMM.out.1,HMM.out.2]
            simpa using HI3.out
          case measure =>
            have:=HE.out.lt
            show N2 - ((j:Int) + 1).toNat < N2 - (j:Int).toNat
            omega
        | some v =>
          simp only [Option.isSome_some,Option.getD_some] at HAt
          have HV:=Lib.hid (HE.out.rv v rfl)
          go_wp2_with fail
          refine HAt.out.mono ?_
          rintro e' w3 ⟨rfl,hb3⟩
          go_upto_region 8 with fail
          obtain ⟨W3,hW3⟩:∃ W3,W3 = w3.alloc (.cells #[.slice P np pc,.bool so,.bool sa,.bool sb,.int .u64 (vo:Int),.int .u64 (va:Int),.int .u64 (vb:Int)] 91):=⟨_,rfl⟩
          have hb4:Below wr.heap.size wr W3:=by rw [hW3];exact Below.andThen hb3 (below_alloc _ _)
          have hq3:W3.heap[w3.heap.size]? = some (.cells #[.slice P np pc,.bool so,.bool sa,.bool sb,.int .u64 (vo:Int),.int .u64 (va:Int),.int .u64 (vb:Int)] 91 (0,0)):=by rw [hW3];exact heap_at _ _ _ rfl
          have hgc:wr.heap.size≤w3.heap.size:=hb3.size
          have hgl:w3.heap.size < W3.heap.size:=by rw [hW3];simp
          rw [← hW3]
          clear hW3 HAt z0
          obtain ⟨gC,hgC⟩:∃ gC,w3.heap.size = gC:=⟨_,rfl⟩
          rw [hgC] at hq3 hgc hgl ⊢
          have HI3:=Lib.hid (HI.out.below hb4)
          have HG:=Lib.hid (And.intro hgc (And.intro hgl hq3))
          clear hb3 hb4 hgC hgc hgl
          clear hq3
          have z1:=HI3.out.cell HZ.out.1 HZ.out.2.1 HZ.out.2.2.1 HZ.out.2.2.2
          go_wp2_with (at_builtin;refine wpList_append_list (Q:=EntQ w2 w.heap.size) 30 69 (.agg #[.slice none 0 0,.int .u64 0]) 32 Tryz.underlying30 infoE2 (by rfl) (by omega) (by omega) (entQ_ok w2 w.heap.size) (by rfl) _ _ (by rfl) w.heap.size (.slice D m1 d) M1 [((e.1,v):Ent)] (m1 + 1) (by rw [HI3.out.len1];rfl) (by rfl) (by exact HI3.out.own1.below (below_alloc _ _) (Nat.le_refl _)) _ _ 1 1 (by rfl) (by rfl) (by exact lst_pt HE.out.pts HE.out.len HE.out.k16 HV.out) (by omega) (by have:=HI3.out.old;simp;omega) ?_;intro D5 d5 w8 hown5 hgrow5 hat5;have HN1:=Lib.hid (HI3.out.app1 (below_alloc _ _) hown5 hgrow5 hat5);clear hown5 hgrow5 hat5)
          go_roundw
          case rel =>
            refine ⟨j + 1,m1 + 1,D5,d5,m2,V,c,rfl,rfl,by first | rfl | go_num,by have:=HE.out.lt;omega,?_⟩
            rw [filterMap_take fM HE.out.at_,filterMap_take fC HE.out.at_,HE.out.mg,HE.out.cl,HMM.out.1,HMM.out.2]
            simpa using HN1.out
          case measure =>
            have:=HE.out.lt
            show N2 - ((j:Int) + 1).toNat < N2 - (j:Int).toNat
            omega
    · have hjn:N2 = j:=by omega
      subst hjn
      have f1:decide ((N2:Int) < (N2:Int)) = false:=decide_eq_false (by omega)
      have f1':decide (N2 < N2) = false:=decide_eq_false (by omega)
      have htk:U.take N2 = U:=by rw [← H2.out.1,List.take_length]
      have hMM:U.filterMap fM = M:=by rw [← HC.out.1,H2.out.2.2.2.2.2.2.2.1,← H2.out.2.2.2.2.2.2.1];rfl
      have hCC:U.filterMap fC = C:=by rw [← HC.out.2.1,H2.out.2.2.2.2.2.2.2.2,← H2.out.2.2.2.2.2.2.1];rfl
      rw [htk,hMM,hCC] at hI
      have hmN:N = m1:=by rw [← HC.out.2.2.1];exact hI.len1
      have hmn:n = m2:=by rw [← HC.out.2.2.2.1];exact hI.len2
      subst hmN hmn
      have hbw:Below w.heap.size w2 wr:=hI.foot.below H2.out.2.2.1.size (fun b hb => by rcases hb with hb | hb <;> omega)
      have ho1:OwnE wr w.heap.size w.heap.size (.slice D N d) M:=hI.own1.imp (entQ_mono fun p hp => hbw.cell hp)
      obtain ⟨D',d',hv,hd,hE⟩:=ho1.entL
      rw [HC.out.2.2.1] at hv hd
      simp only [Value.slice.injEq] at hv
      obtain ⟨rfl,-,rfl⟩:=hv
      have hEn:Ents wr wr.heap.size D M:=hE.ents (Nat.le_trans H2.out.2.2.1.size hbw.size) (Nat.le_refl _)
      have hck:Cks wr V C:=clG_own (hI.own2.imp (ClG.step (G':=fun b => b < w.heap.size) hI.foot.size fun b _ hG => ⟨hbw.block b hG,hG⟩))
      have HR:=Lib.hid (And.intro hEn (And.intro hd (And.intro hck (H2.out.2.2.1.trans hbw))))
      clear hI htk hMM hCC hbw ho1 hE hd hEn hck hlt hj
      go_wp2_with fail
      go_ret2
      exact ⟨D,d,V,c,rfl,HR.out.1,HR.out.2.1,HR.out.2.2.1,HR.out.2.2.2⟩
end Go.Proofs.YtmkejbfgdmbejaaGreatDoor
