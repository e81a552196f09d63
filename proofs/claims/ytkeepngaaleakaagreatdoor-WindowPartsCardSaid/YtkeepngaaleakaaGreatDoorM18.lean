import Derived.Test.YtkeepngaaleakaaGreatDoorM17
namespace Go.Proofs.YtkeepngaaleakaaGreatDoor
open Go.ChangeShapes Go.WideShapes Go.ChangeAt Go.RowKit
open Tr (T S4 Ent)
set_option maxRecDepth 100000 in
set_option linter.unusedSimpArgs false in
set_option maxHeartbeats 4000000 in
theorem done_put_new {w:World} {C b k:Nat} {o:Option T} {A:Option Addr} {c M:Nat} (h:Hand w C b k o A c M) (hM:M + 1≤100000) {A':Option Addr} {d:Nat} {p:List Nat} (v:Nat) (hv:v < 18446744073709551616) (hp:Pts w C A' p) (hl:p.length = k) (hg:Tr.getE (Tr.entsO o) p = none) :
    Calls Tryz.prog 49 #[.pointer (some ⟨b,0,none⟩),.slice A (Tr.entsO o).length c,actV false A' p.length d v] w fun e w' => ∃ b' t D e',e = .returned (.tuple #[.pointer (some ⟨b',0,none⟩),.slice D t.ents.length e',.bool true])∧Hand w' C b' k (some t) D e' (M + 1) ∧
      t.ents = Tr.putE p v (Tr.entsO o)∧b≠b'∧PutWay k o p v t∧Below w.heap.size w w':=by
  have hbw:=doneW_below w false A' p.length d v
  have h1:=h.below hbw
  have HK:=Lib.hid (tK_c h1.tree.1.2.2.2.1)
  have hp1:=hp.below' hbw h.old
  have HD:=Lib.hid (tPut_c h1.tree.1 (Nat.le_refl _) (hp1.keep h1.old (fun _ _ => rfl)) hl (c:=d) v hv (by have:=h.few;have:=h.most;omega))
  obtain ⟨hz,hdm⟩:=entsO_zs h.wf
  have hlen:=Tr.length_putE hz p v
  have HG:Hid (∀ w',Below (doneW w false A' p.length d v).heap.size (doneW w false A' p.length d v) w'→Calls Tryz.prog 72 #[.slice A (Tr.entsO o).length c,.slice A' p.length d] w' fun e w'' => e = .returned (.tuple #[.int .u64 (0:Int),.bool false])∧w' = w''):=Lib.hid fun w' hb' =>
    rget6_c hz hdm (h1.below hb').list (hp1.below' hb' h1.old) hl h.tree.1.2.1 h.tree.1.2.2.1 (by have:=h.few;have:=h.most;omega) none hg
  have HE:Hid (∀ w',Below (doneW w false A' p.length d v).heap.size (doneW w false A' p.length d v) w'→Calls Tryz.prog 36 #[.slice A (Tr.entsO o).length c,.slice A' p.length d,.int .u64 (v:Int)] w' fun e w'' => ∃ D d',e = .returned (.slice D (Tr.putE p v (Tr.entsO o)).length d')∧EntL w'' C w''.heap.size D (Tr.putE p v (Tr.entsO o))∧(Tr.putE p v (Tr.entsO o)).length≤d'∧Below w'.heap.size w' w''):=Lib.hid fun w' hb' =>
    rput6_c (c:=c) (c':=d) hz hdm (h1.below hb').list (hp1.below' hb' h1.old) hl h.tree.1.2.1 h.tree.1.2.2.1 (by have:=h.few;have:=h.most;omega) (Nat.le_refl _) (h1.below hb').old h.cap v hv
  have HB:=Lib.hid hbw
  have n1:((p.length:Int) != (k:Int)) = false:=by simp [hl]
  obtain ⟨x0,x1,x2⟩:=doneW_act w false A' p.length d v
  have HA:=Lib.hid (And.intro hg (And.intro (doneW_act w false A' p.length d v) (And.intro (doneW_size w false A' p.length d v) (And.intro h1 (And.intro h (And.intro hlen hM))))))
  clear h h1 hp hp1 hg hz hdm hbw hl hlen hM
  go_enter Tryz.func49,Tryz.ntmps49
  go_wp2_with fail
  rw [show w.alloc (.cells #[.bool false,.slice A' p.length d,.int .u64 (v:Int)] 78) = doneW w false A' p.length d v from rfl]
  generalize doneW w false A' p.length d v = W at *
  refine HK.out.mono ?_
  rintro e w' ⟨rfl,rfl⟩
  go_wp2_with fail
  refine HD.out.mono ?_
  rintro e w2 (⟨hv',-,-⟩ | ⟨-,n,t,rfl,hto,hb2⟩)
  · rw [HA.out.1] at hv'
    exact absurd hv' (by simp)
  · have ha2:∀ w',Below w2.heap.size w2 w'→Act3 w' w.heap.size (.bool false) (.slice A' p.length d) (.int .u64 (v:Int)):=fun w' hb' => (HA.out.2.1.below hb2 (by have:=HA.out.2.2.1;omega)).below hb' (by have:=HA.out.2.2.1;have:=hb2.size;omega)
    have HG2:=Lib.hid (HG.out w2 hb2)
    have HE2:Hid (∀ w',Below w2.heap.size w2 w'→Calls Tryz.prog 36 #[.slice A (Tr.entsO o).length c,.slice A' p.length d,.int .u64 (v:Int)] w' fun e w'' => ∃ D d',e = .returned (.slice D (Tr.putE p v (Tr.entsO o)).length d')∧EntL w'' C w''.heap.size D (Tr.putE p v (Tr.entsO o))∧(Tr.putE p v (Tr.entsO o)).length≤d'∧Below w'.heap.size w' w''):=Lib.hid fun w' hb' => HE.out w' (hb2.trans (hb'.mono hb2.size))
    have HB2:=Lib.hid (And.intro hto (And.intro hb2 (Below.andThen HB.out hb2)))
    obtain ⟨x0,x1,x2⟩:=ha2 w2 (Below.refl _ _)
    have q1:∀ w',Below w2.heap.size w2 w'→w'.cell? ⟨w.heap.size,1,none⟩ = some (.slice A' p.length d):=fun w' hb' => (ha2 w' hb').2.1
    have q2:∀ w',Below w2.heap.size w2 w'→w'.cell? ⟨w.heap.size,2,none⟩ = some (.int .u64 (v:Int)):=fun w' hb' => (ha2 w' hb').2.2
    have hpe:∀ w',Below w2.heap.size w2 w'→(binOp .eql 29 (.pointer (some ⟨n,0,none⟩)) (.pointer (some ⟨b,0,none⟩))).run Tryz.prog w' = .ok (.bool false) w':=fun w' hb' =>
      tptr_ne (hto.1.2.below hb' (TrB.lt hto.1.2)) (((HA.out.2.2.2.1.tree.2.below hb2 (TrB.lt HA.out.2.2.2.1.tree.2))).below hb' (by have:=TrB.lt HA.out.2.2.2.1.tree.2;have:=hb2.size;omega)) (by have:=hto.2.2.2.2;omega)
    have hb0:Below w2.heap.size w2 w2:=Below.refl _ _
    clear hb2 HG HK HD HE ha2 hto
    go_wp2_with (go_at_call 72;refine HG2.out.mono ?_;rintro e w' ⟨rfl,rfl⟩)
    clear x0 x1 x2
    refine wp_region_held_drew (S:=fun w' => Below w2.heap.size w2 w') (by kernel_rfl) hb0.drew (fun hHeld => ?_)
    apply wpAnyH_take (i:=0)
    case hi => simp only [List.getElem?_toArray,List.getElem?_cons_succ,List.getElem?_cons_zero];rfl
    case hs => kernel_rfl
    case hf => kernel_rfl
    case hr => kernel_rfl
    case hQ => exact fun _ _ _ h => h
    case hS => assumption
    case hy =>
      refine Or.inl ⟨by rfl,?_⟩
      intro w hSw
      try dsimp only at hSw
      have q1:=q1 w hSw
      have q2:=q2 w hSw
      have hpe:=hpe w hSw
      go_simp
      try with_reducible rfl
    simp only [Act.put,List.setIfInBounds_toArray,List.set_cons_zero,List.set_cons_succ]
    apply wpAnyH_take (i:=1)
    case hi => simp only [List.getElem?_toArray,List.getElem?_cons_succ,List.getElem?_cons_zero];rfl
    case hs => kernel_rfl
    case hf => kernel_rfl
    case hr => kernel_rfl
    case hQ => exact fun _ _ _ h => h
    case hS => assumption
    case hy =>
      refine Or.inl ⟨by rfl,?_⟩
      intro w hSw
      try dsimp only at hSw
      have q1:=q1 w hSw
      have q2:=q2 w hSw
      have hpe:=hpe w hSw
      go_simp
      try with_reducible rfl
    simp only [Act.put,List.setIfInBounds_toArray,List.set_cons_zero,List.set_cons_succ]
    apply wpAnyH_take (i:=2)
    case hi => simp only [List.getElem?_toArray,List.getElem?_cons_succ,List.getElem?_cons_zero];rfl
    case hs => kernel_rfl
    case hf => kernel_rfl
    case hr => kernel_rfl
    case hQ => exact fun _ _ _ h => h
    case hS => assumption
    case hy =>
      refine Or.inl ⟨by rfl,?_⟩
      intro w hSw
      try dsimp only at hSw
      have q1:=q1 w hSw
      have q2:=q2 w hSw
      have hpe:=hpe w hSw
      go_simp
      try with_reducible rfl
    simp only [Act.put,List.setIfInBounds_toArray,List.set_cons_zero,List.set_cons_succ]
    apply wpAnyH_take (i:=3)
    case hi => simp only [List.getElem?_toArray,List.getElem?_cons_succ,List.getElem?_cons_zero];rfl
    case hs => kernel_rfl
    case hf => kernel_rfl
    case hr => kernel_rfl
    case hQ => exact fun _ _ _ h => h
    case hS => assumption
    case hy =>
      refine Or.inl ⟨by rfl,?_⟩
      intro w hSw
      try dsimp only at hSw
      have q1:=q1 w hSw
      have q2:=q2 w hSw
      have hpe:=hpe w hSw
      go_simp
      try with_reducible rfl
    simp only [Act.put,List.setIfInBounds_toArray,List.set_cons_zero,List.set_cons_succ]
    apply wpAnyH_take (i:=4)
    case hi => simp only [List.getElem?_toArray,List.getElem?_cons_succ,List.getElem?_cons_zero];rfl
    case hs => kernel_rfl
    case hf => kernel_rfl
    case hr => kernel_rfl
    case hQ => exact fun _ _ _ h => h
    case hS => assumption
    case hy =>
      refine Or.inl ⟨by rfl,?_⟩
      intro w hSw
      try dsimp only at hSw
      have q1:=q1 w hSw
      have q2:=q2 w hSw
      have hpe:=hpe w hSw
      go_simp
      try with_reducible rfl
    simp only [Act.put,List.setIfInBounds_toArray,List.set_cons_zero,List.set_cons_succ]
    apply wpAnyH_take (i:=5)
    case hi => simp only [List.getElem?_toArray,List.getElem?_cons_succ,List.getElem?_cons_zero];rfl
    case hs => kernel_rfl
    case hf => kernel_rfl
    case hr => kernel_rfl
    case hQ => exact fun _ _ _ h => h
    case hS => assumption
    case hy =>
      refine Or.inl ⟨by rfl,?_⟩
      intro w hSw
      try dsimp only at hSw
      have q1:=q1 w hSw
      have q2:=q2 w hSw
      have hpe:=hpe w hSw
      go_simp
      try with_reducible rfl
    simp only [Act.put,List.setIfInBounds_toArray,List.set_cons_zero,List.set_cons_succ]
    apply wpAnyH_take (i:=7)
    case hi => simp only [List.getElem?_toArray,List.getElem?_cons_succ,List.getElem?_cons_zero];rfl
    case hs => kernel_rfl
    case hf => kernel_rfl
    case hr => kernel_rfl
    case hQ => exact fun _ _ _ h => h
    case hS => assumption
    case hy =>
      refine Or.inl ⟨by rfl,?_⟩
      intro w hSw
      try dsimp only at hSw
      have q1:=q1 w hSw
      have q2:=q2 w hSw
      have hpe:=hpe w hSw
      go_simp
      try with_reducible rfl
    simp only [Act.put,List.setIfInBounds_toArray,List.set_cons_zero,List.set_cons_succ]
    apply wpAnyH_take (i:=8)
    case hi => simp only [List.getElem?_toArray,List.getElem?_cons_succ,List.getElem?_cons_zero];rfl
    case hs => kernel_rfl
    case hf => kernel_rfl
    case hr => kernel_rfl
    case hQ => exact fun _ _ _ h => h
    case hS => assumption
    case hy =>
      refine Or.inl ⟨by rfl,?_⟩
      intro w hSw
      try dsimp only at hSw
      have q1:=q1 w hSw
      have q2:=q2 w hSw
      have hpe:=hpe w hSw
      go_simp
      try with_reducible rfl
    simp only [Act.put,List.setIfInBounds_toArray,List.set_cons_zero,List.set_cons_succ]
    refine wpAnyH_ready (rs:=[6]) (by kernel_rfl) (by simp) ?_
    apply AllReadyH.cons
    case ho => simp only [List.getElem?_toArray,List.getElem?_cons_succ,List.getElem?_cons_zero];rfl
    case hs => exact AllReadyH.nil
    intro K hK
    go_simp
    refine (HE2.out _ (show Below w2.heap.size w2 _ by ((repeat first | refine bD ?_ | with_reducible refine bN ?_ | refine bA ?_ | refine bS ?_);first | exact bR | assumption | exact bN bR | exact bN (bN bR)))).mono ?_
    rintro e w3 ⟨D3,d3,rfl,hl3,hc3,hb3⟩
    have hbD:=Below.trans (show Below w2.heap.size w2 _ by ((repeat first | refine bD ?_ | with_reducible refine bN ?_ | refine bA ?_ | refine bS ?_);first | exact bR | assumption | exact bN bR | exact bN (bN bR))) (hb3.mono (Below.size (show Below w2.heap.size w2 _ by ((repeat first | refine bD ?_ | with_reducible refine bN ?_ | refine bA ?_ | refine bS ?_);first | exact bR | assumption | exact bN bR | exact bN (bN bR)))))
    have HL3:=Lib.hid (And.intro hl3 hc3)
    clear hb3 hl3 hc3
    go_wp2_with fail
    refine hK.out _ _ hbD (fun hHeld => ?_)
    clear hK K
    apply wpAnyH_take (i:=9)
    case hi => simp only [List.getElem?_toArray,List.getElem?_cons_succ,List.getElem?_cons_zero];rfl
    case hs => kernel_rfl
    case hf => kernel_rfl
    case hr => kernel_rfl
    case hQ => exact fun _ _ _ h => h
    case hS => assumption
    case hy =>
      refine Or.inl ⟨by rfl,?_⟩
      intro w hSw
      try dsimp only at hSw
      have q1:=q1 w hSw
      have q2:=q2 w hSw
      have hpe:=hpe w hSw
      go_simp
      try with_reducible rfl
    simp only [Act.put,List.setIfInBounds_toArray,List.set_cons_zero,List.set_cons_succ]
    apply wpAnyH_take (i:=10)
    case hi => simp only [List.getElem?_toArray,List.getElem?_cons_succ,List.getElem?_cons_zero];rfl
    case hs => kernel_rfl
    case hf => kernel_rfl
    case hr => kernel_rfl
    case hQ => exact fun _ _ _ h => h
    case hS => assumption
    case hy =>
      refine Or.inl ⟨by rfl,?_⟩
      intro w hSw
      try dsimp only at hSw
      have q1:=q1 w hSw
      have q2:=q2 w hSw
      have hpe:=hpe w hSw
      go_simp
      try with_reducible rfl
    simp only [Act.put,List.setIfInBounds_toArray,List.set_cons_zero,List.set_cons_succ]
    apply wpAnyH_take (i:=11)
    case hi => simp only [List.getElem?_toArray,List.getElem?_cons_succ,List.getElem?_cons_zero];rfl
    case hs => kernel_rfl
    case hf => kernel_rfl
    case hr => kernel_rfl
    case hQ => exact fun _ _ _ h => h
    case hS => assumption
    case hy =>
      refine Or.inl ⟨by rfl,?_⟩
      intro w hSw
      try dsimp only at hSw
      have q1:=q1 w hSw
      have q2:=q2 w hSw
      have hpe:=hpe w hSw
      go_simp
      try with_reducible rfl
    simp only [Act.put,List.setIfInBounds_toArray,List.set_cons_zero,List.set_cons_succ]
    apply wpAnyH_take (i:=12)
    case hi => simp only [List.getElem?_toArray,List.getElem?_cons_succ,List.getElem?_cons_zero];rfl
    case hs => kernel_rfl
    case hf => kernel_rfl
    case hr => kernel_rfl
    case hQ => exact fun _ _ _ h => h
    case hS => assumption
    case hy =>
      refine Or.inl ⟨by rfl,?_⟩
      intro w hSw
      try dsimp only at hSw
      have q1:=q1 w hSw
      have q2:=q2 w hSw
      have hpe:=hpe w hSw
      go_simp
      try with_reducible rfl
    simp only [Act.put,List.setIfInBounds_toArray,List.set_cons_zero,List.set_cons_succ]
    apply wpAnyH_take (i:=13)
    case hi => simp only [List.getElem?_toArray,List.getElem?_cons_succ,List.getElem?_cons_zero];rfl
    case hs => kernel_rfl
    case hf => kernel_rfl
    case hr => kernel_rfl
    case hQ => exact fun _ _ _ h => h
    case hS => assumption
    case hy =>
      refine Or.inl ⟨by rfl,?_⟩
      intro w hSw
      try dsimp only at hSw
      have q1:=q1 w hSw
      have q2:=q2 w hSw
      have hpe:=hpe w hSw
      go_simp
      try with_reducible rfl
    simp only [Act.put,List.setIfInBounds_toArray,List.set_cons_zero,List.set_cons_succ]
    apply wpAnyH_take (i:=14)
    case hi => simp only [List.getElem?_toArray,List.getElem?_cons_succ,List.getElem?_cons_zero];rfl
    case hs => kernel_rfl
    case hf => kernel_rfl
    case hr => kernel_rfl
    case hQ => exact fun _ _ _ h => h
    case hS => assumption
    case hy =>
      refine Or.inl ⟨by rfl,?_⟩
      intro w hSw
      try dsimp only at hSw
      have q1:=q1 w hSw
      have q2:=q2 w hSw
      have hpe:=hpe w hSw
      go_simp
      try with_reducible rfl
    simp only [Act.put,List.setIfInBounds_toArray,List.set_cons_zero,List.set_cons_succ]
    apply wpAnyH_take (i:=15)
    case hi => simp only [List.getElem?_toArray,List.getElem?_cons_succ,List.getElem?_cons_zero];rfl
    case hs => kernel_rfl
    case hf => kernel_rfl
    case hr => kernel_rfl
    case hQ => exact fun _ _ _ h => h
    case hS => assumption
    case hy =>
      refine Or.inl ⟨by rfl,?_⟩
      intro w hSw
      try dsimp only at hSw
      have q1:=q1 w hSw
      have q2:=q2 w hSw
      have hpe:=hpe w hSw
      go_simp
      try with_reducible rfl
    simp only [Act.put,List.setIfInBounds_toArray,List.set_cons_zero,List.set_cons_succ]
    apply wpAnyH_take (i:=16)
    case hi => simp only [List.getElem?_toArray,List.getElem?_cons_succ,List.getElem?_cons_zero];rfl
    case hs => kernel_rfl
    case hf => kernel_rfl
    case hr => kernel_rfl
    case hQ => exact fun _ _ _ h => h
    case hS => assumption
    case hy => exact Or.inr ⟨by rfl,rfl⟩
    simp only [Act.put,List.setIfInBounds_toArray,List.set_cons_zero,List.set_cons_succ]
    apply wpAnyH_take (i:=17)
    case hi => simp only [List.getElem?_toArray,List.getElem?_cons_succ,List.getElem?_cons_zero];rfl
    case hs => kernel_rfl
    case hf => kernel_rfl
    case hr => kernel_rfl
    case hQ => exact fun _ _ _ h => h
    case hS => assumption
    case hy => exact Or.inr ⟨by rfl,rfl⟩
    simp only [Act.put,List.setIfInBounds_toArray,List.set_cons_zero,List.set_cons_succ]
    apply wpAnyH_take (i:=18)
    case hi => simp only [List.getElem?_toArray,List.getElem?_cons_succ,List.getElem?_cons_zero];rfl
    case hs => kernel_rfl
    case hf => kernel_rfl
    case hr => kernel_rfl
    case hQ => exact fun _ _ _ h => h
    case hS => assumption
    case hy => exact Or.inr ⟨by rfl,rfl⟩
    simp only [Act.put,List.setIfInBounds_toArray,List.set_cons_zero,List.set_cons_succ]
    apply wpAnyH_take (i:=19)
    case hi => simp only [List.getElem?_toArray,List.getElem?_cons_succ,List.getElem?_cons_zero];rfl
    case hs => kernel_rfl
    case hf => kernel_rfl
    case hr => kernel_rfl
    case hQ => exact fun _ _ _ h => h
    case hS => assumption
    case hy => exact Or.inr ⟨by rfl,rfl⟩
    simp only [Act.put,List.setIfInBounds_toArray,List.set_cons_zero,List.set_cons_succ]
    apply wpAnyH_take (i:=20)
    case hi => simp only [List.getElem?_toArray,List.getElem?_cons_succ,List.getElem?_cons_zero];rfl
    case hs => kernel_rfl
    case hf => kernel_rfl
    case hr => kernel_rfl
    case hQ => exact fun _ _ _ h => h
    case hS => assumption
    case hy =>
      refine Or.inl ⟨by rfl,?_⟩
      intro w hSw
      try dsimp only at hSw
      have q1:=q1 w hSw
      have q2:=q2 w hSw
      have hpe:=hpe w hSw
      go_simp
      try with_reducible rfl
    simp only [Act.put,List.setIfInBounds_toArray,List.set_cons_zero,List.set_cons_succ]
    apply wpAnyH_take (i:=21)
    case hi => simp only [List.getElem?_toArray,List.getElem?_cons_succ,List.getElem?_cons_zero];rfl
    case hs => kernel_rfl
    case hf => kernel_rfl
    case hr => kernel_rfl
    case hQ => exact fun _ _ _ h => h
    case hS => assumption
    case hy =>
      refine Or.inl ⟨by rfl,?_⟩
      intro w hSw
      try dsimp only at hSw
      have q1:=q1 w hSw
      have q2:=q2 w hSw
      have hpe:=hpe w hSw
      go_simp
      try with_reducible rfl
    simp only [Act.put,List.setIfInBounds_toArray,List.set_cons_zero,List.set_cons_succ]
    apply wpAnyH_take (i:=22)
    case hi => simp only [List.getElem?_toArray,List.getElem?_cons_succ,List.getElem?_cons_zero];rfl
    case hs => kernel_rfl
    case hf => kernel_rfl
    case hr => kernel_rfl
    case hQ => exact fun _ _ _ h => h
    case hS => assumption
    case hy =>
      refine Or.inl ⟨by rfl,?_⟩
      intro w hSw
      try dsimp only at hSw
      have q1:=q1 w hSw
      have q2:=q2 w hSw
      have hpe:=hpe w hSw
      go_simp
      try with_reducible rfl
    simp only [Act.put,List.setIfInBounds_toArray,List.set_cons_zero,List.set_cons_succ]
    apply wpAnyH_take (i:=23)
    case hi => simp only [List.getElem?_toArray,List.getElem?_cons_succ,List.getElem?_cons_zero];rfl
    case hs => kernel_rfl
    case hf => kernel_rfl
    case hr => kernel_rfl
    case hQ => exact fun _ _ _ h => h
    case hS => assumption
    case hy =>
      refine Or.inl ⟨by rfl,?_⟩
      intro w hSw
      try dsimp only at hSw
      have q1:=q1 w hSw
      have q2:=q2 w hSw
      have hpe:=hpe w hSw
      go_simp
      try with_reducible rfl
    simp only [Act.put,List.setIfInBounds_toArray,List.set_cons_zero,List.set_cons_succ]
    apply wpAnyH_take (i:=24)
    case hi => simp only [List.getElem?_toArray,List.getElem?_cons_succ,List.getElem?_cons_zero];rfl
    case hs => kernel_rfl
    case hf => kernel_rfl
    case hr => kernel_rfl
    case hQ => exact fun _ _ _ h => h
    case hS => assumption
    case hy =>
      refine Or.inl ⟨by rfl,?_⟩
      intro w hSw
      try dsimp only at hSw
      have q1:=q1 w hSw
      have q2:=q2 w hSw
      have hpe:=hpe w hSw
      go_simp
      try with_reducible rfl
    simp only [Act.put,List.setIfInBounds_toArray,List.set_cons_zero,List.set_cons_succ]
    apply wpAnyH_take (i:=25)
    case hi => simp only [List.getElem?_toArray,List.getElem?_cons_succ,List.getElem?_cons_zero];rfl
    case hs => kernel_rfl
    case hf => kernel_rfl
    case hr => kernel_rfl
    case hQ => exact fun _ _ _ h => h
    case hS => assumption
    case hy =>
      refine Or.inl ⟨by rfl,?_⟩
      intro w hSw
      try dsimp only at hSw
      have q1:=q1 w hSw
      have q2:=q2 w hSw
      have hpe:=hpe w hSw
      go_simp
      try with_reducible rfl
    simp only [Act.put,List.setIfInBounds_toArray,List.set_cons_zero,List.set_cons_succ]
    apply wpAnyH_take (i:=26)
    case hi => simp only [List.getElem?_toArray,List.getElem?_cons_succ,List.getElem?_cons_zero];rfl
    case hs => kernel_rfl
    case hf => kernel_rfl
    case hr => kernel_rfl
    case hQ => exact fun _ _ _ h => h
    case hS => assumption
    case hy =>
      refine Or.inl ⟨by rfl,?_⟩
      intro w hSw
      try dsimp only at hSw
      have q1:=q1 w hSw
      have q2:=q2 w hSw
      have hpe:=hpe w hSw
      go_simp
      try with_reducible rfl
    simp only [Act.put,List.setIfInBounds_toArray,List.set_cons_zero,List.set_cons_succ]
    apply wpAnyH_take (i:=27)
    case hi => simp only [List.getElem?_toArray,List.getElem?_cons_succ,List.getElem?_cons_zero];rfl
    case hs => kernel_rfl
    case hf => kernel_rfl
    case hr => kernel_rfl
    case hQ => exact fun _ _ _ h => h
    case hS => assumption
    case hy =>
      refine Or.inl ⟨by rfl,?_⟩
      intro w hSw
      try dsimp only at hSw
      have q1:=q1 w hSw
      have q2:=q2 w hSw
      have hpe:=hpe w hSw
      go_simp
      try with_reducible rfl
    simp only [Act.put,List.setIfInBounds_toArray,List.set_cons_zero,List.set_cons_succ]
    apply wpAnyH_take (i:=28)
    case hi => simp only [List.getElem?_toArray,List.getElem?_cons_succ,List.getElem?_cons_zero];rfl
    case hs => kernel_rfl
    case hf => kernel_rfl
    case hr => kernel_rfl
    case hQ => exact fun _ _ _ h => h
    case hS => assumption
    case hy =>
      refine Or.inl ⟨by rfl,?_⟩
      intro w hSw
      try dsimp only at hSw
      have q1:=q1 w hSw
      have q2:=q2 w hSw
      have hpe:=hpe w hSw
      go_simp
      try with_reducible rfl
    simp only [Act.put,List.setIfInBounds_toArray,List.set_cons_zero,List.set_cons_succ]
    refine wpAnyH_done (by kernel_rfl) ?_ _
    clear q1 q2 hpe
    go_wp2_with fail
    go_ret3
    have hb:=Below.andThen HB2.out.2.2 hbD
    obtain ⟨t1,t2,t3,t4,t5⟩:=HB2.out.1
    refine ⟨n,t,D3,d3,by rw [t3];rfl,⟨t1.below hbD (Nat.le_refl _),by rw [show Tr.entsO (some t) = t.ents from rfl,t3];exact HL3.out.1,by rw [show Tr.entsO (some t) = t.ents from rfl,t3];exact HL3.out.2,by rw [show Tr.entsO (some t) = t.ents from rfl,t3];have:=HA.out.2.2.2.2.2.1;have:=HA.out.2.2.2.2.1.few;omega,HA.out.2.2.2.2.2.2,Nat.le_trans HA.out.2.2.2.2.1.old hb.size⟩,t3,by omega,t4,hb⟩
def actE (k:Nat) (L:List Ent) (a:ActT):List Ent:=if a.p.length = k then (if a.del then Tr.delE a.p L else Tr.putE a.p a.v L) else L
def Turn (k b b':Nat) (o o':Option T) (a:ActT):Prop :=
  (b' = b∧o' = o)∨(b≠b'∧a.p.length = k∧((a.del = true∧DelWay k o a.p o')∨(a.del = false∧∃ t,o' = some t∧PutWay k o a.p a.v t)))
theorem Hand.more {w:World} {C b k:Nat} {o:Option T} {A:Option Addr} {c M M':Nat} (h:Hand w C b k o A c M) (h1:M≤M') (h2:M'≤100000):Hand w C b k o A c M':=⟨h.tree,h.list,h.cap,Nat.le_trans h.few h1,h2,h.old⟩
theorem done_c {w:World} {C b k:Nat} {o:Option T} {A:Option Addr} {c M:Nat} (h:Hand w C b k o A c M) (hM:M + 1≤100000) {a:ActT} {A':Option Addr} {d:Nat} (hp:Pts w C A' a.p) (hm:a.p.length≤maxLen) (hv:a.v < 18446744073709551616) :
    Calls Tryz.prog 49 #[.pointer (some ⟨b,0,none⟩),.slice A (Tr.entsO o).length c,actV a.del A' a.p.length d a.v] w fun e w' => ∃ b' o' D e',e = .returned (.tuple #[.pointer (some ⟨b',0,none⟩),.slice D (Tr.entsO o').length e',.bool true])∧Hand w' C b' k o' D e' (M + 1) ∧
      Tr.entsO o' = actE k (Tr.entsO o) a∧Turn k b b' o o' a∧Below w.heap.size w w':=by
  obtain ⟨del,p,v⟩:=a
  simp only at hp hm hv
  have hbl:=h.tree.1.1
  by_cases hk:p.length = k
  · cases del with
    | true =>
      rcases hg:Tr.getE (Tr.entsO o) p with _ | v0
      · refine (done_del_none h v hp hk hg).mono ?_
        rintro e w' ⟨rfl,hb⟩
        exact ⟨b,o,A,c,rfl,(h.below hb).more (by omega) hM,by simp only [actE,hk,if_true];rw [delE_none hg],.inl ⟨rfl,rfl⟩,hb⟩
      · refine (done_del_some h v hp hk hg).mono ?_
        rintro e w' ⟨b',o',D,e',rfl,h1,h2,h3,h4,hb⟩
        exact ⟨b',o',D,e',rfl,h1.more (by omega) hM,by simp only [actE,hk,if_true];exact h2,.inr ⟨h3,hk,.inl ⟨rfl,h4⟩⟩,hb⟩
    | false =>
      rcases hg:Tr.getE (Tr.entsO o) p with _ | v0
      · refine (done_put_new h hM v hv hp hk hg).mono ?_
        rintro e w' ⟨b',t,D,e',rfl,h1,h2,h3,h4,hb⟩
        exact ⟨b',some t,D,e',rfl,h1,by simp only [actE,hk,if_true];exact h2,.inr ⟨h3,hk,.inr ⟨rfl,t,rfl,h4⟩⟩,hb⟩
      · by_cases hvv:v0 = v
        · subst hvv
          obtain ⟨hz,hdm⟩:=entsO_zs h.wf
          have hpe:=putE_same hz hdm hk hp.1 hg
          refine (done_put_same h v0 hv hp hk hg).mono ?_
          rintro e w' ⟨D,e',rfl,h1,hb⟩
          exact ⟨b,o,D,e',rfl,h1.more (by omega) hM,by simp only [actE,hk,if_true];exact hpe.symm,.inl ⟨rfl,rfl⟩,hb⟩
        · refine (done_put_old h hM v hv hp hk hg hvv).mono ?_
          rintro e w' ⟨b',t,D,e',rfl,h1,h2,h3,h4,hb⟩
          exact ⟨b',some t,D,e',rfl,h1,by simp only [actE,hk,if_true];exact h2,.inr ⟨h3,hk,.inr ⟨rfl,t,rfl,h4⟩⟩,hb⟩
  · have hfin:∀ w',Below w.heap.size w w'→∃ b' o' D e',Ending.returned (.tuple #[.pointer (some ⟨b,0,none⟩),.slice A (Tr.entsO o).length c,.bool true]) = .returned (.tuple #[.pointer (some ⟨b',0,none⟩),.slice D (Tr.entsO o').length e',.bool true])∧Hand w' C b' k o' D e' (M + 1) ∧
        Tr.entsO o' = actE k (Tr.entsO o) ⟨del,p,v⟩∧Turn k b b' o o' ⟨del,p,v⟩∧Below w.heap.size w w':=fun w' hb => ⟨b,o,A,c,rfl,(h.below hb).more (by omega) hM,by simp only [actE,hk,if_false],.inl ⟨rfl,rfl⟩,hb⟩
    cases del with
    | true =>
      refine (done_del_dim h.tree.1.2.2.2.1 hbl A _ c A' p.length d v hm hk).mono ?_
      rintro e w' ⟨rfl,hb⟩
      exact hfin w' hb
    | false =>
      refine (done_put_dim h.tree.1.2.2.2.1 hbl A _ c A' p.length d v hm hk).mono ?_
      rintro e w' ⟨rfl,hb⟩
      exact hfin w' hb
set_option maxRecDepth 100000 in
set_option maxHeartbeats 1000000 in
theorem grown_c {w:World} {C k:Nat} {A:Option Addr} {c:Nat} {l:List ActT} (h1:1≤k) (h16:k≤16) (hA:ActsT w C A l) (hC:C≤w.heap.size) (hl:l.length≤100) :
    Calls Tryz.prog 16 #[.int .i64 (k:Int),.slice A l.length c] w fun e w' => ∃ b o D d,e = .returned (.tuple #[.pointer (some ⟨b,0,none⟩),.slice D (Tr.entsO o).length d,.bool true])∧Hand w' C b k o D d l.length∧Tr.entsO o = l.foldl (actE k) []∧Below w.heap.size w w':=by
  have HN:=Lib.hid (tNew_c k w h1 h16)
  have HX:=Lib.hid (And.intro h1 (And.intro h16 (And.intro hA hC)))
  clear h1 h16 hA hC
  go_enter Tryz.func16,Tryz.ntmps16
  go_wp2_with fail
  refine HN.out.mono ?_
  rintro e w1 ⟨rfl,ht1,hb1⟩
  have HT:=Lib.hid (And.intro ht1 hb1)
  clear ht1 hb1 HN
  go_wp2_with fail
  have hal:=below_alloc w1 (.cells #[] 57)
  have HS:=Lib.hid (show Hand (w1.alloc (.cells #[] 57)) C w.heap.size k none (some ⟨w1.heap.size,0,none⟩) 0 0 from ⟨HT.out.1.below hal (Nat.le_refl _),EntL.nil _ _ _ _,Nat.le_refl _,Nat.le_refl _,by omega,Nat.le_trans HX.out.2.2.2 (Nat.le_trans HT.out.2.size hal.size)⟩)
  have HB:=Lib.hid (Below.andThen HT.out.2 hal)
  clear hal
  go_loopw [7,9,10] (fun t v i wr => ∃ (j b:Nat) (o:Option T) (D:Option Addr) (d:Nat),j≤l.length∧t = .pointer (some ⟨b,0,none⟩)∧v = .slice D (Tr.entsO o).length d∧i = .int .i64 j∧Hand wr C b k o D d j∧Tr.entsO o = (l.take j).foldl (actE k) []∧Below w.heap.size w wr) (fun _ _ i _ => l.length - (intOf i).toNat)
  case atStart => exact ⟨0,w.heap.size,none,_,_,Nat.zero_le _,rfl,rfl,rfl,HS.out,rfl,HB.out⟩
  case round =>
    obtain ⟨j,b,o,D,d,hj,rfl,rfl,rfl,hh,hents,hbr⟩:=hrel
    by_cases hlt:j < l.length
    · obtain ⟨a,ha⟩:=get_lt hlt
      obtain ⟨gb,go,A',c',hAA,hgb,x0,x1,x2,hp,hm,hv⟩:=(HX.out.2.2.1.below hbr HX.out.2.2.2 (Nat.le_refl _)).at ha
      have HD:=Lib.hid (done_c (d:=c') hh (by omega) hp hm hv)
      have HY:=Lib.hid (And.intro hents (And.intro hbr ha))
      subst hAA
      have m1:(0:Int)≤(j:Int):=by omega
      have m2:(j:Int) < (l.length:Int):=by omega
      clear hh hents hbr ha hp hm hv
      go_wp2_with (go_at_call 49;refine HD.out.mono ?_;rintro e w2 ⟨b2,o2,D2,d2,rfl,hh2,he2,-,hb2⟩;have HE2:=Lib.hid he2;clear he2)
      go_roundw
      case rel =>
        obtain ⟨hents,hbr,ha⟩:=HY.out
        refine ⟨j + 1,b2,o2,D2,d2,by omega,rfl,rfl,by go_num,hh2,?_,Below.andThen hbr hb2⟩
        obtain ⟨hj',rfl⟩:=List.getElem?_eq_some_iff.1 ha
        rw [HE2.out,hents,List.take_succ_eq_append_getElem hj',List.foldl_append]
        rfl
      case measure => simp [intOf];omega
    · have hjk:j = l.length:=by omega
      subst hjk
      rw [List.take_length] at hents
      have HY:=Lib.hid (And.intro hh (And.intro hents hbr))
      clear hh hents hbr
      go_wp2_with fail
      go_ret3
      exact ⟨b,o,D,d,rfl,HY.out.1,HY.out.2.1,HY.out.2.2⟩
end Go.Proofs.YtkeepngaaleakaaGreatDoor
