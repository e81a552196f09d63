import Derived.Test.YtkeepngaaleakaaGreatDoorM91
import Derived.Test.YtkeepngaaleakaaGreatDoorM18
import Derived.Test.YtkeepngaaleakaaGreatDoorMV1
namespace Go.Proofs.YtkeepngaaleakaaGreatDoor
open Go.ChangeShapes Go.WideShapes Go.ChangeAt Go.RowKit
open Tr (T S4 Ent Sd Fl Chg)
/-! ### Count -/
/-! ### through -/
def EndW (go:Bool) (Inv:List Chg→World→(Nat→Prop)→Prop) (C:List Chg) (w:World) (F:Nat→Prop) (w':World):Prop :=
  ∃ (us:List Chg) (F':Nat→Prop),Inv us w' F'∧(go = true→us = C)∧(go = false→(us = []↔C = []))∧(∀ b,F' b→F b∨w.heap.size≤b)∧Foot F w w'
theorem dthru_c {fid:Nat} {lb:Array Value} {B k M:Nat} {go:Bool} {Inv:List Chg→World→(Nat→Prop)→Prop} (hv:VisitD fid lb B k M go Inv) {w:World} {F:Nat→Prop} (hI:Inv [] w F) {b b':Nat} {x y:Option T} (hx:TreeAt w B b k x) (hy:TreeAt w B b' k y) (hB:B≤w.heap.size) (hT:∀ w',Below B w w'→Tz w') (hM:(Tr.chO x y).length≤M) :
    Calls Tryz.prog 80 #[.pointer (some ⟨b,0,none⟩),.pointer (some ⟨b',0,none⟩),.func (.func fid) #[] lb] w fun e w' => ∃ z:Int,e = .returned (.tuple #[.int .i64 z,.int .i64 0])∧EndW go Inv (Tr.chO x y) w F w':=by
  have HTh:=Lib.hid (dthrough_c hv hI hx.2.2.2.2 hy.2.2.2.2 hB hT hM)
  have HK:=Lib.hid (tK_c hx.2.2.2.1)
  have HK':=Lib.hid (tK_c hy.2.2.2.1)
  have HR:=Lib.hid (tRoot_c hx.2.2.2.1)
  have HR':=Lib.hid (tRoot_c hy.2.2.2.1)
  have e1:((k:Int) != (k:Int)) = false:=by simp
  clear hv hI hx hy hB hT hM
  go_enter Tryz.func80,Tryz.ntmps80
  go_wp2_with fail
  refine HK.out.mono ?_
  rintro e w' ⟨rfl,rfl⟩
  clear HK
  go_wp2_with fail
  refine HK'.out.mono ?_
  rintro e w' ⟨rfl,rfl⟩
  clear HK'
  go_wp2_with fail
  refine HR.out.mono ?_
  rintro e w' ⟨rfl,rfl⟩
  clear HR
  go_wp2_with fail
  refine HR'.out.mono ?_
  rintro e w' ⟨rfl,rfl⟩
  clear HR'
  go_wp2_with fail
  refine HTh.out.mono ?_
  rintro e w2 ⟨z,us,F',rfl,he⟩
  have HE:=Lib.hid he
  clear he HTh
  go_wp2_with fail
  go_ret2
  exact ⟨z,rfl,us,F',HE.out⟩
/-! ### Changes -/
/-! ### Count -/
/-! ### Same -/
theorem tptr_none (w:World):(binOp .eql 29 (.pointer none) (.pointer none)).run Tryz.prog w = .ok (.bool true) w:=by
  have h2:∀ d:Nat,(Op.equalIn (d + 1) 29 (.pointer none) (.pointer none)).run Tryz.prog w = .ok true w:=fun d => by
    simp [Op.equalIn,run_underlying Tryz.underlying29]
  simp only [binOp]
  simp [Op.equal,Op.maxDepth,h2 9999]
theorem dSame_same (w:World) (x:Option Addr):Calls Tryz.prog 29 #[.pointer x,.pointer x] w fun e w' => e = .returned (.bool true)∧w = w':=by
  cases x with
  | none =>
    have hp:=tptr_none w
    go_enter Tryz.func29,Tryz.ntmps29
    go_wp2_with fail
    go_ret
    exact ⟨rfl,rfl⟩
  | some a =>
    have hp:=tptr_eq w a
    go_enter Tryz.func29,Tryz.ntmps29
    go_wp2_with fail
    go_ret
    exact ⟨rfl,rfl⟩
theorem treeX_same {w:World} {b k:Nat} {x y:Option T} (hx:TreeX w b k x) (hy:TreeX w b k y):Tr.entsO x = Tr.entsO y:=by
  have e:=hx.1.2.2.2.1.2.symm.trans hy.1.2.2.2.1.2
  simp only [Option.some.injEq,Value.pointer.injEq] at e
  exact nodeO_same hx.1.2.2.2.2 hy.1.2.2.2.2 e
theorem dSame_c {w:World} {b b' k:Nat} {x y:Option T} (hx:TreeX w b k x) (hy:TreeX w b' k y) (hT:∀ w',Below w.heap.size w w'→Tz w') (hM:(Tr.chO x y).length≤100000000) {r:Bool} (hr:(Tr.chO x y).isEmpty = r) :
    Calls Tryz.prog 29 #[.pointer (some ⟨b,0,none⟩),.pointer (some ⟨b',0,none⟩)] w fun e w' => e = .returned (.bool r)∧Below w.heap.size w w':=by
  by_cases hbb:b = b'
  · subst hbb
    have he:Tr.chO x y = []:=by
      show Tr.chL (Tr.entsO x) (Tr.entsO y) = []
      rw [treeX_same hx hy]
      exact Tr.chL_same _
    rw [he] at hr
    subst hr
    refine (dSame_same w _).mono ?_
    rintro e w' ⟨rfl,rfl⟩
    exact ⟨rfl,Below.refl _ _⟩
  · have h2:=below_alloc w (.cells #[.bool true] 4)
    have hg:=heap_at w (.cells #[.bool true] 4) _ rfl
    have hp:=tptr_ne hx.2 hy.2 hbb
    have HTh:=Lib.hid (dthru_c (same1_visit (B:=w.heap.size) (k:=k) (h:=w.heap.size) (M:=100000000) (Nat.le_refl _)) (w:=w.alloc (.cells #[.bool true] 4)) (F:=fun b => b = w.heap.size)
      ⟨hg,rfl⟩ (hx.1.below h2 (Nat.le_refl _) (Nat.le_refl _)) (hy.1.below h2 (Nat.le_refl _) (Nat.le_refl _)) h2.size (fun w' hb => hT w' (h2.trans hb)) hM)
    have H2:=Lib.hid (And.intro h2 hr)
    clear hx hy hT hM hg h2 hbb hr
    go_enter Tryz.func29,Tryz.ntmps29
    go_wp2_with fail
    refine HTh.out.mono ?_
    rintro e w3 ⟨z,rfl,us,F',⟨i1,rfl⟩,-,hgo,hF,hfo⟩
    have hus:us.isEmpty = r:=by
      rw [← H2.out.2]
      have hh:=hgo rfl
      cases hc:Tr.chO x y with
      | nil => rw [hh.2 hc]
      | cons a l =>
        cases us with
        | nil => have:=hh.1 rfl;rw [hc] at this;cases this
        | cons => rfl
    have c0:w3.cell? ⟨w.heap.size,0,none⟩ = some (.bool r):=by rw [cell_of_row w3 _ _ _ _ (0,0) i1,hus];rfl
    have hbl:Below w.heap.size w w3:=H2.out.1.trans (hfo.below H2.out.1.size (fun b hb => by omega))
    have HR:=Lib.hid hbl
    clear i1 hgo hF hfo hbl HTh H2 hus hp
    cases r with
    | true => (go_wp2_with fail);go_ret;exact ⟨rfl,HR.out⟩
    | false => (go_wp2_with fail);go_ret;exact ⟨rfl,HR.out⟩
/-! ### Steps -/
end Go.Proofs.YtkeepngaaleakaaGreatDoor
namespace Go.Proofs.YtkeepngaaleakaaGreatDoor
open Go.ChangeShapes Go.WideShapes Go.ChangeAt Go.RowKit
open Tr (T S4 Ent)
theorem nptr_none (w:World):(binOp .eql 81 (.pointer none) (.pointer none)).run Tryz.prog w = .ok (.bool true) w:=by
  have h2:∀ d:Nat,(Op.equalIn (d + 1) 81 (.pointer none) (.pointer none)).run Tryz.prog w = .ok true w:=fun d => by
    simp [Op.equalIn,run_underlying Tryz.underlying81]
  simp only [binOp]
  simp [Op.equal,Op.maxDepth,h2 9999]
end Go.Proofs.YtkeepngaaleakaaGreatDoor
namespace Go.Proofs.YtkeepngaaleakaaGreatDoor
open Go.ChangeShapes Go.WideShapes Go.ChangeAt Go.RowKit
open Tr (T S4 Ent Tri)
structure TriN (w:World) (B k:Nat) (t:Tri):Prop where
  o:NodeO w B k t.o
  a:NodeO w B k t.a
  b:NodeO w B k t.b
theorem TriN.below {w w':World} {B B' C k:Nat} {t:Tri} (h:TriN w B k t) (hb:Below C w w') (hC:B≤C) (hB:B≤B'):TriN w' B' k t:=⟨h.o.below hb hC hB,h.a.below hb hC hB,h.b.below hb hC hB⟩
theorem TriN.mem {w:World} {B k:Nat} {t:Tri} (h:TriN w B k t) {x:T} (hx:x∈t.list):Node w B k x:=by
  rcases Tr.Tri.mem.1 hx with e | e | e
  · exact h.o x e
  · exact h.a x e
  · exact h.b x e
/-! ### of sums -/
section
variable {p:List Nat} {t:Tri}
end
abbrev z4:Array Value:=#[.int .u64 0,.int .u64 0,.int .u64 0,.int .u64 0]
theorem keepz {w2 w3:World} {q:Nat} {c:Array Value} {ty:TypeId} (h:w2.heap[q]? = some (.cells c ty (0,0))) (hb:Below w2.heap.size w2 w3):w3.heap[q]? = some (.cells c ty (0,0)) :=
  (hb.block q (Array.getElem?_eq_some_iff.1 h).1).trans h
end Go.Proofs.YtkeepngaaleakaaGreatDoor
