import Derived.Test.YtkeepngaaleakaaGreatDoorM16
import Derived.Test.YtkeepngaaleakaaGreatDoorM12
namespace Go.Proofs.YtkeepngaaleakaaGreatDoor
open Go.ChangeShapes Go.WideShapes Go.ChangeAt Go.RowKit
open Tr (T S4 Ent)
def jumpsN (J:Nat→Act→World→Prop) (Q:Exit→Act→World→Prop):Exit→Act→World→Prop:=fun e a w => match e with
  | .goto l => J l a w
  | e => Q e a w
theorem wp_scope_labelsN {P:Program} {c:Code} {Q:Exit→Act→World→Prop} {a:Act} {w:World} (rest:Nat→Code) (J:Nat→Nat→Act→World→Prop) (hf:∀ l m a w,J l m a w→findLabel c l = some (rest l))
    (first:c.wp P (jumpsN (fun l a' w' => ∃ m,J l m a' w') Q) a w)
    (pass:∀ l m a w,J l m a w→(rest l).wp P (jumpsN (fun l' a' w' => ∃ m',m' < m∧J l' m' a' w') Q) a w):(Code.scope c).wp P Q a w:=by
  intro b k cs
  have key:∀ m l a w,J l m a w→∃ e a' w',Q e a' w'∧Arrives P (lone (b.at a (.code (rest l) :: .inScope c :: k)) cs w) b k cs e a' w':=by
    intro m
    induction m using Nat.strongRecOn with
    | _ m ih =>
      intro l a w hJ
      obtain ⟨e,a₁,w₁,hq,harr⟩:=pass l m a w hJ b (.inScope c :: k) cs
      cases e with
      | normal => exact ⟨.normal,a₁,w₁,hq,Steps.trans harr (.one step_inScope)⟩
      | exit id => exact ⟨.exit id,a₁,w₁,hq,fun k' hk => harr k' (by simp [exitTo,hk])⟩
      | goto l' =>
        obtain ⟨m',hlt,hJ'⟩:=hq
        have hg:gotoIn l' (.inScope c :: k) = some (.code (rest l') :: .inScope c :: k):=by simp [gotoIn,hf l' m' _ _ hJ']
        obtain ⟨e₂,a₂,w₂,hq₂,harr₂⟩:=ih m' hlt l' a₁ w₁ hJ'
        exact ⟨e₂,a₂,w₂,hq₂,.of_steps (harr _ hg) harr₂⟩
      | ret => exact ⟨_,a₁,w₁,hq,harr⟩
      | panic ch => exact ⟨_,a₁,w₁,hq,harr⟩
      | outgrown => exact ⟨_,a₁,w₁,hq,harr⟩
  obtain ⟨e,a₁,w₁,hq,harr⟩:=first b (.inScope c :: k) cs
  cases e with
  | normal => exact ⟨.normal,a₁,w₁,hq,.head step_scope (Steps.trans harr (.one step_inScope))⟩
  | exit id => exact ⟨.exit id,a₁,w₁,hq,fun k' hk => .head step_scope (harr k' (by simp [exitTo,hk]))⟩
  | goto l =>
    obtain ⟨m,hJ'⟩:=hq
    have hg:gotoIn l (.inScope c :: k) = some (.code (rest l) :: .inScope c :: k):=by simp [gotoIn,hf l m _ _ hJ']
    obtain ⟨e₂,a₂,w₂,hq₂,harr₂⟩:=key m l a₁ w₁ hJ'
    exact ⟨e₂,a₂,w₂,hq₂,.of_steps (.head step_scope (harr _ hg)) harr₂⟩
  | ret => exact ⟨_,a₁,w₁,hq,.of_steps (.one step_scope) harr⟩
  | panic ch => exact ⟨_,a₁,w₁,hq,.of_steps (.one step_scope) harr⟩
  | outgrown => exact ⟨_,a₁,w₁,hq,.of_steps (.one step_scope) harr⟩
theorem jumpsN_le {P:Program} {c:Code} {Q:Exit→Act→World→Prop} {a:Act} {w:World} {J:Nat→Nat→Act→World→Prop} {m n:Nat} (h:c.wp P (jumpsN (fun l' a' w' => ∃ m',m' < m∧J l' m' a' w') Q) a w) (hm:m≤n) :
    c.wp P (jumpsN (fun l' a' w' => ∃ m',m' < n∧J l' m' a' w') Q) a w:=Code.wp_mono (by
  intro e a' w' h'
  cases e <;> first | exact h' | (obtain ⟨m',h1,h2⟩:=h';exact ⟨m',Nat.lt_of_lt_of_le h1 hm,h2⟩)) h
theorem jumpsN_any {P:Program} {c:Code} {Q:Exit→Act→World→Prop} {a:Act} {w:World} {J:Nat→Nat→Act→World→Prop} {m:Nat} (h:c.wp P (jumpsN (fun l' a' w' => ∃ m',m' < m∧J l' m' a' w') Q) a w) :
    c.wp P (jumpsN (fun l' a' w' => ∃ m',J l' m' a' w') Q) a w:=Code.wp_mono (by
  intro e a' w' h'
  cases e <;> first | exact h' | (obtain ⟨m',h1,h2⟩:=h';exact ⟨m',h2⟩)) h
def J2N (J0 J1:Nat→Act→World→Prop):Nat→Nat→Act→World→Prop
  | 0 => J0
  | 1 => J1
  | _ => fun _ _ _ => False
theorem slotsN_list (l:List Value):l = (List.range l.length).map fun i => l.getD i undef:=by
  apply List.ext_getElem
  · simp
  · intro i h1 h2
    simp only [List.getElem_map,List.getElem_range]
    rw [List.getD_eq_getElem?_getD,List.getElem?_eq_getElem h1]
    rfl
theorem slotsN_some {a:Array Value} {i:Nat} {x:Value} (h:a[i]? = some x):a.toList.getD i undef = x:=by
  rw [List.getD_eq_getElem?_getD,Array.getElem?_toList,h]
  rfl
theorem slotsN_arr {a:Array Value} {n:Nat} (h:a.size = n):a = ((List.range n).map fun i => a.toList.getD i undef).toArray:=by
  subst h
  have:=slotsN_list a.toList
  rw [Array.length_toList] at this
  rw [← this]
end Go.Proofs.YtkeepngaaleakaaGreatDoor
