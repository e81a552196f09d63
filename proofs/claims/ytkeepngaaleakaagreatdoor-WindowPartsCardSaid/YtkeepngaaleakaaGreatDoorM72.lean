import Derived.Test.YtkeepngaaleakaaGreatDoorM71
import Derived.Test.YtkeepngaaleakaaGreatDoorM30
namespace Go.Proofs.YtkeepngaaleakaaGreatDoor
open Go.RowKit Go.Shelf
open Tr (T S4 Ent)
attribute [local go_sem] Oper.semAt_some
theorem shape_places (w:World) (a b c d e:Value):(Instr.field 138 (.agg #[a,b,c,d,e]) 2).run Tryz.prog w = .ok c w:=by kernel_rfl
section
variable {w W:World} {k gy l x j:Nat} {pre:List Nat} {kx ky:List (Nat × T)}
end
attribute [local go_sem] Oper.semAt_some
theorem addr_at {w2:World} {k l:Nat} {us:List Nat} {A:Option Addr} {c B:Nat} (hp:Pts w2 B A us) (hB:B≤w2.heap.size) (hu:us.length = k) (k1:1≤k) (k16:k≤16) (hl:l≤63) {a:Nat} (ha:Z.addr us l = a) :
    Calls Tryz.prog 160 #[.slice A us.length c,.int .i64 (l:Int)] w2 fun e w' => e = .returned (.tuple #[.int .i64 (a:Int),.int .i64 0])∧w2 = w':=by
  subst ha
  exact addr_yes A c us l w2.heap.size w2 (hp.keep hB (fun _ _ => rfl)) (by omega) (by omega) hl
theorem kid_at {w w2:World} {B k:Nat} {t:T} (h:Node w B k t) (hB:B≤w.heap.size) (h2:Below w.heap.size w w2) (a:Int) {x:Option Addr} (hx:(Sl.get t.ks a).map (fun s => (⟨s.blk,0,none⟩:Addr)) = x) :
    Calls Tryz.prog 122 #[.pointer (some ⟨t.blk,0,none⟩),.int .i64 a] w2 fun e w' => e = .returned (.pointer x)∧∃ n,w' = w2.drewN n :=
  nKid_c (h.below h2 hB (Nat.le_refl _)).2 a x (by
    rw [kidL_get,← hx]
    cases Sl.get t.ks a <;> rfl)
theorem kid_br {w w2:World} {B k g l:Nat} {pre:List Nat} {ks:List (Nat × T)} (h:Node w B k (.br g l pre ks)) (hB:B≤w.heap.size) (h2:Below w.heap.size w w2) (a:Int) {x:Option Addr} (hx:(Sl.get ks a).map (fun s => (⟨s.blk,0,none⟩:Addr)) = x) :
    Calls Tryz.prog 122 #[.pointer (some ⟨g,0,none⟩),.int .i64 a] w2 fun e w' => e = .returned (.pointer x)∧∃ n,w' = w2.drewN n:=kid_at h hB h2 a hx
end Go.Proofs.YtkeepngaaleakaaGreatDoor
