import Derived.Test.YtmkejbfgdmbejaaGreatDoorM91
import Derived.Test.YtmkejbfgdmbejaaGreatDoorM27
namespace Go.Proofs.YtmkejbfgdmbejaaGreatDoor
open Go.ChangeShapes Go.WideShapes Go.ChangeAt Go.RowKit
open Tr (T S4 Ent Sd Fl Chg)
/-! ### Changes -/
/-! ### Count -/
/-! ### Same -/
theorem tptr_no1 (w:World) (a:Addr):(binOp .eql 29 (.pointer none) (.pointer (some a))).run Tryz.prog w = .ok (.bool false) w:=by
  have h2:∀ d:Nat,(Op.equalIn (d + 1) 29 (.pointer none) (.pointer (some a))).run Tryz.prog w = .ok false w:=fun d => by
    simp [Op.equalIn,run_underlying Tryz.underlying29]
  simp only [binOp]
  simp [Op.equal,Op.maxDepth,h2 9999]
theorem tptr_none (w:World):(binOp .eql 29 (.pointer none) (.pointer none)).run Tryz.prog w = .ok (.bool true) w:=by
  have h2:∀ d:Nat,(Op.equalIn (d + 1) 29 (.pointer none) (.pointer none)).run Tryz.prog w = .ok true w:=fun d => by
    simp [Op.equalIn,run_underlying Tryz.underlying29]
  simp only [binOp]
  simp [Op.equal,Op.maxDepth,h2 9999]
/-! ### Steps -/
end Go.Proofs.YtmkejbfgdmbejaaGreatDoor
