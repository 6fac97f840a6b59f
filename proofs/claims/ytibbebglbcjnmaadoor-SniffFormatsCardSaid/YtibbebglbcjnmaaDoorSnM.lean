/- Layer 30: a function of its own is not nil. -/
import Derived.Test.YtibbebglbcjnmaaDoorSn3
namespace Go.Proofs.YtibbebglbcjnmaaDoor.Sn
open Go.ChangeShapes Go.WideShapes Go.ChangeAt Go.RowKit
set_option linter.unusedVariables false

theorem fnil (f : Nat) (b : Array Value) (w : World) : (binOp .eql 25 (.func (.func f) #[] b) .nilFunc).run Tryd.prog w = .ok (.bool false) w := by
  have e : (Op.equal 25 (.func (.func f) #[] b) .nilFunc).run Tryd.prog w = .ok false w := by
    unfold Op.equal
    rw [show Op.maxDepth = 9999 + 1 from rfl]
    unfold Op.equalIn
    simp [run_underlying Tryd.underlying25]
  simp [binOp, go_sem, e, Result.andThen]

end Go.Proofs.YtibbebglbcjnmaaDoor.Sn
