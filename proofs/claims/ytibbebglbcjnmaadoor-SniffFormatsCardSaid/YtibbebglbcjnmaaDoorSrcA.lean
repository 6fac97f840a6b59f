/- What the pure parts of later layers take from layer 5. -/
import Derived.Test.YtibbebglbcjnmaaDoorTnL
import Derived.Lib.RabinKarpLaws
namespace Go.Proofs.YtibbebglbcjnmaaDoor.Sr
open Go.ChangeShapes Go.WideShapes Go.ChangeAt Go.RowKit
open Go.Proofs.YtibbebglbcjnmaaDoor.Le
set_option linter.unusedVariables false

theorem cut_at (s : ByteArray) (p n : Nat) (h : p + n ≤ s.size) (w : World) :
    (Instr.slice 9 (.string s) (some (.int .i64 (p : Int))) (some (.int .i64 ((p : Int) + n))) none).run Tryd.prog w = .ok (.string (s.extract p (p + n))) w := by
  have ht' : Tryd.prog.underlying 9 = some .string := by kernel_rfl
  have e : ((p : Int) + n).toNat = p + n := by omega
  simp [Instr.slice, run_underlying ht', Instr.sliceBounds, run_sliceBound, Result.andThen, show (p : Int) + n ≤ s.size by omega, show (0 : Int) ≤ p + n by omega, e]
  rw [run_sliceBound _ _ _ _ _ (by omega) (by omega)]
  simp
end Go.Proofs.YtibbebglbcjnmaaDoor.Sr
