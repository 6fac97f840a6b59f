/- Layer 30: the document's sign of a TGA file, walked (written by wip/gen/sn11.py). -/
import Derived.Test.YtibbebglbcjnmaaDoorSnD
import Derived.Deep.CutRange
namespace Go.Proofs.YtibbebglbcjnmaaDoor.Sn
open Go.ChangeShapes Go.WideShapes Go.ChangeAt Go.RowKit
open Go.Proofs.YtibbebglbcjnmaaDoor.Le Go.Proofs.YtibbebglbcjnmaaDoor.Tk Go.Proofs.YtibbebglbcjnmaaDoor.Dh Go.Proofs.YtibbebglbcjnmaaDoor.Id
set_option linter.unusedVariables false

/-- Is a head's beginning a TGA file's, by the bytes that tell it? -/
def rB (m t c a b p q d : Nat) : Bool := mayT t m && (decide (m = 0) || Tg.colB c) && (!((a == 0 && b == 0) || (p == 0 && q == 0)) && (if decide (t = 2 ∨ t = 10) then Tg.colB d else d == 8))

end Go.Proofs.YtibbebglbcjnmaaDoor.Sn
