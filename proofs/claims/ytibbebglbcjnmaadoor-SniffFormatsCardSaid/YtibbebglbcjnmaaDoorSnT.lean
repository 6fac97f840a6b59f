/- The program's table of formats, out of a row's condition. -/
import Derived.Test.YtibbebglbcjnmaaDoorSn2
import Derived.Lib.LaidTab
namespace Go.Proofs.YtibbebglbcjnmaaDoor.Sn
open Go.ChangeShapes Go.WideShapes Go.ChangeAt Go.RowKit
open Go.Proofs.YtibbebglbcjnmaaDoor.Le
set_option linter.unusedVariables false

def ordZ : List Int := [1, 3, 5, 6, 8, 7, 4, 2]
theorem ord_of {w : World} (h : Lib.TabIs Tryd.prog w "tintype/sniff.order" .i64 ordZ) : OrdT w := fun j hj => by
  have hl : j < ordZ.length := hj
  have hc := h.cell (g := 0) (by kernel_rfl) j hl
  rw [hc]
  obtain rfl | rfl | rfl | rfl | rfl | rfl | rfl | rfl : j = 0 ∨ j = 1 ∨ j = 2 ∨ j = 3 ∨ j = 4 ∨ j = 5 ∨ j = 6 ∨ j = 7 := by omega
  all_goals rfl

end Go.Proofs.YtibbebglbcjnmaaDoor.Sn
