/- The laws of layer 11: fresh, same, the chapter's example. -/
import Derived.Test.YtfhcefglefkakaaGreatDoorTokB
import Derived.Test.YtfhcefglefkakaaGreatDoorSrcA
namespace Go.Proofs.YtfhcefglefkakaaGreatDoor.Tk
open Go.ChangeShapes Go.WideShapes Go.ChangeAt Go.RowKit
open Go.Proofs.YtfhcefglefkakaaGreatDoor.Le Go.Proofs.YtfhcefglefkakaaGreatDoor.Sr
set_option linter.unusedVariables false

/-- The chapter's example. -/
def exS : ByteArray := ⟨#[32, 35, 120, 10, 49, 50, 32]⟩
theorem exV : gotV exS 0 = ⟨12, 4, 6, 0, 0⟩ := by
  have e3 : remEnd exS 3 = 3 := remEnd_stop (by decide)
  have e2 : remEnd exS 2 = 3 := (remEnd_on (by decide) (by decide) (by decide)).trans e3
  have e1 : remEnd exS 1 = 3 := (remEnd_on (by decide) (by decide) (by decide)).trans e2
  have n1 : remNext exS 1 = 4 := by
    unfold remNext
    rw [e1, if_pos (by decide)]
  have o4 : overV exS 4 = 4 := overV_stop (by decide) (by decide) (by decide)
  have o1 : overV exS 1 = 4 := by rw [overV_rem (by decide) (by decide), n1, o4]
  have o0 : overV exS 0 = 4 := (overV_blank (by decide) (by decide)).trans o1
  have v6 : Tk.numV exS 6 12 = (12, 6) := numV_stop (by decide)
  have v5 : Tk.numV exS 5 1 = (12, 6) := (numV_on (by decide) (by decide) (by decide)).trans v6
  have v4 : Tk.numV exS 4 0 = (12, 6) := (numV_on (by decide) (by decide) (by decide)).trans v5
  exact gotV_yes' o0 (by decide) v4 (by decide)

end Go.Proofs.YtfhcefglefkakaaGreatDoor.Tk
