/- Layer 12: the document's bad and Row, walked. -/
import Derived.Test.YtfhcefglefkakaaGreatDoorTok5
namespace Go.Proofs.YtfhcefglefkakaaGreatDoor.Tk
open Go.ChangeShapes Go.WideShapes Go.ChangeAt Go.RowKit
open Go.Proofs.YtfhcefglefkakaaGreatDoor.Le
set_option linter.unusedVariables false

/-- How many bytes a row has, of the kinds 4 to 6. -/
def rowV (k w m : Nat) : Nat := if k = 4 then (w + 7) / 8 else (if k = 6 then 3 * w else w) * (if 255 < m then 2 else 1)

end Go.Proofs.YtfhcefglefkakaaGreatDoor.Tk
