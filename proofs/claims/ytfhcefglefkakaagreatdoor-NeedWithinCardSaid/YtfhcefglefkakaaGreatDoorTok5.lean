/- Layer 11: the document's Digit, walked. -/
import Derived.Test.YtfhcefglefkakaaGreatDoorTok4
namespace Go.Proofs.YtfhcefglefkakaaGreatDoor.Tk
open Go.ChangeShapes Go.WideShapes Go.ChangeAt Go.RowKit
open Go.Proofs.YtfhcefglefkakaaGreatDoor.Le
set_option linter.unusedVariables false

end Go.Proofs.YtfhcefglefkakaaGreatDoor.Tk
