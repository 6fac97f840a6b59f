/- Layer 11: the document's Blank and Over, walked. -/
import Derived.Test.YtfhcefglefkakaaGreatDoorTnL
import Derived.Test.YtfhcefglefkakaaGreatDoorTok1
import Derived.Deep.LoopGhost
import Derived.Deep.RegionHeld3
namespace Go.Proofs.YtfhcefglefkakaaGreatDoor.Tk
open Go.ChangeShapes Go.WideShapes Go.ChangeAt Go.RowKit
open Go.Proofs.YtfhcefglefkakaaGreatDoor.Le
set_option linter.unusedVariables false

end Go.Proofs.YtfhcefglefkakaaGreatDoor.Tk
