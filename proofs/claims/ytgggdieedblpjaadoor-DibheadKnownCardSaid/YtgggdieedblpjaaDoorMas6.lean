/- Layer 9: the document's Color, walked, out of its channels. -/
import Derived.Test.YtgggdieedblpjaaDoorMas5
import Derived.Laws.ResultCell
namespace Go.Proofs.YtgggdieedblpjaaDoor.Ma
open Go.ChangeShapes Go.WideShapes Go.ChangeAt Go.RowKit
open Go.Proofs.YtgggdieedblpjaaDoor.Sc
set_option linter.unusedVariables false

end Go.Proofs.YtgggdieedblpjaaDoor.Ma
