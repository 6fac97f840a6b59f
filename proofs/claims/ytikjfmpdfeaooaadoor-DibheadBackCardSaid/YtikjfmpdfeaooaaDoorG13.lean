/- Texts of one kind, one behind the other: Mas6. -/
import Derived.Laws.ResultCell
import Derived.Test.YtikjfmpdfeaooaaDoorG10
/- Layer 9: the document's Color, walked, out of its channels. -/
namespace Go.Proofs.YtikjfmpdfeaooaaDoor.Ma
open Go.ChangeShapes Go.WideShapes Go.ChangeAt Go.RowKit
open Go.Proofs.YtikjfmpdfeaooaaDoor.Sc
set_option linter.unusedVariables false

end Go.Proofs.YtikjfmpdfeaooaaDoor.Ma
