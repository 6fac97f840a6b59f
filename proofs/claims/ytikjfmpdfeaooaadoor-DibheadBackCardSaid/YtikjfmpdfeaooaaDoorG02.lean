/- Texts of one kind, one behind the other: Law2. -/
import Derived.ChangeSlices
import Derived.Test.YtikjfmpdfeaooaaDoorG01
/- What laws' rows want of slices of bytes: each byte a number, by a function of the place. -/
namespace Go.Proofs.YtikjfmpdfeaooaaDoor.La
open Go.ChangeShapes Go.WideShapes Go.ChangeAt Go.RowKit Go.Deep Go.Joins
set_option linter.unusedVariables false

end Go.Proofs.YtikjfmpdfeaooaaDoor.La
