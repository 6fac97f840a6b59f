/- Layer 5: the chapter's example; numbers of four bytes. -/
import Derived.Test.YthgpjdnppknghaaSrcA
namespace Go.Proofs.Ythgpjdnppknghaa.Sr
open Go.ChangeShapes Go.WideShapes Go.ChangeAt Go.RowKit
open Go.Proofs.Ythgpjdnppknghaa.Le
set_option linter.unusedVariables false

end Go.Proofs.Ythgpjdnppknghaa.Sr
