/- Texts of one kind, one behind the other: Tp6i, Tp9. -/
import Derived.Test.YtnieeckdldpebaaGreatG16
import Derived.Test.YtnieeckdldpebaaGreatG27
import Derived.Test.YtnieeckdldpebaaGreatG28
/- Layer 17: the document's Pixel of an entry, walked (written by wip/gen/tp6.py). -/
namespace Go.Proofs.YtnieeckdldpebaaGreat.Tp
open Go.ChangeShapes Go.WideShapes Go.ChangeAt Go.RowKit
open Go.Proofs.YtnieeckdldpebaaGreat.Sc Go.Proofs.YtnieeckdldpebaaGreat.Le Go.Proofs.YtnieeckdldpebaaGreat.Pa Go.Proofs.YtnieeckdldpebaaGreat.Tg
set_option linter.unusedVariables false

end Go.Proofs.YtnieeckdldpebaaGreat.Tp

/- Layer 17: the document's Read of a map, walked (written by wip/gen/tp9.py). -/
namespace Go.Proofs.YtnieeckdldpebaaGreat.Tp
open Go.ChangeShapes Go.WideShapes Go.ChangeAt Go.RowKit
open Go.Proofs.YtnieeckdldpebaaGreat.Sc Go.Proofs.YtnieeckdldpebaaGreat.Le Go.Proofs.YtnieeckdldpebaaGreat.Pa Go.Proofs.YtnieeckdldpebaaGreat.Tg
set_option linter.unusedVariables false

end Go.Proofs.YtnieeckdldpebaaGreat.Tp
