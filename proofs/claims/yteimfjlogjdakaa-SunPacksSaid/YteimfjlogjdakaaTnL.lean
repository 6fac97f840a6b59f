/- What XTn says, for seats without a ledger. -/
import Derived.Test.YteimfjlogjdakaaTn
namespace Go.Proofs.Yteimfjlogjdakaa.Le
end Go.Proofs.Yteimfjlogjdakaa.Le
