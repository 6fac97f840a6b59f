/- What XTn says, for seats without a ledger. -/
import Derived.Test.YtibbebglbcjnmaaDoorTn
namespace Go.Proofs.YtibbebglbcjnmaaDoor.Le
end Go.Proofs.YtibbebglbcjnmaaDoor.Le
