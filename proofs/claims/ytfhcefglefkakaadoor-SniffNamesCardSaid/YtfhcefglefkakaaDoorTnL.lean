/- What XTn says, for seats without a ledger. -/
import Derived.Test.YtfhcefglefkakaaDoorTn
namespace Go.Proofs.YtfhcefglefkakaaDoor.Le
end Go.Proofs.YtfhcefglefkakaaDoor.Le
