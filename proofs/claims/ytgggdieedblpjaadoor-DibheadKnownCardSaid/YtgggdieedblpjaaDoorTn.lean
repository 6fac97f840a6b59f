/- In a seat that holds the ledger's texts: XTnL stands in for XTn. -/
import Derived.Test.YtgggdieedblpjaaDoorTnL
