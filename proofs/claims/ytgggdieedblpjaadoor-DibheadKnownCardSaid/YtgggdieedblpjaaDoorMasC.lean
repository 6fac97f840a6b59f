/- Layer 9, in a seat without colours: nothing but the loop's tactic. -/
import Derived.Test.YtgggdieedblpjaaDoorMasB
import Derived.Deep.LoopGhost
