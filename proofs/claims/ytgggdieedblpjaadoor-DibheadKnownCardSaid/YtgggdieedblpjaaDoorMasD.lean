/- Layer 9: a word's colour, by the places; the chapter's examples. -/
import Derived.Test.YtgggdieedblpjaaDoorMasC
import Derived.Test.YtgggdieedblpjaaDoorMas6
namespace Go.Proofs.YtgggdieedblpjaaDoor.Ma
open Go.ChangeShapes Go.WideShapes Go.ChangeAt Go.RowKit
open Go.Proofs.YtgggdieedblpjaaDoor.Le Go.Proofs.YtgggdieedblpjaaDoor.Sc
set_option linter.unusedVariables false

/-- A place that Find may tell: of no bits, or of bits of a long word. -/
def okP (s n : Nat) : Prop := (s = 0 ∧ n = 0) ∨ (1 ≤ n ∧ s + n ≤ 32)
/-- A channel as eight bits. -/
def colV (word : Int) (s n : Nat) : Int := if n = 0 then 0 else near (ofV word s n) (pw n - 1)
/-- The mask of a place. -/
def maskW (s n : Nat) : Nat := if n = 0 then 0 else blk s n

theorem has_0 : hasB 0 0 = false := by decide

end Go.Proofs.YtgggdieedblpjaaDoor.Ma
