/- Package src: the six numbers. -/
import Derived.Test.YtgkeopgccocmkaaSrc4
namespace Go.Proofs.Ytgkeopgccocmkaa.Sr
open Go.ChangeShapes Go.WideShapes Go.ChangeAt Go.RowKit
open Go.Proofs.Ytgkeopgccocmkaa.Le
set_option linter.unusedVariables false

theorem part_size (s : ByteArray) (p n : Nat) (h : p + n ≤ s.size) : (s.extract p (p + n)).size = n := by
  rw [ByteArray.size_extract]
  omega

end Go.Proofs.Ytgkeopgccocmkaa.Sr
