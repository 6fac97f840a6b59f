/- Package src: the six numbers. -/
import Derived.Test.YtajbpcaghmcplaaSrc4
namespace Go.Proofs.Ytajbpcaghmcplaa.Sr
open Go.ChangeShapes Go.WideShapes Go.ChangeAt Go.RowKit
open Go.Proofs.Ytajbpcaghmcplaa.Le
set_option linter.unusedVariables false

theorem part_size (s : ByteArray) (p n : Nat) (h : p + n ≤ s.size) : (s.extract p (p + n)).size = n := by
  rw [ByteArray.size_extract]
  omega

end Go.Proofs.Ytajbpcaghmcplaa.Sr
