/- Bytes of a text as numbers. -/
import Derived.Test.YtibbebglbcjnmaaDoorSrcA
import Derived.Lib.RabinKarpLaws
import Derived.Deep.LoopGhost
namespace Go.Proofs.YtibbebglbcjnmaaDoor.Dh
open Go.ChangeShapes Go.WideShapes Go.ChangeAt Go.RowKit
open Go.Proofs.YtibbebglbcjnmaaDoor.Le Go.Proofs.YtibbebglbcjnmaaDoor.Sr
set_option linter.unusedVariables false

/-- Byte i of a text, as a number; two bytes, four bytes, the lowest first. -/
def bn (s : ByteArray) (i : Nat) : Nat := (s.data.toList.getD i 0).toNat
def w2 (s : ByteArray) (i : Nat) : Nat := bn s i + 256 * bn s (i + 1)
def w4 (s : ByteArray) (i : Nat) : Nat := bn s i + 256 * bn s (i + 1) + 65536 * bn s (i + 2) + 16777216 * bn s (i + 3)
theorem bn_at (s : ByteArray) (k : Nat) (h : k < s.size) : (s[k]'h).toNat = bn s k := by
  have h1 := Go.Proofs.byte_at s k h
  unfold bn
  rw [List.getD_eq_getElem?_getD, h1]
  rfl
theorem bn_lt (s : ByteArray) (k : Nat) : bn s k < 256 := UInt8.toNat_lt _
theorem w2_lt (s : ByteArray) (i : Nat) : w2 s i < 65536 := by
  have h1 := bn_lt s i
  have h2 := bn_lt s (i + 1)
  unfold w2
  omega
theorem w4_lt (s : ByteArray) (i : Nat) : w4 s i < 4294967296 := by
  have h1 := bn_lt s i
  have h2 := bn_lt s (i + 1)
  have h3 := bn_lt s (i + 2)
  have h4 := bn_lt s (i + 3)
  unfold w4
  omega
theorem bn_ext (s : ByteArray) (p q i : Nat) (hq : q ≤ s.size) (hi : p + i < q) : bn (s.extract p q) i = bn s (p + i) := by
  unfold bn
  rw [Lib.extract_data, List.getD_eq_getElem?_getD, List.getD_eq_getElem?_getD, List.getElem?_take_of_lt (by omega), List.getElem?_drop]
theorem w2_ext (s : ByteArray) (p q i : Nat) (hq : q ≤ s.size) (hi : p + i + 1 < q) : w2 (s.extract p q) i = w2 s (p + i) := by
  unfold w2
  rw [bn_ext s p q i hq (by omega), bn_ext s p q (i + 1) hq (by omega)]
  rfl
theorem w4_ext (s : ByteArray) (p q i : Nat) (hq : q ≤ s.size) (hi : p + i + 3 < q) : w4 (s.extract p q) i = w4 s (p + i) := by
  unfold w4
  rw [bn_ext s p q i hq (by omega), bn_ext s p q (i + 1) hq (by omega), bn_ext s p q (i + 2) hq (by omega), bn_ext s p q (i + 3) hq (by omega)]
  rfl


end Go.Proofs.YtibbebglbcjnmaaDoor.Dh
