/- Package bits: numbers of bits, by definition: pure. -/
import Derived.Test.YthgpjdnppknghaaBit2
namespace Go.Proofs.Ythgpjdnppknghaa.Bi
open Go.RowKit
set_option linter.unusedVariables false

/-- The number of n bits of a byte from bit j on. -/
def bitB (low : Bool) (c j : Nat) : Nat → Nat
  | 0 => 0
  | n + 1 => joinV low (bitB low c j n) n (if low then c / 2 ^ (j + n) % 2 else c / 2 ^ (7 - (j + n)) % 2) 1
/-- Bit i of a text's bytes. -/
def bitAt (low : Bool) (s : ByteArray) (i : Nat) : Nat :=
  match s.data.toList[i / 8]? with
  | none => 0
  | some c => if low then c.toNat / 2 ^ (i % 8) % 2 else c.toNat / 2 ^ (7 - i % 8) % 2
/-- The number of n bits from bit a on. -/
def bitsV (low : Bool) (s : ByteArray) (a : Nat) : Nat → Nat
  | 0 => 0
  | n + 1 => joinV low (bitsV low s a n) n (bitAt low s (a + n)) 1

theorem bitAt_lt (low : Bool) (s : ByteArray) (i : Nat) : bitAt low s i < 2 := by
  unfold bitAt
  split
  · decide
  · split <;> exact Nat.mod_lt _ (by decide)
theorem bitsV_lt (low : Bool) (s : ByteArray) (a : Nat) : ∀ n, bitsV low s a n < 2 ^ n
  | 0 => by simp [bitsV]
  | n + 1 => by
    have ih := bitsV_lt low s a n
    have hb := bitAt_lt low s (a + n)
    rw [bitsV, joinV, show (2 : Nat) ^ (n + 1) = 2 ^ n * 2 from Nat.pow_succ _ _]
    split
    · have : bitAt low s (a + n) * 2 ^ n ≤ 1 * 2 ^ n := Nat.mul_le_mul_right _ (by omega)
      omega
    · rw [show (2 : Nat) ^ 1 = 2 from rfl]
      omega
/-- Numbers of bits are put together. -/
theorem bits_add (low : Bool) (s : ByteArray) (a n : Nat) : ∀ m, bitsV low s a (n + m) = joinV low (bitsV low s a n) n (bitsV low s (a + n) m) m
  | 0 => by cases low <;> simp [bitsV, joinV]
  | m + 1 => by
    rw [← Nat.add_assoc, bitsV, bits_add low s a n m, bitsV, Nat.add_assoc a n m]
    cases low with
    | true =>
      simp only [joinV, if_true]
      rw [Nat.add_mul, Nat.mul_assoc, ← Nat.pow_add, Nat.add_comm m n, Nat.add_assoc]
    | false =>
      simp only [joinV, Bool.false_eq_true, if_false]
      rw [show (2 : Nat) ^ (m + 1) = 2 ^ m * 2 from Nat.pow_succ _ _, show (2 : Nat) ^ 1 = 2 from rfl, Nat.add_mul, Nat.mul_assoc, Nat.add_assoc]

theorem cut_bitB : ∀ (low : Bool) (left n : Fin 9) (c : Fin 256), n.1 ≤ left.1 → cutV low c.1 left.1 n.1 = bitB low c.1 (8 - left.1) n.1 := by decide +kernel
theorem bits_in (low : Bool) (s : ByteArray) (p left : Nat) (hp : p < s.size) (hl : left ≤ 8) : ∀ n, n ≤ left → bitsV low s (8 * p + (8 - left)) n = bitB low (s[p].toNat) (8 - left) n
  | 0, _ => rfl
  | n + 1, h => by
    rw [bitsV, bitB, bits_in low s p left hp hl n (by omega)]
    congr 1
    unfold bitAt
    have e1 : (8 * p + (8 - left) + n) / 8 = p := by omega
    have e2 : (8 * p + (8 - left) + n) % 8 = 8 - left + n := by omega
    rw [e1, e2, byte_at s p hp]
/-- What is cut of a byte is the number of those bits. -/
theorem cut_is (low : Bool) (s : ByteArray) (p left n : Nat) (hp : p < s.size) (hl : left ≤ 8) (hn : n ≤ left) : cutV low (s[p].toNat) left n = bitsV low s (8 * p + (8 - left)) n := by
  rw [bits_in low s p left hp hl n hn]
  exact cut_bitB low ⟨left, by omega⟩ ⟨n, by omega⟩ ⟨s[p].toNat, s[p].toNat_lt⟩ hn

end Go.Proofs.Ythgpjdnppknghaa.Bi
