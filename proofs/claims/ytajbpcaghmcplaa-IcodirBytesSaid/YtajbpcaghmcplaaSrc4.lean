/- Package src: numbers are put together of bytes. -/
import Derived.Test.YtajbpcaghmcplaaSrc3
import Derived.Deep.LoopGhost
import Derived.Laws.BitsAllLaws
import Derived.Lib.BufferWrite
import Derived.Lib.RabinKarpLaws
namespace Go.Proofs.Ytajbpcaghmcplaa.Sr
open Go.ChangeShapes Go.WideShapes Go.ChangeAt Go.RowKit
open Go.Proofs.Ytajbpcaghmcplaa.Le
set_option linter.unusedVariables false

/-- The number of some bytes, the highest first. -/
def acc (z : List UInt8) : Nat := z.foldl (fun v c => 256 * v + c.toNat) 0
/-- Bytes in the order in which they weigh, the highest first. -/
def ordd (o : Bool) (z : List UInt8) : List UInt8 := if o then z else z.reverse
theorem acc_snoc (z : List UInt8) (c : UInt8) : acc (z ++ [c]) = 256 * acc z + c.toNat := by simp [acc, List.foldl_append]
theorem acc_lt' (z : List UInt8) : acc z.reverse < 256 ^ z.length := by
  induction z with
  | nil => simp [acc]
  | cons c z ih =>
    rw [List.reverse_cons, acc_snoc, List.length_cons, Nat.pow_succ]
    have := c.toNat_lt
    omega
theorem acc_lt (z : List UInt8) : acc z < 256 ^ z.length := by
  have h := acc_lt' z.reverse
  rwa [List.reverse_reverse, List.length_reverse] at h
theorem ordd_len (o : Bool) (z : List UInt8) : (ordd o z).length = z.length := by unfold ordd; split <;> simp
/-- The number of bytes, in an order. -/
def numV (o : Bool) (z : ByteArray) : Nat := acc (ordd o z.data.toList)
/-- Which byte is taken in round k. -/
def nxt (o : Bool) (n k : Nat) : Nat := if o then k else n - 1 - k
theorem nxt_lt (o : Bool) {n k : Nat} (h : k < n) : nxt o n k < n := by unfold nxt; split <;> omega
theorem ordd_at (o : Bool) (z : List UInt8) (k : Nat) (h : k < z.length) : (ordd o z)[k]'(by rw [ordd_len]; exact h) = z[nxt o z.length k]'(nxt_lt o h) := by
  cases o with
  | true => rfl
  | false => simp [ordd, nxt, List.getElem_reverse]
theorem acc_step (o : Bool) (z : List UInt8) (k : Nat) (h : k < z.length) : acc ((ordd o z).take (k + 1)) = 256 * acc ((ordd o z).take k) + (z[nxt o z.length k]'(nxt_lt o h)).toNat := by
  rw [← ordd_at o z k h, List.take_succ_eq_append_getElem (by rw [ordd_len]; exact h), acc_snoc]

theorem wraps_u32 (n : Int) (h₀ : 0 ≤ n) (h₁ : n < 2 ^ 32) : IntKind.u32.wrap n = n := by rw [IntKind.wrap_u32]; omega
/-- A number moved on by a byte. -/
theorem or32 (v c : Nat) (hv : v < 16777216) (hc : c < 256) : bits .or .u32 ((v : Int) * 256 % 4294967296) (c : Int) = ((256 * v + c : Nat) : Int) := by
  rw [show (v : Int) * 256 % 4294967296 = v * 256 from by omega]
  have h := bits_join .u32 32 (by decide) wraps_u32 8 ((v : Int) * 256) (c : Int) (by omega) (by omega) (by omega) (by omega) (by omega) (by omega)
  omega

theorem acc_lt4 (z : List UInt8) (h : z.length ≤ 4) : acc z < 4294967296 :=
  Nat.lt_of_lt_of_le (acc_lt z) (Nat.le_trans (Nat.pow_le_pow_right (by decide) h) (by decide))

/-- A number of four bytes with a sign. -/
def sgn (v : Nat) : Int := if 2147483648 ≤ v then (v : Int) - 4294967296 else v
theorem sgn_is (v : Nat) (h : v < 4294967296) : wrap32 (v : Int) = sgn v := by
  unfold sgn wrap32
  split <;> omega
theorem sgn_in (v : Nat) (h : v < 4294967296) : -9223372036854775808 ≤ sgn v ∧ sgn v ≤ 9223372036854775807 := by
  unfold sgn
  split <;> omega

end Go.Proofs.Ytajbpcaghmcplaa.Sr
