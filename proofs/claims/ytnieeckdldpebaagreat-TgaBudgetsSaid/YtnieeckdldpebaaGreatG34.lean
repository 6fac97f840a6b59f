/- Texts of one kind, one behind the other: Tok1, Tok2. -/
import Derived.Lib.Hide
import Derived.Lib.RabinKarpLaws
/- Layer 11: blanks, remarks and numbers in a text, as plain functions. -/
namespace Go.Proofs.YtnieeckdldpebaaGreat.Tk
set_option linter.unusedVariables false

/-- A byte of a text. -/
def bt (s : ByteArray) (k : Nat) : Nat := (s.data.toList.getD k 0).toNat
theorem bt_lt (s : ByteArray) (k : Nat) : bt s k < 256 := UInt8.toNat_lt _
/-- Digits from a place on: the value, and the place behind them. -/
def capN (v : Nat) : Nat := if 999999999 < v then 1000000000 else v
def numF (s : ByteArray) : Nat → Nat → Nat → Nat × Nat
  | 0, k, v => (v, k)
  | n + 1, k, v => if k < s.size ∧ 48 ≤ bt s k ∧ bt s k ≤ 57 then numF s n (k + 1) (capN (10 * v + bt s k - 48)) else (v, k)
def numV (s : ByteArray) (k v : Nat) : Nat × Nat := numF s s.size k v
end Go.Proofs.YtnieeckdldpebaaGreat.Tk

/- Layer 11: what stands ahead of a text changes only the places (pure). -/
namespace Go.Proofs.YtnieeckdldpebaaGreat.Tk
set_option linter.unusedVariables false

end Go.Proofs.YtnieeckdldpebaaGreat.Tk
