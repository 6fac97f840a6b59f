/- Layer 11: blanks, remarks and numbers in a text, as plain functions. -/
import Derived.Lib.RabinKarpLaws
import Derived.Lib.Hide
namespace Go.Proofs.YtibbebglbcjnmaaDoor.Tk
set_option linter.unusedVariables false

/-- A byte of a text. -/
def bt (s : ByteArray) (k : Nat) : Nat := (s.data.toList.getD k 0).toNat
theorem bt_at (s : ByteArray) (k : Nat) (h : k < s.size) : (s[k]'h).toNat = bt s k := by
  have h1 := Go.Proofs.byte_at s k h
  unfold bt
  rw [List.getD_eq_getElem?_getD, h1]
  rfl
theorem bt_lt (s : ByteArray) (k : Nat) : bt s k < 256 := UInt8.toNat_lt _
theorem bt_cell (s : ByteArray) (k : Nat) (h : k < s.size) {c : Nat} (e : bt s k = c) : ((s[k]'h).toNat : Int) = (c : Int) := by rw [bt_at, e]

def blankB (b : Nat) : Bool := b == 32 || (decide (9 ≤ b) && decide (b ≤ 13))
theorem blankB_iff (b : Nat) : blankB b = true ↔ b = 32 ∨ (9 ≤ b ∧ b ≤ 13) := by simp [blankB]
theorem blankB_not (b : Nat) : blankB b = false ↔ ¬ (b = 32 ∨ (9 ≤ b ∧ b ≤ 13)) := by
  rw [← blankB_iff]
  simp

/-- Where a line that is gone over ends. -/
def remEnd (s : ByteArray) (k : Nat) : Nat := if k < s.size ∧ bt s k ≠ 10 ∧ bt s k ≠ 13 then remEnd s (k + 1) else k
  termination_by s.size - k
theorem remEnd_on {s : ByteArray} {k : Nat} (h : k < s.size) (h1 : bt s k ≠ 10) (h2 : bt s k ≠ 13) : remEnd s k = remEnd s (k + 1) := by
  rw [remEnd, if_pos ⟨h, h1, h2⟩]
theorem remEnd_stop {s : ByteArray} {k : Nat} (h : ¬ (k < s.size ∧ bt s k ≠ 10 ∧ bt s k ≠ 13)) : remEnd s k = k := by
  rw [remEnd, if_neg h]
theorem remEnd_ge (s : ByteArray) : ∀ n k, s.size - k = n → k ≤ remEnd s k
  | 0, k, h => by
    rw [remEnd_stop (by omega)]
    exact Nat.le_refl _
  | n + 1, k, h => by
    by_cases hk : k < s.size ∧ bt s k ≠ 10 ∧ bt s k ≠ 13
    · rw [remEnd_on hk.1 hk.2.1 hk.2.2]
      have := remEnd_ge s n (k + 1) (by omega)
      omega
    · rw [remEnd_stop hk]
      exact Nat.le_refl _
theorem remEnd_le (s : ByteArray) : ∀ n k, s.size - k = n → k ≤ s.size → remEnd s k ≤ s.size
  | 0, k, h, hk => by
    rw [remEnd_stop (by omega)]
    exact hk
  | n + 1, k, h, hk => by
    by_cases hc : k < s.size ∧ bt s k ≠ 10 ∧ bt s k ≠ 13
    · rw [remEnd_on hc.1 hc.2.1 hc.2.2]
      exact remEnd_le s n (k + 1) (by omega) (by omega)
    · rw [remEnd_stop hc]
      exact hk

/-- Behind a remark that begins at k. -/
def remNext (s : ByteArray) (k : Nat) : Nat := if remEnd s k < s.size then remEnd s k + 1 else remEnd s k
theorem remNext_gt {s : ByteArray} {k : Nat} (h : k < s.size) (h1 : bt s k = 35) : k < remNext s k := by
  have h2 := remEnd_on h (by omega) (by omega)
  have h3 := remEnd_ge s _ (k + 1) rfl
  unfold remNext
  split <;> omega
theorem remNext_le {s : ByteArray} {k : Nat} (h : k ≤ s.size) : remNext s k ≤ s.size := by
  have h3 := remEnd_le s _ k rfl h
  unfold remNext
  split <;> omega

/-- Behind blanks and remarks. -/
def overF (s : ByteArray) : Nat → Nat → Nat
  | 0, k => k
  | n + 1, k => if k < s.size then if bt s k = 35 then overF s n (remNext s k) else if blankB (bt s k) = true then overF s n (k + 1) else k else k
theorem overF_more (s : ByteArray) : ∀ n m k, s.size ≤ k + n → s.size ≤ k + m → overF s n k = overF s m k
  | 0, 0, _, _, _ => rfl
  | 0, m + 1, k, h, _ => by
    show k = if _ then _ else _
    rw [if_neg (by omega)]
  | n + 1, 0, k, _, h => by
    show (if _ then _ else _) = k
    rw [if_neg (by omega)]
  | n + 1, m + 1, k, h1, h2 => by
    show (if _ then _ else _) = (if _ then _ else _)
    by_cases hk : k < s.size
    · rw [if_pos hk, if_pos hk]
      by_cases h3 : bt s k = 35
      · rw [if_pos h3, if_pos h3]
        have := remNext_gt hk h3
        exact overF_more s n m _ (by omega) (by omega)
      · rw [if_neg h3, if_neg h3]
        by_cases h4 : blankB (bt s k) = true
        · rw [if_pos h4, if_pos h4]
          exact overF_more s n m _ (by omega) (by omega)
        · rw [if_neg h4, if_neg h4]
    · rw [if_neg hk, if_neg hk]
def overV (s : ByteArray) (k : Nat) : Nat := overF s s.size k
theorem overV_end {s : ByteArray} {k : Nat} (h : s.size ≤ k) : overV s k = k := by
  unfold overV
  rw [overF_more s s.size 0 k (by omega) (by omega)]
  rfl
theorem overV_step {s : ByteArray} {k : Nat} (h : k < s.size) : overV s k = if bt s k = 35 then overV s (remNext s k) else if blankB (bt s k) = true then overV s (k + 1) else k := by
  unfold overV
  rw [overF_more s s.size (s.size + 1) k (by omega) (by omega)]
  show (if _ then _ else _) = _
  rw [if_pos h]
theorem overV_rem {s : ByteArray} {k : Nat} (h : k < s.size) (h1 : bt s k = 35) : overV s k = overV s (remNext s k) := by rw [overV_step h, if_pos h1]
theorem overV_blank {s : ByteArray} {k : Nat} (h : k < s.size) (h1 : blankB (bt s k) = true) : overV s k = overV s (k + 1) := by
  rw [overV_step h, if_neg ?_, if_pos h1]
  intro h2
  rw [h2] at h1
  revert h1
  decide
theorem overV_stop {s : ByteArray} {k : Nat} (h : k < s.size) (h1 : bt s k ≠ 35) (h2 : blankB (bt s k) = false) : overV s k = k := by
  rw [overV_step h, if_neg h1, if_neg (by rw [h2]; decide)]
theorem overV_ge (s : ByteArray) : ∀ n k, s.size - k = n → k ≤ overV s k := by
  intro n
  induction n using Nat.strongRecOn with
  | _ n ih =>
    intro k hk
    by_cases h : k < s.size
    · by_cases h1 : bt s k = 35
      · have := remNext_gt h h1
        rw [overV_rem h h1]
        have := ih _ (by omega) (remNext s k) rfl
        omega
      · by_cases h2 : blankB (bt s k) = true
        · rw [overV_blank h h2]
          have := ih _ (by omega) (k + 1) rfl
          omega
        · rw [overV_stop h h1 (by simpa using h2)]
          exact Nat.le_refl _
    · rw [overV_end (by omega)]
      exact Nat.le_refl _
theorem overV_le (s : ByteArray) : ∀ n k, s.size - k = n → k ≤ s.size → overV s k ≤ s.size := by
  intro n
  induction n using Nat.strongRecOn with
  | _ n ih =>
    intro k hk hs
    by_cases h : k < s.size
    · by_cases h1 : bt s k = 35
      · have := remNext_gt h h1
        rw [overV_rem h h1]
        exact ih _ (by omega) (remNext s k) rfl (remNext_le (by omega))
      · by_cases h2 : blankB (bt s k) = true
        · rw [overV_blank h h2]
          exact ih _ (by omega) (k + 1) rfl (by omega)
        · rw [overV_stop h h1 (by simpa using h2)]
          exact hs
    · rw [overV_end (by omega)]
      exact hs

/-- Digits from a place on: the value, and the place behind them. -/
def capN (v : Nat) : Nat := if 999999999 < v then 1000000000 else v
theorem capN_le (v : Nat) : capN v ≤ 1000000000 := by
  unfold capN
  split <;> omega
def numF (s : ByteArray) : Nat → Nat → Nat → Nat × Nat
  | 0, k, v => (v, k)
  | n + 1, k, v => if k < s.size ∧ 48 ≤ bt s k ∧ bt s k ≤ 57 then numF s n (k + 1) (capN (10 * v + bt s k - 48)) else (v, k)
theorem numF_more (s : ByteArray) : ∀ n m k v, s.size ≤ k + n → s.size ≤ k + m → numF s n k v = numF s m k v
  | 0, 0, _, _, _, _ => rfl
  | 0, m + 1, k, v, h, _ => by
    show (v, k) = if _ then _ else _
    rw [if_neg (by omega)]
  | n + 1, 0, k, v, _, h => by
    show (if _ then _ else _) = (v, k)
    rw [if_neg (by omega)]
  | n + 1, m + 1, k, v, h1, h2 => by
    show (if _ then _ else _) = (if _ then _ else _)
    by_cases hk : k < s.size ∧ 48 ≤ bt s k ∧ bt s k ≤ 57
    · rw [if_pos hk, if_pos hk]
      exact numF_more s n m _ _ (by omega) (by omega)
    · rw [if_neg hk, if_neg hk]
def numV (s : ByteArray) (k v : Nat) : Nat × Nat := numF s s.size k v
theorem numV_on {s : ByteArray} {k v : Nat} (h : k < s.size) (h1 : 48 ≤ bt s k) (h2 : bt s k ≤ 57) : numV s k v = numV s (k + 1) (capN (10 * v + bt s k - 48)) := by
  unfold numV
  rw [numF_more s s.size (s.size + 1) k v (by omega) (by omega)]
  show (if _ then _ else _) = _
  rw [if_pos ⟨h, h1, h2⟩]
theorem numV_stop {s : ByteArray} {k v : Nat} (h : ¬ (k < s.size ∧ 48 ≤ bt s k ∧ bt s k ≤ 57)) : numV s k v = (v, k) := by
  unfold numV
  rw [numF_more s s.size (s.size + 1) k v (by omega) (by omega)]
  show (if _ then _ else _) = _
  rw [if_neg h]
theorem numV_ge (s : ByteArray) : ∀ n k v, s.size - k = n → k ≤ (numV s k v).2
  | n, k, v, hn => by
    by_cases h : k < s.size ∧ 48 ≤ bt s k ∧ bt s k ≤ 57
    · rw [numV_on h.1 h.2.1 h.2.2]
      have := numV_ge s (s.size - (k + 1)) (k + 1) (capN (10 * v + bt s k - 48)) rfl
      omega
    · rw [numV_stop h]
      exact Nat.le_refl _
  termination_by n => n
  decreasing_by omega
theorem numV_le (s : ByteArray) : ∀ n k v, s.size - k = n → k ≤ s.size → (numV s k v).2 ≤ s.size
  | n, k, v, hn, hk => by
    by_cases h : k < s.size ∧ 48 ≤ bt s k ∧ bt s k ≤ 57
    · rw [numV_on h.1 h.2.1 h.2.2]
      exact numV_le s (s.size - (k + 1)) (k + 1) _ rfl (by omega)
    · rw [numV_stop h]
      exact hk
  termination_by n => n
  decreasing_by omega
theorem numV_cap (s : ByteArray) : ∀ n k v, s.size - k = n → v ≤ 1000000000 → (numV s k v).1 ≤ 1000000000
  | n, k, v, hn, hv => by
    by_cases h : k < s.size ∧ 48 ≤ bt s k ∧ bt s k ≤ 57
    · rw [numV_on h.1 h.2.1 h.2.2]
      exact numV_cap s (s.size - (k + 1)) (k + 1) _ rfl (capN_le _)
    · rw [numV_stop h]
      exact hv
  termination_by n => n
  decreasing_by omega

/-- What the document says of a number: value, place, place behind it; a fault's kind and place. -/
structure Got where
  v : Nat
  from_ : Nat
  next : Nat
  kind : Nat
  place : Nat
def gotV (s : ByteArray) (k : Nat) : Got :=
  if s.size ≤ overV s k then ⟨0, 0, 0, 1, s.size⟩
  else if (numV s (overV s k) 0).2 = overV s k then ⟨0, 0, 0, 2, overV s k⟩
  else ⟨(numV s (overV s k) 0).1, overV s k, (numV s (overV s k) 0).2, 0, 0⟩
def digV (s : ByteArray) (k : Nat) : Got :=
  if s.size ≤ overV s k then ⟨0, 0, 0, 1, s.size⟩
  else if bt s (overV s k) = 48 ∨ bt s (overV s k) = 49 then ⟨bt s (overV s k) - 48, overV s k, overV s k + 1, 0, 0⟩
  else ⟨0, 0, 0, 2, overV s k⟩

end Go.Proofs.YtibbebglbcjnmaaDoor.Tk
