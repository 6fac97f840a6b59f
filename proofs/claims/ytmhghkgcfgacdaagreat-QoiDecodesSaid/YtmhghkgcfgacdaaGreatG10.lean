/- Texts of one kind, one behind the other: Tok1, Tok2. -/
import Derived.Lib.Hide
import Derived.Lib.RabinKarpLaws
/- Layer 11: blanks, remarks and numbers in a text, as plain functions. -/
namespace Go.Proofs.YtmhghkgcfgacdaaGreat.Tk
set_option linter.unusedVariables false

/-- A byte of a text. -/
def bt (s : ByteArray) (k : Nat) : Nat := (s.data.toList.getD k 0).toNat
theorem bt_at (s : ByteArray) (k : Nat) (h : k < s.size) : (s[k]'h).toNat = bt s k := by
  have h1 := Go.Proofs.byte_at s k h
  unfold bt
  rw [List.getD_eq_getElem?_getD, h1]
  rfl
theorem bt_lt (s : ByteArray) (k : Nat) : bt s k < 256 := UInt8.toNat_lt _
theorem bt_cell (s : ByteArray) (k : Nat) (h : k < s.size) {c : Nat} (e : bt s k = c) : ((s[k]'h).toNat : Int) = (c : Int) := by rw [bt_at, e]

def blankB (b : Nat) : Bool := b == 32 || (decide (9 ≤ b) && decide (b ≤ 13))
theorem blankB_iff (b : Nat) : blankB b = true ↔ b = 32 ∨ (9 ≤ b ∧ b ≤ 13) := by simp [blankB]
theorem blankB_not (b : Nat) : blankB b = false ↔ ¬ (b = 32 ∨ (9 ≤ b ∧ b ≤ 13)) := by
  rw [← blankB_iff]
  simp

/-- Where a line that is gone over ends. -/
def remEnd (s : ByteArray) (k : Nat) : Nat := if k < s.size ∧ bt s k ≠ 10 ∧ bt s k ≠ 13 then remEnd s (k + 1) else k
  termination_by s.size - k
theorem remEnd_on {s : ByteArray} {k : Nat} (h : k < s.size) (h1 : bt s k ≠ 10) (h2 : bt s k ≠ 13) : remEnd s k = remEnd s (k + 1) := by
  rw [remEnd, if_pos ⟨h, h1, h2⟩]
theorem remEnd_stop {s : ByteArray} {k : Nat} (h : ¬ (k < s.size ∧ bt s k ≠ 10 ∧ bt s k ≠ 13)) : remEnd s k = k := by
  rw [remEnd, if_neg h]
theorem remEnd_ge (s : ByteArray) : ∀ n k, s.size - k = n → k ≤ remEnd s k
  | 0, k, h => by
    rw [remEnd_stop (by omega)]
    exact Nat.le_refl _
  | n + 1, k, h => by
    by_cases hk : k < s.size ∧ bt s k ≠ 10 ∧ bt s k ≠ 13
    · rw [remEnd_on hk.1 hk.2.1 hk.2.2]
      have := remEnd_ge s n (k + 1) (by omega)
      omega
    · rw [remEnd_stop hk]
      exact Nat.le_refl _
theorem remEnd_le (s : ByteArray) : ∀ n k, s.size - k = n → k ≤ s.size → remEnd s k ≤ s.size
  | 0, k, h, hk => by
    rw [remEnd_stop (by omega)]
    exact hk
  | n + 1, k, h, hk => by
    by_cases hc : k < s.size ∧ bt s k ≠ 10 ∧ bt s k ≠ 13
    · rw [remEnd_on hc.1 hc.2.1 hc.2.2]
      exact remEnd_le s n (k + 1) (by omega) (by omega)
    · rw [remEnd_stop hc]
      exact hk

/-- Behind a remark that begins at k. -/
def remNext (s : ByteArray) (k : Nat) : Nat := if remEnd s k < s.size then remEnd s k + 1 else remEnd s k
theorem remNext_gt {s : ByteArray} {k : Nat} (h : k < s.size) (h1 : bt s k = 35) : k < remNext s k := by
  have h2 := remEnd_on h (by omega) (by omega)
  have h3 := remEnd_ge s _ (k + 1) rfl
  unfold remNext
  split <;> omega
theorem remNext_le {s : ByteArray} {k : Nat} (h : k ≤ s.size) : remNext s k ≤ s.size := by
  have h3 := remEnd_le s _ k rfl h
  unfold remNext
  split <;> omega

/-- Behind blanks and remarks. -/
def overF (s : ByteArray) : Nat → Nat → Nat
  | 0, k => k
  | n + 1, k => if k < s.size then if bt s k = 35 then overF s n (remNext s k) else if blankB (bt s k) = true then overF s n (k + 1) else k else k
theorem overF_more (s : ByteArray) : ∀ n m k, s.size ≤ k + n → s.size ≤ k + m → overF s n k = overF s m k
  | 0, 0, _, _, _ => rfl
  | 0, m + 1, k, h, _ => by
    show k = if _ then _ else _
    rw [if_neg (by omega)]
  | n + 1, 0, k, _, h => by
    show (if _ then _ else _) = k
    rw [if_neg (by omega)]
  | n + 1, m + 1, k, h1, h2 => by
    show (if _ then _ else _) = (if _ then _ else _)
    by_cases hk : k < s.size
    · rw [if_pos hk, if_pos hk]
      by_cases h3 : bt s k = 35
      · rw [if_pos h3, if_pos h3]
        have := remNext_gt hk h3
        exact overF_more s n m _ (by omega) (by omega)
      · rw [if_neg h3, if_neg h3]
        by_cases h4 : blankB (bt s k) = true
        · rw [if_pos h4, if_pos h4]
          exact overF_more s n m _ (by omega) (by omega)
        · rw [if_neg h4, if_neg h4]
    · rw [if_neg hk, if_neg hk]
def overV (s : ByteArray) (k : Nat) : Nat := overF s s.size k
theorem overV_end {s : ByteArray} {k : Nat} (h : s.size ≤ k) : overV s k = k := by
  unfold overV
  rw [overF_more s s.size 0 k (by omega) (by omega)]
  rfl
theorem overV_step {s : ByteArray} {k : Nat} (h : k < s.size) : overV s k = if bt s k = 35 then overV s (remNext s k) else if blankB (bt s k) = true then overV s (k + 1) else k := by
  unfold overV
  rw [overF_more s s.size (s.size + 1) k (by omega) (by omega)]
  show (if _ then _ else _) = _
  rw [if_pos h]
theorem overV_rem {s : ByteArray} {k : Nat} (h : k < s.size) (h1 : bt s k = 35) : overV s k = overV s (remNext s k) := by rw [overV_step h, if_pos h1]
theorem overV_blank {s : ByteArray} {k : Nat} (h : k < s.size) (h1 : blankB (bt s k) = true) : overV s k = overV s (k + 1) := by
  rw [overV_step h, if_neg ?_, if_pos h1]
  intro h2
  rw [h2] at h1
  revert h1
  decide
theorem overV_stop {s : ByteArray} {k : Nat} (h : k < s.size) (h1 : bt s k ≠ 35) (h2 : blankB (bt s k) = false) : overV s k = k := by
  rw [overV_step h, if_neg h1, if_neg (by rw [h2]; decide)]
theorem overV_ge (s : ByteArray) : ∀ n k, s.size - k = n → k ≤ overV s k := by
  intro n
  induction n using Nat.strongRecOn with
  | _ n ih =>
    intro k hk
    by_cases h : k < s.size
    · by_cases h1 : bt s k = 35
      · have := remNext_gt h h1
        rw [overV_rem h h1]
        have := ih _ (by omega) (remNext s k) rfl
        omega
      · by_cases h2 : blankB (bt s k) = true
        · rw [overV_blank h h2]
          have := ih _ (by omega) (k + 1) rfl
          omega
        · rw [overV_stop h h1 (by simpa using h2)]
          exact Nat.le_refl _
    · rw [overV_end (by omega)]
      exact Nat.le_refl _
theorem overV_le (s : ByteArray) : ∀ n k, s.size - k = n → k ≤ s.size → overV s k ≤ s.size := by
  intro n
  induction n using Nat.strongRecOn with
  | _ n ih =>
    intro k hk hs
    by_cases h : k < s.size
    · by_cases h1 : bt s k = 35
      · have := remNext_gt h h1
        rw [overV_rem h h1]
        exact ih _ (by omega) (remNext s k) rfl (remNext_le (by omega))
      · by_cases h2 : blankB (bt s k) = true
        · rw [overV_blank h h2]
          exact ih _ (by omega) (k + 1) rfl (by omega)
        · rw [overV_stop h h1 (by simpa using h2)]
          exact hs
    · rw [overV_end (by omega)]
      exact hs

/-- Digits from a place on: the value, and the place behind them. -/
def capN (v : Nat) : Nat := if 999999999 < v then 1000000000 else v
theorem capN_le (v : Nat) : capN v ≤ 1000000000 := by
  unfold capN
  split <;> omega
def numF (s : ByteArray) : Nat → Nat → Nat → Nat × Nat
  | 0, k, v => (v, k)
  | n + 1, k, v => if k < s.size ∧ 48 ≤ bt s k ∧ bt s k ≤ 57 then numF s n (k + 1) (capN (10 * v + bt s k - 48)) else (v, k)
theorem numF_more (s : ByteArray) : ∀ n m k v, s.size ≤ k + n → s.size ≤ k + m → numF s n k v = numF s m k v
  | 0, 0, _, _, _, _ => rfl
  | 0, m + 1, k, v, h, _ => by
    show (v, k) = if _ then _ else _
    rw [if_neg (by omega)]
  | n + 1, 0, k, v, _, h => by
    show (if _ then _ else _) = (v, k)
    rw [if_neg (by omega)]
  | n + 1, m + 1, k, v, h1, h2 => by
    show (if _ then _ else _) = (if _ then _ else _)
    by_cases hk : k < s.size ∧ 48 ≤ bt s k ∧ bt s k ≤ 57
    · rw [if_pos hk, if_pos hk]
      exact numF_more s n m _ _ (by omega) (by omega)
    · rw [if_neg hk, if_neg hk]
def numV (s : ByteArray) (k v : Nat) : Nat × Nat := numF s s.size k v
theorem numV_on {s : ByteArray} {k v : Nat} (h : k < s.size) (h1 : 48 ≤ bt s k) (h2 : bt s k ≤ 57) : numV s k v = numV s (k + 1) (capN (10 * v + bt s k - 48)) := by
  unfold numV
  rw [numF_more s s.size (s.size + 1) k v (by omega) (by omega)]
  show (if _ then _ else _) = _
  rw [if_pos ⟨h, h1, h2⟩]
theorem numV_stop {s : ByteArray} {k v : Nat} (h : ¬ (k < s.size ∧ 48 ≤ bt s k ∧ bt s k ≤ 57)) : numV s k v = (v, k) := by
  unfold numV
  rw [numF_more s s.size (s.size + 1) k v (by omega) (by omega)]
  show (if _ then _ else _) = _
  rw [if_neg h]
theorem numV_ge (s : ByteArray) : ∀ n k v, s.size - k = n → k ≤ (numV s k v).2
  | n, k, v, hn => by
    by_cases h : k < s.size ∧ 48 ≤ bt s k ∧ bt s k ≤ 57
    · rw [numV_on h.1 h.2.1 h.2.2]
      have := numV_ge s (s.size - (k + 1)) (k + 1) (capN (10 * v + bt s k - 48)) rfl
      omega
    · rw [numV_stop h]
      exact Nat.le_refl _
  termination_by n => n
  decreasing_by omega
theorem numV_le (s : ByteArray) : ∀ n k v, s.size - k = n → k ≤ s.size → (numV s k v).2 ≤ s.size
  | n, k, v, hn, hk => by
    by_cases h : k < s.size ∧ 48 ≤ bt s k ∧ bt s k ≤ 57
    · rw [numV_on h.1 h.2.1 h.2.2]
      exact numV_le s (s.size - (k + 1)) (k + 1) _ rfl (by omega)
    · rw [numV_stop h]
      exact hk
  termination_by n => n
  decreasing_by omega
theorem numV_cap (s : ByteArray) : ∀ n k v, s.size - k = n → v ≤ 1000000000 → (numV s k v).1 ≤ 1000000000
  | n, k, v, hn, hv => by
    by_cases h : k < s.size ∧ 48 ≤ bt s k ∧ bt s k ≤ 57
    · rw [numV_on h.1 h.2.1 h.2.2]
      exact numV_cap s (s.size - (k + 1)) (k + 1) _ rfl (capN_le _)
    · rw [numV_stop h]
      exact hv
  termination_by n => n
  decreasing_by omega

/-- What the document says of a number: value, place, place behind it; a fault's kind and place. -/
structure Got where
  v : Nat
  from_ : Nat
  next : Nat
  kind : Nat
  place : Nat
def gotV (s : ByteArray) (k : Nat) : Got :=
  if s.size ≤ overV s k then ⟨0, 0, 0, 1, s.size⟩
  else if (numV s (overV s k) 0).2 = overV s k then ⟨0, 0, 0, 2, overV s k⟩
  else ⟨(numV s (overV s k) 0).1, overV s k, (numV s (overV s k) 0).2, 0, 0⟩
def digV (s : ByteArray) (k : Nat) : Got :=
  if s.size ≤ overV s k then ⟨0, 0, 0, 1, s.size⟩
  else if bt s (overV s k) = 48 ∨ bt s (overV s k) = 49 then ⟨bt s (overV s k) - 48, overV s k, overV s k + 1, 0, 0⟩
  else ⟨0, 0, 0, 2, overV s k⟩

end Go.Proofs.YtmhghkgcfgacdaaGreat.Tk

/- Layer 11: what stands ahead of a text changes only the places (pure). -/
namespace Go.Proofs.YtmhghkgcfgacdaaGreat.Tk
set_option linter.unusedVariables false

theorem app_list (A B : ByteArray) : (A ++ B).data.toList = A.data.toList ++ B.data.toList := by simp
theorem app_size (A B : ByteArray) : (A ++ B).size = A.size + B.size := ByteArray.size_append
theorem size_list (A : ByteArray) : A.data.toList.length = A.size := by
  rw [Array.length_toList]
  rfl
theorem bt_app_lt {A B : ByteArray} {k : Nat} (h : k < A.size) : bt (A ++ B) k = bt A k := by
  unfold bt
  rw [app_list, List.getD_eq_getElem?_getD, List.getD_eq_getElem?_getD, List.getElem?_append_left (by rw [size_list]; exact h)]
theorem bt_app_ge {A B : ByteArray} (k : Nat) : bt (A ++ B) (A.size + k) = bt B k := by
  unfold bt
  rw [app_list, List.getD_eq_getElem?_getD, List.getD_eq_getElem?_getD, List.getElem?_append_right (by rw [size_list]; omega), size_list, Nat.add_sub_cancel_left]

theorem remEnd_app (A B : ByteArray) : ∀ n k, B.size - k = n → remEnd (A ++ B) (A.size + k) = A.size + remEnd B k
  | n, k, hn => by
    by_cases h : k < B.size ∧ bt B k ≠ 10 ∧ bt B k ≠ 13
    · rw [remEnd_on h.1 h.2.1 h.2.2, remEnd_on (by rw [app_size]; omega) (by rw [bt_app_ge]; exact h.2.1) (by rw [bt_app_ge]; exact h.2.2)]
      exact remEnd_app A B (B.size - (k + 1)) (k + 1) rfl
    · rw [remEnd_stop h, remEnd_stop]
      rw [bt_app_ge, app_size]
      intro h'
      exact h ⟨by omega, h'.2⟩
  termination_by n => n
  decreasing_by omega
theorem remNext_app (A B : ByteArray) (k : Nat) : remNext (A ++ B) (A.size + k) = A.size + remNext B k := by
  unfold remNext
  rw [remEnd_app A B _ k rfl, app_size]
  by_cases h : remEnd B k < B.size
  · rw [if_pos h, if_pos (by omega)]
    omega
  · rw [if_neg h, if_neg (by omega)]
theorem overV_app (A B : ByteArray) : ∀ n k, B.size - k = n → overV (A ++ B) (A.size + k) = A.size + overV B k
  | n, k, hn => by
    by_cases h : k < B.size
    · have h' : A.size + k < (A ++ B).size := by rw [app_size]; omega
      by_cases h1 : bt B k = 35
      · have := remNext_gt h h1
        rw [overV_rem h h1, overV_rem h' (by rw [bt_app_ge]; exact h1), remNext_app]
        exact overV_app A B (B.size - remNext B k) (remNext B k) rfl
      · by_cases h2 : blankB (bt B k) = true
        · rw [overV_blank h h2, overV_blank h' (by rw [bt_app_ge]; exact h2)]
          exact overV_app A B (B.size - (k + 1)) (k + 1) rfl
        · rw [overV_stop h h1 (by simpa using h2), overV_stop h' (by rw [bt_app_ge]; exact h1) (by rw [bt_app_ge]; simpa using h2)]
    · rw [overV_end (s := B) (k := k) (by omega), overV_end (s := A ++ B) (k := A.size + k) (by rw [app_size]; omega)]
  termination_by n => n
  decreasing_by all_goals omega
theorem numV_app (A B : ByteArray) : ∀ n k v, B.size - k = n → numV (A ++ B) (A.size + k) v = ((numV B k v).1, A.size + (numV B k v).2)
  | n, k, v, hn => by
    by_cases h : k < B.size ∧ 48 ≤ bt B k ∧ bt B k ≤ 57
    · rw [numV_on h.1 h.2.1 h.2.2, numV_on (by rw [app_size]; omega) (by rw [bt_app_ge]; exact h.2.1) (by rw [bt_app_ge]; exact h.2.2), bt_app_ge]
      exact numV_app A B (B.size - (k + 1)) (k + 1) _ rfl
    · rw [numV_stop h, numV_stop]
      rw [bt_app_ge, app_size]
      intro h'
      exact h ⟨by omega, h'.2⟩
  termination_by n => n
  decreasing_by omega

/-- A line's end is the last byte of A: a remark of A ends in it. -/
theorem remEnd_in {A : ByteArray} (B : ByteArray) (hl : bt A (A.size - 1) = 10) : ∀ n k, A.size - k = n → k < A.size → remEnd (A ++ B) k = remEnd A k ∧ remEnd A k < A.size
  | n, k, hn, hk => by
    by_cases h : bt A k ≠ 10 ∧ bt A k ≠ 13
    · have hk1 : k + 1 < A.size := by
        by_cases h' : k = A.size - 1
        · rw [h'] at h
          exact absurd hl h.1
        · omega
      rw [remEnd_on hk h.1 h.2, remEnd_on (by rw [app_size]; omega) (by rw [bt_app_lt hk]; exact h.1) (by rw [bt_app_lt hk]; exact h.2)]
      exact remEnd_in B hl (A.size - (k + 1)) (k + 1) rfl hk1
    · rw [remEnd_stop (fun h' => h h'.2), remEnd_stop (by rw [bt_app_lt hk]; exact fun h' => h h'.2)]
      exact ⟨rfl, hk⟩
  termination_by n => n
  decreasing_by omega
/-- What goes over all of A, whose last byte is a line's end, goes over it in a longer text, too. -/
theorem overV_in {A : ByteArray} (B : ByteArray) (hl : bt A (A.size - 1) = 10) : ∀ n k, A.size - k = n → k ≤ A.size → overV A k = A.size → overV (A ++ B) k = A.size + overV B 0
  | n, k, hn, hk, ho => by
    by_cases h : k < A.size
    · have h' : k < (A ++ B).size := by rw [app_size]; omega
      by_cases h1 : bt A k = 35
      · have hg := remNext_gt h h1
        have hr := remEnd_in B hl _ k rfl h
        have e : remNext (A ++ B) k = remNext A k := by
          unfold remNext
          rw [hr.1, app_size, if_pos hr.2, if_pos (by omega)]
        rw [overV_rem h h1] at ho
        rw [overV_rem h' (by rw [bt_app_lt h]; exact h1), e]
        exact overV_in B hl (A.size - remNext A k) (remNext A k) rfl (remNext_le (by omega)) ho
      · by_cases h2 : blankB (bt A k) = true
        · rw [overV_blank h h2] at ho
          rw [overV_blank h' (by rw [bt_app_lt h]; exact h2)]
          exact overV_in B hl (A.size - (k + 1)) (k + 1) rfl (by omega) ho
        · rw [overV_stop h h1 (by simpa using h2)] at ho
          omega
    · obtain rfl : k = A.size := by omega
      exact overV_app A B _ 0 rfl
  termination_by n => n
  decreasing_by all_goals omega

/-- So a number behind blanks is the number itself, and its places are moved. -/
theorem gotV_app {A : ByteArray} (B : ByteArray) (k : Nat) (ho : overV (A ++ B) k = A.size + overV B 0) :
    gotV (A ++ B) k = if (gotV B 0).kind = 0 then ⟨(gotV B 0).v, A.size + (gotV B 0).from_, A.size + (gotV B 0).next, 0, 0⟩ else ⟨0, 0, 0, (gotV B 0).kind, A.size + (gotV B 0).place⟩ := by
  unfold gotV
  rw [ho, app_size, numV_app A B _ _ _ rfl]
  by_cases h : B.size ≤ overV B 0
  · rw [if_pos (by omega), if_pos h]
    rfl
  · rw [if_neg (by omega), if_neg h]
    by_cases h1 : (numV B (overV B 0) 0).2 = overV B 0
    · rw [if_pos (by show A.size + _ = _; omega), if_pos h1]
      rfl
    · rw [if_neg (by show ¬ A.size + _ = _; omega), if_neg h1]
      rfl

end Go.Proofs.YtmhghkgcfgacdaaGreat.Tk
