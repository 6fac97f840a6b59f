/- Layer 11: what stands ahead of a text changes only the places (pure). -/
import Derived.Test.YtfhcefglefkakaaGreatDoorTok1
namespace Go.Proofs.YtfhcefglefkakaaGreatDoor.Tk
set_option linter.unusedVariables false

theorem app_list (A B : ByteArray) : (A ++ B).data.toList = A.data.toList ++ B.data.toList := by simp
theorem app_size (A B : ByteArray) : (A ++ B).size = A.size + B.size := ByteArray.size_append
theorem size_list (A : ByteArray) : A.data.toList.length = A.size := by
  rw [Array.length_toList]
  rfl
theorem bt_app_lt {A B : ByteArray} {k : Nat} (h : k < A.size) : bt (A ++ B) k = bt A k := by
  unfold bt
  rw [app_list, List.getD_eq_getElem?_getD, List.getD_eq_getElem?_getD, List.getElem?_append_left (by rw [size_list]; exact h)]
theorem bt_app_ge {A B : ByteArray} (k : Nat) : bt (A ++ B) (A.size + k) = bt B k := by
  unfold bt
  rw [app_list, List.getD_eq_getElem?_getD, List.getD_eq_getElem?_getD, List.getElem?_append_right (by rw [size_list]; omega), size_list, Nat.add_sub_cancel_left]

theorem remEnd_app (A B : ByteArray) : ∀ n k, B.size - k = n → remEnd (A ++ B) (A.size + k) = A.size + remEnd B k
  | n, k, hn => by
    by_cases h : k < B.size ∧ bt B k ≠ 10 ∧ bt B k ≠ 13
    · rw [remEnd_on h.1 h.2.1 h.2.2, remEnd_on (by rw [app_size]; omega) (by rw [bt_app_ge]; exact h.2.1) (by rw [bt_app_ge]; exact h.2.2)]
      exact remEnd_app A B (B.size - (k + 1)) (k + 1) rfl
    · rw [remEnd_stop h, remEnd_stop]
      rw [bt_app_ge, app_size]
      intro h'
      exact h ⟨by omega, h'.2⟩
  termination_by n => n
  decreasing_by omega
theorem remNext_app (A B : ByteArray) (k : Nat) : remNext (A ++ B) (A.size + k) = A.size + remNext B k := by
  unfold remNext
  rw [remEnd_app A B _ k rfl, app_size]
  by_cases h : remEnd B k < B.size
  · rw [if_pos h, if_pos (by omega)]
    omega
  · rw [if_neg h, if_neg (by omega)]
theorem overV_app (A B : ByteArray) : ∀ n k, B.size - k = n → overV (A ++ B) (A.size + k) = A.size + overV B k
  | n, k, hn => by
    by_cases h : k < B.size
    · have h' : A.size + k < (A ++ B).size := by rw [app_size]; omega
      by_cases h1 : bt B k = 35
      · have := remNext_gt h h1
        rw [overV_rem h h1, overV_rem h' (by rw [bt_app_ge]; exact h1), remNext_app]
        exact overV_app A B (B.size - remNext B k) (remNext B k) rfl
      · by_cases h2 : blankB (bt B k) = true
        · rw [overV_blank h h2, overV_blank h' (by rw [bt_app_ge]; exact h2)]
          exact overV_app A B (B.size - (k + 1)) (k + 1) rfl
        · rw [overV_stop h h1 (by simpa using h2), overV_stop h' (by rw [bt_app_ge]; exact h1) (by rw [bt_app_ge]; simpa using h2)]
    · rw [overV_end (s := B) (k := k) (by omega), overV_end (s := A ++ B) (k := A.size + k) (by rw [app_size]; omega)]
  termination_by n => n
  decreasing_by all_goals omega
theorem numV_app (A B : ByteArray) : ∀ n k v, B.size - k = n → numV (A ++ B) (A.size + k) v = ((numV B k v).1, A.size + (numV B k v).2)
  | n, k, v, hn => by
    by_cases h : k < B.size ∧ 48 ≤ bt B k ∧ bt B k ≤ 57
    · rw [numV_on h.1 h.2.1 h.2.2, numV_on (by rw [app_size]; omega) (by rw [bt_app_ge]; exact h.2.1) (by rw [bt_app_ge]; exact h.2.2), bt_app_ge]
      exact numV_app A B (B.size - (k + 1)) (k + 1) _ rfl
    · rw [numV_stop h, numV_stop]
      rw [bt_app_ge, app_size]
      intro h'
      exact h ⟨by omega, h'.2⟩
  termination_by n => n
  decreasing_by omega

/-- A line's end is the last byte of A: a remark of A ends in it. -/
theorem remEnd_in {A : ByteArray} (B : ByteArray) (hl : bt A (A.size - 1) = 10) : ∀ n k, A.size - k = n → k < A.size → remEnd (A ++ B) k = remEnd A k ∧ remEnd A k < A.size
  | n, k, hn, hk => by
    by_cases h : bt A k ≠ 10 ∧ bt A k ≠ 13
    · have hk1 : k + 1 < A.size := by
        by_cases h' : k = A.size - 1
        · rw [h'] at h
          exact absurd hl h.1
        · omega
      rw [remEnd_on hk h.1 h.2, remEnd_on (by rw [app_size]; omega) (by rw [bt_app_lt hk]; exact h.1) (by rw [bt_app_lt hk]; exact h.2)]
      exact remEnd_in B hl (A.size - (k + 1)) (k + 1) rfl hk1
    · rw [remEnd_stop (fun h' => h h'.2), remEnd_stop (by rw [bt_app_lt hk]; exact fun h' => h h'.2)]
      exact ⟨rfl, hk⟩
  termination_by n => n
  decreasing_by omega
/-- What goes over all of A, whose last byte is a line's end, goes over it in a longer text, too. -/
theorem overV_in {A : ByteArray} (B : ByteArray) (hl : bt A (A.size - 1) = 10) : ∀ n k, A.size - k = n → k ≤ A.size → overV A k = A.size → overV (A ++ B) k = A.size + overV B 0
  | n, k, hn, hk, ho => by
    by_cases h : k < A.size
    · have h' : k < (A ++ B).size := by rw [app_size]; omega
      by_cases h1 : bt A k = 35
      · have hg := remNext_gt h h1
        have hr := remEnd_in B hl _ k rfl h
        have e : remNext (A ++ B) k = remNext A k := by
          unfold remNext
          rw [hr.1, app_size, if_pos hr.2, if_pos (by omega)]
        rw [overV_rem h h1] at ho
        rw [overV_rem h' (by rw [bt_app_lt h]; exact h1), e]
        exact overV_in B hl (A.size - remNext A k) (remNext A k) rfl (remNext_le (by omega)) ho
      · by_cases h2 : blankB (bt A k) = true
        · rw [overV_blank h h2] at ho
          rw [overV_blank h' (by rw [bt_app_lt h]; exact h2)]
          exact overV_in B hl (A.size - (k + 1)) (k + 1) rfl (by omega) ho
        · rw [overV_stop h h1 (by simpa using h2)] at ho
          omega
    · obtain rfl : k = A.size := by omega
      exact overV_app A B _ 0 rfl
  termination_by n => n
  decreasing_by all_goals omega

/-- So a number behind blanks is the number itself, and its places are moved. -/
theorem gotV_app {A : ByteArray} (B : ByteArray) (k : Nat) (ho : overV (A ++ B) k = A.size + overV B 0) :
    gotV (A ++ B) k = if (gotV B 0).kind = 0 then ⟨(gotV B 0).v, A.size + (gotV B 0).from_, A.size + (gotV B 0).next, 0, 0⟩ else ⟨0, 0, 0, (gotV B 0).kind, A.size + (gotV B 0).place⟩ := by
  unfold gotV
  rw [ho, app_size, numV_app A B _ _ _ rfl]
  by_cases h : B.size ≤ overV B 0
  · rw [if_pos (by omega), if_pos h]
    rfl
  · rw [if_neg (by omega), if_neg h]
    by_cases h1 : (numV B (overV B 0) 0).2 = overV B 0
    · rw [if_pos (by show A.size + _ = _; omega), if_pos h1]
      rfl
    · rw [if_neg (by show ¬ A.size + _ = _; omega), if_neg h1]
      rfl

end Go.Proofs.YtfhcefglefkakaaGreatDoor.Tk
