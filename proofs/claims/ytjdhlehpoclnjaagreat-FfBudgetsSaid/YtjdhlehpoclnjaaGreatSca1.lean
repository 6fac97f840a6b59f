/- Layer 8, pure: the nearest of 256, as the code rounds and as the document's search finds it. -/
import Derived.Test.YtjdhlehpoclnjaaGreatRows
import Derived.WalkKit
import Derived.ProofKit
import Derived.OpenShut
import Derived.Outline
import Derived.Lib.Hide
import Derived.IntWalk
import Derived.LoopTactic
namespace Go.Proofs.YtjdhlehpoclnjaaGreat.Sc
open Go.ChangeShapes Go.WideShapes Go.ChangeAt Go.RowKit
set_option linter.unusedVariables false

/-- May a sample of a greatest value be? -/
def may (v m : Int) : Bool := decide (1 ≤ m) && decide (m ≤ 4294967295) && decide (0 ≤ v) && decide (v ≤ m)
theorem may_yes {v m : Int} (h1 : 1 ≤ m) (h2 : m ≤ 4294967295) (h3 : 0 ≤ v) (h4 : v ≤ m) : may v m = true := by simp [may, h1, h2, h3, h4]
theorem may_no {v m : Int} (h : m < 1 ∨ 4294967295 < m ∨ v < 0 ∨ m < v) : may v m = false := by
  simp only [may, Bool.and_eq_false_iff, decide_eq_false_iff_not]; omega
theorem may_of {v m : Int} (h : may v m = true) : 1 ≤ m ∧ m ≤ 4294967295 ∧ 0 ≤ v ∧ v ≤ m := by
  simp only [may, Bool.and_eq_true, decide_eq_true_eq] at h; omega

/-- The nearest number. -/
def near (v m : Int) : Int := (2 * v * 255 + m) / (2 * m)

theorem near_lo {v m : Int} (hm : 1 ≤ m) : 2 * (m * near v m) ≤ 510 * v + m := by
  have h := Int.ediv_mul_le (2 * v * 255 + m) (show 2 * m ≠ 0 by omega)
  have e : (2 * v * 255 + m) / (2 * m) * (2 * m) = 2 * (m * near v m) := by unfold near; rw [Int.mul_comm, Int.mul_assoc]
  omega
theorem near_hi {v m : Int} (hm : 1 ≤ m) : 510 * v + m < 2 * (m * near v m) + 2 * m := by
  have h := Int.lt_ediv_add_one_mul_self (2 * v * 255 + m) (show 0 < 2 * m by omega)
  have e : ((2 * v * 255 + m) / (2 * m) + 1) * (2 * m) = 2 * (m * near v m) + 2 * m := by unfold near; rw [Int.add_mul, Int.one_mul, Int.mul_comm _ (2 * m), Int.mul_assoc]
  omega

/-- Of two numbers in order the products are. -/
theorem mul_le {m a b : Int} (hm : 1 ≤ m) (h : a ≤ b) : m * a ≤ m * b := Int.mul_le_mul_of_nonneg_left h (by omega)
theorem of_mul_lt {m a b : Int} (hm : 1 ≤ m) (h : m * a < m * b) : a < b := by
  rcases Int.lt_or_le a b with h1 | h1
  · exact h1
  · have := mul_le hm h1; omega

theorem near_0 {v m : Int} (hm : 1 ≤ m) (hv : 0 ≤ v) : 0 ≤ near v m := by
  have h := near_hi (v := v) hm
  have h2 : m * (-1) < m * near v m := by omega
  have := of_mul_lt hm h2
  omega
theorem near_255 {v m : Int} (hm : 1 ≤ m) (hv : v ≤ m) : near v m ≤ 255 := by
  have h := near_lo (v := v) hm
  have h2 : m * near v m < m * 256 := by omega
  have := of_mul_lt hm h2
  omega

/-- How far a number is from a sample. -/
def farV (v m x : Int) : Int := if v * 255 - x * m < 0 then -(v * 255 - x * m) else v * 255 - x * m

theorem far_below {v m x : Int} (hm : 1 ≤ m) (h : x ≤ near v m) : farV v m x ≤ farV v m (x - 1) := by
  have h1 := near_lo (v := v) hm
  have h2 := mul_le hm h
  have e1 : x * m = m * x := Int.mul_comm ..
  have e2 : (x - 1) * m = m * x - m := by rw [Int.sub_mul, Int.one_mul, e1]
  unfold farV
  rw [e1, e2]
  generalize m * x = P at *
  split <;> split <;> omega
theorem far_above {v m x : Int} (hm : 1 ≤ m) (h : near v m < x) : ¬ farV v m x ≤ farV v m (near v m) := by
  have h1 := near_lo (v := v) hm
  have h2 := near_hi (v := v) hm
  have h3 := mul_le hm (show near v m + 1 ≤ x by omega)
  have e0 : m * (near v m + 1) = m * near v m + m := by rw [Int.mul_add, Int.mul_one]
  have e1 : x * m = m * x := Int.mul_comm ..
  have e2 : near v m * m = m * near v m := Int.mul_comm ..
  unfold farV
  rw [e1, e2]
  rw [e0] at h3
  generalize m * x = P at *
  generalize m * near v m = Q at *
  split <;> split <;> omega

/-- The best number below x that the search has. -/
def best (v m x : Int) : Int := if near v m < x - 1 then near v m else x - 1
theorem best_yes {v m x : Int} (hm : 1 ≤ m) (h : x ≤ near v m) : best v m (x + 1) = x ∧ farV v m x ≤ farV v m (best v m x) := by
  unfold best
  rw [if_neg (by omega), if_neg (by omega)]
  exact ⟨by omega, far_below hm h⟩
theorem best_no {v m x : Int} (hm : 1 ≤ m) (h : near v m < x) : best v m (x + 1) = best v m x ∧ ¬ farV v m x ≤ farV v m (best v m x) := by
  have e1 : best v m (x + 1) = near v m := by unfold best; split <;> omega
  have e2 : best v m x = near v m := by unfold best; split <;> omega
  rw [e1, e2]
  exact ⟨rfl, far_above hm h⟩
theorem best_1 {v m : Int} (hm : 1 ≤ m) (hv : 0 ≤ v) : best v m 1 = 0 := by
  have := near_0 hm hv
  unfold best; split <;> omega
theorem best_256 {v m : Int} (hm : 1 ≤ m) (hv : v ≤ m) : best v m 256 = near v m := by
  have := near_255 hm hv
  unfold best; split <;> omega
theorem best_in {v m x : Int} (hm : 1 ≤ m) (hv : 0 ≤ v) (h1 : 1 ≤ x) (h2 : x ≤ 256) : 0 ≤ best v m x ∧ best v m x ≤ 255 := by
  have := near_0 hm hv
  unfold best; split <;> omega

/-- A greater sample is never less. -/
theorem near_mono {v w m : Int} (hm : 1 ≤ m) (h : v ≤ w) : near v m ≤ near w m := by
  unfold near
  exact Int.ediv_le_ediv (by omega) (by omega)
theorem near_zero {m : Int} (hm : 1 ≤ m) : near 0 m = 0 := by
  have h1 := near_lo (v := 0) hm
  have h2 := near_0 (v := 0) hm (by omega)
  have h3 : m * near 0 m < m * 1 := by omega
  have := of_mul_lt hm h3
  omega
theorem near_top {m : Int} (hm : 1 ≤ m) : near m m = 255 := by
  have h1 := near_255 hm (show m ≤ m by omega)
  have h2 := near_hi (v := m) hm
  have h3 : m * 254 < m * near m m := by omega
  have := of_mul_lt hm h3
  omega
theorem near_self {x : Int} (h0 : 0 ≤ x) (h1 : x ≤ 255) : near x 255 = x := by unfold near; omega

/-- The least sample that is no less. -/
def leastV (v m : Int) : Int := if v = 0 then 0 else ((2 * v - 1) * m + 509) / 510
theorem least_0 {v m : Int} (h0 : 0 ≤ v) (hm : 1 ≤ m) : 0 ≤ leastV v m := by
  unfold leastV
  split
  · omega
  · have : 0 ≤ (2 * v - 1) * m := Int.mul_nonneg (by omega) (by omega)
    exact Int.ediv_nonneg (by omega) (by omega)
theorem least_m {v m : Int} (h0 : 0 ≤ v) (h1 : v ≤ 255) (hm : 1 ≤ m) : leastV v m ≤ m := by
  unfold leastV
  split
  · omega
  · have : (2 * v - 1) * m ≤ 509 * m := Int.mul_le_mul_of_nonneg_right (by omega) (by omega)
    have : ((2 * v - 1) * m + 509) / 510 ≤ (509 * m + 509) / 510 := Int.ediv_le_ediv (by omega) (by omega)
    omega
theorem odd_mul (v m : Int) : (2 * v - 1) * m = 2 * (m * v) - m := by rw [Int.sub_mul, Int.one_mul, Int.mul_assoc, Int.mul_comm v m]
/-- From there on no sample is less, and ahead of it all are. -/
theorem least_from {v m x : Int} (h0 : 0 ≤ v) (hm : 1 ≤ m) (hx : 0 ≤ x) (h : leastV v m ≤ x) : v ≤ near x m := by
  by_cases hv : v = 0
  · have := near_0 (v := x) hm hx; omega
  · unfold leastV at h
    rw [if_neg hv, odd_mul] at h
    have h2 := near_hi (v := x) hm
    have h3 : m * (v - 1) < m * near x m := by
      have : m * (v - 1) = m * v - m := by rw [Int.mul_sub, Int.mul_one]
      omega
    have := of_mul_lt hm h3
    omega
theorem least_ahead {v m x : Int} (hm : 1 ≤ m) (hx : 0 ≤ x) (h : x < leastV v m) : near x m < v := by
  by_cases hv : v = 0
  · unfold leastV at h; rw [if_pos hv] at h; omega
  · unfold leastV at h
    rw [if_neg hv, odd_mul] at h
    have h2 := near_lo (v := x) hm
    exact of_mul_lt hm (by omega)
/-- Of a great greatest value each number is some sample's. -/
theorem least_is {v m : Int} (h0 : 0 ≤ v) (h1 : v ≤ 255) (hm : 255 ≤ m) : near (leastV v m) m = v := by
  have a := least_from (x := leastV v m) h0 (show 1 ≤ m by omega) (least_0 h0 (by omega)) (Int.le_refl _)
  by_cases hv : v = 0
  · subst hv
    have : leastV 0 m = 0 := by unfold leastV; rw [if_pos rfl]
    rw [this, near_zero (by omega)]
  · have h2 := near_lo (v := leastV v m) (m := m) (by omega)
    have h3 : m * near (leastV v m) m < m * (v + 1) := by
      have e : m * (v + 1) = m * v + m := by rw [Int.mul_add, Int.mul_one]
      have hl : leastV v m = ((2 * v - 1) * m + 509) / 510 := by unfold leastV; rw [if_neg hv]
      rw [odd_mul] at hl
      omega
    have := of_mul_lt (show 1 ≤ m by omega) h3
    omega
/-- Where the least that is no less isn't it, no sample is. -/
theorem least_none {v m x : Int} (h0 : 0 ≤ v) (hm : 1 ≤ m) (hx : 0 ≤ x) (h : near (leastV v m) m ≠ v) : near x m ≠ v := by
  have a := least_from (x := leastV v m) h0 hm (least_0 h0 hm) (Int.le_refl _)
  rcases Int.lt_or_le x (leastV v m) with h1 | h1
  · have := least_ahead hm hx h1; omega
  · have := near_mono hm h1; omega

end Go.Proofs.YtjdhlehpoclnjaaGreat.Sc
