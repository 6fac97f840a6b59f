/- Texts of one kind, one behind the other: Num, Num2. -/
import Derived.IntWalk
import Derived.Lib.Hide
import Derived.OpenShut
import Derived.Outline
import Derived.ProofKit
import Derived.Test.YtikjfmpdfeaooaaDoorRows
import Derived.WalkKit
/- Contracts of package num and of the document's answers for layer 1: each call returns what plain functions on integers give, and leaves the world alone. -/
namespace Go.Proofs.YtikjfmpdfeaooaaDoor.Nu
open Go.ChangeShapes Go.WideShapes Go.ChangeAt Go.RowKit
set_option linter.unusedVariables false

/-- Is it a number: from 0 to 2^62? -/
def isB (n : Int) : Bool := decide (0 ≤ n) && decide (n ≤ 4611686018427387904)

theorem isB_yes {n : Int} (h0 : 0 ≤ n) (h1 : n ≤ 4611686018427387904) : isB n = true := by simp [isB, h0, h1]

theorem isB_no {n : Int} (h : n < 0 ∨ 4611686018427387904 < n) : isB n = false := by
  simp only [isB, Bool.and_eq_false_iff, decide_eq_false_iff_not]; omega

theorem is38 (n : Int) (w : World) : Calls Tryd.prog 67 #[.int .i64 n] w fun e w' => e = .returned (.bool (isB n)) ∧ w = w' := by
  by_cases h0 : 0 ≤ n
  · by_cases h1 : n ≤ 4611686018427387904
    · rw [isB_yes h0 h1]
      go_enter Tryd.func67, Tryd.ntmps67
      go_wp2
      go_ret
      exact ⟨rfl, rfl⟩
    · rw [isB_no (by omega)]
      have h2 : 4611686018427387904 < n := by omega
      go_enter Tryd.func67, Tryd.ntmps67
      go_wp2
      go_ret
      exact ⟨rfl, rfl⟩
  · rw [isB_no (by omega)]
    have h2 : n < 0 := by omega
    go_enter Tryd.func67, Tryd.ntmps67
    go_wp2
    go_ret
    exact ⟨rfl, rfl⟩

theorem isB_of {n : Int} (h : isB n = true) : 0 ≤ n ∧ n ≤ 4611686018427387904 := by
  simpa [isB] using h

/-- Is the product told? -/
def mulOk (a b : Int) : Bool := isB a && isB b && decide (a * b ≤ 4611686018427387904)
def mulV (a b : Int) : Int := if mulOk a b then a * b else 0

theorem mulOk_1 {a b : Int} (h : isB a = false) : mulOk a b = false := by simp [mulOk, h]

theorem mulOk_2 {a b : Int} (h : isB b = false) : mulOk a b = false := by simp [mulOk, h]

theorem mulOk_3 {a b : Int} (h : 4611686018427387904 < a * b) : mulOk a b = false := by simp [mulOk]; intros; omega

theorem mulOk_4 {a b : Int} (ha : isB a = true) (hb : isB b = true) (h : a * b ≤ 4611686018427387904) : mulOk a b = true := by simp [mulOk, ha, hb, h]

theorem mulV_no {a b : Int} (h : mulOk a b = false) : mulV a b = 0 := by simp [mulV, h]

theorem mulV_yes {a b : Int} (h : mulOk a b = true) : mulV a b = a * b := by simp [mulV, h]

theorem quo_le {a b : Int} (hb : 0 < b) (h : a * b ≤ 4611686018427387904) : a ≤ 4611686018427387904 / b := (Int.le_ediv_iff_mul_le hb).2 h

theorem quo_gt {a b : Int} (hb : 0 < b) (h : 4611686018427387904 < a * b) : 4611686018427387904 / b < a := by
  have := mt (Int.le_ediv_iff_mul_le (a := a) (b := 4611686018427387904) hb).1 (by omega); omega

theorem mul11 (a b : Int) (w : World) : Calls Tryd.prog 58 #[.int .i64 a, .int .i64 b] w fun e w' => e = .returned (.tuple #[.int .i64 (mulV a b), .bool (mulOk a b)]) ∧ w = w' := by
  cases ha : isB a
  · rw [mulV_no (mulOk_1 ha), mulOk_1 ha]
    go_enter Tryd.func58, Tryd.ntmps58
    go_wp2_with (go_at_call 67; refine (is38 _ _).mono ?_; rintro e w' ⟨rfl, rfl⟩)
    go_ret2
    exact ⟨rfl, rfl⟩
  · cases hb : isB b
    · rw [mulV_no (mulOk_2 hb), mulOk_2 hb]
      go_enter Tryd.func58, Tryd.ntmps58
      go_wp2_with (go_at_call 67; refine (is38 _ _).mono ?_; rintro e w' ⟨rfl, rfl⟩)
      go_ret2
      exact ⟨rfl, rfl⟩
    · obtain ⟨a0, a1⟩ := isB_of ha
      obtain ⟨b0, b1⟩ := isB_of hb
      have hab : 0 ≤ a * b := Int.mul_nonneg a0 b0
      by_cases hz : 0 < b
      · by_cases h : a * b ≤ 4611686018427387904
        · rw [mulV_yes (mulOk_4 ha hb h), mulOk_4 ha hb h]
          have h' := quo_le hz h
          go_enter Tryd.func58, Tryd.ntmps58
          go_wp2_with (go_at_call 67; refine (is38 _ _).mono ?_; rintro e w' ⟨rfl, rfl⟩)
          go_ret2
          exact ⟨rfl, rfl⟩
        · rw [mulV_no (mulOk_3 (by omega)), mulOk_3 (by omega)]
          have h' := quo_gt (a := a) hz (by omega)
          go_enter Tryd.func58, Tryd.ntmps58
          go_wp2_with (go_at_call 67; refine (is38 _ _).mono ?_; rintro e w' ⟨rfl, rfl⟩)
          go_ret2
          exact ⟨rfl, rfl⟩
      · obtain rfl : b = 0 := by omega
        rw [mulV_yes (mulOk_4 ha hb (by omega)), mulOk_4 ha hb (by omega)]
        go_enter Tryd.func58, Tryd.ntmps58
        go_wp2_with (go_at_call 67; refine (is38 _ _).mono ?_; rintro e w' ⟨rfl, rfl⟩)
        go_ret2
        exact ⟨by simp, rfl⟩

end Go.Proofs.YtikjfmpdfeaooaaDoor.Nu

/- Contracts of the rest of package num and of layer 1's answers: parts, rows' bytes, a number brought between two others, the chapter's examples. -/
namespace Go.Proofs.YtikjfmpdfeaooaaDoor.Nu
open Go.ChangeShapes Go.WideShapes Go.ChangeAt Go.RowKit
set_option linter.unusedVariables false

/-- Are the parts told? -/
def ceilOk (a b : Int) : Bool := isB a && isB b && !(b == 0)
def ceilV (a b : Int) : Int := if ceilOk a b then (if 0 < a % b then a / b + 1 else a / b) else 0

theorem ceilOk_1 {a b : Int} (h : isB a = false) : ceilOk a b = false := by simp [ceilOk, h]

theorem ceilOk_2 {a b : Int} (h : isB b = false) : ceilOk a b = false := by simp [ceilOk, h]

theorem ceilOk_3 {a b : Int} (h : b = 0) : ceilOk a b = false := by simp [ceilOk, h]

theorem ceilOk_4 {a b : Int} (ha : isB a = true) (hb : isB b = true) (h : 0 < b) : ceilOk a b = true := by simp [ceilOk, ha, hb]; omega

theorem ceilV_no {a b : Int} (h : ceilOk a b = false) : ceilV a b = 0 := by simp [ceilV, h]

theorem ceilV_up {a b : Int} (h : ceilOk a b = true) (hr : 0 < a % b) : ceilV a b = a / b + 1 := by simp [ceilV, h, hr]

theorem ceilV_at {a b : Int} (h : ceilOk a b = true) (hr : a % b ≤ 0) : ceilV a b = a / b := by
  unfold ceilV; rw [if_pos h, if_neg (by omega)]

theorem quo_bd {a b : Int} (a0 : 0 ≤ a) (a1 : a ≤ 4611686018427387904) (hb : 0 < b) : 0 ≤ a / b ∧ a / b ≤ 4611686018427387904 := by
  have h1 : a / b ≤ a := Int.ediv_le_self _ a0
  exact ⟨Int.ediv_nonneg a0 (by omega), by omega⟩

theorem ceil18 (a b : Int) (w : World) : Calls Tryd.prog 59 #[.int .i64 a, .int .i64 b] w fun e w' => e = .returned (.tuple #[.int .i64 (ceilV a b), .bool (ceilOk a b)]) ∧ w = w' := by
  cases ha : isB a
  · rw [ceilV_no (ceilOk_1 ha), ceilOk_1 ha]
    go_enter Tryd.func59, Tryd.ntmps59
    go_wp2_with (go_at_call 67; refine (is38 _ _).mono ?_; rintro e w' ⟨rfl, rfl⟩)
    go_ret2
    exact ⟨rfl, rfl⟩
  · cases hb : isB b
    · rw [ceilV_no (ceilOk_2 hb), ceilOk_2 hb]
      go_enter Tryd.func59, Tryd.ntmps59
      go_wp2_with (go_at_call 67; refine (is38 _ _).mono ?_; rintro e w' ⟨rfl, rfl⟩)
      go_ret2
      exact ⟨rfl, rfl⟩
    · obtain ⟨a0, a1⟩ := isB_of ha
      obtain ⟨b0, b1⟩ := isB_of hb
      by_cases hz : 0 < b
      · obtain ⟨q0, q1⟩ := quo_bd a0 a1 hz
        have yb : (b == 0) = false := by simp; omega
        have r0 : 0 ≤ a % b := Int.emod_nonneg _ (by omega)
        by_cases h : 0 < a % b
        · rw [ceilV_up (ceilOk_4 ha hb hz) h, ceilOk_4 ha hb hz]
          go_enter Tryd.func59, Tryd.ntmps59
          go_wp2_with (go_at_call 67; refine (is38 _ _).mono ?_; rintro e w' ⟨rfl, rfl⟩)
          go_ret2
          exact ⟨rfl, rfl⟩
        · have h' : a % b ≤ 0 := by omega
          rw [ceilV_at (ceilOk_4 ha hb hz) h', ceilOk_4 ha hb hz]
          go_enter Tryd.func59, Tryd.ntmps59
          go_wp2_with (go_at_call 67; refine (is38 _ _).mono ?_; rintro e w' ⟨rfl, rfl⟩)
          go_ret2
          exact ⟨rfl, rfl⟩
      · obtain rfl : b = 0 := by omega
        rw [ceilV_no (ceilOk_3 rfl), ceilOk_3 rfl]
        go_enter Tryd.func59, Tryd.ntmps59
        go_wp2_with (go_at_call 67; refine (is38 _ _).mono ?_; rintro e w' ⟨rfl, rfl⟩)
        go_ret2
        exact ⟨rfl, rfl⟩

/-- Are a row's bytes told? As the code has it, one behind the other. -/
def strOk (w b al : Int) : Bool := !(b == 0) && (al.tmod 8 == 0) && mulOk w b && ceilOk (mulV w b) al && mulOk (ceilV (mulV w b) al) al
def strV (w b al : Int) : Int := if strOk w b al then mulV (ceilV (mulV w b) al) al / 8 else 0

theorem strV_no {w b al : Int} (h : strOk w b al = false) : strV w b al = 0 := by simp [strV, h]

theorem strV_yes {w b al : Int} (h : strOk w b al = true) : strV w b al = mulV (ceilV (mulV w b) al) al / 8 := by simp [strV, h]

theorem strOk_1 {w al : Int} : strOk w 0 al = false := by simp [strOk]

theorem strOk_2 {w b al : Int} (h : (al.tmod 8 == 0) = false) : strOk w b al = false := by simp [strOk, h]

theorem strOk_3 {w b al : Int} (h : mulOk w b = false) : strOk w b al = false := by simp [strOk, h]

theorem strOk_4 {w b al : Int} (h : ceilOk (mulV w b) al = false) : strOk w b al = false := by simp [strOk, h]

theorem strOk_5 {w b al : Int} (h : mulOk (ceilV (mulV w b) al) al = false) : strOk w b al = false := by simp [strOk, h]

theorem strOk_6 {w b al : Int} (h1 : (b == 0) = false) (h2 : (al.tmod 8 == 0) = true) (h3 : mulOk w b = true) (h4 : ceilOk (mulV w b) al = true) (h5 : mulOk (ceilV (mulV w b) al) al = true) : strOk w b al = true := by
  simp [strOk, h1, h2, h3, h4, h5]

theorem mulV_bd (a b : Int) : 0 ≤ mulV a b ∧ mulV a b ≤ 4611686018427387904 := by
  unfold mulV
  cases h : mulOk a b
  · simp
  · simp only [if_true]
    have h' := h
    simp only [mulOk, Bool.and_eq_true, decide_eq_true_eq] at h'
    obtain ⟨⟨ha, hb⟩, hm⟩ := h'
    exact ⟨Int.mul_nonneg (isB_of ha).1 (isB_of hb).1, hm⟩

theorem stride16 (a b c : Int) (w : World) : Calls Tryd.prog 37 #[.int .i64 a, .int .i64 b, .int .i64 c] w fun e w' => e = .returned (.tuple #[.int .i64 (strV a b c), .bool (strOk a b c)]) ∧ w = w' := by
  by_cases hb : b = 0
  · subst hb
    rw [strV_no strOk_1, strOk_1]
    go_enter Tryd.func37, Tryd.ntmps37
    go_wp2
    go_ret2
    exact ⟨rfl, rfl⟩
  have yb : (b == 0) = false := by simp; omega
  clear hb
  cases hc : (c.tmod 8 == 0)
  · rw [strV_no (strOk_2 hc), strOk_2 hc]
    have hc' : (c.tmod 8 != 0) = true := by simpa [bne] using hc
    go_enter Tryd.func37, Tryd.ntmps37
    go_wp2
    go_ret2
    exact ⟨rfl, rfl⟩
  have hc' : (c.tmod 8 != 0) = false := by simpa [bne] using hc
  cases h3 : mulOk a b
  · rw [strV_no (strOk_3 h3), strOk_3 h3]
    go_enter Tryd.func37, Tryd.ntmps37
    go_wp2_with (go_at_call 58; refine (mul11 _ _ _).mono ?_; rintro e w' ⟨rfl, rfl⟩)
    go_ret2
    exact ⟨rfl, rfl⟩
  have hM := mulV_bd a b
  cases h4 : ceilOk (mulV a b) c
  · rw [strV_no (strOk_4 h4), strOk_4 h4]
    go_enter Tryd.func37, Tryd.ntmps37
    go_wp2_with (first | (go_at_call 58; refine (mul11 _ _ _).mono ?_; rintro e w' ⟨rfl, rfl⟩) | (go_at_call 59; refine (ceil18 _ _ _).mono ?_; rintro e w' ⟨rfl, rfl⟩))
    go_ret2
    exact ⟨rfl, rfl⟩
  cases h5 : mulOk (ceilV (mulV a b) c) c
  · rw [strV_no (strOk_5 h5), strOk_5 h5]
    go_enter Tryd.func37, Tryd.ntmps37
    go_wp2_with (first | (go_at_call 58; refine (mul11 _ _ _).mono ?_; rintro e w' ⟨rfl, rfl⟩) | (go_at_call 59; refine (ceil18 _ _ _).mono ?_; rintro e w' ⟨rfl, rfl⟩))
    go_ret2
    exact ⟨rfl, rfl⟩
  obtain ⟨m0, m1⟩ := mulV_bd (ceilV (mulV a b) c) c
  rw [strV_yes (strOk_6 yb hc h3 h4 h5), strOk_6 yb hc h3 h4 h5]
  go_enter Tryd.func37, Tryd.ntmps37
  go_wp2_with (first | (go_at_call 58; refine (mul11 _ _ _).mono ?_; rintro e w' ⟨rfl, rfl⟩) | (go_at_call 59; refine (ceil18 _ _ _).mono ?_; rintro e w' ⟨rfl, rfl⟩))
  go_ret2
  exact ⟨rfl, rfl⟩

end Go.Proofs.YtikjfmpdfeaooaaDoor.Nu
