/- Contracts of the rest of package num and of layer 1's answers: parts, rows' bytes, a number brought between two others, the chapter's examples. -/
import Derived.Test.YtjdhlehpoclnjaaGreatNum
namespace Go.Proofs.YtjdhlehpoclnjaaGreat.Nu
open Go.ChangeShapes Go.WideShapes Go.ChangeAt Go.RowKit
set_option linter.unusedVariables false

/-- Are the parts told? -/
def ceilOk (a b : Int) : Bool := isB a && isB b && !(b == 0)
def ceilV (a b : Int) : Int := if ceilOk a b then (if 0 < a % b then a / b + 1 else a / b) else 0

theorem ceilOk_1 {a b : Int} (h : isB a = false) : ceilOk a b = false := by simp [ceilOk, h]

theorem ceilOk_2 {a b : Int} (h : isB b = false) : ceilOk a b = false := by simp [ceilOk, h]

theorem ceilOk_3 {a b : Int} (h : b = 0) : ceilOk a b = false := by simp [ceilOk, h]

theorem ceilOk_4 {a b : Int} (ha : isB a = true) (hb : isB b = true) (h : 0 < b) : ceilOk a b = true := by simp [ceilOk, ha, hb]; omega

theorem ceilV_no {a b : Int} (h : ceilOk a b = false) : ceilV a b = 0 := by simp [ceilV, h]

theorem ceilV_up {a b : Int} (h : ceilOk a b = true) (hr : 0 < a % b) : ceilV a b = a / b + 1 := by simp [ceilV, h, hr]

theorem ceilV_at {a b : Int} (h : ceilOk a b = true) (hr : a % b ≤ 0) : ceilV a b = a / b := by
  unfold ceilV; rw [if_pos h, if_neg (by omega)]

theorem quo_bd {a b : Int} (a0 : 0 ≤ a) (a1 : a ≤ 4611686018427387904) (hb : 0 < b) : 0 ≤ a / b ∧ a / b ≤ 4611686018427387904 := by
  have h1 : a / b ≤ a := Int.ediv_le_self _ a0
  exact ⟨Int.ediv_nonneg a0 (by omega), by omega⟩

theorem quo_mul {a b : Int} : a / b * b = a - a % b := by have := Int.ediv_mul_add_emod a b; omega

/-- Are a row's bytes told? As the code has it, one behind the other. -/
def strOk (w b al : Int) : Bool := !(b == 0) && (al.tmod 8 == 0) && mulOk w b && ceilOk (mulV w b) al && mulOk (ceilV (mulV w b) al) al
def strV (w b al : Int) : Int := if strOk w b al then mulV (ceilV (mulV w b) al) al / 8 else 0

theorem strV_no {w b al : Int} (h : strOk w b al = false) : strV w b al = 0 := by simp [strV, h]

theorem strV_yes {w b al : Int} (h : strOk w b al = true) : strV w b al = mulV (ceilV (mulV w b) al) al / 8 := by simp [strV, h]

theorem strOk_1 {w al : Int} : strOk w 0 al = false := by simp [strOk]

theorem strOk_2 {w b al : Int} (h : (al.tmod 8 == 0) = false) : strOk w b al = false := by simp [strOk, h]

theorem strOk_3 {w b al : Int} (h : mulOk w b = false) : strOk w b al = false := by simp [strOk, h]

theorem strOk_4 {w b al : Int} (h : ceilOk (mulV w b) al = false) : strOk w b al = false := by simp [strOk, h]

theorem strOk_5 {w b al : Int} (h : mulOk (ceilV (mulV w b) al) al = false) : strOk w b al = false := by simp [strOk, h]

theorem strOk_6 {w b al : Int} (h1 : (b == 0) = false) (h2 : (al.tmod 8 == 0) = true) (h3 : mulOk w b = true) (h4 : ceilOk (mulV w b) al = true) (h5 : mulOk (ceilV (mulV w b) al) al = true) : strOk w b al = true := by
  simp [strOk, h1, h2, h3, h4, h5]

theorem mulV_bd (a b : Int) : 0 ≤ mulV a b ∧ mulV a b ≤ 4611686018427387904 := by
  unfold mulV
  cases h : mulOk a b
  · simp
  · simp only [if_true]
    have h' := h
    simp only [mulOk, Bool.and_eq_true, decide_eq_true_eq] at h'
    obtain ⟨⟨ha, hb⟩, hm⟩ := h'
    exact ⟨Int.mul_nonneg (isB_of ha).1 (isB_of hb).1, hm⟩

end Go.Proofs.YtjdhlehpoclnjaaGreat.Nu
