/- The document's bytes of a row by the code's own terms, and layer 1's examples. -/
import Derived.Test.YtjdhlehpoclnjaaGreatNum2
namespace Go.Proofs.YtjdhlehpoclnjaaGreat.Nu
open Go.ChangeShapes Go.WideShapes Go.ChangeAt Go.RowKit
set_option linter.unusedVariables false

theorem str_a {a b c : Int} (h : isB a = false) : strOk a b c = false := strOk_3 (mulOk_1 h)

theorem str_b {a b c : Int} (h : isB b = false) : strOk a b c = false := strOk_3 (mulOk_2 h)

theorem str_c {a b c : Int} (h : isB c = false) : strOk a b c = false := strOk_4 (ceilOk_2 h)

theorem str_z {a b : Int} : strOk a b 0 = false := strOk_4 (ceilOk_3 rfl)

theorem tm8 {c : Int} (h : 0 ≤ c) : c.tmod 8 = c % 8 := Int.tmod_eq_emod_of_nonneg h

theorem str_whole {a b c : Int} (hb : (b == 0) = false) (hc0 : 0 < c) (hc : isB c = true) (h8 : c % 8 = 0) (hm : mulOk a b = true) (hr : mulV a b % c = 0) :
    strOk a b c = true ∧ strV a b c = mulV a b / 8 := by
  obtain ⟨m0, m1⟩ := mulV_bd a b
  obtain ⟨c0, c1⟩ := isB_of hc
  have h4 : ceilOk (mulV a b) c = true := ceilOk_4 (isB_yes m0 m1) hc hc0
  have h4' := ceilV_at h4 (by omega)
  obtain ⟨q0, q1⟩ := quo_bd m0 m1 hc0
  have qm := quo_mul (a := mulV a b) (b := c)
  have h5 : mulOk (ceilV (mulV a b) c) c = true := by
    rw [h4']; exact mulOk_4 (isB_yes q0 q1) hc (by omega)
  have h := strOk_6 hb (by rw [tm8 c0]; simp [h8]) hm h4 h5
  refine ⟨h, ?_⟩
  rw [strV_yes h, mulV_yes h5, h4', qm, hr, Int.sub_zero]

theorem str_up {a b c : Int} (hb : (b == 0) = false) (hc0 : 0 < c) (hc : isB c = true) (h8 : c % 8 = 0) (hm : mulOk a b = true) (hr : 0 < mulV a b % c) :
    strOk a b c = addOk (mulV a b - mulV a b % c) c ∧ strV a b c = addV (mulV a b - mulV a b % c) c / 8 := by
  obtain ⟨m0, m1⟩ := mulV_bd a b
  obtain ⟨c0, c1⟩ := isB_of hc
  have h4 : ceilOk (mulV a b) c = true := ceilOk_4 (isB_yes m0 m1) hc hc0
  have h4' := ceilV_up h4 hr
  obtain ⟨q0, q1⟩ := quo_bd m0 m1 hc0
  have qm := quo_mul (a := mulV a b) (b := c)
  have rl : mulV a b % c ≤ mulV a b := by
    have := Int.mul_nonneg q0 c0; omega
  have hs : (mulV a b / c + 1) * c = mulV a b - mulV a b % c + c := by rw [Int.add_mul, qm]; omega
  have hx : isB (mulV a b - mulV a b % c) = true := isB_yes (by omega) (by omega)
  by_cases hT : mulV a b - mulV a b % c + c ≤ 4611686018427387904
  · have hq : mulV a b / c + 1 ≤ (mulV a b / c + 1) * c := by
      have := Int.mul_le_mul_of_nonneg_left (show 1 ≤ c by omega) (show 0 ≤ mulV a b / c + 1 by omega); omega
    have h5 : mulOk (ceilV (mulV a b) c) c = true := by
      rw [h4']; exact mulOk_4 (isB_yes (by omega) (by omega)) hc (by omega)
    have h := strOk_6 hb (by rw [tm8 c0]; simp [h8]) hm h4 h5
    have ha := addOk_4 hx hc hT
    refine ⟨by rw [h, ha], ?_⟩
    rw [strV_yes h, mulV_yes h5, h4', hs, addV_yes ha]
  · have h5 : mulOk (ceilV (mulV a b) c) c = false := by
      rw [h4']; exact mulOk_3 (by omega)
    have h := strOk_5 h5
    have ha : addOk (mulV a b - mulV a b % c) c = false := addOk_3 (by omega)
    refine ⟨by rw [h, ha], ?_⟩
    rw [strV_no h, addV_no ha]; rfl

theorem str_ex : strOk 3 24 32 = true ∧ strV 3 24 32 = 12 := by decide +kernel

theorem ceil_ex : ceilOk 7 2 = true ∧ ceilV 7 2 = 4 := by decide +kernel

theorem mul_ex : mulOk 1099511627776 1099511627776 = false := by decide +kernel

end Go.Proofs.YtjdhlehpoclnjaaGreat.Nu
