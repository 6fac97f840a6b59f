/- Texts of one kind, one behind the other: Num, Num2, Num3. -/
import Derived.IntWalk
import Derived.Lib.Hide
import Derived.OpenShut
import Derived.Outline
import Derived.ProofKit
import Derived.Test.YtmhghkgcfgacdaaGreatRows
import Derived.WalkKit
/- Contracts of package num and of the document's answers for layer 1: each call returns what plain functions on integers give, and leaves the world alone. -/
namespace Go.Proofs.YtmhghkgcfgacdaaGreat.Nu
open Go.ChangeShapes Go.WideShapes Go.ChangeAt Go.RowKit
set_option linter.unusedVariables false

/-- Is it a number: from 0 to 2^62? -/
def isB (n : Int) : Bool := decide (0 ≤ n) && decide (n ≤ 4611686018427387904)

theorem isB_yes {n : Int} (h0 : 0 ≤ n) (h1 : n ≤ 4611686018427387904) : isB n = true := by simp [isB, h0, h1]

theorem isB_no {n : Int} (h : n < 0 ∨ 4611686018427387904 < n) : isB n = false := by
  simp only [isB, Bool.and_eq_false_iff, decide_eq_false_iff_not]; omega

theorem is38 (n : Int) (w : World) : Calls Tryz.prog 99 #[.int .i64 n] w fun e w' => e = .returned (.bool (isB n)) ∧ w = w' := by
  by_cases h0 : 0 ≤ n
  · by_cases h1 : n ≤ 4611686018427387904
    · rw [isB_yes h0 h1]
      go_enter Tryz.func99, Tryz.ntmps99
      go_wp2
      go_ret
      exact ⟨rfl, rfl⟩
    · rw [isB_no (by omega)]
      have h2 : 4611686018427387904 < n := by omega
      go_enter Tryz.func99, Tryz.ntmps99
      go_wp2
      go_ret
      exact ⟨rfl, rfl⟩
  · rw [isB_no (by omega)]
    have h2 : n < 0 := by omega
    go_enter Tryz.func99, Tryz.ntmps99
    go_wp2
    go_ret
    exact ⟨rfl, rfl⟩

theorem isB_of {n : Int} (h : isB n = true) : 0 ≤ n ∧ n ≤ 4611686018427387904 := by
  simpa [isB] using h

/-- Is the sum told? -/
def addOk (a b : Int) : Bool := isB a && isB b && decide (a + b ≤ 4611686018427387904)
def addV (a b : Int) : Int := if addOk a b then a + b else 0

theorem addOk_1 {a b : Int} (h : isB a = false) : addOk a b = false := by simp [addOk, h]

theorem addOk_2 {a b : Int} (h : isB b = false) : addOk a b = false := by simp [addOk, h]

theorem addOk_3 {a b : Int} (h : 4611686018427387904 < a + b) : addOk a b = false := by simp [addOk]; intros; omega

theorem addOk_4 {a b : Int} (ha : isB a = true) (hb : isB b = true) (h : a + b ≤ 4611686018427387904) : addOk a b = true := by simp [addOk, ha, hb, h]

theorem addV_no {a b : Int} (h : addOk a b = false) : addV a b = 0 := by simp [addV, h]

theorem addV_yes {a b : Int} (h : addOk a b = true) : addV a b = a + b := by simp [addV, h]


/-- Is the product told? -/
def mulOk (a b : Int) : Bool := isB a && isB b && decide (a * b ≤ 4611686018427387904)
def mulV (a b : Int) : Int := if mulOk a b then a * b else 0

theorem mulOk_1 {a b : Int} (h : isB a = false) : mulOk a b = false := by simp [mulOk, h]

theorem mulOk_2 {a b : Int} (h : isB b = false) : mulOk a b = false := by simp [mulOk, h]

theorem mulOk_3 {a b : Int} (h : 4611686018427387904 < a * b) : mulOk a b = false := by simp [mulOk]; intros; omega

theorem mulOk_4 {a b : Int} (ha : isB a = true) (hb : isB b = true) (h : a * b ≤ 4611686018427387904) : mulOk a b = true := by simp [mulOk, ha, hb, h]

theorem mulV_no {a b : Int} (h : mulOk a b = false) : mulV a b = 0 := by simp [mulV, h]

theorem mulV_yes {a b : Int} (h : mulOk a b = true) : mulV a b = a * b := by simp [mulV, h]

theorem quo_le {a b : Int} (hb : 0 < b) (h : a * b ≤ 4611686018427387904) : a ≤ 4611686018427387904 / b := (Int.le_ediv_iff_mul_le hb).2 h

theorem quo_gt {a b : Int} (hb : 0 < b) (h : 4611686018427387904 < a * b) : 4611686018427387904 / b < a := by
  have := mt (Int.le_ediv_iff_mul_le (a := a) (b := 4611686018427387904) hb).1 (by omega); omega

theorem mul11 (a b : Int) (w : World) : Calls Tryz.prog 88 #[.int .i64 a, .int .i64 b] w fun e w' => e = .returned (.tuple #[.int .i64 (mulV a b), .bool (mulOk a b)]) ∧ w = w' := by
  cases ha : isB a
  · rw [mulV_no (mulOk_1 ha), mulOk_1 ha]
    go_enter Tryz.func88, Tryz.ntmps88
    go_wp2_with (go_at_call 99; refine (is38 _ _).mono ?_; rintro e w' ⟨rfl, rfl⟩)
    go_ret2
    exact ⟨rfl, rfl⟩
  · cases hb : isB b
    · rw [mulV_no (mulOk_2 hb), mulOk_2 hb]
      go_enter Tryz.func88, Tryz.ntmps88
      go_wp2_with (go_at_call 99; refine (is38 _ _).mono ?_; rintro e w' ⟨rfl, rfl⟩)
      go_ret2
      exact ⟨rfl, rfl⟩
    · obtain ⟨a0, a1⟩ := isB_of ha
      obtain ⟨b0, b1⟩ := isB_of hb
      have hab : 0 ≤ a * b := Int.mul_nonneg a0 b0
      by_cases hz : 0 < b
      · by_cases h : a * b ≤ 4611686018427387904
        · rw [mulV_yes (mulOk_4 ha hb h), mulOk_4 ha hb h]
          have h' := quo_le hz h
          go_enter Tryz.func88, Tryz.ntmps88
          go_wp2_with (go_at_call 99; refine (is38 _ _).mono ?_; rintro e w' ⟨rfl, rfl⟩)
          go_ret2
          exact ⟨rfl, rfl⟩
        · rw [mulV_no (mulOk_3 (by omega)), mulOk_3 (by omega)]
          have h' := quo_gt (a := a) hz (by omega)
          go_enter Tryz.func88, Tryz.ntmps88
          go_wp2_with (go_at_call 99; refine (is38 _ _).mono ?_; rintro e w' ⟨rfl, rfl⟩)
          go_ret2
          exact ⟨rfl, rfl⟩
      · obtain rfl : b = 0 := by omega
        rw [mulV_yes (mulOk_4 ha hb (by omega)), mulOk_4 ha hb (by omega)]
        go_enter Tryz.func88, Tryz.ntmps88
        go_wp2_with (go_at_call 99; refine (is38 _ _).mono ?_; rintro e w' ⟨rfl, rfl⟩)
        go_ret2
        exact ⟨by simp, rfl⟩

end Go.Proofs.YtmhghkgcfgacdaaGreat.Nu

/- Contracts of the rest of package num and of layer 1's answers: parts, rows' bytes, a number brought between two others, the chapter's examples. -/
namespace Go.Proofs.YtmhghkgcfgacdaaGreat.Nu
open Go.ChangeShapes Go.WideShapes Go.ChangeAt Go.RowKit
set_option linter.unusedVariables false

/-- Are the parts told? -/
def ceilOk (a b : Int) : Bool := isB a && isB b && !(b == 0)
def ceilV (a b : Int) : Int := if ceilOk a b then (if 0 < a % b then a / b + 1 else a / b) else 0

theorem ceilOk_1 {a b : Int} (h : isB a = false) : ceilOk a b = false := by simp [ceilOk, h]

theorem ceilOk_2 {a b : Int} (h : isB b = false) : ceilOk a b = false := by simp [ceilOk, h]

theorem ceilOk_3 {a b : Int} (h : b = 0) : ceilOk a b = false := by simp [ceilOk, h]

theorem ceilOk_4 {a b : Int} (ha : isB a = true) (hb : isB b = true) (h : 0 < b) : ceilOk a b = true := by simp [ceilOk, ha, hb]; omega

theorem ceilV_no {a b : Int} (h : ceilOk a b = false) : ceilV a b = 0 := by simp [ceilV, h]

theorem ceilV_up {a b : Int} (h : ceilOk a b = true) (hr : 0 < a % b) : ceilV a b = a / b + 1 := by simp [ceilV, h, hr]

theorem ceilV_at {a b : Int} (h : ceilOk a b = true) (hr : a % b ≤ 0) : ceilV a b = a / b := by
  unfold ceilV; rw [if_pos h, if_neg (by omega)]

theorem quo_bd {a b : Int} (a0 : 0 ≤ a) (a1 : a ≤ 4611686018427387904) (hb : 0 < b) : 0 ≤ a / b ∧ a / b ≤ 4611686018427387904 := by
  have h1 : a / b ≤ a := Int.ediv_le_self _ a0
  exact ⟨Int.ediv_nonneg a0 (by omega), by omega⟩

theorem quo_mul {a b : Int} : a / b * b = a - a % b := by have := Int.ediv_mul_add_emod a b; omega

/-- Are a row's bytes told? As the code has it, one behind the other. -/
def strOk (w b al : Int) : Bool := !(b == 0) && (al.tmod 8 == 0) && mulOk w b && ceilOk (mulV w b) al && mulOk (ceilV (mulV w b) al) al
def strV (w b al : Int) : Int := if strOk w b al then mulV (ceilV (mulV w b) al) al / 8 else 0

theorem strV_no {w b al : Int} (h : strOk w b al = false) : strV w b al = 0 := by simp [strV, h]

theorem strV_yes {w b al : Int} (h : strOk w b al = true) : strV w b al = mulV (ceilV (mulV w b) al) al / 8 := by simp [strV, h]

theorem strOk_1 {w al : Int} : strOk w 0 al = false := by simp [strOk]

theorem strOk_2 {w b al : Int} (h : (al.tmod 8 == 0) = false) : strOk w b al = false := by simp [strOk, h]

theorem strOk_3 {w b al : Int} (h : mulOk w b = false) : strOk w b al = false := by simp [strOk, h]

theorem strOk_4 {w b al : Int} (h : ceilOk (mulV w b) al = false) : strOk w b al = false := by simp [strOk, h]

theorem strOk_5 {w b al : Int} (h : mulOk (ceilV (mulV w b) al) al = false) : strOk w b al = false := by simp [strOk, h]

theorem strOk_6 {w b al : Int} (h1 : (b == 0) = false) (h2 : (al.tmod 8 == 0) = true) (h3 : mulOk w b = true) (h4 : ceilOk (mulV w b) al = true) (h5 : mulOk (ceilV (mulV w b) al) al = true) : strOk w b al = true := by
  simp [strOk, h1, h2, h3, h4, h5]

theorem mulV_bd (a b : Int) : 0 ≤ mulV a b ∧ mulV a b ≤ 4611686018427387904 := by
  unfold mulV
  cases h : mulOk a b
  · simp
  · simp only [if_true]
    have h' := h
    simp only [mulOk, Bool.and_eq_true, decide_eq_true_eq] at h'
    obtain ⟨⟨ha, hb⟩, hm⟩ := h'
    exact ⟨Int.mul_nonneg (isB_of ha).1 (isB_of hb).1, hm⟩

end Go.Proofs.YtmhghkgcfgacdaaGreat.Nu

/- The document's bytes of a row by the code's own terms, and layer 1's examples. -/
namespace Go.Proofs.YtmhghkgcfgacdaaGreat.Nu
open Go.ChangeShapes Go.WideShapes Go.ChangeAt Go.RowKit
set_option linter.unusedVariables false

theorem str_a {a b c : Int} (h : isB a = false) : strOk a b c = false := strOk_3 (mulOk_1 h)

theorem str_b {a b c : Int} (h : isB b = false) : strOk a b c = false := strOk_3 (mulOk_2 h)

theorem str_c {a b c : Int} (h : isB c = false) : strOk a b c = false := strOk_4 (ceilOk_2 h)

theorem str_z {a b : Int} : strOk a b 0 = false := strOk_4 (ceilOk_3 rfl)

theorem tm8 {c : Int} (h : 0 ≤ c) : c.tmod 8 = c % 8 := Int.tmod_eq_emod_of_nonneg h

theorem str_whole {a b c : Int} (hb : (b == 0) = false) (hc0 : 0 < c) (hc : isB c = true) (h8 : c % 8 = 0) (hm : mulOk a b = true) (hr : mulV a b % c = 0) :
    strOk a b c = true ∧ strV a b c = mulV a b / 8 := by
  obtain ⟨m0, m1⟩ := mulV_bd a b
  obtain ⟨c0, c1⟩ := isB_of hc
  have h4 : ceilOk (mulV a b) c = true := ceilOk_4 (isB_yes m0 m1) hc hc0
  have h4' := ceilV_at h4 (by omega)
  obtain ⟨q0, q1⟩ := quo_bd m0 m1 hc0
  have qm := quo_mul (a := mulV a b) (b := c)
  have h5 : mulOk (ceilV (mulV a b) c) c = true := by
    rw [h4']; exact mulOk_4 (isB_yes q0 q1) hc (by omega)
  have h := strOk_6 hb (by rw [tm8 c0]; simp [h8]) hm h4 h5
  refine ⟨h, ?_⟩
  rw [strV_yes h, mulV_yes h5, h4', qm, hr, Int.sub_zero]

theorem str_up {a b c : Int} (hb : (b == 0) = false) (hc0 : 0 < c) (hc : isB c = true) (h8 : c % 8 = 0) (hm : mulOk a b = true) (hr : 0 < mulV a b % c) :
    strOk a b c = addOk (mulV a b - mulV a b % c) c ∧ strV a b c = addV (mulV a b - mulV a b % c) c / 8 := by
  obtain ⟨m0, m1⟩ := mulV_bd a b
  obtain ⟨c0, c1⟩ := isB_of hc
  have h4 : ceilOk (mulV a b) c = true := ceilOk_4 (isB_yes m0 m1) hc hc0
  have h4' := ceilV_up h4 hr
  obtain ⟨q0, q1⟩ := quo_bd m0 m1 hc0
  have qm := quo_mul (a := mulV a b) (b := c)
  have rl : mulV a b % c ≤ mulV a b := by
    have := Int.mul_nonneg q0 c0; omega
  have hs : (mulV a b / c + 1) * c = mulV a b - mulV a b % c + c := by rw [Int.add_mul, qm]; omega
  have hx : isB (mulV a b - mulV a b % c) = true := isB_yes (by omega) (by omega)
  by_cases hT : mulV a b - mulV a b % c + c ≤ 4611686018427387904
  · have hq : mulV a b / c + 1 ≤ (mulV a b / c + 1) * c := by
      have := Int.mul_le_mul_of_nonneg_left (show 1 ≤ c by omega) (show 0 ≤ mulV a b / c + 1 by omega); omega
    have h5 : mulOk (ceilV (mulV a b) c) c = true := by
      rw [h4']; exact mulOk_4 (isB_yes (by omega) (by omega)) hc (by omega)
    have h := strOk_6 hb (by rw [tm8 c0]; simp [h8]) hm h4 h5
    have ha := addOk_4 hx hc hT
    refine ⟨by rw [h, ha], ?_⟩
    rw [strV_yes h, mulV_yes h5, h4', hs, addV_yes ha]
  · have h5 : mulOk (ceilV (mulV a b) c) c = false := by
      rw [h4']; exact mulOk_3 (by omega)
    have h := strOk_5 h5
    have ha : addOk (mulV a b - mulV a b % c) c = false := addOk_3 (by omega)
    refine ⟨by rw [h, ha], ?_⟩
    rw [strV_no h, addV_no ha]; rfl

theorem str_ex : strOk 3 24 32 = true ∧ strV 3 24 32 = 12 := by decide +kernel

theorem ceil_ex : ceilOk 7 2 = true ∧ ceilV 7 2 = 4 := by decide +kernel

theorem mul_ex : mulOk 1099511627776 1099511627776 = false := by decide +kernel

end Go.Proofs.YtmhghkgcfgacdaaGreat.Nu
