/- Contracts of package num and of the document's answers for layer 1: each call returns what plain functions on integers give, and leaves the world alone. -/
import Derived.Test.YtjdhlehpoclnjaaGreatRows
import Derived.WalkKit
import Derived.ProofKit
import Derived.OpenShut
import Derived.Outline
import Derived.Lib.Hide
import Derived.IntWalk
namespace Go.Proofs.YtjdhlehpoclnjaaGreat.Nu
open Go.ChangeShapes Go.WideShapes Go.ChangeAt Go.RowKit
set_option linter.unusedVariables false

/-- Is it a number: from 0 to 2^62? -/
def isB (n : Int) : Bool := decide (0 ≤ n) && decide (n ≤ 4611686018427387904)

theorem isB_yes {n : Int} (h0 : 0 ≤ n) (h1 : n ≤ 4611686018427387904) : isB n = true := by simp [isB, h0, h1]

theorem isB_no {n : Int} (h : n < 0 ∨ 4611686018427387904 < n) : isB n = false := by
  simp only [isB, Bool.and_eq_false_iff, decide_eq_false_iff_not]; omega

theorem is38 (n : Int) (w : World) : Calls Tryz.prog 135 #[.int .i64 n] w fun e w' => e = .returned (.bool (isB n)) ∧ w = w' := by
  by_cases h0 : 0 ≤ n
  · by_cases h1 : n ≤ 4611686018427387904
    · rw [isB_yes h0 h1]
      go_enter Tryz.func135, Tryz.ntmps135
      go_wp2
      go_ret
      exact ⟨rfl, rfl⟩
    · rw [isB_no (by omega)]
      have h2 : 4611686018427387904 < n := by omega
      go_enter Tryz.func135, Tryz.ntmps135
      go_wp2
      go_ret
      exact ⟨rfl, rfl⟩
  · rw [isB_no (by omega)]
    have h2 : n < 0 := by omega
    go_enter Tryz.func135, Tryz.ntmps135
    go_wp2
    go_ret
    exact ⟨rfl, rfl⟩

theorem isB_of {n : Int} (h : isB n = true) : 0 ≤ n ∧ n ≤ 4611686018427387904 := by
  simpa [isB] using h

/-- Is the sum told? -/
def addOk (a b : Int) : Bool := isB a && isB b && decide (a + b ≤ 4611686018427387904)
def addV (a b : Int) : Int := if addOk a b then a + b else 0

theorem addOk_1 {a b : Int} (h : isB a = false) : addOk a b = false := by simp [addOk, h]

theorem addOk_2 {a b : Int} (h : isB b = false) : addOk a b = false := by simp [addOk, h]

theorem addOk_3 {a b : Int} (h : 4611686018427387904 < a + b) : addOk a b = false := by simp [addOk]; intros; omega

theorem addOk_4 {a b : Int} (ha : isB a = true) (hb : isB b = true) (h : a + b ≤ 4611686018427387904) : addOk a b = true := by simp [addOk, ha, hb, h]

theorem addV_no {a b : Int} (h : addOk a b = false) : addV a b = 0 := by simp [addV, h]

theorem addV_yes {a b : Int} (h : addOk a b = true) : addV a b = a + b := by simp [addV, h]


/-- Is the product told? -/
def mulOk (a b : Int) : Bool := isB a && isB b && decide (a * b ≤ 4611686018427387904)
def mulV (a b : Int) : Int := if mulOk a b then a * b else 0

theorem mulOk_1 {a b : Int} (h : isB a = false) : mulOk a b = false := by simp [mulOk, h]

theorem mulOk_2 {a b : Int} (h : isB b = false) : mulOk a b = false := by simp [mulOk, h]

theorem mulOk_3 {a b : Int} (h : 4611686018427387904 < a * b) : mulOk a b = false := by simp [mulOk]; intros; omega

theorem mulOk_4 {a b : Int} (ha : isB a = true) (hb : isB b = true) (h : a * b ≤ 4611686018427387904) : mulOk a b = true := by simp [mulOk, ha, hb, h]

theorem mulV_no {a b : Int} (h : mulOk a b = false) : mulV a b = 0 := by simp [mulV, h]

theorem mulV_yes {a b : Int} (h : mulOk a b = true) : mulV a b = a * b := by simp [mulV, h]

theorem quo_le {a b : Int} (hb : 0 < b) (h : a * b ≤ 4611686018427387904) : a ≤ 4611686018427387904 / b := (Int.le_ediv_iff_mul_le hb).2 h

theorem quo_gt {a b : Int} (hb : 0 < b) (h : 4611686018427387904 < a * b) : 4611686018427387904 / b < a := by
  have := mt (Int.le_ediv_iff_mul_le (a := a) (b := 4611686018427387904) hb).1 (by omega); omega

theorem mul11 (a b : Int) (w : World) : Calls Tryz.prog 122 #[.int .i64 a, .int .i64 b] w fun e w' => e = .returned (.tuple #[.int .i64 (mulV a b), .bool (mulOk a b)]) ∧ w = w' := by
  cases ha : isB a
  · rw [mulV_no (mulOk_1 ha), mulOk_1 ha]
    go_enter Tryz.func122, Tryz.ntmps122
    go_wp2_with (go_at_call 135; refine (is38 _ _).mono ?_; rintro e w' ⟨rfl, rfl⟩)
    go_ret2
    exact ⟨rfl, rfl⟩
  · cases hb : isB b
    · rw [mulV_no (mulOk_2 hb), mulOk_2 hb]
      go_enter Tryz.func122, Tryz.ntmps122
      go_wp2_with (go_at_call 135; refine (is38 _ _).mono ?_; rintro e w' ⟨rfl, rfl⟩)
      go_ret2
      exact ⟨rfl, rfl⟩
    · obtain ⟨a0, a1⟩ := isB_of ha
      obtain ⟨b0, b1⟩ := isB_of hb
      have hab : 0 ≤ a * b := Int.mul_nonneg a0 b0
      by_cases hz : 0 < b
      · by_cases h : a * b ≤ 4611686018427387904
        · rw [mulV_yes (mulOk_4 ha hb h), mulOk_4 ha hb h]
          have h' := quo_le hz h
          go_enter Tryz.func122, Tryz.ntmps122
          go_wp2_with (go_at_call 135; refine (is38 _ _).mono ?_; rintro e w' ⟨rfl, rfl⟩)
          go_ret2
          exact ⟨rfl, rfl⟩
        · rw [mulV_no (mulOk_3 (by omega)), mulOk_3 (by omega)]
          have h' := quo_gt (a := a) hz (by omega)
          go_enter Tryz.func122, Tryz.ntmps122
          go_wp2_with (go_at_call 135; refine (is38 _ _).mono ?_; rintro e w' ⟨rfl, rfl⟩)
          go_ret2
          exact ⟨rfl, rfl⟩
      · obtain rfl : b = 0 := by omega
        rw [mulV_yes (mulOk_4 ha hb (by omega)), mulOk_4 ha hb (by omega)]
        go_enter Tryz.func122, Tryz.ntmps122
        go_wp2_with (go_at_call 135; refine (is38 _ _).mono ?_; rintro e w' ⟨rfl, rfl⟩)
        go_ret2
        exact ⟨by simp, rfl⟩

end Go.Proofs.YtjdhlehpoclnjaaGreat.Nu
