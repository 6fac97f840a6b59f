/- Texts of one kind, one behind the other: Sca1, Sca2, RowsFold. -/
import Derived.IntWalk
import Derived.Lib.Hide
import Derived.LoopTactic
import Derived.OpenShut
import Derived.Outline
import Derived.ProofKit
import Derived.Test.YtboojlkncbipoaaGreatRows
import Derived.WalkKit
import Derived.Test.YtboojlkncbipoaaGreatG16
/- Layer 8, pure: the nearest of 256, as the code rounds and as the document's search finds it. -/
namespace Go.Proofs.YtboojlkncbipoaaGreat.Sc
open Go.ChangeShapes Go.WideShapes Go.ChangeAt Go.RowKit
set_option linter.unusedVariables false

/-- May a sample of a greatest value be? -/
def may (v m : Int) : Bool := decide (1 ≤ m) && decide (m ≤ 4294967295) && decide (0 ≤ v) && decide (v ≤ m)
theorem may_yes {v m : Int} (h1 : 1 ≤ m) (h2 : m ≤ 4294967295) (h3 : 0 ≤ v) (h4 : v ≤ m) : may v m = true := by simp [may, h1, h2, h3, h4]
theorem may_no {v m : Int} (h : m < 1 ∨ 4294967295 < m ∨ v < 0 ∨ m < v) : may v m = false := by
  simp only [may, Bool.and_eq_false_iff, decide_eq_false_iff_not]; omega
theorem may_of {v m : Int} (h : may v m = true) : 1 ≤ m ∧ m ≤ 4294967295 ∧ 0 ≤ v ∧ v ≤ m := by
  simp only [may, Bool.and_eq_true, decide_eq_true_eq] at h; omega

/-- The nearest number. -/
def near (v m : Int) : Int := (2 * v * 255 + m) / (2 * m)

theorem near_lo {v m : Int} (hm : 1 ≤ m) : 2 * (m * near v m) ≤ 510 * v + m := by
  have h := Int.ediv_mul_le (2 * v * 255 + m) (show 2 * m ≠ 0 by omega)
  have e : (2 * v * 255 + m) / (2 * m) * (2 * m) = 2 * (m * near v m) := by unfold near; rw [Int.mul_comm, Int.mul_assoc]
  omega
theorem near_hi {v m : Int} (hm : 1 ≤ m) : 510 * v + m < 2 * (m * near v m) + 2 * m := by
  have h := Int.lt_ediv_add_one_mul_self (2 * v * 255 + m) (show 0 < 2 * m by omega)
  have e : ((2 * v * 255 + m) / (2 * m) + 1) * (2 * m) = 2 * (m * near v m) + 2 * m := by unfold near; rw [Int.add_mul, Int.one_mul, Int.mul_comm _ (2 * m), Int.mul_assoc]
  omega

/-- Of two numbers in order the products are. -/
theorem mul_le {m a b : Int} (hm : 1 ≤ m) (h : a ≤ b) : m * a ≤ m * b := Int.mul_le_mul_of_nonneg_left h (by omega)
theorem of_mul_lt {m a b : Int} (hm : 1 ≤ m) (h : m * a < m * b) : a < b := by
  rcases Int.lt_or_le a b with h1 | h1
  · exact h1
  · have := mul_le hm h1; omega

theorem near_0 {v m : Int} (hm : 1 ≤ m) (hv : 0 ≤ v) : 0 ≤ near v m := by
  have h := near_hi (v := v) hm
  have h2 : m * (-1) < m * near v m := by omega
  have := of_mul_lt hm h2
  omega
theorem near_255 {v m : Int} (hm : 1 ≤ m) (hv : v ≤ m) : near v m ≤ 255 := by
  have h := near_lo (v := v) hm
  have h2 : m * near v m < m * 256 := by omega
  have := of_mul_lt hm h2
  omega

/-- How far a number is from a sample. -/
def farV (v m x : Int) : Int := if v * 255 - x * m < 0 then -(v * 255 - x * m) else v * 255 - x * m

theorem far_below {v m x : Int} (hm : 1 ≤ m) (h : x ≤ near v m) : farV v m x ≤ farV v m (x - 1) := by
  have h1 := near_lo (v := v) hm
  have h2 := mul_le hm h
  have e1 : x * m = m * x := Int.mul_comm ..
  have e2 : (x - 1) * m = m * x - m := by rw [Int.sub_mul, Int.one_mul, e1]
  unfold farV
  rw [e1, e2]
  generalize m * x = P at *
  split <;> split <;> omega
theorem far_above {v m x : Int} (hm : 1 ≤ m) (h : near v m < x) : ¬ farV v m x ≤ farV v m (near v m) := by
  have h1 := near_lo (v := v) hm
  have h2 := near_hi (v := v) hm
  have h3 := mul_le hm (show near v m + 1 ≤ x by omega)
  have e0 : m * (near v m + 1) = m * near v m + m := by rw [Int.mul_add, Int.mul_one]
  have e1 : x * m = m * x := Int.mul_comm ..
  have e2 : near v m * m = m * near v m := Int.mul_comm ..
  unfold farV
  rw [e1, e2]
  rw [e0] at h3
  generalize m * x = P at *
  generalize m * near v m = Q at *
  split <;> split <;> omega

/-- The best number below x that the search has. -/
def best (v m x : Int) : Int := if near v m < x - 1 then near v m else x - 1
theorem best_yes {v m x : Int} (hm : 1 ≤ m) (h : x ≤ near v m) : best v m (x + 1) = x ∧ farV v m x ≤ farV v m (best v m x) := by
  unfold best
  rw [if_neg (by omega), if_neg (by omega)]
  exact ⟨by omega, far_below hm h⟩
theorem best_no {v m x : Int} (hm : 1 ≤ m) (h : near v m < x) : best v m (x + 1) = best v m x ∧ ¬ farV v m x ≤ farV v m (best v m x) := by
  have e1 : best v m (x + 1) = near v m := by unfold best; split <;> omega
  have e2 : best v m x = near v m := by unfold best; split <;> omega
  rw [e1, e2]
  exact ⟨rfl, far_above hm h⟩
theorem best_1 {v m : Int} (hm : 1 ≤ m) (hv : 0 ≤ v) : best v m 1 = 0 := by
  have := near_0 hm hv
  unfold best; split <;> omega
theorem best_256 {v m : Int} (hm : 1 ≤ m) (hv : v ≤ m) : best v m 256 = near v m := by
  have := near_255 hm hv
  unfold best; split <;> omega
theorem best_in {v m x : Int} (hm : 1 ≤ m) (hv : 0 ≤ v) (h1 : 1 ≤ x) (h2 : x ≤ 256) : 0 ≤ best v m x ∧ best v m x ≤ 255 := by
  have := near_0 hm hv
  unfold best; split <;> omega

/-- A greater sample is never less. -/
theorem near_mono {v w m : Int} (hm : 1 ≤ m) (h : v ≤ w) : near v m ≤ near w m := by
  unfold near
  exact Int.ediv_le_ediv (by omega) (by omega)
theorem near_zero {m : Int} (hm : 1 ≤ m) : near 0 m = 0 := by
  have h1 := near_lo (v := 0) hm
  have h2 := near_0 (v := 0) hm (by omega)
  have h3 : m * near 0 m < m * 1 := by omega
  have := of_mul_lt hm h3
  omega
theorem near_top {m : Int} (hm : 1 ≤ m) : near m m = 255 := by
  have h1 := near_255 hm (show m ≤ m by omega)
  have h2 := near_hi (v := m) hm
  have h3 : m * 254 < m * near m m := by omega
  have := of_mul_lt hm h3
  omega
theorem near_self {x : Int} (h0 : 0 ≤ x) (h1 : x ≤ 255) : near x 255 = x := by unfold near; omega

/-- The least sample that is no less. -/
def leastV (v m : Int) : Int := if v = 0 then 0 else ((2 * v - 1) * m + 509) / 510
theorem least_0 {v m : Int} (h0 : 0 ≤ v) (hm : 1 ≤ m) : 0 ≤ leastV v m := by
  unfold leastV
  split
  · omega
  · have : 0 ≤ (2 * v - 1) * m := Int.mul_nonneg (by omega) (by omega)
    exact Int.ediv_nonneg (by omega) (by omega)
theorem least_m {v m : Int} (h0 : 0 ≤ v) (h1 : v ≤ 255) (hm : 1 ≤ m) : leastV v m ≤ m := by
  unfold leastV
  split
  · omega
  · have : (2 * v - 1) * m ≤ 509 * m := Int.mul_le_mul_of_nonneg_right (by omega) (by omega)
    have : ((2 * v - 1) * m + 509) / 510 ≤ (509 * m + 509) / 510 := Int.ediv_le_ediv (by omega) (by omega)
    omega
theorem odd_mul (v m : Int) : (2 * v - 1) * m = 2 * (m * v) - m := by rw [Int.sub_mul, Int.one_mul, Int.mul_assoc, Int.mul_comm v m]
/-- From there on no sample is less, and ahead of it all are. -/
theorem least_from {v m x : Int} (h0 : 0 ≤ v) (hm : 1 ≤ m) (hx : 0 ≤ x) (h : leastV v m ≤ x) : v ≤ near x m := by
  by_cases hv : v = 0
  · have := near_0 (v := x) hm hx; omega
  · unfold leastV at h
    rw [if_neg hv, odd_mul] at h
    have h2 := near_hi (v := x) hm
    have h3 : m * (v - 1) < m * near x m := by
      have : m * (v - 1) = m * v - m := by rw [Int.mul_sub, Int.mul_one]
      omega
    have := of_mul_lt hm h3
    omega
theorem least_ahead {v m x : Int} (hm : 1 ≤ m) (hx : 0 ≤ x) (h : x < leastV v m) : near x m < v := by
  by_cases hv : v = 0
  · unfold leastV at h; rw [if_pos hv] at h; omega
  · unfold leastV at h
    rw [if_neg hv, odd_mul] at h
    have h2 := near_lo (v := x) hm
    exact of_mul_lt hm (by omega)
/-- Of a great greatest value each number is some sample's. -/
theorem least_is {v m : Int} (h0 : 0 ≤ v) (h1 : v ≤ 255) (hm : 255 ≤ m) : near (leastV v m) m = v := by
  have a := least_from (x := leastV v m) h0 (show 1 ≤ m by omega) (least_0 h0 (by omega)) (Int.le_refl _)
  by_cases hv : v = 0
  · subst hv
    have : leastV 0 m = 0 := by unfold leastV; rw [if_pos rfl]
    rw [this, near_zero (by omega)]
  · have h2 := near_lo (v := leastV v m) (m := m) (by omega)
    have h3 : m * near (leastV v m) m < m * (v + 1) := by
      have e : m * (v + 1) = m * v + m := by rw [Int.mul_add, Int.mul_one]
      have hl : leastV v m = ((2 * v - 1) * m + 509) / 510 := by unfold leastV; rw [if_neg hv]
      rw [odd_mul] at hl
      omega
    have := of_mul_lt (show 1 ≤ m by omega) h3
    omega
/-- Where the least that is no less isn't it, no sample is. -/
theorem least_none {v m x : Int} (h0 : 0 ≤ v) (hm : 1 ≤ m) (hx : 0 ≤ x) (h : near (leastV v m) m ≠ v) : near x m ≠ v := by
  have a := least_from (x := leastV v m) h0 hm (least_0 h0 hm) (Int.le_refl _)
  rcases Int.lt_or_le x (leastV v m) with h1 | h1
  · have := least_ahead hm hx h1; omega
  · have := near_mono hm h1; omega

end Go.Proofs.YtboojlkncbipoaaGreat.Sc

/- Package scale and the document's answers for layer 8: contracts. -/
namespace Go.Proofs.YtboojlkncbipoaaGreat.Sc
open Go.ChangeShapes Go.WideShapes Go.ChangeAt Go.RowKit
set_option linter.unusedVariables false

/-- May it be a greatest value? -/
def grB (m : Int) : Bool := decide (1 ≤ m) && decide (m ≤ 4294967295)
theorem grB_yes {m : Int} (h0 : 1 ≤ m) (h1 : m ≤ 4294967295) : grB m = true := by simp [grB, h0, h1]
theorem grB_no {m : Int} (h : m < 1 ∨ 4294967295 < m) : grB m = false := by
  simp only [grB, Bool.and_eq_false_iff, decide_eq_false_iff_not]; omega

theorem gr_calls (m : Int) (w : World) : Calls Tryz.prog 216 #[.int .i64 m] w fun e w' => e = .returned (.bool (grB m)) ∧ w = w' := by
  by_cases h0 : 1 ≤ m
  · by_cases h1 : m ≤ 4294967295
    · rw [grB_yes h0 h1]
      go_enter Tryz.func216, Tryz.ntmps216
      go_wp2
      go_ret
      exact ⟨rfl, rfl⟩
    · rw [grB_no (by omega)]
      have h2 : 4294967295 < m := by omega
      go_enter Tryz.func216, Tryz.ntmps216
      go_wp2
      go_ret
      exact ⟨rfl, rfl⟩
  · rw [grB_no (by omega)]
    have h2 : m < 1 := by omega
    go_enter Tryz.func216, Tryz.ntmps216
    go_wp2
    go_ret
    exact ⟨rfl, rfl⟩

theorem max_no (v m : Int) (w : World) (h : may v m = false) : Calls Tryz.prog 211 #[.int .i64 v, .int .i64 m] w fun e w' => e = .returned (.tuple #[.int .u8 0, .bool false]) ∧ w = w' := by
  have h' : m < 1 ∨ 4294967295 < m ∨ v < 0 ∨ m < v := by
    simp only [may, Bool.and_eq_false_iff, decide_eq_false_iff_not] at h; omega
  clear h
  by_cases hg : m < 1 ∨ 4294967295 < m
  · have K := gr_calls m w
    rw [grB_no hg] at K
    have K' := Lib.hid K
    clear K h' hg
    go_enter Tryz.func211, Tryz.ntmps211
    go_wp2_with fail
    refine K'.out.mono ?_
    rintro e w' ⟨rfl, rfl⟩
    go_wp2
    go_ret2
    exact ⟨rfl, rfl⟩
  · have K := gr_calls m w
    rw [grB_yes (by omega) (by omega)] at K
    have K' := Lib.hid K
    by_cases hv : v < 0
    · clear K h' hg
      go_enter Tryz.func211, Tryz.ntmps211
      go_wp2_with fail
      refine K'.out.mono ?_
      rintro e w' ⟨rfl, rfl⟩
      go_wp2
      go_ret2
      exact ⟨rfl, rfl⟩
    · have hm : m < v := by omega
      clear K h' hg
      go_enter Tryz.func211, Tryz.ntmps211
      go_wp2_with fail
      refine K'.out.mono ?_
      rintro e w' ⟨rfl, rfl⟩
      go_wp2
      go_ret2
      exact ⟨rfl, rfl⟩

theorem max_yes (v m : Int) (w : World) (h : may v m = true) : Calls Tryz.prog 211 #[.int .i64 v, .int .i64 m] w fun e w' => e = .returned (.tuple #[.int .u8 (near v m), .bool true]) ∧ w = w' := by
  obtain ⟨h1, h2, h3, h4⟩ := may_of h
  have K := gr_calls m w
  rw [grB_yes h1 h2] at K
  have K' := Lib.hid K
  have hT : (2 * v * 255 + m).tdiv (2 * m) = near v m := by unfold near; exact Int.tdiv_eq_ediv_of_nonneg (by omega)
  have q0 := near_0 (v := v) h1 h3
  have q1 := near_255 (v := v) h1 h4
  obtain ⟨q, hq⟩ : ∃ q, near v m = q := ⟨_, rfl⟩
  rw [hq] at hT q0 q1 ⊢
  clear K h hq
  go_enter Tryz.func211, Tryz.ntmps211
  go_wp2_with fail
  refine K'.out.mono ?_
  rintro e w' ⟨rfl, rfl⟩
  go_wp2
  go_ret2
  exact ⟨by go_num, rfl⟩

theorem far_calls (v m x : Int) (w : World) (h1 : 1 ≤ m) (h2 : m ≤ 4294967295) (h3 : 0 ≤ v) (h4 : v ≤ m) (x0 : 0 ≤ x) (x1 : x ≤ 255) :
    Calls Tryz.prog 118 #[.int .i64 v, .int .i64 m, .int .i64 x] w fun e w' => e = .returned (.int .i64 (farV v m x)) ∧ w = w' := by
  have p0 : 0 ≤ x * m := Int.mul_nonneg x0 (by omega)
  have p1 : x * m ≤ 255 * m := Int.mul_le_mul_of_nonneg_right x1 (by omega)
  by_cases hn : v * 255 - x * m < 0
  · have e : farV v m x = -(v * 255 - x * m) := if_pos hn
    rw [e]
    clear e
    go_enter Tryz.func118, Tryz.ntmps118
    go_wp2
    go_ret
    exact ⟨rfl, rfl⟩
  · have e : farV v m x = v * 255 - x * m := if_neg hn
    rw [e]
    clear e
    go_enter Tryz.func118, Tryz.ntmps118
    go_wp2
    go_ret
    exact ⟨rfl, rfl⟩

set_option maxRecDepth 100000 in
theorem rmax_calls (v m : Int) (w : World) (h1 : 1 ≤ m) (h2 : m ≤ 4294967295) (h3 : 0 ≤ v) (h4 : v ≤ m) :
    Calls Tryz.prog 75 #[.int .i64 v, .int .i64 m] w fun e w' => e = .returned (.int .i64 (near v m)) ∧ w = w' := by
  have B1 := Lib.hid (best_1 (v := v) h1 h3)
  obtain ⟨N, hN⟩ : ∃ N, near v m = N := ⟨_, rfl⟩
  have HN := Lib.hid hN
  rw [hN]
  clear hN
  go_enter Tryz.func75, Tryz.ntmps75
  go_wp2
  go_loop [5, 6] (fun bv i => ∃ (x : Nat) (b : Int), 1 ≤ x ∧ x ≤ 256 ∧ i = .int .i64 (x : Int) ∧ bv = .int .i64 b ∧ best v m x = b) (fun _ i => 256 - (intOf i).toNat)
  case atStart => exact ⟨1, 0, by omega, by omega, rfl, rfl, B1.out⟩
  case round =>
    obtain ⟨x, b, x1, x2, rfl, rfl, hbest⟩ := hrel
    by_cases hlt : x < 256
    · obtain ⟨b0, b1⟩ := best_in h1 h3 (show (1 : Int) ≤ x by omega) (show (x : Int) ≤ 256 by omega)
      rw [hbest] at b0 b1
      obtain ⟨p, hp⟩ : ∃ p, farV v m x = p := ⟨_, rfl⟩
      obtain ⟨q, hq⟩ : ∃ q, farV v m b = q := ⟨_, rfl⟩
      have F1 := far_calls v m x w h1 h2 h3 h4 (by omega) (by omega)
      have F2 := far_calls v m b w h1 h2 h3 h4 b0 b1
      rw [hp] at F1
      rw [hq] at F2
      have G1 := Lib.hid F1
      have G2 := Lib.hid F2
      by_cases hb : (x : Int) ≤ near v m
      · obtain ⟨c1, c2⟩ := best_yes h1 hb
        rw [hbest, hp, hq] at c2
        have HC := Lib.hid c1
        clear F1 F2 hp hq c1 hb hbest
        go_wp2_with fail
        refine G1.out.mono ?_
        rintro e w' ⟨rfl, rfl⟩
        go_wp2_with fail
        refine G2.out.mono ?_
        rintro e w' ⟨rfl, rfl⟩
        go_wp2
        go_round
        case rel => exact ⟨x + 1, x, by omega, by omega, by go_num, rfl, HC.out⟩
        case measure => simp [intOf]; omega
      · obtain ⟨c1, c2⟩ := best_no h1 (show near v m < (x : Int) by omega)
        rw [hbest, hp, hq] at c2
        rw [hbest] at c1
        have c3 : q < p := by omega
        have HC := Lib.hid c1
        clear F1 F2 hp hq c1 c2 hb hbest
        go_wp2_with fail
        refine G1.out.mono ?_
        rintro e w' ⟨rfl, rfl⟩
        go_wp2_with fail
        refine G2.out.mono ?_
        rintro e w' ⟨rfl, rfl⟩
        go_wp2
        go_round
        case rel => exact ⟨x + 1, b, by omega, by omega, by go_num, rfl, HC.out⟩
        case measure => simp [intOf]; omega
    · have hx : (x : Int) = 256 := by omega
      obtain rfl : b = N := by rw [← hbest, hx, ← HN.out]; exact best_256 h1 h4
      clear hbest
      go_wp2
      go_ret
      exact ⟨rfl, rfl⟩

def pw (n : Nat) : Int := ((2 ^ n : Nat) : Int)
theorem pw_le {n : Nat} (h : n ≤ 32) : 1 ≤ pw n ∧ pw n ≤ 4294967296 := by
  have h1 : 2 ^ n ≤ 2 ^ 32 := Nat.pow_le_pow_right (by decide) h
  have h2 : 0 < 2 ^ n := Nat.pow_pos (by decide)
  have h3 : (2 : Nat) ^ 32 = 4294967296 := by decide
  unfold pw
  omega
theorem pw_succ (n : Nat) : pw (n + 1) = 2 * pw n := by unfold pw; rw [Nat.pow_succ]; omega
theorem pw_1 {n : Nat} (h : 1 ≤ n) : 2 ≤ pw n := by
  obtain ⟨k, rfl⟩ : ∃ k, n = k + 1 := ⟨n - 1, by omega⟩
  rw [pw_succ]
  have : 0 < 2 ^ k := Nat.pow_pos (by decide)
  unfold pw
  omega

theorem power_calls (n : Nat) (w : World) (hn : n ≤ 32) : Calls Tryz.prog 131 #[.int .i64 n] w fun e w' => e = .returned (.int .i64 (pw n)) ∧ w = w' := by
  go_enter Tryz.func131, Tryz.ntmps131
  go_wp2
  go_loop [3, 4] (fun v i => ∃ k : Nat, k ≤ n ∧ i = .int .i64 k ∧ v = .int .i64 (pw k)) (fun _ i => n - (intOf i).toNat)
  case atStart => exact ⟨0, Nat.zero_le _, rfl, rfl⟩
  case round =>
    obtain ⟨k, hk, rfl, rfl⟩ := hrel
    by_cases hlt : k < n
    · obtain ⟨b0, b1⟩ := pw_le (show k ≤ 32 by omega)
      have HS := Lib.hid (pw_succ k)
      obtain ⟨p, hp⟩ : ∃ p, pw k = p := ⟨_, rfl⟩
      simp only [hp] at b0 b1 HS ⊢
      clear hp
      go_wp2
      go_round
      case rel => exact ⟨k + 1, by omega, by go_num, by rw [HS.out]⟩
      case measure => simp [intOf]; omega
    · obtain rfl : k = n := by omega
      go_wp2
      go_ret
      exact ⟨rfl, rfl⟩

end Go.Proofs.YtboojlkncbipoaaGreat.Sc

/- Sums and products from the left on: the code's fold, as a plain fold over a list of integers. -/
namespace Go.Proofs.YtboojlkncbipoaaGreat.Nu
open Go.ChangeShapes Go.WideShapes Go.ChangeAt Go.RowKit
set_option linter.unusedVariables false

def stepA (p : Int × Bool) (v : Int) : Int × Bool := if p.2 then (addV p.1 v, addOk p.1 v) else p
def stepM (p : Int × Bool) (v : Int) : Int × Bool := if p.2 then (mulV p.1 v, mulOk p.1 v) else p
def allA (l : List Int) : Int × Bool := l.foldl stepA (0, true)
def allM (l : List Int) : Int × Bool := l.foldl stepM (1, true)

theorem foldA_no (l : List Int) : l.foldl stepA (0, false) = (0, false) := by
  induction l with
  | nil => rfl
  | cons v l ih => simpa [stepA] using ih

theorem foldM_no (l : List Int) : l.foldl stepM (0, false) = (0, false) := by
  induction l with
  | nil => rfl
  | cons v l ih => simpa [stepM] using ih

theorem take_succ (l : List Int) (k : Nat) (h : k < l.length) : l.take (k + 1) = l.take k ++ [l.getD k 0] := by
  rw [List.take_succ_eq_append_getElem h]; simp [List.getD, h]

theorem allA_succ (l : List Int) (k : Nat) (h : k < l.length) : allA (l.take (k + 1)) = stepA (allA (l.take k)) (l.getD k 0) := by
  rw [take_succ l k h]; simp [allA, List.foldl_append]

theorem allM_succ (l : List Int) (k : Nat) (h : k < l.length) : allM (l.take (k + 1)) = stepM (allM (l.take k)) (l.getD k 0) := by
  rw [take_succ l k h]; simp [allM, List.foldl_append]
/-- What is not told on the way is not told at the end. -/
theorem allA_stop (l : List Int) (k : Nat) (h : allA (l.take k) = (0, false)) : allA l = (0, false) := by
  have : l = l.take k ++ l.drop k := (List.take_append_drop k l).symm
  rw [this]; unfold allA at *; rw [List.foldl_append, h]; exact foldA_no _

theorem allM_stop (l : List Int) (k : Nat) (h : allM (l.take k) = (0, false)) : allM l = (0, false) := by
  have : l = l.take k ++ l.drop k := (List.take_append_drop k l).symm
  rw [this]; unfold allM at *; rw [List.foldl_append, h]; exact foldM_no _

theorem foldM (b off len cap : Nat) (zs : List Int) (w : World) (hz : zs.length = len) (hbig : len ≤ 9223372036854775807) (hc : ∀ j, j < len → w.cell? ⟨b, off + j, none⟩ = some (.int .i64 (zs.getD j 0))) :
    Calls Tryz.prog 184 #[.func (.func 177) #[] #[], .int .i64 1, .slice (some ⟨b, off, none⟩) len cap] w fun e w' => e = .returned (.tuple #[.int .i64 (allM zs).1, .bool (allM zs).2]) ∧ w = w' := by
  have HZ := Lib.hid hz
  clear hz
  go_enter Tryz.func184, Tryz.ntmps184
  go_wp2
  go_loop [1, 14] (fun v i => ∃ k : Nat, k ≤ len ∧ i = .int .i64 k ∧ ∃ x : Int, allM (zs.take k) = (x, true) ∧ v = .int .i64 x) (fun _ i => len - (intOf i).toNat)
  case atStart => exact ⟨0, Nat.zero_le _, rfl, 1, rfl, rfl⟩
  case round =>
    obtain ⟨k, hk, rfl, x, hx, rfl⟩ := hrel
    by_cases hlt : k < len
    · have hcell := hc k hlt
      have hs := allM_succ zs k (by have := HZ.out; omega)
      rw [hx] at hs
      simp only [stepM, if_true] at hs
      obtain ⟨y, hy⟩ : ∃ y, zs.getD k 0 = y := ⟨_, rfl⟩
      rw [hy] at hs hcell
      clear hy
      have HS := Lib.hid hs
      have HX := Lib.hid hx
      clear hs hx hc
      cases ho : mulOk x y
      · have hv := mulV_no ho
        have hst := allM_stop zs (k + 1) (by rw [HS.out, ho, hv])
        have HST := Lib.hid hst
        have HV := Lib.hid hv
        clear hst hv
        go_wp2_with (go_at_call 177; refine (mul11 _ _ _).mono ?_; rintro e w' ⟨rfl, rfl⟩)
        go_ret2
        rw [HST.out]
        exact ⟨rfl, rfl⟩
      · go_wp2_with (go_at_call 177; refine (mul11 _ _ _).mono ?_; rintro e w' ⟨rfl, rfl⟩)
        go_round
        case rel => exact ⟨k + 1, by omega, by go_num, _, by rw [HS.out, ho], rfl⟩
        case measure => simp [intOf]; omega
    · have hx' : allM zs = (x, true) := by rw [← hx, List.take_of_length_le (by have := HZ.out; omega)]
      have HX := Lib.hid hx'
      clear hx' hx
      go_wp2
      go_ret2
      rw [HX.out]
      exact ⟨rfl, rfl⟩

theorem foldM_e (a : Option Addr) (cap : Nat) (w : World) :
    Calls Tryz.prog 184 #[.func (.func 177) #[] #[], .int .i64 1, .slice a 0 cap] w fun e w' => e = .returned (.tuple #[.int .i64 1, .bool true]) ∧ w = w' := by
  go_enter Tryz.func184, Tryz.ntmps184
  go_wp2
  refine wp_loop_rounds 1 ?_
  rw [rounds_succ]
  go_wp2
  go_ret2
  exact ⟨rfl, rfl⟩

theorem prod15 (b off len cap : Nat) (zs : List Int) (w : World) (hz : zs.length = len) (hbig : len ≤ 9223372036854775807) (hc : ∀ j, j < len → w.cell? ⟨b, off + j, none⟩ = some (.int .i64 (zs.getD j 0))) :
    Calls Tryz.prog 144 #[.slice (some ⟨b, off, none⟩) len cap] w fun e w' => e = .returned (.tuple #[.int .i64 (allM zs).1, .bool (allM zs).2]) ∧ w = w' := by
  have H := Lib.hid (foldM b off len cap zs w hz hbig hc)
  clear hz hc
  go_enter Tryz.func144, Tryz.ntmps144
  go_wp2_with (go_at_call 184; refine H.out.mono ?_; rintro e w' ⟨rfl, rfl⟩)
  go_ret2
  exact ⟨rfl, rfl⟩

theorem prod15_e (a : Option Addr) (cap : Nat) (w : World) :
    Calls Tryz.prog 144 #[.slice a 0 cap] w fun e w' => e = .returned (.tuple #[.int .i64 1, .bool true]) ∧ w = w' := by
  go_enter Tryz.func144, Tryz.ntmps144
  go_wp2_with (go_at_call 184; refine (foldM_e _ _ _).mono ?_; rintro e w' ⟨rfl, rfl⟩)
  go_ret2
  exact ⟨rfl, rfl⟩

end Go.Proofs.YtboojlkncbipoaaGreat.Nu
