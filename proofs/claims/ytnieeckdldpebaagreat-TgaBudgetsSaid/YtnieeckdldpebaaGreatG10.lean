/- Texts of one kind, one behind the other: Sca1, Sca2, RowsFold. -/
import Derived.IntWalk
import Derived.Lib.Hide
import Derived.LoopTactic
import Derived.OpenShut
import Derived.Outline
import Derived.ProofKit
import Derived.Test.YtnieeckdldpebaaGreatRows
import Derived.WalkKit
import Derived.Test.YtnieeckdldpebaaGreatG35
/- Layer 8, pure: the nearest of 256, as the code rounds and as the document's search finds it. -/
namespace Go.Proofs.YtnieeckdldpebaaGreat.Sc
open Go.ChangeShapes Go.WideShapes Go.ChangeAt Go.RowKit
set_option linter.unusedVariables false

/-- May a sample of a greatest value be? -/
def may (v m : Int) : Bool := decide (1 ≤ m) && decide (m ≤ 4294967295) && decide (0 ≤ v) && decide (v ≤ m)
theorem may_of {v m : Int} (h : may v m = true) : 1 ≤ m ∧ m ≤ 4294967295 ∧ 0 ≤ v ∧ v ≤ m := by
  simp only [may, Bool.and_eq_true, decide_eq_true_eq] at h; omega

/-- The nearest number. -/
def near (v m : Int) : Int := (2 * v * 255 + m) / (2 * m)

theorem near_lo {v m : Int} (hm : 1 ≤ m) : 2 * (m * near v m) ≤ 510 * v + m := by
  have h := Int.ediv_mul_le (2 * v * 255 + m) (show 2 * m ≠ 0 by omega)
  have e : (2 * v * 255 + m) / (2 * m) * (2 * m) = 2 * (m * near v m) := by unfold near; rw [Int.mul_comm, Int.mul_assoc]
  omega
theorem near_hi {v m : Int} (hm : 1 ≤ m) : 510 * v + m < 2 * (m * near v m) + 2 * m := by
  have h := Int.lt_ediv_add_one_mul_self (2 * v * 255 + m) (show 0 < 2 * m by omega)
  have e : ((2 * v * 255 + m) / (2 * m) + 1) * (2 * m) = 2 * (m * near v m) + 2 * m := by unfold near; rw [Int.add_mul, Int.one_mul, Int.mul_comm _ (2 * m), Int.mul_assoc]
  omega

/-- Of two numbers in order the products are. -/
theorem mul_le {m a b : Int} (hm : 1 ≤ m) (h : a ≤ b) : m * a ≤ m * b := Int.mul_le_mul_of_nonneg_left h (by omega)
theorem of_mul_lt {m a b : Int} (hm : 1 ≤ m) (h : m * a < m * b) : a < b := by
  rcases Int.lt_or_le a b with h1 | h1
  · exact h1
  · have := mul_le hm h1; omega

theorem near_0 {v m : Int} (hm : 1 ≤ m) (hv : 0 ≤ v) : 0 ≤ near v m := by
  have h := near_hi (v := v) hm
  have h2 : m * (-1) < m * near v m := by omega
  have := of_mul_lt hm h2
  omega
theorem near_255 {v m : Int} (hm : 1 ≤ m) (hv : v ≤ m) : near v m ≤ 255 := by
  have h := near_lo (v := v) hm
  have h2 : m * near v m < m * 256 := by omega
  have := of_mul_lt hm h2
  omega

/-- How far a number is from a sample. -/
def farV (v m x : Int) : Int := if v * 255 - x * m < 0 then -(v * 255 - x * m) else v * 255 - x * m

theorem far_below {v m x : Int} (hm : 1 ≤ m) (h : x ≤ near v m) : farV v m x ≤ farV v m (x - 1) := by
  have h1 := near_lo (v := v) hm
  have h2 := mul_le hm h
  have e1 : x * m = m * x := Int.mul_comm ..
  have e2 : (x - 1) * m = m * x - m := by rw [Int.sub_mul, Int.one_mul, e1]
  unfold farV
  rw [e1, e2]
  generalize m * x = P at *
  split <;> split <;> omega
theorem far_above {v m x : Int} (hm : 1 ≤ m) (h : near v m < x) : ¬ farV v m x ≤ farV v m (near v m) := by
  have h1 := near_lo (v := v) hm
  have h2 := near_hi (v := v) hm
  have h3 := mul_le hm (show near v m + 1 ≤ x by omega)
  have e0 : m * (near v m + 1) = m * near v m + m := by rw [Int.mul_add, Int.mul_one]
  have e1 : x * m = m * x := Int.mul_comm ..
  have e2 : near v m * m = m * near v m := Int.mul_comm ..
  unfold farV
  rw [e1, e2]
  rw [e0] at h3
  generalize m * x = P at *
  generalize m * near v m = Q at *
  split <;> split <;> omega

/-- The best number below x that the search has. -/
def best (v m x : Int) : Int := if near v m < x - 1 then near v m else x - 1
theorem best_yes {v m x : Int} (hm : 1 ≤ m) (h : x ≤ near v m) : best v m (x + 1) = x ∧ farV v m x ≤ farV v m (best v m x) := by
  unfold best
  rw [if_neg (by omega), if_neg (by omega)]
  exact ⟨by omega, far_below hm h⟩
theorem best_no {v m x : Int} (hm : 1 ≤ m) (h : near v m < x) : best v m (x + 1) = best v m x ∧ ¬ farV v m x ≤ farV v m (best v m x) := by
  have e1 : best v m (x + 1) = near v m := by unfold best; split <;> omega
  have e2 : best v m x = near v m := by unfold best; split <;> omega
  rw [e1, e2]
  exact ⟨rfl, far_above hm h⟩
theorem best_1 {v m : Int} (hm : 1 ≤ m) (hv : 0 ≤ v) : best v m 1 = 0 := by
  have := near_0 hm hv
  unfold best; split <;> omega
theorem best_256 {v m : Int} (hm : 1 ≤ m) (hv : v ≤ m) : best v m 256 = near v m := by
  have := near_255 hm hv
  unfold best; split <;> omega
theorem best_in {v m x : Int} (hm : 1 ≤ m) (hv : 0 ≤ v) (h1 : 1 ≤ x) (h2 : x ≤ 256) : 0 ≤ best v m x ∧ best v m x ≤ 255 := by
  have := near_0 hm hv
  unfold best; split <;> omega

end Go.Proofs.YtnieeckdldpebaaGreat.Sc

/- Package scale and the document's answers for layer 8: contracts. -/
namespace Go.Proofs.YtnieeckdldpebaaGreat.Sc
open Go.ChangeShapes Go.WideShapes Go.ChangeAt Go.RowKit
set_option linter.unusedVariables false

/-- May it be a greatest value? -/
def grB (m : Int) : Bool := decide (1 ≤ m) && decide (m ≤ 4294967295)
theorem grB_yes {m : Int} (h0 : 1 ≤ m) (h1 : m ≤ 4294967295) : grB m = true := by simp [grB, h0, h1]
theorem grB_no {m : Int} (h : m < 1 ∨ 4294967295 < m) : grB m = false := by
  simp only [grB, Bool.and_eq_false_iff, decide_eq_false_iff_not]; omega

theorem gr_calls (m : Int) (w : World) : Calls Tryz.prog 175 #[.int .i64 m] w fun e w' => e = .returned (.bool (grB m)) ∧ w = w' := by
  by_cases h0 : 1 ≤ m
  · by_cases h1 : m ≤ 4294967295
    · rw [grB_yes h0 h1]
      go_enter Tryz.func175, Tryz.ntmps175
      go_wp2
      go_ret
      exact ⟨rfl, rfl⟩
    · rw [grB_no (by omega)]
      have h2 : 4294967295 < m := by omega
      go_enter Tryz.func175, Tryz.ntmps175
      go_wp2
      go_ret
      exact ⟨rfl, rfl⟩
  · rw [grB_no (by omega)]
    have h2 : m < 1 := by omega
    go_enter Tryz.func175, Tryz.ntmps175
    go_wp2
    go_ret
    exact ⟨rfl, rfl⟩

theorem max_yes (v m : Int) (w : World) (h : may v m = true) : Calls Tryz.prog 177 #[.int .i64 v, .int .i64 m] w fun e w' => e = .returned (.tuple #[.int .u8 (near v m), .bool true]) ∧ w = w' := by
  obtain ⟨h1, h2, h3, h4⟩ := may_of h
  have K := gr_calls m w
  rw [grB_yes h1 h2] at K
  have K' := Lib.hid K
  have hT : (2 * v * 255 + m).tdiv (2 * m) = near v m := by unfold near; exact Int.tdiv_eq_ediv_of_nonneg (by omega)
  have q0 := near_0 (v := v) h1 h3
  have q1 := near_255 (v := v) h1 h4
  obtain ⟨q, hq⟩ : ∃ q, near v m = q := ⟨_, rfl⟩
  rw [hq] at hT q0 q1 ⊢
  clear K h hq
  go_enter Tryz.func177, Tryz.ntmps177
  go_wp2_with fail
  refine K'.out.mono ?_
  rintro e w' ⟨rfl, rfl⟩
  go_wp2
  go_ret2
  exact ⟨by go_num, rfl⟩

theorem far_calls (v m x : Int) (w : World) (h1 : 1 ≤ m) (h2 : m ≤ 4294967295) (h3 : 0 ≤ v) (h4 : v ≤ m) (x0 : 0 ≤ x) (x1 : x ≤ 255) :
    Calls Tryz.prog 157 #[.int .i64 v, .int .i64 m, .int .i64 x] w fun e w' => e = .returned (.int .i64 (farV v m x)) ∧ w = w' := by
  have p0 : 0 ≤ x * m := Int.mul_nonneg x0 (by omega)
  have p1 : x * m ≤ 255 * m := Int.mul_le_mul_of_nonneg_right x1 (by omega)
  by_cases hn : v * 255 - x * m < 0
  · have e : farV v m x = -(v * 255 - x * m) := if_pos hn
    rw [e]
    clear e
    go_enter Tryz.func157, Tryz.ntmps157
    go_wp2
    go_ret
    exact ⟨rfl, rfl⟩
  · have e : farV v m x = v * 255 - x * m := if_neg hn
    rw [e]
    clear e
    go_enter Tryz.func157, Tryz.ntmps157
    go_wp2
    go_ret
    exact ⟨rfl, rfl⟩

set_option maxRecDepth 100000 in
theorem rmax_calls (v m : Int) (w : World) (h1 : 1 ≤ m) (h2 : m ≤ 4294967295) (h3 : 0 ≤ v) (h4 : v ≤ m) :
    Calls Tryz.prog 134 #[.int .i64 v, .int .i64 m] w fun e w' => e = .returned (.int .i64 (near v m)) ∧ w = w' := by
  have B1 := Lib.hid (best_1 (v := v) h1 h3)
  obtain ⟨N, hN⟩ : ∃ N, near v m = N := ⟨_, rfl⟩
  have HN := Lib.hid hN
  rw [hN]
  clear hN
  go_enter Tryz.func134, Tryz.ntmps134
  go_wp2
  go_loop [5, 6] (fun bv i => ∃ (x : Nat) (b : Int), 1 ≤ x ∧ x ≤ 256 ∧ i = .int .i64 (x : Int) ∧ bv = .int .i64 b ∧ best v m x = b) (fun _ i => 256 - (intOf i).toNat)
  case atStart => exact ⟨1, 0, by omega, by omega, rfl, rfl, B1.out⟩
  case round =>
    obtain ⟨x, b, x1, x2, rfl, rfl, hbest⟩ := hrel
    by_cases hlt : x < 256
    · obtain ⟨b0, b1⟩ := best_in h1 h3 (show (1 : Int) ≤ x by omega) (show (x : Int) ≤ 256 by omega)
      rw [hbest] at b0 b1
      obtain ⟨p, hp⟩ : ∃ p, farV v m x = p := ⟨_, rfl⟩
      obtain ⟨q, hq⟩ : ∃ q, farV v m b = q := ⟨_, rfl⟩
      have F1 := far_calls v m x w h1 h2 h3 h4 (by omega) (by omega)
      have F2 := far_calls v m b w h1 h2 h3 h4 b0 b1
      rw [hp] at F1
      rw [hq] at F2
      have G1 := Lib.hid F1
      have G2 := Lib.hid F2
      by_cases hb : (x : Int) ≤ near v m
      · obtain ⟨c1, c2⟩ := best_yes h1 hb
        rw [hbest, hp, hq] at c2
        have HC := Lib.hid c1
        clear F1 F2 hp hq c1 hb hbest
        go_wp2_with fail
        refine G1.out.mono ?_
        rintro e w' ⟨rfl, rfl⟩
        go_wp2_with fail
        refine G2.out.mono ?_
        rintro e w' ⟨rfl, rfl⟩
        go_wp2
        go_round
        case rel => exact ⟨x + 1, x, by omega, by omega, by go_num, rfl, HC.out⟩
        case measure => simp [intOf]; omega
      · obtain ⟨c1, c2⟩ := best_no h1 (show near v m < (x : Int) by omega)
        rw [hbest, hp, hq] at c2
        rw [hbest] at c1
        have c3 : q < p := by omega
        have HC := Lib.hid c1
        clear F1 F2 hp hq c1 c2 hb hbest
        go_wp2_with fail
        refine G1.out.mono ?_
        rintro e w' ⟨rfl, rfl⟩
        go_wp2_with fail
        refine G2.out.mono ?_
        rintro e w' ⟨rfl, rfl⟩
        go_wp2
        go_round
        case rel => exact ⟨x + 1, b, by omega, by omega, by go_num, rfl, HC.out⟩
        case measure => simp [intOf]; omega
    · have hx : (x : Int) = 256 := by omega
      obtain rfl : b = N := by rw [← hbest, hx, ← HN.out]; exact best_256 h1 h4
      clear hbest
      go_wp2
      go_ret
      exact ⟨rfl, rfl⟩

def pw (n : Nat) : Int := ((2 ^ n : Nat) : Int)
set_option maxHeartbeats 4000000 in
/-- Of n bits it is that of the greatest value. -/
theorem bits_as (v : Int) (n : Nat) (q : Int) (o : Bool) (w : World) (n1 : 1 ≤ n) (n2 : n ≤ 32)
    (H : Calls Tryz.prog 177 #[.int .i64 v, .int .i64 (pw n - 1)] w fun e w' => e = .returned (.tuple #[.int .u8 q, .bool o]) ∧ w = w') :
    Calls Tryz.prog 173 #[.int .i64 v, .int .i64 n] w fun e w' => e = .returned (.tuple #[.int .u8 q, .bool o]) ∧ w = w' := by
  obtain rfl | rfl | rfl | rfl | rfl | rfl | rfl | rfl | rfl | rfl | rfl | rfl | rfl | rfl | rfl | rfl | rfl | rfl | rfl | rfl | rfl | rfl | rfl | rfl | rfl | rfl | rfl | rfl | rfl | rfl | rfl | rfl : n = 1 ∨ n = 2 ∨ n = 3 ∨ n = 4 ∨ n = 5 ∨ n = 6 ∨ n = 7 ∨ n = 8 ∨ n = 9 ∨ n = 10 ∨ n = 11 ∨ n = 12 ∨ n = 13 ∨ n = 14 ∨ n = 15 ∨ n = 16 ∨ n = 17 ∨ n = 18 ∨ n = 19 ∨ n = 20 ∨ n = 21 ∨ n = 22 ∨ n = 23 ∨ n = 24 ∨ n = 25 ∨ n = 26 ∨ n = 27 ∨ n = 28 ∨ n = 29 ∨ n = 30 ∨ n = 31 ∨ n = 32 := by omega
  · have hk : pw 1 - 1 = 1 := by decide
    rw [hk] at H
    have HH := Lib.hid H
    clear H hk
    go_enter Tryz.func173, Tryz.ntmps173
    go_wp2_with fail
    refine HH.out.mono ?_
    rintro e w' ⟨rfl, rfl⟩
    go_wp2
    go_ret2
    exact ⟨rfl, rfl⟩
  · have hk : pw 2 - 1 = 3 := by decide
    rw [hk] at H
    have HH := Lib.hid H
    clear H hk
    go_enter Tryz.func173, Tryz.ntmps173
    go_wp2_with fail
    refine HH.out.mono ?_
    rintro e w' ⟨rfl, rfl⟩
    go_wp2
    go_ret2
    exact ⟨rfl, rfl⟩
  · have hk : pw 3 - 1 = 7 := by decide
    rw [hk] at H
    have HH := Lib.hid H
    clear H hk
    go_enter Tryz.func173, Tryz.ntmps173
    go_wp2_with fail
    refine HH.out.mono ?_
    rintro e w' ⟨rfl, rfl⟩
    go_wp2
    go_ret2
    exact ⟨rfl, rfl⟩
  · have hk : pw 4 - 1 = 15 := by decide
    rw [hk] at H
    have HH := Lib.hid H
    clear H hk
    go_enter Tryz.func173, Tryz.ntmps173
    go_wp2_with fail
    refine HH.out.mono ?_
    rintro e w' ⟨rfl, rfl⟩
    go_wp2
    go_ret2
    exact ⟨rfl, rfl⟩
  · have hk : pw 5 - 1 = 31 := by decide
    rw [hk] at H
    have HH := Lib.hid H
    clear H hk
    go_enter Tryz.func173, Tryz.ntmps173
    go_wp2_with fail
    refine HH.out.mono ?_
    rintro e w' ⟨rfl, rfl⟩
    go_wp2
    go_ret2
    exact ⟨rfl, rfl⟩
  · have hk : pw 6 - 1 = 63 := by decide
    rw [hk] at H
    have HH := Lib.hid H
    clear H hk
    go_enter Tryz.func173, Tryz.ntmps173
    go_wp2_with fail
    refine HH.out.mono ?_
    rintro e w' ⟨rfl, rfl⟩
    go_wp2
    go_ret2
    exact ⟨rfl, rfl⟩
  · have hk : pw 7 - 1 = 127 := by decide
    rw [hk] at H
    have HH := Lib.hid H
    clear H hk
    go_enter Tryz.func173, Tryz.ntmps173
    go_wp2_with fail
    refine HH.out.mono ?_
    rintro e w' ⟨rfl, rfl⟩
    go_wp2
    go_ret2
    exact ⟨rfl, rfl⟩
  · have hk : pw 8 - 1 = 255 := by decide
    rw [hk] at H
    have HH := Lib.hid H
    clear H hk
    go_enter Tryz.func173, Tryz.ntmps173
    go_wp2_with fail
    refine HH.out.mono ?_
    rintro e w' ⟨rfl, rfl⟩
    go_wp2
    go_ret2
    exact ⟨rfl, rfl⟩
  · have hk : pw 9 - 1 = 511 := by decide
    rw [hk] at H
    have HH := Lib.hid H
    clear H hk
    go_enter Tryz.func173, Tryz.ntmps173
    go_wp2_with fail
    refine HH.out.mono ?_
    rintro e w' ⟨rfl, rfl⟩
    go_wp2
    go_ret2
    exact ⟨rfl, rfl⟩
  · have hk : pw 10 - 1 = 1023 := by decide
    rw [hk] at H
    have HH := Lib.hid H
    clear H hk
    go_enter Tryz.func173, Tryz.ntmps173
    go_wp2_with fail
    refine HH.out.mono ?_
    rintro e w' ⟨rfl, rfl⟩
    go_wp2
    go_ret2
    exact ⟨rfl, rfl⟩
  · have hk : pw 11 - 1 = 2047 := by decide
    rw [hk] at H
    have HH := Lib.hid H
    clear H hk
    go_enter Tryz.func173, Tryz.ntmps173
    go_wp2_with fail
    refine HH.out.mono ?_
    rintro e w' ⟨rfl, rfl⟩
    go_wp2
    go_ret2
    exact ⟨rfl, rfl⟩
  · have hk : pw 12 - 1 = 4095 := by decide
    rw [hk] at H
    have HH := Lib.hid H
    clear H hk
    go_enter Tryz.func173, Tryz.ntmps173
    go_wp2_with fail
    refine HH.out.mono ?_
    rintro e w' ⟨rfl, rfl⟩
    go_wp2
    go_ret2
    exact ⟨rfl, rfl⟩
  · have hk : pw 13 - 1 = 8191 := by decide
    rw [hk] at H
    have HH := Lib.hid H
    clear H hk
    go_enter Tryz.func173, Tryz.ntmps173
    go_wp2_with fail
    refine HH.out.mono ?_
    rintro e w' ⟨rfl, rfl⟩
    go_wp2
    go_ret2
    exact ⟨rfl, rfl⟩
  · have hk : pw 14 - 1 = 16383 := by decide
    rw [hk] at H
    have HH := Lib.hid H
    clear H hk
    go_enter Tryz.func173, Tryz.ntmps173
    go_wp2_with fail
    refine HH.out.mono ?_
    rintro e w' ⟨rfl, rfl⟩
    go_wp2
    go_ret2
    exact ⟨rfl, rfl⟩
  · have hk : pw 15 - 1 = 32767 := by decide
    rw [hk] at H
    have HH := Lib.hid H
    clear H hk
    go_enter Tryz.func173, Tryz.ntmps173
    go_wp2_with fail
    refine HH.out.mono ?_
    rintro e w' ⟨rfl, rfl⟩
    go_wp2
    go_ret2
    exact ⟨rfl, rfl⟩
  · have hk : pw 16 - 1 = 65535 := by decide
    rw [hk] at H
    have HH := Lib.hid H
    clear H hk
    go_enter Tryz.func173, Tryz.ntmps173
    go_wp2_with fail
    refine HH.out.mono ?_
    rintro e w' ⟨rfl, rfl⟩
    go_wp2
    go_ret2
    exact ⟨rfl, rfl⟩
  · have hk : pw 17 - 1 = 131071 := by decide
    rw [hk] at H
    have HH := Lib.hid H
    clear H hk
    go_enter Tryz.func173, Tryz.ntmps173
    go_wp2_with fail
    refine HH.out.mono ?_
    rintro e w' ⟨rfl, rfl⟩
    go_wp2
    go_ret2
    exact ⟨rfl, rfl⟩
  · have hk : pw 18 - 1 = 262143 := by decide
    rw [hk] at H
    have HH := Lib.hid H
    clear H hk
    go_enter Tryz.func173, Tryz.ntmps173
    go_wp2_with fail
    refine HH.out.mono ?_
    rintro e w' ⟨rfl, rfl⟩
    go_wp2
    go_ret2
    exact ⟨rfl, rfl⟩
  · have hk : pw 19 - 1 = 524287 := by decide
    rw [hk] at H
    have HH := Lib.hid H
    clear H hk
    go_enter Tryz.func173, Tryz.ntmps173
    go_wp2_with fail
    refine HH.out.mono ?_
    rintro e w' ⟨rfl, rfl⟩
    go_wp2
    go_ret2
    exact ⟨rfl, rfl⟩
  · have hk : pw 20 - 1 = 1048575 := by decide
    rw [hk] at H
    have HH := Lib.hid H
    clear H hk
    go_enter Tryz.func173, Tryz.ntmps173
    go_wp2_with fail
    refine HH.out.mono ?_
    rintro e w' ⟨rfl, rfl⟩
    go_wp2
    go_ret2
    exact ⟨rfl, rfl⟩
  · have hk : pw 21 - 1 = 2097151 := by decide
    rw [hk] at H
    have HH := Lib.hid H
    clear H hk
    go_enter Tryz.func173, Tryz.ntmps173
    go_wp2_with fail
    refine HH.out.mono ?_
    rintro e w' ⟨rfl, rfl⟩
    go_wp2
    go_ret2
    exact ⟨rfl, rfl⟩
  · have hk : pw 22 - 1 = 4194303 := by decide
    rw [hk] at H
    have HH := Lib.hid H
    clear H hk
    go_enter Tryz.func173, Tryz.ntmps173
    go_wp2_with fail
    refine HH.out.mono ?_
    rintro e w' ⟨rfl, rfl⟩
    go_wp2
    go_ret2
    exact ⟨rfl, rfl⟩
  · have hk : pw 23 - 1 = 8388607 := by decide
    rw [hk] at H
    have HH := Lib.hid H
    clear H hk
    go_enter Tryz.func173, Tryz.ntmps173
    go_wp2_with fail
    refine HH.out.mono ?_
    rintro e w' ⟨rfl, rfl⟩
    go_wp2
    go_ret2
    exact ⟨rfl, rfl⟩
  · have hk : pw 24 - 1 = 16777215 := by decide
    rw [hk] at H
    have HH := Lib.hid H
    clear H hk
    go_enter Tryz.func173, Tryz.ntmps173
    go_wp2_with fail
    refine HH.out.mono ?_
    rintro e w' ⟨rfl, rfl⟩
    go_wp2
    go_ret2
    exact ⟨rfl, rfl⟩
  · have hk : pw 25 - 1 = 33554431 := by decide
    rw [hk] at H
    have HH := Lib.hid H
    clear H hk
    go_enter Tryz.func173, Tryz.ntmps173
    go_wp2_with fail
    refine HH.out.mono ?_
    rintro e w' ⟨rfl, rfl⟩
    go_wp2
    go_ret2
    exact ⟨rfl, rfl⟩
  · have hk : pw 26 - 1 = 67108863 := by decide
    rw [hk] at H
    have HH := Lib.hid H
    clear H hk
    go_enter Tryz.func173, Tryz.ntmps173
    go_wp2_with fail
    refine HH.out.mono ?_
    rintro e w' ⟨rfl, rfl⟩
    go_wp2
    go_ret2
    exact ⟨rfl, rfl⟩
  · have hk : pw 27 - 1 = 134217727 := by decide
    rw [hk] at H
    have HH := Lib.hid H
    clear H hk
    go_enter Tryz.func173, Tryz.ntmps173
    go_wp2_with fail
    refine HH.out.mono ?_
    rintro e w' ⟨rfl, rfl⟩
    go_wp2
    go_ret2
    exact ⟨rfl, rfl⟩
  · have hk : pw 28 - 1 = 268435455 := by decide
    rw [hk] at H
    have HH := Lib.hid H
    clear H hk
    go_enter Tryz.func173, Tryz.ntmps173
    go_wp2_with fail
    refine HH.out.mono ?_
    rintro e w' ⟨rfl, rfl⟩
    go_wp2
    go_ret2
    exact ⟨rfl, rfl⟩
  · have hk : pw 29 - 1 = 536870911 := by decide
    rw [hk] at H
    have HH := Lib.hid H
    clear H hk
    go_enter Tryz.func173, Tryz.ntmps173
    go_wp2_with fail
    refine HH.out.mono ?_
    rintro e w' ⟨rfl, rfl⟩
    go_wp2
    go_ret2
    exact ⟨rfl, rfl⟩
  · have hk : pw 30 - 1 = 1073741823 := by decide
    rw [hk] at H
    have HH := Lib.hid H
    clear H hk
    go_enter Tryz.func173, Tryz.ntmps173
    go_wp2_with fail
    refine HH.out.mono ?_
    rintro e w' ⟨rfl, rfl⟩
    go_wp2
    go_ret2
    exact ⟨rfl, rfl⟩
  · have hk : pw 31 - 1 = 2147483647 := by decide
    rw [hk] at H
    have HH := Lib.hid H
    clear H hk
    go_enter Tryz.func173, Tryz.ntmps173
    go_wp2_with fail
    refine HH.out.mono ?_
    rintro e w' ⟨rfl, rfl⟩
    go_wp2
    go_ret2
    exact ⟨rfl, rfl⟩
  · have hk : pw 32 - 1 = 4294967295 := by decide
    rw [hk] at H
    have HH := Lib.hid H
    clear H hk
    go_enter Tryz.func173, Tryz.ntmps173
    go_wp2_with fail
    refine HH.out.mono ?_
    rintro e w' ⟨rfl, rfl⟩
    go_wp2
    go_ret2
    exact ⟨rfl, rfl⟩

theorem bits_yes (v : Int) (n : Nat) (w : World) (n1 : 1 ≤ n) (n2 : n ≤ 32) (h : may v (pw n - 1) = true) : Calls Tryz.prog 173 #[.int .i64 v, .int .i64 n] w fun e w' => e = .returned (.tuple #[.int .u8 (near v (pw n - 1)), .bool true]) ∧ w = w' :=
  bits_as v n _ true w n1 n2 (max_yes v _ w h)

end Go.Proofs.YtnieeckdldpebaaGreat.Sc

/- Sums and products from the left on: the code's fold, as a plain fold over a list of integers. -/
namespace Go.Proofs.YtnieeckdldpebaaGreat.Nu
open Go.ChangeShapes Go.WideShapes Go.ChangeAt Go.RowKit
set_option linter.unusedVariables false

def stepM (p : Int × Bool) (v : Int) : Int × Bool := if p.2 then (mulV p.1 v, mulOk p.1 v) else p
def allM (l : List Int) : Int × Bool := l.foldl stepM (1, true)

theorem foldM_no (l : List Int) : l.foldl stepM (0, false) = (0, false) := by
  induction l with
  | nil => rfl
  | cons v l ih => simpa [stepM] using ih

theorem take_succ (l : List Int) (k : Nat) (h : k < l.length) : l.take (k + 1) = l.take k ++ [l.getD k 0] := by
  rw [List.take_succ_eq_append_getElem h]; simp [List.getD, h]

theorem allM_succ (l : List Int) (k : Nat) (h : k < l.length) : allM (l.take (k + 1)) = stepM (allM (l.take k)) (l.getD k 0) := by
  rw [take_succ l k h]; simp [allM, List.foldl_append]
theorem allM_stop (l : List Int) (k : Nat) (h : allM (l.take k) = (0, false)) : allM l = (0, false) := by
  have : l = l.take k ++ l.drop k := (List.take_append_drop k l).symm
  rw [this]; unfold allM at *; rw [List.foldl_append, h]; exact foldM_no _

theorem foldM (b off len cap : Nat) (zs : List Int) (w : World) (hz : zs.length = len) (hbig : len ≤ 9223372036854775807) (hc : ∀ j, j < len → w.cell? ⟨b, off + j, none⟩ = some (.int .i64 (zs.getD j 0))) :
    Calls Tryz.prog 117 #[.func (.func 118) #[] #[], .int .i64 1, .slice (some ⟨b, off, none⟩) len cap] w fun e w' => e = .returned (.tuple #[.int .i64 (allM zs).1, .bool (allM zs).2]) ∧ w = w' := by
  have HZ := Lib.hid hz
  clear hz
  go_enter Tryz.func117, Tryz.ntmps117
  go_wp2
  go_loop [1, 14] (fun v i => ∃ k : Nat, k ≤ len ∧ i = .int .i64 k ∧ ∃ x : Int, allM (zs.take k) = (x, true) ∧ v = .int .i64 x) (fun _ i => len - (intOf i).toNat)
  case atStart => exact ⟨0, Nat.zero_le _, rfl, 1, rfl, rfl⟩
  case round =>
    obtain ⟨k, hk, rfl, x, hx, rfl⟩ := hrel
    by_cases hlt : k < len
    · have hcell := hc k hlt
      have hs := allM_succ zs k (by have := HZ.out; omega)
      rw [hx] at hs
      simp only [stepM, if_true] at hs
      obtain ⟨y, hy⟩ : ∃ y, zs.getD k 0 = y := ⟨_, rfl⟩
      rw [hy] at hs hcell
      clear hy
      have HS := Lib.hid hs
      have HX := Lib.hid hx
      clear hs hx hc
      cases ho : mulOk x y
      · have hv := mulV_no ho
        have hst := allM_stop zs (k + 1) (by rw [HS.out, ho, hv])
        have HST := Lib.hid hst
        have HV := Lib.hid hv
        clear hst hv
        go_wp2_with (go_at_call 118; refine (mul11 _ _ _).mono ?_; rintro e w' ⟨rfl, rfl⟩)
        go_ret2
        rw [HST.out]
        exact ⟨rfl, rfl⟩
      · go_wp2_with (go_at_call 118; refine (mul11 _ _ _).mono ?_; rintro e w' ⟨rfl, rfl⟩)
        go_round
        case rel => exact ⟨k + 1, by omega, by go_num, _, by rw [HS.out, ho], rfl⟩
        case measure => simp [intOf]; omega
    · have hx' : allM zs = (x, true) := by rw [← hx, List.take_of_length_le (by have := HZ.out; omega)]
      have HX := Lib.hid hx'
      clear hx' hx
      go_wp2
      go_ret2
      rw [HX.out]
      exact ⟨rfl, rfl⟩

theorem prod15 (b off len cap : Nat) (zs : List Int) (w : World) (hz : zs.length = len) (hbig : len ≤ 9223372036854775807) (hc : ∀ j, j < len → w.cell? ⟨b, off + j, none⟩ = some (.int .i64 (zs.getD j 0))) :
    Calls Tryz.prog 94 #[.slice (some ⟨b, off, none⟩) len cap] w fun e w' => e = .returned (.tuple #[.int .i64 (allM zs).1, .bool (allM zs).2]) ∧ w = w' := by
  have H := Lib.hid (foldM b off len cap zs w hz hbig hc)
  clear hz hc
  go_enter Tryz.func94, Tryz.ntmps94
  go_wp2_with (go_at_call 117; refine H.out.mono ?_; rintro e w' ⟨rfl, rfl⟩)
  go_ret2
  exact ⟨rfl, rfl⟩

end Go.Proofs.YtnieeckdldpebaaGreat.Nu
