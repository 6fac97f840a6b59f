/- Package scale and the document's answers for layer 8: contracts. -/
import Derived.Test.YtljbhahdaepecaaSca1
namespace Go.Proofs.Ytljbhahdaepecaa.Sc
open Go.ChangeShapes Go.WideShapes Go.ChangeAt Go.RowKit
set_option linter.unusedVariables false

/-- May it be a greatest value? -/
def grB (m : Int) : Bool := decide (1 ≤ m) && decide (m ≤ 4294967295)
theorem grB_yes {m : Int} (h0 : 1 ≤ m) (h1 : m ≤ 4294967295) : grB m = true := by simp [grB, h0, h1]
theorem grB_no {m : Int} (h : m < 1 ∨ 4294967295 < m) : grB m = false := by
  simp only [grB, Bool.and_eq_false_iff, decide_eq_false_iff_not]; omega

theorem gr_calls (m : Int) (w : World) : Calls Try.prog 70 #[.int .i64 m] w fun e w' => e = .returned (.bool (grB m)) ∧ w = w' := by
  by_cases h0 : 1 ≤ m
  · by_cases h1 : m ≤ 4294967295
    · rw [grB_yes h0 h1]
      go_enter Try.func70, Try.ntmps70
      go_wp2
      go_ret
      exact ⟨rfl, rfl⟩
    · rw [grB_no (by omega)]
      have h2 : 4294967295 < m := by omega
      go_enter Try.func70, Try.ntmps70
      go_wp2
      go_ret
      exact ⟨rfl, rfl⟩
  · rw [grB_no (by omega)]
    have h2 : m < 1 := by omega
    go_enter Try.func70, Try.ntmps70
    go_wp2
    go_ret
    exact ⟨rfl, rfl⟩

theorem max_no (v m : Int) (w : World) (h : may v m = false) : Calls Try.prog 64 #[.int .i64 v, .int .i64 m] w fun e w' => e = .returned (.tuple #[.int .u8 0, .bool false]) ∧ w = w' := by
  have h' : m < 1 ∨ 4294967295 < m ∨ v < 0 ∨ m < v := by
    simp only [may, Bool.and_eq_false_iff, decide_eq_false_iff_not] at h; omega
  clear h
  by_cases hg : m < 1 ∨ 4294967295 < m
  · have K := gr_calls m w
    rw [grB_no hg] at K
    have K' := Lib.hid K
    clear K h' hg
    go_enter Try.func64, Try.ntmps64
    go_wp2_with fail
    refine K'.out.mono ?_
    rintro e w' ⟨rfl, rfl⟩
    go_wp2
    go_ret2
    exact ⟨rfl, rfl⟩
  · have K := gr_calls m w
    rw [grB_yes (by omega) (by omega)] at K
    have K' := Lib.hid K
    by_cases hv : v < 0
    · clear K h' hg
      go_enter Try.func64, Try.ntmps64
      go_wp2_with fail
      refine K'.out.mono ?_
      rintro e w' ⟨rfl, rfl⟩
      go_wp2
      go_ret2
      exact ⟨rfl, rfl⟩
    · have hm : m < v := by omega
      clear K h' hg
      go_enter Try.func64, Try.ntmps64
      go_wp2_with fail
      refine K'.out.mono ?_
      rintro e w' ⟨rfl, rfl⟩
      go_wp2
      go_ret2
      exact ⟨rfl, rfl⟩

theorem max_yes (v m : Int) (w : World) (h : may v m = true) : Calls Try.prog 64 #[.int .i64 v, .int .i64 m] w fun e w' => e = .returned (.tuple #[.int .u8 (near v m), .bool true]) ∧ w = w' := by
  obtain ⟨h1, h2, h3, h4⟩ := may_of h
  have K := gr_calls m w
  rw [grB_yes h1 h2] at K
  have K' := Lib.hid K
  have hT : (2 * v * 255 + m).tdiv (2 * m) = near v m := by unfold near; exact Int.tdiv_eq_ediv_of_nonneg (by omega)
  have q0 := near_0 (v := v) h1 h3
  have q1 := near_255 (v := v) h1 h4
  obtain ⟨q, hq⟩ : ∃ q, near v m = q := ⟨_, rfl⟩
  rw [hq] at hT q0 q1 ⊢
  clear K h hq
  go_enter Try.func64, Try.ntmps64
  go_wp2_with fail
  refine K'.out.mono ?_
  rintro e w' ⟨rfl, rfl⟩
  go_wp2
  go_ret2
  exact ⟨by go_num, rfl⟩

theorem far_calls (v m x : Int) (w : World) (h1 : 1 ≤ m) (h2 : m ≤ 4294967295) (h3 : 0 ≤ v) (h4 : v ≤ m) (x0 : 0 ≤ x) (x1 : x ≤ 255) :
    Calls Try.prog 39 #[.int .i64 v, .int .i64 m, .int .i64 x] w fun e w' => e = .returned (.int .i64 (farV v m x)) ∧ w = w' := by
  have p0 : 0 ≤ x * m := Int.mul_nonneg x0 (by omega)
  have p1 : x * m ≤ 255 * m := Int.mul_le_mul_of_nonneg_right x1 (by omega)
  by_cases hn : v * 255 - x * m < 0
  · have e : farV v m x = -(v * 255 - x * m) := if_pos hn
    rw [e]
    clear e
    go_enter Try.func39, Try.ntmps39
    go_wp2
    go_ret
    exact ⟨rfl, rfl⟩
  · have e : farV v m x = v * 255 - x * m := if_neg hn
    rw [e]
    clear e
    go_enter Try.func39, Try.ntmps39
    go_wp2
    go_ret
    exact ⟨rfl, rfl⟩

set_option maxRecDepth 100000 in
theorem rmax_calls (v m : Int) (w : World) (h1 : 1 ≤ m) (h2 : m ≤ 4294967295) (h3 : 0 ≤ v) (h4 : v ≤ m) :
    Calls Try.prog 25 #[.int .i64 v, .int .i64 m] w fun e w' => e = .returned (.int .i64 (near v m)) ∧ w = w' := by
  have B1 := Lib.hid (best_1 (v := v) h1 h3)
  obtain ⟨N, hN⟩ : ∃ N, near v m = N := ⟨_, rfl⟩
  have HN := Lib.hid hN
  rw [hN]
  clear hN
  go_enter Try.func25, Try.ntmps25
  go_wp2
  go_loop [5, 6] (fun bv i => ∃ (x : Nat) (b : Int), 1 ≤ x ∧ x ≤ 256 ∧ i = .int .i64 (x : Int) ∧ bv = .int .i64 b ∧ best v m x = b) (fun _ i => 256 - (intOf i).toNat)
  case atStart => exact ⟨1, 0, by omega, by omega, rfl, rfl, B1.out⟩
  case round =>
    obtain ⟨x, b, x1, x2, rfl, rfl, hbest⟩ := hrel
    by_cases hlt : x < 256
    · obtain ⟨b0, b1⟩ := best_in h1 h3 (show (1 : Int) ≤ x by omega) (show (x : Int) ≤ 256 by omega)
      rw [hbest] at b0 b1
      obtain ⟨p, hp⟩ : ∃ p, farV v m x = p := ⟨_, rfl⟩
      obtain ⟨q, hq⟩ : ∃ q, farV v m b = q := ⟨_, rfl⟩
      have F1 := far_calls v m x w h1 h2 h3 h4 (by omega) (by omega)
      have F2 := far_calls v m b w h1 h2 h3 h4 b0 b1
      rw [hp] at F1
      rw [hq] at F2
      have G1 := Lib.hid F1
      have G2 := Lib.hid F2
      by_cases hb : (x : Int) ≤ near v m
      · obtain ⟨c1, c2⟩ := best_yes h1 hb
        rw [hbest, hp, hq] at c2
        have HC := Lib.hid c1
        clear F1 F2 hp hq c1 hb hbest
        go_wp2_with fail
        refine G1.out.mono ?_
        rintro e w' ⟨rfl, rfl⟩
        go_wp2_with fail
        refine G2.out.mono ?_
        rintro e w' ⟨rfl, rfl⟩
        go_wp2
        go_round
        case rel => exact ⟨x + 1, x, by omega, by omega, by go_num, rfl, HC.out⟩
        case measure => simp [intOf]; omega
      · obtain ⟨c1, c2⟩ := best_no h1 (show near v m < (x : Int) by omega)
        rw [hbest, hp, hq] at c2
        rw [hbest] at c1
        have c3 : q < p := by omega
        have HC := Lib.hid c1
        clear F1 F2 hp hq c1 c2 hb hbest
        go_wp2_with fail
        refine G1.out.mono ?_
        rintro e w' ⟨rfl, rfl⟩
        go_wp2_with fail
        refine G2.out.mono ?_
        rintro e w' ⟨rfl, rfl⟩
        go_wp2
        go_round
        case rel => exact ⟨x + 1, b, by omega, by omega, by go_num, rfl, HC.out⟩
        case measure => simp [intOf]; omega
    · have hx : (x : Int) = 256 := by omega
      obtain rfl : b = N := by rw [← hbest, hx, ← HN.out]; exact best_256 h1 h4
      clear hbest
      go_wp2
      go_ret
      exact ⟨rfl, rfl⟩

def pw (n : Nat) : Int := ((2 ^ n : Nat) : Int)
theorem pw_le {n : Nat} (h : n ≤ 32) : 1 ≤ pw n ∧ pw n ≤ 4294967296 := by
  have h1 : 2 ^ n ≤ 2 ^ 32 := Nat.pow_le_pow_right (by decide) h
  have h2 : 0 < 2 ^ n := Nat.pow_pos (by decide)
  have h3 : (2 : Nat) ^ 32 = 4294967296 := by decide
  unfold pw
  omega
theorem pw_succ (n : Nat) : pw (n + 1) = 2 * pw n := by unfold pw; rw [Nat.pow_succ]; omega
theorem pw_1 {n : Nat} (h : 1 ≤ n) : 2 ≤ pw n := by
  obtain ⟨k, rfl⟩ : ∃ k, n = k + 1 := ⟨n - 1, by omega⟩
  rw [pw_succ]
  have : 0 < 2 ^ k := Nat.pow_pos (by decide)
  unfold pw
  omega

theorem bits_bad (v n : Int) (w : World) (h : n < 1 ∨ 32 < n) : Calls Try.prog 56 #[.int .i64 v, .int .i64 n] w fun e w' => e = .returned (.tuple #[.int .u8 0, .bool false]) ∧ w = w' := by
  by_cases h1 : n < 1
  · clear h
    go_enter Try.func56, Try.ntmps56
    go_wp2
    go_ret2
    exact ⟨rfl, rfl⟩
  · have h2 : 32 < n := by omega
    clear h
    go_enter Try.func56, Try.ntmps56
    go_wp2
    go_ret2
    exact ⟨rfl, rfl⟩

set_option maxHeartbeats 4000000 in
/-- Of n bits it is that of the greatest value. -/
theorem bits_as (v : Int) (n : Nat) (q : Int) (o : Bool) (w : World) (n1 : 1 ≤ n) (n2 : n ≤ 32)
    (H : Calls Try.prog 64 #[.int .i64 v, .int .i64 (pw n - 1)] w fun e w' => e = .returned (.tuple #[.int .u8 q, .bool o]) ∧ w = w') :
    Calls Try.prog 56 #[.int .i64 v, .int .i64 n] w fun e w' => e = .returned (.tuple #[.int .u8 q, .bool o]) ∧ w = w' := by
  obtain rfl | rfl | rfl | rfl | rfl | rfl | rfl | rfl | rfl | rfl | rfl | rfl | rfl | rfl | rfl | rfl | rfl | rfl | rfl | rfl | rfl | rfl | rfl | rfl | rfl | rfl | rfl | rfl | rfl | rfl | rfl | rfl : n = 1 ∨ n = 2 ∨ n = 3 ∨ n = 4 ∨ n = 5 ∨ n = 6 ∨ n = 7 ∨ n = 8 ∨ n = 9 ∨ n = 10 ∨ n = 11 ∨ n = 12 ∨ n = 13 ∨ n = 14 ∨ n = 15 ∨ n = 16 ∨ n = 17 ∨ n = 18 ∨ n = 19 ∨ n = 20 ∨ n = 21 ∨ n = 22 ∨ n = 23 ∨ n = 24 ∨ n = 25 ∨ n = 26 ∨ n = 27 ∨ n = 28 ∨ n = 29 ∨ n = 30 ∨ n = 31 ∨ n = 32 := by omega
  · have hk : pw 1 - 1 = 1 := by decide
    rw [hk] at H
    have HH := Lib.hid H
    clear H hk
    go_enter Try.func56, Try.ntmps56
    go_wp2_with fail
    refine HH.out.mono ?_
    rintro e w' ⟨rfl, rfl⟩
    go_wp2
    go_ret2
    exact ⟨rfl, rfl⟩
  · have hk : pw 2 - 1 = 3 := by decide
    rw [hk] at H
    have HH := Lib.hid H
    clear H hk
    go_enter Try.func56, Try.ntmps56
    go_wp2_with fail
    refine HH.out.mono ?_
    rintro e w' ⟨rfl, rfl⟩
    go_wp2
    go_ret2
    exact ⟨rfl, rfl⟩
  · have hk : pw 3 - 1 = 7 := by decide
    rw [hk] at H
    have HH := Lib.hid H
    clear H hk
    go_enter Try.func56, Try.ntmps56
    go_wp2_with fail
    refine HH.out.mono ?_
    rintro e w' ⟨rfl, rfl⟩
    go_wp2
    go_ret2
    exact ⟨rfl, rfl⟩
  · have hk : pw 4 - 1 = 15 := by decide
    rw [hk] at H
    have HH := Lib.hid H
    clear H hk
    go_enter Try.func56, Try.ntmps56
    go_wp2_with fail
    refine HH.out.mono ?_
    rintro e w' ⟨rfl, rfl⟩
    go_wp2
    go_ret2
    exact ⟨rfl, rfl⟩
  · have hk : pw 5 - 1 = 31 := by decide
    rw [hk] at H
    have HH := Lib.hid H
    clear H hk
    go_enter Try.func56, Try.ntmps56
    go_wp2_with fail
    refine HH.out.mono ?_
    rintro e w' ⟨rfl, rfl⟩
    go_wp2
    go_ret2
    exact ⟨rfl, rfl⟩
  · have hk : pw 6 - 1 = 63 := by decide
    rw [hk] at H
    have HH := Lib.hid H
    clear H hk
    go_enter Try.func56, Try.ntmps56
    go_wp2_with fail
    refine HH.out.mono ?_
    rintro e w' ⟨rfl, rfl⟩
    go_wp2
    go_ret2
    exact ⟨rfl, rfl⟩
  · have hk : pw 7 - 1 = 127 := by decide
    rw [hk] at H
    have HH := Lib.hid H
    clear H hk
    go_enter Try.func56, Try.ntmps56
    go_wp2_with fail
    refine HH.out.mono ?_
    rintro e w' ⟨rfl, rfl⟩
    go_wp2
    go_ret2
    exact ⟨rfl, rfl⟩
  · have hk : pw 8 - 1 = 255 := by decide
    rw [hk] at H
    have HH := Lib.hid H
    clear H hk
    go_enter Try.func56, Try.ntmps56
    go_wp2_with fail
    refine HH.out.mono ?_
    rintro e w' ⟨rfl, rfl⟩
    go_wp2
    go_ret2
    exact ⟨rfl, rfl⟩
  · have hk : pw 9 - 1 = 511 := by decide
    rw [hk] at H
    have HH := Lib.hid H
    clear H hk
    go_enter Try.func56, Try.ntmps56
    go_wp2_with fail
    refine HH.out.mono ?_
    rintro e w' ⟨rfl, rfl⟩
    go_wp2
    go_ret2
    exact ⟨rfl, rfl⟩
  · have hk : pw 10 - 1 = 1023 := by decide
    rw [hk] at H
    have HH := Lib.hid H
    clear H hk
    go_enter Try.func56, Try.ntmps56
    go_wp2_with fail
    refine HH.out.mono ?_
    rintro e w' ⟨rfl, rfl⟩
    go_wp2
    go_ret2
    exact ⟨rfl, rfl⟩
  · have hk : pw 11 - 1 = 2047 := by decide
    rw [hk] at H
    have HH := Lib.hid H
    clear H hk
    go_enter Try.func56, Try.ntmps56
    go_wp2_with fail
    refine HH.out.mono ?_
    rintro e w' ⟨rfl, rfl⟩
    go_wp2
    go_ret2
    exact ⟨rfl, rfl⟩
  · have hk : pw 12 - 1 = 4095 := by decide
    rw [hk] at H
    have HH := Lib.hid H
    clear H hk
    go_enter Try.func56, Try.ntmps56
    go_wp2_with fail
    refine HH.out.mono ?_
    rintro e w' ⟨rfl, rfl⟩
    go_wp2
    go_ret2
    exact ⟨rfl, rfl⟩
  · have hk : pw 13 - 1 = 8191 := by decide
    rw [hk] at H
    have HH := Lib.hid H
    clear H hk
    go_enter Try.func56, Try.ntmps56
    go_wp2_with fail
    refine HH.out.mono ?_
    rintro e w' ⟨rfl, rfl⟩
    go_wp2
    go_ret2
    exact ⟨rfl, rfl⟩
  · have hk : pw 14 - 1 = 16383 := by decide
    rw [hk] at H
    have HH := Lib.hid H
    clear H hk
    go_enter Try.func56, Try.ntmps56
    go_wp2_with fail
    refine HH.out.mono ?_
    rintro e w' ⟨rfl, rfl⟩
    go_wp2
    go_ret2
    exact ⟨rfl, rfl⟩
  · have hk : pw 15 - 1 = 32767 := by decide
    rw [hk] at H
    have HH := Lib.hid H
    clear H hk
    go_enter Try.func56, Try.ntmps56
    go_wp2_with fail
    refine HH.out.mono ?_
    rintro e w' ⟨rfl, rfl⟩
    go_wp2
    go_ret2
    exact ⟨rfl, rfl⟩
  · have hk : pw 16 - 1 = 65535 := by decide
    rw [hk] at H
    have HH := Lib.hid H
    clear H hk
    go_enter Try.func56, Try.ntmps56
    go_wp2_with fail
    refine HH.out.mono ?_
    rintro e w' ⟨rfl, rfl⟩
    go_wp2
    go_ret2
    exact ⟨rfl, rfl⟩
  · have hk : pw 17 - 1 = 131071 := by decide
    rw [hk] at H
    have HH := Lib.hid H
    clear H hk
    go_enter Try.func56, Try.ntmps56
    go_wp2_with fail
    refine HH.out.mono ?_
    rintro e w' ⟨rfl, rfl⟩
    go_wp2
    go_ret2
    exact ⟨rfl, rfl⟩
  · have hk : pw 18 - 1 = 262143 := by decide
    rw [hk] at H
    have HH := Lib.hid H
    clear H hk
    go_enter Try.func56, Try.ntmps56
    go_wp2_with fail
    refine HH.out.mono ?_
    rintro e w' ⟨rfl, rfl⟩
    go_wp2
    go_ret2
    exact ⟨rfl, rfl⟩
  · have hk : pw 19 - 1 = 524287 := by decide
    rw [hk] at H
    have HH := Lib.hid H
    clear H hk
    go_enter Try.func56, Try.ntmps56
    go_wp2_with fail
    refine HH.out.mono ?_
    rintro e w' ⟨rfl, rfl⟩
    go_wp2
    go_ret2
    exact ⟨rfl, rfl⟩
  · have hk : pw 20 - 1 = 1048575 := by decide
    rw [hk] at H
    have HH := Lib.hid H
    clear H hk
    go_enter Try.func56, Try.ntmps56
    go_wp2_with fail
    refine HH.out.mono ?_
    rintro e w' ⟨rfl, rfl⟩
    go_wp2
    go_ret2
    exact ⟨rfl, rfl⟩
  · have hk : pw 21 - 1 = 2097151 := by decide
    rw [hk] at H
    have HH := Lib.hid H
    clear H hk
    go_enter Try.func56, Try.ntmps56
    go_wp2_with fail
    refine HH.out.mono ?_
    rintro e w' ⟨rfl, rfl⟩
    go_wp2
    go_ret2
    exact ⟨rfl, rfl⟩
  · have hk : pw 22 - 1 = 4194303 := by decide
    rw [hk] at H
    have HH := Lib.hid H
    clear H hk
    go_enter Try.func56, Try.ntmps56
    go_wp2_with fail
    refine HH.out.mono ?_
    rintro e w' ⟨rfl, rfl⟩
    go_wp2
    go_ret2
    exact ⟨rfl, rfl⟩
  · have hk : pw 23 - 1 = 8388607 := by decide
    rw [hk] at H
    have HH := Lib.hid H
    clear H hk
    go_enter Try.func56, Try.ntmps56
    go_wp2_with fail
    refine HH.out.mono ?_
    rintro e w' ⟨rfl, rfl⟩
    go_wp2
    go_ret2
    exact ⟨rfl, rfl⟩
  · have hk : pw 24 - 1 = 16777215 := by decide
    rw [hk] at H
    have HH := Lib.hid H
    clear H hk
    go_enter Try.func56, Try.ntmps56
    go_wp2_with fail
    refine HH.out.mono ?_
    rintro e w' ⟨rfl, rfl⟩
    go_wp2
    go_ret2
    exact ⟨rfl, rfl⟩
  · have hk : pw 25 - 1 = 33554431 := by decide
    rw [hk] at H
    have HH := Lib.hid H
    clear H hk
    go_enter Try.func56, Try.ntmps56
    go_wp2_with fail
    refine HH.out.mono ?_
    rintro e w' ⟨rfl, rfl⟩
    go_wp2
    go_ret2
    exact ⟨rfl, rfl⟩
  · have hk : pw 26 - 1 = 67108863 := by decide
    rw [hk] at H
    have HH := Lib.hid H
    clear H hk
    go_enter Try.func56, Try.ntmps56
    go_wp2_with fail
    refine HH.out.mono ?_
    rintro e w' ⟨rfl, rfl⟩
    go_wp2
    go_ret2
    exact ⟨rfl, rfl⟩
  · have hk : pw 27 - 1 = 134217727 := by decide
    rw [hk] at H
    have HH := Lib.hid H
    clear H hk
    go_enter Try.func56, Try.ntmps56
    go_wp2_with fail
    refine HH.out.mono ?_
    rintro e w' ⟨rfl, rfl⟩
    go_wp2
    go_ret2
    exact ⟨rfl, rfl⟩
  · have hk : pw 28 - 1 = 268435455 := by decide
    rw [hk] at H
    have HH := Lib.hid H
    clear H hk
    go_enter Try.func56, Try.ntmps56
    go_wp2_with fail
    refine HH.out.mono ?_
    rintro e w' ⟨rfl, rfl⟩
    go_wp2
    go_ret2
    exact ⟨rfl, rfl⟩
  · have hk : pw 29 - 1 = 536870911 := by decide
    rw [hk] at H
    have HH := Lib.hid H
    clear H hk
    go_enter Try.func56, Try.ntmps56
    go_wp2_with fail
    refine HH.out.mono ?_
    rintro e w' ⟨rfl, rfl⟩
    go_wp2
    go_ret2
    exact ⟨rfl, rfl⟩
  · have hk : pw 30 - 1 = 1073741823 := by decide
    rw [hk] at H
    have HH := Lib.hid H
    clear H hk
    go_enter Try.func56, Try.ntmps56
    go_wp2_with fail
    refine HH.out.mono ?_
    rintro e w' ⟨rfl, rfl⟩
    go_wp2
    go_ret2
    exact ⟨rfl, rfl⟩
  · have hk : pw 31 - 1 = 2147483647 := by decide
    rw [hk] at H
    have HH := Lib.hid H
    clear H hk
    go_enter Try.func56, Try.ntmps56
    go_wp2_with fail
    refine HH.out.mono ?_
    rintro e w' ⟨rfl, rfl⟩
    go_wp2
    go_ret2
    exact ⟨rfl, rfl⟩
  · have hk : pw 32 - 1 = 4294967295 := by decide
    rw [hk] at H
    have HH := Lib.hid H
    clear H hk
    go_enter Try.func56, Try.ntmps56
    go_wp2_with fail
    refine HH.out.mono ?_
    rintro e w' ⟨rfl, rfl⟩
    go_wp2
    go_ret2
    exact ⟨rfl, rfl⟩

theorem bits_no (v : Int) (n : Nat) (w : World) (n1 : 1 ≤ n) (n2 : n ≤ 32) (h : may v (pw n - 1) = false) : Calls Try.prog 56 #[.int .i64 v, .int .i64 n] w fun e w' => e = .returned (.tuple #[.int .u8 0, .bool false]) ∧ w = w' :=
  bits_as v n 0 false w n1 n2 (max_no v _ w h)
theorem bits_yes (v : Int) (n : Nat) (w : World) (n1 : 1 ≤ n) (n2 : n ≤ 32) (h : may v (pw n - 1) = true) : Calls Try.prog 56 #[.int .i64 v, .int .i64 n] w fun e w' => e = .returned (.tuple #[.int .u8 (near v (pw n - 1)), .bool true]) ∧ w = w' :=
  bits_as v n _ true w n1 n2 (max_yes v _ w h)

end Go.Proofs.Ytljbhahdaepecaa.Sc
