/- Package scale and the document's answers for layer 8: contracts. -/
import Derived.Test.YtafglaiclpdhnaaSca1
namespace Go.Proofs.Ytafglaiclpdhnaa.Sc
open Go.ChangeShapes Go.WideShapes Go.ChangeAt Go.RowKit
set_option linter.unusedVariables false

/-- May it be a greatest value? -/
def grB (m : Int) : Bool := decide (1 ≤ m) && decide (m ≤ 4294967295)
theorem grB_yes {m : Int} (h0 : 1 ≤ m) (h1 : m ≤ 4294967295) : grB m = true := by simp [grB, h0, h1]
theorem grB_no {m : Int} (h : m < 1 ∨ 4294967295 < m) : grB m = false := by
  simp only [grB, Bool.and_eq_false_iff, decide_eq_false_iff_not]; omega

theorem far_calls (v m x : Int) (w : World) (h1 : 1 ≤ m) (h2 : m ≤ 4294967295) (h3 : 0 ≤ v) (h4 : v ≤ m) (x0 : 0 ≤ x) (x1 : x ≤ 255) :
    Calls Try.prog 47 #[.int .i64 v, .int .i64 m, .int .i64 x] w fun e w' => e = .returned (.int .i64 (farV v m x)) ∧ w = w' := by
  have p0 : 0 ≤ x * m := Int.mul_nonneg x0 (by omega)
  have p1 : x * m ≤ 255 * m := Int.mul_le_mul_of_nonneg_right x1 (by omega)
  by_cases hn : v * 255 - x * m < 0
  · have e : farV v m x = -(v * 255 - x * m) := if_pos hn
    rw [e]
    clear e
    go_enter Try.func47, Try.ntmps47
    go_wp2
    go_ret
    exact ⟨rfl, rfl⟩
  · have e : farV v m x = v * 255 - x * m := if_neg hn
    rw [e]
    clear e
    go_enter Try.func47, Try.ntmps47
    go_wp2
    go_ret
    exact ⟨rfl, rfl⟩

set_option maxRecDepth 100000 in
theorem rmax_calls (v m : Int) (w : World) (h1 : 1 ≤ m) (h2 : m ≤ 4294967295) (h3 : 0 ≤ v) (h4 : v ≤ m) :
    Calls Try.prog 45 #[.int .i64 v, .int .i64 m] w fun e w' => e = .returned (.int .i64 (near v m)) ∧ w = w' := by
  have B1 := Lib.hid (best_1 (v := v) h1 h3)
  obtain ⟨N, hN⟩ : ∃ N, near v m = N := ⟨_, rfl⟩
  have HN := Lib.hid hN
  rw [hN]
  clear hN
  go_enter Try.func45, Try.ntmps45
  go_wp2
  go_loop [5, 6] (fun bv i => ∃ (x : Nat) (b : Int), 1 ≤ x ∧ x ≤ 256 ∧ i = .int .i64 (x : Int) ∧ bv = .int .i64 b ∧ best v m x = b) (fun _ i => 256 - (intOf i).toNat)
  case atStart => exact ⟨1, 0, by omega, by omega, rfl, rfl, B1.out⟩
  case round =>
    obtain ⟨x, b, x1, x2, rfl, rfl, hbest⟩ := hrel
    by_cases hlt : x < 256
    · obtain ⟨b0, b1⟩ := best_in h1 h3 (show (1 : Int) ≤ x by omega) (show (x : Int) ≤ 256 by omega)
      rw [hbest] at b0 b1
      obtain ⟨p, hp⟩ : ∃ p, farV v m x = p := ⟨_, rfl⟩
      obtain ⟨q, hq⟩ : ∃ q, farV v m b = q := ⟨_, rfl⟩
      have F1 := far_calls v m x w h1 h2 h3 h4 (by omega) (by omega)
      have F2 := far_calls v m b w h1 h2 h3 h4 b0 b1
      rw [hp] at F1
      rw [hq] at F2
      have G1 := Lib.hid F1
      have G2 := Lib.hid F2
      by_cases hb : (x : Int) ≤ near v m
      · obtain ⟨c1, c2⟩ := best_yes h1 hb
        rw [hbest, hp, hq] at c2
        have HC := Lib.hid c1
        clear F1 F2 hp hq c1 hb hbest
        go_wp2_with fail
        refine G1.out.mono ?_
        rintro e w' ⟨rfl, rfl⟩
        go_wp2_with fail
        refine G2.out.mono ?_
        rintro e w' ⟨rfl, rfl⟩
        go_wp2
        go_round
        case rel => exact ⟨x + 1, x, by omega, by omega, by go_num, rfl, HC.out⟩
        case measure => simp [intOf]; omega
      · obtain ⟨c1, c2⟩ := best_no h1 (show near v m < (x : Int) by omega)
        rw [hbest, hp, hq] at c2
        rw [hbest] at c1
        have c3 : q < p := by omega
        have HC := Lib.hid c1
        clear F1 F2 hp hq c1 c2 hb hbest
        go_wp2_with fail
        refine G1.out.mono ?_
        rintro e w' ⟨rfl, rfl⟩
        go_wp2_with fail
        refine G2.out.mono ?_
        rintro e w' ⟨rfl, rfl⟩
        go_wp2
        go_round
        case rel => exact ⟨x + 1, b, by omega, by omega, by go_num, rfl, HC.out⟩
        case measure => simp [intOf]; omega
    · have hx : (x : Int) = 256 := by omega
      obtain rfl : b = N := by rw [← hbest, hx, ← HN.out]; exact best_256 h1 h4
      clear hbest
      go_wp2
      go_ret
      exact ⟨rfl, rfl⟩

def pw (n : Nat) : Int := ((2 ^ n : Nat) : Int)
theorem pw_le {n : Nat} (h : n ≤ 32) : 1 ≤ pw n ∧ pw n ≤ 4294967296 := by
  have h1 : 2 ^ n ≤ 2 ^ 32 := Nat.pow_le_pow_right (by decide) h
  have h2 : 0 < 2 ^ n := Nat.pow_pos (by decide)
  have h3 : (2 : Nat) ^ 32 = 4294967296 := by decide
  unfold pw
  omega
theorem pw_succ (n : Nat) : pw (n + 1) = 2 * pw n := by unfold pw; rw [Nat.pow_succ]; omega
theorem pw_1 {n : Nat} (h : 1 ≤ n) : 2 ≤ pw n := by
  obtain ⟨k, rfl⟩ : ∃ k, n = k + 1 := ⟨n - 1, by omega⟩
  rw [pw_succ]
  have : 0 < 2 ^ k := Nat.pow_pos (by decide)
  unfold pw
  omega

theorem power_calls (n : Nat) (w : World) (hn : n ≤ 32) : Calls Try.prog 8 #[.int .i64 n] w fun e w' => e = .returned (.int .i64 (pw n)) ∧ w = w' := by
  go_enter Try.func8, Try.ntmps8
  go_wp2
  go_loop [3, 4] (fun v i => ∃ k : Nat, k ≤ n ∧ i = .int .i64 k ∧ v = .int .i64 (pw k)) (fun _ i => n - (intOf i).toNat)
  case atStart => exact ⟨0, Nat.zero_le _, rfl, rfl⟩
  case round =>
    obtain ⟨k, hk, rfl, rfl⟩ := hrel
    by_cases hlt : k < n
    · obtain ⟨b0, b1⟩ := pw_le (show k ≤ 32 by omega)
      have HS := Lib.hid (pw_succ k)
      obtain ⟨p, hp⟩ : ∃ p, pw k = p := ⟨_, rfl⟩
      simp only [hp] at b0 b1 HS ⊢
      clear hp
      go_wp2
      go_round
      case rel => exact ⟨k + 1, by omega, by go_num, by rw [HS.out]⟩
      case measure => simp [intOf]; omega
    · obtain rfl : k = n := by omega
      go_wp2
      go_ret
      exact ⟨rfl, rfl⟩

end Go.Proofs.Ytafglaiclpdhnaa.Sc
