/- Package scale and the document's answers for layer 8: contracts. -/
import Derived.Test.YtgggdieedblpjaaDoorSca1
namespace Go.Proofs.YtgggdieedblpjaaDoor.Sc
open Go.ChangeShapes Go.WideShapes Go.ChangeAt Go.RowKit
set_option linter.unusedVariables false

/-- May it be a greatest value? -/
def grB (m : Int) : Bool := decide (1 ≤ m) && decide (m ≤ 4294967295)
theorem grB_yes {m : Int} (h0 : 1 ≤ m) (h1 : m ≤ 4294967295) : grB m = true := by simp [grB, h0, h1]
theorem grB_no {m : Int} (h : m < 1 ∨ 4294967295 < m) : grB m = false := by
  simp only [grB, Bool.and_eq_false_iff, decide_eq_false_iff_not]; omega

def pw (n : Nat) : Int := ((2 ^ n : Nat) : Int)
theorem pw_le {n : Nat} (h : n ≤ 32) : 1 ≤ pw n ∧ pw n ≤ 4294967296 := by
  have h1 : 2 ^ n ≤ 2 ^ 32 := Nat.pow_le_pow_right (by decide) h
  have h2 : 0 < 2 ^ n := Nat.pow_pos (by decide)
  have h3 : (2 : Nat) ^ 32 = 4294967296 := by decide
  unfold pw
  omega
theorem pw_succ (n : Nat) : pw (n + 1) = 2 * pw n := by unfold pw; rw [Nat.pow_succ]; omega
theorem pw_1 {n : Nat} (h : 1 ≤ n) : 2 ≤ pw n := by
  obtain ⟨k, rfl⟩ : ∃ k, n = k + 1 := ⟨n - 1, by omega⟩
  rw [pw_succ]
  have : 0 < 2 ^ k := Nat.pow_pos (by decide)
  unfold pw
  omega

theorem power_calls (n : Nat) (w : World) (hn : n ≤ 32) : Calls Tryd.prog 34 #[.int .i64 n] w fun e w' => e = .returned (.int .i64 (pw n)) ∧ w = w' := by
  go_enter Tryd.func34, Tryd.ntmps34
  go_wp2
  go_loop [3, 4] (fun v i => ∃ k : Nat, k ≤ n ∧ i = .int .i64 k ∧ v = .int .i64 (pw k)) (fun _ i => n - (intOf i).toNat)
  case atStart => exact ⟨0, Nat.zero_le _, rfl, rfl⟩
  case round =>
    obtain ⟨k, hk, rfl, rfl⟩ := hrel
    by_cases hlt : k < n
    · obtain ⟨b0, b1⟩ := pw_le (show k ≤ 32 by omega)
      have HS := Lib.hid (pw_succ k)
      obtain ⟨p, hp⟩ : ∃ p, pw k = p := ⟨_, rfl⟩
      simp only [hp] at b0 b1 HS ⊢
      clear hp
      go_wp2
      go_round
      case rel => exact ⟨k + 1, by omega, by go_num, by rw [HS.out]⟩
      case measure => simp [intOf]; omega
    · obtain rfl : k = n := by omega
      go_wp2
      go_ret
      exact ⟨rfl, rfl⟩

end Go.Proofs.YtgggdieedblpjaaDoor.Sc
