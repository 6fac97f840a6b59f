/- Package scale and the document's answers for layer 8: contracts. -/
import Derived.Test.YtjdhlehpoclnjaaGreatSca1
namespace Go.Proofs.YtjdhlehpoclnjaaGreat.Sc
open Go.ChangeShapes Go.WideShapes Go.ChangeAt Go.RowKit
set_option linter.unusedVariables false

/-- May it be a greatest value? -/
def grB (m : Int) : Bool := decide (1 ≤ m) && decide (m ≤ 4294967295)
theorem grB_yes {m : Int} (h0 : 1 ≤ m) (h1 : m ≤ 4294967295) : grB m = true := by simp [grB, h0, h1]
theorem grB_no {m : Int} (h : m < 1 ∨ 4294967295 < m) : grB m = false := by
  simp only [grB, Bool.and_eq_false_iff, decide_eq_false_iff_not]; omega

theorem gr_calls (m : Int) (w : World) : Calls Tryz.prog 145 #[.int .i64 m] w fun e w' => e = .returned (.bool (grB m)) ∧ w = w' := by
  by_cases h0 : 1 ≤ m
  · by_cases h1 : m ≤ 4294967295
    · rw [grB_yes h0 h1]
      go_enter Tryz.func145, Tryz.ntmps145
      go_wp2
      go_ret
      exact ⟨rfl, rfl⟩
    · rw [grB_no (by omega)]
      have h2 : 4294967295 < m := by omega
      go_enter Tryz.func145, Tryz.ntmps145
      go_wp2
      go_ret
      exact ⟨rfl, rfl⟩
  · rw [grB_no (by omega)]
    have h2 : m < 1 := by omega
    go_enter Tryz.func145, Tryz.ntmps145
    go_wp2
    go_ret
    exact ⟨rfl, rfl⟩

theorem max_no (v m : Int) (w : World) (h : may v m = false) : Calls Tryz.prog 142 #[.int .i64 v, .int .i64 m] w fun e w' => e = .returned (.tuple #[.int .u8 0, .bool false]) ∧ w = w' := by
  have h' : m < 1 ∨ 4294967295 < m ∨ v < 0 ∨ m < v := by
    simp only [may, Bool.and_eq_false_iff, decide_eq_false_iff_not] at h; omega
  clear h
  by_cases hg : m < 1 ∨ 4294967295 < m
  · have K := gr_calls m w
    rw [grB_no hg] at K
    have K' := Lib.hid K
    clear K h' hg
    go_enter Tryz.func142, Tryz.ntmps142
    go_wp2_with fail
    refine K'.out.mono ?_
    rintro e w' ⟨rfl, rfl⟩
    go_wp2
    go_ret2
    exact ⟨rfl, rfl⟩
  · have K := gr_calls m w
    rw [grB_yes (by omega) (by omega)] at K
    have K' := Lib.hid K
    by_cases hv : v < 0
    · clear K h' hg
      go_enter Tryz.func142, Tryz.ntmps142
      go_wp2_with fail
      refine K'.out.mono ?_
      rintro e w' ⟨rfl, rfl⟩
      go_wp2
      go_ret2
      exact ⟨rfl, rfl⟩
    · have hm : m < v := by omega
      clear K h' hg
      go_enter Tryz.func142, Tryz.ntmps142
      go_wp2_with fail
      refine K'.out.mono ?_
      rintro e w' ⟨rfl, rfl⟩
      go_wp2
      go_ret2
      exact ⟨rfl, rfl⟩

theorem max_yes (v m : Int) (w : World) (h : may v m = true) : Calls Tryz.prog 142 #[.int .i64 v, .int .i64 m] w fun e w' => e = .returned (.tuple #[.int .u8 (near v m), .bool true]) ∧ w = w' := by
  obtain ⟨h1, h2, h3, h4⟩ := may_of h
  have K := gr_calls m w
  rw [grB_yes h1 h2] at K
  have K' := Lib.hid K
  have hT : (2 * v * 255 + m).tdiv (2 * m) = near v m := by unfold near; exact Int.tdiv_eq_ediv_of_nonneg (by omega)
  have q0 := near_0 (v := v) h1 h3
  have q1 := near_255 (v := v) h1 h4
  obtain ⟨q, hq⟩ : ∃ q, near v m = q := ⟨_, rfl⟩
  rw [hq] at hT q0 q1 ⊢
  clear K h hq
  go_enter Tryz.func142, Tryz.ntmps142
  go_wp2_with fail
  refine K'.out.mono ?_
  rintro e w' ⟨rfl, rfl⟩
  go_wp2
  go_ret2
  exact ⟨by go_num, rfl⟩

theorem far_calls (v m x : Int) (w : World) (h1 : 1 ≤ m) (h2 : m ≤ 4294967295) (h3 : 0 ≤ v) (h4 : v ≤ m) (x0 : 0 ≤ x) (x1 : x ≤ 255) :
    Calls Tryz.prog 92 #[.int .i64 v, .int .i64 m, .int .i64 x] w fun e w' => e = .returned (.int .i64 (farV v m x)) ∧ w = w' := by
  have p0 : 0 ≤ x * m := Int.mul_nonneg x0 (by omega)
  have p1 : x * m ≤ 255 * m := Int.mul_le_mul_of_nonneg_right x1 (by omega)
  by_cases hn : v * 255 - x * m < 0
  · have e : farV v m x = -(v * 255 - x * m) := if_pos hn
    rw [e]
    clear e
    go_enter Tryz.func92, Tryz.ntmps92
    go_wp2
    go_ret
    exact ⟨rfl, rfl⟩
  · have e : farV v m x = v * 255 - x * m := if_neg hn
    rw [e]
    clear e
    go_enter Tryz.func92, Tryz.ntmps92
    go_wp2
    go_ret
    exact ⟨rfl, rfl⟩

set_option maxRecDepth 100000 in
theorem rmax_calls (v m : Int) (w : World) (h1 : 1 ≤ m) (h2 : m ≤ 4294967295) (h3 : 0 ≤ v) (h4 : v ≤ m) :
    Calls Tryz.prog 64 #[.int .i64 v, .int .i64 m] w fun e w' => e = .returned (.int .i64 (near v m)) ∧ w = w' := by
  have B1 := Lib.hid (best_1 (v := v) h1 h3)
  obtain ⟨N, hN⟩ : ∃ N, near v m = N := ⟨_, rfl⟩
  have HN := Lib.hid hN
  rw [hN]
  clear hN
  go_enter Tryz.func64, Tryz.ntmps64
  go_wp2
  go_loop [5, 6] (fun bv i => ∃ (x : Nat) (b : Int), 1 ≤ x ∧ x ≤ 256 ∧ i = .int .i64 (x : Int) ∧ bv = .int .i64 b ∧ best v m x = b) (fun _ i => 256 - (intOf i).toNat)
  case atStart => exact ⟨1, 0, by omega, by omega, rfl, rfl, B1.out⟩
  case round =>
    obtain ⟨x, b, x1, x2, rfl, rfl, hbest⟩ := hrel
    by_cases hlt : x < 256
    · obtain ⟨b0, b1⟩ := best_in h1 h3 (show (1 : Int) ≤ x by omega) (show (x : Int) ≤ 256 by omega)
      rw [hbest] at b0 b1
      obtain ⟨p, hp⟩ : ∃ p, farV v m x = p := ⟨_, rfl⟩
      obtain ⟨q, hq⟩ : ∃ q, farV v m b = q := ⟨_, rfl⟩
      have F1 := far_calls v m x w h1 h2 h3 h4 (by omega) (by omega)
      have F2 := far_calls v m b w h1 h2 h3 h4 b0 b1
      rw [hp] at F1
      rw [hq] at F2
      have G1 := Lib.hid F1
      have G2 := Lib.hid F2
      by_cases hb : (x : Int) ≤ near v m
      · obtain ⟨c1, c2⟩ := best_yes h1 hb
        rw [hbest, hp, hq] at c2
        have HC := Lib.hid c1
        clear F1 F2 hp hq c1 hb hbest
        go_wp2_with fail
        refine G1.out.mono ?_
        rintro e w' ⟨rfl, rfl⟩
        go_wp2_with fail
        refine G2.out.mono ?_
        rintro e w' ⟨rfl, rfl⟩
        go_wp2
        go_round
        case rel => exact ⟨x + 1, x, by omega, by omega, by go_num, rfl, HC.out⟩
        case measure => simp [intOf]; omega
      · obtain ⟨c1, c2⟩ := best_no h1 (show near v m < (x : Int) by omega)
        rw [hbest, hp, hq] at c2
        rw [hbest] at c1
        have c3 : q < p := by omega
        have HC := Lib.hid c1
        clear F1 F2 hp hq c1 c2 hb hbest
        go_wp2_with fail
        refine G1.out.mono ?_
        rintro e w' ⟨rfl, rfl⟩
        go_wp2_with fail
        refine G2.out.mono ?_
        rintro e w' ⟨rfl, rfl⟩
        go_wp2
        go_round
        case rel => exact ⟨x + 1, b, by omega, by omega, by go_num, rfl, HC.out⟩
        case measure => simp [intOf]; omega
    · have hx : (x : Int) = 256 := by omega
      obtain rfl : b = N := by rw [← hbest, hx, ← HN.out]; exact best_256 h1 h4
      clear hbest
      go_wp2
      go_ret
      exact ⟨rfl, rfl⟩

def pw (n : Nat) : Int := ((2 ^ n : Nat) : Int)
theorem pw_le {n : Nat} (h : n ≤ 32) : 1 ≤ pw n ∧ pw n ≤ 4294967296 := by
  have h1 : 2 ^ n ≤ 2 ^ 32 := Nat.pow_le_pow_right (by decide) h
  have h2 : 0 < 2 ^ n := Nat.pow_pos (by decide)
  have h3 : (2 : Nat) ^ 32 = 4294967296 := by decide
  unfold pw
  omega
theorem pw_succ (n : Nat) : pw (n + 1) = 2 * pw n := by unfold pw; rw [Nat.pow_succ]; omega
theorem pw_1 {n : Nat} (h : 1 ≤ n) : 2 ≤ pw n := by
  obtain ⟨k, rfl⟩ : ∃ k, n = k + 1 := ⟨n - 1, by omega⟩
  rw [pw_succ]
  have : 0 < 2 ^ k := Nat.pow_pos (by decide)
  unfold pw
  omega

end Go.Proofs.YtjdhlehpoclnjaaGreat.Sc
