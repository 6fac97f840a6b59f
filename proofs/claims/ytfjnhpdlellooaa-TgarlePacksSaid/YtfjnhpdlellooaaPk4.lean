/- Layer 18: packets are read: their first byte; the code's Packets of what Pack wrote. -/
import Derived.Test.YtfjnhpdlellooaaPk3
namespace Go.Proofs.Ytfjnhpdlellooaa.Pk
open Go.ChangeShapes Go.WideShapes Go.ChangeAt Go.RowKit
set_option linter.unusedVariables false

/-- How many pixels follow a packet's first byte, and how many times each of them stands. -/
def flw (b : Nat) : Nat := if 128 ≤ b then 1 else b % 128 + 1
def tms (b : Nat) : Nat := if 128 ≤ b then b % 128 + 1 else 1
theorem low7 : ∀ p : Fin 256, bits .andNot .i64 ((p.val : Nat) : Int) 128 = ((p.val % 128 : Nat) : Int) := by decide +kernel
theorem top1 : ∀ p : Fin 256, bits .and .i64 ((p.val : Nat) : Int) 128 = (if 128 ≤ p.val then 128 else 0) := by decide +kernel

theorem packet_calls (by0 : Nat) (hh : by0 < 256) (W : World) :
    Calls Try.prog 11 #[.int .i64 by0] W fun e w' => e = .returned (.agg #[.int .i64 (flw by0), .int .i64 (tms by0)]) ∧ W.grownBy w' none := by
  have t1 := top1 ⟨by0, hh⟩
  replace t1 : bits .and .i64 (by0 : Int) 128 = (if 128 ≤ by0 then 128 else 0) := t1
  have l7 := low7 ⟨by0, hh⟩
  replace l7 : bits .andNot .i64 (by0 : Int) 128 = ((by0 % 128 : Nat) : Int) := l7
  obtain ⟨q, hq⟩ : ∃ q, by0 % 128 = q := ⟨_, rfl⟩
  rw [hq] at l7
  obtain ⟨q1, hq1⟩ : ∃ q1, q + 1 = q1 := ⟨_, rfl⟩
  have hw : IntKind.i64.wrap ((q : Int) + 1) = (q1 : Int) := by rw [IntWalk.i64_in _ (by omega)]; omega
  by_cases h1 : 128 ≤ by0
  · have f1 : flw by0 = 1 := if_pos h1
    have f2 : tms by0 = q1 := by unfold tms; rw [if_pos h1, hq, hq1]
    rw [if_pos h1] at t1
    rw [f1, f2]
    clear f1 f2 h1 hq hq1
    go_enter Try.func11, Try.ntmps11
    go_wp2
    refine bodyPost_ret (v := .agg #[.int .i64 1, .int .i64 (q1 : Int)]) (by simp only [results, Try.results11]; go_simp) rfl ⟨rfl, World.grownBy_alloc _ _ none⟩
  · have f1 : flw by0 = q1 := by unfold flw; rw [if_neg h1, hq, hq1]
    have f2 : tms by0 = 1 := if_neg h1
    rw [if_neg h1] at t1
    rw [f1, f2]
    clear f1 f2 h1 hq hq1
    go_enter Try.func11, Try.ntmps11
    go_wp2
    refine bodyPost_ret (v := .agg #[.int .i64 (q1 : Int), .int .i64 1]) (by simp only [results, Try.results11]; go_simp) rfl ⟨rfl, World.grownBy_alloc _ _ none⟩

theorem count_calls (a b : Nat) (ha : a ≤ 128) (hb : b ≤ 128) (W : World) :
    Calls Try.prog 12 #[.agg #[.int .i64 a, .int .i64 b]] W fun e w' => e = .returned (.int .i64 ((a * b : Nat) : Int)) ∧ W.grownBy w' none := by
  obtain ⟨m, hm⟩ : ∃ m, a * b = m := ⟨_, rfl⟩
  have hm1 : m ≤ 128 * 128 := by rw [← hm]; exact Nat.mul_le_mul ha hb
  have hw : IntKind.i64.wrap ((a : Int) * (b : Int)) = (m : Int) := by rw [← Int.natCast_mul, hm]; exact IntWalk.i64_in _ (by omega)
  rw [hm]
  clear hm
  go_enter Try.func12, Try.ntmps12
  go_wp2
  go_ret
  exact ⟨rfl, World.grownBy_alloc _ _ none⟩

end Go.Proofs.Ytfjnhpdlellooaa.Pk
