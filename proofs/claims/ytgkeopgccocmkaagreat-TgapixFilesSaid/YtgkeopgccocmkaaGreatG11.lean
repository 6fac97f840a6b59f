/- Texts of one kind, one behind the other: Pal1. -/
import Derived.Deep.RegionHeld3
import Derived.Test.YtgkeopgccocmkaaGreatG10
/- Layer 10: the document's Size and Far, walked. -/
namespace Go.Proofs.YtgkeopgccocmkaaGreat.Pa
open Go.ChangeShapes Go.WideShapes Go.ChangeAt Go.RowKit
open Go.Proofs.YtgkeopgccocmkaaGreat.Sc
set_option linter.unusedVariables false

/-- How many bytes an entry of a kind has. -/
def sizeV (k : Int) : Int := if k = 2 ∨ k = 3 ∨ k = 4 then k else if k = 5 then 4 else 0

theorem rsize_calls (k : Int) (W : World) : Calls Tryz.prog 30 #[.int .i64 k] W fun e w' => e = .returned (.int .i64 (sizeV k)) ∧ W = w' := by
  by_cases h : k = 2 ∨ k = 3 ∨ k = 4 ∨ k = 5
  · rcases h with rfl | rfl | rfl | rfl
    all_goals
      go_enter Tryz.func30, Tryz.ntmps30
      go_wp2
      go_ret
      exact ⟨rfl, rfl⟩
  · have e : sizeV k = 0 := by unfold sizeV; rw [if_neg (by omega), if_neg (by omega)]
    rw [e]
    have e2 : (k == 2) = false := by rw [beq_eq_false_iff_ne]; omega
    have e3 : (k == 3) = false := by rw [beq_eq_false_iff_ne]; omega
    have e4 : (k == 4) = false := by rw [beq_eq_false_iff_ne]; omega
    have e5 : (k == 5) = false := by rw [beq_eq_false_iff_ne]; omega
    clear h e
    go_enter Tryz.func30, Tryz.ntmps30
    go_wp2
    go_ret
    exact ⟨rfl, rfl⟩

theorem sq_bd {d : Int} (h1 : -255 ≤ d) (h2 : d ≤ 255) : 0 ≤ d * d ∧ d * d ≤ 65025 := by
  have h3 : 0 ≤ (255 - d) * (255 + d) := Int.mul_nonneg (by omega) (by omega)
  have e : (255 - d) * (255 + d) = 65025 - d * d := by rw [Int.sub_mul, Int.mul_add, Int.mul_add, Int.mul_comm d 255]; omega
  refine ⟨?_, by omega⟩
  rcases Int.le_total 0 d with h | h
  · exact Int.mul_nonneg h h
  · have := Int.mul_nonneg (show 0 ≤ -d by omega) (show 0 ≤ -d by omega)
    rwa [Int.neg_mul_neg] at this

end Go.Proofs.YtgkeopgccocmkaaGreat.Pa
