/- Texts of one kind, one behind the other: Pal1. -/
import Derived.Deep.RegionHeld3
import Derived.Test.YtnieeckdldpebaaGreatG10
/- Layer 10: the document's Size and Far, walked. -/
namespace Go.Proofs.YtnieeckdldpebaaGreat.Pa
open Go.ChangeShapes Go.WideShapes Go.ChangeAt Go.RowKit
open Go.Proofs.YtnieeckdldpebaaGreat.Sc
set_option linter.unusedVariables false

/-- How many bytes an entry of a kind has. -/
def sizeV (k : Int) : Int := if k = 2 ∨ k = 3 ∨ k = 4 then k else if k = 5 then 4 else 0

theorem rsize_calls (k : Int) (W : World) : Calls Tryz.prog 60 #[.int .i64 k] W fun e w' => e = .returned (.int .i64 (sizeV k)) ∧ W = w' := by
  by_cases h : k = 2 ∨ k = 3 ∨ k = 4 ∨ k = 5
  · rcases h with rfl | rfl | rfl | rfl
    all_goals
      go_enter Tryz.func60, Tryz.ntmps60
      go_wp2
      go_ret
      exact ⟨rfl, rfl⟩
  · have e : sizeV k = 0 := by unfold sizeV; rw [if_neg (by omega), if_neg (by omega)]
    rw [e]
    have e2 : (k == 2) = false := by rw [beq_eq_false_iff_ne]; omega
    have e3 : (k == 3) = false := by rw [beq_eq_false_iff_ne]; omega
    have e4 : (k == 4) = false := by rw [beq_eq_false_iff_ne]; omega
    have e5 : (k == 5) = false := by rw [beq_eq_false_iff_ne]; omega
    clear h e
    go_enter Tryz.func60, Tryz.ntmps60
    go_wp2
    go_ret
    exact ⟨rfl, rfl⟩

end Go.Proofs.YtnieeckdldpebaaGreat.Pa
