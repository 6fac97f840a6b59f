/- Layer 11: the document's Blank and Over, walked. -/
import Derived.Test.YtibbebglbcjnmaaDoorTnL
import Derived.Test.YtibbebglbcjnmaaDoorTok1
import Derived.Deep.LoopGhost
import Derived.Deep.RegionHeld3
namespace Go.Proofs.YtibbebglbcjnmaaDoor.Tk
open Go.ChangeShapes Go.WideShapes Go.ChangeAt Go.RowKit
open Go.Proofs.YtibbebglbcjnmaaDoor.Le
set_option linter.unusedVariables false

theorem rblank_calls (b : Nat) (h : b < 256) (W : World) : Calls Tryd.prog 26 #[.int .u8 b] W fun e w' => e = .returned (.bool (blankB b)) ∧ W = w' := by
  have hc : (((b : Int) == 32) = true ∧ blankB b = true) ∨ (((b : Int) == 32) = false ∧ decide ((9 : Int) ≤ b) = false ∧ blankB b = false) ∨ (((b : Int) == 32) = false ∧ decide ((9 : Int) ≤ b) = true ∧ decide ((b : Int) ≤ 13) = true ∧ blankB b = true) ∨
      (((b : Int) == 32) = false ∧ decide ((9 : Int) ≤ b) = true ∧ decide ((b : Int) ≤ 13) = false ∧ blankB b = false) := by
    rw [blankB_iff, blankB_not]
    by_cases h1 : b = 32
    · exact .inl ⟨by rw [beq_iff_eq]; omega, .inl h1⟩
    · have e1 : ((b : Int) == 32) = false := by rw [beq_eq_false_iff_ne]; omega
      by_cases h2 : 9 ≤ b
      · by_cases h3 : b ≤ 13
        · exact .inr (.inr (.inl ⟨e1, decide_eq_true (by omega), decide_eq_true (by omega), .inr ⟨h2, h3⟩⟩))
        · exact .inr (.inr (.inr ⟨e1, decide_eq_true (by omega), decide_eq_false (by omega), by omega⟩))
      · exact .inr (.inl ⟨e1, decide_eq_false (by omega), by omega⟩)
  rcases hc with ⟨d1, e⟩ | ⟨d1, d2, e⟩ | ⟨d1, d2, d3, e⟩ | ⟨d1, d2, d3, e⟩
  all_goals
    rw [e]
    clear e
    go_enter Tryd.func26, Tryd.ntmps26
    go_wp2
    go_ret
    exact ⟨rfl, rfl⟩

end Go.Proofs.YtibbebglbcjnmaaDoor.Tk
