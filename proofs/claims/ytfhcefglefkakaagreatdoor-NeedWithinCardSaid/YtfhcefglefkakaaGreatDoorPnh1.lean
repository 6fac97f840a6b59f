/- Package pnmhead: what is told of kinds, sides, samples; how many bytes pixels have (written by wip/gen/pnh1.py). -/
import Derived.Test.YtfhcefglefkakaaGreatDoorTokC
import Derived.Test.YtfhcefglefkakaaGreatDoorTok6
namespace Go.Proofs.YtfhcefglefkakaaGreatDoor.Ph
open Go.ChangeShapes Go.WideShapes Go.ChangeAt Go.RowKit
open Go.Proofs.YtfhcefglefkakaaGreatDoor.Le Go.Proofs.YtfhcefglefkakaaGreatDoor.Sr Go.Proofs.YtfhcefglefkakaaGreatDoor.Tk
set_option linter.unusedVariables false

def rgB (a b x : Int) : Bool := decide (a ≤ x) && decide (x ≤ b)
theorem rgB_iff (a b x : Int) : rgB a b x = true ↔ a ≤ x ∧ x ≤ b := by simp [rgB]
theorem rgB_not (a b x : Int) : rgB a b x = false ↔ ¬ (a ≤ x ∧ x ≤ b) := by
  rw [← rgB_iff]
  simp
theorem rg_cases (a b x : Int) : (decide (a ≤ x) = false ∧ rgB a b x = false) ∨ (decide (a ≤ x) = true ∧ decide (x ≤ b) = true ∧ rgB a b x = true) ∨ (decide (a ≤ x) = true ∧ decide (x ≤ b) = false ∧ rgB a b x = false) := by
  rw [rgB_iff, rgB_not]
  by_cases h2 : a ≤ x
  · by_cases h3 : x ≤ b
    · exact .inr (.inl ⟨decide_eq_true h2, decide_eq_true h3, h2, h3⟩)
    · exact .inr (.inr ⟨decide_eq_true h2, decide_eq_false h3, fun h => h3 h.2⟩)
  · exact .inl ⟨decide_eq_false h2, fun h => h2 h.1⟩
def orB (a b x : Int) : Bool := (x == a) || (x == b)
theorem orB_iff (a b x : Int) : orB a b x = true ↔ x = a ∨ x = b := by simp [orB]
theorem orB_not (a b x : Int) : orB a b x = false ↔ ¬ (x = a ∨ x = b) := by
  rw [← orB_iff]
  simp
theorem or_cases (a b x : Int) : ((x == a) = true ∧ orB a b x = true) ∨ ((x == a) = false ∧ (x == b) = true ∧ orB a b x = true) ∨ ((x == a) = false ∧ (x == b) = false ∧ orB a b x = false) := by
  unfold orB
  cases (x == a) <;> cases (x == b) <;> simp

theorem text_calls (x : Int) (W : World) : Calls Tryz.prog 65 #[.int .i64 x] W fun e w' => e = .returned (.bool (rgB 1 3 x)) ∧ W = w' := by
  rcases rg_cases 1 3 x with ⟨d1, e⟩ | ⟨d1, d2, e⟩ | ⟨d1, d2, e⟩
  all_goals
    rw [e]
    clear e
    go_enter Tryz.func65, Tryz.ntmps65
    go_wp2
    go_ret
    exact ⟨rfl, rfl⟩

theorem isKind_calls (x : Int) (W : World) : Calls Tryz.prog 77 #[.int .i64 x] W fun e w' => e = .returned (.bool (rgB 1 6 x)) ∧ W = w' := by
  rcases rg_cases 1 6 x with ⟨d1, e⟩ | ⟨d1, d2, e⟩ | ⟨d1, d2, e⟩
  all_goals
    rw [e]
    clear e
    go_enter Tryz.func77, Tryz.ntmps77
    go_wp2
    go_ret
    exact ⟨rfl, rfl⟩

theorem isMost_calls (x : Int) (W : World) : Calls Tryz.prog 119 #[.int .i64 x] W fun e w' => e = .returned (.bool (rgB 1 65535 x)) ∧ W = w' := by
  rcases rg_cases 1 65535 x with ⟨d1, e⟩ | ⟨d1, d2, e⟩ | ⟨d1, d2, e⟩
  all_goals
    rw [e]
    clear e
    go_enter Tryz.func119, Tryz.ntmps119
    go_wp2
    go_ret
    exact ⟨rfl, rfl⟩

theorem colors_calls (x : Int) (W : World) : Calls Tryz.prog 35 #[.int .i64 x] W fun e w' => e = .returned (.bool (orB 3 6 x)) ∧ W = w' := by
  rcases or_cases 3 6 x with ⟨d1, e⟩ | ⟨d1, d2, e⟩ | ⟨d1, d2, e⟩
  all_goals
    rw [e]
    clear e
    go_enter Tryz.func35, Tryz.ntmps35
    go_wp2
    go_ret
    exact ⟨rfl, rfl⟩

theorem bitmap_calls (x : Int) (W : World) : Calls Tryz.prog 117 #[.int .i64 x] W fun e w' => e = .returned (.bool (orB 1 4 x)) ∧ W = w' := by
  rcases or_cases 1 4 x with ⟨d1, e⟩ | ⟨d1, d2, e⟩ | ⟨d1, d2, e⟩
  all_goals
    rw [e]
    clear e
    go_enter Tryz.func117, Tryz.ntmps117
    go_wp2
    go_ret
    exact ⟨rfl, rfl⟩

/-- May a head be asked? -/
def mayB (k w h m : Int) : Bool := !rgB 1 3 k && rgB 1 6 k && rgB 1 16384 w && rgB 1 16384 h && rgB 1 65535 m

end Go.Proofs.YtfhcefglefkakaaGreatDoor.Ph
