/- Package fault and its document's answers: which faults may be. -/
import Derived.Test.YtdcmbjhjfdjdhaaDoorFau1
namespace Go.Proofs.YtdcmbjhjfdjdhaaDoor.Fa
open Go.ChangeShapes Go.WideShapes Go.ChangeAt Go.RowKit
open Go.Proofs.YtdcmbjhjfdjdhaaDoor.Le
set_option linter.unusedVariables false

set_option maxRecDepth 100000 in
theorem rkind_calls (n : Int) (w : World) : Calls Tryd.prog 10 #[.int .i64 n] w fun e w' => e = .returned (.string (kw n)) ∧ w.grownBy w' none := by
  by_cases h0 : n < 0
  · rw [kw_out (.inl h0)]
    go_enter Tryd.func10, Tryd.ntmps10
    go_wp2
    go_ret
    exact ⟨rfl, World.grownBy_alloc _ _ _⟩
  by_cases h5 : 5 ≤ n
  · rw [kw_out (.inr (by omega))]
    have h0' : 0 ≤ n := by omega
    clear h0
    go_enter Tryd.func10, Tryd.ntmps10
    go_wp2
    go_ret
    exact ⟨rfl, World.grownBy_alloc _ _ _⟩
  have hn : n = 0 ∨ n = 1 ∨ n = 2 ∨ n = 3 ∨ n = 4 := by omega
  clear h0 h5
  rcases hn with rfl | rfl | rfl | rfl | rfl
  all_goals
    go_enter Tryd.func10, Tryd.ntmps10
    go_wp2
    go_ret
    exact ⟨rfl, World.grownBy_alloc _ _ _⟩

set_option maxRecDepth 100000 in
set_option maxHeartbeats 4000000 in
theorem rformat_calls (n : Int) (w : World) : Calls Tryd.prog 12 #[.int .i64 n] w fun e w' => e = .returned (.string (fw n)) ∧ w.grownBy w' none := by
  by_cases h0 : n < 0
  · rw [fw_out (.inl h0)]
    go_enter Tryd.func12, Tryd.ntmps12
    go_wp2
    go_ret
    exact ⟨rfl, World.grownBy_alloc _ _ _⟩
  by_cases h5 : 9 ≤ n
  · rw [fw_out (.inr (by omega))]
    have h0' : 0 ≤ n := by omega
    clear h0
    go_enter Tryd.func12, Tryd.ntmps12
    go_wp2
    go_ret
    exact ⟨rfl, World.grownBy_alloc _ _ _⟩
  have hn : n = 0 ∨ n = 1 ∨ n = 2 ∨ n = 3 ∨ n = 4 ∨ n = 5 ∨ n = 6 ∨ n = 7 ∨ n = 8 := by omega
  clear h0 h5
  rcases hn with rfl | rfl | rfl | rfl | rfl | rfl | rfl | rfl | rfl
  all_goals
    go_enter Tryd.func12, Tryd.ntmps12
    go_wp2
    go_ret
    exact ⟨rfl, World.grownBy_alloc _ _ _⟩


/-- May a fault be? -/
def rightB (k m a : Int) : Bool := if k = 0 then decide (m = 0) && decide (a = 0) else decide (1 ≤ k) && decide (k ≤ 4) && decide (0 ≤ m) && decide (m ≤ 8) && decide (0 ≤ a) && decide (a ≤ 4611686018427387904)

theorem rright_calls (k m a : Int) (w : World) : Calls Tryd.prog 8 #[.int .i64 k, .int .i64 m, .int .i64 a] w fun e w' => e = .returned (.bool (rightB k m a)) ∧ w = w' := by
  by_cases hk : k = 0
  · subst hk
    rw [show rightB 0 m a = (decide (m = 0) && decide (a = 0)) from by simp [rightB]]
    by_cases hm : m = 0
    · subst hm
      by_cases ha : a = 0
      · subst ha
        go_enter Tryd.func8, Tryd.ntmps8
        go_wp2
        go_ret
        exact ⟨rfl, rfl⟩
      · have e1 : (a == 0) = false := by simpa using ha
        rw [show decide (a = 0) = false from by simpa using ha]
        clear ha
        go_enter Tryd.func8, Tryd.ntmps8
        go_wp2
        go_ret
        exact ⟨rfl, rfl⟩
    · have e1 : (m == 0) = false := by simpa using hm
      rw [show decide (m = 0) = false from by simpa using hm]
      clear hm
      go_enter Tryd.func8, Tryd.ntmps8
      go_wp2
      go_ret
      exact ⟨rfl, rfl⟩
  · have e1 : (k == 0) = false := by simpa using hk
    rw [show rightB k m a = (decide (1 ≤ k) && decide (k ≤ 4) && decide (0 ≤ m) && decide (m ≤ 8) && decide (0 ≤ a) && decide (a ≤ 4611686018427387904)) from by simp [rightB, hk]]
    by_cases h1 : 1 ≤ k
    · by_cases h2 : k ≤ 4
      · by_cases h3 : 0 ≤ m
        · by_cases h4 : m ≤ 8
          · by_cases h5 : 0 ≤ a
            · simp only [h1, h2, h3, h4, h5, decide_true, Bool.true_and]
              go_enter Tryd.func8, Tryd.ntmps8
              go_wp2
              go_ret
              exact ⟨rfl, rfl⟩
            · simp only [h1, h2, h3, h4, h5, decide_true, decide_false, Bool.true_and, Bool.false_and]
              have h5' : a < 0 := by omega
              clear h5
              go_enter Tryd.func8, Tryd.ntmps8
              go_wp2
              go_ret
              exact ⟨rfl, rfl⟩
          · simp only [h1, h2, h3, h4, decide_true, decide_false, Bool.true_and, Bool.false_and]
            have h4' : 8 < m := by omega
            clear h4
            go_enter Tryd.func8, Tryd.ntmps8
            go_wp2
            go_ret
            exact ⟨rfl, rfl⟩
        · simp only [h1, h2, h3, decide_true, decide_false, Bool.true_and, Bool.false_and]
          have h3' : m < 0 := by omega
          clear h3
          go_enter Tryd.func8, Tryd.ntmps8
          go_wp2
          go_ret
          exact ⟨rfl, rfl⟩
      · simp only [h1, h2, decide_true, decide_false, Bool.true_and, Bool.false_and]
        have h2' : 4 < k := by omega
        clear h2
        go_enter Tryd.func8, Tryd.ntmps8
        go_wp2
        go_ret
        exact ⟨rfl, rfl⟩
    · simp only [h1, decide_false, Bool.false_and]
      have h1' : k < 1 := by omega
      clear h1
      go_enter Tryd.func8, Tryd.ntmps8
      go_wp2
      go_ret
      exact ⟨rfl, rfl⟩

end Go.Proofs.YtdcmbjhjfdjdhaaDoor.Fa
