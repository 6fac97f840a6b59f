/- Layer 30: the document's sign of a TGA file, whole. -/
import Derived.Test.YtibbebglbcjnmaaDoorSnE1
import Derived.Test.YtibbebglbcjnmaaDoorSnE9
import Derived.Test.YtibbebglbcjnmaaDoorSnE2
import Derived.Test.YtibbebglbcjnmaaDoorSnE10
import Derived.Test.YtibbebglbcjnmaaDoorSnE3
import Derived.Test.YtibbebglbcjnmaaDoorSnE11
namespace Go.Proofs.YtibbebglbcjnmaaDoor.Sn
open Go.ChangeShapes Go.WideShapes Go.ChangeAt Go.RowKit
open Go.Proofs.YtibbebglbcjnmaaDoor.Le Go.Proofs.YtibbebglbcjnmaaDoor.Tk Go.Proofs.YtibbebglbcjnmaaDoor.Dh Go.Proofs.YtibbebglbcjnmaaDoor.Id
set_option linter.unusedVariables false

theorem rB_is (s : ByteArray) (h : 18 ≤ s.size) : rB (bt s 1) (bt s 2) (bt s 7) (bt s 12) (bt s 13) (bt s 14) (bt s 15) (bt s 16) = Tg.tgB s := by
  rw [← tB_is]
  unfold tB endB rB
  rw [decide_eq_true h, Bool.true_and]

set_option maxRecDepth 100000 in
set_option maxHeartbeats 2000000 in
theorem ris_none (s : ByteArray) (m t : Nat) (h : 18 ≤ s.size) (hm : bt s 1 = m) (ht : bt s 2 = t) (h1 : m ≤ 1) (hn : ¬ (t = 1 ∨ t = 9 ∨ t = 2 ∨ t = 10 ∨ t = 3 ∨ t = 11)) (W : World) : Calls Tryd.prog 25 #[.string s] W fun e w' => e = .returned (.bool false) ∧ W = w' := by
  have d0 : decide ((s.size : Int) < 18) = false := decide_eq_false (by omega)
  have d1 : decide ((1 : Int) < (m : Int)) = false := decide_eq_false (by omega)
  have t256 : t < 256 := by rw [← ht]; exact bt_lt s 2
  have wt : wrap64 (t : Int) = (t : Int) := by unfold wrap64; omega
  have c1 := bt_cell s 1 (by omega) hm
  have c2 := bt_cell s 2 (by omega) ht
  have n1 : ((t : Int) == 1) = false := by rw [beq_eq_false_iff_ne]; omega
  have n9 : ((t : Int) == 9) = false := by rw [beq_eq_false_iff_ne]; omega
  have n2 : ((t : Int) == 2) = false := by rw [beq_eq_false_iff_ne]; omega
  have n10 : ((t : Int) == 10) = false := by rw [beq_eq_false_iff_ne]; omega
  have n3 : ((t : Int) == 3) = false := by rw [beq_eq_false_iff_ne]; omega
  have n11 : ((t : Int) == 11) = false := by rw [beq_eq_false_iff_ne]; omega
  have p3 : ((t : Int) != 3) = true := by rw [bne_iff_ne]; omega
  have p11 : ((t : Int) != 11) = true := by rw [bne_iff_ne]; omega
  have q3 : ¬ (t : Int) = 3 := by omega
  have q11 : ¬ (t : Int) = 11 := by omega
  clear hn hm ht h1
  go_enter Tryd.func25, Tryd.ntmps25
  go_upto_region 1 with fail
  conv => arg 4; dsimp only
  go_wp2
  go_ret
  exact ⟨rfl, rfl⟩

/-- The document's Is of any text. -/
theorem ris_calls (s : ByteArray) (W : World) : Calls Tryd.prog 25 #[.string s] W fun e w' => e = .returned (.bool (Tg.tgB s)) ∧ W = w' := by
  by_cases h : 18 ≤ s.size
  · rw [← rB_is s h]
    have H : Bs s (bt s 1) (bt s 2) (bt s 7) (bt s 12) (bt s 13) (bt s 14) (bt s 15) (bt s 16) := ⟨h, rfl, rfl, rfl, rfl, rfl, rfl, rfl, rfl⟩
    by_cases hm : bt s 1 ≤ 1
    · by_cases ht : bt s 2 = 1 ∨ bt s 2 = 9 ∨ bt s 2 = 2 ∨ bt s 2 = 10 ∨ bt s 2 = 3 ∨ bt s 2 = 11
      · rcases ht with ht | ht | ht | ht | ht | ht
        · rw [ht] at H ⊢; exact ris_1 s _ _ _ _ _ _ _ H hm W
        · rw [ht] at H ⊢; exact ris_9 s _ _ _ _ _ _ _ H hm W
        · rw [ht] at H ⊢; exact ris_2 s _ _ _ _ _ _ _ H hm W
        · rw [ht] at H ⊢; exact ris_10 s _ _ _ _ _ _ _ H hm W
        · rw [ht] at H ⊢; exact ris_3 s _ _ _ _ _ _ _ H hm W
        · rw [ht] at H ⊢; exact ris_11 s _ _ _ _ _ _ _ H hm W
      · have e : rB (bt s 1) (bt s 2) (bt s 7) (bt s 12) (bt s 13) (bt s 14) (bt s 15) (bt s 16) = false := by
          have a1 : decide (bt s 2 = 1 ∨ bt s 2 = 9) = false := decide_eq_false (by omega)
          have a2 : decide (bt s 2 = 2 ∨ bt s 2 = 10 ∨ bt s 2 = 3 ∨ bt s 2 = 11) = false := decide_eq_false (by omega)
          unfold rB mayT
          rw [a1, a2]
          simp
        rw [e]
        exact ris_none s _ _ h rfl rfl hm ht W
    · have e : rB (bt s 1) (bt s 2) (bt s 7) (bt s 12) (bt s 13) (bt s 14) (bt s 15) (bt s 16) = false := by
        unfold rB mayT
        rw [decide_eq_false hm]
        simp
      rw [e]
      exact ris_m s _ _ _ _ _ _ _ _ H (by omega) W
  · rw [show Tg.tgB s = false by unfold Tg.tgB; rw [decide_eq_false h]; rfl]
    exact ris_short s (by omega) W

end Go.Proofs.YtibbebglbcjnmaaDoor.Sn
