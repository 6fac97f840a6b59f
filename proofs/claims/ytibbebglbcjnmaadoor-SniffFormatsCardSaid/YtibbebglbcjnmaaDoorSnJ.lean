/- Layer 30: the document's signs (written by wip/gen/sn12.py). -/
import Derived.Test.YtibbebglbcjnmaaDoorSnG
namespace Go.Proofs.YtibbebglbcjnmaaDoor.Sn
open Go.ChangeShapes Go.WideShapes Go.ChangeAt Go.RowKit
open Go.Proofs.YtibbebglbcjnmaaDoor.Le Go.Proofs.YtibbebglbcjnmaaDoor.Tk Go.Proofs.YtibbebglbcjnmaaDoor.Dh Go.Proofs.YtibbebglbcjnmaaDoor.Id
set_option linter.unusedVariables false

/-- An icon's beginning, by its bytes. -/
def dB (a b c d e f g : Nat) : Bool := decide (a = 0) && decide (b = 0) && decide (c = 1 ∨ c = 2) && decide (d = 0) && decide (e ≠ 0 ∨ f ≠ 0) && decide (g = 0)
theorem icB_is (s : ByteArray) (h : 10 ≤ s.size) : icB s = dB (bt s 0) (bt s 1) (bt s 2) (bt s 3) (bt s 4) (bt s 5) (bt s 9) := by
  have b0 := bt_lt s 0
  have b1 := bt_lt s 1
  have b2 := bt_lt s 2
  have b3 := bt_lt s 3
  have b4 := bt_lt s 4
  have b5 := bt_lt s 5
  have hw : wrB s = decide (bt s 0 + 256 * bt s 1 ≠ 0 ∨ (bt s 2 + 256 * bt s 3 ≠ 1 ∧ bt s 2 + 256 * bt s 3 ≠ 2) ∨ bt s 4 + 256 * bt s 5 = 0) := rfl
  have h9 : bn s 9 = bt s 9 := rfl
  unfold icB
  rw [decide_eq_true h, Bool.true_and, hw, h9, Bool.eq_iff_iff]
  unfold dB
  simp only [Bool.and_eq_true, Bool.not_eq_true', decide_eq_true_eq, decide_eq_false_iff_not]
  omega
set_option maxRecDepth 100000 in
set_option maxHeartbeats 4000000 in
theorem rhas_4s (s : ByteArray) (h : s.size < 10) (W : World) : Calls Tryd.prog 12 #[.string s, .int .i64 4] W fun r w' => r = .returned (.bool false) ∧ W = w' := by
  have d0 : ¬ (10 : Int) ≤ (s.size : Int) := by omega
  clear h
  go_enter Tryd.func12, Tryd.ntmps12
  go_upto_region 1 with fail
  conv => arg 4; dsimp only
  go_wp2_with fail
  go_ret
  exact ⟨rfl, rfl⟩
set_option maxRecDepth 100000 in
set_option maxHeartbeats 4000000 in
theorem rhas_4i (s : ByteArray) (a b c d e f g : Nat) (h : 10 ≤ s.size) (ha : bt s 0 = a) (hb : bt s 1 = b) (hc : bt s 2 = c) (hd : bt s 3 = d) (he : bt s 4 = e) (hf : bt s 5 = f) (hg : bt s 9 = g) (W : World) : Calls Tryd.prog 12 #[.string s, .int .i64 4] W fun r w' => r = .returned (.bool (dB a b c d e f g)) ∧ W = w' := by
  have d0 : (10 : Int) ≤ (s.size : Int) := by omega
  have c0 := bt_cell s 0 (by omega) ha
  have c1 := bt_cell s 1 (by omega) hb
  have c2 := bt_cell s 2 (by omega) hc
  have c3 := bt_cell s 3 (by omega) hd
  have c4 := bt_cell s 4 (by omega) he
  have c5 := bt_cell s 5 (by omega) hf
  have c9 := bt_cell s 9 (by omega) hg
  clear ha hb hc hd he hf hg
  by_cases ha : a = 0
  · subst ha
    by_cases hb : b = 0
    · subst hb
      by_cases hc : c = 1 ∨ c = 2
      · rcases hc with rfl | rfl
        all_goals
          by_cases hd : d = 0
          · subst hd
            by_cases hg : g = 0
            · subst hg
              by_cases he : e = 0
              · subst he
                by_cases hf : f = 0
                · subst hf
                  rw [show dB _ _ _ _ _ _ _ = false by simp [dB, *]]
                  go_enter Tryd.func12, Tryd.ntmps12
                  go_upto_region 1 with fail
                  conv => arg 4; dsimp only
                  go_wp2_with fail
                  go_ret
                  exact ⟨rfl, rfl⟩
                · have ef : ((f : Int) == 0) = false := by rw [beq_eq_false_iff_ne]; omega
                  have ff : ((f : Int) != 0) = true := by rw [bne_iff_ne]; omega
                  have nf : ¬ (f : Int) = 0 := by omega
                  rw [show dB _ _ _ _ _ _ _ = true by simp [dB, *]]
                  go_enter Tryd.func12, Tryd.ntmps12
                  go_upto_region 1 with fail
                  conv => arg 4; dsimp only
                  go_wp2_with fail
                  go_ret
                  exact ⟨rfl, rfl⟩
              · have ee : ((e : Int) == 0) = false := by rw [beq_eq_false_iff_ne]; omega
                have fe : ((e : Int) != 0) = true := by rw [bne_iff_ne]; omega
                have ne : ¬ (e : Int) = 0 := by omega
                rw [show dB _ _ _ _ _ _ _ = true by simp [dB, *]]
                go_enter Tryd.func12, Tryd.ntmps12
                go_upto_region 1 with fail
                conv => arg 4; dsimp only
                go_wp2_with fail
                go_ret
                exact ⟨rfl, rfl⟩
            · by_cases he : e = 0
              · subst he
                by_cases hf : f = 0
                · subst hf
                  have eg : ((g : Int) == 0) = false := by rw [beq_eq_false_iff_ne]; omega
                  have fg : ((g : Int) != 0) = true := by rw [bne_iff_ne]; omega
                  have ng : ¬ (g : Int) = 0 := by omega
                  rw [show dB _ _ _ _ _ _ _ = false by simp [dB, *]]
                  go_enter Tryd.func12, Tryd.ntmps12
                  go_upto_region 1 with fail
                  conv => arg 4; dsimp only
                  go_wp2_with fail
                  go_ret
                  exact ⟨rfl, rfl⟩
                · have ef : ((f : Int) == 0) = false := by rw [beq_eq_false_iff_ne]; omega
                  have ff : ((f : Int) != 0) = true := by rw [bne_iff_ne]; omega
                  have nf : ¬ (f : Int) = 0 := by omega
                  have eg : ((g : Int) == 0) = false := by rw [beq_eq_false_iff_ne]; omega
                  have fg : ((g : Int) != 0) = true := by rw [bne_iff_ne]; omega
                  have ng : ¬ (g : Int) = 0 := by omega
                  rw [show dB _ _ _ _ _ _ _ = false by simp [dB, *]]
                  go_enter Tryd.func12, Tryd.ntmps12
                  go_upto_region 1 with fail
                  conv => arg 4; dsimp only
                  go_wp2_with fail
                  go_ret
                  exact ⟨rfl, rfl⟩
              · have ee : ((e : Int) == 0) = false := by rw [beq_eq_false_iff_ne]; omega
                have fe : ((e : Int) != 0) = true := by rw [bne_iff_ne]; omega
                have ne : ¬ (e : Int) = 0 := by omega
                have eg : ((g : Int) == 0) = false := by rw [beq_eq_false_iff_ne]; omega
                have fg : ((g : Int) != 0) = true := by rw [bne_iff_ne]; omega
                have ng : ¬ (g : Int) = 0 := by omega
                rw [show dB _ _ _ _ _ _ _ = false by simp [dB, *]]
                go_enter Tryd.func12, Tryd.ntmps12
                go_upto_region 1 with fail
                conv => arg 4; dsimp only
                go_wp2_with fail
                go_ret
                exact ⟨rfl, rfl⟩
          · have ed : ((d : Int) == 0) = false := by rw [beq_eq_false_iff_ne]; omega
            have fd : ((d : Int) != 0) = true := by rw [bne_iff_ne]; omega
            have nd : ¬ (d : Int) = 0 := by omega
            rw [show dB _ _ _ _ _ _ _ = false by simp [dB, *]]
            go_enter Tryd.func12, Tryd.ntmps12
            go_upto_region 1 with fail
            conv => arg 4; dsimp only
            go_wp2_with fail
            go_ret
            exact ⟨rfl, rfl⟩
      · have hc1 : ¬ c = 1 := fun h => hc (.inl h)
        have hc2 : ¬ c = 2 := fun h => hc (.inr h)
        have ec : ((c : Int) == 1) = false := by rw [beq_eq_false_iff_ne]; omega
        have fc : ((c : Int) != 1) = true := by rw [bne_iff_ne]; omega
        have nc : ¬ (c : Int) = 1 := by omega
        have ec2 : ((c : Int) == 2) = false := by rw [beq_eq_false_iff_ne]; omega
        have fc2 : ((c : Int) != 2) = true := by rw [bne_iff_ne]; omega
        have nc2 : ¬ (c : Int) = 2 := by omega
        have hdB : dB 0 0 c d e f g = false := by unfold dB; rw [decide_eq_false hc]; simp
        rw [hdB]
        clear hc hdB
        go_enter Tryd.func12, Tryd.ntmps12
        go_upto_region 1 with fail
        conv => arg 4; dsimp only
        go_wp2_with fail
        go_ret
        exact ⟨rfl, rfl⟩
    · have eb : ((b : Int) == 0) = false := by rw [beq_eq_false_iff_ne]; omega
      have fb : ((b : Int) != 0) = true := by rw [bne_iff_ne]; omega
      have nb : ¬ (b : Int) = 0 := by omega
      rw [show dB _ _ _ _ _ _ _ = false by simp [dB, *]]
      go_enter Tryd.func12, Tryd.ntmps12
      go_upto_region 1 with fail
      conv => arg 4; dsimp only
      go_wp2_with fail
      go_ret
      exact ⟨rfl, rfl⟩
  · have ea : ((a : Int) == 0) = false := by rw [beq_eq_false_iff_ne]; omega
    have fa : ((a : Int) != 0) = true := by rw [bne_iff_ne]; omega
    have na : ¬ (a : Int) = 0 := by omega
    rw [show dB _ _ _ _ _ _ _ = false by simp [dB, *]]
    go_enter Tryd.func12, Tryd.ntmps12
    go_upto_region 1 with fail
    conv => arg 4; dsimp only
    go_wp2_with fail
    go_ret
    exact ⟨rfl, rfl⟩
/-- The document's sign of an icon. -/
theorem rhas_4 (s : ByteArray) (W : World) : Calls Tryd.prog 12 #[.string s, .int .i64 4] W fun e w' => e = .returned (.bool (icB s)) ∧ W = w' := by
  by_cases h : 10 ≤ s.size
  · rw [icB_is s h]
    exact rhas_4i s _ _ _ _ _ _ _ h rfl rfl rfl rfl rfl rfl rfl W
  · rw [show icB s = false by unfold icB; rw [decide_eq_false h]; rfl]
    exact rhas_4s s (by omega) W

end Go.Proofs.YtibbebglbcjnmaaDoor.Sn
