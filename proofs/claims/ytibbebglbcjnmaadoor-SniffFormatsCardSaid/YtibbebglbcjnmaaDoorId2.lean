/- Layer 24: what is wrong with six bytes; entries; which is better (written by wip/gen/id2.py). -/
import Derived.Test.YtibbebglbcjnmaaDoorId1
import Derived.Deep.RegionHeld3
import Derived.Deep.QuietTactic
import Derived.BigQuiet
import Derived.BigRegion
import Derived.Deep.Cut
namespace Go.Proofs.YtibbebglbcjnmaaDoor.Id
open Go.ChangeShapes Go.WideShapes Go.ChangeAt Go.RowKit
open Go.Proofs.YtibbebglbcjnmaaDoor.Le Go.Proofs.YtibbebglbcjnmaaDoor.Sr Go.Proofs.YtibbebglbcjnmaaDoor.Dh
set_option linter.unusedVariables false

set_option maxRecDepth 100000 in
theorem wrong_calls (z : ByteArray) (hz : z.size = 6) (W : World) :
    Calls Tryd.prog 35 #[.string z] W fun e w' => e = .returned (.tuple #[.int .i64 (wrP z), .bool (wrB z)]) ∧ W = w' := by
  have K0 := fun u => pair_calls z 0 (by omega) (by omega) u
  have K2 := fun u => pair_calls z 2 (by omega) (by omega) u
  have K4 := fun u => pair_calls z 4 (by omega) (by omega) u
  unfold wrP wrB
  obtain ⟨n, hn⟩ : ∃ n, w2 z 0 = n := ⟨_, rfl⟩
  obtain ⟨t, ht⟩ : ∃ n, w2 z 2 = n := ⟨_, rfl⟩
  obtain ⟨c, hc⟩ : ∃ n, w2 z 4 = n := ⟨_, rfl⟩
  rw [hn] at K0 ⊢
  rw [ht] at K2 ⊢
  rw [hc] at K4 ⊢
  have K0 := Lib.hid K0
  have K2 := Lib.hid K2
  have K4 := Lib.hid K4
  clear hn ht hc hz
  by_cases h0 : n = 0
  · have f0 : (((n : Nat) : Int) != 0) = false := by rw [bne_eq_false_iff_eq]; omega
    have f0' : ((n : Nat) : Int) = 0 := by omega
    by_cases h2 : t ≠ 1 ∧ t ≠ 2
    · have f1 : (((t : Nat) : Int) != 1) = true := by rw [bne_iff_ne]; omega
      have f2 : (((t : Nat) : Int) != 2) = true := by rw [bne_iff_ne]; omega
      have f1' : ¬ ((t : Nat) : Int) = 1 := by omega
      have f2' : ¬ ((t : Nat) : Int) = 2 := by omega
      rw [if_neg (by simpa using h0), if_pos h2, decide_eq_true (.inr (.inl h2))]
      clear h0 h2
      go_enter Tryd.func35, Tryd.ntmps35
      go_wp2_with fail
      refine (K2.out _).mono ?_
      rintro e w' ⟨rfl, rfl⟩
      go_wp2_with fail
      refine (K0.out _).mono ?_
      rintro e w' ⟨rfl, rfl⟩
      go_wp2
      go_ret2
      exact ⟨rfl, rfl⟩
    · by_cases h4 : c = 0
      · subst h4
        rw [if_neg (by simpa using h0), if_neg h2, if_pos rfl, decide_eq_true (.inr (.inr rfl))]
        obtain rfl | rfl : t = 1 ∨ t = 2 := by omega
        all_goals
          clear h0 h2
          go_enter Tryd.func35, Tryd.ntmps35
          go_wp2_with fail
          refine (K2.out _).mono ?_
          rintro e w' ⟨rfl, rfl⟩
          go_wp2_with fail
          refine (K0.out _).mono ?_
          rintro e w' ⟨rfl, rfl⟩
          go_wp2_with fail
          refine (K4.out _).mono ?_
          rintro e w' ⟨rfl, rfl⟩
          go_wp2
          go_ret2
          exact ⟨rfl, rfl⟩
      · have g1 : (((c : Nat) : Int) == 0) = false := by rw [beq_eq_false_iff_ne]; omega
        have g2 : ¬ ((c : Nat) : Int) = 0 := by omega
        rw [if_neg (by simpa using h0), if_neg h2, if_neg h4, decide_eq_false (show ¬ _ from by rintro (h | h | h) <;> contradiction)]
        obtain rfl | rfl : t = 1 ∨ t = 2 := by omega
        all_goals
          clear h0 h2 h4
          go_enter Tryd.func35, Tryd.ntmps35
          go_wp2_with fail
          refine (K2.out _).mono ?_
          rintro e w' ⟨rfl, rfl⟩
          go_wp2_with fail
          refine (K0.out _).mono ?_
          rintro e w' ⟨rfl, rfl⟩
          go_wp2_with fail
          refine (K4.out _).mono ?_
          rintro e w' ⟨rfl, rfl⟩
          go_wp2
          go_ret2
          exact ⟨rfl, rfl⟩
  · have f0 : (((n : Nat) : Int) != 0) = true := by rw [bne_iff_ne]; omega
    have f0' : ¬ ((n : Nat) : Int) = 0 := by omega
    rw [if_pos h0, decide_eq_true (.inl h0)]
    clear h0
    go_enter Tryd.func35, Tryd.ntmps35
    go_wp2_with fail
    refine (K2.out _).mono ?_
    rintro e w' ⟨rfl, rfl⟩
    go_wp2_with fail
    refine (K0.out _).mono ?_
    rintro e w' ⟨rfl, rfl⟩
    go_wp2
    go_ret2
    exact ⟨rfl, rfl⟩

end Go.Proofs.YtibbebglbcjnmaaDoor.Id
