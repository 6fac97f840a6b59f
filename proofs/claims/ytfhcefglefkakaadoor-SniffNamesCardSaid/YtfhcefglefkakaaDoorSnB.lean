/- Layer 30: the law of names, walked. -/
import Derived.Test.YtfhcefglefkakaaDoorSnA
import Derived.Test.YtfhcefglefkakaaDoorSn9
namespace Go.Proofs.YtfhcefglefkakaaDoor.Sn
open Go.ChangeShapes Go.WideShapes Go.ChangeAt Go.RowKit
open Go.Proofs.YtfhcefglefkakaaDoor.Le Go.Proofs.YtfhcefglefkakaaDoor.Tk
set_option linter.unusedVariables false

set_option maxRecDepth 100000 in
set_option maxHeartbeats 1000000 in
theorem names_long (s : ByteArray) (f : Int) (h : 100 < s.size) (W : World) (HT : OrdT W) : Calls Tryd.prog 4 #[.string s, .int .i64 f] W fun e w' => e = .returned (.bool true) ∧ W.grownBy w' none := by
  have KA := Lib.hid (awake_calls W HT)
  have d0 : decide ((100 : Int) < (s.size : Int)) = true := decide_eq_true (by omega)
  clear HT h
  go_enter Tryd.func4, Tryd.ntmps4
  go_wp2_with fail
  refine KA.out.mono ?_
  rintro e w1 ⟨rfl, g1⟩
  go_wp2
  go_ret
  exact ⟨rfl, g1⟩

theorem nm_ext (k : Nat) (h1 : 1 ≤ k) (h8 : k ≤ 8) : nm (⟨#[120, 46]⟩ ++ extB k) = k := by
  obtain rfl | rfl | rfl | rfl | rfl | rfl | rfl | rfl : k = 1 ∨ k = 2 ∨ k = 3 ∨ k = 4 ∨ k = 5 ∨ k = 6 ∨ k = 7 ∨ k = 8 := by omega
  all_goals decide +kernel
theorem ext_ne (k : Nat) (h1 : 1 ≤ k) (h8 : k ≤ 8) : ((extB k).toList == []) = false := by
  obtain rfl | rfl | rfl | rfl | rfl | rfl | rfl | rfl : k = 1 ∨ k = 2 ∨ k = 3 ∨ k = 4 ∨ k = 5 ∨ k = 6 ∨ k = 7 ∨ k = 8 := by omega
  all_goals (rw [ByteArray.toList_eq]; decide)

set_option maxRecDepth 100000 in
set_option maxHeartbeats 2000000 in
theorem names_walk (s : ByteArray) (f : Int) (h : s.size ≤ 100) (W : World) (HT : OrdT W) : Calls Tryd.prog 4 #[.string s, .int .i64 f] W fun e w' => e = .returned (.bool true) ∧ W.grownBy w' none := by
  have KN := named_calls s (by omega) W HT
  have KR := fun u => rnamed_calls s (by omega) u
  have d0 : decide ((100 : Int) < (s.size : Int)) = false := decide_eq_false (by omega)
  have KA := Lib.hid (fun u (g : W.grownBy u none) => awake_calls u (HT.grown g (fun b e => by cases e)))
  obtain ⟨n, hn⟩ : ∃ n, nm s = n := ⟨_, rfl⟩
  rw [hn] at KN KR
  clear hn h
  by_cases hf : 1 ≤ f ∧ f ≤ 8
  · obtain ⟨k, rfl⟩ : ∃ k : Nat, f = k := ⟨f.toNat, by omega⟩
    have k1 : 1 ≤ k := by omega
    have k8 : k ≤ 8 := by omega
    have KE := fun u => ext_calls k k1 k8 u
    have KX := fun u (g : W.grownBy u none) => named_calls (⟨#[120, 46]⟩ ++ extB k) (by have := ext_le k; rw [ByteArray.size_append]; show 2 + _ ≤ _; omega) u (HT.grown g (fun b e => by cases e))
    have hne := ext_ne k k1 k8
    rw [nm_ext k k1 k8] at KX
    obtain ⟨x, hx⟩ : ∃ x, extB k = x := ⟨_, rfl⟩
    have hxs : x.size ≤ 3 := by rw [← hx]; exact ext_le k
    have hsum : ((⟨#[120, 46]⟩ : ByteArray).size : Int) + (x.size : Int) ≤ 9223372036854775807 := by show (2 : Int) + _ ≤ _; omega
    have hsum2 : (2 : Int) + (x.size : Int) ≤ 9223372036854775807 := by omega
    have hsum3 : 2 + x.size ≤ 9223372036854775807 := by omega
    rw [hx] at KE KX hne
    rw [show decide (k ≠ 0) = true from decide_eq_true (by omega)] at KX
    have e1 : decide ((k : Int) < 1) = false := decide_eq_false (by omega)
    have e2 : decide ((8 : Int) < (k : Int)) = false := decide_eq_false (by omega)
    have KE := Lib.hid KE
    have KX := Lib.hid KX
    have KN := Lib.hid KN
    have KR := Lib.hid KR
    clear HT hx hf k1 k8
    by_cases hn0 : n = 0
    · subst hn0
      go_enter Tryd.func4, Tryd.ntmps4
      go_wp2_with fail
      refine KN.out.mono ?_
      rintro e w1 ⟨rfl, g1⟩
      go_wp2_with fail
      refine (KR.out _).mono ?_
      rintro e w2 ⟨rfl, g2⟩
      have HG2 := Lib.hid (gb_trans g1 g2)
      clear g1 g2
      go_wp2_with fail
      refine (KE.out _).mono ?_
      rintro e w' ⟨rfl, rfl⟩
      go_wp2_with fail
      refine (KX.out _ HG2.out).mono ?_
      rintro e w3 ⟨rfl, g3⟩
      have HG3 := Lib.hid (gb_trans HG2.out g3)
      clear g3
      go_wp2_with fail
      refine (KA.out _ HG3.out).mono ?_
      rintro e w4 ⟨rfl, g4⟩
      go_wp2
      go_ret
      exact ⟨rfl, gb_trans HG3.out g4⟩
    · have n0 : ((n : Int) == 0) = false := by rw [beq_eq_false_iff_ne]; omega
      have n1 : ((n : Int) != 0) = true := by rw [bne_iff_ne]; omega
      have n2 : ¬ (n : Int) = 0 := by omega
      rw [show decide (n ≠ 0) = true from decide_eq_true hn0] at KN
      go_enter Tryd.func4, Tryd.ntmps4
      go_wp2_with fail
      refine KN.out.mono ?_
      rintro e w1 ⟨rfl, g1⟩
      go_wp2_with fail
      refine (KR.out _).mono ?_
      rintro e w2 ⟨rfl, g2⟩
      have HG2 := Lib.hid (gb_trans g1 g2)
      clear g1 g2
      go_wp2_with fail
      refine (KE.out _).mono ?_
      rintro e w' ⟨rfl, rfl⟩
      go_wp2_with fail
      refine (KX.out _ HG2.out).mono ?_
      rintro e w3 ⟨rfl, g3⟩
      have HG3 := Lib.hid (gb_trans HG2.out g3)
      clear g3
      go_wp2_with fail
      refine (KA.out _ HG3.out).mono ?_
      rintro e w4 ⟨rfl, g4⟩
      go_wp2
      go_ret
      exact ⟨rfl, gb_trans HG3.out g4⟩
  · have KE := fun u => ext_none f (by omega) u
    have e1 : decide (f < 1) = true ∨ (decide (f < 1) = false ∧ decide ((8 : Int) < f) = true) := by
      by_cases h1 : f < 1
      · exact .inl (decide_eq_true h1)
      · exact .inr ⟨decide_eq_false h1, decide_eq_true (by omega)⟩
    have KE := Lib.hid KE
    have KN := Lib.hid KN
    have KR := Lib.hid KR
    clear HT hf
    by_cases hn0 : n = 0
    · subst hn0
      rcases e1 with e1 | ⟨e1, e2⟩
      all_goals
        go_enter Tryd.func4, Tryd.ntmps4
        go_wp2_with fail
        refine KN.out.mono ?_
        rintro e w1 ⟨rfl, g1⟩
        go_wp2_with fail
        refine (KR.out _).mono ?_
        rintro e w2 ⟨rfl, g2⟩
        have HG2 := Lib.hid (gb_trans g1 g2)
        clear g1 g2
        go_wp2_with fail
        refine (KE.out _).mono ?_
        rintro e w' ⟨rfl, rfl⟩
        go_wp2_with fail
        refine (KA.out _ HG2.out).mono ?_
        rintro e w4 ⟨rfl, g4⟩
        go_wp2
        go_ret
        exact ⟨rfl, gb_trans HG2.out g4⟩
    · have n0 : ((n : Int) == 0) = false := by rw [beq_eq_false_iff_ne]; omega
      have n1 : ((n : Int) != 0) = true := by rw [bne_iff_ne]; omega
      have n2 : ¬ (n : Int) = 0 := by omega
      rw [show decide (n ≠ 0) = true from decide_eq_true hn0] at KN
      rcases e1 with e1 | ⟨e1, e2⟩
      all_goals
        go_enter Tryd.func4, Tryd.ntmps4
        go_wp2_with fail
        refine KN.out.mono ?_
        rintro e w1 ⟨rfl, g1⟩
        go_wp2_with fail
        refine (KR.out _).mono ?_
        rintro e w2 ⟨rfl, g2⟩
        have HG2 := Lib.hid (gb_trans g1 g2)
        clear g1 g2
        go_wp2_with fail
        refine (KE.out _).mono ?_
        rintro e w' ⟨rfl, rfl⟩
        go_wp2_with fail
        refine (KA.out _ HG2.out).mono ?_
        rintro e w4 ⟨rfl, g4⟩
        go_wp2
        go_ret
        exact ⟨rfl, gb_trans HG2.out g4⟩

theorem names_any (s : ByteArray) (f : Int) (W : World) (HT : OrdT W) : Calls Tryd.prog 4 #[.string s, .int .i64 f] W fun e w' => e = .returned (.bool true) ∧ W.grownBy w' none := by
  by_cases h : s.size ≤ 100
  · exact names_walk s f h W HT
  · exact names_long s f (by omega) W HT

end Go.Proofs.YtfhcefglefkakaaDoor.Sn
