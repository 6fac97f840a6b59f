/- The law PnmheadSizes, walked (written by wip/gen/pnh9.py). -/
import Derived.Test.YtckkkdiekamiaaaPnh8
import Derived.Deep.RegionHeld3
namespace Go.Proofs.Ytckkkdiekamiaaa.Ph
open Go.ChangeShapes Go.WideShapes Go.ChangeAt Go.RowKit
open Go.Proofs.Ytckkkdiekamiaaa.Le Go.Proofs.Ytckkkdiekamiaaa.Sr Go.Proofs.Ytckkkdiekamiaaa.Tk
set_option linter.unusedVariables false

theorem text_quiet (x : Int) (W : World) (k : Nat) : Calls Try.prog 25 #[.int .i64 x] (W.drewN k) fun e w' => e = .returned (.bool (rgB 1 3 x)) ∧ w' = W.drewN k :=
  (text_calls x (W.drewN k)).mono (fun _ _ ⟨a, b⟩ => ⟨a, b.symm⟩)
theorem colors_quiet (x : Int) (W : World) (k : Nat) : Calls Try.prog 26 #[.int .i64 x] (W.drewN k) fun e w' => e = .returned (.bool (orB 3 6 x)) ∧ w' = W.drewN k :=
  (colors_calls x (W.drewN k)).mono (fun _ _ ⟨a, b⟩ => ⟨a, b.symm⟩)

/-- May a head be asked? As the law asks. -/
theorem may_is (k w h m : Int) : mayB k w h m = (decide (4 ≤ k) && decide (k ≤ 6) && decide (1 ≤ w) && decide (w ≤ 16384) && decide (1 ≤ h) && decide (h ≤ 16384) && decide (1 ≤ m) && decide (m ≤ 65535)) := by
  rw [Bool.eq_iff_iff]
  simp only [mayB, rgB, Bool.and_eq_true, Bool.not_eq_true', Bool.and_eq_false_iff, decide_eq_true_eq, decide_eq_false_iff_not]
  omega

/-- Which of a kind's tests hold. -/
theorem kinds (k : Int) : (k = 1 ∨ k = 2 ∨ k = 3 ∨ k = 6) ∨ ((k == 1) = false ∧ (k == 2) = false ∧ (k == 3) = false ∧ (k == 6) = false ∧ rgB 1 3 k = false ∧ orB 3 6 k = false) := by
  by_cases h : k = 1 ∨ k = 2 ∨ k = 3 ∨ k = 6
  · exact .inl h
  · refine .inr ⟨?_, ?_, ?_, ?_, ?_, ?_⟩
    · rw [beq_eq_false_iff_ne]; omega
    · rw [beq_eq_false_iff_ne]; omega
    · rw [beq_eq_false_iff_ne]; omega
    · rw [beq_eq_false_iff_ne]; omega
    · exact (rgB_not 1 3 k).2 (by omega)
    · exact (orB_not 3 6 k).2 (by omega)

theorem rowV_le (k w m : Nat) (hw : w ≤ 16384) : rowV k w m ≤ 98304 := by
  unfold rowV
  split
  · omega
  · by_cases h6 : k = 6
    · rw [if_pos h6]
      split <;> omega
    · rw [if_neg h6]
      split <;> omega

theorem may_cases (k w h m : Int) (hm : mayB k w h m = false) : (decide (4 ≤ k) = false) ∨ (decide (4 ≤ k) = true ∧ decide (k ≤ 6) = false) ∨ (decide (4 ≤ k) = true ∧ decide (k ≤ 6) = true ∧ decide (1 ≤ w) = false) ∨ (decide (4 ≤ k) = true ∧ decide (k ≤ 6) = true ∧ decide (1 ≤ w) = true ∧ decide (w ≤ 16384) = false) ∨ (decide (4 ≤ k) = true ∧ decide (k ≤ 6) = true ∧ decide (1 ≤ w) = true ∧ decide (w ≤ 16384) = true ∧ decide (1 ≤ h) = false) ∨ (decide (4 ≤ k) = true ∧ decide (k ≤ 6) = true ∧ decide (1 ≤ w) = true ∧ decide (w ≤ 16384) = true ∧ decide (1 ≤ h) = true ∧ decide (h ≤ 16384) = false) ∨ (decide (4 ≤ k) = true ∧ decide (k ≤ 6) = true ∧ decide (1 ≤ w) = true ∧ decide (w ≤ 16384) = true ∧ decide (1 ≤ h) = true ∧ decide (h ≤ 16384) = true ∧ decide (1 ≤ m) = false) ∨ (decide (4 ≤ k) = true ∧ decide (k ≤ 6) = true ∧ decide (1 ≤ w) = true ∧ decide (w ≤ 16384) = true ∧ decide (1 ≤ h) = true ∧ decide (h ≤ 16384) = true ∧ decide (1 ≤ m) = true ∧ decide (m ≤ 65535) = false) := by
  rw [may_is] at hm
  revert hm
  generalize decide (4 ≤ k) = b0
  generalize decide (k ≤ 6) = b1
  generalize decide (1 ≤ w) = b2
  generalize decide (w ≤ 16384) = b3
  generalize decide (1 ≤ h) = b4
  generalize decide (h ≤ 16384) = b5
  generalize decide (1 ≤ m) = b6
  generalize decide (m ≤ 65535) = b7
  intro hm
  cases b0 with
  | false => exact .inl rfl
  | true =>
    cases b1 with
    | false => exact .inr (.inl ⟨rfl, rfl⟩)
    | true =>
      cases b2 with
      | false => exact .inr (.inr (.inl ⟨rfl, rfl, rfl⟩))
      | true =>
        cases b3 with
        | false => exact .inr (.inr (.inr (.inl ⟨rfl, rfl, rfl, rfl⟩)))
        | true =>
          cases b4 with
          | false => exact .inr (.inr (.inr (.inr (.inl ⟨rfl, rfl, rfl, rfl, rfl⟩))))
          | true =>
            cases b5 with
            | false => exact .inr (.inr (.inr (.inr (.inr (.inl ⟨rfl, rfl, rfl, rfl, rfl, rfl⟩)))))
            | true =>
              cases b6 with
              | false => exact .inr (.inr (.inr (.inr (.inr (.inr (.inl ⟨rfl, rfl, rfl, rfl, rfl, rfl, rfl⟩))))))
              | true =>
                cases b7 with
                | false => exact .inr (.inr (.inr (.inr (.inr (.inr (.inr ⟨rfl, rfl, rfl, rfl, rfl, rfl, rfl, rfl⟩))))))
                | true =>
                  exact absurd hm (by decide)

set_option maxRecDepth 100000 in
set_option maxHeartbeats 8000000 in
theorem sizes_1 (w h m a : Int) (W : World) (hm : mayB 1 w h m = false) :
    Calls Try.prog 7 #[.agg #[.int .i64 1, .int .i64 w, .int .i64 h, .int .i64 m, .int .i64 a]] W fun e w' => e = .returned (.bool true) ∧ W.grownBy w' none := by
  have KS := Lib.hid (fun u => size_no 1 w h m a u hm)
  have QT := fun u n => text_quiet 1 u n
  have QC := fun u n => colors_quiet 1 u n
  simp only [show rgB 1 3 1 = true from by decide] at QT
  simp only [show orB 3 6 1 = false from by decide] at QC
  have QT := Lib.hid QT
  have QC := Lib.hid QC
  clear hm
  go_enter Try.func7, Try.ntmps7
  go_wp2_with fail
  refine (KS.out _).mono ?_
  rintro e w1 ⟨rfl, g1⟩
  have D9 : Hc W.heap.size 1 w h m a w1 := old1 g1 (by simp)
  have G1 := Lib.hid (gb_trans (World.grownBy_alloc W (.cells #[.int .i64 1, .int .i64 w, .int .i64 h, .int .i64 m, .int .i64 a] 48) none) g1)
  have q0 := D9.c0
  have q1 := D9.c1
  have q2 := D9.c2
  have q3 := D9.c3
  have q4 := D9.c4
  clear D9 g1
  have AW := Lib.hid (fun u => awake_calls u)
  go_wp2_with fail
  go_quiet (first | (go_at_call 25; exact Calls.quiet_of_same (QT.out _ _)) | (go_at_call 26; exact Calls.quiet_of_same (QC.out _ _)))
  go_wp2_with fail
  refine (AW.out _).mono ?_
  rintro e w2 ⟨rfl, g2⟩
  have G2 := Lib.hid (gb_trans (gb_trans G1.out (gb_drewN _ _ none)) g2)
  clear g2
  go_wp2
  go_ret
  exact ⟨rfl, G2.out⟩

set_option maxRecDepth 100000 in
set_option maxHeartbeats 8000000 in
theorem sizes_2 (w h m a : Int) (W : World) (hm : mayB 2 w h m = false) :
    Calls Try.prog 7 #[.agg #[.int .i64 2, .int .i64 w, .int .i64 h, .int .i64 m, .int .i64 a]] W fun e w' => e = .returned (.bool true) ∧ W.grownBy w' none := by
  have KS := Lib.hid (fun u => size_no 2 w h m a u hm)
  have QT := fun u n => text_quiet 2 u n
  have QC := fun u n => colors_quiet 2 u n
  simp only [show rgB 1 3 2 = true from by decide] at QT
  simp only [show orB 3 6 2 = false from by decide] at QC
  have QT := Lib.hid QT
  have QC := Lib.hid QC
  clear hm
  go_enter Try.func7, Try.ntmps7
  go_wp2_with fail
  refine (KS.out _).mono ?_
  rintro e w1 ⟨rfl, g1⟩
  have D9 : Hc W.heap.size 2 w h m a w1 := old1 g1 (by simp)
  have G1 := Lib.hid (gb_trans (World.grownBy_alloc W (.cells #[.int .i64 2, .int .i64 w, .int .i64 h, .int .i64 m, .int .i64 a] 48) none) g1)
  have q0 := D9.c0
  have q1 := D9.c1
  have q2 := D9.c2
  have q3 := D9.c3
  have q4 := D9.c4
  clear D9 g1
  have AW := Lib.hid (fun u => awake_calls u)
  go_wp2_with fail
  go_quiet (first | (go_at_call 25; exact Calls.quiet_of_same (QT.out _ _)) | (go_at_call 26; exact Calls.quiet_of_same (QC.out _ _)))
  go_wp2_with fail
  refine (AW.out _).mono ?_
  rintro e w2 ⟨rfl, g2⟩
  have G2 := Lib.hid (gb_trans (gb_trans G1.out (gb_drewN _ _ none)) g2)
  clear g2
  go_wp2
  go_ret
  exact ⟨rfl, G2.out⟩

set_option maxRecDepth 100000 in
set_option maxHeartbeats 8000000 in
theorem sizes_3 (w h m a : Int) (W : World) (hm : mayB 3 w h m = false) :
    Calls Try.prog 7 #[.agg #[.int .i64 3, .int .i64 w, .int .i64 h, .int .i64 m, .int .i64 a]] W fun e w' => e = .returned (.bool true) ∧ W.grownBy w' none := by
  have KS := Lib.hid (fun u => size_no 3 w h m a u hm)
  have QT := fun u n => text_quiet 3 u n
  have QC := fun u n => colors_quiet 3 u n
  simp only [show rgB 1 3 3 = true from by decide] at QT
  simp only [show orB 3 6 3 = true from by decide] at QC
  have QT := Lib.hid QT
  have QC := Lib.hid QC
  clear hm
  go_enter Try.func7, Try.ntmps7
  go_wp2_with fail
  refine (KS.out _).mono ?_
  rintro e w1 ⟨rfl, g1⟩
  have D9 : Hc W.heap.size 3 w h m a w1 := old1 g1 (by simp)
  have G1 := Lib.hid (gb_trans (World.grownBy_alloc W (.cells #[.int .i64 3, .int .i64 w, .int .i64 h, .int .i64 m, .int .i64 a] 48) none) g1)
  have q0 := D9.c0
  have q1 := D9.c1
  have q2 := D9.c2
  have q3 := D9.c3
  have q4 := D9.c4
  clear D9 g1
  have AW := Lib.hid (fun u => awake_calls u)
  go_wp2_with fail
  go_quiet (first | (go_at_call 25; exact Calls.quiet_of_same (QT.out _ _)) | (go_at_call 26; exact Calls.quiet_of_same (QC.out _ _)))
  go_wp2_with fail
  refine (AW.out _).mono ?_
  rintro e w2 ⟨rfl, g2⟩
  have G2 := Lib.hid (gb_trans (gb_trans G1.out (gb_drewN _ _ none)) g2)
  clear g2
  go_wp2
  go_ret
  exact ⟨rfl, G2.out⟩

set_option maxRecDepth 100000 in
set_option maxHeartbeats 8000000 in
theorem sizes_6 (w h m a : Int) (W : World) (hm : mayB 6 w h m = false) :
    Calls Try.prog 7 #[.agg #[.int .i64 6, .int .i64 w, .int .i64 h, .int .i64 m, .int .i64 a]] W fun e w' => e = .returned (.bool true) ∧ W.grownBy w' none := by
  have KS := Lib.hid (fun u => size_no 6 w h m a u hm)
  have QT := fun u n => text_quiet 6 u n
  have QC := fun u n => colors_quiet 6 u n
  simp only [show rgB 1 3 6 = false from by decide] at QT
  simp only [show orB 3 6 6 = true from by decide] at QC
  have QT := Lib.hid QT
  have QC := Lib.hid QC
  have hcc := may_cases 6 w h m hm
  clear hm
  go_enter Try.func7, Try.ntmps7
  go_wp2_with fail
  refine (KS.out _).mono ?_
  rintro e w1 ⟨rfl, g1⟩
  have D9 : Hc W.heap.size 6 w h m a w1 := old1 g1 (by simp)
  have G1 := Lib.hid (gb_trans (World.grownBy_alloc W (.cells #[.int .i64 6, .int .i64 w, .int .i64 h, .int .i64 m, .int .i64 a] 48) none) g1)
  have q0 := D9.c0
  have q1 := D9.c1
  have q2 := D9.c2
  have q3 := D9.c3
  have q4 := D9.c4
  clear D9 g1
  have AW := Lib.hid (fun u => awake_calls u)
  rcases hcc with d0 | ⟨d0, d1⟩ | ⟨d0, d1, d2⟩ | ⟨d0, d1, d2, d3⟩ | ⟨d0, d1, d2, d3, d4⟩ | ⟨d0, d1, d2, d3, d4, d5⟩ | ⟨d0, d1, d2, d3, d4, d5, d6⟩ | ⟨d0, d1, d2, d3, d4, d5, d6, d7⟩
  · exact absurd d0 (by decide)
  · exact absurd d1 (by decide)
  · go_wp2_with fail
    go_quiet (first | (go_at_call 25; exact Calls.quiet_of_same (QT.out _ _)) | (go_at_call 26; exact Calls.quiet_of_same (QC.out _ _)))
    go_wp2_with fail
    refine (AW.out _).mono ?_
    rintro e w2 ⟨rfl, g2⟩
    have G2 := Lib.hid (gb_trans (gb_trans G1.out (gb_drewN _ _ none)) g2)
    clear g2
    go_wp2
    go_ret
    exact ⟨rfl, G2.out⟩
  · go_wp2_with fail
    go_quiet (first | (go_at_call 25; exact Calls.quiet_of_same (QT.out _ _)) | (go_at_call 26; exact Calls.quiet_of_same (QC.out _ _)))
    go_wp2_with fail
    refine (AW.out _).mono ?_
    rintro e w2 ⟨rfl, g2⟩
    have G2 := Lib.hid (gb_trans (gb_trans G1.out (gb_drewN _ _ none)) g2)
    clear g2
    go_wp2
    go_ret
    exact ⟨rfl, G2.out⟩
  · go_wp2_with fail
    go_quiet (first | (go_at_call 25; exact Calls.quiet_of_same (QT.out _ _)) | (go_at_call 26; exact Calls.quiet_of_same (QC.out _ _)))
    go_wp2_with fail
    refine (AW.out _).mono ?_
    rintro e w2 ⟨rfl, g2⟩
    have G2 := Lib.hid (gb_trans (gb_trans G1.out (gb_drewN _ _ none)) g2)
    clear g2
    go_wp2
    go_ret
    exact ⟨rfl, G2.out⟩
  · go_wp2_with fail
    go_quiet (first | (go_at_call 25; exact Calls.quiet_of_same (QT.out _ _)) | (go_at_call 26; exact Calls.quiet_of_same (QC.out _ _)))
    go_wp2_with fail
    refine (AW.out _).mono ?_
    rintro e w2 ⟨rfl, g2⟩
    have G2 := Lib.hid (gb_trans (gb_trans G1.out (gb_drewN _ _ none)) g2)
    clear g2
    go_wp2
    go_ret
    exact ⟨rfl, G2.out⟩
  · go_wp2_with fail
    go_quiet (first | (go_at_call 25; exact Calls.quiet_of_same (QT.out _ _)) | (go_at_call 26; exact Calls.quiet_of_same (QC.out _ _)))
    go_wp2_with fail
    refine (AW.out _).mono ?_
    rintro e w2 ⟨rfl, g2⟩
    have G2 := Lib.hid (gb_trans (gb_trans G1.out (gb_drewN _ _ none)) g2)
    clear g2
    go_wp2
    go_ret
    exact ⟨rfl, G2.out⟩
  · go_wp2_with fail
    go_quiet (first | (go_at_call 25; exact Calls.quiet_of_same (QT.out _ _)) | (go_at_call 26; exact Calls.quiet_of_same (QC.out _ _)))
    go_wp2_with fail
    refine (AW.out _).mono ?_
    rintro e w2 ⟨rfl, g2⟩
    have G2 := Lib.hid (gb_trans (gb_trans G1.out (gb_drewN _ _ none)) g2)
    clear g2
    go_wp2
    go_ret
    exact ⟨rfl, G2.out⟩

set_option maxRecDepth 100000 in
set_option maxHeartbeats 8000000 in
theorem sizes_else (k w h m a : Int) (W : World) (hm : mayB k w h m = false) (e1 : (k == 1) = false) (e2 : (k == 2) = false) (e3 : (k == 3) = false) (e6 : (k == 6) = false) (hT : rgB 1 3 k = false) (hC : orB 3 6 k = false) :
    Calls Try.prog 7 #[.agg #[.int .i64 k, .int .i64 w, .int .i64 h, .int .i64 m, .int .i64 a]] W fun e w' => e = .returned (.bool true) ∧ W.grownBy w' none := by
  have KS := Lib.hid (fun u => size_no k w h m a u hm)
  have QT := fun u n => text_quiet k u n
  have QC := fun u n => colors_quiet k u n
  simp only [hT] at QT
  simp only [hC] at QC
  have QT := Lib.hid QT
  have QC := Lib.hid QC
  have hcc := may_cases k w h m hm
  clear hm hT hC
  go_enter Try.func7, Try.ntmps7
  go_wp2_with fail
  refine (KS.out _).mono ?_
  rintro e w1 ⟨rfl, g1⟩
  have D9 : Hc W.heap.size k w h m a w1 := old1 g1 (by simp)
  have G1 := Lib.hid (gb_trans (World.grownBy_alloc W (.cells #[.int .i64 k, .int .i64 w, .int .i64 h, .int .i64 m, .int .i64 a] 48) none) g1)
  have q0 := D9.c0
  have q1 := D9.c1
  have q2 := D9.c2
  have q3 := D9.c3
  have q4 := D9.c4
  clear D9 g1
  have AW := Lib.hid (fun u => awake_calls u)
  rcases hcc with d0 | ⟨d0, d1⟩ | ⟨d0, d1, d2⟩ | ⟨d0, d1, d2, d3⟩ | ⟨d0, d1, d2, d3, d4⟩ | ⟨d0, d1, d2, d3, d4, d5⟩ | ⟨d0, d1, d2, d3, d4, d5, d6⟩ | ⟨d0, d1, d2, d3, d4, d5, d6, d7⟩
  · go_wp2_with fail
    go_quiet (first | (go_at_call 25; exact Calls.quiet_of_same (QT.out _ _)) | (go_at_call 26; exact Calls.quiet_of_same (QC.out _ _)))
    go_wp2_with fail
    refine (AW.out _).mono ?_
    rintro e w2 ⟨rfl, g2⟩
    have G2 := Lib.hid (gb_trans (gb_trans G1.out (gb_drewN _ _ none)) g2)
    clear g2
    go_wp2
    go_ret
    exact ⟨rfl, G2.out⟩
  · go_wp2_with fail
    go_quiet (first | (go_at_call 25; exact Calls.quiet_of_same (QT.out _ _)) | (go_at_call 26; exact Calls.quiet_of_same (QC.out _ _)))
    go_wp2_with fail
    refine (AW.out _).mono ?_
    rintro e w2 ⟨rfl, g2⟩
    have G2 := Lib.hid (gb_trans (gb_trans G1.out (gb_drewN _ _ none)) g2)
    clear g2
    go_wp2
    go_ret
    exact ⟨rfl, G2.out⟩
  · go_wp2_with fail
    go_quiet (first | (go_at_call 25; exact Calls.quiet_of_same (QT.out _ _)) | (go_at_call 26; exact Calls.quiet_of_same (QC.out _ _)))
    go_wp2_with fail
    refine (AW.out _).mono ?_
    rintro e w2 ⟨rfl, g2⟩
    have G2 := Lib.hid (gb_trans (gb_trans G1.out (gb_drewN _ _ none)) g2)
    clear g2
    go_wp2
    go_ret
    exact ⟨rfl, G2.out⟩
  · go_wp2_with fail
    go_quiet (first | (go_at_call 25; exact Calls.quiet_of_same (QT.out _ _)) | (go_at_call 26; exact Calls.quiet_of_same (QC.out _ _)))
    go_wp2_with fail
    refine (AW.out _).mono ?_
    rintro e w2 ⟨rfl, g2⟩
    have G2 := Lib.hid (gb_trans (gb_trans G1.out (gb_drewN _ _ none)) g2)
    clear g2
    go_wp2
    go_ret
    exact ⟨rfl, G2.out⟩
  · go_wp2_with fail
    go_quiet (first | (go_at_call 25; exact Calls.quiet_of_same (QT.out _ _)) | (go_at_call 26; exact Calls.quiet_of_same (QC.out _ _)))
    go_wp2_with fail
    refine (AW.out _).mono ?_
    rintro e w2 ⟨rfl, g2⟩
    have G2 := Lib.hid (gb_trans (gb_trans G1.out (gb_drewN _ _ none)) g2)
    clear g2
    go_wp2
    go_ret
    exact ⟨rfl, G2.out⟩
  · go_wp2_with fail
    go_quiet (first | (go_at_call 25; exact Calls.quiet_of_same (QT.out _ _)) | (go_at_call 26; exact Calls.quiet_of_same (QC.out _ _)))
    go_wp2_with fail
    refine (AW.out _).mono ?_
    rintro e w2 ⟨rfl, g2⟩
    have G2 := Lib.hid (gb_trans (gb_trans G1.out (gb_drewN _ _ none)) g2)
    clear g2
    go_wp2
    go_ret
    exact ⟨rfl, G2.out⟩
  · go_wp2_with fail
    go_quiet (first | (go_at_call 25; exact Calls.quiet_of_same (QT.out _ _)) | (go_at_call 26; exact Calls.quiet_of_same (QC.out _ _)))
    go_wp2_with fail
    refine (AW.out _).mono ?_
    rintro e w2 ⟨rfl, g2⟩
    have G2 := Lib.hid (gb_trans (gb_trans G1.out (gb_drewN _ _ none)) g2)
    clear g2
    go_wp2
    go_ret
    exact ⟨rfl, G2.out⟩
  · go_wp2_with fail
    go_quiet (first | (go_at_call 25; exact Calls.quiet_of_same (QT.out _ _)) | (go_at_call 26; exact Calls.quiet_of_same (QC.out _ _)))
    go_wp2_with fail
    refine (AW.out _).mono ?_
    rintro e w2 ⟨rfl, g2⟩
    have G2 := Lib.hid (gb_trans (gb_trans G1.out (gb_drewN _ _ none)) g2)
    clear g2
    go_wp2
    go_ret
    exact ⟨rfl, G2.out⟩

theorem sizes_no (k w h m a : Int) (W : World) (hm : mayB k w h m = false) :
    Calls Try.prog 7 #[.agg #[.int .i64 k, .int .i64 w, .int .i64 h, .int .i64 m, .int .i64 a]] W fun e w' => e = .returned (.bool true) ∧ W.grownBy w' none := by
  rcases kinds k with (rfl | rfl | rfl | rfl) | ⟨e1, e2, e3, e6, hT, hC⟩
  · exact sizes_1 w h m a W hm
  · exact sizes_2 w h m a W hm
  · exact sizes_3 w h m a W hm
  · exact sizes_6 w h m a W hm
  · exact sizes_else k w h m a W hm e1 e2 e3 e6 hT hC


end Go.Proofs.Ytckkkdiekamiaaa.Ph
