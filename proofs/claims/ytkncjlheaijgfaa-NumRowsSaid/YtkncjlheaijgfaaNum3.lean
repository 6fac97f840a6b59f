/- The document's bytes of a row by the code's own terms, and layer 1's examples. -/
import Derived.Test.YtkncjlheaijgfaaNum2
namespace Go.Proofs.Ytkncjlheaijgfaa.Nu
open Go.ChangeShapes Go.WideShapes Go.ChangeAt Go.RowKit
set_option linter.unusedVariables false

theorem str_a {a b c : Int} (h : isB a = false) : strOk a b c = false := strOk_3 (mulOk_1 h)
theorem str_b {a b c : Int} (h : isB b = false) : strOk a b c = false := strOk_3 (mulOk_2 h)
theorem str_c {a b c : Int} (h : isB c = false) : strOk a b c = false := strOk_4 (ceilOk_2 h)
theorem str_z {a b : Int} : strOk a b 0 = false := strOk_4 (ceilOk_3 rfl)
theorem tm8 {c : Int} (h : 0 ≤ c) : c.tmod 8 = c % 8 := Int.tmod_eq_emod_of_nonneg h

theorem str_whole {a b c : Int} (hb : (b == 0) = false) (hc0 : 0 < c) (hc : isB c = true) (h8 : c % 8 = 0) (hm : mulOk a b = true) (hr : mulV a b % c = 0) :
    strOk a b c = true ∧ strV a b c = mulV a b / 8 := by
  obtain ⟨m0, m1⟩ := mulV_bd a b
  obtain ⟨c0, c1⟩ := isB_of hc
  have h4 : ceilOk (mulV a b) c = true := ceilOk_4 (isB_yes m0 m1) hc hc0
  have h4' := ceilV_at h4 (by omega)
  obtain ⟨q0, q1⟩ := quo_bd m0 m1 hc0
  have qm := quo_mul (a := mulV a b) (b := c)
  have h5 : mulOk (ceilV (mulV a b) c) c = true := by
    rw [h4']; exact mulOk_4 (isB_yes q0 q1) hc (by omega)
  have h := strOk_6 hb (by rw [tm8 c0]; simp [h8]) hm h4 h5
  refine ⟨h, ?_⟩
  rw [strV_yes h, mulV_yes h5, h4', qm, hr, Int.sub_zero]

theorem str_up {a b c : Int} (hb : (b == 0) = false) (hc0 : 0 < c) (hc : isB c = true) (h8 : c % 8 = 0) (hm : mulOk a b = true) (hr : 0 < mulV a b % c) :
    strOk a b c = addOk (mulV a b - mulV a b % c) c ∧ strV a b c = addV (mulV a b - mulV a b % c) c / 8 := by
  obtain ⟨m0, m1⟩ := mulV_bd a b
  obtain ⟨c0, c1⟩ := isB_of hc
  have h4 : ceilOk (mulV a b) c = true := ceilOk_4 (isB_yes m0 m1) hc hc0
  have h4' := ceilV_up h4 hr
  obtain ⟨q0, q1⟩ := quo_bd m0 m1 hc0
  have qm := quo_mul (a := mulV a b) (b := c)
  have rl : mulV a b % c ≤ mulV a b := by
    have := Int.mul_nonneg q0 c0; omega
  have hs : (mulV a b / c + 1) * c = mulV a b - mulV a b % c + c := by rw [Int.add_mul, qm]; omega
  have hx : isB (mulV a b - mulV a b % c) = true := isB_yes (by omega) (by omega)
  by_cases hT : mulV a b - mulV a b % c + c ≤ 4611686018427387904
  · have hq : mulV a b / c + 1 ≤ (mulV a b / c + 1) * c := by
      have := Int.mul_le_mul_of_nonneg_left (show 1 ≤ c by omega) (show 0 ≤ mulV a b / c + 1 by omega); omega
    have h5 : mulOk (ceilV (mulV a b) c) c = true := by
      rw [h4']; exact mulOk_4 (isB_yes (by omega) (by omega)) hc (by omega)
    have h := strOk_6 hb (by rw [tm8 c0]; simp [h8]) hm h4 h5
    have ha := addOk_4 hx hc hT
    refine ⟨by rw [h, ha], ?_⟩
    rw [strV_yes h, mulV_yes h5, h4', hs, addV_yes ha]
  · have h5 : mulOk (ceilV (mulV a b) c) c = false := by
      rw [h4']; exact mulOk_3 (by omega)
    have h := strOk_5 h5
    have ha : addOk (mulV a b - mulV a b % c) c = false := addOk_3 (by omega)
    refine ⟨by rw [h, ha], ?_⟩
    rw [strV_no h, addV_no ha]; rfl

theorem stride17 (a b c : Int) (w : World) : Calls Try.prog 17 #[.int .i64 a, .int .i64 b, .int .i64 c] w fun e w' => e = .returned (.tuple #[.int .i64 (strV a b c), .bool (strOk a b c)]) ∧ w = w' := by
  cases ha : isB a
  · rw [strV_no (str_a ha), str_a ha]
    go_enter Try.func17, Try.ntmps17
    go_wp2_with (go_at_call 39; refine (is39 _ _).mono ?_; rintro e w' ⟨rfl, rfl⟩)
    go_ret2
    exact ⟨rfl, rfl⟩
  cases hb : isB b
  · rw [strV_no (str_b hb), str_b hb]
    go_enter Try.func17, Try.ntmps17
    go_wp2_with (go_at_call 39; refine (is39 _ _).mono ?_; rintro e w' ⟨rfl, rfl⟩)
    go_ret2
    exact ⟨rfl, rfl⟩
  cases hc : isB c
  · rw [strV_no (str_c hc), str_c hc]
    go_enter Try.func17, Try.ntmps17
    go_wp2_with (go_at_call 39; refine (is39 _ _).mono ?_; rintro e w' ⟨rfl, rfl⟩)
    go_ret2
    exact ⟨rfl, rfl⟩
  obtain ⟨b0, b1⟩ := isB_of hb
  obtain ⟨c0, c1⟩ := isB_of hc
  by_cases hb0 : b = 0
  · subst hb0
    rw [strV_no strOk_1, strOk_1]
    go_enter Try.func17, Try.ntmps17
    go_wp2_with (go_at_call 39; refine (is39 _ _).mono ?_; rintro e w' ⟨rfl, rfl⟩)
    go_ret2
    exact ⟨rfl, rfl⟩
  have yb : (b == 0) = false := by simp; omega
  clear hb0
  by_cases hc0 : c = 0
  · subst hc0
    rw [strV_no str_z, str_z]
    go_enter Try.func17, Try.ntmps17
    go_wp2_with (go_at_call 39; refine (is39 _ _).mono ?_; rintro e w' ⟨rfl, rfl⟩)
    go_ret2
    exact ⟨rfl, rfl⟩
  have yc : (c == 0) = false := by simp; omega
  have cp : 0 < c := by omega
  clear hc0
  have e8 := tm8 c0
  by_cases h8 : c % 8 = 0
  · have y8 : (c % 8 != 0) = false := by simp [h8]
    have H8 := Lib.hid h8
    clear h8 e8
    cases hm : mulOk a b
    · rw [strV_no (strOk_3 hm), strOk_3 hm]
      go_enter Try.func17, Try.ntmps17
      go_wp2_with (first | (go_at_call 39; refine (is39 _ _).mono ?_; rintro e w' ⟨rfl, rfl⟩) | (go_at_call 12; refine (mul12 _ _ _).mono ?_; rintro e w' ⟨rfl, rfl⟩))
      go_ret2
      exact ⟨rfl, rfl⟩
    obtain ⟨m0, m1⟩ := mulV_bd a b
    have r0 : 0 ≤ mulV a b % c := Int.emod_nonneg _ (by omega)
    by_cases hr : mulV a b % c = 0
    · obtain ⟨s1, s2⟩ := str_whole yb cp hc H8.out hm hr
      rw [s1, s2]
      have yr : (mulV a b % c == 0) = true := by simp [hr]
      clear s1 s2 hr
      go_enter Try.func17, Try.ntmps17
      go_wp2_with (first | (go_at_call 39; refine (is39 _ _).mono ?_; rintro e w' ⟨rfl, rfl⟩) | (go_at_call 12; refine (mul12 _ _ _).mono ?_; rintro e w' ⟨rfl, rfl⟩))
      go_ret2
      exact ⟨rfl, rfl⟩
    · obtain ⟨s1, s2⟩ := str_up yb cp hc H8.out hm (by omega)
      rw [s1, s2]
      have yr : (mulV a b % c == 0) = false := by simp [hr]
      have rl : mulV a b % c ≤ mulV a b := by
        have := quo_mul (a := mulV a b) (b := c)
        have := Int.mul_nonneg (quo_bd m0 m1 cp).1 c0; omega
      clear s1 s2 hr
      cases hA : addOk (mulV a b - mulV a b % c) c
      · rw [addV_no hA]
        go_enter Try.func17, Try.ntmps17
        go_wp2_with (first | (go_at_call 39; refine (is39 _ _).mono ?_; rintro e w' ⟨rfl, rfl⟩) | (go_at_call 12; refine (mul12 _ _ _).mono ?_; rintro e w' ⟨rfl, rfl⟩) | (go_at_call 10; refine (add10 _ _ _).mono ?_; rintro e w' ⟨rfl, rfl⟩))
        go_ret2
        exact ⟨rfl, rfl⟩
      · have v0 : 0 ≤ addV (mulV a b - mulV a b % c) c := by rw [addV_yes hA]; omega
        have v1 : addV (mulV a b - mulV a b % c) c ≤ 4611686018427387904 := by
          rw [addV_yes hA]; simp only [addOk, Bool.and_eq_true, decide_eq_true_eq] at hA; exact hA.2
        go_enter Try.func17, Try.ntmps17
        go_wp2_with (first | (go_at_call 39; refine (is39 _ _).mono ?_; rintro e w' ⟨rfl, rfl⟩) | (go_at_call 12; refine (mul12 _ _ _).mono ?_; rintro e w' ⟨rfl, rfl⟩) | (go_at_call 10; refine (add10 _ _ _).mono ?_; rintro e w' ⟨rfl, rfl⟩))
        go_ret2
        exact ⟨rfl, rfl⟩
  · have t8 : (c.tmod 8 == 0) = false := by rw [e8]; simp [h8]
    rw [strV_no (strOk_2 t8), strOk_2 t8]
    have y8 : (c % 8 != 0) = true := by simp [h8]
    clear h8 e8 t8
    go_enter Try.func17, Try.ntmps17
    go_wp2_with (go_at_call 39; refine (is39 _ _).mono ?_; rintro e w' ⟨rfl, rfl⟩)
    go_ret2
    exact ⟨rfl, rfl⟩

theorem str_ex : strOk 3 24 32 = true ∧ strV 3 24 32 = 12 := by decide +kernel
theorem ceil_ex : ceilOk 7 2 = true ∧ ceilV 7 2 = 4 := by decide +kernel
theorem mul_ex : mulOk 1099511627776 1099511627776 = false := by decide +kernel

theorem awake13 (w : World) : Calls Try.prog 13 #[] w fun e w' => e = .returned (.bool true) ∧ w = w' := by
  obtain ⟨e1, e2⟩ := str_ex
  obtain ⟨e3, e4⟩ := ceil_ex
  have e5 := mul_ex
  go_enter Try.func13, Try.ntmps13
  go_wp2_with (first | (go_at_call 16; refine (stride16 _ _ _ _).mono ?_; rintro e w' ⟨rfl, rfl⟩) | (go_at_call 18; refine (ceil18 _ _ _).mono ?_; rintro e w' ⟨rfl, rfl⟩) | (go_at_call 11; refine (mul11 _ _ _).mono ?_; rintro e w' ⟨rfl, rfl⟩))
  go_ret
  exact ⟨rfl, rfl⟩

end Go.Proofs.Ytkncjlheaijgfaa.Nu
