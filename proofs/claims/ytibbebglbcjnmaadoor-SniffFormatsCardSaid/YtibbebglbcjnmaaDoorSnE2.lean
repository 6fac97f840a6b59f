/- Layer 30: the document's sign of a TGA file, walked (written by wip/gen/sn11.py). -/
import Derived.Test.YtibbebglbcjnmaaDoorSnE0
import Derived.Deep.CutRange
namespace Go.Proofs.YtibbebglbcjnmaaDoor.Sn
open Go.ChangeShapes Go.WideShapes Go.ChangeAt Go.RowKit
open Go.Proofs.YtibbebglbcjnmaaDoor.Le Go.Proofs.YtibbebglbcjnmaaDoor.Tk Go.Proofs.YtibbebglbcjnmaaDoor.Dh Go.Proofs.YtibbebglbcjnmaaDoor.Id
set_option linter.unusedVariables false

set_option maxRecDepth 100000 in
set_option maxHeartbeats 8000000 in
theorem ris_2 (s : ByteArray) (m c a b p q d : Nat) (H : Bs s m 2 c a b p q d) (hm : m ≤ 1) (W : World) : Calls Tryd.prog 25 #[.string s] W fun e w' => e = .returned (.bool (rB m 2 c a b p q d)) ∧ W = w' := by
  have d0 : decide ((s.size : Int) < 18) = false := decide_eq_false (by have := H.h; omega)
  have hz := H.h
  have c1 := bt_cell s 1 (by omega) H.m
  have c2 := bt_cell s 2 (by omega) H.t
  have c7 := bt_cell s 7 (by omega) H.c
  have c12 := bt_cell s 12 (by omega) H.a
  have c13 := bt_cell s 13 (by omega) H.b
  have c14 := bt_cell s 14 (by omega) H.p
  have c15 := bt_cell s 15 (by omega) H.q
  have c16 := bt_cell s 16 (by omega) H.d
  have KC7 := fun u => rcol_calls c u
  have KC16 := fun u => rcol_calls d u
  have c256 : c < 256 := by rw [← H.c]; exact bt_lt s 7
  have d256 : d < 256 := by rw [← H.d]; exact bt_lt s 16
  have wc : wrap64 (c : Int) = (c : Int) := by unfold wrap64; omega
  have wd : wrap64 (d : Int) = (d : Int) := by unfold wrap64; omega
  clear H
  obtain rfl | rfl : m = 0 ∨ m = 1 := by omega
  · clear hm KC7
    by_cases ha0 : a = 0
    · subst ha0
      by_cases hb0 : b = 0
      · subst hb0
        rw [show (rB _ _ _ _ _ _ _ _) = false from by simp [rB, mayT, *]]
        go_enter Tryd.func25, Tryd.ntmps25
        go_upto_region 1 with fail
        conv => arg 4; dsimp only
        go_wp2
        go_ret
        exact ⟨rfl, rfl⟩
      · have nb : ((b : Int) == 0) = false := by rw [beq_eq_false_iff_ne]; omega
        have nb' : ¬ (b : Int) = 0 := by omega
        by_cases hp0 : p = 0
        · subst hp0
          by_cases hq0 : q = 0
          · subst hq0
            rw [show (rB _ _ _ _ _ _ _ _) = false from by simp [rB, mayT, *]]
            go_enter Tryd.func25, Tryd.ntmps25
            go_upto_region 1 with fail
            conv => arg 4; dsimp only
            go_wp2
            go_ret
            exact ⟨rfl, rfl⟩
          · have nq : ((q : Int) == 0) = false := by rw [beq_eq_false_iff_ne]; omega
            have nq' : ¬ (q : Int) = 0 := by omega
            cases hdd : Tg.colB d with
            | true =>
              rw [hdd] at KC16
              have KC16 := Lib.hid KC16
              rw [show (rB _ _ _ _ _ _ _ _) = true from by simp [rB, mayT, *]]
              go_enter Tryd.func25, Tryd.ntmps25
              go_upto_region 1 with fail
              conv => arg 4; dsimp only
              go_wp2_with (first | (go_at_call 37; refine (KC16.out _).mono ?_; clear KC16; rintro e w' ⟨rfl, rfl⟩) | go_in)
              go_ret
              exact ⟨rfl, rfl⟩
            | false =>
              rw [hdd] at KC16
              have KC16 := Lib.hid KC16
              rw [show (rB _ _ _ _ _ _ _ _) = false from by simp [rB, mayT, *]]
              go_enter Tryd.func25, Tryd.ntmps25
              go_upto_region 1 with fail
              conv => arg 4; dsimp only
              go_wp2_with (first | (go_at_call 37; refine (KC16.out _).mono ?_; clear KC16; rintro e w' ⟨rfl, rfl⟩) | go_in)
              go_ret
              exact ⟨rfl, rfl⟩
        · have np : ((p : Int) == 0) = false := by rw [beq_eq_false_iff_ne]; omega
          have np' : ¬ (p : Int) = 0 := by omega
          cases hdd : Tg.colB d with
          | true =>
            rw [hdd] at KC16
            have KC16 := Lib.hid KC16
            rw [show (rB _ _ _ _ _ _ _ _) = true from by simp [rB, mayT, *]]
            go_enter Tryd.func25, Tryd.ntmps25
            go_upto_region 1 with fail
            conv => arg 4; dsimp only
            go_wp2_with (first | (go_at_call 37; refine (KC16.out _).mono ?_; clear KC16; rintro e w' ⟨rfl, rfl⟩) | go_in)
            go_ret
            exact ⟨rfl, rfl⟩
          | false =>
            rw [hdd] at KC16
            have KC16 := Lib.hid KC16
            rw [show (rB _ _ _ _ _ _ _ _) = false from by simp [rB, mayT, *]]
            go_enter Tryd.func25, Tryd.ntmps25
            go_upto_region 1 with fail
            conv => arg 4; dsimp only
            go_wp2_with (first | (go_at_call 37; refine (KC16.out _).mono ?_; clear KC16; rintro e w' ⟨rfl, rfl⟩) | go_in)
            go_ret
            exact ⟨rfl, rfl⟩
    · have na : ((a : Int) == 0) = false := by rw [beq_eq_false_iff_ne]; omega
      have na' : ¬ (a : Int) = 0 := by omega
      by_cases hp0 : p = 0
      · subst hp0
        by_cases hq0 : q = 0
        · subst hq0
          rw [show (rB _ _ _ _ _ _ _ _) = false from by simp [rB, mayT, *]]
          go_enter Tryd.func25, Tryd.ntmps25
          go_upto_region 1 with fail
          conv => arg 4; dsimp only
          go_wp2
          go_ret
          exact ⟨rfl, rfl⟩
        · have nq : ((q : Int) == 0) = false := by rw [beq_eq_false_iff_ne]; omega
          have nq' : ¬ (q : Int) = 0 := by omega
          cases hdd : Tg.colB d with
          | true =>
            rw [hdd] at KC16
            have KC16 := Lib.hid KC16
            rw [show (rB _ _ _ _ _ _ _ _) = true from by simp [rB, mayT, *]]
            go_enter Tryd.func25, Tryd.ntmps25
            go_upto_region 1 with fail
            conv => arg 4; dsimp only
            go_wp2_with (first | (go_at_call 37; refine (KC16.out _).mono ?_; clear KC16; rintro e w' ⟨rfl, rfl⟩) | go_in)
            go_ret
            exact ⟨rfl, rfl⟩
          | false =>
            rw [hdd] at KC16
            have KC16 := Lib.hid KC16
            rw [show (rB _ _ _ _ _ _ _ _) = false from by simp [rB, mayT, *]]
            go_enter Tryd.func25, Tryd.ntmps25
            go_upto_region 1 with fail
            conv => arg 4; dsimp only
            go_wp2_with (first | (go_at_call 37; refine (KC16.out _).mono ?_; clear KC16; rintro e w' ⟨rfl, rfl⟩) | go_in)
            go_ret
            exact ⟨rfl, rfl⟩
      · have np : ((p : Int) == 0) = false := by rw [beq_eq_false_iff_ne]; omega
        have np' : ¬ (p : Int) = 0 := by omega
        cases hdd : Tg.colB d with
        | true =>
          rw [hdd] at KC16
          have KC16 := Lib.hid KC16
          rw [show (rB _ _ _ _ _ _ _ _) = true from by simp [rB, mayT, *]]
          go_enter Tryd.func25, Tryd.ntmps25
          go_upto_region 1 with fail
          conv => arg 4; dsimp only
          go_wp2_with (first | (go_at_call 37; refine (KC16.out _).mono ?_; clear KC16; rintro e w' ⟨rfl, rfl⟩) | go_in)
          go_ret
          exact ⟨rfl, rfl⟩
        | false =>
          rw [hdd] at KC16
          have KC16 := Lib.hid KC16
          rw [show (rB _ _ _ _ _ _ _ _) = false from by simp [rB, mayT, *]]
          go_enter Tryd.func25, Tryd.ntmps25
          go_upto_region 1 with fail
          conv => arg 4; dsimp only
          go_wp2_with (first | (go_at_call 37; refine (KC16.out _).mono ?_; clear KC16; rintro e w' ⟨rfl, rfl⟩) | go_in)
          go_ret
          exact ⟨rfl, rfl⟩
  · clear hm
    cases hcc : Tg.colB c with
    | false =>
      rw [hcc] at KC7
      have KC7 := Lib.hid KC7
      clear KC16
      rw [show (rB _ _ _ _ _ _ _ _) = false from by simp [rB, mayT, *]]
      go_enter Tryd.func25, Tryd.ntmps25
      go_upto_region 1 with fail
      conv => arg 4; dsimp only
      go_wp2_with (first | (go_at_call 37; refine (KC7.out _).mono ?_; clear KC7; rintro e w' ⟨rfl, rfl⟩) | go_in)
      go_ret
      exact ⟨rfl, rfl⟩
    | true =>
      rw [hcc] at KC7
      have KC7 := Lib.hid KC7
      by_cases ha0 : a = 0
      · subst ha0
        by_cases hb0 : b = 0
        · subst hb0
          rw [show (rB _ _ _ _ _ _ _ _) = false from by simp [rB, mayT, *]]
          go_enter Tryd.func25, Tryd.ntmps25
          go_upto_region 1 with fail
          conv => arg 4; dsimp only
          go_wp2_with (first | (go_at_call 37; refine (KC7.out _).mono ?_; clear KC7; rintro e w' ⟨rfl, rfl⟩) | go_in)
          go_ret
          exact ⟨rfl, rfl⟩
        · have nb : ((b : Int) == 0) = false := by rw [beq_eq_false_iff_ne]; omega
          have nb' : ¬ (b : Int) = 0 := by omega
          by_cases hp0 : p = 0
          · subst hp0
            by_cases hq0 : q = 0
            · subst hq0
              rw [show (rB _ _ _ _ _ _ _ _) = false from by simp [rB, mayT, *]]
              go_enter Tryd.func25, Tryd.ntmps25
              go_upto_region 1 with fail
              conv => arg 4; dsimp only
              go_wp2_with (first | (go_at_call 37; refine (KC7.out _).mono ?_; clear KC7; rintro e w' ⟨rfl, rfl⟩) | go_in)
              go_ret
              exact ⟨rfl, rfl⟩
            · have nq : ((q : Int) == 0) = false := by rw [beq_eq_false_iff_ne]; omega
              have nq' : ¬ (q : Int) = 0 := by omega
              cases hdd : Tg.colB d with
              | true =>
                rw [hdd] at KC16
                have KC16 := Lib.hid KC16
                rw [show (rB _ _ _ _ _ _ _ _) = true from by simp [rB, mayT, *]]
                go_enter Tryd.func25, Tryd.ntmps25
                go_upto_region 1 with fail
                conv => arg 4; dsimp only
                go_wp2_with (first | (go_at_call 37; refine (KC7.out _).mono ?_; clear KC7; rintro e w' ⟨rfl, rfl⟩) | (go_at_call 37; refine (KC16.out _).mono ?_; clear KC16; rintro e w' ⟨rfl, rfl⟩) | go_in)
                go_ret
                exact ⟨rfl, rfl⟩
              | false =>
                rw [hdd] at KC16
                have KC16 := Lib.hid KC16
                rw [show (rB _ _ _ _ _ _ _ _) = false from by simp [rB, mayT, *]]
                go_enter Tryd.func25, Tryd.ntmps25
                go_upto_region 1 with fail
                conv => arg 4; dsimp only
                go_wp2_with (first | (go_at_call 37; refine (KC7.out _).mono ?_; clear KC7; rintro e w' ⟨rfl, rfl⟩) | (go_at_call 37; refine (KC16.out _).mono ?_; clear KC16; rintro e w' ⟨rfl, rfl⟩) | go_in)
                go_ret
                exact ⟨rfl, rfl⟩
          · have np : ((p : Int) == 0) = false := by rw [beq_eq_false_iff_ne]; omega
            have np' : ¬ (p : Int) = 0 := by omega
            cases hdd : Tg.colB d with
            | true =>
              rw [hdd] at KC16
              have KC16 := Lib.hid KC16
              rw [show (rB _ _ _ _ _ _ _ _) = true from by simp [rB, mayT, *]]
              go_enter Tryd.func25, Tryd.ntmps25
              go_upto_region 1 with fail
              conv => arg 4; dsimp only
              go_wp2_with (first | (go_at_call 37; refine (KC7.out _).mono ?_; clear KC7; rintro e w' ⟨rfl, rfl⟩) | (go_at_call 37; refine (KC16.out _).mono ?_; clear KC16; rintro e w' ⟨rfl, rfl⟩) | go_in)
              go_ret
              exact ⟨rfl, rfl⟩
            | false =>
              rw [hdd] at KC16
              have KC16 := Lib.hid KC16
              rw [show (rB _ _ _ _ _ _ _ _) = false from by simp [rB, mayT, *]]
              go_enter Tryd.func25, Tryd.ntmps25
              go_upto_region 1 with fail
              conv => arg 4; dsimp only
              go_wp2_with (first | (go_at_call 37; refine (KC7.out _).mono ?_; clear KC7; rintro e w' ⟨rfl, rfl⟩) | (go_at_call 37; refine (KC16.out _).mono ?_; clear KC16; rintro e w' ⟨rfl, rfl⟩) | go_in)
              go_ret
              exact ⟨rfl, rfl⟩
      · have na : ((a : Int) == 0) = false := by rw [beq_eq_false_iff_ne]; omega
        have na' : ¬ (a : Int) = 0 := by omega
        by_cases hp0 : p = 0
        · subst hp0
          by_cases hq0 : q = 0
          · subst hq0
            rw [show (rB _ _ _ _ _ _ _ _) = false from by simp [rB, mayT, *]]
            go_enter Tryd.func25, Tryd.ntmps25
            go_upto_region 1 with fail
            conv => arg 4; dsimp only
            go_wp2_with (first | (go_at_call 37; refine (KC7.out _).mono ?_; clear KC7; rintro e w' ⟨rfl, rfl⟩) | go_in)
            go_ret
            exact ⟨rfl, rfl⟩
          · have nq : ((q : Int) == 0) = false := by rw [beq_eq_false_iff_ne]; omega
            have nq' : ¬ (q : Int) = 0 := by omega
            cases hdd : Tg.colB d with
            | true =>
              rw [hdd] at KC16
              have KC16 := Lib.hid KC16
              rw [show (rB _ _ _ _ _ _ _ _) = true from by simp [rB, mayT, *]]
              go_enter Tryd.func25, Tryd.ntmps25
              go_upto_region 1 with fail
              conv => arg 4; dsimp only
              go_wp2_with (first | (go_at_call 37; refine (KC7.out _).mono ?_; clear KC7; rintro e w' ⟨rfl, rfl⟩) | (go_at_call 37; refine (KC16.out _).mono ?_; clear KC16; rintro e w' ⟨rfl, rfl⟩) | go_in)
              go_ret
              exact ⟨rfl, rfl⟩
            | false =>
              rw [hdd] at KC16
              have KC16 := Lib.hid KC16
              rw [show (rB _ _ _ _ _ _ _ _) = false from by simp [rB, mayT, *]]
              go_enter Tryd.func25, Tryd.ntmps25
              go_upto_region 1 with fail
              conv => arg 4; dsimp only
              go_wp2_with (first | (go_at_call 37; refine (KC7.out _).mono ?_; clear KC7; rintro e w' ⟨rfl, rfl⟩) | (go_at_call 37; refine (KC16.out _).mono ?_; clear KC16; rintro e w' ⟨rfl, rfl⟩) | go_in)
              go_ret
              exact ⟨rfl, rfl⟩
        · have np : ((p : Int) == 0) = false := by rw [beq_eq_false_iff_ne]; omega
          have np' : ¬ (p : Int) = 0 := by omega
          cases hdd : Tg.colB d with
          | true =>
            rw [hdd] at KC16
            have KC16 := Lib.hid KC16
            rw [show (rB _ _ _ _ _ _ _ _) = true from by simp [rB, mayT, *]]
            go_enter Tryd.func25, Tryd.ntmps25
            go_upto_region 1 with fail
            conv => arg 4; dsimp only
            go_wp2_with (first | (go_at_call 37; refine (KC7.out _).mono ?_; clear KC7; rintro e w' ⟨rfl, rfl⟩) | (go_at_call 37; refine (KC16.out _).mono ?_; clear KC16; rintro e w' ⟨rfl, rfl⟩) | go_in)
            go_ret
            exact ⟨rfl, rfl⟩
          | false =>
            rw [hdd] at KC16
            have KC16 := Lib.hid KC16
            rw [show (rB _ _ _ _ _ _ _ _) = false from by simp [rB, mayT, *]]
            go_enter Tryd.func25, Tryd.ntmps25
            go_upto_region 1 with fail
            conv => arg 4; dsimp only
            go_wp2_with (first | (go_at_call 37; refine (KC7.out _).mono ?_; clear KC7; rintro e w' ⟨rfl, rfl⟩) | (go_at_call 37; refine (KC16.out _).mono ?_; clear KC16; rintro e w' ⟨rfl, rfl⟩) | go_in)
            go_ret
            exact ⟨rfl, rfl⟩

end Go.Proofs.YtibbebglbcjnmaaDoor.Sn
