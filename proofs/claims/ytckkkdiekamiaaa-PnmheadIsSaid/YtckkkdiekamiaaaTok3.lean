/- Layer 11: the document's Blank and Over, walked. -/
import Derived.Test.YtckkkdiekamiaaaTnL
import Derived.Test.YtckkkdiekamiaaaTok1
import Derived.Deep.LoopGhost
import Derived.Deep.RegionHeld3
namespace Go.Proofs.Ytckkkdiekamiaaa.Tk
open Go.ChangeShapes Go.WideShapes Go.ChangeAt Go.RowKit
open Go.Proofs.Ytckkkdiekamiaaa.Le
set_option linter.unusedVariables false

theorem rblank_calls (b : Nat) (h : b < 256) (W : World) : Calls Try.prog 17 #[.int .u8 b] W fun e w' => e = .returned (.bool (blankB b)) ∧ W = w' := by
  have hc : (((b : Int) == 32) = true ∧ blankB b = true) ∨ (((b : Int) == 32) = false ∧ decide ((9 : Int) ≤ b) = false ∧ blankB b = false) ∨ (((b : Int) == 32) = false ∧ decide ((9 : Int) ≤ b) = true ∧ decide ((b : Int) ≤ 13) = true ∧ blankB b = true) ∨
      (((b : Int) == 32) = false ∧ decide ((9 : Int) ≤ b) = true ∧ decide ((b : Int) ≤ 13) = false ∧ blankB b = false) := by
    rw [blankB_iff, blankB_not]
    by_cases h1 : b = 32
    · exact .inl ⟨by rw [beq_iff_eq]; omega, .inl h1⟩
    · have e1 : ((b : Int) == 32) = false := by rw [beq_eq_false_iff_ne]; omega
      by_cases h2 : 9 ≤ b
      · by_cases h3 : b ≤ 13
        · exact .inr (.inr (.inl ⟨e1, decide_eq_true (by omega), decide_eq_true (by omega), .inr ⟨h2, h3⟩⟩))
        · exact .inr (.inr (.inr ⟨e1, decide_eq_true (by omega), decide_eq_false (by omega), by omega⟩))
      · exact .inr (.inl ⟨e1, decide_eq_false (by omega), by omega⟩)
  rcases hc with ⟨d1, e⟩ | ⟨d1, d2, e⟩ | ⟨d1, d2, d3, e⟩ | ⟨d1, d2, d3, e⟩
  all_goals
    rw [e]
    clear e
    go_enter Try.func17, Try.ntmps17
    go_wp2
    go_ret
    exact ⟨rfl, rfl⟩

set_option maxRecDepth 100000 in
theorem rover_calls (s : ByteArray) (k : Nat) (W : World) (hs : s.size ≤ 9223372036854775806) (hk : k ≤ s.size) :
    Calls Try.prog 19 #[.string s, .int .i64 k] W fun e w' => e = .returned (.int .i64 (overV s k)) ∧ W = w' := by
  obtain ⟨r, hr⟩ : ∃ r, overV s k = r := ⟨_, rfl⟩
  rw [hr]
  have HR := Lib.hid hr
  clear hr
  go_enter Try.func19, Try.ntmps19
  go_wp2_with fail
  go_loopg [1] (s.size - k) (fun q iv wr => ∃ j : Nat, j ≤ s.size ∧ q = s.size - j ∧ iv = .int .i64 j ∧ overV s j = r ∧ wr = W)
  case atStart => exact ⟨k, hk, rfl, rfl, HR.out, rfl⟩
  case round =>
    obtain ⟨j, hj, rfl, rfl, J, rfl⟩ := hrel
    have HJ := Lib.hid J
    clear J
    by_cases hjs : j < s.size
    · obtain ⟨c, hc⟩ : ∃ c, bt s j = c := ⟨_, rfl⟩
      have hcell := bt_cell s j hjs hc
      have cl : c < 256 := by rw [← hc]; exact bt_lt s j
      have HC := Lib.hid hc
      clear hc
      by_cases h35 : c = 35
      · have d1 : ((c : Int) == 35) = true := by rw [beq_iff_eq]; omega
        have H35 := Lib.hid h35
        clear h35
        go_wp2_with fail
        go_loopg [1] (s.size - j) (fun q iv wr' => ∃ i : Nat, i ≤ s.size ∧ j ≤ i ∧ q = s.size - i ∧ iv = .int .i64 i ∧ remEnd s i = remEnd s j ∧ wr' = wr)
        case atStart => exact ⟨j, hj, Nat.le_refl _, rfl, rfl, rfl, rfl⟩
        case round =>
          obtain ⟨i, hi, hji, rfl, rfl, I, rfl⟩ := hrel
          have HI := Lib.hid I
          clear I hcell d1
          by_cases his : i < s.size
          · obtain ⟨x, hx⟩ : ∃ x, bt s i = x := ⟨_, rfl⟩
            have hxc := bt_cell s i his hx
            have xl : x < 256 := by rw [← hx]; exact bt_lt s i
            have HX := Lib.hid hx
            clear hx
            have hn : remEnd s i = i → remNext s j = i + 1 := fun h => by
              unfold remNext
              rw [← HI.out, h, if_pos his]
            have HN := Lib.hid hn
            clear hn
            by_cases hx1 : x = 10
            · have d2 : ((x : Int) == 10) = true := by rw [beq_iff_eq]; omega
              have d2' : ((x : Int) != 10) = false := by rw [bne_eq_false_iff_eq]; omega
              have HX1 := Lib.hid hx1
              clear hx1
              go_wp2
              go_roundg (s.size - (i + 1))
              case measure => omega
              case rel => exact ⟨i + 1, by omega, rfl, by go_num, by
                rw [← HN.out (remEnd_stop (fun h => h.2.1 (HX.out.trans HX1.out))), ← overV_rem hjs (HC.out.trans H35.out)]
                exact HJ.out, rfl⟩
            · have d2 : ((x : Int) == 10) = false := by rw [beq_eq_false_iff_ne]; omega
              have d2' : ((x : Int) != 10) = true := by rw [bne_iff_ne]; omega
              by_cases hx2 : x = 13
              · have d3 : ((x : Int) == 13) = true := by rw [beq_iff_eq]; omega
                have d3' : ((x : Int) != 13) = false := by rw [bne_eq_false_iff_eq]; omega
                have HX2 := Lib.hid hx2
                clear hx2 hx1
                go_wp2
                go_roundg (s.size - (i + 1))
                case measure => omega
                case rel => exact ⟨i + 1, by omega, rfl, by go_num, by
                  rw [← HN.out (remEnd_stop (fun h => h.2.2 (HX.out.trans HX2.out))), ← overV_rem hjs (HC.out.trans H35.out)]
                  exact HJ.out, rfl⟩
              · have d3 : ((x : Int) == 13) = false := by rw [beq_eq_false_iff_ne]; omega
                have d3' : ((x : Int) != 13) = true := by rw [bne_iff_ne]; omega
                have HX1 := Lib.hid hx1
                have HX2 := Lib.hid hx2
                clear hx1 hx2
                go_wp2
                go_roundg (s.size - (i + 1))
                case measure => omega
                case rel => exact ⟨i + 1, by omega, by omega, rfl, by go_num, by
                  rw [← remEnd_on his (by rw [HX.out]; exact HX1.out) (by rw [HX.out]; exact HX2.out)]
                  exact HI.out, rfl⟩
          · obtain rfl : i = s.size := by omega
            have hn : remNext s j = s.size := by
              unfold remNext
              rw [← HI.out, remEnd_stop (by omega), if_neg (by omega)]
            have HN := Lib.hid hn
            clear hn
            go_wp2
            go_roundg (s.size - s.size)
            case measure => omega
            case rel => exact ⟨s.size, by omega, rfl, rfl, by
              rw [← HN.out, ← overV_rem hjs (HC.out.trans H35.out)]
              exact HJ.out, rfl⟩
      · have d1 : ((c : Int) == 35) = false := by rw [beq_eq_false_iff_ne]; omega
        have H35 := Lib.hid h35
        clear h35
        have KB := rblank_calls c cl
        cases eB : blankB c
        · rw [eB] at KB
          have KBh := Lib.hid KB
          have hre : r = j := by rw [← HJ.out, overV_stop hjs (by rw [HC.out]; exact H35.out) (by rw [HC.out]; exact eB)]
          subst hre
          clear eB KB HJ HR
          go_wp2_with fail
          refine (KBh.out _).mono ?_
          rintro e w' ⟨rfl, rfl⟩
          go_wp2
          go_ret
          exact ⟨rfl, rfl⟩
        · rw [eB] at KB
          have KBh := Lib.hid KB
          have HE := Lib.hid eB
          clear eB KB
          go_wp2_with fail
          refine (KBh.out _).mono ?_
          rintro e w' ⟨rfl, rfl⟩
          go_wp2
          go_roundg (s.size - (j + 1))
          case measure => omega
          case rel => exact ⟨j + 1, by omega, rfl, by go_num, by
            rw [← overV_blank hjs (by rw [HC.out]; exact HE.out)]
            exact HJ.out, rfl⟩
    · have hre : r = j := by rw [← HJ.out, overV_end (by omega)]
      subst hre
      clear HJ HR
      go_wp2
      go_ret
      exact ⟨rfl, rfl⟩

end Go.Proofs.Ytckkkdiekamiaaa.Tk
