/- The law PnmheadIs, walked (written by wip/gen/pnhB.py). -/
import Derived.Test.YtckkkdiekamiaaaPnh8
import Derived.Test.YtckkkdiekamiaaaPnh3
namespace Go.Proofs.Ytckkkdiekamiaaa.Ph
open Go.ChangeShapes Go.WideShapes Go.ChangeAt Go.RowKit
open Go.Proofs.Ytckkkdiekamiaaa.Le Go.Proofs.Ytckkkdiekamiaaa.Sr Go.Proofs.Ytckkkdiekamiaaa.Tk
set_option linter.unusedVariables false

/-- A head that is read begins as such a file does, or a number stands right behind the kind. -/
theorem readV_begins (s : ByteArray) (h : (readV s).f = 0) : 2 < s.size ∧ bt s 0 = 80 ∧ (49 ≤ bt s 1 ∧ bt s 1 ≤ 54) ∧ (bt s 2 = 35 ∨ blankB (bt s 2) = true ∨ (48 ≤ bt s 2 ∧ bt s 2 ≤ 57)) := by
  by_cases h0 : s.size < 1
  · rw [readV_0 h0] at h
    exact absurd (a := (1 : Nat) = 0) h (by decide)
  · by_cases h1 : bt s 0 = 80
    · by_cases h2 : s.size < 2
      · rw [readV_2 h0 h1 h2] at h
        exact absurd (a := (1 : Nat) = 0) h (by decide)
      · by_cases h3 : 49 ≤ bt s 1 ∧ bt s 1 ≤ 54
        · obtain ⟨k, hk⟩ : ∃ k, bt s 1 = k + 48 := ⟨bt s 1 - 48, by omega⟩
          rw [readV_4 (k := k) h2 h1 (by omega) hk] at h
          have hf : (nums s k 3 nr0).f = 0 := by
            by_cases hf : (nums s k 3 nr0).f = 0
            · exact hf
            · rw [endV_fault hf] at h
              exact absurd h hf
          rcases gotV_gd s 2 (by omega) with ⟨kd, pl, eg, g0, _, _, _⟩ | ⟨v, f, j, eg, g1, g2, g3, _, _⟩
          · rw [nums_fault (r := 2) (z := nr0) (fun h => absurd h.1 (by decide)) eg g0] at hf
            exact absurd hf g0
          · refine ⟨by omega, h1, h3, ?_⟩
            by_cases c1 : bt s 2 = 35
            · exact .inl c1
            · by_cases c2 : blankB (bt s 2) = true
              · exact .inr (.inl c2)
              · by_cases c3 : 48 ≤ bt s 2 ∧ bt s 2 ≤ 57
                · exact .inr (.inr c3)
                · have ho : overV s 2 = 2 := overV_stop (by omega) c1 (by simpa using c2)
                  rw [gotV_bad' ho (by omega) c3] at eg
                  have := congrArg Got.kind eg
                  exact absurd (a := (2 : Nat) = 0) this (by decide)
        · rw [readV_3 h2 h1 h3] at h
          exact absurd (a := (2 : Nat) = 0) h (by decide)
    · rw [readV_1 h0 h1] at h
      exact absurd (a := (2 : Nat) = 0) h (by decide)

theorem fld_5 (k w h m a f p : Int) (u : World) : (Instr.field 54 (.agg #[.int .i64 k, .int .i64 w, .int .i64 h, .int .i64 m, .int .i64 a, .int .i64 f, .int .i64 p]) 5).run Try.prog u = .ok (.int .i64 f) u := by kernel_rfl

/-- How a text begins: facts for the walks. -/
inductive Beg (s : ByteArray) : Bool → Prop
  | short (h : s.size ≤ 2) : Beg s false
  | first (x : Nat) (h : 2 < s.size) (hx : bt s 0 = x) (h1 : x ≠ 80) : Beg s false
  | low (y : Nat) (h : 2 < s.size) (hx : bt s 0 = 80) (hy : bt s 1 = y) (h1 : y < 49) : Beg s false
  | high (y : Nat) (h : 2 < s.size) (hx : bt s 0 = 80) (hy : bt s 1 = y) (h1 : 54 < y) : Beg s false
  | sharp (y : Nat) (h : 2 < s.size) (hx : bt s 0 = 80) (hy : bt s 1 = y) (h1 : 49 ≤ y) (h2 : y ≤ 54) (hz : bt s 2 = 35) : Beg s true
  | blank (y z : Nat) (h : 2 < s.size) (hx : bt s 0 = 80) (hy : bt s 1 = y) (h1 : 49 ≤ y) (h2 : y ≤ 54) (hz : bt s 2 = z) (h3 : z ≠ 35) (h4 : blankB z = true) : Beg s true
  | other (y z : Nat) (h : 2 < s.size) (hx : bt s 0 = 80) (hy : bt s 1 = y) (h1 : 49 ≤ y) (h2 : y ≤ 54) (hz : bt s 2 = z) (h3 : z ≠ 35) (h4 : blankB z = false) : Beg s false
theorem beg_of (s : ByteArray) : ∃ b, Beg s b := by
  by_cases h : s.size ≤ 2
  · exact ⟨_, .short h⟩
  · by_cases h0 : bt s 0 = 80
    · by_cases h1 : bt s 1 < 49
      · exact ⟨_, .low _ (by omega) h0 rfl h1⟩
      · by_cases h2 : 54 < bt s 1
        · exact ⟨_, .high _ (by omega) h0 rfl h2⟩
        · by_cases h3 : bt s 2 = 35
          · exact ⟨_, .sharp _ (by omega) h0 rfl (by omega) (by omega) h3⟩
          · cases h4 : blankB (bt s 2)
            · exact ⟨_, .other _ _ (by omega) h0 rfl (by omega) (by omega) rfl h3 h4⟩
            · exact ⟨_, .blank _ _ (by omega) h0 rfl (by omega) (by omega) rfl h3 h4⟩
    · exact ⟨_, .first _ (by omega) rfl h0⟩

set_option maxRecDepth 100000 in
set_option maxHeartbeats 4000000 in
theorem is_calls (s : ByteArray) (b : Bool) (W : World) (hs : s.size ≤ 9223372036854775807) (hb : Beg s b) : Calls Try.prog 29 #[.string s] W fun e w' => e = .returned (.bool b) ∧ W = w' := by
  cases hb with
  | short h =>
    have d0 : decide ((2 : Int) < s.size) = false := decide_eq_false (by omega)
    go_enter Try.func29, Try.ntmps29
    go_wp2_with fail
    go_ret
    exact ⟨rfl, rfl⟩
  | first x h hx h1 =>
    have d0 : decide ((2 : Int) < s.size) = true := decide_eq_true (by omega)
    have c0 := bt_cell s 0 (by omega) hx
    have e1 : ((x : Int) == 80) = false := by rw [beq_eq_false_iff_ne]; omega
    clear hx h1
    go_enter Try.func29, Try.ntmps29
    go_wp2_with fail
    go_ret
    exact ⟨rfl, rfl⟩
  | low y h hx hy h1 =>
    have d0 : decide ((2 : Int) < s.size) = true := decide_eq_true (by omega)
    have c0 := bt_cell s 0 (by omega) hx
    have c1 := bt_cell s 1 (by omega) hy
    have y256 : y < 256 := by rw [← hy]; exact bt_lt s 1
    have d1 : decide ((49 : Int) ≤ y) = false := decide_eq_false (by omega)
    have KK := fun u => isKind_calls ((y : Int) - 48) u
    simp only [(rgB_not 1 6 ((y : Int) - 48)).2 (by omega)] at KK
    have KK := Lib.hid KK
    clear hx hy h1
    go_enter Try.func29, Try.ntmps29
    go_wp2_with fail
    refine (KK.out _).mono ?_
    rintro e w' ⟨rfl, rfl⟩
    go_wp2_with fail
    go_ret
    exact ⟨rfl, rfl⟩
  | high y h hx hy h1 =>
    have d0 : decide ((2 : Int) < s.size) = true := decide_eq_true (by omega)
    have c0 := bt_cell s 0 (by omega) hx
    have c1 := bt_cell s 1 (by omega) hy
    have y256 : y < 256 := by rw [← hy]; exact bt_lt s 1
    have d1 : decide ((49 : Int) ≤ y) = true := decide_eq_true (by omega)
    have d2 : decide ((y : Int) ≤ 54) = false := decide_eq_false (by omega)
    have KK := fun u => isKind_calls ((y : Int) - 48) u
    simp only [(rgB_not 1 6 ((y : Int) - 48)).2 (by omega)] at KK
    have KK := Lib.hid KK
    clear hx hy h1
    go_enter Try.func29, Try.ntmps29
    go_wp2_with fail
    refine (KK.out _).mono ?_
    rintro e w' ⟨rfl, rfl⟩
    go_wp2_with fail
    go_ret
    exact ⟨rfl, rfl⟩
  | sharp y h hx hy h1 h2 hz =>
    have d0 : decide ((2 : Int) < s.size) = true := decide_eq_true (by omega)
    have c0 := bt_cell s 0 (by omega) hx
    have c1 := bt_cell s 1 (by omega) hy
    have c2 := bt_cell s 2 (by omega) hz
    have y256 : y < 256 := by rw [← hy]; exact bt_lt s 1
    have d1 : decide ((49 : Int) ≤ y) = true := decide_eq_true (by omega)
    have d2 : decide ((y : Int) ≤ 54) = true := decide_eq_true (by omega)
    have KK := fun u => isKind_calls ((y : Int) - 48) u
    simp only [(rgB_iff 1 6 ((y : Int) - 48)).2 (by omega)] at KK
    have KK := Lib.hid KK
    clear hx hy hz
    go_enter Try.func29, Try.ntmps29
    go_wp2_with fail
    refine (KK.out _).mono ?_
    rintro e w' ⟨rfl, rfl⟩
    go_wp2_with fail
    go_ret
    exact ⟨rfl, rfl⟩
  | blank y z h hx hy h1 h2 hz h3 h4 =>
    have d0 : decide ((2 : Int) < s.size) = true := decide_eq_true (by omega)
    have c0 := bt_cell s 0 (by omega) hx
    have c1 := bt_cell s 1 (by omega) hy
    have c2 := bt_cell s 2 (by omega) hz
    have y256 : y < 256 := by rw [← hy]; exact bt_lt s 1
    have z256 : z < 256 := by rw [← hz]; exact bt_lt s 2
    have d1 : decide ((49 : Int) ≤ y) = true := decide_eq_true (by omega)
    have d2 : decide ((y : Int) ≤ 54) = true := decide_eq_true (by omega)
    have e2 : ((z : Int) == 35) = false := by rw [beq_eq_false_iff_ne]; omega
    have KK := fun u => isKind_calls ((y : Int) - 48) u
    simp only [(rgB_iff 1 6 ((y : Int) - 48)).2 (by omega)] at KK
    have KK := Lib.hid KK
    have KB := fun u => blank_calls z u
    simp only [h4] at KB
    have KB := Lib.hid KB
    clear h4
    clear hx hy hz h3
    go_enter Try.func29, Try.ntmps29
    go_wp2_with fail
    refine (KK.out _).mono ?_
    rintro e w' ⟨rfl, rfl⟩
    go_wp2_with fail
    refine (KB.out _).mono ?_
    rintro e w' ⟨rfl, rfl⟩
    go_wp2_with fail
    go_ret
    exact ⟨rfl, rfl⟩
  | other y z h hx hy h1 h2 hz h3 h4 =>
    have d0 : decide ((2 : Int) < s.size) = true := decide_eq_true (by omega)
    have c0 := bt_cell s 0 (by omega) hx
    have c1 := bt_cell s 1 (by omega) hy
    have c2 := bt_cell s 2 (by omega) hz
    have y256 : y < 256 := by rw [← hy]; exact bt_lt s 1
    have z256 : z < 256 := by rw [← hz]; exact bt_lt s 2
    have d1 : decide ((49 : Int) ≤ y) = true := decide_eq_true (by omega)
    have d2 : decide ((y : Int) ≤ 54) = true := decide_eq_true (by omega)
    have e2 : ((z : Int) == 35) = false := by rw [beq_eq_false_iff_ne]; omega
    have KK := fun u => isKind_calls ((y : Int) - 48) u
    simp only [(rgB_iff 1 6 ((y : Int) - 48)).2 (by omega)] at KK
    have KK := Lib.hid KK
    have KB := fun u => blank_calls z u
    simp only [h4] at KB
    have KB := Lib.hid KB
    clear h4
    clear hx hy hz h3
    go_enter Try.func29, Try.ntmps29
    go_wp2_with fail
    refine (KK.out _).mono ?_
    rintro e w' ⟨rfl, rfl⟩
    go_wp2_with fail
    refine (KB.out _).mono ?_
    rintro e w' ⟨rfl, rfl⟩
    go_wp2_with fail
    go_ret
    exact ⟨rfl, rfl⟩

set_option maxRecDepth 100000 in
set_option maxHeartbeats 8000000 in
theorem is_walk (s : ByteArray) (W : World) (hs : s.size ≤ 9223372036854775807) : Calls Try.prog 8 #[.string s] W fun e w' => e = .returned (.bool true) ∧ W.grownBy w' none := by
  have AW := Lib.hid (fun u => awake_calls u)
  by_cases h300 : s.size ≤ 300
  · have dl : decide ((300 : Int) < s.size) = false := decide_eq_false (by omega)
    have KR := fun u => rread_calls s u (by omega)
    have HBG := Lib.hid (readV_begins s)
    obtain ⟨⟨vk, vw, vh, vm, va, vf, vp⟩, hV⟩ : ∃ V, readV s = V := ⟨_, rfl⟩
    rw [hV] at HBG
    simp only [hV] at KR
    clear hV
    have HBG := Lib.hid (show vf = 0 → _ from HBG.out)
    have KR := Lib.hid KR
    have hfl := fld_5 vk vw vh vm va vf vp
    obtain ⟨b, hb⟩ := beg_of s
    have KI := Lib.hid (fun u => is_calls s b u hs hb)
    cases hb with
    | short h =>
      have d0 : decide ((2 : Int) < s.size) = false := decide_eq_false (by omega)
      have hvf : vf ≠ 0 := fun h0 => by have := (HBG.out h0).1; omega
      have f1 : ((vf : Int) == 0) = false := by rw [beq_eq_false_iff_ne]; omega
      have f2 : ((vf : Int) != 0) = true := by rw [bne_iff_ne]; omega
      clear hvf HBG 
      go_enter Try.func8, Try.ntmps8
      go_wp2_with fail
      refine (KI.out _).mono ?_
      rintro e w' ⟨rfl, rfl⟩
      go_wp2_with fail
      refine (KR.out _).mono ?_
      rintro e w4 ⟨rfl, g4⟩
      have G4 := Lib.hid g4
      clear g4
      simp only [hdA]
      go_wp2_with fail
      refine (AW.out _).mono ?_
      rintro e w5 ⟨rfl, g5⟩
      have G5 := Lib.hid (gb_trans G4.out g5)
      clear g5
      go_wp2
      go_ret
      exact ⟨rfl, G5.out⟩
    | first x h hx h1 =>
      have d0 : decide ((2 : Int) < s.size) = true := decide_eq_true (by omega)
      have c0 := bt_cell s 0 (by omega) hx
      have e1 : ((x : Int) == 80) = false := by rw [beq_eq_false_iff_ne]; omega
      have hvf : vf ≠ 0 := fun h0 => by exact h1 (by rw [← hx]; exact (HBG.out h0).2.1)
      have f1 : ((vf : Int) == 0) = false := by rw [beq_eq_false_iff_ne]; omega
      have f2 : ((vf : Int) != 0) = true := by rw [bne_iff_ne]; omega
      clear hvf HBG hx h1
      go_enter Try.func8, Try.ntmps8
      go_wp2_with fail
      refine (KI.out _).mono ?_
      rintro e w' ⟨rfl, rfl⟩
      go_wp2_with fail
      refine (KR.out _).mono ?_
      rintro e w4 ⟨rfl, g4⟩
      have G4 := Lib.hid g4
      clear g4
      simp only [hdA]
      go_wp2_with fail
      refine (AW.out _).mono ?_
      rintro e w5 ⟨rfl, g5⟩
      have G5 := Lib.hid (gb_trans G4.out g5)
      clear g5
      go_wp2
      go_ret
      exact ⟨rfl, G5.out⟩
    | low y h hx hy h1 =>
      have d0 : decide ((2 : Int) < s.size) = true := decide_eq_true (by omega)
      have c0 := bt_cell s 0 (by omega) hx
      have c1 := bt_cell s 1 (by omega) hy
      have y256 : y < 256 := by rw [← hy]; exact bt_lt s 1
      have d1 : decide ((49 : Int) ≤ y) = false := decide_eq_false (by omega)
      have hvf : vf ≠ 0 := fun h0 => by have := (HBG.out h0).2.2.1; rw [hy] at this; omega
      have f1 : ((vf : Int) == 0) = false := by rw [beq_eq_false_iff_ne]; omega
      have f2 : ((vf : Int) != 0) = true := by rw [bne_iff_ne]; omega
      clear hvf HBG hx hy h1
      go_enter Try.func8, Try.ntmps8
      go_wp2_with fail
      refine (KI.out _).mono ?_
      rintro e w' ⟨rfl, rfl⟩
      go_wp2_with fail
      refine (KR.out _).mono ?_
      rintro e w4 ⟨rfl, g4⟩
      have G4 := Lib.hid g4
      clear g4
      simp only [hdA]
      go_wp2_with fail
      refine (AW.out _).mono ?_
      rintro e w5 ⟨rfl, g5⟩
      have G5 := Lib.hid (gb_trans G4.out g5)
      clear g5
      go_wp2
      go_ret
      exact ⟨rfl, G5.out⟩
    | high y h hx hy h1 =>
      have d0 : decide ((2 : Int) < s.size) = true := decide_eq_true (by omega)
      have c0 := bt_cell s 0 (by omega) hx
      have c1 := bt_cell s 1 (by omega) hy
      have y256 : y < 256 := by rw [← hy]; exact bt_lt s 1
      have d1 : decide ((49 : Int) ≤ y) = true := decide_eq_true (by omega)
      have d2 : decide ((y : Int) ≤ 54) = false := decide_eq_false (by omega)
      have hvf : vf ≠ 0 := fun h0 => by have := (HBG.out h0).2.2.1; rw [hy] at this; omega
      have f1 : ((vf : Int) == 0) = false := by rw [beq_eq_false_iff_ne]; omega
      have f2 : ((vf : Int) != 0) = true := by rw [bne_iff_ne]; omega
      clear hvf HBG hx hy h1
      go_enter Try.func8, Try.ntmps8
      go_wp2_with fail
      refine (KI.out _).mono ?_
      rintro e w' ⟨rfl, rfl⟩
      go_wp2_with fail
      refine (KR.out _).mono ?_
      rintro e w4 ⟨rfl, g4⟩
      have G4 := Lib.hid g4
      clear g4
      simp only [hdA]
      go_wp2_with fail
      refine (AW.out _).mono ?_
      rintro e w5 ⟨rfl, g5⟩
      have G5 := Lib.hid (gb_trans G4.out g5)
      clear g5
      go_wp2
      go_ret
      exact ⟨rfl, G5.out⟩
    | sharp y h hx hy h1 h2 hz =>
      have d0 : decide ((2 : Int) < s.size) = true := decide_eq_true (by omega)
      have c0 := bt_cell s 0 (by omega) hx
      have c1 := bt_cell s 1 (by omega) hy
      have c2 := bt_cell s 2 (by omega) hz
      have y256 : y < 256 := by rw [← hy]; exact bt_lt s 1
      have d1 : decide ((49 : Int) ≤ y) = true := decide_eq_true (by omega)
      have d2 : decide ((y : Int) ≤ 54) = true := decide_eq_true (by omega)
      have KB := fun u => rblank_calls 35 (by decide) u
      simp only [show blankB 35 = false from by decide, show ((35 : Nat) : Int) = 35 from rfl] at KB
      have KB := Lib.hid KB
      by_cases h0 : vf = 0
      · have f1 : ((vf : Int) == 0) = true := by rw [beq_iff_eq]; omega
        have f2 : ((vf : Int) != 0) = false := by rw [bne_eq_false_iff_eq]; omega
        clear HBG h0 hx hy hz
        go_enter Try.func8, Try.ntmps8
        go_wp2_with fail
        refine (KB.out _).mono ?_
        rintro e w' ⟨rfl, rfl⟩
        go_wp2_with fail
        refine (KI.out _).mono ?_
        rintro e w' ⟨rfl, rfl⟩
        go_wp2_with fail
        refine (KR.out _).mono ?_
        rintro e w4 ⟨rfl, g4⟩
        have G4 := Lib.hid g4
        clear g4
        simp only [hdA]
        go_wp2_with fail
        refine (AW.out _).mono ?_
        rintro e w5 ⟨rfl, g5⟩
        have G5 := Lib.hid (gb_trans G4.out g5)
        clear g5
        go_wp2
        go_ret
        exact ⟨rfl, G5.out⟩
      · have f1 : ((vf : Int) == 0) = false := by rw [beq_eq_false_iff_ne]; omega
        have f2 : ((vf : Int) != 0) = true := by rw [bne_iff_ne]; omega
        clear HBG h0 hx hy hz
        go_enter Try.func8, Try.ntmps8
        go_wp2_with fail
        refine (KB.out _).mono ?_
        rintro e w' ⟨rfl, rfl⟩
        go_wp2_with fail
        refine (KI.out _).mono ?_
        rintro e w' ⟨rfl, rfl⟩
        go_wp2_with fail
        refine (KR.out _).mono ?_
        rintro e w4 ⟨rfl, g4⟩
        have G4 := Lib.hid g4
        clear g4
        simp only [hdA]
        go_wp2_with fail
        refine (AW.out _).mono ?_
        rintro e w5 ⟨rfl, g5⟩
        have G5 := Lib.hid (gb_trans G4.out g5)
        clear g5
        go_wp2
        go_ret
        exact ⟨rfl, G5.out⟩
    | blank y z h hx hy h1 h2 hz h3 h4 =>
      have d0 : decide ((2 : Int) < s.size) = true := decide_eq_true (by omega)
      have c0 := bt_cell s 0 (by omega) hx
      have c1 := bt_cell s 1 (by omega) hy
      have c2 := bt_cell s 2 (by omega) hz
      have y256 : y < 256 := by rw [← hy]; exact bt_lt s 1
      have z256 : z < 256 := by rw [← hz]; exact bt_lt s 2
      have d1 : decide ((49 : Int) ≤ y) = true := decide_eq_true (by omega)
      have d2 : decide ((y : Int) ≤ 54) = true := decide_eq_true (by omega)
      have e2 : ((z : Int) == 35) = false := by rw [beq_eq_false_iff_ne]; omega
      have KB := fun u => rblank_calls z z256 u
      simp only [h4] at KB
      have KB := Lib.hid KB
      by_cases h0 : vf = 0
      · have f1 : ((vf : Int) == 0) = true := by rw [beq_iff_eq]; omega
        have f2 : ((vf : Int) != 0) = false := by rw [bne_eq_false_iff_eq]; omega
        clear HBG h0 hx hy hz h3 h4
        go_enter Try.func8, Try.ntmps8
        go_wp2_with fail
        refine (KB.out _).mono ?_
        rintro e w' ⟨rfl, rfl⟩
        go_wp2_with fail
        refine (KI.out _).mono ?_
        rintro e w' ⟨rfl, rfl⟩
        go_wp2_with fail
        refine (KR.out _).mono ?_
        rintro e w4 ⟨rfl, g4⟩
        have G4 := Lib.hid g4
        clear g4
        simp only [hdA]
        go_wp2_with fail
        refine (AW.out _).mono ?_
        rintro e w5 ⟨rfl, g5⟩
        have G5 := Lib.hid (gb_trans G4.out g5)
        clear g5
        go_wp2
        go_ret
        exact ⟨rfl, G5.out⟩
      · have f1 : ((vf : Int) == 0) = false := by rw [beq_eq_false_iff_ne]; omega
        have f2 : ((vf : Int) != 0) = true := by rw [bne_iff_ne]; omega
        clear HBG h0 hx hy hz h3 h4
        go_enter Try.func8, Try.ntmps8
        go_wp2_with fail
        refine (KB.out _).mono ?_
        rintro e w' ⟨rfl, rfl⟩
        go_wp2_with fail
        refine (KI.out _).mono ?_
        rintro e w' ⟨rfl, rfl⟩
        go_wp2_with fail
        refine (KR.out _).mono ?_
        rintro e w4 ⟨rfl, g4⟩
        have G4 := Lib.hid g4
        clear g4
        simp only [hdA]
        go_wp2_with fail
        refine (AW.out _).mono ?_
        rintro e w5 ⟨rfl, g5⟩
        have G5 := Lib.hid (gb_trans G4.out g5)
        clear g5
        go_wp2
        go_ret
        exact ⟨rfl, G5.out⟩
    | other y z h hx hy h1 h2 hz h3 h4 =>
      have d0 : decide ((2 : Int) < s.size) = true := decide_eq_true (by omega)
      have c0 := bt_cell s 0 (by omega) hx
      have c1 := bt_cell s 1 (by omega) hy
      have c2 := bt_cell s 2 (by omega) hz
      have y256 : y < 256 := by rw [← hy]; exact bt_lt s 1
      have z256 : z < 256 := by rw [← hz]; exact bt_lt s 2
      have d1 : decide ((49 : Int) ≤ y) = true := decide_eq_true (by omega)
      have d2 : decide ((y : Int) ≤ 54) = true := decide_eq_true (by omega)
      have e2 : ((z : Int) == 35) = false := by rw [beq_eq_false_iff_ne]; omega
      have KB := fun u => rblank_calls z z256 u
      simp only [h4] at KB
      have KB := Lib.hid KB
      by_cases h0 : vf = 0
      · have f1 : ((vf : Int) == 0) = true := by rw [beq_iff_eq]; omega
        have f2 : ((vf : Int) != 0) = false := by rw [bne_eq_false_iff_eq]; omega
        have hdg : 48 ≤ z ∧ z ≤ 57 := by
          have := (HBG.out h0).2.2.2
          rw [hz, h4] at this
          rcases this with h | h | h
          · exact absurd h h3
          · cases h
          · exact h
        have d8 : decide ((48 : Int) ≤ z) = true := decide_eq_true (by omega)
        have d9 : decide ((z : Int) ≤ 57) = true := decide_eq_true (by omega)
        clear hdg
        clear HBG h0 hx hy hz h3 h4
        go_enter Try.func8, Try.ntmps8
        go_wp2_with fail
        refine (KB.out _).mono ?_
        rintro e w' ⟨rfl, rfl⟩
        go_wp2_with fail
        refine (KI.out _).mono ?_
        rintro e w' ⟨rfl, rfl⟩
        go_wp2_with fail
        refine (KR.out _).mono ?_
        rintro e w4 ⟨rfl, g4⟩
        have G4 := Lib.hid g4
        clear g4
        simp only [hdA]
        go_wp2_with fail
        refine (AW.out _).mono ?_
        rintro e w5 ⟨rfl, g5⟩
        have G5 := Lib.hid (gb_trans G4.out g5)
        clear g5
        go_wp2
        go_ret
        exact ⟨rfl, G5.out⟩
      · have f1 : ((vf : Int) == 0) = false := by rw [beq_eq_false_iff_ne]; omega
        have f2 : ((vf : Int) != 0) = true := by rw [bne_iff_ne]; omega
        clear HBG h0 hx hy hz h3 h4
        go_enter Try.func8, Try.ntmps8
        go_wp2_with fail
        refine (KB.out _).mono ?_
        rintro e w' ⟨rfl, rfl⟩
        go_wp2_with fail
        refine (KI.out _).mono ?_
        rintro e w' ⟨rfl, rfl⟩
        go_wp2_with fail
        refine (KR.out _).mono ?_
        rintro e w4 ⟨rfl, g4⟩
        have G4 := Lib.hid g4
        clear g4
        simp only [hdA]
        go_wp2_with fail
        refine (AW.out _).mono ?_
        rintro e w5 ⟨rfl, g5⟩
        have G5 := Lib.hid (gb_trans G4.out g5)
        clear g5
        go_wp2
        go_ret
        exact ⟨rfl, G5.out⟩
  · have dl : decide ((300 : Int) < s.size) = true := decide_eq_true (by omega)
    go_enter Try.func8, Try.ntmps8
    go_wp2_with fail
    refine (AW.out _).mono ?_
    rintro e w2 ⟨rfl, g2⟩
    have G2 := Lib.hid g2
    clear g2
    go_wp2
    go_ret
    exact ⟨rfl, G2.out⟩

end Go.Proofs.Ytckkkdiekamiaaa.Ph
