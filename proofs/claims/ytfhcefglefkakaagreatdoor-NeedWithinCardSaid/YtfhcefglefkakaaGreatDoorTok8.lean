/- Package token: blank bytes, digits; going over blanks and remarks. -/
import Derived.Test.YtfhcefglefkakaaGreatDoorTok7
import Derived.Deep.LoopGhost
import Derived.Deep.QuietTactic
import Derived.BigQuiet
namespace Go.Proofs.YtfhcefglefkakaaGreatDoor.Tk
open Go.ChangeShapes Go.WideShapes Go.ChangeAt Go.RowKit
open Go.Proofs.YtfhcefglefkakaaGreatDoor.Le Go.Proofs.YtfhcefglefkakaaGreatDoor.Sr
set_option linter.unusedVariables false

theorem blank_calls (b : Nat) (W : World) : Calls Tryz.prog 78 #[.int .i64 b] W fun e w' => e = .returned (.bool (blankB b)) ∧ W = w' := by
  have hc : (((b : Int) == 32) = true ∧ blankB b = true) ∨ (((b : Int) == 32) = false ∧ decide ((9 : Int) ≤ b) = false ∧ blankB b = false) ∨ (((b : Int) == 32) = false ∧ decide ((9 : Int) ≤ b) = true ∧ decide ((b : Int) ≤ 13) = true ∧ blankB b = true) ∨
      (((b : Int) == 32) = false ∧ decide ((9 : Int) ≤ b) = true ∧ decide ((b : Int) ≤ 13) = false ∧ blankB b = false) := by
    rw [blankB_iff, blankB_not]
    by_cases h1 : b = 32
    · exact .inl ⟨by rw [beq_iff_eq]; omega, .inl h1⟩
    · have e1 : ((b : Int) == 32) = false := by rw [beq_eq_false_iff_ne]; omega
      by_cases h2 : 9 ≤ b
      · by_cases h3 : b ≤ 13
        · exact .inr (.inr (.inl ⟨e1, decide_eq_true (by omega), decide_eq_true (by omega), .inr ⟨h2, h3⟩⟩))
        · exact .inr (.inr (.inr ⟨e1, decide_eq_true (by omega), decide_eq_false (by omega), by omega⟩))
      · exact .inr (.inl ⟨e1, decide_eq_false (by omega), by omega⟩)
  rcases hc with ⟨d1, e⟩ | ⟨d1, d2, e⟩ | ⟨d1, d2, d3, e⟩ | ⟨d1, d2, d3, e⟩
  all_goals
    rw [e]
    clear e
    go_enter Tryz.func78, Tryz.ntmps78
    go_wp2
    go_ret
    exact ⟨rfl, rfl⟩

def digB (b m : Nat) : Bool := decide (48 ≤ b) && decide (b ≤ 48 + m)
theorem digB_iff (b m : Nat) : digB b m = true ↔ 48 ≤ b ∧ b ≤ 48 + m := by simp [digB]
theorem digB_not (b m : Nat) : digB b m = false ↔ ¬ (48 ≤ b ∧ b ≤ 48 + m) := by
  rw [← digB_iff]
  simp

theorem digit_calls (b m : Nat) (W : World) (hm : m ≤ 9) : Calls Tryz.prog 148 #[.int .i64 b, .int .i64 m] W fun e w' => e = .returned (.bool (digB b m)) ∧ W = w' := by
  have hc : (decide ((48 : Int) ≤ b) = false ∧ digB b m = false) ∨ (decide ((48 : Int) ≤ b) = true ∧ decide ((b : Int) ≤ 48 + (m : Int)) = true ∧ digB b m = true) ∨ (decide ((48 : Int) ≤ b) = true ∧ decide ((b : Int) ≤ 48 + (m : Int)) = false ∧ digB b m = false) := by
    rw [digB_iff, digB_not]
    by_cases h2 : 48 ≤ b
    · by_cases h3 : b ≤ 48 + m
      · exact .inr (.inl ⟨decide_eq_true (by omega), decide_eq_true (by omega), h2, h3⟩)
      · exact .inr (.inr ⟨decide_eq_true (by omega), decide_eq_false (by omega), by omega⟩)
    · exact .inl ⟨decide_eq_false (by omega), by omega⟩
  rcases hc with ⟨d1, e⟩ | ⟨d1, d2, e⟩ | ⟨d1, d2, e⟩
  all_goals
    rw [e]
    clear e
    go_enter Tryz.func148, Tryz.ntmps148
    go_wp2
    go_ret
    exact ⟨rfl, rfl⟩

theorem back_calls (c l : Nat) (s : ByteArray) (p : Nat) (x : St) (w : World) (h : Rd c l s (p + 1) x w) :
    Calls Tryz.prog 149 #[.pointer (some ⟨c, 0, none⟩)] w fun e w' => e = .returned (.tuple #[]) ∧ Rd c l s p x w' ∧ Tn w w' [c, l] := by
  have KA := Lib.hid (at_rd c l s (p + 1) x w h)
  have hp := h.so.pt
  have hb := h.so.big
  have KS := Lib.hid (seek_rd c l s (p + 1) p x w h (by omega))
  clear h
  go_enter Tryz.func149, Tryz.ntmps149
  go_wp2_with fail
  refine KA.out.mono ?_
  rintro e w1 ⟨rfl, rfl⟩
  go_wp2_with fail
  refine KS.out.mono ?_
  rintro e w1 ⟨rfl, R, t⟩
  have HR := Lib.hid R
  have HT := Lib.hid t
  clear R t
  go_wp2
  go_end0
  exact ⟨rfl, HR.out, HT.out⟩

theorem malformed_calls (c l : Nat) (s : ByteArray) (p : Nat) (x : St) (w : World) (h : Rd c l s (p + 1) x w) :
    Calls Tryz.prog 122 #[.pointer (some ⟨c, 0, none⟩)] w fun e w' => e = .returned (.agg #[.int .i64 2, .int .i64 3, .int .i64 p]) ∧ Rd c l s (p + 1) x w' ∧ w.grownBy w' none := by
  have KA := Lib.hid (fun u (g : w.grownBy u none) => at_rd c l s (p + 1) x u (h.grown g))
  have hp := h.so.pt
  have hb := h.so.big
  have ht := h.so.ts
  have HR := Lib.hid h
  clear h
  go_enter Tryz.func122, Tryz.ntmps122
  go_wp2_with fail
  refine (KA.out _ (World.grownBy_alloc _ _ _)).mono ?_
  rintro e w1 ⟨rfl, rfl⟩
  go_wp2
  refine bodyPost_ret (v := .agg #[.int .i64 2, .int .i64 3, .int .i64 p]) (by simp only [results, Tryz.results122]; go_simp) rfl ⟨rfl, HR.out.grown (World.grownBy_alloc _ _ _), World.grownBy_alloc _ _ _⟩

/-- Behind blanks and remarks, from within a remark or not. -/
def ovR (s : ByteArray) (j : Nat) (b : Bool) : Nat := if b = true then overV s (remNext s j) else overV s j
theorem remNext_on {s : ByteArray} {j : Nat} (h : j < s.size) (h1 : bt s j ≠ 10) (h2 : bt s j ≠ 13) : remNext s j = remNext s (j + 1) := by
  unfold remNext
  rw [remEnd_on h h1 h2]
theorem remNext_at {s : ByteArray} {j : Nat} (h : j < s.size) (h1 : bt s j = 10 ∨ bt s j = 13) : remNext s j = j + 1 := by
  unfold remNext
  rw [remEnd_stop (by omega), if_pos h]
theorem remNext_end (s : ByteArray) : remNext s s.size = s.size := by
  unfold remNext
  rw [remEnd_stop (by omega), if_neg (by omega)]
theorem ovR_begin {s : ByteArray} {j : Nat} (h : j < s.size) (h1 : bt s j = 35) : ovR s (j + 1) true = ovR s j false := by
  show overV s _ = overV s _
  rw [overV_rem h h1, remNext_on h (by omega) (by omega)]
theorem ovR_rem {s : ByteArray} {j : Nat} (h : j < s.size) (h1 : bt s j ≠ 10) (h2 : bt s j ≠ 13) : ovR s (j + 1) true = ovR s j true := by
  show overV s _ = overV s _
  rw [remNext_on h h1 h2]
theorem ovR_close {s : ByteArray} {j : Nat} (h : j < s.size) (h1 : bt s j = 10 ∨ bt s j = 13) : ovR s (j + 1) false = ovR s j true := by
  show overV s _ = overV s _
  rw [remNext_at h h1]
theorem ovR_blank {s : ByteArray} {j : Nat} (h : j < s.size) (h1 : blankB (bt s j) = true) : ovR s (j + 1) false = ovR s j false := by
  show overV s _ = overV s _
  rw [overV_blank h h1]
theorem ovR_stop {s : ByteArray} {j : Nat} (h : j < s.size) (h1 : bt s j ≠ 35) (h2 : blankB (bt s j) = false) : ovR s j false = j := overV_stop h h1 h2
theorem ovR_end (s : ByteArray) (b : Bool) : ovR s s.size b = s.size := by
  cases b
  · exact overV_end (Nat.le_refl _)
  · show overV s _ = _
    rw [remNext_end]
    exact overV_end (Nat.le_refl _)
theorem ovR_ge (s : ByteArray) (j : Nat) (b : Bool) : j ≤ ovR s j b := by
  cases b
  · exact overV_ge s _ j rfl
  · have h := overV_ge s _ (remNext s j) rfl
    have h3 := remEnd_ge s _ j rfl
    have : remEnd s j ≤ remNext s j := by unfold remNext; split <;> omega
    show j ≤ overV s _
    omega
theorem ovR_gt {s : ByteArray} {j : Nat} (h : j < s.size) : j < ovR s j true := by
  have h := overV_ge s _ (remNext s j) rfl
  have h3 := remEnd_ge s _ j rfl
  have : j < remNext s j := by unfold remNext; split <;> omega
  show j < overV s _
  omega

/-- How many readings going over blanks takes: a byte that is none is read, and given back. -/
def ovN (s : ByteArray) (p : Nat) : Nat := overV s p - p + (if overV s p < s.size then 1 else 0)

/-- The steps ran out: told, with a place within the text. -/
def noF (q : Nat) : Value := .agg #[.int .i64 4, .int .i64 3, .int .i64 q]
def okF : Value := .agg #[.int .i64 0, .int .i64 0, .int .i64 0]

set_option maxRecDepth 100000 in
set_option maxHeartbeats 2000000 in
theorem over_calls (c l : Nat) (s : ByteArray) (p : Nat) (x : St) (W : World) (h : Rd c l s p x W) (hr : x.r = 0) :
    Calls Tryz.prog 166 #[.pointer (some ⟨c, 0, none⟩)] W fun e w' =>
      ∃ q, p ≤ q ∧ q ≤ s.size ∧ Tn W w' [c, l] ∧ ((e = .returned okF ∧ q = overV s p ∧ Rd c l s q (stp x (ovN s p)) w') ∨ (x.s < x.st + ovN s p ∧ e = .returned (noF q) ∧ Rd c l s q (spent x) w')) := by
  obtain ⟨o, ho⟩ : ∃ o, overV s p = o := ⟨_, rfl⟩
  obtain ⟨N, hN⟩ : ∃ N, ovN s p = N := ⟨_, rfl⟩
  have hps := h.so.pt
  have hbig := h.so.big
  have hN' : N = o - p + (if o < s.size then 1 else 0) := by rw [← hN, ← ho]; rfl
  rw [ho, hN]
  have HO := Lib.hid ho
  have HN := Lib.hid hN'
  have HR := Lib.hid hr
  have hcw := h.clt
  have hlw := h.llt
  have hF0 := Fl.new W
  have hT0 : Tn W (W.alloc (.cells #[.int .i64 0, .int .i64 0, .int .i64 0] 36)) [c, l] := Tn.gb (World.grownBy_alloc _ _ none) (by simp)
  have H := Lib.hid (h.grown (World.grownBy_alloc W (.cells #[.int .i64 0, .int .i64 0, .int .i64 0] 36) none))
  have HF0 := Lib.hid hF0
  have HT0 := Lib.hid hT0
  obtain ⟨r, hrw⟩ : ∃ r, W.heap.size = r := ⟨_, rfl⟩
  have hrc : r ≠ c := by omega
  have hrl : r ≠ l := by omega
  have HRW := Lib.hid hrw
  have HNI : r ∉ [c, l] := by simp [hrc, hrl]
  have HC := Lib.hid hrc
  have HL := Lib.hid hrl
  clear h ho hN hN' hr hF0 hT0 hcw hlw hrc hrl
  go_enter Tryz.func166, Tryz.ntmps166
  go_wp2_with fail
  rw [HRW.out] at HF0
  clear hrw
  go_step3
  go_wp2_with fail
  go_step3
  go_wp2_with fail
  go_loopg [3] (s.size - p) (fun q iv wr => ∃ (j : Nat) (b : Bool), j ≤ s.size ∧ p ≤ j ∧ q = s.size - j ∧ iv = .bool b ∧ ovR s j b = o ∧ Rd c l s j (stp x (j - p)) wr ∧ Tn W wr [c, l] ∧ Fl r 0 0 0 wr)
  case atStart => exact ⟨p, false, hps, Nat.le_refl _, rfl, rfl, HO.out, by rw [Nat.sub_self, stp_0]; exact H.out, HT0.out, HF0.out⟩
  case round =>
    obtain ⟨j, b, hj, hpj, rfl, rfl, J, R0, T0, F0⟩ := hrel
    have HJ := Lib.hid J
    have KL := Lib.hid (left_rd c l s j _ wr R0)
    have HT0 := Lib.hid T0
    have HF0 := Lib.hid F0
    clear J R0 T0 F0
    go_wp2_with fail
    refine KL.out.mono ?_
    rintro e w1 ⟨rfl, R1, t1⟩
    have HR1 := Lib.hid R1
    have HT1 := Lib.hid (HT0.out.trans t1)
    have HF1 := Lib.hid (HF0.out.turned t1 HNI)
    clear R1 t1 KL HT0 HF0
    have hR1 := HR1.out.ok.ts
    rw [stp_st, stp_s] at hR1
    by_cases hjs : j < s.size
    · have d0 : decide ((0 : Int) < (s.size : Int) - (j : Int)) = true := decide_eq_true (by omega)
      by_cases hk : x.s < x.st + (j - p : Nat) + 1
      · have hno : x.s < x.st + N := by
          have e := HN.out
          have g := ovR_ge s j b
          rw [HJ.out] at g
          by_cases ho : o < s.size
          · rw [if_pos ho] at e
            omega
          · rw [if_neg ho] at e
            omega
        have HNO := Lib.hid hno
        have KU := Lib.hid (u8_spent c l s j _ w1 HR1.out HR.out hk)
        clear hno hk
        go_wp2_with fail
        refine KU.out.mono ?_
        rintro e w2 ⟨rfl, R2, t2⟩
        have KF := Lib.hid (fault_spent c l s j _ 3 w2 R2)
        have HT2 := Lib.hid (HT1.out.trans t2)
        have HF2 := Lib.hid (HF1.out.turned t2 HNI)
        clear R2 t2 KU HR1 HT1 HF1
        go_wp2_with fail
        refine KF.out.mono ?_
        rintro e w3 ⟨rfl, R3, g3⟩
        have F3 : Fl r 0 0 0 w3 := HF2.out.turned (Tn.gb g3 (S := [c, l]) (by simp)) HNI
        have q0 := F3.c0
        have q1 := F3.c1
        have q2 := F3.c2
        have f0 := F3.free 0
        have f1 := F3.free 1
        have f2 := F3.free 2
        have HR3 := Lib.hid R3
        have HT3 := Lib.hid (HT2.out.trans (Tn.gb g3 (by simp)))
        clear R3 g3 KF HT2 F3 HF2
        go_wp2
        try rw [Exit.noGoto_ret]
        refine bodyPost_ret (v := noF j) (by simp only [results, Tryz.results166, noF]; go_simp) rfl ⟨j, hpj, hj, ?_, .inr ⟨HNO.out, rfl, ?_⟩⟩
        · have hk := HRW.out
          exact Tn.own1 (Tn.own1 (Tn.own1 HT3.out (by omega)) (by omega)) (by omega)
        · exact ((HR3.out.st HC.out.symm HL.out.symm).st HC.out.symm HL.out.symm).st HC.out.symm HL.out.symm
      · have KU := Lib.hid (u8_byte c l s j _ w1 HR1.out HR.out (by rw [stp_st, stp_s]; omega) hjs)
        obtain ⟨y, hy⟩ : ∃ y, bt s j = y := ⟨_, rfl⟩
        rw [hy] at KU
        have cl : y < 256 := by rw [← hy]; exact bt_lt s j
        have HY := Lib.hid hy
        clear hy hk
        cases b with
        | true =>
          have hx : (y ≠ 10 ∧ y ≠ 13 ∧ ((y : Int) == 10) = false ∧ ((y : Int) != 10) = true ∧ ((y : Int) == 13) = false ∧ ((y : Int) != 13) = true) ∨ (y = 10 ∧ ((y : Int) == 10) = true ∧ ((y : Int) != 10) = false) ∨ (y = 13 ∧ ((y : Int) == 10) = false ∧ ((y : Int) != 10) = true ∧ ((y : Int) == 13) = true ∧ ((y : Int) != 13) = false) := by
            by_cases h1 : y = 10
            · exact .inr (.inl ⟨h1, by rw [beq_iff_eq]; omega, by rw [bne_eq_false_iff_eq]; omega⟩)
            · by_cases h2 : y = 13
              · exact .inr (.inr ⟨h2, by rw [beq_eq_false_iff_ne]; omega, by rw [bne_iff_ne]; omega, by rw [beq_iff_eq]; omega, by rw [bne_eq_false_iff_eq]; omega⟩)
              · exact .inl ⟨h1, h2, by rw [beq_eq_false_iff_ne]; omega, by rw [bne_iff_ne]; omega, by rw [beq_eq_false_iff_ne]; omega, by rw [bne_iff_ne]; omega⟩
          rcases hx with ⟨h1, h2, d1, d1', d2, d2'⟩ | ⟨h1, d1, d1'⟩ | ⟨h1, d1, d1', d2, d2'⟩
          · have HE := Lib.hid ((ovR_rem hjs (by rw [HY.out]; exact h1) (by rw [HY.out]; exact h2)).trans HJ.out)
            clear h1 h2
            go_wp2_with fail
            refine KU.out.mono ?_
            rintro e w2 ⟨rfl, R2, t2⟩
            rw [stp_stp] at R2
            have HR2 := Lib.hid R2
            have HT2 := Lib.hid (HT1.out.trans t2)
            have HF2 := Lib.hid (HF1.out.turned t2 HNI)
            clear R2 t2 KU HR1 HT1 HF1
            go_wp2
            go_roundg (s.size - (j + 1))
            case measure => omega
            case rel => exact ⟨j + 1, true, by omega, by omega, rfl, rfl, HE.out, by rw [show j + 1 - p = j - p + 1 from by omega]; exact HR2.out, HT2.out, HF2.out⟩
          · have HE := Lib.hid ((ovR_close hjs (by rw [HY.out]; exact .inl h1)).trans HJ.out)
            clear h1
            go_wp2_with fail
            refine KU.out.mono ?_
            rintro e w2 ⟨rfl, R2, t2⟩
            rw [stp_stp] at R2
            have HR2 := Lib.hid R2
            have HT2 := Lib.hid (HT1.out.trans t2)
            have HF2 := Lib.hid (HF1.out.turned t2 HNI)
            clear R2 t2 KU HR1 HT1 HF1
            go_wp2
            go_roundg (s.size - (j + 1))
            case measure => omega
            case rel => exact ⟨j + 1, false, by omega, by omega, rfl, rfl, HE.out, by rw [show j + 1 - p = j - p + 1 from by omega]; exact HR2.out, HT2.out, HF2.out⟩
          · have HE := Lib.hid ((ovR_close hjs (by rw [HY.out]; exact .inr h1)).trans HJ.out)
            clear h1
            go_wp2_with fail
            refine KU.out.mono ?_
            rintro e w2 ⟨rfl, R2, t2⟩
            rw [stp_stp] at R2
            have HR2 := Lib.hid R2
            have HT2 := Lib.hid (HT1.out.trans t2)
            have HF2 := Lib.hid (HF1.out.turned t2 HNI)
            clear R2 t2 KU HR1 HT1 HF1
            go_wp2
            go_roundg (s.size - (j + 1))
            case measure => omega
            case rel => exact ⟨j + 1, false, by omega, by omega, rfl, rfl, HE.out, by rw [show j + 1 - p = j - p + 1 from by omega]; exact HR2.out, HT2.out, HF2.out⟩
        | false =>
          by_cases h35 : y = 35
          · have d1 : ((y : Int) == 35) = true := by rw [beq_iff_eq]; omega
            have HE := Lib.hid ((ovR_begin hjs (by rw [HY.out]; exact h35)).trans HJ.out)
            clear h35
            go_wp2_with fail
            refine KU.out.mono ?_
            rintro e w2 ⟨rfl, R2, t2⟩
            rw [stp_stp] at R2
            have HR2 := Lib.hid R2
            have HT2 := Lib.hid (HT1.out.trans t2)
            have HF2 := Lib.hid (HF1.out.turned t2 HNI)
            clear R2 t2 KU HR1 HT1 HF1
            go_wp2
            go_roundg (s.size - (j + 1))
            case measure => omega
            case rel => exact ⟨j + 1, true, by omega, by omega, rfl, rfl, HE.out, by rw [show j + 1 - p = j - p + 1 from by omega]; exact HR2.out, HT2.out, HF2.out⟩
          · have d1 : ((y : Int) == 35) = false := by rw [beq_eq_false_iff_ne]; omega
            have H35 := Lib.hid h35
            have KB := fun u => blank_calls y u
            clear h35
            cases eB : blankB y
            · simp only [eB] at KB
              have KBh := Lib.hid KB
              have hre : o = j := by rw [← HJ.out, ovR_stop hjs (by rw [HY.out]; exact H35.out) (by rw [HY.out]; exact eB)]
              subst hre
              have hN : N = o - p + 1 := by rw [HN.out, if_pos hjs]
              subst hN
              clear eB KB
              go_wp2_with fail
              refine KU.out.mono ?_
              rintro e w2 ⟨rfl, R2, t2⟩
              rw [stp_stp] at R2
              have KK := Lib.hid (back_calls c l s o _ w2 R2)
              have HT2 := Lib.hid (HT1.out.trans t2)
              have HF2 := Lib.hid (HF1.out.turned t2 HNI)
              clear R2 t2 KU HR1 HT1 HF1
              go_wp2_with fail
              refine (KBh.out _).mono ?_
              rintro e w' ⟨rfl, rfl⟩
              go_wp2_with fail
              refine KK.out.mono ?_
              rintro e w3 ⟨rfl, R3, t3⟩
              have F3 : Fl r 0 0 0 w3 := HF2.out.turned t3 HNI
              have q0 := F3.c0
              have q1 := F3.c1
              have q2 := F3.c2
              have f0 := F3.free 0
              have f1 := F3.free 1
              have f2 := F3.free 2
              have HR3 := Lib.hid R3
              have HT3 := Lib.hid (HT2.out.trans t3)
              clear R3 t3 KK HT2 F3 HF2
              go_wp2
              try rw [Exit.noGoto_ret]
              refine bodyPost_ret (v := okF) (by simp only [results, Tryz.results166, okF]; go_simp) rfl ⟨o, hpj, hj, ?_, .inl ⟨rfl, rfl, ?_⟩⟩
              · have hk := HRW.out
                exact Tn.own1 (Tn.own1 (Tn.own1 HT3.out (by omega)) (by omega)) (by omega)
              · exact ((HR3.out.st HC.out.symm HL.out.symm).st HC.out.symm HL.out.symm).st HC.out.symm HL.out.symm
            · simp only [eB] at KB
              have KBh := Lib.hid KB
              have HE := Lib.hid ((ovR_blank hjs (by rw [HY.out]; exact eB)).trans HJ.out)
              clear eB KB
              go_wp2_with fail
              refine KU.out.mono ?_
              rintro e w2 ⟨rfl, R2, t2⟩
              rw [stp_stp] at R2
              have HR2 := Lib.hid R2
              have HT2 := Lib.hid (HT1.out.trans t2)
              have HF2 := Lib.hid (HF1.out.turned t2 HNI)
              clear R2 t2 KU HR1 HT1 HF1
              go_wp2_with fail
              refine (KBh.out _).mono ?_
              rintro e w' ⟨rfl, rfl⟩
              go_wp2
              go_roundg (s.size - (j + 1))
              case measure => omega
              case rel => exact ⟨j + 1, false, by omega, by omega, rfl, rfl, HE.out, by rw [show j + 1 - p = j - p + 1 from by omega]; exact HR2.out, HT2.out, HF2.out⟩
    · obtain rfl : j = s.size := by omega
      have hre : o = s.size := by rw [← HJ.out, ovR_end]
      subst hre
      have hN : N = s.size - p := by rw [HN.out, if_neg (by omega)]; rfl
      subst hN
      have d0 : decide ((0 : Int) < (s.size : Int) - (s.size : Int)) = false := decide_eq_false (by omega)
      have q0 := HF1.out.c0
      have q1 := HF1.out.c1
      have q2 := HF1.out.c2
      have f0 := HF1.out.free 0
      have f1 := HF1.out.free 1
      have f2 := HF1.out.free 2
      go_wp2
      try rw [Exit.noGoto_ret]
      refine bodyPost_ret (v := okF) (by simp only [results, Tryz.results166, okF]; go_simp) rfl ⟨s.size, hpj, hj, ?_, .inl ⟨rfl, rfl, ?_⟩⟩
      · have hk := HRW.out
        exact Tn.own1 (Tn.own1 (Tn.own1 HT1.out (by omega)) (by omega)) (by omega)
      · exact ((HR1.out.st HC.out.symm HL.out.symm).st HC.out.symm HL.out.symm).st HC.out.symm HL.out.symm

end Go.Proofs.YtfhcefglefkakaaGreatDoor.Tk
