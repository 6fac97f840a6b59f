/- The law TokenSpent, walked. -/
import Derived.Test.YtckkkdiekamiaaaTokD
namespace Go.Proofs.Ytckkkdiekamiaaa.Tk
open Go.ChangeShapes Go.WideShapes Go.ChangeAt Go.RowKit
open Go.Proofs.Ytckkkdiekamiaaa.Le Go.Proofs.Ytckkkdiekamiaaa.Sr
set_option linter.unusedVariables false

theorem steps_rd (c l : Nat) (s : ByteArray) (p : Nat) (x : St) (w : World) (h : Rd c l s p x w) :
    Calls Try.prog 23 #[.pointer (some ⟨l, 0, none⟩)] w fun e w' => e = .returned (.int .i64 x.st) ∧ w = w' := steps_calls l x.ls w h.led

set_option maxRecDepth 100000 in
set_option maxHeartbeats 4000000 in
theorem spent_walk (s : ByteArray) (a : Int) (W : World) (hs : s.size ≤ 9223372036854775807) (ha : 0 ≤ a ∧ a ≤ 255) :
    Calls Try.prog 6 #[.string s, .int .u8 a] W fun e w' => e = .returned (.bool true) ∧ W.grownBy w' none := by
  obtain ⟨ha0, ha1⟩ := ha
  by_cases h200 : s.size ≤ 200
  · have d0 : decide ((200 : Int) < s.size) = false := decide_eq_false (by omega)
    go_enter Try.func6, Try.ntmps6
    go_wp2_with fail
    refine (wnew_calls a ha0 _).mono ?_
    rintro e w1 ⟨l, rfl, L1, g1, hl⟩
    have HL1 := Lib.hid L1
    have G1 := Lib.hid g1
    have hlw := L1.lt
    have hw := g1.size
    clear L1 g1
    go_wp2_with fail
    refine (snew_calls l s _ hs).mono ?_
    rintro e w2 ⟨c, rfl, S2, g2, hc⟩
    have R : Rd c l s 0 (LW a 0) w2 := ⟨S2 hlw, HL1.out.grown g2 (by simp), LW_ok (by omega) (by decide) ha0⟩
    have KN := number_calls c l s 0 _ w2 R rfl
    have KR := fun u => rnumber_calls s 0 u (by omega) (Nat.zero_le _)
    have hN := numN_le s 0 (Nat.zero_le _)
    have HG := Lib.hid (gb_trans G1.out g2)
    have hcw := R.clt
    have hlw2 := R.llt
    clear R S2 g2 HL1 G1
    rcases gotV_gd s 0 (Nat.zero_le _) with ⟨kd, pl, eg, hk0, hk3, hpl, _⟩ | ⟨v, f, j, eg, hkf, hfj, hjs, hv, hNj⟩
    all_goals
      rw [eg] at KN
      simp only [eg] at KR
      have KN := Lib.hid KN
      have KR := Lib.hid KR
      clear eg
      go_wp2_with fail
      refine KN.out.mono ?_
      rintro e w2 ⟨q, hq0, hqs, t2, ⟨rfl, hq, R2⟩ | ⟨hno, rfl, R2⟩⟩
    · have G2 := Lib.hid (Tn.own HG.out t2 (by intro x hx; simp at hx; omega))
      have hst := R2.ok.ts
      rw [stp_st, stp_s] at hst
      have hst' : ((numN s 0 : Nat) : Int) ≤ a := by
        have e1 : (LW a 0).s = a := rfl
        have e2 : (LW a 0).st = 0 := rfl
        rw [e1, e2] at hst
        omega
      have HR2 := Lib.hid R2
      have h3 := Lib.hid (fmK_pos hk0)
      have hk0' : (kd : Int) ≠ 0 := by omega
      have HK0 := Lib.hid hk0'
      have d2 : ((kd : Int) == 4) = false := by rw [beq_eq_false_iff_ne]; omega
      have d3 : decide (a < ((numN s 0 : Nat) : Int)) = false := decide_eq_false (by omega)
      clear t2 R2 KN HG hst hk0 hk0' hq
      simp only [gotT]
      rw [h3.out]
      go_wp2_with fail
      refine (KR.out _).mono ?_
      rintro e w3 ⟨rfl, g3⟩
      have F3 : Fl w2.heap.size kd 3 pl w3 := old1 g3 (by simp)
      have q0 := F3.c0
      have q1 := F3.c1
      have q2 := F3.c2
      have hlt := F3.lt
      have G3 := Lib.hid (gb_trans (gb_trans G2.out (World.grownBy_alloc _ _ none)) g3)
      have HR3 := Lib.hid ((HR2.out.grown (World.grownBy_alloc _ _ none)).grown g3)
      clear KR G2 F3 g3 HR2
      simp only [gotA]
      go_wp2_with fail
      refine (steps_rd c l s q _ _ (HR3.out.grown (World.grownBy_alloc _ _ none))).mono ?_
      rintro e w' ⟨rfl, rfl⟩
      rw [stp_st, show (LW a 0).st = 0 from rfl, Int.zero_add]
      go_wp2_with fail
      refine (same_bad c kd pl _ HK0.out).mono ?_
      rintro e w4 ⟨rfl, g4⟩
      have G4 := Lib.hid (gb_trans (gb_trans G3.out (World.grownBy_alloc _ _ none)) g4)
      clear g4 G3 q0 q1 q2
      go_wp2_with fail
      refine (awake_calls _).mono ?_
      rintro e w5 ⟨rfl, g5⟩
      have G5 := Lib.hid (gb_trans G4.out g5)
      clear g5
      go_wp2
      go_ret
      exact ⟨rfl, G5.out⟩
    · have G2 := Lib.hid (Tn.own HG.out t2 (by intro x hx; simp at hx; omega))
      have hno' : a < ((numN s 0 : Nat) : Int) := by
        have e1 : (LW a 0).s = a := rfl
        have e2 : (LW a 0).st = 0 := rfl
        rw [e1, e2] at hno
        omega
      have HR2 := Lib.hid R2
      have d1 : decide (a < (s.size : Int) + 2) = true := decide_eq_true (by omega)
      have d2 : decide ((0 : Int) ≤ (q : Int)) = true := decide_eq_true (by omega)
      have d3 : decide ((q : Int) ≤ (s.size : Int)) = true := decide_eq_true (by omega)
      have d4 : decide (a < a) = false := decide_eq_false (by omega)
      clear t2 R2 KN HG hno hno'
      simp only [noT]
      go_wp2_with fail
      refine (KR.out _).mono ?_
      rintro e w3 ⟨rfl, g3⟩
      have F3 : Fl w2.heap.size 4 3 q w3 := old1 g3 (by simp)
      have q0 := F3.c0
      have q1 := F3.c1
      have q2 := F3.c2
      have hlt := F3.lt
      have G3 := Lib.hid (gb_trans (gb_trans G2.out (World.grownBy_alloc _ _ none)) g3)
      have HR3 := Lib.hid ((HR2.out.grown (World.grownBy_alloc _ _ none)).grown g3)
      clear KR G2 F3 g3 HR2
      simp only [gotA]
      go_wp2_with fail
      refine (steps_rd c l s q _ _ (HR3.out.grown (World.grownBy_alloc _ _ none))).mono ?_
      rintro e w' ⟨rfl, rfl⟩
      rw [show (spent (LW a 0)).st = a from rfl]
      go_wp2_with fail
      refine (awake_calls _).mono ?_
      rintro e w5 ⟨rfl, g5⟩
      have G5 := Lib.hid (gb_trans (gb_trans G3.out (World.grownBy_alloc _ _ none)) g5)
      clear g5
      go_wp2
      go_ret
      exact ⟨rfl, G5.out⟩
    · obtain rfl : q = j := hq rfl
      have G2 := Lib.hid (Tn.own HG.out t2 (by intro x hx; simp at hx; omega))
      have hst := R2.ok.ts
      rw [stp_st, stp_s] at hst
      have hst' : ((numN s 0 : Nat) : Int) ≤ a := by
        have e1 : (LW a 0).s = a := rfl
        have e2 : (LW a 0).st = 0 := rfl
        rw [e1, e2] at hst
        omega
      have HR2 := Lib.hid R2
      have d3 : decide (a < ((numN s 0 : Nat) : Int)) = false := decide_eq_false (by omega)
      clear t2 R2 KN HG hst hq
      simp only [gotT, show ((fmK 0 : Nat) : Int) = 0 from rfl]
      go_wp2_with fail
      refine (KR.out _).mono ?_
      rintro e w3 ⟨rfl, g3⟩
      have F3 : Fl w2.heap.size 0 0 0 w3 := old1 g3 (by simp)
      have q0 := F3.c0
      have q1 := F3.c1
      have q2 := F3.c2
      have hlt := F3.lt
      have G3 := Lib.hid (gb_trans (gb_trans G2.out (World.grownBy_alloc _ _ none)) g3)
      have HR3 := Lib.hid ((HR2.out.grown (World.grownBy_alloc _ _ none)).grown g3)
      clear KR G2 F3 g3 HR2
      simp only [gotA]
      go_wp2_with fail
      refine (steps_rd c l s q _ _ (HR3.out.grown (World.grownBy_alloc _ _ none))).mono ?_
      rintro e w' ⟨rfl, rfl⟩
      rw [stp_st, show (LW a 0).st = 0 from rfl, Int.zero_add]
      go_wp2_with fail
      refine (same_yes c l s q _ v f _ (HR3.out.grown (World.grownBy_alloc _ _ none))).mono ?_
      rintro e w4 ⟨rfl, g4⟩
      have G4 := Lib.hid (gb_trans (gb_trans G3.out (World.grownBy_alloc _ _ none)) g4)
      clear g4 G3 q0 q1 q2
      go_wp2_with fail
      refine (awake_calls _).mono ?_
      rintro e w5 ⟨rfl, g5⟩
      have G5 := Lib.hid (gb_trans G4.out g5)
      clear g5
      go_wp2
      go_ret
      exact ⟨rfl, G5.out⟩
    · have G2 := Lib.hid (Tn.own HG.out t2 (by intro x hx; simp at hx; omega))
      have hno' : a < ((numN s 0 : Nat) : Int) := by
        have e1 : (LW a 0).s = a := rfl
        have e2 : (LW a 0).st = 0 := rfl
        rw [e1, e2] at hno
        omega
      have HR2 := Lib.hid R2
      have d1 : decide (a < (s.size : Int) + 2) = true := decide_eq_true (by omega)
      have d2 : decide ((0 : Int) ≤ (q : Int)) = true := decide_eq_true (by omega)
      have d3 : decide ((q : Int) ≤ (s.size : Int)) = true := decide_eq_true (by omega)
      have d4 : decide (a < a) = false := decide_eq_false (by omega)
      clear t2 R2 KN HG hno hno'
      simp only [noT]
      go_wp2_with fail
      refine (KR.out _).mono ?_
      rintro e w3 ⟨rfl, g3⟩
      have F3 : Fl w2.heap.size 4 3 q w3 := old1 g3 (by simp)
      have q0 := F3.c0
      have q1 := F3.c1
      have q2 := F3.c2
      have hlt := F3.lt
      have G3 := Lib.hid (gb_trans (gb_trans G2.out (World.grownBy_alloc _ _ none)) g3)
      have HR3 := Lib.hid ((HR2.out.grown (World.grownBy_alloc _ _ none)).grown g3)
      clear KR G2 F3 g3 HR2
      simp only [gotA]
      go_wp2_with fail
      refine (steps_rd c l s q _ _ (HR3.out.grown (World.grownBy_alloc _ _ none))).mono ?_
      rintro e w' ⟨rfl, rfl⟩
      rw [show (spent (LW a 0)).st = a from rfl]
      go_wp2_with fail
      refine (awake_calls _).mono ?_
      rintro e w5 ⟨rfl, g5⟩
      have G5 := Lib.hid (gb_trans (gb_trans G3.out (World.grownBy_alloc _ _ none)) g5)
      clear g5
      go_wp2
      go_ret
      exact ⟨rfl, G5.out⟩
  · have d0 : decide ((200 : Int) < s.size) = true := decide_eq_true (by omega)
    go_enter Try.func6, Try.ntmps6
    go_wp2_with fail
    refine (awake_calls _).mono ?_
    rintro e w2 ⟨rfl, g2⟩
    have G2 := Lib.hid g2
    clear g2
    go_wp2
    go_ret
    exact ⟨rfl, G2.out⟩

end Go.Proofs.Ytckkkdiekamiaaa.Tk
