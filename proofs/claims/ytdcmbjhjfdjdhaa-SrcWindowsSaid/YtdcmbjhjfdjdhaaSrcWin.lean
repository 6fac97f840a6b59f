/- The law SrcWindows, walked. -/
import Derived.Test.YtdcmbjhjfdjdhaaSrcB
import Derived.Lib.SlBytesRow
namespace Go.Proofs.Ytdcmbjhjfdjdhaa.Sr
open Go.ChangeShapes Go.WideShapes Go.ChangeAt Go.RowKit
open Go.Proofs.Ytdcmbjhjfdjdhaa.Le
set_option linter.unusedVariables false

theorem tmod_nat (a b : Nat) : Int.tmod (a : Int) (b : Int) = ((a % b : Nat) : Int) := by
  rw [Int.tmod_eq_emod_of_nonneg (by omega)]
  omega

set_option maxRecDepth 100000 in
set_option maxHeartbeats 4000000 in
theorem windows_walk (s : ByteArray) (a b c d : Nat) (W : World) (h0 : 0 < s.size) (h1 : s.size ≤ 300) (ha : a ≤ 255) (hb : b ≤ 255) (hc : c ≤ 255) (hd : d ≤ 255) :
    Calls Try.prog 4 #[.string s, .int .u8 a, .int .u8 b, .int .u8 c, .int .u8 d] W fun e w' => e = .returned (.bool true) ∧ W.grownBy w' none := by
  obtain ⟨A, hA⟩ : ∃ A, a % s.size = A := ⟨_, rfl⟩
  obtain ⟨B, hB⟩ : ∃ B, b % (s.size - A + 1) = B := ⟨_, rfl⟩
  obtain ⟨C, hC⟩ : ∃ C, c % (B + 1) = C := ⟨_, rfl⟩
  obtain ⟨M, hM⟩ : ∃ M, d % (B - C + 1) = M := ⟨_, rfl⟩
  have A1 : A < s.size := hA ▸ Nat.mod_lt _ h0
  have B1 : B < s.size - A + 1 := hB ▸ Nat.mod_lt _ (by omega)
  have C1 : C < B + 1 := hC ▸ Nat.mod_lt c (show 0 < B + 1 by omega)
  have M1 : M < B - C + 1 := hM ▸ Nat.mod_lt _ (by omega)
  have e1 : (a : Int) % (s.size : Int) = A := by rw [← hA]; omega
  have e2 : (b : Int) % ((s.size : Int) - A + 1) = B := by rw [show ((s.size : Int) - A + 1) = ((s.size - A + 1 : Nat) : Int) from by omega, ← hB]; rfl
  have e3 : (c : Int) % ((B : Int) + 1) = C := by rw [show ((B : Int) + 1) = ((B + 1 : Nat) : Int) from by omega, ← hC]; rfl
  have e4 : (d : Int) % ((A : Int) + B - (A + C) + 1) = M := by rw [show ((A : Int) + B - (A + C) + 1) = ((B - C + 1 : Nat) : Int) from by omega, ← hM]; rfl
  have n1 : ¬ (s.size : Int) = 0 := by omega
  have n2 : ¬ ((s.size : Int) - A + 1) = 0 := by omega
  have n3 : ¬ ((B : Int) + 1) = 0 := by omega
  have n4 : ¬ ((A : Int) + B - (A + C) + 1) = 0 := by omega
  clear hA hB hC hM
  have g0 : ((s.size : Int) == 0) = false := by rw [beq_eq_false_iff_ne]; omega
  have g1 : decide (300 < (s.size : Int)) = false := by simp; omega
  go_enter Try.func4, Try.ntmps4
  go_wp2_with fail
  refine (wnew_calls 1000 (by decide) _).mono ?_
  rintro e w0 ⟨l, rfl, L0, g0, hl⟩
  have H0 := Lib.hid L0
  have G0 := Lib.hid g0
  have l0 := L0.lt
  clear L0 g0
  go_wp2_with fail
  refine (snew_calls l s _ (by omega)).mono ?_
  rintro e w1 ⟨p, rfl, S1, g1, hp⟩
  have H1 := Lib.hid (H0.out.grown g1 (by simp))
  have G1 := Lib.hid (gb_trans G0.out g1)
  have S1' := Lib.hid (S1 l0)
  have l1 := H1.out.lt
  have z1 := g1.size
  clear S1 g1 H0 G0
  go_wp2_with fail
  refine (window_yes p l s 0 0 s.size A B _ S1'.out (by omega) (by omega)).mono ?_
  rintro e w2 ⟨q, rfl, S2, g2, hq⟩
  have P2 := Lib.hid (S1'.out.grown g2 (by simp))
  have H2 := Lib.hid (H1.out.grown g2 (by simp))
  have G2 := Lib.hid (gb_trans G1.out g2)
  have Q2 := Lib.hid (S2 l1)
  have l2 := H2.out.lt
  have p2 := S1'.out.lt
  have z2 := g2.size
  clear S2 g2 H1 G1 S1'
  go_wp2_with fail
  refine (window_yes q l s A A (A + B) (A + C) M _ Q2.out (by omega) (by omega)).mono ?_
  rintro e w3 ⟨r, rfl, S3, g3, hr⟩
  have P3 := Lib.hid (P2.out.grown g3 (by simp))
  have Q3 := Lib.hid (Q2.out.grown g3 (by simp))
  have H3 := Lib.hid (H2.out.grown g3 (by simp))
  have G3 := Lib.hid (gb_trans G2.out g3)
  have R3 := Lib.hid (S3 l2)
  have q3 := Q2.out.lt
  clear S3 g3 H2 G2 P2 Q2
  go_wp2_with fail
  refine (take_yes r l s (A + C) (A + C) (A + C + M) M _ _ R3.out H3.out (LW_ok (by decide) (by decide) (by decide)) (LW_rd (by decide) (by omega) (by omega))).mono ?_
  rintro e w4 ⟨rfl, ⟨S4, L4⟩, t4⟩
  rw [LW_work (by decide)] at L4
  have G4 := Lib.hid (Tn.own G3.out t4 (by simp; omega))
  have P4 := Lib.hid (P3.out.turned t4 (by simp; exact ⟨by omega, P3.out.bl⟩))
  have Q4 := Lib.hid (Q3.out.turned t4 (by simp; exact ⟨by omega, Q3.out.bl⟩))
  have H4 := Lib.hid L4
  have R4 := Lib.hid S4
  clear S4 L4 t4 G3 P3 Q3 H3 R3
  have hcut : ∀ w, (Instr.slice 9 (.string s) (some (.int .i64 ((A : Int) + C))) (some (.int .i64 ((A : Int) + C + M))) none).run Try.prog w = .ok (.string (s.extract (A + C) (A + C + M))) w := fun w => by
    have h := cut_at s (A + C) M (by omega) w
    rwa [show ((A + C : Nat) : Int) = (A : Int) + C from by omega] at h
  obtain ⟨z, hz⟩ : ∃ z, s.extract (A + C) (A + C + M) = z := ⟨_, rfl⟩
  rw [hz] at hcut ⊢
  clear hz
  have eL : (((A + C + M : Nat) : Int) - ((A + C + M : Nat) : Int)) = 0 := by omega
  go_wp2_with fail
  refine (at_calls r l s _ _ _ _ R4.out).mono ?_
  rintro e w' ⟨rfl, rfl⟩
  go_wp2_with fail
  refine (left_calls r l s _ _ _ _ R4.out).mono ?_
  rintro e w' ⟨rfl, nq, rfl⟩
  rw [eL]
  have P5 := Lib.hid (P4.out.grown (gb_drewN _ nq none) (by simp))
  have Q5 := Lib.hid (Q4.out.grown (gb_drewN _ nq none) (by simp))
  have H5 := Lib.hid (H4.out.grown (gb_drewN _ nq none) (by simp))
  have G5 := Lib.hid (gb_trans G4.out (gb_drewN _ nq none))
  clear P4 Q4 H4 G4
  go_wp2_with fail
  refine (at_calls p l s _ _ _ _ P5.out).mono ?_
  rintro e w' ⟨rfl, rfl⟩
  go_wp2_with fail
  refine (at_calls q l s _ _ _ _ Q5.out).mono ?_
  rintro e w' ⟨rfl, rfl⟩
  go_wp2_with fail
  refine (steps_calls l _ _ H5.out).mono ?_
  rintro e w' ⟨rfl, rfl⟩
  rw [show (LW 1000 (0 + 1)).ls.st = 1 from rfl]
  go_wp2_with fail
  refine (awake_calls _).mono ?_
  rintro e w9 ⟨rfl, g9⟩
  have G9 := Lib.hid (gb_trans G5.out g9)
  clear g9
  go_wp2
  go_ret
  exact ⟨rfl, G9.out⟩

set_option maxRecDepth 100000 in
/-- It isn't asked. -/
theorem windows_far (s : ByteArray) (a b c d : Int) (W : World) (h : s.size = 0 ∨ 300 < s.size) (hs : s.size ≤ 9223372036854775807) :
    Calls Try.prog 4 #[.string s, .int .u8 a, .int .u8 b, .int .u8 c, .int .u8 d] W fun e w' => e = .returned (.bool true) ∧ W.grownBy w' none := by
  rcases h with h | h
  · have g0 : ((s.size : Int) == 0) = true := by rw [h]; rfl
    have g1 : decide (300 < (s.size : Int)) = false := by simp; omega
    clear h
    go_enter Try.func4, Try.ntmps4
    go_wp2_with fail
    refine (awake_calls _).mono ?_
    rintro e w9 ⟨rfl, g9⟩
    have G9 := Lib.hid g9
    clear g9
    go_wp2
    go_ret
    exact ⟨rfl, G9.out⟩
  · have g0 : ((s.size : Int) == 0) = false := by rw [beq_eq_false_iff_ne]; omega
    have g1 : decide (300 < (s.size : Int)) = true := by simp; omega
    clear h
    go_enter Try.func4, Try.ntmps4
    go_wp2_with fail
    refine (awake_calls _).mono ?_
    rintro e w9 ⟨rfl, g9⟩
    have G9 := Lib.hid g9
    clear g9
    go_wp2
    go_ret
    exact ⟨rfl, G9.out⟩

theorem windows_any (s : ByteArray) (a b c d : Nat) (W : World) (hs : s.size ≤ 9223372036854775807) (ha : a ≤ 255) (hb : b ≤ 255) (hc : c ≤ 255) (hd : d ≤ 255) :
    Calls Try.prog 4 #[.string s, .int .u8 a, .int .u8 b, .int .u8 c, .int .u8 d] W fun e w' => e = .returned (.bool true) ∧ W.grownBy w' none := by
  by_cases h : s.size = 0 ∨ 300 < s.size
  · exact windows_far s _ _ _ _ W h hs
  · exact windows_walk s a b c d W (by omega) (by omega) ha hb hc hd

end Go.Proofs.Ytdcmbjhjfdjdhaa.Sr
