/- Layer 9: the document's channel and Both, walked. -/
import Derived.Test.YtgggdieedblpjaaDoorMas2
import Derived.Test.YtgggdieedblpjaaDoorSca2
namespace Go.Proofs.YtgggdieedblpjaaDoor.Ma
open Go.ChangeShapes Go.WideShapes Go.ChangeAt Go.RowKit
open Go.Proofs.YtgggdieedblpjaaDoor.Sc
set_option linter.unusedVariables false

theorem blk_pos (s n : Nat) (hn : 1 ≤ n) : 1 ≤ blk s n := by
  unfold blk
  have h1 : 2 ^ 1 ≤ 2 ^ n := Nat.pow_le_pow_right (by decide) hn
  have h2 : 1 ≤ 2 ^ s := Nat.pow_pos (by decide)
  exact Nat.mul_pos (by omega) h2

/-- The channel of a word as eight bits. -/
def chV (word : Int) (s n : Nat) : Int := near ((low32 word / 2 ^ s % 2 ^ n : Nat) : Int) (pw n - 1)

/-- Have two words a bit in common, below i? -/
def bothB (v w : Nat) : Nat → Bool
  | 0 => false
  | i + 1 => bothB v w i || (decide (bitN v i = 1) && decide (bitN w i = 1))
theorem bothB_up {v w : Nat} {i : Nat} (h : bothB v w i = true) : ∀ k, bothB v w (i + k) = true
  | 0 => h
  | k + 1 => by show (bothB v w (i + k) || _) = true; rw [bothB_up h k]; rfl

set_option maxRecDepth 100000 in
theorem both_calls (v w : Nat) (W : World) : Calls Tryd.prog 66 #[.int .i64 v, .int .i64 w] W fun e w' => e = .returned (.bool (bothB v w 32)) ∧ W = w' := by
  obtain ⟨N, hN⟩ : ∃ N, bothB v w 32 = N := ⟨_, rfl⟩
  have HN := Lib.hid hN
  rw [hN]
  clear hN
  go_enter Tryd.func66, Tryd.ntmps66
  go_wp2
  go_loop [5] (fun i => ∃ k : Nat, k ≤ 32 ∧ i = .int .i64 (k : Int) ∧ bothB v w k = false) (fun i => 32 - (intOf i).toNat)
  case atStart => exact ⟨0, by omega, rfl, rfl⟩
  case round =>
    obtain ⟨k, hk, rfl, hb⟩ := hrel
    by_cases hlt : k < 32
    · have B := bit_calls v k W (by omega)
      rw [bitI_nat] at B
      have D := bit_calls w k W (by omega)
      rw [bitI_nat] at D
      have hs : bothB v w (k + 1) = (bothB v w k || (decide (bitN v k = 1) && decide (bitN w k = 1))) := rfl
      rw [hb] at hs
      have HU := Lib.hid (fun (h : bothB v w (k + 1) = true) => bothB_up h (31 - k))
      clear hb
      by_cases h1 : bitN v k = 1
      · rw [decide_eq_true h1] at B hs
        have B' := Lib.hid B
        by_cases h2 : bitN w k = 1
        · rw [decide_eq_true h2] at D hs
          have D' := Lib.hid D
          have hn : N = true := by
            rw [← HN.out, show 32 = k + 1 + (31 - k) from by omega]
            exact HU.out hs
          subst hn
          clear B D hs h1 h2
          go_wp2_with fail
          refine B'.out.mono ?_
          rintro e w' ⟨rfl, rfl⟩
          go_wp2_with fail
          refine D'.out.mono ?_
          rintro e w' ⟨rfl, rfl⟩
          go_wp2
          go_ret
          exact ⟨rfl, rfl⟩
        · rw [decide_eq_false h2] at D hs
          have D' := Lib.hid D
          have HS := Lib.hid hs
          clear B D hs h1 h2
          go_wp2_with fail
          refine B'.out.mono ?_
          rintro e w' ⟨rfl, rfl⟩
          go_wp2_with fail
          refine D'.out.mono ?_
          rintro e w' ⟨rfl, rfl⟩
          go_wp2
          go_round
          case rel => exact ⟨k + 1, by omega, by go_num, HS.out⟩
          case measure => simp [intOf]; omega
      · rw [decide_eq_false h1] at B hs
        have B' := Lib.hid B
        have HS := Lib.hid (show bothB v w (k + 1) = false by rw [hs]; rfl)
        clear B D hs h1
        go_wp2_with fail
        refine B'.out.mono ?_
        rintro e w' ⟨rfl, rfl⟩
        go_wp2
        go_round
        case rel => exact ⟨k + 1, by omega, by go_num, HS.out⟩
        case measure => simp [intOf]; omega
    · have hk32 : k = 32 := by omega
      obtain rfl : N = false := by rw [← HN.out, ← hk32]; exact hb
      have hge : (32 : Int) ≤ k := by omega
      clear hb
      go_wp2
      go_ret
      exact ⟨rfl, rfl⟩

/-- Of words of bits side by side below 32: do they lie apart? -/
theorem bothB_iff (v w : Nat) : ∀ i, bothB v w i = true ↔ ∃ k, k < i ∧ bitN v k = 1 ∧ bitN w k = 1
  | 0 => by simp [bothB]
  | i + 1 => by
    show (bothB v w i || (decide (bitN v i = 1) && decide (bitN w i = 1))) = true ↔ _
    rw [Bool.or_eq_true, Bool.and_eq_true, decide_eq_true_eq, decide_eq_true_eq, bothB_iff v w i]
    constructor
    · rintro (⟨k, h1, h2, h3⟩ | ⟨h2, h3⟩)
      · exact ⟨k, by omega, h2, h3⟩
      · exact ⟨i, by omega, h2, h3⟩
    · rintro ⟨k, h1, h2, h3⟩
      by_cases hk : k = i
      · subst hk; exact .inr ⟨h2, h3⟩
      · exact .inl ⟨k, by omega, h2, h3⟩

end Go.Proofs.YtgggdieedblpjaaDoor.Ma
