/- What is read of a text that was told: pure. -/
import Derived.Test.YtdcmbjhjfdjdhaaDoorFauA
namespace Go.Proofs.YtdcmbjhjfdjdhaaDoor.Fa
set_option linter.unusedVariables false

theorem cut_word (A rest : List UInt8) (h : ∀ c ∈ A, c ≠ 32) : Lib.cut (A ++ 32 :: rest) [32] = (A, rest, true) := by
  have hi : Lib.index (A ++ 32 :: rest) [32] = (A.length : Int) := by
    refine Lib.index_first (i := A.length) (by simp) (by simp [Lib.occAt]) ?_
    intro j hj
    have hd : (A ++ 32 :: rest).drop j = A[j] :: (A ++ 32 :: rest).drop (j + 1) := by
      rw [List.drop_eq_getElem_cons (by simp; omega), List.getElem_append_left hj]
    have hn := h _ (List.getElem_mem hj)
    have hq : ((32 : UInt8) == A[j]) = false := by simpa using Ne.symm hn
    simp [Lib.occAt, hd, List.isPrefixOf, hq]
  unfold Lib.cut
  rw [hi, if_pos (by omega)]
  simp [Int.toNat_natCast]
theorem pl_dec (u : Nat) : ∀ (tl : List UInt8), u ≤ 4611686018427387904 → pl (Lib.decDigits u ++ tl) 0 = pl tl u := by
  induction u using Nat.strongRecOn with
  | _ u ih =>
    intro tl hu
    rw [Lib.decDigits]
    by_cases h : u < 10
    · rw [dif_pos h]
      have ht : (UInt8.ofNat (48 + u)).toNat = 48 + u := by simp; omega
      show pl (UInt8.ofNat (48 + u) :: tl) 0 = _
      rw [pl, ht, if_neg (by omega), if_neg (by omega), show (10 * 0 + (((48 + u : Nat) : Int) - 48)) = (u : Int) by omega]
    · rw [dif_neg h, List.append_assoc, ih (u / 10) (by omega) _ (by omega)]
      have ht : (UInt8.ofNat (48 + u % 10)).toNat = 48 + u % 10 := by simp; omega
      show pl (UInt8.ofNat (48 + u % 10) :: tl) _ = _
      rw [pl, ht, if_neg (by omega), if_neg (by omega), show (10 * ((u / 10 : Nat) : Int) + (((48 + u % 10 : Nat) : Int) - 48)) = (u : Int) by omega]
theorem dec_head (u : Nat) : 1 ≤ u → ∀ tl, (Lib.decDigits u ++ tl).head? ≠ some 48 := by
  induction u using Nat.strongRecOn with
  | _ u ih =>
    intro hu tl
    rw [Lib.decDigits]
    by_cases h : u < 10
    · rw [dif_pos h]
      show some (UInt8.ofNat (48 + u)) ≠ some 48
      intro e
      have := congrArg UInt8.toNat (Option.some.inj e)
      have ht : (UInt8.ofNat (48 + u)).toNat = 48 + u := by simp; omega
      rw [ht] at this
      have h48 : (48 : UInt8).toNat = 48 := rfl
      omega
    · rw [dif_neg h, List.append_assoc]
      exact ih (u / 10) (by omega) (by omega) _
theorem place_dec (u : Nat) (hu : u ≤ 4611686018427387904) : placeO (Lib.decDigits u) = some (u : Int) := by
  unfold placeO
  have hp := pl_dec u [] hu
  rw [List.append_nil] at hp
  have hl : (Lib.decDigits u).length = Lib.nDigits u := Lib.decDigits_length u
  rw [if_neg]
  · rw [hp]; rfl
  · rintro (h | ⟨h1, h2⟩)
    · rw [h] at hl
      rw [Lib.nDigits] at hl
      split at hl <;> simp at hl
    · by_cases h : u < 10
      · rw [hl, Lib.nDigits_small h] at h1; omega
      · have := dec_head u (by omega) []
        rw [List.append_nil] at this
        exact this h2

end Go.Proofs.YtdcmbjhjfdjdhaaDoor.Fa
