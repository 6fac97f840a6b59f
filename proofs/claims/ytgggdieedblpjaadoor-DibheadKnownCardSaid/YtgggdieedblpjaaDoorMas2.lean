/- Layer 9: the document's bits of words, walked: bit, count, Of, Find. -/
import Derived.Test.YtgggdieedblpjaaDoorMas1
import Derived.Test.YtgggdieedblpjaaDoorSca1
namespace Go.Proofs.YtgggdieedblpjaaDoor.Ma
open Go.ChangeShapes Go.WideShapes Go.ChangeAt Go.RowKit
open Go.Proofs.YtgggdieedblpjaaDoor.Sc
set_option linter.unusedVariables false

theorem and_one_i (x : Int) : bits .and .i64 x 1 = x % 2 := by
  unfold bits
  show IntKind.i64.wrap (((BitVec.ofInt 64 x) &&& (BitVec.ofInt 64 1)).toNat : Int) = x % 2
  have h : ((BitVec.ofInt 64 x) &&& (BitVec.ofInt 64 1)).toNat = (x % 2).toNat := by
    rw [BitVec.toNat_and, BitVec.toNat_ofInt, BitVec.toNat_ofInt]
    have e : ((1 : Int) % ((2 ^ 64 : Nat) : Int)).toNat = 1 := by decide
    rw [e, Nat.and_one_is_mod]
    omega
  rw [h, IntKind.wrap_i64]
  omega

/-- Is bit i of a number 1? -/
def bitI (w : Int) (i : Nat) : Bool := w / 2 ^ i % 2 == 1
theorem bitI_nat (w i : Nat) : bitI (w : Int) i = decide (bitN w i = 1) := by
  unfold bitI bitN
  have e : (w : Int) / 2 ^ i % 2 = ((w / 2 ^ i % 2 : Nat) : Int) := by simp
  rw [e]
  by_cases h : w / 2 ^ i % 2 = 1
  · rw [h]; simp
  · have : w / 2 ^ i % 2 = 0 := by omega
    rw [this]; simp
/-- The lowest 32 bits. -/
def low32 (w : Int) : Nat := (w % 4294967296).toNat
theorem bitI_low (w : Int) (i : Nat) (hi : i < 32) : bitI w i = decide (bitN (low32 w) i = 1) := by
  rw [← bitI_nat]
  unfold bitI low32
  have h0 : 0 ≤ w % 4294967296 := Int.emod_nonneg _ (by decide)
  rw [Int.toNat_of_nonneg h0]
  obtain ⟨k, hk⟩ : ∃ k, 32 = i + 1 + k := ⟨31 - i, by omega⟩
  have e : (4294967296 : Int) = 2 ^ i * (2 * 2 ^ k) := by
    rw [show (4294967296 : Int) = 2 ^ 32 from by decide, hk, Int.pow_add, Int.pow_succ, Int.mul_assoc]
  have hw : w = w % 4294967296 + 4294967296 * (w / 4294967296) := (Int.emod_add_mul_ediv w 4294967296).symm
  have hd : w / 2 ^ i = (w % 4294967296) / 2 ^ i + 2 * (2 ^ k * (w / 4294967296)) := by
    have hp : (2 : Int) ^ i ≠ 0 := Int.ne_of_gt (Int.pow_pos (by decide))
    have e2 : w = w % 4294967296 + 2 ^ i * (2 * (2 ^ k * (w / 4294967296))) := by
      rw [← Int.mul_assoc 2, ← Int.mul_assoc (2 ^ i), ← e]; exact hw
    exact (congrArg (· / (2 : Int) ^ i) e2).trans (Int.add_mul_ediv_left _ _ hp)
  rw [hd]
  congr 1
  omega

theorem bit_calls (w : Int) (i : Nat) (W : World) (hi : i < 64) : Calls Tryd.prog 71 #[.int .i64 w, .int .i64 i] W fun e w' => e = .returned (.bool (bitI w i)) ∧ W = w' := by
  unfold bitI
  obtain ⟨q, hq⟩ : ∃ q, w / 2 ^ i = q := ⟨_, rfl⟩
  have ha := and_one_i q
  obtain ⟨r, hr⟩ : ∃ r, q % 2 = r := ⟨_, rfl⟩
  rw [hr] at ha
  rw [hq, hr]
  clear hr
  go_enter Tryd.func71, Tryd.ntmps71
  go_wp2
  go_ret
  exact ⟨rfl, rfl⟩

theorem cnt_le (w : Nat) : ∀ i, cnt w i ≤ i
  | 0 => Nat.le_refl _
  | i + 1 => by
    have := cnt_le w i
    have := bitN_lt w i
    show cnt w i + bitN w i ≤ i + 1
    omega

theorem chan_bd (w m : Nat) : ∀ i, (chan w m i).1 < (chan w m i).2 ∧ (chan w m i).2 ≤ 2 ^ i
  | 0 => by simp [chan]
  | i + 1 => by
    obtain ⟨a, b⟩ := chan_bd w m i
    have e : chan w m (i + 1) = if bitN m i = 1 then ((chan w m i).1 + (if bitN w i = 1 then (chan w m i).2 else 0), 2 * (chan w m i).2) else chan w m i := rfl
    have hp : 2 ^ (i + 1) = 2 * 2 ^ i := by rw [Nat.pow_succ]; omega
    rw [e, hp]
    split
    · refine ⟨?_, by show 2 * (chan w m i).2 ≤ _; omega⟩
      show (chan w m i).1 + (if bitN w i = 1 then (chan w m i).2 else 0) < 2 * (chan w m i).2
      split <;> omega
    · exact ⟨a, by omega⟩

end Go.Proofs.YtgggdieedblpjaaDoor.Ma
