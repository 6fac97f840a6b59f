/- Texts of one kind, one behind the other: Mas1. -/
import Derived.Test.YtikjfmpdfeaooaaDoorRows
/- Layer 9, pure: bits of a word as the document counts them: runs, places, channels; the nearest of fewer bits. -/
namespace Go.Proofs.YtikjfmpdfeaooaaDoor.Ma
set_option linter.unusedVariables false

/-- Bit i of a word. -/
def bitN (w i : Nat) : Nat := w / 2 ^ i % 2
theorem bitN_tb (w i : Nat) : bitN w i = (w.testBit i).toNat := by
  rw [Nat.testBit_eq_decide_div_mod_eq]
  unfold bitN
  have := Nat.mod_two_eq_zero_or_one (w / 2 ^ i)
  rcases this with h | h <;> simp [h]
theorem bitN_lt (w i : Nat) : bitN w i < 2 := Nat.mod_lt _ (by decide)

/-- A run begins at i. -/
def starts (w i : Nat) : Bool := decide (bitN w i = 1) && (decide (i = 0) || decide (bitN w (i - 1) ≠ 1))
/-- As the document counts: bits, runs, where the last run begins. -/
def cnt (w : Nat) : Nat → Nat
  | 0 => 0
  | i + 1 => cnt w i + bitN w i
def runs (w : Nat) : Nat → Nat
  | 0 => 0
  | i + 1 => runs w i + (starts w i).toNat
def frm (w : Nat) : Nat → Nat
  | 0 => 0
  | i + 1 => if starts w i then i else frm w i

theorem runs_mono (w i : Nat) : runs w i ≤ runs w (i + 1) := by
  show runs w i ≤ runs w i + (starts w i).toNat
  omega

theorem inv (w : Nat) : ∀ i, runs w i ≤ 1 →
    (runs w i = 0 ∧ cnt w i = 0 ∧ frm w i = 0 ∧ ∀ k, k < i → bitN w k = 0) ∨
    (runs w i = 1 ∧ 1 ≤ cnt w i ∧ frm w i + cnt w i ≤ i ∧ ∀ k, k < i → bitN w k = if frm w i ≤ k ∧ k < frm w i + cnt w i then 1 else 0)
  | 0, _ => .inl ⟨rfl, rfl, rfl, fun k h => by omega⟩
  | i + 1, h => by
    have hm := runs_mono w i
    have hb := bitN_lt w i
    have e1 : runs w (i + 1) = runs w i + (starts w i).toNat := rfl
    have e2 : cnt w (i + 1) = cnt w i + bitN w i := rfl
    have e3 : frm w (i + 1) = if starts w i then i else frm w i := rfl
    rcases inv w i (by omega) with ⟨a, b, c, d⟩ | ⟨a, b, c, d⟩
    · by_cases h1 : bitN w i = 1
      · have hs : starts w i = true := by
          unfold starts
          by_cases h0 : i = 0
          · subst h0
            simp [h1]
          · have := d (i - 1) (by omega)
            simp [h1, this]
        rw [hs] at e1 e3
        simp only [Bool.toNat_true, if_true] at e1 e3
        refine .inr ⟨by omega, by omega, by omega, fun k hk => ?_⟩
        rw [e3, e2, b, h1]
        by_cases hki : k = i
        · subst hki
          rw [if_pos ⟨Nat.le_refl _, by omega⟩, h1]
        · rw [if_neg (by omega)]
          exact d k (by omega)
      · have hs : starts w i = false := by unfold starts; simp [h1]
        rw [hs] at e1 e3
        simp only [Bool.toNat_false, Bool.false_eq_true, if_false] at e1 e3
        refine .inl ⟨by omega, by omega, by omega, fun k hk => ?_⟩
        by_cases hki : k = i
        · subst hki; omega
        · exact d k (by omega)
    · by_cases h1 : bitN w i = 1
      · by_cases hadj : i = frm w i + cnt w i
        · have hp : bitN w (i - 1) = 1 := by
            rw [d (i - 1) (by omega), if_pos (by omega)]
          have hs : starts w i = false := by
            unfold starts
            have : ¬ i = 0 := by omega
            simp [h1, hp, this]
          rw [hs] at e1 e3
          simp only [Bool.toNat_false, Bool.false_eq_true, if_false] at e1 e3
          refine .inr ⟨by omega, by omega, by omega, fun k hk => ?_⟩
          rw [e3, e2, h1]
          by_cases hki : k = i
          · subst hki
            rw [if_pos (by omega), h1]
          · rw [d k (by omega)]
            by_cases hin : frm w i ≤ k ∧ k < frm w i + cnt w i
            · rw [if_pos hin, if_pos (by omega)]
            · rw [if_neg hin, if_neg (by omega)]
        · exfalso
          have hp : bitN w (i - 1) = 0 := by
            rw [d (i - 1) (by omega), if_neg (by omega)]
          have hs : starts w i = true := by
            unfold starts
            simp [h1, hp]
          rw [hs] at e1
          simp only [Bool.toNat_true] at e1
          omega
      · have hs : starts w i = false := by unfold starts; simp [h1]
        rw [hs] at e1 e3
        simp only [Bool.toNat_false, Bool.false_eq_true, if_false] at e1 e3
        refine .inr ⟨by omega, by omega, by omega, fun k hk => ?_⟩
        rw [e3, e2, show bitN w i = 0 from by omega, Nat.add_zero]
        by_cases hki : k = i
        · subst hki
          rw [if_neg (by omega)]; omega
        · exact d k (by omega)

/-- The word of n bits from s on. -/
def blk (s n : Nat) : Nat := (2 ^ n - 1) * 2 ^ s
theorem bit_blk (s n i : Nat) : bitN (blk s n) i = if s ≤ i ∧ i < s + n then 1 else 0 := by
  rw [bitN_tb]
  unfold blk
  rw [← Nat.shiftLeft_eq, Nat.testBit_shiftLeft, Nat.testBit_two_pow_sub_one]
  by_cases h : s ≤ i
  · by_cases h2 : i < s + n
    · rw [if_pos ⟨h, h2⟩]; simp [h, show i - s < n from by omega]
    · rw [if_neg (by omega)]; simp [show ¬ (i - s < n) from by omega]
  · rw [if_neg (by omega)]; simp [show ¬ (i ≥ s) from by omega]

theorem eq_of_bits {v w : Nat} (h : ∀ i, bitN v i = bitN w i) : v = w := by
  apply Nat.eq_of_testBit_eq
  intro i
  have := h i
  rw [bitN_tb, bitN_tb] at this
  cases hv : v.testBit i <;> cases hw : w.testBit i <;> simp [hv, hw] at this ⊢

theorem bit_high {w W i : Nat} (h : w < 2 ^ W) (hi : W ≤ i) : bitN w i = 0 := by
  unfold bitN
  rw [Nat.div_eq_of_lt (Nat.lt_of_lt_of_le h (Nat.pow_le_pow_right (by decide) hi))]

/-- One run, or none: the word is that of its bits. -/
theorem one_run {w W : Nat} (h : w < 2 ^ W) (hr : runs w W ≤ 1) : (w = 0 ∧ cnt w W = 0 ∧ frm w W = 0) ∨ (1 ≤ cnt w W ∧ frm w W + cnt w W ≤ W ∧ w = blk (frm w W) (cnt w W)) := by
  rcases inv w W hr with ⟨a, b, c, d⟩ | ⟨a, b, c, d⟩
  · refine .inl ⟨eq_of_bits fun i => ?_, b, c⟩
    have h0 : bitN 0 i = 0 := by unfold bitN; simp
    rw [h0]
    rcases Nat.lt_or_ge i W with h' | h'
    · exact d i h'
    · exact bit_high h h'
  · refine .inr ⟨b, c, eq_of_bits fun i => ?_⟩
    rw [bit_blk]
    rcases Nat.lt_or_ge i W with h' | h'
    · exact d i h'
    · rw [bit_high h h', if_neg (by omega)]

/-- Of a word of bits side by side the document counts these. -/
theorem run_blk (s n : Nat) (hn : 1 ≤ n) : ∀ i, runs (blk s n) i = (if i ≤ s then 0 else 1) ∧ cnt (blk s n) i = min (i - s) n ∧ frm (blk s n) i = (if i ≤ s then 0 else s)
  | 0 => ⟨by simp [runs], by simp [cnt], by simp [frm]⟩
  | i + 1 => by
    obtain ⟨a, b, c⟩ := run_blk s n hn i
    have hs : starts (blk s n) i = decide (i = s) := by
      unfold starts
      rw [bit_blk, bit_blk]
      by_cases h : i = s
      · subst h
        by_cases h0 : i = 0
        · subst h0
          simp [show 0 < n from by omega]
        · simp [show 0 < n from by omega, show ¬ (i ≤ i - 1) from by omega]
      · by_cases h2 : s ≤ i ∧ i < s + n
        · have h3 : s ≤ i - 1 ∧ i - 1 < s + n := by omega
          have h4 : ¬ i = 0 := by omega
          simp [h, h2, h3, h4]
        · simp [h, h2]
    have e1 : runs (blk s n) (i + 1) = runs (blk s n) i + (starts (blk s n) i).toNat := rfl
    have e2 : cnt (blk s n) (i + 1) = cnt (blk s n) i + bitN (blk s n) i := rfl
    have e3 : frm (blk s n) (i + 1) = if starts (blk s n) i then i else frm (blk s n) i := rfl
    rw [hs] at e1 e3
    rw [e1, e2, e3, a, b, c, bit_blk]
    by_cases h : i = s
    · subst h
      refine ⟨by simp, ?_, by rw [if_pos (by simp), if_neg (by omega)]⟩
      rw [if_pos ⟨Nat.le_refl _, by omega⟩]
      omega
    · refine ⟨?_, ?_, ?_⟩
      · simp only [h, decide_false, Bool.toNat_false, Nat.add_zero]
        by_cases h2 : i ≤ s
        · rw [if_pos h2, if_pos (by omega)]
        · rw [if_neg h2, if_neg (by omega)]
      · by_cases h2 : s ≤ i ∧ i < s + n
        · rw [if_pos h2]; omega
        · rw [if_neg h2]; omega
      · simp only [h, decide_false, Bool.false_eq_true, if_false]
        by_cases h2 : i ≤ s
        · rw [if_pos h2, if_pos (by omega)]
        · rw [if_neg h2, if_neg (by omega)]

end Go.Proofs.YtikjfmpdfeaooaaDoor.Ma
