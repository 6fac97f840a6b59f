/- Layer 9, pure: bits of a word as the document counts them: runs, places, channels; the nearest of fewer bits. -/
import Derived.Test.YtgggdieedblpjaaDoorRows
namespace Go.Proofs.YtgggdieedblpjaaDoor.Ma
set_option linter.unusedVariables false

/-- Bit i of a word. -/
def bitN (w i : Nat) : Nat := w / 2 ^ i % 2
theorem bitN_tb (w i : Nat) : bitN w i = (w.testBit i).toNat := by
  rw [Nat.testBit_eq_decide_div_mod_eq]
  unfold bitN
  have := Nat.mod_two_eq_zero_or_one (w / 2 ^ i)
  rcases this with h | h <;> simp [h]
theorem bitN_lt (w i : Nat) : bitN w i < 2 := Nat.mod_lt _ (by decide)

/-- A run begins at i. -/
def starts (w i : Nat) : Bool := decide (bitN w i = 1) && (decide (i = 0) || decide (bitN w (i - 1) ≠ 1))
/-- As the document counts: bits, runs, where the last run begins. -/
def cnt (w : Nat) : Nat → Nat
  | 0 => 0
  | i + 1 => cnt w i + bitN w i
def runs (w : Nat) : Nat → Nat
  | 0 => 0
  | i + 1 => runs w i + (starts w i).toNat
def frm (w : Nat) : Nat → Nat
  | 0 => 0
  | i + 1 => if starts w i then i else frm w i

theorem runs_mono (w i : Nat) : runs w i ≤ runs w (i + 1) := by
  show runs w i ≤ runs w i + (starts w i).toNat
  omega

theorem inv (w : Nat) : ∀ i, runs w i ≤ 1 →
    (runs w i = 0 ∧ cnt w i = 0 ∧ frm w i = 0 ∧ ∀ k, k < i → bitN w k = 0) ∨
    (runs w i = 1 ∧ 1 ≤ cnt w i ∧ frm w i + cnt w i ≤ i ∧ ∀ k, k < i → bitN w k = if frm w i ≤ k ∧ k < frm w i + cnt w i then 1 else 0)
  | 0, _ => .inl ⟨rfl, rfl, rfl, fun k h => by omega⟩
  | i + 1, h => by
    have hm := runs_mono w i
    have hb := bitN_lt w i
    have e1 : runs w (i + 1) = runs w i + (starts w i).toNat := rfl
    have e2 : cnt w (i + 1) = cnt w i + bitN w i := rfl
    have e3 : frm w (i + 1) = if starts w i then i else frm w i := rfl
    rcases inv w i (by omega) with ⟨a, b, c, d⟩ | ⟨a, b, c, d⟩
    · by_cases h1 : bitN w i = 1
      · have hs : starts w i = true := by
          unfold starts
          by_cases h0 : i = 0
          · subst h0
            simp [h1]
          · have := d (i - 1) (by omega)
            simp [h1, this]
        rw [hs] at e1 e3
        simp only [Bool.toNat_true, if_true] at e1 e3
        refine .inr ⟨by omega, by omega, by omega, fun k hk => ?_⟩
        rw [e3, e2, b, h1]
        by_cases hki : k = i
        · subst hki
          rw [if_pos ⟨Nat.le_refl _, by omega⟩, h1]
        · rw [if_neg (by omega)]
          exact d k (by omega)
      · have hs : starts w i = false := by unfold starts; simp [h1]
        rw [hs] at e1 e3
        simp only [Bool.toNat_false, Bool.false_eq_true, if_false] at e1 e3
        refine .inl ⟨by omega, by omega, by omega, fun k hk => ?_⟩
        by_cases hki : k = i
        · subst hki; omega
        · exact d k (by omega)
    · by_cases h1 : bitN w i = 1
      · by_cases hadj : i = frm w i + cnt w i
        · have hp : bitN w (i - 1) = 1 := by
            rw [d (i - 1) (by omega), if_pos (by omega)]
          have hs : starts w i = false := by
            unfold starts
            have : ¬ i = 0 := by omega
            simp [h1, hp, this]
          rw [hs] at e1 e3
          simp only [Bool.toNat_false, Bool.false_eq_true, if_false] at e1 e3
          refine .inr ⟨by omega, by omega, by omega, fun k hk => ?_⟩
          rw [e3, e2, h1]
          by_cases hki : k = i
          · subst hki
            rw [if_pos (by omega), h1]
          · rw [d k (by omega)]
            by_cases hin : frm w i ≤ k ∧ k < frm w i + cnt w i
            · rw [if_pos hin, if_pos (by omega)]
            · rw [if_neg hin, if_neg (by omega)]
        · exfalso
          have hp : bitN w (i - 1) = 0 := by
            rw [d (i - 1) (by omega), if_neg (by omega)]
          have hs : starts w i = true := by
            unfold starts
            simp [h1, hp]
          rw [hs] at e1
          simp only [Bool.toNat_true] at e1
          omega
      · have hs : starts w i = false := by unfold starts; simp [h1]
        rw [hs] at e1 e3
        simp only [Bool.toNat_false, Bool.false_eq_true, if_false] at e1 e3
        refine .inr ⟨by omega, by omega, by omega, fun k hk => ?_⟩
        rw [e3, e2, show bitN w i = 0 from by omega, Nat.add_zero]
        by_cases hki : k = i
        · subst hki
          rw [if_neg (by omega)]; omega
        · exact d k (by omega)

/-- The word of n bits from s on. -/
def blk (s n : Nat) : Nat := (2 ^ n - 1) * 2 ^ s
theorem bit_blk (s n i : Nat) : bitN (blk s n) i = if s ≤ i ∧ i < s + n then 1 else 0 := by
  rw [bitN_tb]
  unfold blk
  rw [← Nat.shiftLeft_eq, Nat.testBit_shiftLeft, Nat.testBit_two_pow_sub_one]
  by_cases h : s ≤ i
  · by_cases h2 : i < s + n
    · rw [if_pos ⟨h, h2⟩]; simp [h, show i - s < n from by omega]
    · rw [if_neg (by omega)]; simp [show ¬ (i - s < n) from by omega]
  · rw [if_neg (by omega)]; simp [show ¬ (i ≥ s) from by omega]

theorem eq_of_bits {v w : Nat} (h : ∀ i, bitN v i = bitN w i) : v = w := by
  apply Nat.eq_of_testBit_eq
  intro i
  have := h i
  rw [bitN_tb, bitN_tb] at this
  cases hv : v.testBit i <;> cases hw : w.testBit i <;> simp [hv, hw] at this ⊢

theorem bit_high {w W i : Nat} (h : w < 2 ^ W) (hi : W ≤ i) : bitN w i = 0 := by
  unfold bitN
  rw [Nat.div_eq_of_lt (Nat.lt_of_lt_of_le h (Nat.pow_le_pow_right (by decide) hi))]

/-- One run, or none: the word is that of its bits. -/
theorem one_run {w W : Nat} (h : w < 2 ^ W) (hr : runs w W ≤ 1) : (w = 0 ∧ cnt w W = 0 ∧ frm w W = 0) ∨ (1 ≤ cnt w W ∧ frm w W + cnt w W ≤ W ∧ w = blk (frm w W) (cnt w W)) := by
  rcases inv w W hr with ⟨a, b, c, d⟩ | ⟨a, b, c, d⟩
  · refine .inl ⟨eq_of_bits fun i => ?_, b, c⟩
    have h0 : bitN 0 i = 0 := by unfold bitN; simp
    rw [h0]
    rcases Nat.lt_or_ge i W with h' | h'
    · exact d i h'
    · exact bit_high h h'
  · refine .inr ⟨b, c, eq_of_bits fun i => ?_⟩
    rw [bit_blk]
    rcases Nat.lt_or_ge i W with h' | h'
    · exact d i h'
    · rw [bit_high h h', if_neg (by omega)]

/-- Of a word of bits side by side the document counts these. -/
theorem run_blk (s n : Nat) (hn : 1 ≤ n) : ∀ i, runs (blk s n) i = (if i ≤ s then 0 else 1) ∧ cnt (blk s n) i = min (i - s) n ∧ frm (blk s n) i = (if i ≤ s then 0 else s)
  | 0 => ⟨by simp [runs], by simp [cnt], by simp [frm]⟩
  | i + 1 => by
    obtain ⟨a, b, c⟩ := run_blk s n hn i
    have hs : starts (blk s n) i = decide (i = s) := by
      unfold starts
      rw [bit_blk, bit_blk]
      by_cases h : i = s
      · subst h
        by_cases h0 : i = 0
        · subst h0
          simp [show 0 < n from by omega]
        · simp [show 0 < n from by omega, show ¬ (i ≤ i - 1) from by omega]
      · by_cases h2 : s ≤ i ∧ i < s + n
        · have h3 : s ≤ i - 1 ∧ i - 1 < s + n := by omega
          have h4 : ¬ i = 0 := by omega
          simp [h, h2, h3, h4]
        · simp [h, h2]
    have e1 : runs (blk s n) (i + 1) = runs (blk s n) i + (starts (blk s n) i).toNat := rfl
    have e2 : cnt (blk s n) (i + 1) = cnt (blk s n) i + bitN (blk s n) i := rfl
    have e3 : frm (blk s n) (i + 1) = if starts (blk s n) i then i else frm (blk s n) i := rfl
    rw [hs] at e1 e3
    rw [e1, e2, e3, a, b, c, bit_blk]
    by_cases h : i = s
    · subst h
      refine ⟨by simp, ?_, by rw [if_pos (by simp), if_neg (by omega)]⟩
      rw [if_pos ⟨Nat.le_refl _, by omega⟩]
      omega
    · refine ⟨?_, ?_, ?_⟩
      · simp only [h, decide_false, Bool.toNat_false, Nat.add_zero]
        by_cases h2 : i ≤ s
        · rw [if_pos h2, if_pos (by omega)]
        · rw [if_neg h2, if_neg (by omega)]
      · by_cases h2 : s ≤ i ∧ i < s + n
        · rw [if_pos h2]; omega
        · rw [if_neg h2]; omega
      · simp only [h, decide_false, Bool.false_eq_true, if_false]
        by_cases h2 : i ≤ s
        · rw [if_pos h2, if_pos (by omega)]
        · rw [if_neg h2, if_neg (by omega)]

theorem blk_inj {s n s' n' W : Nat} (hn : 1 ≤ n) (hn' : 1 ≤ n') (hw : s + n ≤ W) (hw' : s' + n' ≤ W) (h : blk s n = blk s' n') : s = s' ∧ n = n' := by
  obtain ⟨a, b, c⟩ := run_blk s n hn W
  obtain ⟨a', b', c'⟩ := run_blk s' n' hn' W
  rw [h] at b c
  rw [b] at b'
  rw [c] at c'
  rw [if_neg (by omega), if_neg (by omega)] at c'
  omega

/-- A channel, as the document reckons it, bit by bit: the number so far, and the next bit's weight. -/
def chan (word mask : Nat) : Nat → Nat × Nat
  | 0 => (0, 1)
  | i + 1 => if bitN mask i = 1 then ((chan word mask i).1 + (if bitN word i = 1 then (chan word mask i).2 else 0), 2 * (chan word mask i).2) else chan word mask i

theorem chan_blk (word s n : Nat) : ∀ i, chan word (blk s n) i = (word / 2 ^ s % 2 ^ min (i - s) n, 2 ^ min (i - s) n)
  | 0 => by simp [chan, Nat.mod_one]
  | i + 1 => by
    have ih := chan_blk word s n i
    have e : chan word (blk s n) (i + 1) = if bitN (blk s n) i = 1 then ((chan word (blk s n) i).1 + (if bitN word i = 1 then (chan word (blk s n) i).2 else 0), 2 * (chan word (blk s n) i).2) else chan word (blk s n) i := rfl
    rw [e, ih, bit_blk]
    by_cases h : s ≤ i ∧ i < s + n
    · rw [if_pos h, if_pos rfl]
      have e1 : min (i - s) n = i - s := by omega
      have e2 : min (i + 1 - s) n = i - s + 1 := by omega
      rw [e1, e2]
      have hp : 2 ^ (i - s + 1) = 2 * 2 ^ (i - s) := by rw [Nat.pow_succ]; omega
      rw [hp]
      have hbit : bitN word i = word / 2 ^ s / 2 ^ (i - s) % 2 := by
        unfold bitN
        rw [Nat.div_div_eq_div_mul, ← Nat.pow_add, show s + (i - s) = i from by omega]
      have hmod : word / 2 ^ s % (2 * 2 ^ (i - s)) = word / 2 ^ s % 2 ^ (i - s) + 2 ^ (i - s) * (word / 2 ^ s / 2 ^ (i - s) % 2) := by
        rw [Nat.mul_comm 2, Nat.mod_mul]
      rw [hmod, ← hbit]
      have hb := bitN_lt word i
      by_cases h1 : bitN word i = 1
      · simp [h1]
      · simp [show bitN word i = 0 from by omega]
    · rw [if_neg h, if_neg (by decide)]
      have e1 : min (i + 1 - s) n = min (i - s) n := by omega
      rw [e1]

/-- Of no bits the channel is 0. -/
theorem chan_zero (word : Nat) : ∀ i, chan word 0 i = (0, 1)
  | 0 => rfl
  | i + 1 => by
    have h0 : bitN 0 i = 0 := by unfold bitN; simp
    have e : chan word 0 (i + 1) = if bitN 0 i = 1 then ((chan word 0 i).1 + (if bitN word i = 1 then (chan word 0 i).2 else 0), 2 * (chan word 0 i).2) else chan word 0 i := rfl
    rw [e, h0, if_neg (by decide), chan_zero word i]

/-- The bits of a word, counted. -/
theorem cnt_zero : ∀ i, cnt 0 i = 0
  | 0 => rfl
  | i + 1 => by
    have h0 : bitN 0 i = 0 := by unfold bitN; simp
    have e : cnt 0 (i + 1) = cnt 0 i + bitN 0 i := rfl
    rw [e, cnt_zero i, h0]

/-- Have two words a bit in common? Of words of bits side by side: do they lie apart? -/
theorem both_blk (s n s' n' : Nat) : (∃ i, bitN (blk s n) i = 1 ∧ bitN (blk s' n') i = 1) ↔ (max s s' < min (s + n) (s' + n')) := by
  constructor
  · rintro ⟨i, h1, h2⟩
    rw [bit_blk] at h1 h2
    by_cases a : s ≤ i ∧ i < s + n
    · by_cases b : s' ≤ i ∧ i < s' + n'
      · omega
      · rw [if_neg b] at h2; omega
    · rw [if_neg a] at h1; omega
  · intro h
    refine ⟨max s s', ?_, ?_⟩
    · rw [bit_blk, if_pos (by omega)]
    · rw [bit_blk, if_pos (by omega)]

/-- The number of t that is nearest to c of 255, the greater one of two. -/
def five (c t : Int) : Int := (2 * c * t + 255) / 510
theorem sq_le {a b : Int} (h1 : -a ≤ b) (h2 : b ≤ a) : b * b ≤ a * a := by
  have h : 0 ≤ (a - b) * (a + b) := Int.mul_nonneg (by omega) (by omega)
  have e : (a - b) * (a + b) = a * a - b * b := by rw [Int.sub_mul, Int.mul_add, Int.mul_add, Int.mul_comm b a]; omega
  omega
theorem sq_lt {a b : Int} (h1 : -a < b) (h2 : b < a) : b * b < a * a := by
  have h : 0 < (a - b) * (a + b) := Int.mul_pos (by omega) (by omega)
  have e : (a - b) * (a + b) = a * a - b * b := by rw [Int.sub_mul, Int.mul_add, Int.mul_add, Int.mul_comm b a]; omega
  omega
theorem sq_neg (a : Int) : -a * -a = a * a := by rw [Int.neg_mul_neg]
theorem five_bd (c t : Int) : -255 < 510 * five c t - 2 * (c * t) ∧ 510 * five c t - 2 * (c * t) ≤ 255 := by
  have e : 2 * c * t = 2 * (c * t) := Int.mul_assoc ..
  unfold five
  rw [e]
  generalize c * t = q
  omega
/-- No other number is nearer; of two that are as near it is the greater one. -/
theorem five_best (c t v : Int) :
    (255 * five c t - c * t) * (255 * five c t - c * t) < (255 * v - c * t) * (255 * v - c * t) ∨
    ((255 * five c t - c * t) * (255 * five c t - c * t) = (255 * v - c * t) * (255 * v - c * t) ∧ v ≤ five c t) := by
  obtain ⟨b1, b2⟩ := five_bd c t
  generalize five c t = g at b1 b2 ⊢
  generalize c * t = q at b1 b2 ⊢
  rcases Int.lt_trichotomy v g with h | h | h
  · have h1 := sq_le (a := -(255 * v - q)) (b := 255 * g - q) (by omega) (by omega)
    rw [sq_neg] at h1
    omega
  · subst h
    exact .inr ⟨rfl, Int.le_refl _⟩
  · exact .inl (sq_lt (by omega) (by omega))
/-- Of 255 each number is itself. -/
theorem five_255 (c : Int) : five c 255 = c := by unfold five; omega
theorem five_0 {c t : Int} (hc : 0 ≤ c) (ht : 0 ≤ t) : 0 ≤ five c t := by
  have e : 2 * c * t = 2 * (c * t) := Int.mul_assoc ..
  have := Int.mul_nonneg hc ht
  unfold five
  rw [e]
  generalize c * t = q at *
  omega
theorem five_t {c t : Int} (hc : c ≤ 255) (ht : 0 ≤ t) : five c t ≤ t := by
  have e : 2 * c * t = 2 * (c * t) := Int.mul_assoc ..
  have := Int.mul_le_mul_of_nonneg_right hc ht
  unfold five
  rw [e]
  generalize c * t = q at *
  omega
end Go.Proofs.YtgggdieedblpjaaDoor.Ma
