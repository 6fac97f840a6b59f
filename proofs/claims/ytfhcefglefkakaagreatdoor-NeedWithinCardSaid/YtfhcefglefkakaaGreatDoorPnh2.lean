/- Layer 12: a head of a text, as plain functions. -/
import Derived.Test.YtfhcefglefkakaaGreatDoorTokB
namespace Go.Proofs.YtfhcefglefkakaaGreatDoor.Ph
open Go.Proofs.YtfhcefglefkakaaGreatDoor.Tk
set_option linter.unusedVariables false

/-- What the numbers of a head are: a fault's kind and place, the place behind, the numbers, the readings. -/
structure NR where
  f : Nat
  p : Nat
  a : Nat
  w : Nat
  h : Nat
  m : Nat
  n : Nat

/-- r + 1 numbers are left (r = 2: the width, 1: the height, 0: the greatest sample). -/
def nums (s : ByteArray) (k : Nat) : Nat → NR → NR
  | 0, z => z
  | r + 1, z =>
    if r = 0 ∧ (k = 1 ∨ k = 4) then z
    else if (gotV s z.a).kind ≠ 0 then ⟨(gotV s z.a).kind, (gotV s z.a).place, 0, 0, 0, 0, z.n + numN s z.a⟩
    else if (gotV s z.a).v = 0 ∨ (r = 0 ∧ 65535 < (gotV s z.a).v) then ⟨2, (gotV s z.a).from_, 0, 0, 0, 0, z.n + numN s z.a⟩
    else if 0 < r ∧ 16384 < (gotV s z.a).v then ⟨3, (gotV s z.a).from_, 0, 0, 0, 0, z.n + numN s z.a⟩
    else nums s k r ⟨0, 0, (gotV s z.a).next, if r = 2 then (gotV s z.a).v else z.w, if r = 1 then (gotV s z.a).v else z.h, if r = 0 then (gotV s z.a).v else z.m, z.n + numN s z.a⟩

section
variable {s : ByteArray} {k r : Nat} {z : NR}
theorem nums_bit (h : k = 1 ∨ k = 4) : nums s k 1 z = z := by
  show (if _ then _ else _) = _
  rw [if_pos ⟨rfl, h⟩]
theorem nums_fault {kd pl : Nat} (h : ¬ (r = 0 ∧ (k = 1 ∨ k = 4))) (g : gotV s z.a = ⟨0, 0, 0, kd, pl⟩) (h0 : kd ≠ 0) : nums s k (r + 1) z = ⟨kd, pl, 0, 0, 0, 0, z.n + numN s z.a⟩ := by
  show (if _ then _ else _) = _
  rw [if_neg h, g, if_pos h0]
theorem nums_bad {v f j : Nat} (h : ¬ (r = 0 ∧ (k = 1 ∨ k = 4))) (g : gotV s z.a = ⟨v, f, j, 0, 0⟩) (h0 : v = 0 ∨ (r = 0 ∧ 65535 < v)) : nums s k (r + 1) z = ⟨2, f, 0, 0, 0, 0, z.n + numN s z.a⟩ := by
  show (if _ then _ else _) = _
  rw [if_neg h, g, if_neg (fun h' => h' rfl), if_pos h0]
theorem nums_big {v f j : Nat} (h : ¬ (r = 0 ∧ (k = 1 ∨ k = 4))) (g : gotV s z.a = ⟨v, f, j, 0, 0⟩) (h0 : ¬ (v = 0 ∨ (r = 0 ∧ 65535 < v))) (h1 : 0 < r ∧ 16384 < v) : nums s k (r + 1) z = ⟨3, f, 0, 0, 0, 0, z.n + numN s z.a⟩ := by
  show (if _ then _ else _) = _
  rw [if_neg h, g, if_neg (fun h' => h' rfl), if_neg h0, if_pos h1]
theorem nums_on {v f j : Nat} (h : ¬ (r = 0 ∧ (k = 1 ∨ k = 4))) (g : gotV s z.a = ⟨v, f, j, 0, 0⟩) (h0 : ¬ (v = 0 ∨ (r = 0 ∧ 65535 < v))) (h1 : ¬ (0 < r ∧ 16384 < v)) :
    nums s k (r + 1) z = nums s k r ⟨0, 0, j, if r = 2 then v else z.w, if r = 1 then v else z.h, if r = 0 then v else z.m, z.n + numN s z.a⟩ := by
  show (if _ then _ else _) = _
  rw [if_neg h, g, if_neg (fun h' => h' rfl), if_neg h0, if_neg h1]
end

/-- What holds of the numbers of a head. -/
theorem nums_gd (s : ByteArray) (k : Nat) : ∀ r z, z.f = 0 → z.a ≤ s.size → (nums s k r z).n ≤ z.n + (s.size - z.a) + 2 * r ∧ z.n ≤ (nums s k r z).n ∧
    ((nums s k r z).f = 0 → z.a ≤ (nums s k r z).a ∧ (nums s k r z).a ≤ s.size ∧ (nums s k r z).n ≤ z.n + ((nums s k r z).a - z.a) + 2 * r) ∧ ((nums s k r z).f ≠ 0 → (nums s k r z).f < 4 ∧ (nums s k r z).p ≤ s.size)
  | 0, z, hf, ha => by
    show z.n ≤ _ ∧ z.n ≤ z.n ∧ _ ∧ _
    refine ⟨by omega, Nat.le_refl _, fun _ => ⟨Nat.le_refl _, ha, ?_⟩, fun h => absurd hf h⟩
    show z.n ≤ z.n + _ + _
    omega
  | r + 1, z, hf, ha => by
    by_cases hb : r = 0 ∧ (k = 1 ∨ k = 4)
    · obtain ⟨rfl, hk⟩ := hb
      rw [nums_bit hk]
      exact ⟨by omega, Nat.le_refl _, fun _ => ⟨Nat.le_refl _, ha, by omega⟩, fun h => absurd hf h⟩
    · rcases gotV_gd s z.a ha with ⟨kd, pl, eg, h0, h3, hp, hN⟩ | ⟨v, f, j, eg, h1, h2, h3, h4, hN⟩
      · rw [nums_fault hb eg h0]
        exact ⟨by show z.n + _ ≤ _; omega, by show z.n ≤ z.n + _; omega, fun h => absurd h h0, fun _ => ⟨by show kd < 4; omega, hp⟩⟩
      · by_cases hv : v = 0 ∨ (r = 0 ∧ 65535 < v)
        · rw [nums_bad hb eg hv]
          exact ⟨by show z.n + _ ≤ _; omega, by show z.n ≤ z.n + _; omega, fun h => absurd (a := (2 : Nat) = 0) h (by decide), fun _ => ⟨by show 2 < 4; decide, by show f ≤ _; omega⟩⟩
        · by_cases hg : 0 < r ∧ 16384 < v
          · rw [nums_big hb eg hv hg]
            exact ⟨by show z.n + _ ≤ _; omega, by show z.n ≤ z.n + _; omega, fun h => absurd (a := (3 : Nat) = 0) h (by decide), fun _ => ⟨by show 3 < 4; decide, by show f ≤ _; omega⟩⟩
          · rw [nums_on hb eg hv hg]
            have ih := nums_gd s k r ⟨0, 0, j, if r = 2 then v else z.w, if r = 1 then v else z.h, if r = 0 then v else z.m, z.n + numN s z.a⟩ rfl h3
            obtain ⟨i1, i2, i3, i4⟩ := ih
            have i1' : _ ≤ z.n + numN s z.a + (s.size - j) + 2 * r := i1
            have i2' : z.n + numN s z.a ≤ _ := i2
            refine ⟨by omega, by omega, fun h => ?_, i4⟩
            obtain ⟨j1, j2, j3⟩ := i3 h
            have j1' : j ≤ _ := j1
            have j3' : _ ≤ z.n + numN s z.a + (_ - j) + 2 * r := j3
            exact ⟨by omega, j2, by omega⟩

/-- A head: kind, width, height, greatest sample, the place behind; a fault's kind and place. -/
structure Hd where
  k : Nat
  w : Nat
  h : Nat
  m : Nat
  a : Nat
  f : Nat
  p : Nat
def endV (s : ByteArray) (k : Nat) (R : NR) : Hd :=
  if R.f ≠ 0 then ⟨0, 0, 0, 0, 0, R.f, R.p⟩
  else if 4 ≤ k then (if s.size ≤ R.a then ⟨0, 0, 0, 0, 0, 1, s.size⟩ else if blankB (bt s R.a) = true then ⟨k, R.w, R.h, R.m, R.a + 1, 0, 0⟩ else ⟨0, 0, 0, 0, 0, 2, R.a⟩)
  else ⟨k, R.w, R.h, R.m, R.a, 0, 0⟩
def endN (k : Nat) (R : NR) : Nat := if R.f ≠ 0 then R.n else if 4 ≤ k then R.n + 1 else R.n
theorem endV_fault {s : ByteArray} {k : Nat} {R : NR} (h : R.f ≠ 0) : endV s k R = ⟨0, 0, 0, 0, 0, R.f, R.p⟩ := by
  unfold endV
  rw [if_pos h]
theorem endV_text {s : ByteArray} {k : Nat} {R : NR} (h : R.f = 0) (h1 : ¬ 4 ≤ k) : endV s k R = ⟨k, R.w, R.h, R.m, R.a, 0, 0⟩ := by
  unfold endV
  rw [if_neg (fun h' => h' h), if_neg h1]
theorem endV_short {s : ByteArray} {k : Nat} {R : NR} (h : R.f = 0) (h1 : 4 ≤ k) (h2 : s.size ≤ R.a) : endV s k R = ⟨0, 0, 0, 0, 0, 1, s.size⟩ := by
  unfold endV
  rw [if_neg (fun h' => h' h), if_pos h1, if_pos h2]
theorem endV_yes {s : ByteArray} {k : Nat} {R : NR} (h : R.f = 0) (h1 : 4 ≤ k) (h2 : R.a < s.size) (h3 : blankB (bt s R.a) = true) : endV s k R = ⟨k, R.w, R.h, R.m, R.a + 1, 0, 0⟩ := by
  unfold endV
  rw [if_neg (fun h' => h' h), if_pos h1, if_neg (by omega), if_pos h3]
theorem endV_bad {s : ByteArray} {k : Nat} {R : NR} (h : R.f = 0) (h1 : 4 ≤ k) (h2 : R.a < s.size) (h3 : blankB (bt s R.a) = false) : endV s k R = ⟨0, 0, 0, 0, 0, 2, R.a⟩ := by
  unfold endV
  rw [if_neg (fun h' => h' h), if_pos h1, if_neg (by omega), if_neg (by rw [h3]; decide)]

def nr0 : NR := ⟨0, 0, 2, 0, 0, 1, 2⟩
def readV (s : ByteArray) : Hd :=
  if s.size < 1 then ⟨0, 0, 0, 0, 0, 1, 0⟩ else if bt s 0 ≠ 80 then ⟨0, 0, 0, 0, 0, 2, 0⟩
  else if s.size < 2 then ⟨0, 0, 0, 0, 0, 1, 1⟩ else if ¬ (49 ≤ bt s 1 ∧ bt s 1 ≤ 54) then ⟨0, 0, 0, 0, 0, 2, 1⟩
  else endV s (bt s 1 - 48) (nums s (bt s 1 - 48) 3 nr0)
def readN (s : ByteArray) : Nat :=
  if s.size < 1 then 1 else if bt s 0 ≠ 80 then 1 else if s.size < 2 then 2 else if ¬ (49 ≤ bt s 1 ∧ bt s 1 ≤ 54) then 2
  else endN (bt s 1 - 48) (nums s (bt s 1 - 48) 3 nr0)
section
variable {s : ByteArray}
theorem readV_0 (h : s.size < 1) : readV s = ⟨0, 0, 0, 0, 0, 1, 0⟩ := by
  unfold readV
  rw [if_pos h]
theorem readV_1 (h : ¬ s.size < 1) (h1 : bt s 0 ≠ 80) : readV s = ⟨0, 0, 0, 0, 0, 2, 0⟩ := by
  unfold readV
  rw [if_neg h, if_pos h1]
theorem readV_2 (h : ¬ s.size < 1) (h1 : bt s 0 = 80) (h2 : s.size < 2) : readV s = ⟨0, 0, 0, 0, 0, 1, 1⟩ := by
  unfold readV
  rw [if_neg h, if_neg (fun h' => h' h1), if_pos h2]
theorem readV_3 (h : ¬ s.size < 2) (h1 : bt s 0 = 80) (h2 : ¬ (49 ≤ bt s 1 ∧ bt s 1 ≤ 54)) : readV s = ⟨0, 0, 0, 0, 0, 2, 1⟩ := by
  unfold readV
  rw [if_neg (by omega), if_neg (fun h' => h' h1), if_neg h, if_pos h2]
theorem readV_4 {k : Nat} (h : ¬ s.size < 2) (h1 : bt s 0 = 80) (h2 : 1 ≤ k ∧ k ≤ 6) (h3 : bt s 1 = k + 48) : readV s = endV s k (nums s k 3 nr0) := by
  unfold readV
  rw [if_neg (by omega), if_neg (fun h' => h' h1), if_neg h, if_neg (fun h' => h' (by omega)), show bt s 1 - 48 = k from by omega]
theorem readN_0 (h : s.size < 1) : readN s = 1 := by
  unfold readN
  rw [if_pos h]
theorem readN_1 (h : ¬ s.size < 1) (h1 : bt s 0 ≠ 80) : readN s = 1 := by
  unfold readN
  rw [if_neg h, if_pos h1]
theorem readN_2 (h : ¬ s.size < 1) (h1 : bt s 0 = 80) (h2 : s.size < 2) : readN s = 2 := by
  unfold readN
  rw [if_neg h, if_neg (fun h' => h' h1), if_pos h2]
theorem readN_3 (h : ¬ s.size < 2) (h1 : bt s 0 = 80) (h2 : ¬ (49 ≤ bt s 1 ∧ bt s 1 ≤ 54)) : readN s = 2 := by
  unfold readN
  rw [if_neg (by omega), if_neg (fun h' => h' h1), if_neg h, if_pos h2]
theorem readN_4 {k : Nat} (h : ¬ s.size < 2) (h1 : bt s 0 = 80) (h2 : 1 ≤ k ∧ k ≤ 6) (h3 : bt s 1 = k + 48) : readN s = endN k (nums s k 3 nr0) := by
  unfold readN
  rw [if_neg (by omega), if_neg (fun h' => h' h1), if_neg h, if_neg (fun h' => h' (by omega)), show bt s 1 - 48 = k from by omega]
end
/-- A head takes no more readings than bytes, and nine. -/
theorem readN_le (s : ByteArray) : readN s ≤ s.size + 9 := by
  by_cases h : s.size < 2
  · by_cases h0 : s.size < 1
    · rw [readN_0 h0]
      omega
    · by_cases h1 : bt s 0 = 80
      · rw [readN_2 h0 h1 h]
        omega
      · rw [readN_1 h0 h1]
        omega
  · by_cases h1 : bt s 0 = 80
    · by_cases h2 : 49 ≤ bt s 1 ∧ bt s 1 ≤ 54
      · rw [readN_4 (k := bt s 1 - 48) h h1 (by omega) (by omega)]
        have hg := (nums_gd s (bt s 1 - 48) 3 nr0 rfl (by show 2 ≤ _; omega)).1
        have hg' : _ ≤ 2 + (s.size - 2) + 2 * 3 := hg
        unfold endN
        repeat' split
        all_goals omega
      · rw [readN_3 h h1 h2]
        omega
    · rw [readN_1 (by omega) h1]
      omega

end Go.Proofs.YtfhcefglefkakaaGreatDoor.Ph
