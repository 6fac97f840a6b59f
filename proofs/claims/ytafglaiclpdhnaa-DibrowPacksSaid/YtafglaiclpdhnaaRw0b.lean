/- Layer 21, pure: a row's bytes so far, where numbers have less than eight bits (written by wip/gen/rw0.py). -/
import Derived.Test.YtafglaiclpdhnaaRw0
namespace Go.Proofs.Ytafglaiclpdhnaa.Rw
open Go.ChangeShapes Go.WideShapes Go.ChangeAt Go.RowKit
set_option linter.unusedVariables false

/-- The byte that the next number goes into: what it was, and what it is then. -/
def PartOk (d n : Nat) (v : Nat → Int) (i : Nat) : Prop :=
  pB d n v ((i + 1) * d) (i * d / 8) = pB d n v (i * d) (i * d / 8) + v i * 2 ^ (8 - d - i * d % 8) ∧ pB d n v (i * d) (i * d / 8) % 2 ^ (8 - i * d % 8) = 0
theorem part_1_0 (n : Nat) (v : Nat → Int) (q i : Nat) (hq : i = 8 * q + 0) (hi : i < n) (hv : 0 ≤ v i ∧ v i < 2) : PartOk 1 n v i := by
  have e1 : i * 1 = 8 * q + 0 := by omega
  have e2 : (i + 1) * 1 = 8 * q + 1 := by omega
  have e3 : (8 * q + 0) / 8 = q := by omega
  have e4 : (8 * q + 0) % 8 = 0 := by omega
  have b0 : bitF 1 n v (8 * q + 0) = v i / 1 % 2 := by
    unfold bitF
    rw [if_pos (by omega), if_pos (by decide), show (8 * q + 0) / 1 = i by omega, show (8 * q + 0) % 1 = 0 by omega]
    simp only [Nat.reduceSub, Int.reducePow]
  unfold PartOk pB
  rw [e1, e2, e3, e4]
  simp only [pS, Nat.add_lt_add_iff_left, Nat.reduceLT, ↓reduceIte, b0]
  simp only [Nat.reduceSub, Int.reducePow]
  obtain ⟨w, hw⟩ : ∃ w, v i = w := ⟨_, rfl⟩
  rw [hw] at hv ⊢
  omega
theorem part_1_1 (n : Nat) (v : Nat → Int) (q i : Nat) (hq : i = 8 * q + 1) (hi : i < n) (hv : 0 ≤ v i ∧ v i < 2) : PartOk 1 n v i := by
  have e1 : i * 1 = 8 * q + 1 := by omega
  have e2 : (i + 1) * 1 = 8 * q + 2 := by omega
  have e3 : (8 * q + 1) / 8 = q := by omega
  have e4 : (8 * q + 1) % 8 = 1 := by omega
  have b1 : bitF 1 n v (8 * q + 1) = v i / 1 % 2 := by
    unfold bitF
    rw [if_pos (by omega), if_pos (by decide), show (8 * q + 1) / 1 = i by omega, show (8 * q + 1) % 1 = 0 by omega]
    simp only [Nat.reduceSub, Int.reducePow]
  obtain ⟨x0, hx0⟩ : ∃ x, bitF 1 n v (8 * q + 0) = x := ⟨_, rfl⟩
  unfold PartOk pB
  rw [e1, e2, e3, e4]
  simp only [pS, Nat.add_lt_add_iff_left, Nat.reduceLT, ↓reduceIte, b1, hx0]
  simp only [Nat.reduceSub, Int.reducePow]
  obtain ⟨w, hw⟩ : ∃ w, v i = w := ⟨_, rfl⟩
  rw [hw] at hv ⊢
  omega
theorem part_1_2 (n : Nat) (v : Nat → Int) (q i : Nat) (hq : i = 8 * q + 2) (hi : i < n) (hv : 0 ≤ v i ∧ v i < 2) : PartOk 1 n v i := by
  have e1 : i * 1 = 8 * q + 2 := by omega
  have e2 : (i + 1) * 1 = 8 * q + 3 := by omega
  have e3 : (8 * q + 2) / 8 = q := by omega
  have e4 : (8 * q + 2) % 8 = 2 := by omega
  have b2 : bitF 1 n v (8 * q + 2) = v i / 1 % 2 := by
    unfold bitF
    rw [if_pos (by omega), if_pos (by decide), show (8 * q + 2) / 1 = i by omega, show (8 * q + 2) % 1 = 0 by omega]
    simp only [Nat.reduceSub, Int.reducePow]
  obtain ⟨x0, hx0⟩ : ∃ x, bitF 1 n v (8 * q + 0) = x := ⟨_, rfl⟩
  obtain ⟨x1, hx1⟩ : ∃ x, bitF 1 n v (8 * q + 1) = x := ⟨_, rfl⟩
  unfold PartOk pB
  rw [e1, e2, e3, e4]
  simp only [pS, Nat.add_lt_add_iff_left, Nat.reduceLT, ↓reduceIte, b2, hx0, hx1]
  simp only [Nat.reduceSub, Int.reducePow]
  obtain ⟨w, hw⟩ : ∃ w, v i = w := ⟨_, rfl⟩
  rw [hw] at hv ⊢
  omega
theorem part_1_3 (n : Nat) (v : Nat → Int) (q i : Nat) (hq : i = 8 * q + 3) (hi : i < n) (hv : 0 ≤ v i ∧ v i < 2) : PartOk 1 n v i := by
  have e1 : i * 1 = 8 * q + 3 := by omega
  have e2 : (i + 1) * 1 = 8 * q + 4 := by omega
  have e3 : (8 * q + 3) / 8 = q := by omega
  have e4 : (8 * q + 3) % 8 = 3 := by omega
  have b3 : bitF 1 n v (8 * q + 3) = v i / 1 % 2 := by
    unfold bitF
    rw [if_pos (by omega), if_pos (by decide), show (8 * q + 3) / 1 = i by omega, show (8 * q + 3) % 1 = 0 by omega]
    simp only [Nat.reduceSub, Int.reducePow]
  obtain ⟨x0, hx0⟩ : ∃ x, bitF 1 n v (8 * q + 0) = x := ⟨_, rfl⟩
  obtain ⟨x1, hx1⟩ : ∃ x, bitF 1 n v (8 * q + 1) = x := ⟨_, rfl⟩
  obtain ⟨x2, hx2⟩ : ∃ x, bitF 1 n v (8 * q + 2) = x := ⟨_, rfl⟩
  unfold PartOk pB
  rw [e1, e2, e3, e4]
  simp only [pS, Nat.add_lt_add_iff_left, Nat.reduceLT, ↓reduceIte, b3, hx0, hx1, hx2]
  simp only [Nat.reduceSub, Int.reducePow]
  obtain ⟨w, hw⟩ : ∃ w, v i = w := ⟨_, rfl⟩
  rw [hw] at hv ⊢
  omega
theorem part_1_4 (n : Nat) (v : Nat → Int) (q i : Nat) (hq : i = 8 * q + 4) (hi : i < n) (hv : 0 ≤ v i ∧ v i < 2) : PartOk 1 n v i := by
  have e1 : i * 1 = 8 * q + 4 := by omega
  have e2 : (i + 1) * 1 = 8 * q + 5 := by omega
  have e3 : (8 * q + 4) / 8 = q := by omega
  have e4 : (8 * q + 4) % 8 = 4 := by omega
  have b4 : bitF 1 n v (8 * q + 4) = v i / 1 % 2 := by
    unfold bitF
    rw [if_pos (by omega), if_pos (by decide), show (8 * q + 4) / 1 = i by omega, show (8 * q + 4) % 1 = 0 by omega]
    simp only [Nat.reduceSub, Int.reducePow]
  obtain ⟨x0, hx0⟩ : ∃ x, bitF 1 n v (8 * q + 0) = x := ⟨_, rfl⟩
  obtain ⟨x1, hx1⟩ : ∃ x, bitF 1 n v (8 * q + 1) = x := ⟨_, rfl⟩
  obtain ⟨x2, hx2⟩ : ∃ x, bitF 1 n v (8 * q + 2) = x := ⟨_, rfl⟩
  obtain ⟨x3, hx3⟩ : ∃ x, bitF 1 n v (8 * q + 3) = x := ⟨_, rfl⟩
  unfold PartOk pB
  rw [e1, e2, e3, e4]
  simp only [pS, Nat.add_lt_add_iff_left, Nat.reduceLT, ↓reduceIte, b4, hx0, hx1, hx2, hx3]
  simp only [Nat.reduceSub, Int.reducePow]
  obtain ⟨w, hw⟩ : ∃ w, v i = w := ⟨_, rfl⟩
  rw [hw] at hv ⊢
  omega
theorem part_1_5 (n : Nat) (v : Nat → Int) (q i : Nat) (hq : i = 8 * q + 5) (hi : i < n) (hv : 0 ≤ v i ∧ v i < 2) : PartOk 1 n v i := by
  have e1 : i * 1 = 8 * q + 5 := by omega
  have e2 : (i + 1) * 1 = 8 * q + 6 := by omega
  have e3 : (8 * q + 5) / 8 = q := by omega
  have e4 : (8 * q + 5) % 8 = 5 := by omega
  have b5 : bitF 1 n v (8 * q + 5) = v i / 1 % 2 := by
    unfold bitF
    rw [if_pos (by omega), if_pos (by decide), show (8 * q + 5) / 1 = i by omega, show (8 * q + 5) % 1 = 0 by omega]
    simp only [Nat.reduceSub, Int.reducePow]
  obtain ⟨x0, hx0⟩ : ∃ x, bitF 1 n v (8 * q + 0) = x := ⟨_, rfl⟩
  obtain ⟨x1, hx1⟩ : ∃ x, bitF 1 n v (8 * q + 1) = x := ⟨_, rfl⟩
  obtain ⟨x2, hx2⟩ : ∃ x, bitF 1 n v (8 * q + 2) = x := ⟨_, rfl⟩
  obtain ⟨x3, hx3⟩ : ∃ x, bitF 1 n v (8 * q + 3) = x := ⟨_, rfl⟩
  obtain ⟨x4, hx4⟩ : ∃ x, bitF 1 n v (8 * q + 4) = x := ⟨_, rfl⟩
  unfold PartOk pB
  rw [e1, e2, e3, e4]
  simp only [pS, Nat.add_lt_add_iff_left, Nat.reduceLT, ↓reduceIte, b5, hx0, hx1, hx2, hx3, hx4]
  simp only [Nat.reduceSub, Int.reducePow]
  obtain ⟨w, hw⟩ : ∃ w, v i = w := ⟨_, rfl⟩
  rw [hw] at hv ⊢
  omega
theorem part_1_6 (n : Nat) (v : Nat → Int) (q i : Nat) (hq : i = 8 * q + 6) (hi : i < n) (hv : 0 ≤ v i ∧ v i < 2) : PartOk 1 n v i := by
  have e1 : i * 1 = 8 * q + 6 := by omega
  have e2 : (i + 1) * 1 = 8 * q + 7 := by omega
  have e3 : (8 * q + 6) / 8 = q := by omega
  have e4 : (8 * q + 6) % 8 = 6 := by omega
  have b6 : bitF 1 n v (8 * q + 6) = v i / 1 % 2 := by
    unfold bitF
    rw [if_pos (by omega), if_pos (by decide), show (8 * q + 6) / 1 = i by omega, show (8 * q + 6) % 1 = 0 by omega]
    simp only [Nat.reduceSub, Int.reducePow]
  obtain ⟨x0, hx0⟩ : ∃ x, bitF 1 n v (8 * q + 0) = x := ⟨_, rfl⟩
  obtain ⟨x1, hx1⟩ : ∃ x, bitF 1 n v (8 * q + 1) = x := ⟨_, rfl⟩
  obtain ⟨x2, hx2⟩ : ∃ x, bitF 1 n v (8 * q + 2) = x := ⟨_, rfl⟩
  obtain ⟨x3, hx3⟩ : ∃ x, bitF 1 n v (8 * q + 3) = x := ⟨_, rfl⟩
  obtain ⟨x4, hx4⟩ : ∃ x, bitF 1 n v (8 * q + 4) = x := ⟨_, rfl⟩
  obtain ⟨x5, hx5⟩ : ∃ x, bitF 1 n v (8 * q + 5) = x := ⟨_, rfl⟩
  unfold PartOk pB
  rw [e1, e2, e3, e4]
  simp only [pS, Nat.add_lt_add_iff_left, Nat.reduceLT, ↓reduceIte, b6, hx0, hx1, hx2, hx3, hx4, hx5]
  simp only [Nat.reduceSub, Int.reducePow]
  obtain ⟨w, hw⟩ : ∃ w, v i = w := ⟨_, rfl⟩
  rw [hw] at hv ⊢
  omega
theorem part_1_7 (n : Nat) (v : Nat → Int) (q i : Nat) (hq : i = 8 * q + 7) (hi : i < n) (hv : 0 ≤ v i ∧ v i < 2) : PartOk 1 n v i := by
  have e1 : i * 1 = 8 * q + 7 := by omega
  have e2 : (i + 1) * 1 = 8 * q + 8 := by omega
  have e3 : (8 * q + 7) / 8 = q := by omega
  have e4 : (8 * q + 7) % 8 = 7 := by omega
  have b7 : bitF 1 n v (8 * q + 7) = v i / 1 % 2 := by
    unfold bitF
    rw [if_pos (by omega), if_pos (by decide), show (8 * q + 7) / 1 = i by omega, show (8 * q + 7) % 1 = 0 by omega]
    simp only [Nat.reduceSub, Int.reducePow]
  obtain ⟨x0, hx0⟩ : ∃ x, bitF 1 n v (8 * q + 0) = x := ⟨_, rfl⟩
  obtain ⟨x1, hx1⟩ : ∃ x, bitF 1 n v (8 * q + 1) = x := ⟨_, rfl⟩
  obtain ⟨x2, hx2⟩ : ∃ x, bitF 1 n v (8 * q + 2) = x := ⟨_, rfl⟩
  obtain ⟨x3, hx3⟩ : ∃ x, bitF 1 n v (8 * q + 3) = x := ⟨_, rfl⟩
  obtain ⟨x4, hx4⟩ : ∃ x, bitF 1 n v (8 * q + 4) = x := ⟨_, rfl⟩
  obtain ⟨x5, hx5⟩ : ∃ x, bitF 1 n v (8 * q + 5) = x := ⟨_, rfl⟩
  obtain ⟨x6, hx6⟩ : ∃ x, bitF 1 n v (8 * q + 6) = x := ⟨_, rfl⟩
  unfold PartOk pB
  rw [e1, e2, e3, e4]
  simp only [pS, Nat.add_lt_add_iff_left, Nat.reduceLT, ↓reduceIte, b7, hx0, hx1, hx2, hx3, hx4, hx5, hx6]
  simp only [Nat.reduceSub, Int.reducePow]
  obtain ⟨w, hw⟩ : ∃ w, v i = w := ⟨_, rfl⟩
  rw [hw] at hv ⊢
  omega
theorem part_4_0 (n : Nat) (v : Nat → Int) (q i : Nat) (hq : i = 2 * q + 0) (hi : i < n) (hv : 0 ≤ v i ∧ v i < 16) : PartOk 4 n v i := by
  have e1 : i * 4 = 8 * q + 0 := by omega
  have e2 : (i + 1) * 4 = 8 * q + 4 := by omega
  have e3 : (8 * q + 0) / 8 = q := by omega
  have e4 : (8 * q + 0) % 8 = 0 := by omega
  have b0 : bitF 4 n v (8 * q + 0) = v i / 8 % 2 := by
    unfold bitF
    rw [if_pos (by omega), if_pos (by decide), show (8 * q + 0) / 4 = i by omega, show (8 * q + 0) % 4 = 0 by omega]
    simp only [Nat.reduceSub, Int.reducePow]
  have b1 : bitF 4 n v (8 * q + 1) = v i / 4 % 2 := by
    unfold bitF
    rw [if_pos (by omega), if_pos (by decide), show (8 * q + 1) / 4 = i by omega, show (8 * q + 1) % 4 = 1 by omega]
    simp only [Nat.reduceSub, Int.reducePow]
  have b2 : bitF 4 n v (8 * q + 2) = v i / 2 % 2 := by
    unfold bitF
    rw [if_pos (by omega), if_pos (by decide), show (8 * q + 2) / 4 = i by omega, show (8 * q + 2) % 4 = 2 by omega]
    simp only [Nat.reduceSub, Int.reducePow]
  have b3 : bitF 4 n v (8 * q + 3) = v i / 1 % 2 := by
    unfold bitF
    rw [if_pos (by omega), if_pos (by decide), show (8 * q + 3) / 4 = i by omega, show (8 * q + 3) % 4 = 3 by omega]
    simp only [Nat.reduceSub, Int.reducePow]
  unfold PartOk pB
  rw [e1, e2, e3, e4]
  simp only [pS, Nat.add_lt_add_iff_left, Nat.reduceLT, ↓reduceIte, b0, b1, b2, b3]
  simp only [Nat.reduceSub, Int.reducePow]
  obtain ⟨w, hw⟩ : ∃ w, v i = w := ⟨_, rfl⟩
  rw [hw] at hv ⊢
  omega
theorem part_4_1 (n : Nat) (v : Nat → Int) (q i : Nat) (hq : i = 2 * q + 1) (hi : i < n) (hv : 0 ≤ v i ∧ v i < 16) : PartOk 4 n v i := by
  have e1 : i * 4 = 8 * q + 4 := by omega
  have e2 : (i + 1) * 4 = 8 * q + 8 := by omega
  have e3 : (8 * q + 4) / 8 = q := by omega
  have e4 : (8 * q + 4) % 8 = 4 := by omega
  have b4 : bitF 4 n v (8 * q + 4) = v i / 8 % 2 := by
    unfold bitF
    rw [if_pos (by omega), if_pos (by decide), show (8 * q + 4) / 4 = i by omega, show (8 * q + 4) % 4 = 0 by omega]
    simp only [Nat.reduceSub, Int.reducePow]
  have b5 : bitF 4 n v (8 * q + 5) = v i / 4 % 2 := by
    unfold bitF
    rw [if_pos (by omega), if_pos (by decide), show (8 * q + 5) / 4 = i by omega, show (8 * q + 5) % 4 = 1 by omega]
    simp only [Nat.reduceSub, Int.reducePow]
  have b6 : bitF 4 n v (8 * q + 6) = v i / 2 % 2 := by
    unfold bitF
    rw [if_pos (by omega), if_pos (by decide), show (8 * q + 6) / 4 = i by omega, show (8 * q + 6) % 4 = 2 by omega]
    simp only [Nat.reduceSub, Int.reducePow]
  have b7 : bitF 4 n v (8 * q + 7) = v i / 1 % 2 := by
    unfold bitF
    rw [if_pos (by omega), if_pos (by decide), show (8 * q + 7) / 4 = i by omega, show (8 * q + 7) % 4 = 3 by omega]
    simp only [Nat.reduceSub, Int.reducePow]
  obtain ⟨x0, hx0⟩ : ∃ x, bitF 4 n v (8 * q + 0) = x := ⟨_, rfl⟩
  obtain ⟨x1, hx1⟩ : ∃ x, bitF 4 n v (8 * q + 1) = x := ⟨_, rfl⟩
  obtain ⟨x2, hx2⟩ : ∃ x, bitF 4 n v (8 * q + 2) = x := ⟨_, rfl⟩
  obtain ⟨x3, hx3⟩ : ∃ x, bitF 4 n v (8 * q + 3) = x := ⟨_, rfl⟩
  unfold PartOk pB
  rw [e1, e2, e3, e4]
  simp only [pS, Nat.add_lt_add_iff_left, Nat.reduceLT, ↓reduceIte, b4, b5, b6, b7, hx0, hx1, hx2, hx3]
  simp only [Nat.reduceSub, Int.reducePow]
  obtain ⟨w, hw⟩ : ∃ w, v i = w := ⟨_, rfl⟩
  rw [hw] at hv ⊢
  omega
theorem part_ok (d n : Nat) (v : Nat → Int) (i : Nat) (hd : d = 1 ∨ d = 4) (hi : i < n) (hv : 0 ≤ v i ∧ v i < 2 ^ d) : PartOk d n v i := by
  rcases hd with rfl | rfl
  · have hv : 0 ≤ v i ∧ v i < 2 := hv
    obtain h | h | h | h | h | h | h | h : i % 8 = 0 ∨ i % 8 = 1 ∨ i % 8 = 2 ∨ i % 8 = 3 ∨ i % 8 = 4 ∨ i % 8 = 5 ∨ i % 8 = 6 ∨ i % 8 = 7 := by omega
    · exact part_1_0 n v (i / 8) i (by omega) hi hv
    · exact part_1_1 n v (i / 8) i (by omega) hi hv
    · exact part_1_2 n v (i / 8) i (by omega) hi hv
    · exact part_1_3 n v (i / 8) i (by omega) hi hv
    · exact part_1_4 n v (i / 8) i (by omega) hi hv
    · exact part_1_5 n v (i / 8) i (by omega) hi hv
    · exact part_1_6 n v (i / 8) i (by omega) hi hv
    · exact part_1_7 n v (i / 8) i (by omega) hi hv
  · have hv : 0 ≤ v i ∧ v i < 16 := hv
    obtain h | h : i % 2 = 0 ∨ i % 2 = 1 := by omega
    · exact part_4_0 n v (i / 2) i (by omega) hi hv
    · exact part_4_1 n v (i / 2) i (by omega) hi hv

end Go.Proofs.Ytafglaiclpdhnaa.Rw
