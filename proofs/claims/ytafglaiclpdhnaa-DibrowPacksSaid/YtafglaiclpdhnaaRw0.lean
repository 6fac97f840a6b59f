/- Layer 21, pure: a row's bits, its bytes so far. -/
import Derived.Test.YtafglaiclpdhnaaSca2
namespace Go.Proofs.Ytafglaiclpdhnaa.Rw
open Go.ChangeShapes Go.WideShapes Go.ChangeAt Go.RowKit
set_option linter.unusedVariables false

/-- Bit number t of a row of n numbers of d bits each; the first k bits of byte j, of those of the row's first m bits. -/
def bitF (d n : Nat) (v : Nat → Int) (t : Nat) : Int :=
  if t < n * d then (if d < 8 then v (t / d) / 2 ^ (d - 1 - t % d) % 2 else v (t / d) / 2 ^ (8 * (t % d / 8)) % 256 / 2 ^ (7 - t % 8) % 2) else 0
def pS (d n : Nat) (v : Nat → Int) (m j : Nat) : Nat → Int
  | 0 => 0
  | k + 1 => 2 * pS d n v m j k + (if 8 * j + k < m then bitF d n v (8 * j + k) else 0)
def pB (d n : Nat) (v : Nat → Int) (m j : Nat) : Int := pS d n v m j 8
/-- The row's bytes so far. -/
def rowL (d n : Nat) (v : Nat → Int) (N m : Nat) : List Int := (List.range N).map (pB d n v m)
def okD (d : Nat) : Prop := d = 1 ∨ d = 4 ∨ d = 8 ∨ d = 16 ∨ d = 24 ∨ d = 32
theorem bitF_bd (d n : Nat) (v : Nat → Int) (t : Nat) : 0 ≤ bitF d n v t ∧ bitF d n v t ≤ 1 := by
  unfold bitF
  split
  · split <;> omega
  · omega
theorem pS_bd (d n : Nat) (v : Nat → Int) (m j : Nat) : ∀ k, 0 ≤ pS d n v m j k ∧ pS d n v m j k < 2 ^ k
  | 0 => by simp [pS]
  | k + 1 => by
    have h := pS_bd d n v m j k
    have b := bitF_bd d n v (8 * j + k)
    rw [pS, Int.pow_succ]
    split <;> omega
theorem pB_bd (d n : Nat) (v : Nat → Int) (m j : Nat) : 0 ≤ pB d n v m j ∧ pB d n v m j ≤ 255 := by
  have h := pS_bd d n v m j 8
  unfold pB
  have e : (2 : Int) ^ 8 = 256 := rfl
  omega
theorem pS_same (d n : Nat) (v : Nat → Int) (m m' j : Nat) : ∀ k, (∀ i, i < k → (8 * j + i < m ↔ 8 * j + i < m') ∨ bitF d n v (8 * j + i) = 0) → pS d n v m j k = pS d n v m' j k
  | 0, _ => rfl
  | k + 1, h => by
    rw [pS, pS, pS_same d n v m m' j k (fun i hi => h i (by omega))]
    rcases h k (by omega) with e | e
    · by_cases h1 : 8 * j + k < m
      · rw [if_pos h1, if_pos (e.1 h1)]
      · rw [if_neg h1, if_neg (fun h2 => h1 (e.2 h2))]
    · rw [e]
      simp
theorem pB_zero (d n : Nat) (v : Nat → Int) (j : Nat) : pB d n v 0 j = 0 := by
  unfold pB
  simp [pS]
/-- Behind the row's bits there are none. -/
theorem pB_end (d n : Nat) (v : Nat → Int) (m j : Nat) (h : n * d ≤ m) : pB d n v m j = pB d n v (n * d) j := by
  unfold pB
  refine pS_same d n v m (n * d) j 8 (fun i hi => ?_)
  by_cases h1 : 8 * j + i < n * d
  · exact .inl ⟨fun _ => h1, fun _ => by omega⟩
  · exact .inr (by unfold bitF; rw [if_neg h1])

/-- Whole bytes. -/
theorem pB_whole (d n : Nat) (v : Nat → Int) (i b e : Nat) (hd : d = 8 * e) (he : 1 ≤ e) (hi : i < n) (hb : b < e) (m : Nat) (hm : 8 * (i * e + b) + 8 ≤ m) : pB d n v m (i * e + b) = v i / 2 ^ (8 * b) % 256 := by
  have hj : 8 * (i * e + b) = i * d + 8 * b := by rw [hd, Nat.mul_add]; congr 1; rw [Nat.mul_left_comm]
  have hlt : ∀ k, k < 8 → i * d + 8 * b + k < (i + 1) * d := fun k hk => by rw [Nat.add_mul]; omega
  have hn : (i + 1) * d ≤ n * d := Nat.mul_le_mul_right d hi
  have hbit : ∀ k, k < 8 → bitF d n v (8 * (i * e + b) + k) = v i / 2 ^ (8 * b) % 256 / 2 ^ (7 - k) % 2 := fun k hk => by
    have h1 := hlt k hk
    have hdiv : (i * d + 8 * b + k) / d = i := by
      rw [Nat.add_assoc, Nat.mul_comm, Nat.mul_add_div (by omega), Nat.div_eq_of_lt (by omega)]
      omega
    have hmod : (i * d + 8 * b + k) % d = 8 * b + k := by
      rw [Nat.add_assoc, Nat.mul_comm, Nat.mul_add_mod, Nat.mod_eq_of_lt (by omega)]
    unfold bitF
    rw [hj, if_pos (by omega), if_neg (by omega), hdiv, hmod, show (8 * b + k) / 8 = b by omega, show (i * d + 8 * b + k) % 8 = k by rw [hd, show i * (8 * e) + 8 * b + k = 8 * (i * e + b) + k by rw [Nat.mul_add, Nat.mul_left_comm]]; omega]
  obtain ⟨x, hx⟩ : ∃ x, v i / 2 ^ (8 * b) % 256 = x := ⟨_, rfl⟩
  have hxb : 0 ≤ x ∧ x < 256 := by rw [← hx]; omega
  rw [hx] at hbit ⊢
  unfold pB
  simp only [pS]
  rw [if_pos (by omega), if_pos (by omega), if_pos (by omega), if_pos (by omega), if_pos (by omega), if_pos (by omega), if_pos (by omega), if_pos (by omega), hbit 0 (by decide), hbit 1 (by decide), hbit 2 (by decide), hbit 3 (by decide), hbit 4 (by decide), hbit 5 (by decide), hbit 6 (by decide), hbit 7 (by decide)]
  simp only [Nat.reduceSub, Int.reducePow]
  omega
/-- A byte that the next number does not touch. -/
theorem pB_apart (d n : Nat) (v : Nat → Int) (m m' j : Nat) (h : m ≤ m') (hj : 8 * j + 8 ≤ m ∨ m' ≤ 8 * j) : pB d n v m j = pB d n v m' j := by
  unfold pB
  exact pS_same d n v m m' j 8 (fun i hi => .inl (by omega))

end Go.Proofs.Ytafglaiclpdhnaa.Rw
