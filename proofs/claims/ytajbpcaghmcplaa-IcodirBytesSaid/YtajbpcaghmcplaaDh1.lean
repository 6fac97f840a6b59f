/- Layer 20, pure: what a head's bytes tell, and what is wrong with them; the small tests (written by wip/gen/dh1.py). -/
import Derived.Test.YtajbpcaghmcplaaSrcA
import Derived.Deep.LoopGhost
namespace Go.Proofs.Ytajbpcaghmcplaa.Dh
open Go.ChangeShapes Go.WideShapes Go.ChangeAt Go.RowKit
open Go.Proofs.Ytajbpcaghmcplaa.Le Go.Proofs.Ytajbpcaghmcplaa.Sr
set_option linter.unusedVariables false

/-- Byte i of a text, as a number; two bytes, four bytes, the lowest first. -/
def bn (s : ByteArray) (i : Nat) : Nat := (s.data.toList.getD i 0).toNat
def w2 (s : ByteArray) (i : Nat) : Nat := bn s i + 256 * bn s (i + 1)
def w4 (s : ByteArray) (i : Nat) : Nat := bn s i + 256 * bn s (i + 1) + 65536 * bn s (i + 2) + 16777216 * bn s (i + 3)
theorem bn_at (s : ByteArray) (k : Nat) (h : k < s.size) : (s[k]'h).toNat = bn s k := by
  have h1 := Go.Proofs.byte_at s k h
  unfold bn
  rw [List.getD_eq_getElem?_getD, h1]
  rfl
theorem bn_lt (s : ByteArray) (k : Nat) : bn s k < 256 := UInt8.toNat_lt _
theorem w2_lt (s : ByteArray) (i : Nat) : w2 s i < 65536 := by
  have h1 := bn_lt s i
  have h2 := bn_lt s (i + 1)
  unfold w2
  omega
theorem w4_lt (s : ByteArray) (i : Nat) : w4 s i < 4294967296 := by
  have h1 := bn_lt s i
  have h2 := bn_lt s (i + 1)
  have h3 := bn_lt s (i + 2)
  have h4 := bn_lt s (i + 3)
  unfold w4
  omega
theorem bn_ext (s : ByteArray) (p q i : Nat) (hq : q ≤ s.size) (hi : p + i < q) : bn (s.extract p q) i = bn s (p + i) := by
  unfold bn
  rw [Lib.extract_data, List.getD_eq_getElem?_getD, List.getD_eq_getElem?_getD, List.getElem?_take_of_lt (by omega), List.getElem?_drop]
theorem w2_ext (s : ByteArray) (p q i : Nat) (hq : q ≤ s.size) (hi : p + i + 1 < q) : w2 (s.extract p q) i = w2 s (p + i) := by
  unfold w2
  rw [bn_ext s p q i hq (by omega), bn_ext s p q (i + 1) hq (by omega)]
  rfl
theorem w4_ext (s : ByteArray) (p q i : Nat) (hq : q ≤ s.size) (hi : p + i + 3 < q) : w4 (s.extract p q) i = w4 s (p + i) := by
  unfold w4
  rw [bn_ext s p q i hq (by omega), bn_ext s p q (i + 1) hq (by omega), bn_ext s p q (i + 2) hq (by omega), bn_ext s p q (i + 3) hq (by omega)]
  rfl

/-- A head's numbers, by its bytes; those of twelve bytes have no method and no colours. -/
def nW (z : ByteArray) : Int := if z.size = 12 then (w2 z 4 : Nat) else sgn (w4 z 4)
def nH (z : ByteArray) : Int := if z.size = 12 then (w2 z 6 : Nat) else sgn (w4 z 8)
def nP (z : ByteArray) : Nat := if z.size = 12 then w2 z 8 else w2 z 12
def nD (z : ByteArray) : Nat := if z.size = 12 then w2 z 10 else w2 z 14
def nM (z : ByteArray) : Nat := if z.size = 12 then 0 else w4 z 16
def nC (z : ByteArray) : Nat := if z.size = 12 then 0 else w4 z 32
def nV (z : ByteArray) : Array Value := #[.int .i64 (z.size : Nat), .int .i64 (nW z), .int .i64 (nH z), .int .i64 (nP z), .int .i64 (nD z), .int .i64 (nM z), .int .i64 (nC z)]

def rdH (n : Int) : Bool := decide (n = 12 ∨ n = 40 ∨ n = 52 ∨ n = 56 ∨ n = 108 ∨ n = 124)
def otH (n : Int) : Bool := decide (n = 16 ∨ n = 64)
def fa (n : Int) : Int := if 0 ≤ n then n else -n
def dpH (d n : Int) : Bool := decide ((d = 1 ∨ d = 4 ∨ d = 8 ∨ d = 24) ∨ ((d = 16 ∨ d = 32) ∧ n ≠ 12))
def ftH (m d : Int) : Bool := decide ((m = 1 ∧ d = 8) ∨ (m = 2 ∧ d = 4) ∨ (m = 3 ∧ (d = 16 ∨ d = 32)) ∨ (m ≠ 1 ∧ m ≠ 2 ∧ m ≠ 3))
def pkH (m : Int) : Bool := decide (m = 1 ∨ m = 2)
def allC (d : Int) : Int := if d = 1 then 2 else if d = 4 then 16 else if d = 8 then 256 else 0
def mstC (d : Int) : Int := if d = 1 then 2 else if d = 4 then 16 else 256
def clrC (d c : Int) : Int := if c = 0 then allC d else c

/-- Is check number k what is wrong? -/
def ckD (S W H P D M C : Int) : Nat → Bool
  | 0 => decide (W < 1)
  | 1 => decide (16384 < W)
  | 2 => H == 0
  | 3 => decide (16384 < fa H)
  | 4 => P != 1
  | 5 => !(dpH D S)
  | 6 => decide (3 < M)
  | 7 => !(ftH M D)
  | 8 => pkH M && decide (H < 0)
  | 9 => decide (mstC D < C)
  | _ => true
def kdD : Nat → Int
  | 0 => 2 | 1 => 3 | 2 => 2 | 3 => 3 | 4 => 2 | 5 => 3 | 6 => 3 | 7 => 2 | 8 => 2 | 9 => 2 | _ => 0
def plD (S : Int) : Nat → Int
  | 0 => 4 | 1 => 4 | 2 => (if S = 12 then 6 else 8) | 3 => (if S = 12 then 6 else 8) | 4 => (if S = 12 then 8 else 12) | 5 => (if S = 12 then 10 else 14) | 6 => 16 | 7 => 16 | 8 => (if S = 12 then 6 else 8) | 9 => 32 | _ => 0
/-- K is the first check that tells something; 10: there is none. -/
structure FstB (b : Nat → Bool) (K : Nat) : Prop where
  le : K ≤ 10
  yes : K < 10 → b K = true
  no : ∀ j, j < K → b j = false
theorem fst_ex (b : Nat → Bool) : ∃ K, FstB b K := by
  have : ∀ n, n ≤ 10 → (∀ j, j < 10 - n → b j = false) → ∃ K, FstB b K := by
    intro n
    induction n with
    | zero => intro _ h; exact ⟨10, Nat.le_refl _, fun h => absurd h (by decide), h⟩
    | succ n ih =>
      intro hn h
      cases hk : b (10 - (n + 1)) with
      | true => exact ⟨10 - (n + 1), by omega, fun _ => hk, h⟩
      | false => exact ih (by omega) (fun j hj => by
          by_cases e : j = 10 - (n + 1)
          · rw [e]; exact hk
          · exact h j (by omega))
  exact this 10 (Nat.le_refl _) (fun j hj => absurd hj (by omega))

end Go.Proofs.Ytajbpcaghmcplaa.Dh
