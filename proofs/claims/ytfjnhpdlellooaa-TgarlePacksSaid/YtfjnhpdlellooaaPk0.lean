/- Layer 18, pure: packets of pixels that are told by their bytes. -/
import Derived.Test.YtfjnhpdlellooaaProg
import Derived.WalkKit
import Derived.ProofKit
import Derived.Lib.Hide
import Derived.Lib.RabinKarpLaws
import Derived.Lib.AppendStr
namespace Go.Proofs.Ytfjnhpdlellooaa.Pk
open Go.ChangeShapes Go.WideShapes Go.ChangeAt Go.RowKit
set_option linter.unusedVariables false

section
variable (L : Nat → ByteArray) (N : Nat)
/-- As many pixels from i on as are one, at most 128. -/
def AL (i n : Nat) : Prop := 1 ≤ n ∧ n ≤ 128 ∧ i + n ≤ N ∧ (∀ k, k < n → L (i + k) = L i) ∧ (n = 128 ∨ i + n = N ∨ L (i + n) ≠ L i)
/-- As many from i on as stand ahead of the first two that are one, at most 128. -/
def UL (i n : Nat) : Prop := n ≤ 128 ∧ i + n ≤ N ∧ (∀ k, k < n → ¬ (i + k + 1 < N ∧ L (i + k) = L (i + k + 1))) ∧ (n = 128 ∨ i + n = N ∨ (i + n + 1 < N ∧ L (i + n) = L (i + n + 1)))
end
variable {L : Nat → ByteArray} {N : Nat}
theorem AL.le {i n m : Nat} (h : AL L N i n) (k : AL L N i m) : n ≤ m := by
  obtain ⟨h1, h2, h3, h4, h5⟩ := h
  obtain ⟨k1, k2, k3, k4, k5⟩ := k
  rcases Nat.lt_or_ge m n with hl | hl
  · rcases k5 with e | e | e
    · omega
    · omega
    · exact absurd (h4 m hl) e
  · exact hl
theorem AL.uniq {i n m : Nat} (h : AL L N i n) (k : AL L N i m) : n = m := Nat.le_antisymm (h.le k) (k.le h)
theorem UL.le {i n m : Nat} (h : UL L N i n) (k : UL L N i m) : n ≤ m := by
  obtain ⟨h2, h3, h4, h5⟩ := h
  obtain ⟨k2, k3, k4, k5⟩ := k
  rcases Nat.lt_or_ge m n with hl | hl
  · rcases k5 with e | e | e
    · omega
    · omega
    · exact absurd e (h4 m hl)
  · exact hl
theorem UL.uniq {i n m : Nat} (h : UL L N i n) (k : UL L N i m) : n = m := Nat.le_antisymm (h.le k) (k.le h)
/-- Where the next two are not one, one stands at least. -/
theorem UL.one {i n : Nat} (h : UL L N i n) (a : AL L N i 1) : 1 ≤ n := by
  obtain ⟨h2, h3, h4, h5⟩ := h
  obtain ⟨_, _, a3, _, a5⟩ := a
  rcases Nat.eq_zero_or_pos n with rfl | hp
  · exfalso
    rcases h5 with e | e | ⟨e, e'⟩
    · omega
    · omega
    · rcases a5 with a | a | a
      · omega
      · omega
      · exact a e'.symm
  · exact hp

open Classical in
noncomputable def alN (L : Nat → ByteArray) (N i : Nat) : Nat := if h : ∃ n, AL L N i n then Classical.choose h else 1
open Classical in
noncomputable def ulN (L : Nat → ByteArray) (N i : Nat) : Nat := if h : ∃ n, UL L N i n then Classical.choose h else 1
theorem al_is {i n : Nat} (h : AL L N i n) : alN L N i = n := by
  have hx : ∃ n, AL L N i n := ⟨n, h⟩
  unfold alN
  rw [dif_pos hx]
  exact (Classical.choose_spec hx).uniq h
theorem ul_is {i n : Nat} (h : UL L N i n) : ulN L N i = n := by
  have hx : ∃ n, UL L N i n := ⟨n, h⟩
  unfold ulN
  rw [dif_pos hx]
  exact (Classical.choose_spec hx).uniq h

/-- The bytes of n pixels from i on. -/
def cat (L : Nat → ByteArray) (i : Nat) : Nat → List UInt8
  | 0 => []
  | n + 1 => cat L i n ++ (L (i + n)).data.toList
/-- One packet further. -/
noncomputable def pkStep (L : Nat → ByteArray) (N : Nat) (z : Nat × List UInt8) : Nat × List UInt8 :=
  if N ≤ z.1 then z
  else if 1 < alN L N z.1 then (z.1 + alN L N z.1, z.2 ++ (UInt8.ofNat (127 + alN L N z.1) :: (L z.1).data.toList))
  else (z.1 + ulN L N z.1, z.2 ++ (UInt8.ofNat (ulN L N z.1 - 1) :: cat L z.1 (ulN L N z.1)))
/-- Where k packets end, and their bytes. -/
noncomputable def pk (L : Nat → ByteArray) (N : Nat) : Nat → Nat × List UInt8
  | 0 => (0, [])
  | k + 1 => pkStep L N (pk L N k)
theorem pk_stay {i j : Nat} (h : i ≤ j) (hf : N ≤ (pk L N i).1) : pk L N j = pk L N i := by
  induction j with
  | zero =>
    obtain rfl : i = 0 := by omega
    rfl
  | succ j ih =>
    by_cases e : i = j + 1
    · subst e; rfl
    · have e1 := ih (by omega)
      show pkStep L N (pk L N j) = _
      rw [e1]
      exact if_pos hf
/-- All packets' bytes are one, however many steps tell them. -/
theorem pk_one {i j : Nat} (hi : N ≤ (pk L N i).1) (hj : N ≤ (pk L N j).1) : (pk L N i).2 = (pk L N j).2 := by
  rcases Nat.le_total i j with h | h
  · rw [pk_stay h hi]
  · rw [pk_stay h hj]
theorem pk_run {k i n : Nat} {t : List UInt8} (h : pk L N k = (i, t)) (hi : i < N) (a : AL L N i n) (hn : 1 < n) :
    pk L N (k + 1) = (i + n, t ++ (UInt8.ofNat (127 + n) :: (L i).data.toList)) := by
  show pkStep L N (pk L N k) = _
  rw [h]
  unfold pkStep
  rw [if_neg (by show ¬ N ≤ i; omega)]
  show (if 1 < alN L N i then _ else _) = _
  rw [al_is a, if_pos hn]
theorem pk_lit {k i n : Nat} {t : List UInt8} (h : pk L N k = (i, t)) (hi : i < N) (a : AL L N i 1) (u : UL L N i n) :
    pk L N (k + 1) = (i + n, t ++ (UInt8.ofNat (n - 1) :: cat L i n)) := by
  show pkStep L N (pk L N k) = _
  rw [h]
  unfold pkStep
  rw [if_neg (by show ¬ N ≤ i; omega)]
  show (if 1 < alN L N i then _ else (i + ulN L N i, _)) = _
  rw [al_is a, if_neg (by omega), ul_is u]
theorem cat_le {m : Nat} (h : ∀ k, (L k).size ≤ m) (i : Nat) : ∀ n, (cat L i n).length ≤ m * n
  | 0 => by show 0 ≤ _; omega
  | n + 1 => by
    have h1 := cat_le h i n
    have h2 := h (i + n)
    show (cat L i n ++ (L (i + n)).data.toList).length ≤ _
    rw [List.length_append, Nat.mul_succ, ← Lib.size_eq]
    omega

end Go.Proofs.Ytfjnhpdlellooaa.Pk
