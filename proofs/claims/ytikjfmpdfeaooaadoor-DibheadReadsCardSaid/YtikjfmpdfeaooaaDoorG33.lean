/- Texts of one kind, one behind the other: DhL. -/
import Derived.Test.YtikjfmpdfeaooaaDoorG22
import Derived.Test.YtikjfmpdfeaooaaDoorG32
/- Layer 20: the law DibheadReads (written by wip/gen/dhl.py). -/
namespace Go.Proofs.YtikjfmpdfeaooaaDoor.Dh
open Go.ChangeShapes Go.WideShapes Go.ChangeAt Go.RowKit
open Go.Proofs.YtikjfmpdfeaooaaDoor.Le Go.Proofs.YtikjfmpdfeaooaaDoor.Sr Go.Proofs.YtikjfmpdfeaooaaDoor.Ma
set_option linter.unusedVariables false

theorem reads_any (A B : ByteArray) (fm : Int) (W : World) (hA : A.size ≤ 9223372036854775807) (hB : B.size ≤ 9223372036854775807) (hlt : 0 < W.heap.size) (hT : Tab W) :
    Calls Tryd.prog 3 #[.string A, .string B, .int .i64 fm] W fun e w' => e = .returned (.bool true) ∧ W.grownBy w' none := by
  by_cases hf : 300 < B.size ∨ 100 < A.size
  · exact law_far A B fm W hf
  have h1 : B.size ≤ 300 := by omega
  have h2 : A.size ≤ 100 := by omega
  have hTs : (A ++ B).size = A.size + B.size := ByteArray.size_append
  rcases read_both (A ++ B) A.size fm (LW 1000 0) (GW.lw (by decide) (by decide) (by decide) (by decide)) (by omega) (by omega) with ⟨kk, a0, q, y, k1, k3, KC, KD⟩ | ⟨S, X, Y, D, M, C, tp, s, n, q, y, GHh, hpk, ho, q1, q2, hy, KC, KD⟩
  · exact law_bad A B fm W kk a0 q y k1 h2 h1 hlt hT (fun u => awake_calls u) ⟨KC, KD⟩
  · have x1 := GHh.x1
    have x2 := GHh.x2
    have hd : 1 ≤ D ∧ D ≤ 32 := by have := GHh.d; omega
    have hXD : 0 ≤ X * D := Int.mul_nonneg (by omega) (by omega)
    have hXb : X * D ≤ 16384 * 32 := Int.mul_le_mul x2 hd.2 (by omega) (by decide)
    obtain ⟨N, hN⟩ : ∃ N : Nat, X * D = N := ⟨(X * D).toNat, by omega⟩
    have hst := str_up X D N hN (by omega) x2 hd.1 hd.2
    have hk : (rdH S || otH S) = true := by rw [GHh.s]; rfl
    by_cases h12 : S = 12
    · subst h12
      exact law_good12 A B fm W X Y D M C tp _ _ _ _ _ _ _ _ _ _ _ _ q y ((upN N / 8 : Nat) : Int) h2 h1 hlt hT (fun u => awake_calls u)
        (fun p u => same_calls 12 X Y D M C p q tp s n ho u)
        (fun p u => by rw [← hst]; exact stride_calls _ _ _ _ _ _ _ _ _ _ _ _ _ _ _ _ u)
        (fun p u => rstride_calls _ _ _ _ _ _ _ _ _ _ _ _ _ _ _ u N hN (by omega))
        (fun p u => entry_calls 12 _ _ _ _ _ _ _ _ _ _ _ _ _ _ _ u)
        (fun u => by have K := known_calls 12 u; rw [hk] at K; exact K) ⟨KC, KD⟩
    · exact law_good A B fm W S X Y D M C tp _ _ _ _ _ _ _ _ _ _ _ _ q y ((upN N / 8 : Nat) : Int) (by rw [beq_eq_false_iff_ne]; exact h12) h2 h1 hlt hT (fun u => awake_calls u)
        (fun p u => same_calls S X Y D M C p q tp s n ho u)
        (fun p u => by rw [← hst]; exact stride_calls _ _ _ _ _ _ _ _ _ _ _ _ _ _ _ _ u)
        (fun p u => rstride_calls _ _ _ _ _ _ _ _ _ _ _ _ _ _ _ u N hN (by omega))
        (fun p u => by have E := entry_calls S X Y D M C p tp (s 0 : Nat) (n 0 : Nat) (s 1 : Nat) (n 1 : Nat) (s 2 : Nat) (n 2 : Nat) (s 3 : Nat) (n 3 : Nat) u; rw [if_neg h12] at E; exact E)
        (fun u => by have K := known_calls S u; rw [hk] at K; exact K) ⟨KC, KD⟩

end Go.Proofs.YtikjfmpdfeaooaaDoor.Dh
