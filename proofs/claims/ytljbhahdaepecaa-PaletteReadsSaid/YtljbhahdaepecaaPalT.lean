/- Layer 10: PaletteReads, walked for every input. -/
import Derived.Test.YtljbhahdaepecaaPalSA
import Derived.Test.YtljbhahdaepecaaPalSB
import Derived.Test.YtljbhahdaepecaaPalSC
namespace Go.Proofs.Ytljbhahdaepecaa.Pa
open Go.ChangeShapes Go.WideShapes Go.ChangeAt Go.RowKit
open Go.Proofs.Ytljbhahdaepecaa.Sc Go.Proofs.Ytljbhahdaepecaa.Le
set_option linter.unusedVariables false

set_option maxRecDepth 100000 in
theorem reads_guard (m len cap : Nat) (a : Option Addr) (s : ByteArray) (N kd : Int) (W : World) (hl : len ≤ 9223372036854775807) (hs : s.size ≤ 9223372036854775807) (hm : m ≤ 255) (h : 40 < len ∨ 300 < s.size ∨ m = 0) :
    Calls Try.prog 4 #[.int .u8 m, .slice a len cap, .string s, .int .i64 N, .int .i64 kd] W fun e w' => e = .returned (.bool true) ∧ W.grownBy w' none := by
  have AW := Lib.hid (fun u => awake_calls u)
  have hc : (decide (40 < (len : Int)) = true) ∨ (decide (40 < (len : Int)) = false ∧ decide (300 < (s.size : Int)) = true) ∨ (decide (40 < (len : Int)) = false ∧ decide (300 < (s.size : Int)) = false ∧ ((m : Int) == 0) = true) := by
    by_cases h1 : 40 < len
    · exact .inl (decide_eq_true (by omega))
    · by_cases h2 : 300 < s.size
      · exact .inr (.inl ⟨decide_eq_false (by omega), decide_eq_true (by omega)⟩)
      · exact .inr (.inr ⟨decide_eq_false (by omega), decide_eq_false (by omega), by rw [beq_iff_eq]; omega⟩)
  clear h
  rcases hc with d1 | ⟨d1, d2⟩ | ⟨d1, d2, d3⟩
  all_goals
    go_enter Try.func4, Try.ntmps4
    go_wp2_with fail
    refine (AW.out _).mono ?_
    rintro e w1 ⟨rfl, g1⟩
    have G := Lib.hid g1
    clear g1
    go_wp2
    go_ret
    exact ⟨rfl, G.out⟩

theorem sz_parts (n q sz : Nat) (h : 0 < sz) : ∃ K, K ≤ n ∧ K * sz ≤ q ∧ (K = n ∨ q < K * sz + sz) := by
  refine ⟨min n (q / sz), by omega, ?_, ?_⟩
  · exact Nat.le_trans (Nat.mul_le_mul_right sz (Nat.min_le_right _ _)) (Nat.div_mul_le_self q sz)
  · by_cases h1 : n ≤ q / sz
    · left
      omega
    · right
      rw [Nat.min_eq_right (by omega)]
      have := Nat.lt_div_mul_add (a := q) h
      omega

theorem reads_any (M : Int) (a : Option Addr) (bo off len cap : Nat) (C : Nat → Nat → Int) (s : ByteArray) (N kd : Int) (W : World) (hM : 0 ≤ M ∧ M ≤ 255) (ha : 0 < len → a = some ⟨bo, off, none⟩) (hl : len ≤ 9223372036854775807) (hC : ColsAt bo off len C W) (hCol : ∀ i, i < len → Col (C i)) (hs : s.size ≤ 9223372036854775807) :
    Calls Try.prog 4 #[.int .u8 M, .slice a len cap, .string s, .int .i64 N, .int .i64 kd] W fun e w' => e = .returned (.bool true) ∧ W.grownBy w' none := by
  obtain ⟨m, rfl⟩ : ∃ m : Nat, M = m := ⟨M.toNat, by omega⟩
  by_cases hg : 40 < len ∨ 300 < s.size ∨ m = 0
  · exact reads_guard m len cap a s N kd W hl hs (by omega) hg
  have hlen : len ≤ 40 := by omega
  have hs3 : s.size ≤ 300 := by omega
  have m1 : 1 ≤ m := by omega
  have m2 : m ≤ 255 := by omega
  have KS := fun u => rsize_calls kd u
  by_cases hA : (kd < 2 ∨ 5 < kd) ∨ N < 0
  · refine reads_A m len cap a bo off s C N kd (sizeV kd) W m1 m2 hlen hs3 ha hC hCol hA ?_ KS
    by_cases hk : kd < 2 ∨ 5 < kd
    · left
      unfold sizeV
      rw [if_neg (by omega), if_neg (by omega)]
      rfl
    · right
      refine ⟨?_, by omega⟩
      rw [beq_eq_false_iff_ne]
      unfold sizeV
      split
      · omega
      · rw [if_pos (by omega)]
        decide
  · have hv : (sizeV kd == 0) = false := by
      rw [beq_eq_false_iff_ne]
      unfold sizeV
      split
      · omega
      · rw [if_pos (by omega)]
        decide
    by_cases hf : (m : Int) - (min len m : Nat) < N
    · exact reads_B m len cap a bo off s C N kd (sizeV kd) W m1 m2 hlen hs3 ha hC hCol (by omega) (by omega) hf hv KS
    · obtain ⟨n, rfl⟩ : ∃ n : Nat, N = n := ⟨N.toNat, by omega⟩
      have hkd : kd = 2 ∨ kd = 3 ∨ kd = 4 ∨ kd = 5 := by omega
      rcases hkd with rfl | rfl | rfl | rfl
      · obtain ⟨K, k1, k2, k3⟩ := sz_parts n s.size 2 (by decide)
        exact reads_C m len cap a bo off s C n K 0 2 2 _ W m1 m2 hlen hs3 ha hC hCol (by omega) k1 k2 k3 codeReads_0 docReads_0 hv KS
      · obtain ⟨K, k1, k2, k3⟩ := sz_parts n s.size 3 (by decide)
        exact reads_C m len cap a bo off s C n K 1 3 3 _ W m1 m2 hlen hs3 ha hC hCol (by omega) k1 k2 k3 codeReads_1 docReads_1 hv KS
      · obtain ⟨K, k1, k2, k3⟩ := sz_parts n s.size 4 (by decide)
        exact reads_C m len cap a bo off s C n K 2 4 4 _ W m1 m2 hlen hs3 ha hC hCol (by omega) k1 k2 k3 codeReads_2 docReads_2 hv KS
      · obtain ⟨K, k1, k2, k3⟩ := sz_parts n s.size 4 (by decide)
        exact reads_C m len cap a bo off s C n K 3 4 5 _ W m1 m2 hlen hs3 ha hC hCol (by omega) k1 k2 k3 codeReads_3 docReads_3 hv KS

end Go.Proofs.Ytljbhahdaepecaa.Pa
