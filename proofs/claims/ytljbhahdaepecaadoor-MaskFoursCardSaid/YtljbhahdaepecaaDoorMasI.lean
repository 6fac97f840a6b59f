/- Layer 9: MaskFours, walked. -/
import Derived.Test.YtljbhahdaepecaaDoorMasH
import Derived.Test.YtljbhahdaepecaaDoorMas3
namespace Go.Proofs.YtljbhahdaepecaaDoor.Ma
open Go.ChangeShapes Go.WideShapes Go.ChangeAt Go.RowKit
open Go.Proofs.YtljbhahdaepecaaDoor.Le Go.Proofs.YtljbhahdaepecaaDoor.Sc
set_option linter.unusedVariables false

theorem ahead_bit (m : Nat → Nat) (i : Nat) : ∀ k, bitN (ahead m k) i = 1 ↔ ∃ j, j < k ∧ bitN (m j) i = 1
  | 0 => by
    constructor
    · intro h
      have : bitN 0 i = 0 := by unfold bitN; simp
      exact absurd (show bitN 0 i = 1 from h) (by omega)
    · rintro ⟨j, hj, _⟩; omega
  | k + 1 => by
    have e : bitN (ahead m (k + 1)) i = 1 ↔ bitN (ahead m k) i = 1 ∨ bitN (m k) i = 1 := by
      rw [bitN_tb, bitN_tb, bitN_tb]
      show ((ahead m k ||| m k).testBit i).toNat = 1 ↔ _
      rw [Nat.testBit_or]
      cases (ahead m k).testBit i <;> cases (m k).testBit i <;> simp
    rw [e, ahead_bit m i k]
    constructor
    · rintro (⟨j, hj, h⟩ | h)
      · exact ⟨j, by omega, h⟩
      · exact ⟨k, by omega, h⟩
    · rintro ⟨j, hj, h⟩
      by_cases hk : j = k
      · subst hk; exact .inr h
      · exact .inl ⟨j, by omega, h⟩

theorem and_bit (v w i : Nat) : bitN (v &&& w) i = 1 ↔ bitN v i = 1 ∧ bitN w i = 1 := by
  rw [bitN_tb, bitN_tb, bitN_tb, Nat.testBit_and]
  cases v.testBit i <;> cases w.testBit i <;> simp

/-- A bit in common with those ahead is a bit in common with one of them. -/
theorem common_iff (m : Nat → Nat) (k : Nat) (hm : m k < 4294967296) : m k &&& ahead m k = 0 ↔ ∀ j, j < k → bothB (m k) (m j) 32 = false := by
  constructor
  · intro h j hj
    cases hb : bothB (m k) (m j) 32 with
    | false => rfl
    | true =>
      obtain ⟨i, hi, h1, h2⟩ := (bothB_iff _ _ 32).1 hb
      have h3 := (and_bit (m k) (ahead m k) i).2 ⟨h1, (ahead_bit m i k).2 ⟨j, hj, h2⟩⟩
      rw [h] at h3
      have : bitN 0 i = 0 := by unfold bitN; simp
      omega
  · intro h
    refine eq_of_bits fun i => ?_
    have h0 : bitN 0 i = 0 := by unfold bitN; simp
    rw [h0]
    have hl := bitN_lt (m k &&& ahead m k) i
    rcases Nat.lt_or_ge (bitN (m k &&& ahead m k) i) 1 with hz | hz
    · omega
    · exfalso
      obtain ⟨h1, h2⟩ := (and_bit (m k) (ahead m k) i).1 (by omega)
      obtain ⟨j, hj, h3⟩ := (ahead_bit m i k).1 h2
      have hi : i < 32 := by
        rcases Nat.lt_or_ge i 32 with h' | h'
        · exact h'
        · have := bit_high (W := 32) (by exact hm) h'
          omega
      have := (bothB_iff (m k) (m j) 32).2 ⟨i, hi, h1, h3⟩
      rw [h j hj] at this
      exact absurd this (by decide)

theorem first_of (P : Nat → Prop) : ∀ n, ∃ t, t ≤ n ∧ (∀ k, k < t → P k) ∧ (t = n ∨ (t < n ∧ ¬ P t))
  | 0 => ⟨0, by omega, fun k hk => by omega, .inl rfl⟩
  | n + 1 => by
    obtain ⟨t, ht, hp, h⟩ := first_of P n
    rcases h with rfl | ⟨h1, h2⟩
    · by_cases hP : P t
      · refine ⟨t + 1, by omega, fun k hk => ?_, .inl rfl⟩
        by_cases hkt : k = t
        · subst hkt; exact hP
        · exact hp k (by omega)
      · exact ⟨t, by omega, hp, .inr ⟨by omega, hP⟩⟩
    · exact ⟨t, by omega, hp, .inr ⟨by omega, h2⟩⟩

theorem okP_lt {s n : Nat} (h : okP s n) : maskW s n < 4294967296 := by
  unfold maskW
  rcases h with ⟨_, rfl⟩ | ⟨h1, h2⟩
  · rw [if_pos rfl]; decide
  · rw [if_neg (by omega)]; exact blk_lt32 h2

/-- Any number is a mask, or none, by the code as by the document. -/
theorem classify (x width : Int) : ∃ s n : Nat, okP s n ∧
    ((∃ c : Int, (c != 0) = true ∧ FindIs x width 0 0 c ∧ RFindIs x width 0 0 c) ∨
     (x = (maskW s n : Nat) ∧ FindIs x width s n 0 ∧ RFindIs x width s n 0)) := by
  by_cases hw : width = 16 ∨ width = 32
  · obtain ⟨N, hN, hw'⟩ : ∃ N : Nat, width = N ∧ (N = 16 ∨ N = 32) := by
      rcases hw with rfl | rfl
      · exact ⟨16, rfl, .inl rfl⟩
      · exact ⟨32, rfl, .inr rfl⟩
    subst hN
    by_cases hr : x < 0 ∨ pw N ≤ x
    · exact ⟨0, 0, .inl ⟨rfl, rfl⟩, .inl ⟨2, rfl, fun u _ _ => find_range x N u hw' hr, fun u => rfind_range x N u hw' hr⟩⟩
    · obtain ⟨m, rfl⟩ : ∃ m : Nat, x = m := ⟨x.toNat, by omega⟩
      have hm : (m : Int) < pw N := by omega
      have KF := fun u hT hlt => find_calls m N u hw' hm hlt hT
      have KR := fun u => rfind_calls m N u hw' hm
      by_cases hrun : 1 < runs m N
      · have e : findV m N = (0, 0, 6) := by unfold findV; rw [if_pos hrun]
        simp only [e] at KF KR
        exact ⟨0, 0, .inl ⟨rfl, rfl⟩, .inl ⟨6, rfl, fun u a b => KF u a b, KR⟩⟩
      · have e : findV m N = ((frm m N : Int), (cnt m N : Int), 0) := by unfold findV; rw [if_neg hrun]
        have hm2 : m < 2 ^ N := by
          have : (m : Int) < ((2 ^ N : Nat) : Int) := hm
          omega
        simp only [e] at KF KR
        rcases one_run hm2 (by omega) with ⟨a, b, c⟩ | ⟨a, b, c⟩
        · rw [b, c] at KF KR
          subst a
          exact ⟨0, 0, .inl ⟨rfl, rfl⟩, .inr ⟨rfl, fun u a b => KF u a b, KR⟩⟩
        · refine ⟨frm m N, cnt m N, .inr ⟨a, by omega⟩, .inr ⟨?_, fun u a b => KF u a b, KR⟩⟩
          unfold maskW
          rw [if_neg (by omega), ← c]
  · exact ⟨0, 0, .inl ⟨rfl, rfl⟩, .inl ⟨1, rfl, fun u _ _ => find_arg x width u (by omega) (by omega), fun u => rfind_arg x width u (by omega) (by omega)⟩⟩

set_option maxRecDepth 100000 in
theorem fours_bad (M : Nat → Int) (width word r c : Int) (W : World) (hlt : 0 < W.heap.size) (hT : Tab W) (hc : (c != 0) = true)
    (KF : Calls Tryd.prog 14 #[.int .i64 (M 0), .int .i64 (M 1), .int .i64 (M 2), .int .i64 (M 3), .int .i64 width] W fun e w' => e = .returned (.tuple #[.agg #[.int .i64 0, .int .i64 0, .int .i64 0, .int .i64 0, .int .i64 0, .int .i64 0, .int .i64 0, .int .i64 0], .int .i64 r, .int .i64 c]) ∧ W.grownBy w' none)
    (KR : ∀ b u, (∀ k, k < 4 → u.cell? ⟨b, k, none⟩ = some (.int .i64 (M k))) → Calls Tryd.prog 15 #[.slice (some ⟨b, 0, none⟩) 4 4, .int .i64 width] u fun e w' => e = .returned (.tuple #[.int .i64 r, .int .i64 c]) ∧ u.grownBy w' none) :
    Calls Tryd.prog 4 #[.int .i64 (M 0), .int .i64 (M 1), .int .i64 (M 2), .int .i64 (M 3), .int .i64 width, .int .i64 word] W fun e w' => e = .returned (.bool true) ∧ W.grownBy w' none := by
  have KF' := Lib.hid KF
  have KR' := Lib.hid KR
  have HT := Lib.hid hT
  clear KF KR hT
  go_enter Tryd.func4, Tryd.ntmps4
  go_wp2_with fail
  refine KF'.out.mono ?_
  rintro e w1 ⟨rfl, g1⟩
  have G1 := Lib.hid g1
  clear g1
  go_wp2_with fail
  have hA : ((w1.alloc (.cells #[.int .i64 0, .int .i64 0, .int .i64 0, .int .i64 0, .int .i64 0, .int .i64 0, .int .i64 0, .int .i64 0] 35)).alloc (.cells #[.int .i64 (M 0), .int .i64 (M 1), .int .i64 (M 2), .int .i64 (M 3)] 3)).heap[w1.heap.size]? = some (.cells #[.int .i64 0, .int .i64 0, .int .i64 0, .int .i64 0, .int .i64 0, .int .i64 0, .int .i64 0, .int .i64 0] 35 (0, 0)) := blk_al blk_at _
  have hB : ((w1.alloc (.cells #[.int .i64 0, .int .i64 0, .int .i64 0, .int .i64 0, .int .i64 0, .int .i64 0, .int .i64 0, .int .i64 0] 35)).alloc (.cells #[.int .i64 (M 0), .int .i64 (M 1), .int .i64 (M 2), .int .i64 (M 3)] 3)).heap[w1.heap.size + 1]? = some (.cells #[.int .i64 (M 0), .int .i64 (M 1), .int .i64 (M 2), .int .i64 (M 3)] 3 (0, 0)) := by
    rw [← size_alloc w1 (.cells #[.int .i64 0, .int .i64 0, .int .i64 0, .int .i64 0, .int .i64 0, .int .i64 0, .int .i64 0, .int .i64 0] 35)]
    exact blk_at
  have hG := gb_trans G1.out (gb_trans (World.grownBy_alloc w1 (.cells #[.int .i64 0, .int .i64 0, .int .i64 0, .int .i64 0, .int .i64 0, .int .i64 0, .int .i64 0, .int .i64 0] 35) none) (World.grownBy_alloc _ (.cells #[.int .i64 (M 0), .int .i64 (M 1), .int .i64 (M 2), .int .i64 (M 3)] 3) none))
  generalize (w1.alloc (.cells #[.int .i64 0, .int .i64 0, .int .i64 0, .int .i64 0, .int .i64 0, .int .i64 0, .int .i64 0, .int .i64 0] 35)).alloc (.cells #[.int .i64 (M 0), .int .i64 (M 1), .int .i64 (M 2), .int .i64 (M 3)] 3) = w2 at hA hB hG ⊢
  have KRh := Lib.hid (KR'.out (w1.heap.size + 1) w2 (fun k hk => by
    obtain rfl | rfl | rfl | rfl : k = 0 ∨ k = 1 ∨ k = 2 ∨ k = 3 := by omega
    · exact blk_cell hB 0
    · exact blk_cell hB 1
    · exact blk_cell hB 2
    · exact blk_cell hB 3))
  have HA := Lib.hid hA
  have HG := Lib.hid hG
  clear hA hB hG
  refine KRh.out.mono ?_
  rintro e w3 ⟨rfl, g3⟩
  have A3 := (g3.block _ (blk_lt HA.out) (by simp)).trans HA.out
  have t0 : w3.cell? ⟨w1.heap.size, 0, none⟩ = some (.int .i64 0) := blk_cell A3 0
  have t1 : w3.cell? ⟨w1.heap.size, 1, none⟩ = some (.int .i64 0) := blk_cell A3 1
  have t2 : w3.cell? ⟨w1.heap.size, 2, none⟩ = some (.int .i64 0) := blk_cell A3 2
  have t3 : w3.cell? ⟨w1.heap.size, 3, none⟩ = some (.int .i64 0) := blk_cell A3 3
  have t4 : w3.cell? ⟨w1.heap.size, 4, none⟩ = some (.int .i64 0) := blk_cell A3 4
  have t5 : w3.cell? ⟨w1.heap.size, 5, none⟩ = some (.int .i64 0) := blk_cell A3 5
  have t6 : w3.cell? ⟨w1.heap.size, 6, none⟩ = some (.int .i64 0) := blk_cell A3 6
  have t7 : w3.cell? ⟨w1.heap.size, 7, none⟩ = some (.int .i64 0) := blk_cell A3 7
  have G3 := Lib.hid (gb_trans HG.out g3)
  have AW := Lib.hid (awake_calls w3 (Nat.lt_of_lt_of_le hlt G3.out.size) (HT.out.grown hlt G3.out))
  clear g3 A3
  go_wp2_with fail
  refine AW.out.mono ?_
  rintro e w4 ⟨rfl, g4⟩
  go_wp2
  go_ret
  exact ⟨rfl, gb_trans G3.out g4⟩

set_option maxRecDepth 100000 in
theorem fours_good (M : Nat → Int) (s n : Nat → Nat) (width word : Int) (c0 c1 c2 c3 : Int) (W : World) (hlt : 0 < W.heap.size) (hT : Tab W)
    (KF : Calls Tryd.prog 14 #[.int .i64 (M 0), .int .i64 (M 1), .int .i64 (M 2), .int .i64 (M 3), .int .i64 width] W fun e w' => e = .returned (.tuple #[.agg #[.int .i64 (s 0 : Int), .int .i64 (n 0 : Int), .int .i64 (s 1 : Int), .int .i64 (n 1 : Int), .int .i64 (s 2 : Int), .int .i64 (n 2 : Int), .int .i64 (s 3 : Int), .int .i64 (n 3 : Int)], .int .i64 0, .int .i64 0]) ∧ W.grownBy w' none)
    (KR : ∀ b u, (∀ k, k < 4 → u.cell? ⟨b, k, none⟩ = some (.int .i64 (M k))) → Calls Tryd.prog 15 #[.slice (some ⟨b, 0, none⟩) 4 4, .int .i64 width] u fun e w' => e = .returned (.tuple #[.int .i64 0, .int .i64 0]) ∧ u.grownBy w' none)
    (KC : ∀ u, Calls Tryd.prog 16 #[.agg #[.int .i64 (s 0 : Int), .int .i64 (n 0 : Int), .int .i64 (s 1 : Int), .int .i64 (n 1 : Int), .int .i64 (s 2 : Int), .int .i64 (n 2 : Int), .int .i64 (s 3 : Int), .int .i64 (n 3 : Int)], .int .i64 word] u fun e w' => e = .returned (.agg #[.int .u8 c0, .int .u8 c1, .int .u8 c2, .int .u8 c3]) ∧ u.grownBy w' none)
    (KD : ∀ u, Calls Tryd.prog 17 #[.int .i64 word, .int .i64 (M 0), .int .i64 (M 1), .int .i64 (M 2), .int .i64 (M 3)] u fun e w' => e = .returned (.agg #[.int .u8 c0, .int .u8 c1, .int .u8 c2, .int .u8 c3]) ∧ u.grownBy w' none) :
    Calls Tryd.prog 4 #[.int .i64 (M 0), .int .i64 (M 1), .int .i64 (M 2), .int .i64 (M 3), .int .i64 width, .int .i64 word] W fun e w' => e = .returned (.bool true) ∧ W.grownBy w' none := by
  have KF' := Lib.hid KF
  have KR' := Lib.hid KR
  have KC' := Lib.hid KC
  have KD' := Lib.hid KD
  have HT := Lib.hid hT
  clear KF KR KC KD hT
  go_enter Tryd.func4, Tryd.ntmps4
  go_wp2_with fail
  refine KF'.out.mono ?_
  rintro e w1 ⟨rfl, g1⟩
  have G1 := Lib.hid g1
  clear g1
  go_wp2_with fail
  have hA : ((w1.alloc (.cells #[.int .i64 (s 0 : Int), .int .i64 (n 0 : Int), .int .i64 (s 1 : Int), .int .i64 (n 1 : Int), .int .i64 (s 2 : Int), .int .i64 (n 2 : Int), .int .i64 (s 3 : Int), .int .i64 (n 3 : Int)] 35)).alloc (.cells #[.int .i64 (M 0), .int .i64 (M 1), .int .i64 (M 2), .int .i64 (M 3)] 3)).heap[w1.heap.size]? = some (.cells #[.int .i64 (s 0 : Int), .int .i64 (n 0 : Int), .int .i64 (s 1 : Int), .int .i64 (n 1 : Int), .int .i64 (s 2 : Int), .int .i64 (n 2 : Int), .int .i64 (s 3 : Int), .int .i64 (n 3 : Int)] 35 (0, 0)) := blk_al blk_at _
  have hB : ((w1.alloc (.cells #[.int .i64 (s 0 : Int), .int .i64 (n 0 : Int), .int .i64 (s 1 : Int), .int .i64 (n 1 : Int), .int .i64 (s 2 : Int), .int .i64 (n 2 : Int), .int .i64 (s 3 : Int), .int .i64 (n 3 : Int)] 35)).alloc (.cells #[.int .i64 (M 0), .int .i64 (M 1), .int .i64 (M 2), .int .i64 (M 3)] 3)).heap[w1.heap.size + 1]? = some (.cells #[.int .i64 (M 0), .int .i64 (M 1), .int .i64 (M 2), .int .i64 (M 3)] 3 (0, 0)) := by
    rw [← size_alloc w1 (.cells #[.int .i64 (s 0 : Int), .int .i64 (n 0 : Int), .int .i64 (s 1 : Int), .int .i64 (n 1 : Int), .int .i64 (s 2 : Int), .int .i64 (n 2 : Int), .int .i64 (s 3 : Int), .int .i64 (n 3 : Int)] 35)]
    exact blk_at
  have hG := gb_trans G1.out (gb_trans (World.grownBy_alloc w1 (.cells #[.int .i64 (s 0 : Int), .int .i64 (n 0 : Int), .int .i64 (s 1 : Int), .int .i64 (n 1 : Int), .int .i64 (s 2 : Int), .int .i64 (n 2 : Int), .int .i64 (s 3 : Int), .int .i64 (n 3 : Int)] 35) none) (World.grownBy_alloc _ (.cells #[.int .i64 (M 0), .int .i64 (M 1), .int .i64 (M 2), .int .i64 (M 3)] 3) none))
  generalize (w1.alloc (.cells #[.int .i64 (s 0 : Int), .int .i64 (n 0 : Int), .int .i64 (s 1 : Int), .int .i64 (n 1 : Int), .int .i64 (s 2 : Int), .int .i64 (n 2 : Int), .int .i64 (s 3 : Int), .int .i64 (n 3 : Int)] 35)).alloc (.cells #[.int .i64 (M 0), .int .i64 (M 1), .int .i64 (M 2), .int .i64 (M 3)] 3) = w2 at hA hB hG ⊢
  have KRh := Lib.hid (KR'.out (w1.heap.size + 1) w2 (fun k hk => by
    obtain rfl | rfl | rfl | rfl : k = 0 ∨ k = 1 ∨ k = 2 ∨ k = 3 := by omega
    · exact blk_cell hB 0
    · exact blk_cell hB 1
    · exact blk_cell hB 2
    · exact blk_cell hB 3))
  have HA := Lib.hid hA
  have HG := Lib.hid hG
  clear hA hB hG
  refine KRh.out.mono ?_
  rintro e w3 ⟨rfl, g3⟩
  have A3 := (g3.block _ (blk_lt HA.out) (by simp)).trans HA.out
  have t0 : w3.cell? ⟨w1.heap.size, 0, none⟩ = some (.int .i64 (s 0 : Int)) := blk_cell A3 0
  have t1 : w3.cell? ⟨w1.heap.size, 1, none⟩ = some (.int .i64 (n 0 : Int)) := blk_cell A3 1
  have t2 : w3.cell? ⟨w1.heap.size, 2, none⟩ = some (.int .i64 (s 1 : Int)) := blk_cell A3 2
  have t3 : w3.cell? ⟨w1.heap.size, 3, none⟩ = some (.int .i64 (n 1 : Int)) := blk_cell A3 3
  have t4 : w3.cell? ⟨w1.heap.size, 4, none⟩ = some (.int .i64 (s 2 : Int)) := blk_cell A3 4
  have t5 : w3.cell? ⟨w1.heap.size, 5, none⟩ = some (.int .i64 (n 2 : Int)) := blk_cell A3 5
  have t6 : w3.cell? ⟨w1.heap.size, 6, none⟩ = some (.int .i64 (s 3 : Int)) := blk_cell A3 6
  have t7 : w3.cell? ⟨w1.heap.size, 7, none⟩ = some (.int .i64 (n 3 : Int)) := blk_cell A3 7
  have G3 := Lib.hid (gb_trans HG.out g3)
  clear g3 A3
  go_wp2_with fail
  refine (KC'.out _).mono ?_
  rintro e w4 ⟨rfl, g4⟩
  have G4 := Lib.hid (gb_trans G3.out g4)
  clear g4
  go_wp2_with fail
  refine (KD'.out _).mono ?_
  rintro e w5 ⟨rfl, g5⟩
  have G5 := Lib.hid (gb_trans G4.out g5)
  have AW := Lib.hid (awake_calls w5 (Nat.lt_of_lt_of_le hlt G5.out.size) (HT.out.grown hlt G5.out))
  clear g5
  go_wp2_with fail
  refine AW.out.mono ?_
  rintro e w6 ⟨rfl, g6⟩
  go_wp2
  go_ret
  exact ⟨rfl, gb_trans G5.out g6⟩

theorem fours_any (M : Nat → Int) (width word : Int) (W : World) (hlt : 0 < W.heap.size) (hT : Tab W) :
    Calls Tryd.prog 4 #[.int .i64 (M 0), .int .i64 (M 1), .int .i64 (M 2), .int .i64 (M 3), .int .i64 width, .int .i64 word] W fun e w' => e = .returned (.bool true) ∧ W.grownBy w' none := by
  obtain ⟨s, hs⟩ := Classical.axiomOfChoice (fun k => classify (M k) width)
  obtain ⟨n, hn⟩ := Classical.axiomOfChoice hs
  clear hs
  have hlt32 : ∀ k, maskW (s k) (n k) < 4294967296 := fun k => okP_lt (hn k).1
  obtain ⟨t, ht, hp, hstop⟩ := first_of (fun k => (M k = (maskW (s k) (n k) : Nat) ∧ FindIs (M k) width (s k) (n k) 0 ∧ RFindIs (M k) width (s k) (n k) 0) ∧ maskW (s k) (n k) &&& ahead (fun k => maskW (s k) (n k)) k = 0) 4
  have hM : ∀ k, k < t → M k = (maskW (s k) (n k) : Nat) := fun k hk => (hp k hk).1.1
  have hx : ∀ k, k < t → maskW (s k) (n k) &&& ahead (fun k => maskW (s k) (n k)) k = 0 := fun k hk => (hp k hk).2
  have hbo : ∀ k, k < t → ∀ j, j < k → bothB (maskW (s k) (n k)) (maskW (s j) (n j)) 32 = false := fun k hk => (common_iff (fun k => maskW (s k) (n k)) k (hlt32 k)).1 (hx k hk)
  have KF : ∀ k, k < t → FindIs (M k) width (s k) (n k) 0 := fun k hk => (hp k hk).1.2.1
  have KR : ∀ k, k < t → RFindIs (M k) width (s k) (n k) 0 := fun k hk => (hp k hk).1.2.2
  rcases hstop with rfl | ⟨ht4, hnot⟩
  · refine fours_good M s n width word _ _ _ _ W hlt hT ?_ ?_ (fun u => color_is s n word u (fun k _ => (hn k).1)) ?_
    · exact four_core M s n (fun k => maskW (s k) (n k)) width 4 _ 0 0 W hlt hT (by omega) hM (fun k _ => hlt32 k) hx KF (.inl ⟨rfl, rfl, rfl, rfl⟩)
    · exact fun b u hc => rfour_core M s n (fun k => maskW (s k) (n k)) width 4 b 0 0 u (by omega) hc hM hbo KR (.inl ⟨rfl, rfl, rfl⟩)
    · intro u
      rw [hM 0 (by decide), hM 1 (by decide), hM 2 (by decide), hM 3 (by decide)]
      exact rcolor_is s n word u (fun k _ => (hn k).1)
  · by_cases hv : M t = (maskW (s t) (n t) : Nat) ∧ FindIs (M t) width (s t) (n t) 0 ∧ RFindIs (M t) width (s t) (n t) 0
    · have hne : maskW (s t) (n t) &&& ahead (fun k => maskW (s k) (n k)) t ≠ 0 := fun h => hnot ⟨hv, h⟩
      obtain ⟨y, hy, hyp, hys⟩ := first_of (fun j => bothB (maskW (s t) (n t)) (maskW (s j) (n j)) 32 = false) t
      have hyt : y < t ∧ bothB (maskW (s t) (n t)) (maskW (s y) (n y)) 32 = true := by
        rcases hys with rfl | ⟨h1, h2⟩
        · exact absurd ((common_iff (fun k => maskW (s k) (n k)) y (hlt32 y)).2 hyp) hne
        · exact ⟨h1, by simpa using h2⟩
      refine fours_bad M width word t 11 W hlt hT rfl ?_ ?_
      · exact four_core M s n (fun k => maskW (s k) (n k)) width t _ t 11 W hlt hT (by omega) hM (fun k _ => hlt32 k) hx KF (.inr (.inr ⟨ht4, rfl, rfl, rfl, hv.1, hlt32 t, hne, hv.2.1⟩))
      · exact fun b u hc => rfour_core M s n (fun k => maskW (s k) (n k)) width t b t 11 u (by omega) hc hM hbo KR (.inr (.inr ⟨ht4, rfl, rfl, hv.2.2, hv.1, y, hyt.1, hyt.2, hyp⟩))
    · rcases (hn t).2 with ⟨c, hc, h1, h2⟩ | h
      · refine fours_bad M width word t c W hlt hT hc ?_ ?_
        · exact four_core M s n (fun k => maskW (s k) (n k)) width t _ t c W hlt hT (by omega) hM (fun k _ => hlt32 k) hx KF (.inr (.inl ⟨ht4, rfl, rfl, hc, h1⟩))
        · exact fun b u hcc => rfour_core M s n (fun k => maskW (s k) (n k)) width t b t c u (by omega) hcc hM hbo KR (.inr (.inl ⟨ht4, rfl, hc, h2⟩))
      · exact absurd h hv

theorem fours_walk (r g b a width word : Int) (W : World) (hlt : 0 < W.heap.size) (hT : Tab W) :
    Calls Tryd.prog 4 #[.int .i64 r, .int .i64 g, .int .i64 b, .int .i64 a, .int .i64 width, .int .i64 word] W fun e w' => e = .returned (.bool true) ∧ W.grownBy w' none :=
  fours_any (fun k => if k = 0 then r else if k = 1 then g else if k = 2 then b else a) width word W hlt hT

end Go.Proofs.YtljbhahdaepecaaDoor.Ma
