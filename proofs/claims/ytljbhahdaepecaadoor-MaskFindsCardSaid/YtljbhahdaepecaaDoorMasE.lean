/- Layer 9: MaskFinds, walked. -/
import Derived.Test.YtljbhahdaepecaaDoorMasD
import Derived.Test.YtljbhahdaepecaaDoorMas3
namespace Go.Proofs.YtljbhahdaepecaaDoor.Ma
open Go.ChangeShapes Go.WideShapes Go.ChangeAt Go.RowKit
open Go.Proofs.YtljbhahdaepecaaDoor.Le Go.Proofs.YtljbhahdaepecaaDoor.Sc
set_option linter.unusedVariables false

set_option maxRecDepth 100000 in
theorem finds_none (w width word c : Int) (W : World) (hlt : 0 < W.heap.size) (hT : Tab W)
    (KF : Calls Tryd.prog 8 #[.int .i64 w, .int .i64 width] W fun e w' => e = .returned (.tuple #[.agg #[.int .i64 0, .int .i64 0], .int .i64 c]) ∧ W.grownBy w' none)
    (KR : ∀ u, Calls Tryd.prog 9 #[.int .i64 w, .int .i64 width] u fun e w' => e = .returned (.tuple #[.int .i64 0, .int .i64 0, .int .i64 c]) ∧ u = w')
    (hc0 : 0 ≤ c) (hc1 : c ≤ 100)
    (hc : (c != 0) = true ∨ ((c != 0) = false ∧ (w == 0) = true)) :
    Calls Tryd.prog 3 #[.int .i64 w, .int .i64 width, .int .i64 word] W fun e w' => e = .returned (.bool true) ∧ W.grownBy w' none := by
  have KO := fun u => of_no 0 0 word u (by decide) (by decide) has_0
  have KW := fun u => word_no 0 0 u (by decide) (by decide) has_0
  have KF' := Lib.hid KF
  have KR' := Lib.hid KR
  have KO' := Lib.hid KO
  have KW' := Lib.hid KW
  have HT := Lib.hid hT
  clear KF KR KO KW hT
  rcases hc with h1 | ⟨h1, h2⟩
  all_goals
    go_enter Tryd.func3, Tryd.ntmps3
    go_wp2_with fail
    refine KF'.out.mono ?_
    rintro e w1 ⟨rfl, g1⟩
    have G1 := Lib.hid g1
    clear g1
    go_wp2_with fail
    refine (KR'.out _).mono ?_
    rintro e w' ⟨rfl, rfl⟩
    go_wp2_with fail
    refine (KO'.out _).mono ?_
    rintro e w2 ⟨rfl, g2⟩
    have A2 : w2.heap[w1.heap.size]? = some (.cells #[.int .i64 0, .int .i64 0] 23 (0, 0)) := old1 g2 (by simp)
    have m0 : w2.cell? ⟨w1.heap.size, 0, none⟩ = some (.int .i64 0) := blk_cell A2 0
    have m1 : w2.cell? ⟨w1.heap.size, 1, none⟩ = some (.int .i64 0) := blk_cell A2 1
    have hl2 : w1.heap.size < w2.heap.size := blk_lt A2
    have G2 := Lib.hid (gb_trans (gb_trans G1.out (World.grownBy_alloc _ _ _)) g2)
    clear g2 A2
    go_wp2_with fail
    refine (KW'.out _).mono ?_
    rintro e w3 ⟨rfl, g3⟩
    have G3 := Lib.hid (gb_trans G2.out g3)
    have AW := Lib.hid (awake_calls w3 (Nat.lt_of_lt_of_le hlt G3.out.size) (HT.out.grown hlt G3.out))
    clear g3
    go_wp2_with fail
    refine AW.out.mono ?_
    rintro e w4 ⟨rfl, g4⟩
    go_wp2
    go_ret
    exact ⟨rfl, gb_trans G3.out g4⟩

set_option maxRecDepth 100000 in
theorem finds_yes (s n : Nat) (width word : Int) (W : World) (hlt : 0 < W.heap.size) (hT : Tab W) (hn : 1 ≤ n) (hsn : s + n ≤ 32)
    (KF : Calls Tryd.prog 8 #[.int .i64 (blk s n : Nat), .int .i64 width] W fun e w' => e = .returned (.tuple #[.agg #[.int .i64 s, .int .i64 n], .int .i64 0]) ∧ W.grownBy w' none)
    (KR : ∀ u, Calls Tryd.prog 9 #[.int .i64 (blk s n : Nat), .int .i64 width] u fun e w' => e = .returned (.tuple #[.int .i64 s, .int .i64 n, .int .i64 0]) ∧ u = w') :
    Calls Tryd.prog 3 #[.int .i64 (blk s n : Nat), .int .i64 width, .int .i64 word] W fun e w' => e = .returned (.bool true) ∧ W.grownBy w' none := by
  have KO := fun u => of_yes s n word u hn hsn
  have KW := fun u => word_yes s n u hn hsn
  have KP := fun u => rof_calls word (blk s n) u
  rw [chan_blk, show min (32 - s) n = n from by omega] at KP
  rw [ofV_low word s n hsn] at KO
  have hz := blk_pos s n hn
  have hm := blk_lt32 hsn
  obtain ⟨v, hv⟩ : ∃ v : Nat, low32 word / 2 ^ s % 2 ^ n = v := ⟨_, rfl⟩
  simp only [hv] at KO KP
  obtain ⟨m, hM⟩ : ∃ m, blk s n = m := ⟨_, rfl⟩
  rw [hM] at KF hz hm ⊢
  simp only [hM] at KR KW KP
  have KF' := Lib.hid KF
  have KR' := Lib.hid KR
  have KO' := Lib.hid KO
  have KW' := Lib.hid KW
  have KP' := Lib.hid KP
  have HT := Lib.hid hT
  have hmz : ((m : Int) == 0) = false := by rw [beq_eq_false_iff_ne]; omega
  have hnz : ((n : Int) == 0) = false := by rw [beq_eq_false_iff_ne]; omega
  have hnp : decide ((n : Int) > 0) = true := decide_eq_true (by omega)
  have hnp2 : (0 : Int) < n := by omega
  clear KF KR KO KW KP hT hv hM
  go_enter Tryd.func3, Tryd.ntmps3
  go_wp2_with fail
  refine KF'.out.mono ?_
  rintro e w1 ⟨rfl, g1⟩
  have G1 := Lib.hid g1
  clear g1
  go_wp2_with fail
  refine (KR'.out _).mono ?_
  rintro e w' ⟨rfl, rfl⟩
  go_wp2_with fail
  refine (KO'.out _).mono ?_
  rintro e w2 ⟨rfl, g2⟩
  have A2 : w2.heap[w1.heap.size]? = some (.cells #[.int .i64 s, .int .i64 n] 23 (0, 0)) := old1 g2 (by simp)
  have m0 : w2.cell? ⟨w1.heap.size, 0, none⟩ = some (.int .i64 s) := blk_cell A2 0
  have m1 : w2.cell? ⟨w1.heap.size, 1, none⟩ = some (.int .i64 n) := blk_cell A2 1
  have hl2 : w1.heap.size < w2.heap.size := blk_lt A2
  have G2 := Lib.hid (gb_trans (gb_trans G1.out (World.grownBy_alloc _ _ _)) g2)
  clear g2 A2
  go_wp2_with fail
  refine (KP'.out _).mono ?_
  rintro e w' ⟨rfl, rfl⟩
  go_wp2_with fail
  refine (KW'.out _).mono ?_
  rintro e w3 ⟨rfl, g3⟩
  have G3 := Lib.hid (gb_trans G2.out g3)
  have AW := Lib.hid (awake_calls w3 (Nat.lt_of_lt_of_le hlt G3.out.size) (HT.out.grown hlt G3.out))
  clear g3
  go_wp2_with fail
  refine AW.out.mono ?_
  rintro e w4 ⟨rfl, g4⟩
  go_wp2
  go_ret
  exact ⟨rfl, gb_trans G3.out g4⟩

theorem finds_walk (w width word : Int) (W : World) (hlt : 0 < W.heap.size) (hT : Tab W) :
    Calls Tryd.prog 3 #[.int .i64 w, .int .i64 width, .int .i64 word] W fun e w' => e = .returned (.bool true) ∧ W.grownBy w' none := by
  by_cases hw : width = 16 ∨ width = 32
  · obtain ⟨N, hN, hw'⟩ : ∃ N : Nat, width = N ∧ (N = 16 ∨ N = 32) := by
      rcases hw with rfl | rfl
      · exact ⟨16, rfl, .inl rfl⟩
      · exact ⟨32, rfl, .inr rfl⟩
    subst hN
    by_cases hr : w < 0 ∨ pw N ≤ w
    · exact finds_none w N word 2 W hlt hT (find_range w N W hw' hr) (fun u => rfind_range w N u hw' hr) (by decide) (by decide) (.inl rfl)
    · obtain ⟨m, rfl⟩ : ∃ m : Nat, w = m := ⟨w.toNat, by omega⟩
      have hm : (m : Int) < pw N := by omega
      have KF := find_calls m N W hw' hm hlt hT
      have KR := fun u => rfind_calls m N u hw' hm
      by_cases hrun : 1 < runs m N
      · have e : findV m N = (0, 0, 6) := by unfold findV; rw [if_pos hrun]
        rw [e] at KF
        simp only [e] at KR
        exact finds_none m N word 6 W hlt hT KF KR (by decide) (by decide) (.inl rfl)
      · have e : findV m N = ((frm m N : Int), (cnt m N : Int), 0) := by unfold findV; rw [if_neg hrun]
        have hm2 : m < 2 ^ N := by
          have : (m : Int) < ((2 ^ N : Nat) : Int) := hm
          omega
        rw [e] at KF
        simp only [e] at KR
        rcases one_run hm2 (by omega) with ⟨a, b, c⟩ | ⟨a, b, c⟩
        · rw [b, c] at KF
          rw [b, c] at KR
          subst a
          exact finds_none 0 N word 0 W hlt hT KF KR (by decide) (by decide) (.inr ⟨rfl, rfl⟩)
        · obtain ⟨s, hs⟩ : ∃ s, frm m N = s := ⟨_, rfl⟩
          obtain ⟨n, hn⟩ : ∃ n, cnt m N = n := ⟨_, rfl⟩
          rw [hs, hn] at b c KF
          rw [hn] at a
          rw [hs, hn] at KR
          subst c
          exact finds_yes s n N word W hlt hT a (by omega) KF KR
  · exact finds_none w width word 1 W hlt hT (find_arg w width W (by omega) (by omega)) (fun u => rfind_arg w width u (by omega) (by omega)) (by decide) (by decide) (.inl rfl)

end Go.Proofs.YtljbhahdaepecaaDoor.Ma
