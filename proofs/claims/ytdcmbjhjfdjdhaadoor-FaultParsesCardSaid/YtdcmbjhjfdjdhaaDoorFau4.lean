/- Package fault: any fault may be, or may not. -/
import Derived.Test.YtdcmbjhjfdjdhaaDoorFau3
import Derived.Lib.Strings
namespace Go.Proofs.YtdcmbjhjfdjdhaaDoor.Fa
open Go.ChangeShapes Go.WideShapes Go.ChangeAt Go.RowKit
open Go.Proofs.YtdcmbjhjfdjdhaaDoor.Le
set_option linter.unusedVariables false

theorem kw_not {n : Int} (h : 0 ≤ n ∧ n ≤ 4) : (kw n).data.toList ≠ [] := by
  have hn : n = 0 ∨ n = 1 ∨ n = 2 ∨ n = 3 ∨ n = 4 := by omega
  rcases hn with rfl | rfl | rfl | rfl | rfl <;> decide
theorem fw_not {n : Int} (h : 0 ≤ n ∧ n ≤ 8) : (fw n).data.toList ≠ [] := by
  have hn : n = 0 ∨ n = 1 ∨ n = 2 ∨ n = 3 ∨ n = 4 ∨ n = 5 ∨ n = 6 ∨ n = 7 ∨ n = 8 := by omega
  rcases hn with rfl | rfl | rfl | rfl | rfl | rfl | rfl | rfl | rfl <;> decide

set_option maxRecDepth 100000 in
theorem right_zero (m a : Int) (w : World) : Calls Tryd.prog 7 #[.agg #[.int .i64 0, .int .i64 m, .int .i64 a]] w
    fun e w' => e = .returned (.bool (rightB 0 m a)) ∧ w.grownBy w' none := by
  rw [show rightB 0 m a = (decide (m = 0) && decide (a = 0)) from by simp [rightB]]
  by_cases hm : m = 0
  · subst hm
    by_cases ha : a = 0
    · subst ha
      go_enter Tryd.func7, Tryd.ntmps7
      go_wp2
      go_ret
      exact ⟨rfl, World.grownBy_alloc _ _ _⟩
    · have e1 : (a == 0) = false := by simpa using ha
      rw [show decide (a = 0) = false from by simpa using ha]
      clear ha
      go_enter Tryd.func7, Tryd.ntmps7
      go_wp2
      go_ret
      exact ⟨rfl, World.grownBy_alloc _ _ _⟩
  · have e1 : (m == 0) = false := by simpa using hm
    rw [show decide (m = 0) = false from by simpa using hm]
    clear hm
    go_enter Tryd.func7, Tryd.ntmps7
    go_wp2
    go_ret
    exact ⟨rfl, World.grownBy_alloc _ _ _⟩

set_option maxRecDepth 100000 in
theorem right_some (k m a : Int) (hk : k ≠ 0) (w : World) : Calls Tryd.prog 7 #[.agg #[.int .i64 k, .int .i64 m, .int .i64 a]] w
    fun e w' => e = .returned (.bool (rightB k m a)) ∧ w.grownBy w' none := by
  have e1 : (k == 0) = false := by simpa using hk
  rw [show rightB k m a = (decide (1 ≤ k) && decide (k ≤ 4) && decide (0 ≤ m) && decide (m ≤ 8) && decide (0 ≤ a) && decide (a ≤ 4611686018427387904)) from by simp [rightB, hk]]
  have K1 := Lib.hid (fun w => kind_calls k w)
  have K2 := Lib.hid (fun w => format_calls m w)
  by_cases h1 : 1 ≤ k ∧ k ≤ 4
  · have z1 := kw_not (n := k) (by omega)
    obtain ⟨z, hz⟩ : ∃ z, kw k = z := ⟨_, rfl⟩
    rw [hz] at z1 K1
    have hz1 : z.toList.isEmpty = false := by rw [Lib.toList_data]; simpa using z1
    rw [show decide (1 ≤ k) = true from by simpa using h1.1, show decide (k ≤ 4) = true from by simpa using h1.2]
    clear hz z1 hk h1
    by_cases h2 : 0 ≤ m ∧ m ≤ 8
    · have y1 := fw_not (n := m) (by omega)
      obtain ⟨y, hy⟩ : ∃ y, fw m = y := ⟨_, rfl⟩
      rw [hy] at y1 K2
      have hy1 : y.toList.isEmpty = false := by rw [Lib.toList_data]; simpa using y1
      rw [show decide (0 ≤ m) = true from by simpa using h2.1, show decide (m ≤ 8) = true from by simpa using h2.2]
      clear hy y1 h2
      by_cases h3 : 0 ≤ a
      · rw [show decide (0 ≤ a) = true from by simpa using h3]
        go_enter Tryd.func7, Tryd.ntmps7
        go_wp2_with fail
        refine (K1.out _).mono ?_
        rintro e w1 ⟨rfl, g1⟩
        have b0 := old1 g1 (by simp)
        have c1 := blk_cell b0 1
        simp only [List.getElem?_toArray, List.getElem?_cons_succ, List.getElem?_cons_zero] at c1
        have B0 := Lib.hid b0
        have G1 := Lib.hid (gb_trans (World.grownBy_alloc _ _ _) g1)
        clear b0 g1
        go_wp2_with fail
        refine (K2.out _).mono ?_
        rintro e w2 ⟨rfl, g2⟩
        have b0 := old0 g2 B0.out (blk_lt B0.out) (by simp)
        have c2 := blk_cell b0 2
        simp only [List.getElem?_toArray, List.getElem?_cons_succ, List.getElem?_cons_zero] at c2
        have G2 := Lib.hid (gb_trans G1.out g2)
        clear b0 g2 c1
        go_wp2
        go_ret
        exact ⟨rfl, G2.out⟩
      · have h3' : a < 0 := by omega
        rw [show decide (0 ≤ a) = false from by simpa using h3]
        clear h3
        go_enter Tryd.func7, Tryd.ntmps7
        go_wp2_with fail
        refine (K1.out _).mono ?_
        rintro e w1 ⟨rfl, g1⟩
        have b0 := old1 g1 (by simp)
        have c1 := blk_cell b0 1
        simp only [List.getElem?_toArray, List.getElem?_cons_succ, List.getElem?_cons_zero] at c1
        have B0 := Lib.hid b0
        have G1 := Lib.hid (gb_trans (World.grownBy_alloc _ _ _) g1)
        clear b0 g1
        go_wp2_with fail
        refine (K2.out _).mono ?_
        rintro e w2 ⟨rfl, g2⟩
        have b0 := old0 g2 B0.out (blk_lt B0.out) (by simp)
        have c2 := blk_cell b0 2
        simp only [List.getElem?_toArray, List.getElem?_cons_succ, List.getElem?_cons_zero] at c2
        have G2 := Lib.hid (gb_trans G1.out g2)
        clear b0 g2 c1
        go_wp2
        go_ret
        exact ⟨rfl, G2.out⟩
    · rw [fw_out (by omega)] at K2
      rw [show (true && true && decide (0 ≤ m) && decide (m ≤ 8) && decide (0 ≤ a) && decide (a ≤ 4611686018427387904)) = false from by
        rcases (show m < 0 ∨ 8 < m by omega) with h | h
        · rw [show decide (0 ≤ m) = false from by simp; omega]; rfl
        · rw [show decide (m ≤ 8) = false from by simp; omega]; simp]
      clear h2
      go_enter Tryd.func7, Tryd.ntmps7
      go_wp2_with fail
      refine (K1.out _).mono ?_
      rintro e w1 ⟨rfl, g1⟩
      have b0 := old1 g1 (by simp)
      have c1 := blk_cell b0 1
      simp only [List.getElem?_toArray, List.getElem?_cons_succ, List.getElem?_cons_zero] at c1
      have B0 := Lib.hid b0
      have G1 := Lib.hid (gb_trans (World.grownBy_alloc _ _ _) g1)
      clear b0 g1
      go_wp2_with fail
      refine (K2.out _).mono ?_
      rintro e w2 ⟨rfl, g2⟩
      have G2 := Lib.hid (gb_trans G1.out g2)
      clear g2 c1
      go_wp2
      go_ret
      exact ⟨rfl, G2.out⟩
  · rw [kw_out (by omega)] at K1
    rw [show (decide (1 ≤ k) && decide (k ≤ 4) && decide (0 ≤ m) && decide (m ≤ 8) && decide (0 ≤ a) && decide (a ≤ 4611686018427387904)) = false from by
      rcases (show k < 1 ∨ 4 < k by omega) with h | h
      · rw [show decide (1 ≤ k) = false from by simp; omega]; rfl
      · rw [show decide (k ≤ 4) = false from by simp; omega]; simp]
    clear hk h1
    go_enter Tryd.func7, Tryd.ntmps7
    go_wp2_with fail
    refine (K1.out _).mono ?_
    rintro e w1 ⟨rfl, g1⟩
    have G1 := Lib.hid (gb_trans (World.grownBy_alloc _ _ _) g1)
    clear g1
    go_wp2
    go_ret
    exact ⟨rfl, G1.out⟩

theorem right_calls (k m a : Int) (w : World) : Calls Tryd.prog 7 #[.agg #[.int .i64 k, .int .i64 m, .int .i64 a]] w
    fun e w' => e = .returned (.bool (rightB k m a)) ∧ w.grownBy w' none := by
  by_cases hk : k = 0
  · subst hk; exact right_zero m a w
  · exact right_some k m a hk w

end Go.Proofs.YtdcmbjhjfdjdhaaDoor.Fa
