/- Layer 9: the code's Find, walked. -/
import Derived.Test.YtgggdieedblpjaaDoorMas9
namespace Go.Proofs.YtgggdieedblpjaaDoor.Ma
open Go.ChangeShapes Go.WideShapes Go.ChangeAt Go.RowKit
open Go.Proofs.YtgggdieedblpjaaDoor.Le Go.Proofs.YtgggdieedblpjaaDoor.Sc
set_option linter.unusedVariables false

set_option maxRecDepth 100000 in
theorem find_arg (w width : Int) (W : World) (h1 : width ≠ 16) (h2 : width ≠ 32) : Calls Tryd.prog 64 #[.int .i64 w, .int .i64 width] W
    fun e w' => e = .returned (.tuple #[.agg #[.int .i64 0, .int .i64 0], .int .i64 1]) ∧ W.grownBy w' none := by
  have e1 : (width != 16) = true := by simpa using h1
  have e2 : (width != 32) = true := by simpa using h2
  go_enter Tryd.func64, Tryd.ntmps64
  go_wp2
  refine bodyPost_ret (v := .tuple #[.agg #[.int .i64 0, .int .i64 0], .int .i64 1]) (by rw [results_cell_tmp (fn := Tryd.f64) rfl]; go_simp) rfl ⟨rfl, ?_⟩
  exact World.grownBy_alloc _ _ _

set_option maxRecDepth 100000 in
theorem find_range (w : Int) (n : Nat) (W : World) (hn : n = 16 ∨ n = 32) (h : w < 0 ∨ pw n ≤ w) : Calls Tryd.prog 64 #[.int .i64 w, .int .i64 n] W
    fun e w' => e = .returned (.tuple #[.agg #[.int .i64 0, .int .i64 0], .int .i64 2]) ∧ W.grownBy w' none := by
  have P := fun u => ones_calls n u (by omega)
  obtain ⟨b0, b1⟩ := pw_le (show n ≤ 32 by omega)
  have P' := Lib.hid P
  have hn1 : ((n : Int) != 16) = false ∨ ((n : Int) != 16) = true ∧ ((n : Int) != 32) = false := by
    rcases hn with rfl | rfl
    · exact .inl rfl
    · exact .inr ⟨rfl, rfl⟩
  clear P hn
  by_cases h0 : w < 0
  · clear h
    rcases hn1 with e1 | ⟨e1, e2⟩
    all_goals
      go_enter Tryd.func64, Tryd.ntmps64
      go_wp2
      refine bodyPost_ret (v := .tuple #[.agg #[.int .i64 0, .int .i64 0], .int .i64 2]) (by rw [results_cell_tmp (fn := Tryd.f64) rfl]; go_simp) rfl ⟨rfl, ?_⟩
      exact World.grownBy_alloc _ _ _
  · have h1 : pw n - 1 < w := by omega
    clear h
    rcases hn1 with e1 | ⟨e1, e2⟩
    all_goals
      go_enter Tryd.func64, Tryd.ntmps64
      go_wp2_with fail
      refine (P'.out _).mono ?_
      rintro e w' ⟨rfl, rfl⟩
      go_wp2
      refine bodyPost_ret (v := .tuple #[.agg #[.int .i64 0, .int .i64 0], .int .i64 2]) (by rw [results_cell_tmp (fn := Tryd.f64) rfl]; go_simp) rfl ⟨rfl, ?_⟩
      exact World.grownBy_alloc _ _ _

set_option maxRecDepth 100000 in
/-- What comes behind the counting, whatever was counted. -/
theorem find_core (w n s m : Nat) (a b c : Int) (W : World) (hn : n = 16 ∨ n = 32) (h : (w : Int) < pw n) (hs : s ≤ 32) (hlt : 0 < W.heap.size) (hT : Tab W)
    (hC : ∀ u, Tab u → 0 < u.heap.size → Calls Tryd.prog 70 #[.int .u32 w] u fun e w' => e = .returned (.agg #[.int .i64 s, .int .i64 m]) ∧ u.grownBy w' none)
    (hv : (a, b, c) = if wordV s m = w then ((s : Int), (m : Int), 0) else (0, 0, 6)) :
    Calls Tryd.prog 64 #[.int .i64 w, .int .i64 n] W
    fun e w' => e = .returned (.tuple #[.agg #[.int .i64 a, .int .i64 b], .int .i64 c]) ∧ W.grownBy w' none := by
  have P := fun u => ones_calls n u (by omega)
  have V := fun u => word_calls s m u hs
  obtain ⟨b0, b1⟩ := pw_le (show n ≤ 32 by omega)
  obtain ⟨p, hp⟩ : ∃ p, pw n - 1 = p := ⟨_, rfl⟩
  have hwp : (w : Int) ≤ p := by omega
  have hw32 : (w : Int) ≤ 4294967295 := by omega
  simp only [hp] at P
  have P' := Lib.hid P
  have hn1 : ((n : Int) != 16) = false ∨ ((n : Int) != 16) = true ∧ ((n : Int) != 32) = false := by
    rcases hn with rfl | rfl
    · exact .inl rfl
    · exact .inr ⟨rfl, rfl⟩
  have C' := Lib.hid hC
  have HT := Lib.hid hT
  clear P hn hp hC hT h b0 b1
  by_cases hc : wordV s m = w
  · rw [if_pos hc] at hv
    obtain ⟨rfl, rfl, rfl⟩ : a = s ∧ b = m ∧ c = 0 := by simpa using hv
    rw [hc] at V
    have V' := Lib.hid V
    clear V hc hv
    rcases hn1 with e1 | ⟨e1, e2⟩
    all_goals
      go_enter Tryd.func64, Tryd.ntmps64
      go_wp2_with fail
      refine (P'.out _).mono ?_
      rintro e w' ⟨rfl, rfl⟩
      have hR : (W.alloc (.cells #[.int .i64 0, .int .i64 0] 27)).heap[W.heap.size]? = some (.cells #[.int .i64 0, .int .i64 0] 27 (0, 0)) := blk_at
      have hG := World.grownBy_alloc W (.cells #[.int .i64 0, .int .i64 0] 27) none
      have hz := size_alloc W (.cells #[.int .i64 0, .int .i64 0] 27)
      generalize W.alloc (.cells #[.int .i64 0, .int .i64 0] 27) = w1 at hR hG hz ⊢
      have HR := Lib.hid hR
      have HG := Lib.hid hG
      have HZ := Lib.hid hz
      have HT1 := Lib.hid (HT.out.grown hlt hG)
      have hl1 : 0 < w1.heap.size := by omega
      clear hR hG hz
      go_wp2_with fail
      refine (C'.out _ HT1.out hl1).mono ?_
      rintro e w2 ⟨rfl, g2⟩
      have R2 := Lib.hid ((g2.block _ (blk_lt HR.out) (by simp)).trans HR.out)
      have G2 := Lib.hid (gb_trans HG.out g2)
      have hz2 : W.heap.size + 1 ≤ w2.heap.size := by have := g2.size; have := HZ.out; omega
      clear g2
      go_wp2_with fail
      refine (V'.out _).mono ?_
      rintro e w3 ⟨rfl, g3⟩
      have A3 : w3.heap[w2.heap.size]? = some (.cells #[.int .i64 s, .int .i64 m] 27 (0, 0)) := old1 g3 (by simp)
      have R3 := old0 (gb_trans (World.grownBy_alloc w2 _ none) g3) R2.out (blk_lt R2.out) (by simp)
      have q0 : w3.cell? ⟨W.heap.size, 0, none⟩ = some (.int .i64 0) := blk_cell R3 0
      have q1 : w3.cell? ⟨W.heap.size, 1, none⟩ = some (.int .i64 0) := blk_cell R3 1
      have f0 := blk_free R3 0
      have f1 := blk_free R3 1
      have d0 : w3.cell? ⟨w2.heap.size, 0, none⟩ = some (.int .i64 s) := blk_cell A3 0
      have d1 : w3.cell? ⟨w2.heap.size, 1, none⟩ = some (.int .i64 m) := blk_cell A3 1
      have G3 := Lib.hid (gb_trans (gb_trans G2.out (World.grownBy_alloc _ _ _)) g3)
      clear g3 A3 R3
      go_wp2
      refine bodyPost_ret (v := .tuple #[.agg #[.int .i64 s, .int .i64 m], .int .i64 0]) (by rw [results_cell_tmp (fn := Tryd.f64) rfl]; go_simp) rfl ⟨rfl, ?_⟩
      exact gb_own (gb_own G3.out (Nat.le_refl _) (gb_set _ _ _ _)) (Nat.le_refl _) (gb_set _ _ _ _)
  · rw [if_neg hc] at hv
    obtain ⟨rfl, rfl, rfl⟩ : a = 0 ∧ b = 0 ∧ c = 6 := by simpa using hv
    obtain ⟨x, hx⟩ : ∃ x, wordV s m = x := ⟨_, rfl⟩
    simp only [hx] at V hc
    have hxx : ((x : Int) != (w : Int)) = true := by simp; omega
    have V' := Lib.hid V
    clear V hc hv hx
    rcases hn1 with e1 | ⟨e1, e2⟩
    all_goals
      go_enter Tryd.func64, Tryd.ntmps64
      go_wp2_with fail
      refine (P'.out _).mono ?_
      rintro e w' ⟨rfl, rfl⟩
      have hR : (W.alloc (.cells #[.int .i64 0, .int .i64 0] 27)).heap[W.heap.size]? = some (.cells #[.int .i64 0, .int .i64 0] 27 (0, 0)) := blk_at
      have hG := World.grownBy_alloc W (.cells #[.int .i64 0, .int .i64 0] 27) none
      have hz := size_alloc W (.cells #[.int .i64 0, .int .i64 0] 27)
      generalize W.alloc (.cells #[.int .i64 0, .int .i64 0] 27) = w1 at hR hG hz ⊢
      have HR := Lib.hid hR
      have HG := Lib.hid hG
      have HZ := Lib.hid hz
      have HT1 := Lib.hid (HT.out.grown hlt hG)
      have hl1 : 0 < w1.heap.size := by omega
      clear hR hG hz
      go_wp2_with fail
      refine (C'.out _ HT1.out hl1).mono ?_
      rintro e w2 ⟨rfl, g2⟩
      have R2 := Lib.hid ((g2.block _ (blk_lt HR.out) (by simp)).trans HR.out)
      have G2 := Lib.hid (gb_trans HG.out g2)
      have hz2 : W.heap.size + 1 ≤ w2.heap.size := by have := g2.size; have := HZ.out; omega
      clear g2
      go_wp2_with fail
      refine (V'.out _).mono ?_
      rintro e w3 ⟨rfl, g3⟩
      have R3 := old0 (gb_trans (World.grownBy_alloc w2 _ none) g3) R2.out (blk_lt R2.out) (by simp)
      have q0 : w3.cell? ⟨W.heap.size, 0, none⟩ = some (.int .i64 0) := blk_cell R3 0
      have q1 : w3.cell? ⟨W.heap.size, 1, none⟩ = some (.int .i64 0) := blk_cell R3 1
      have f0 := blk_free R3 0
      have f1 := blk_free R3 1
      have G3 := Lib.hid (gb_trans (gb_trans G2.out (World.grownBy_alloc _ _ _)) g3)
      clear g3 R3
      go_wp2
      refine bodyPost_ret (v := .tuple #[.agg #[.int .i64 0, .int .i64 0], .int .i64 6]) (by rw [results_cell_tmp (fn := Tryd.f64) rfl]; go_simp) rfl ⟨rfl, ?_⟩
      exact gb_own (gb_own G3.out (Nat.le_refl _) (gb_set _ _ _ _)) (Nat.le_refl _) (gb_set _ _ _ _)

/-- Find, of a number that may be a mask. -/
theorem find_calls (w n : Nat) (W : World) (hn : n = 16 ∨ n = 32) (h : (w : Int) < pw n) (hlt : 0 < W.heap.size) (hT : Tab W) :
    Calls Tryd.prog 64 #[.int .i64 w, .int .i64 n] W
    fun e w' => e = .returned (.tuple #[.agg #[.int .i64 (findV w n).1, .int .i64 (findV w n).2.1], .int .i64 (findV w n).2.2]) ∧ W.grownBy w' none := by
  have hn2 : w < 2 ^ n := by
    have : (w : Int) < ((2 ^ n : Nat) : Int) := h
    omega
  by_cases h0 : w = 0
  · subst h0
    refine find_core 0 n 0 0 _ _ _ W hn h (by omega) hlt hT (fun u _ _ => count_zero u) ?_
    have e : findV 0 n = (0, 0, 0) := by
      have hr : runs 0 n ≤ 1 ∧ frm 0 n = 0 ∧ cnt 0 n = 0 := by rcases hn with rfl | rfl <;> decide
      unfold findV
      rw [if_neg (by omega), hr.2.1, hr.2.2]
      rfl
    rw [e]
    rfl
  · have hx : w < 4294967296 := by
      obtain ⟨b0, b1⟩ := pw_le (show n ≤ 32 by omega)
      omega
    refine find_core w n (Lib.ctz 32 w) (popN w) _ _ _ W hn h (Nat.le_of_lt (tz_lt w hx h0)) hlt hT (fun u t l => count_calls' w u hx h0 t l) ?_
    unfold findV
    by_cases hr : 1 < runs w n
    · rw [if_pos hr, if_neg (word_gap h0 hr)]
    · obtain ⟨a, b, c⟩ := word_run (show n ≤ 32 by omega) h0 hn2 (by omega)
      rw [if_neg hr, if_pos a, b, c]

end Go.Proofs.YtgggdieedblpjaaDoor.Ma
