/- Layer 12: the document's bad and Row, walked. -/
import Derived.Test.YtckkkdiekamiaaaTok5
namespace Go.Proofs.Ytckkkdiekamiaaa.Tk
open Go.ChangeShapes Go.WideShapes Go.ChangeAt Go.RowKit
open Go.Proofs.Ytckkkdiekamiaaa.Le
set_option linter.unusedVariables false

set_option maxRecDepth 100000 in
theorem rbad_calls (x y : Int) (W : World) : Calls Try.prog 45 #[.int .i64 x, .int .i64 y] W
    fun e w' => e = .returned (.agg #[.int .i64 0, .int .i64 0, .int .i64 0, .int .i64 0, .int .i64 0, .int .i64 x, .int .i64 y]) ∧ W.grownBy w' none := by
  go_enter Try.func45, Try.ntmps45
  go_wp2
  have hB := blk_at (w := W) (o := .cells #[.int .i64 0, .int .i64 0, .int .i64 0, .int .i64 0, .int .i64 0, .int .i64 x, .int .i64 y] 54)
  have hG := World.grownBy_alloc W (.cells #[.int .i64 0, .int .i64 0, .int .i64 0, .int .i64 0, .int .i64 0, .int .i64 x, .int .i64 y] 54) none
  generalize W.alloc (.cells #[.int .i64 0, .int .i64 0, .int .i64 0, .int .i64 0, .int .i64 0, .int .i64 x, .int .i64 y] 54) = w1 at hB hG ⊢
  have q0 : w1.cell? ⟨W.heap.size, 0, none⟩ = some (.int .i64 0) := blk_cell hB 0
  have q1 : w1.cell? ⟨W.heap.size, 1, none⟩ = some (.int .i64 0) := blk_cell hB 1
  have q2 : w1.cell? ⟨W.heap.size, 2, none⟩ = some (.int .i64 0) := blk_cell hB 2
  have q3 : w1.cell? ⟨W.heap.size, 3, none⟩ = some (.int .i64 0) := blk_cell hB 3
  have q4 : w1.cell? ⟨W.heap.size, 4, none⟩ = some (.int .i64 0) := blk_cell hB 4
  have q5 : w1.cell? ⟨W.heap.size, 5, none⟩ = some (.int .i64 x) := blk_cell hB 5
  have q6 : w1.cell? ⟨W.heap.size, 6, none⟩ = some (.int .i64 y) := blk_cell hB 6
  refine bodyPost_ret (v := .agg #[.int .i64 0, .int .i64 0, .int .i64 0, .int .i64 0, .int .i64 0, .int .i64 x, .int .i64 y]) (by simp only [results, Try.results45]; go_simp) rfl ⟨rfl, hG⟩

/-- How many bytes a row has, of the kinds 4 to 6. -/
def rowV (k w m : Nat) : Nat := if k = 4 then (w + 7) / 8 else (if k = 6 then 3 * w else w) * (if 255 < m then 2 else 1)

set_option maxRecDepth 100000 in
theorem rrow_calls (k w m : Nat) (h a b c : Int) (W : World) (hk : 4 ≤ k ∧ k ≤ 6) (hw : w ≤ 16384) (hm : m ≤ 65535) :
    Calls Try.prog 28 #[.agg #[.int .i64 k, .int .i64 w, .int .i64 h, .int .i64 m, .int .i64 a, .int .i64 b, .int .i64 c]] W
      fun e w' => e = .returned (.int .i64 (rowV k w m)) ∧ W.grownBy w' none := by
  obtain ⟨r, hr⟩ : ∃ r, rowV k w m = r := ⟨_, rfl⟩
  rw [hr]
  have hc : (k = 4 ∧ 0 < w % 8 ∧ r = w / 8 + 1) ∨ (k = 4 ∧ w % 8 = 0 ∧ r = w / 8) ∨ (k = 5 ∧ 255 < m ∧ r = 2 * w) ∨ (k = 5 ∧ m ≤ 255 ∧ r = w) ∨ (k = 6 ∧ 255 < m ∧ r = 2 * (3 * w)) ∨ (k = 6 ∧ m ≤ 255 ∧ r = 3 * w) := by
    rw [← hr]
    unfold rowV
    obtain rfl | rfl | rfl : k = 4 ∨ k = 5 ∨ k = 6 := by omega
    · rw [if_pos rfl]
      omega
    all_goals
      by_cases h : 255 < m
      · rw [if_neg (by decide), if_pos h]
        simp
        omega
      · rw [if_neg (by decide), if_neg h]
        simp
        omega
  clear hr hk
  rcases hc with ⟨rfl, h1, rfl⟩ | ⟨rfl, h1, rfl⟩ | ⟨rfl, h1, rfl⟩ | ⟨rfl, h1, rfl⟩ | ⟨rfl, h1, rfl⟩ | ⟨rfl, h1, rfl⟩
  all_goals
    go_enter Try.func28, Try.ntmps28
    go_wp2
    go_ret
    exact ⟨by go_num, by repeat' first | exact World.grownBy_alloc _ _ _ | exact gb_drew _ _⟩

end Go.Proofs.Ytckkkdiekamiaaa.Tk
