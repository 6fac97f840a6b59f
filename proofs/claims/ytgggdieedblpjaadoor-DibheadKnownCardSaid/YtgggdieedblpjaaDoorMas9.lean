/- Layer 9: the code's count and Find, walked. -/
import Derived.Test.YtgggdieedblpjaaDoorMas8
import Derived.Test.YtgggdieedblpjaaDoorMas4
namespace Go.Proofs.YtgggdieedblpjaaDoor.Ma
open Go.ChangeShapes Go.WideShapes Go.ChangeAt Go.RowKit
open Go.Proofs.YtgggdieedblpjaaDoor.Le Go.Proofs.YtgggdieedblpjaaDoor.Sc
set_option linter.unusedVariables false

/-- Of bits side by side the library counts as the document. -/
theorem blk_counts : ∀ s : Fin 32, ∀ n : Fin 33, 1 ≤ n.val → s.val + n.val ≤ 32 → Lib.ctz 32 (blk s.val n.val) = s.val ∧ popN (blk s.val n.val) = n.val := by decide +kernel
theorem ctz_blk {s n : Nat} (h1 : 1 ≤ n) (h : s + n ≤ 32) : Lib.ctz 32 (blk s n) = s ∧ popN (blk s n) = n := blk_counts ⟨s, by omega⟩ ⟨n, by omega⟩ h1 h

/-- Is a word one run, or none? The mask of the place that is counted tells it. -/
theorem word_run {w W : Nat} (hW : W ≤ 32) (h0 : w ≠ 0) (h : w < 2 ^ W) (hr : runs w W ≤ 1) : wordV (Lib.ctz 32 w) (popN w) = w ∧ Lib.ctz 32 w = frm w W ∧ popN w = cnt w W := by
  rcases one_run h hr with ⟨a, _, _⟩ | ⟨a, b, c⟩
  · exact absurd a h0
  · obtain ⟨e1, e2⟩ := ctz_blk a (by omega : frm w W + cnt w W ≤ 32)
    rw [← c] at e1 e2
    refine ⟨?_, e1, e2⟩
    unfold wordV
    rw [e1, e2, if_pos ⟨a, by omega⟩, ← c]
theorem word_gap {w W : Nat} (h0 : w ≠ 0) (hr : 1 < runs w W) : wordV (Lib.ctz 32 w) (popN w) ≠ w := by
  intro h
  unfold wordV at h
  by_cases hc : 1 ≤ popN w ∧ Lib.ctz 32 w + popN w ≤ 32
  · rw [if_pos hc] at h
    obtain ⟨a, _, _⟩ := run_blk (Lib.ctz 32 w) (popN w) hc.1 W
    rw [h] at a
    split at a <;> omega
  · rw [if_neg hc] at h
    omega

set_option maxRecDepth 100000 in
theorem count_zero (w : World) : Calls Tryd.prog 70 #[.int .u32 0] w fun e w' => e = .returned (.agg #[.int .i64 0, .int .i64 0]) ∧ w.grownBy w' none := by
  go_enter Tryd.func70, Tryd.ntmps70
  go_wp2
  refine bodyPost_ret (v := .agg #[.int .i64 0, .int .i64 0]) (by simp [results, Tryd.results70, go_sem]) rfl ⟨rfl, ?_⟩
  first
    | exact World.grownBy_alloc _ _ _
    | exact gb_own (gb_own (World.grownBy_alloc _ _ _) (Nat.le_refl _) (gb_set _ _ _ _)) (Nat.le_refl _) (gb_set _ _ _ _)

set_option maxRecDepth 100000 in
theorem count_calls' (x : Nat) (w : World) (hx : x < 4294967296) (hx0 : x ≠ 0) (hT : Tab w) (hlt : 0 < w.heap.size) :
    Calls Tryd.prog 70 #[.int .u32 x] w fun e w' => e = .returned (.agg #[.int .i64 (Lib.ctz 32 x : Nat), .int .i64 (popN x : Nat)]) ∧ w.grownBy w' none := by
  have T := fun u (h : Tab u) => tz_calls x u hx hx0 h
  have C := fun u => ones_count x u hx
  obtain ⟨z, hz⟩ : ∃ z, Lib.ctz 32 x = z := ⟨_, rfl⟩
  obtain ⟨p, hp⟩ : ∃ p, popN x = p := ⟨_, rfl⟩
  simp only [hz] at T ⊢
  simp only [hp] at C ⊢
  have T' := Lib.hid T
  have C' := Lib.hid C
  have HT := Lib.hid hT
  have hxx : ((x : Int) == 0) = false := by rw [beq_eq_false_iff_ne]; omega
  clear T C hz hp hT
  go_enter Tryd.func70, Tryd.ntmps70
  go_wp2_with fail
  have hR : (w.alloc (.cells #[.int .i64 0, .int .i64 0] 27)).heap[w.heap.size]? = some (.cells #[.int .i64 0, .int .i64 0] 27 (0, 0)) := blk_at
  have hG := World.grownBy_alloc w (.cells #[.int .i64 0, .int .i64 0] 27) none
  generalize w.alloc (.cells #[.int .i64 0, .int .i64 0] 27) = w1 at hR hG ⊢
  have HR := Lib.hid hR
  have HG := Lib.hid hG
  have HT1 := Lib.hid (HT.out.grown hlt hG)
  clear hR hG
  refine (T'.out _ HT1.out).mono ?_
  rintro e w' ⟨rfl, rfl⟩
  go_wp2_with fail
  refine (C'.out _).mono ?_
  rintro e w2 ⟨rfl, g2⟩
  have R2 := (g2.block _ (blk_lt HR.out) (by simp)).trans HR.out
  have q0 : w2.cell? ⟨w.heap.size, 0, none⟩ = some (.int .i64 0) := blk_cell R2 0
  have q1 : w2.cell? ⟨w.heap.size, 1, none⟩ = some (.int .i64 0) := blk_cell R2 1
  have f0 := blk_free R2 0
  have f1 := blk_free R2 1
  have G2 := Lib.hid (gb_trans HG.out g2)
  clear g2 R2
  go_wp2
  refine bodyPost_ret (v := .agg #[.int .i64 z, .int .i64 p]) (by simp [results, Tryd.results70, go_sem, q0, q1]) rfl ⟨rfl, ?_⟩
  exact gb_own (gb_own G2.out (Nat.le_refl _) (gb_set _ _ _ _)) (Nat.le_refl _) (gb_set _ _ _ _)

end Go.Proofs.YtgggdieedblpjaaDoor.Ma
