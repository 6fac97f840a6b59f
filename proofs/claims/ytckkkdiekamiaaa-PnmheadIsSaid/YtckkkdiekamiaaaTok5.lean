/- Layer 11: the document's Digit, walked. -/
import Derived.Test.YtckkkdiekamiaaaTok4
namespace Go.Proofs.Ytckkkdiekamiaaa.Tk
open Go.ChangeShapes Go.WideShapes Go.ChangeAt Go.RowKit
open Go.Proofs.Ytckkkdiekamiaaa.Le
set_option linter.unusedVariables false

set_option maxRecDepth 100000 in
set_option maxHeartbeats 1000000 in
theorem rdigit_calls (s : ByteArray) (k : Nat) (W : World) (hs : s.size ≤ 9223372036854775806) (hk : k ≤ s.size) :
    Calls Try.prog 15 #[.string s, .int .i64 k] W fun e w' => e = .returned (gotA (digV s k)) ∧ W.grownBy w' none := by
  have KO := Lib.hid (fun u => rover_calls s k u hs hk)
  obtain ⟨f, hf⟩ : ∃ f, overV s k = f := ⟨_, rfl⟩
  have hfs := overV_le s _ k rfl hk
  rw [hf] at hfs
  simp only [hf] at KO
  have hR : digV s k = if s.size ≤ f then ⟨0, 0, 0, 1, s.size⟩ else if bt s f = 48 ∨ bt s f = 49 then ⟨bt s f - 48, f, f + 1, 0, 0⟩ else ⟨0, 0, 0, 2, f⟩ := by
    unfold digV
    rw [hf]
  clear hf
  obtain ⟨R, hr⟩ : ∃ R, digV s k = R := ⟨_, rfl⟩
  rw [hr] at hR ⊢
  clear hr
  have HRR := Lib.hid hR
  clear hR
  go_enter Try.func15, Try.ntmps15
  go_wp2_with fail
  refine (KO.out _).mono ?_
  rintro e w' ⟨rfl, rfl⟩
  have hR : (W.alloc (.cells #[.int .i64 0, .int .i64 0, .int .i64 0, .int .i64 0, .int .i64 0] 30)).heap[W.heap.size]? = some (.cells #[.int .i64 0, .int .i64 0, .int .i64 0, .int .i64 0, .int .i64 0] 30 (0, 0)) := blk_at
  have hG := World.grownBy_alloc W (.cells #[.int .i64 0, .int .i64 0, .int .i64 0, .int .i64 0, .int .i64 0] 30) none
  generalize W.alloc (.cells #[.int .i64 0, .int .i64 0, .int .i64 0, .int .i64 0, .int .i64 0] 30) = w1 at hR hG ⊢
  have q0 : w1.cell? ⟨W.heap.size, 0, none⟩ = some (.int .i64 0) := blk_cell hR 0
  have q1 : w1.cell? ⟨W.heap.size, 1, none⟩ = some (.int .i64 0) := blk_cell hR 1
  have q2 : w1.cell? ⟨W.heap.size, 2, none⟩ = some (.int .i64 0) := blk_cell hR 2
  have q3 : w1.cell? ⟨W.heap.size, 3, none⟩ = some (.int .i64 0) := blk_cell hR 3
  have q4 : w1.cell? ⟨W.heap.size, 4, none⟩ = some (.int .i64 0) := blk_cell hR 4
  have f0 := blk_free hR 0
  have f1 := blk_free hR 1
  have f2 := blk_free hR 2
  have f3 := blk_free hR 3
  have f4 := blk_free hR 4
  have HG := Lib.hid hG
  clear hR hG
  by_cases hz : s.size ≤ f
  · have hg := HRR.out
    rw [if_pos hz] at hg
    subst hg
    clear HRR
    have d1 : decide ((s.size : Int) ≤ (f : Int)) = true := decide_eq_true (by omega)
    go_wp2
    refine bodyPost_ret (v := gotA ⟨0, 0, 0, 1, s.size⟩) (by simp only [results, Try.results15, gotA]; go_simp) rfl ⟨rfl, ?_⟩
    exact gb_own (gb_own (gb_own (gb_own (gb_own HG.out (Nat.le_refl _) (gb_set _ _ _ _)) (Nat.le_refl _) (gb_set _ _ _ _)) (Nat.le_refl _) (gb_set _ _ _ _)) (Nat.le_refl _) (gb_set _ _ _ _)) (Nat.le_refl _) (gb_set _ _ _ _)
  · have d1 : decide ((s.size : Int) ≤ (f : Int)) = false := decide_eq_false (by omega)
    have hfl : f < s.size := by omega
    have hg := HRR.out
    rw [if_neg hz] at hg
    clear HRR
    obtain ⟨c, hc⟩ : ∃ c, bt s f = c := ⟨_, rfl⟩
    have hcell := bt_cell s f hfl hc
    have cl : c < 256 := by rw [← hc]; exact bt_lt s f
    rw [hc] at hg
    clear hc
    by_cases h1 : c = 48 ∨ c = 49
    · rw [if_pos h1] at hg
      subst hg
      rcases h1 with rfl | rfl
      all_goals
        go_wp2
        refine bodyPost_ret (v := gotA ⟨_, f, f + 1, 0, 0⟩) (by simp only [results, Try.results15, gotA]; go_simp) rfl ⟨rfl, ?_⟩
        exact gb_own (gb_own (gb_own (gb_own (gb_own HG.out (Nat.le_refl _) (gb_set _ _ _ _)) (Nat.le_refl _) (gb_set _ _ _ _)) (Nat.le_refl _) (gb_set _ _ _ _)) (Nat.le_refl _) (gb_set _ _ _ _)) (Nat.le_refl _) (gb_set _ _ _ _)
    · rw [if_neg h1] at hg
      subst hg
      have d2 : ((c : Int) == 48) = false := by rw [beq_eq_false_iff_ne]; omega
      have d3 : ((c : Int) == 49) = false := by rw [beq_eq_false_iff_ne]; omega
      have d2' : ((c : Int) != 48) = true := by rw [bne_iff_ne]; omega
      have d3' : ((c : Int) != 49) = true := by rw [bne_iff_ne]; omega
      clear h1
      go_wp2
      refine bodyPost_ret (v := gotA ⟨0, 0, 0, 2, f⟩) (by simp only [results, Try.results15, gotA]; go_simp) rfl ⟨rfl, ?_⟩
      exact gb_own (gb_own (gb_own (gb_own (gb_own HG.out (Nat.le_refl _) (gb_set _ _ _ _)) (Nat.le_refl _) (gb_set _ _ _ _)) (Nat.le_refl _) (gb_set _ _ _ _)) (Nat.le_refl _) (gb_set _ _ _ _)) (Nat.le_refl _) (gb_set _ _ _ _)

end Go.Proofs.Ytckkkdiekamiaaa.Tk
