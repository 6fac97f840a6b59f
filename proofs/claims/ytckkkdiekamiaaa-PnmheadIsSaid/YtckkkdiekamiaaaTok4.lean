/- Layer 11: the document's Number and Digit, walked. -/
import Derived.Test.YtckkkdiekamiaaaTok3
namespace Go.Proofs.Ytckkkdiekamiaaa.Tk
open Go.ChangeShapes Go.WideShapes Go.ChangeAt Go.RowKit
open Go.Proofs.Ytckkkdiekamiaaa.Le
set_option linter.unusedVariables false

/-- What the document says, as a value. -/
def gotA (g : Got) : Value := .agg #[.int .i64 g.v, .int .i64 g.from_, .int .i64 g.next, .int .i64 g.kind, .int .i64 g.place]
def zero5 : Array Value := #[.int .i64 0, .int .i64 0, .int .i64 0, .int .i64 0, .int .i64 0]

theorem gotV_none {s : ByteArray} {k f : Nat} (hf : overV s k = f) (h : s.size ≤ f) : gotV s k = ⟨0, 0, 0, 1, s.size⟩ := by
  unfold gotV
  rw [hf, if_pos h]
theorem gotV_bad {s : ByteArray} {k f v : Nat} (hf : overV s k = f) (h : ¬ s.size ≤ f) (h1 : numV s f 0 = (v, f)) : gotV s k = ⟨0, 0, 0, 2, f⟩ := by
  unfold gotV
  rw [hf, if_neg h, h1, if_pos rfl]
theorem gotV_yes {s : ByteArray} {k f v j : Nat} (hf : overV s k = f) (h : ¬ s.size ≤ f) (h1 : numV s f 0 = (v, j)) (h2 : j ≠ f) : gotV s k = ⟨v, f, j, 0, 0⟩ := by
  unfold gotV
  rw [hf, if_neg h, h1, if_neg h2]

set_option maxRecDepth 100000 in
set_option maxHeartbeats 1000000 in
theorem rnumber_calls (s : ByteArray) (k : Nat) (W : World) (hs : s.size ≤ 9223372036854775806) (hk : k ≤ s.size) :
    Calls Try.prog 12 #[.string s, .int .i64 k] W fun e w' => e = .returned (gotA (gotV s k)) ∧ W.grownBy w' none := by
  have KO := Lib.hid (fun u => rover_calls s k u hs hk)
  obtain ⟨f, hf⟩ : ∃ f, overV s k = f := ⟨_, rfl⟩
  have hfs := overV_le s _ k rfl hk
  rw [hf] at hfs
  simp only [hf] at KO
  have HF := Lib.hid hf
  clear hf
  obtain ⟨R, hr⟩ : ∃ R, gotV s k = R := ⟨_, rfl⟩
  rw [hr]
  have HRR := Lib.hid hr
  clear hr
  go_enter Try.func12, Try.ntmps12
  go_wp2_with fail
  refine (KO.out _).mono ?_
  rintro e w' ⟨rfl, rfl⟩
  have hR : (W.alloc (.cells #[.int .i64 0, .int .i64 0, .int .i64 0, .int .i64 0, .int .i64 0] 30)).heap[W.heap.size]? = some (.cells #[.int .i64 0, .int .i64 0, .int .i64 0, .int .i64 0, .int .i64 0] 30 (0, 0)) := blk_at
  have hG := World.grownBy_alloc W (.cells #[.int .i64 0, .int .i64 0, .int .i64 0, .int .i64 0, .int .i64 0] 30) none
  generalize W.alloc (.cells #[.int .i64 0, .int .i64 0, .int .i64 0, .int .i64 0, .int .i64 0] 30) = w1 at hR hG ⊢
  have q0 : w1.cell? ⟨W.heap.size, 0, none⟩ = some (.int .i64 0) := blk_cell hR 0
  have q1 : w1.cell? ⟨W.heap.size, 1, none⟩ = some (.int .i64 0) := blk_cell hR 1
  have q2 : w1.cell? ⟨W.heap.size, 2, none⟩ = some (.int .i64 0) := blk_cell hR 2
  have q3 : w1.cell? ⟨W.heap.size, 3, none⟩ = some (.int .i64 0) := blk_cell hR 3
  have q4 : w1.cell? ⟨W.heap.size, 4, none⟩ = some (.int .i64 0) := blk_cell hR 4
  have f0 := blk_free hR 0
  have f1 := blk_free hR 1
  have f2 := blk_free hR 2
  have f3 := blk_free hR 3
  have f4 := blk_free hR 4
  have HG := Lib.hid hG
  clear hR hG
  by_cases hz : s.size ≤ f
  · have hg := HRR.out.symm.trans (gotV_none HF.out hz)
    subst hg
    clear HRR
    have d1 : decide ((s.size : Int) ≤ (f : Int)) = true := decide_eq_true (by omega)
    go_wp2
    refine bodyPost_ret (v := gotA ⟨0, 0, 0, 1, s.size⟩) (by simp only [results, Try.results12, gotA]; go_simp) rfl ⟨rfl, ?_⟩
    exact gb_own (gb_own (gb_own (gb_own (gb_own HG.out (Nat.le_refl _) (gb_set _ _ _ _)) (Nat.le_refl _) (gb_set _ _ _ _)) (Nat.le_refl _) (gb_set _ _ _ _)) (Nat.le_refl _) (gb_set _ _ _ _)) (Nat.le_refl _) (gb_set _ _ _ _)
  · have d1 : decide ((s.size : Int) ≤ (f : Int)) = false := decide_eq_false (by omega)
    go_wp2_with fail
    go_loopg [6, 7] (s.size - f) (fun q iv vv wr => ∃ j v : Nat, f ≤ j ∧ j ≤ s.size ∧ v ≤ 1000000000 ∧ q = s.size - j ∧ iv = .int .i64 j ∧ vv = .int .i64 v ∧ numV s f 0 = numV s j v ∧ wr = w1)
    case atStart => exact ⟨f, 0, Nat.le_refl _, hfs, by omega, rfl, rfl, rfl, rfl, rfl⟩
    case round =>
      obtain ⟨j, v, hfj, hj, hv, rfl, rfl, rfl, J, rfl⟩ := hrel
      have HJ := Lib.hid J
      clear J d1
      by_cases hd : j < s.size ∧ 48 ≤ bt s j ∧ bt s j ≤ 57
      · have hon := numV_on (v := v) hd.1 hd.2.1 hd.2.2
        obtain ⟨hjs, hb1, hb2⟩ := hd
        obtain ⟨c, hc⟩ : ∃ c, bt s j = c := ⟨_, rfl⟩
        have hcell := bt_cell s j hjs hc
        rw [hc] at hb1 hb2 hon
        clear hc
        have d2 : decide ((48 : Int) ≤ c) = true := decide_eq_true (by omega)
        have d3 : decide ((c : Int) ≤ 57) = true := decide_eq_true (by omega)
        obtain ⟨n, hn⟩ : ∃ n : Nat, 10 * v + c = n + 48 := ⟨10 * v + c - 48, by omega⟩
        rw [show 10 * v + c - 48 = n from by omega] at hon
        have hni : (10 * (v : Int) + (c : Int) - 48) = n := by omega
        have HON := Lib.hid (HJ.out.trans hon)
        clear hon
        by_cases hcap : 999999999 < n
        · have d4 : decide ((999999999 : Int) < n) = true := decide_eq_true (by omega)
          have ecap : capN n = 1000000000 := if_pos hcap
          have HON2 := Lib.hid (by have := HON.out; rw [ecap] at this; exact this)
          clear ecap
          go_wp2
          go_roundg (s.size - (j + 1))
          case measure => omega
          case rel => exact ⟨j + 1, 1000000000, by omega, by omega, by omega, rfl, by go_num, by go_num, HON2.out, rfl⟩
        · have d4 : decide ((999999999 : Int) < n) = false := decide_eq_false (by omega)
          have ecap : capN n = n := if_neg hcap
          have HON2 := Lib.hid (by have := HON.out; rw [ecap] at this; exact this)
          clear ecap
          go_wp2
          go_roundg (s.size - (j + 1))
          case measure => omega
          case rel => exact ⟨j + 1, n, by omega, by omega, by omega, rfl, by go_num, by go_num, HON2.out, rfl⟩
      · have hst := HJ.out.trans (numV_stop hd)
        have hex : (¬ j < s.size) ∨ (∃ (h : j < s.size) (c : Nat), ((s[j]'h).toNat : Int) = c ∧ c < 256 ∧ decide ((48 : Int) ≤ c) = false) ∨ (∃ (h : j < s.size) (c : Nat), ((s[j]'h).toNat : Int) = c ∧ c < 256 ∧ decide ((48 : Int) ≤ c) = true ∧ decide ((c : Int) ≤ 57) = false) := by
          by_cases h : j < s.size
          · by_cases h1 : 48 ≤ bt s j
            · exact .inr (.inr ⟨h, bt s j, bt_cell s j h rfl, bt_lt s j, decide_eq_true (by omega), decide_eq_false (by omega)⟩)
            · exact .inr (.inl ⟨h, bt s j, bt_cell s j h rfl, bt_lt s j, decide_eq_false (by omega)⟩)
          · exact .inl h
        have HST := Lib.hid hst
        clear hst hd HJ
        by_cases hjf : j = f
        · have hg : R = ⟨0, 0, 0, 2, f⟩ := HRR.out.symm.trans (gotV_bad (v := v) HF.out hz (by have := HST.out; rw [hjf] at this; exact this))
          subst hg
          clear HST HRR
          subst hjf
          rcases hex with hex | ⟨hjs, c, hcell, cl, d2⟩ | ⟨hjs, c, hcell, cl, d2, d3⟩
          · omega
          all_goals
            go_wp2
            refine bodyPost_ret (v := gotA ⟨0, 0, 0, 2, j⟩) (by simp only [results, Try.results12, gotA]; go_simp) rfl ⟨rfl, ?_⟩
            exact gb_own (gb_own (gb_own (gb_own (gb_own HG.out (Nat.le_refl _) (gb_set _ _ _ _)) (Nat.le_refl _) (gb_set _ _ _ _)) (Nat.le_refl _) (gb_set _ _ _ _)) (Nat.le_refl _) (gb_set _ _ _ _)) (Nat.le_refl _) (gb_set _ _ _ _)
        · have hg := HRR.out.symm.trans (gotV_yes HF.out hz HST.out hjf)
          subst hg
          clear HST HRR
          have d5 : ((j : Int) == (f : Int)) = false := by rw [beq_eq_false_iff_ne]; omega
          rcases hex with hex | ⟨hjs, c, hcell, cl, d2⟩ | ⟨hjs, c, hcell, cl, d2, d3⟩
          all_goals
            go_wp2
            refine bodyPost_ret (v := gotA ⟨v, f, j, 0, 0⟩) (by simp only [results, Try.results12, gotA]; go_simp) rfl ⟨rfl, ?_⟩
            exact gb_own (gb_own (gb_own (gb_own (gb_own HG.out (Nat.le_refl _) (gb_set _ _ _ _)) (Nat.le_refl _) (gb_set _ _ _ _)) (Nat.le_refl _) (gb_set _ _ _ _)) (Nat.le_refl _) (gb_set _ _ _ _)) (Nat.le_refl _) (gb_set _ _ _ _)

end Go.Proofs.Ytckkkdiekamiaaa.Tk
